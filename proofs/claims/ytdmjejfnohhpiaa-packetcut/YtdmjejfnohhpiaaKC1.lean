/- A beginning of a packet, plain. -/
import Derived.Test.YtdmjejfnohhpiaaK8
namespace Go.Proofs.Ytdmjejfnohhpiaa
open Go.RowKit
set_option linter.unusedVariables false
set_option maxRecDepth 100000

/-- What is read of the first k bytes: the same, or the bytes end. -/
def CutR {α : Type} (k : Nat) (r r' : α × St) : Prop := (r.2.1 ≤ k ∧ r' = r) ∨ r'.2.2 = 50
def CutS (k : Nat) (s s' : St) : Prop := (s.1 ≤ k ∧ s' = s) ∨ s'.2 = 50

theorem take_len {l : List Int} {k : Nat} (hk : k ≤ l.length) : (l.take k).length = k := by simp; omega
theorem take_sub {l : List Int} {k a n : Nat} (h : a + n ≤ k) : ((l.take k).drop a).take n = (l.drop a).take n := by
  rw [List.drop_take, List.take_take, Nat.min_eq_left (by omega)]

theorem plain_cut {l : List Int} {k : Nat} (hk : k ≤ l.length) {s s' : St} (n : Nat) (hn : n ≤ 8) (hs : s.1 ≤ l.length) (h : (rPlain l s n).2.2 = 0) (c : CutS k s s') : CutR k (rPlain l s n) (rPlain (l.take k) s' n) := by
  rcases c with ⟨c1, rfl⟩ | c
  · obtain ⟨h1, h2, h3⟩ := rPlain_in l s' n hn h hs
    by_cases d : s'.1 + n ≤ k
    · left
      rw [h3]
      refine ⟨d, ?_⟩
      unfold rPlain rRead
      rw [if_pos h1, readF_in (l.take k) s'.1 n hn (by rw [take_len hk]; exact d), take_sub d]
      simp
      omega
    · right
      unfold rPlain rRead
      rw [if_pos h1, readF_short (l.take k) s'.1 n (by rw [take_len hk]; omega) (by rw [take_len hk]; omega)]
      simp
  · right
    unfold rPlain
    rw [rRead_no (by rw [c]; decide)]
    exact c
theorem sized_cut {l : List Int} {k : Nat} (hk : k ≤ l.length) {s s' : St} (h : (rSized l s).2.2 = 0) (c : CutS k s s') : CutR k (rSized l s) (rSized (l.take k) s') := by
  rcases c with ⟨c1, rfl⟩ | c
  · have h1 : s'.2 = 0 := (rSized_on l s' h).1
    unfold rSized rRead at h ⊢
    rw [if_pos h1] at h ⊢
    rw [if_pos h1]
    rcases getF_cases l s'.1 with ⟨e, he, hg⟩ | ⟨a, ha, ha1, ha2, hg⟩
    · rw [hg] at h
      rcases he with rfl | rfl <;> simp at h
    · have : a = s'.1 := by omega
      subst this
      by_cases d : s'.1 + sz (l.getD s'.1 0) ≤ k
      · have hz : 1 ≤ sz (l.getD s'.1 0) := by have := sz_size (l.getD s'.1 0); omega
        have eg : (l.take k).getD s'.1 0 = l.getD s'.1 0 := by
          simp only [List.getD]
          rw [List.getElem?_take, if_pos (by omega)]
        left
        rw [hg]
        refine ⟨?_, ?_⟩
        · show ((s'.1 : Int) + (sz (l.getD s'.1 0) : Int)).toNat ≤ k
          omega
        · rw [getF_in (l.take k) s'.1 (sz (l.getD s'.1 0)) (l.getD s'.1 0) eg rfl (by rw [take_len hk]; exact d) (by rw [take_len hk]; omega), take_sub (by omega)]
      · right
        by_cases e : s'.1 = k
        · have := getF_end (l.take k)
          rw [take_len hk] at this
          rw [e, this]
          simp
        · have eg : (l.take k).getD s'.1 0 = l.getD s'.1 0 := by
            simp only [List.getD]
            rw [List.getElem?_take, if_pos (by omega)]
          rw [getF_short (l.take k) s'.1 (sz (l.getD s'.1 0)) (l.getD s'.1 0) eg rfl (by rw [take_len hk]; exact d) (by rw [take_len hk]; omega)]
          simp
  · right
    unfold rSized
    rw [rRead_no (by rw [c]; decide)]
    exact c
theorem pass_cut {l : List Int} {k : Nat} (hk : k ≤ l.length) {s s' : St} (n : Int) (h : (rPass l s n).2 = 0) (c : CutS k s s') : CutS k (rPass l s n) (rPass (l.take k) s' n) := by
  rcases c with ⟨c1, rfl⟩ | c
  · obtain ⟨h1, h2, h3⟩ := rPass_in l s' n h
    by_cases d : n ≤ (k : Int) - s'.1
    · left
      rw [h3]
      refine ⟨by simp only; omega, ?_⟩
      unfold rPass
      rw [if_pos h1, take_len hk, if_pos d]
    · right
      unfold rPass
      rw [if_pos h1, take_len hk, if_neg d]
  · right
    rw [rPass_no (by rw [c]; decide)]
    exact c
theorem bytes_cut {l : List Int} {k : Nat} (hk : k ≤ l.length) {s s' : St} (n : Int) (h : (rBytes l s n).2.2 = 0) (c : CutS k s s') : CutR k (rBytes l s n) (rBytes (l.take k) s' n) := by
  rcases pass_cut hk n h c with ⟨d, e⟩ | d
  · rcases c with ⟨c1, rfl⟩ | c
    · left
      refine ⟨d, ?_⟩
      unfold rBytes
      rw [e]
      have := rPass_ge l s' n
      rw [take_sub (by omega)]
    · exfalso
      rw [rPass_no (by rw [c]; decide)] at e
      have h' : (rPass l s n).2 = 0 := h
      rw [← e, c] at h'
      cases h'
  · exact .inr d
theorem must_cut {k : Nat} {s s' : St} (b b' : Bool) {y : Int} (hy : y ≠ 0) (h : (rMust s b y).2 = 0) (c : CutS k s s') (hb : s' = s → b' = b) : CutS k (rMust s b y) (rMust s' b' y) := by
  have := rMust_b hy h
  subst this
  rw [rMust_yes]
  rcases c with ⟨c1, c2⟩ | c
  · rw [hb c2, rMust_yes]; exact .inl ⟨c1, c2⟩
  · right
    rw [rMust_no (by rw [c]; decide)]
    exact c
theorem CutR.st {α : Type} {k : Nat} {r r' : α × St} (h : CutR k r r') : CutS k r.2 r'.2 := by
  rcases h with ⟨h1, h2⟩ | h
  · exact .inl ⟨h1, by rw [h2]⟩
  · exact .inr h
theorem CutR.eq {α : Type} {k : Nat} {r r' : α × St} (h : CutR k r r') (hr : r.2.2 = 0) (e : r'.2 = r.2) : r' = r := by
  rcases h with ⟨h1, h2⟩ | h
  · exact h2
  · rw [e, hr] at h; cases h
theorem id_cut {l : List Int} {k : Nat} (hk : k ≤ l.length) {s s' : St} (hs : s.1 ≤ l.length) (h : (rId l s).2.2 = 0) (c : CutS k s s') : CutR k (rId l s) (rId (l.take k) s') := by
  have o3 := rBytes_on l (rMust (rPlain l s 1).2 (decide ((rPlain l s 1).1 ≤ 20)) 54) (rPlain l s 1).1
  have hm := (o3 h).1
  have o2 := rMust_on l (rPlain l s 1).2 (decide ((rPlain l s 1).1 ≤ 20)) (y := 54) (by decide)
  have hp := (o2 hm).1
  have c1 : CutR k (rPlain l s 1) (rPlain (l.take k) s' 1) := plain_cut hk 1 (by decide) hs hp c
  have c2 := must_cut (decide ((rPlain l s 1).1 ≤ 20)) (decide ((rPlain (l.take k) s' 1).1 ≤ 20)) (by decide) hm c1.st (fun e => by rw [c1.eq hp e])
  have c3 := bytes_cut hk (rPlain l s 1).1 h c2
  rcases c1 with ⟨d1, d2⟩ | d
  · unfold rId
    rw [d2] at c3 ⊢
    exact c3
  · right
    have hd : (rPlain (l.take k) s' 1).2.2 ≠ 0 := by rw [d]; decide
    unfold rId
    rw [rMust_no hd, rBytes_no hd]
    exact d

theorem long_cut {l : List Int} {k : Nat} (hk : k ≤ l.length) (G : Lg) (hG : okG G) (hb : ∀ x ∈ l, IsB x) (s : St) (hs : s.1 ≤ k) (x : Int) (h : (longR l G s x).2.2 = 0) (he : k < (longR l G s x).2.1) : (longR (l.take k) G s x).2.2 = 50 := by
  have hw := widF_in x
  have ob := rBytes_on l (sLa l G s x).2 (IntKind.u64.wrap ((sL8 l s x).1 - widF x))
  have h' : (sLb l G s x).2.2 = 0 := h
  have ha := (ob h').1
  have hs' : s.1 ≤ l.length := by omega
  have o1 : On l s (sL1 s x) := rMust_on l s _ (by decide)
  have p1 : (sL1 s x).1 ≤ l.length := by unfold sL1; rw [rMust_fst]; exact hs'
  have o2 : On l (sL1 s x) (sL2 l s x).2 := rPlain_on l _ 4 (by decide) p1
  have o3 : On l (sL2 l s x).2 (sL3 l s x) := rMust_on l _ _ (by decide)
  have o4 : On l (sL3 l s x) (sL4 l s x) := rMust_on l _ _ (by decide)
  have o8 : On l (sL7 l s x) (sL8 l s x).2 := rSized_on l _
  have o9 : On l (sL8 l s x).2 (sL9 l s x) := rMust_on l _ _ (by decide)
  have o7 : On l (sL6 l s x).2 (sL7 l s x) := by
    unfold sL7 sT
    split
    · exact (rSized_on l _).trans (rPass_on l _ _)
    · exact fun h => ⟨h, Nat.le_refl _, id⟩
  have q9 : (sL9 l s x).2 = 0 := by
    have : (rPlain l (sL9 l s x) (widF x)).2.2 = 0 := ha
    unfold rPlain rRead at this
    split at this
    · assumption
    · exact this
  have q8 : (sL8 l s x).2.2 = 0 := (o9 q9).1
  have q7 : (sL7 l s x).2 = 0 := (o8 q8).1
  have q6 : (sL6 l s x).2.2 = 0 := (o7 q7).1
  have q5 : (sL5 l s x).2.2 = 0 := by
    by_cases c : (sL5 l s x).2.2 = 0
    · exact c
    · have e : sL6 l s x = ([], (sL5 l s x).2) := rId_no c
      rw [e] at q6; exact q6
  have q4 : (sL4 l s x).2 = 0 := by
    by_cases c : (sL4 l s x).2 = 0
    · exact c
    · have e : sL5 l s x = ([], sL4 l s x) := rId_no c
      rw [e] at q5; exact q5
  have q3 := (o4 q4).1
  have q2 := (o3 q3).1
  have q1 := (o2 q2).1
  have p4 := (((o1.trans o2).trans o3).trans o4 q4).2.2 hs'
  obtain ⟨⟨-, -, y3⟩, -⟩ := rId_in l (sL4 l s x) p4 hb q5
  obtain ⟨⟨-, -, x3⟩, -⟩ := rId_in l (sL5 l s x).2 y3 hb q6
  have p9 := ((o7.trans o8).trans o9 q9).2.2 x3
  -- the same on the first k bytes
  have c1 : CutS k (sL1 s x) (sL1 s x) := .inl ⟨by unfold sL1; rw [rMust_fst]; exact hs, rfl⟩
  have c2 : CutR k (sL2 l s x) (sL2 (l.take k) s x) := plain_cut hk 4 (by decide) p1 q2 c1
  have c3 : CutS k (sL3 l s x) (sL3 (l.take k) s x) := must_cut _ _ (by decide) q3 c2.st (fun e => by rw [c2.eq q2 e])
  have c4 : CutS k (sL4 l s x) (sL4 (l.take k) s x) := must_cut _ _ (by decide) q4 c3 (fun _ => rfl)
  have c5 : CutR k (sL5 l s x) (sL5 (l.take k) s x) := id_cut hk p4 q5 c4
  have c6 : CutR k (sL6 l s x) (sL6 (l.take k) s x) := id_cut hk y3 q6 c5.st
  have c7 : CutS k (sL7 l s x) (sL7 (l.take k) s x) := by
    unfold sL7 sT at q7 ⊢
    split at q7
    · rename_i e
      rw [if_pos e, if_pos e]
      have z1 := (rPass_on l _ _ q7).1
      have d1 := sized_cut hk z1 c6.st
      have d2 := pass_cut hk (rSized l (sL6 l s x).2).1 q7 d1.st
      rcases d1 with ⟨f1, f2⟩ | f
      · rw [f2] at d2 ⊢; exact d2
      · right; rw [rPass_no (by rw [f]; decide)]; exact f
    · rename_i e
      rw [if_neg e, if_neg e]
      exact c6.st
  have c8 : CutR k (sL8 l s x) (sL8 (l.take k) s x) := sized_cut hk q8 c7
  have c9 : CutS k (sL9 l s x) (sL9 (l.take k) s x) := must_cut _ _ (by decide) q9 c8.st (fun e => by rw [c8.eq q8 e])
  have ca : CutR k (sLa l G s x) (sLa (l.take k) G s x) := by
    obtain ⟨n, hn⟩ := Int.eq_ofNat_of_zero_le (show 0 ≤ widF x by omega)
    have hq : (rPlain l (sL9 l s x) (n : Int)).2.2 = 0 := by rw [← hn]; exact ha
    have := plain_cut hk n (by omega) p9 hq c9
    rw [← hn] at this
    unfold sLa rNum
    rcases this with ⟨f1, f2⟩ | f
    · exact .inl ⟨f1, by rw [f2]⟩
    · exact .inr f
  show (sLb (l.take k) G s x).2.2 = 50
  have cb := bytes_cut hk (IntKind.u64.wrap ((sL8 l s x).1 - widF x)) h' ca.st
  by_cases d : (sLa (l.take k) G s x).2.2 = 50
  · unfold sLb
    rw [rBytes_no (by rw [d]; decide)]
    exact d
  · -- all that is ahead was the same
    have e8 : sL8 (l.take k) s x = sL8 l s x := by
      rcases c8 with ⟨-, f⟩ | f
      · exact f
      · exfalso
        apply d
        have e9 : sL9 (l.take k) s x = (sL8 (l.take k) s x).2 := rMust_no (by rw [f]; decide)
        unfold sLa rNum rPlain
        rw [e9, rRead_no (by rw [f]; decide)]
        exact f
    unfold sLb
    rw [e8]
    rcases cb with ⟨f, -⟩ | f
    · have he' : k < (sLb l G s x).2.1 := he
      have f' : (sLb l G s x).2.1 ≤ k := f
      omega
    · exact f

theorem short_cut {l : List Int} {k : Nat} (hk : k ≤ l.length) (G : Lg) (hG : okG G) (hb : ∀ x ∈ l, IsB x) (s : St) (hs : s.1 ≤ k) (x idlen : Int) (h : (sS3 l G s x idlen).2.2 = 0) (he : k < (sS3 l G s x idlen).2.1) : (shortR (l.take k) G s x idlen).2.2 = 50 := by
  have hw := widF_in x
  have hs' : s.1 ≤ l.length := by omega
  have o1 : On l s (sS1 s x) := rMust_on l s _ (by decide)
  have o2 : On l (sS1 s x) (sS2 l s x idlen).2 := rBytes_on l _ _
  have q2 : (sS2 l s x idlen).2.2 = 0 := by
    have : (rPlain l (sS2 l s x idlen).2 (widF x)).2.2 = 0 := h
    unfold rPlain rRead at this
    split at this
    · assumption
    · exact this
  have p2 := ((o1.trans o2) q2).2.2 hs'
  have c1 : CutS k (sS1 s x) (sS1 s x) := .inl ⟨by unfold sS1; rw [rMust_fst]; exact hs, rfl⟩
  have c2 : CutR k (sS2 l s x idlen) (sS2 (l.take k) s x idlen) := bytes_cut hk idlen q2 c1
  have c3 : CutR k (sS3 l G s x idlen) (sS3 (l.take k) G s x idlen) := by
    obtain ⟨n, hn⟩ := Int.eq_ofNat_of_zero_le (show 0 ≤ widF x by omega)
    have hq : (rPlain l (sS2 l s x idlen).2 (n : Int)).2.2 = 0 := by rw [← hn]; exact h
    have := plain_cut hk n (by omega) p2 hq c2.st
    rw [← hn] at this
    unfold sS3 rNum
    rcases this with ⟨f1, f2⟩ | f
    · exact .inl ⟨f1, by rw [f2]⟩
    · exact .inr f
  rcases c3 with ⟨f, -⟩ | f
  · omega
  · show (sS4 (l.take k) G s x idlen).2.2 = 50
    unfold sS4
    rw [rBytes_no (by rw [f]; decide)]
    exact f

end Go.Proofs.Ytdmjejfnohhpiaa
