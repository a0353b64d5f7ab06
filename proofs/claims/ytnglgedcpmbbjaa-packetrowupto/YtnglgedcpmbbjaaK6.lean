/- What was read: plain. -/
import Derived.Test.YtnglgedcpmbbjaaK5
namespace Go.Proofs.Ytnglgedcpmbbjaa
open Go.RowKit
set_option linter.unusedVariables false
set_option maxRecDepth 100000

/-- Nothing was wrong behind the step, so nothing was ahead of it; and the place went on. -/
def On (l : List Int) (s s' : St) : Prop := s'.2 = 0 → s.2 = 0 ∧ s.1 ≤ s'.1 ∧ (s.1 ≤ l.length → s'.1 ≤ l.length)
theorem On.trans {l : List Int} {a b c : St} (h1 : On l a b) (h2 : On l b c) : On l a c := fun h => by
  obtain ⟨x1, x2, x3⟩ := h2 h
  obtain ⟨y1, y2, y3⟩ := h1 x1
  exact ⟨y1, Nat.le_trans y2 x2, fun z => x3 (y3 z)⟩
theorem rMust_on (l : List Int) (s : St) (b : Bool) {y : Int} (hy : y ≠ 0) : On l s (rMust s b y) := fun h => by
  unfold rMust at h ⊢
  split at h
  · exact absurd h hy
  · rename_i c; rw [if_neg c]; exact ⟨h, Nat.le_refl _, id⟩
theorem rMust_b {s : St} {b : Bool} {y : Int} (hy : y ≠ 0) (h : (rMust s b y).2 = 0) : b = true := by
  unfold rMust at h
  split at h
  · exact absurd h hy
  · rename_i c
    cases b with
    | true => rfl
    | false => exact absurd ⟨rfl, h⟩ c
theorem rPlain_in (l : List Int) (s : St) (n : Nat) (hn : n ≤ 8) (h : (rPlain l s n).2.2 = 0) (hs : s.1 ≤ l.length) : s.2 = 0 ∧ s.1 + n ≤ l.length ∧ rPlain l s n = (joinF 0 ((l.drop s.1).take n), (s.1 + n, 0)) := by
  unfold rPlain rRead at h ⊢
  by_cases c : s.2 = 0
  · rw [if_pos c] at h ⊢
    by_cases d : s.1 + n ≤ l.length
    · rw [readF_in l s.1 n hn d]
      refine ⟨c, d, ?_⟩
      simp
      omega
    · rw [readF_short l s.1 n (by omega) (by omega)] at h
      simp at h
  · rw [if_neg c] at h; exact absurd h c
theorem rPlain_on (l : List Int) (s : St) (n : Nat) (hn : n ≤ 8) (hs : s.1 ≤ l.length) : On l s (rPlain l s n).2 := fun h => by
  obtain ⟨h1, h2, h3⟩ := rPlain_in l s n hn h hs
  rw [h3]
  exact ⟨h1, by simp, fun _ => h2⟩
theorem rSized_on (l : List Int) (s : St) : On l s (rSized l s).2 := fun h => by
  unfold rSized rRead at h ⊢
  by_cases c : s.2 = 0
  · rw [if_pos c] at h ⊢
    rcases getF_cases l s.1 with ⟨e, he, hg⟩ | ⟨k, hk, hk1, hk2, hg⟩
    · rw [hg] at h
      rcases he with rfl | rfl <;> simp at h
    · rw [hg]
      have : k = s.1 := by omega
      subst this
      refine ⟨c, ?_, fun _ => ?_⟩
      · show s.1 ≤ ((s.1 : Int) + (sz (l.getD s.1 0) : Int)).toNat
        omega
      · show ((s.1 : Int) + (sz (l.getD s.1 0) : Int)).toNat ≤ l.length
        omega
  · rw [if_neg c] at h; exact absurd h c
theorem rPass_in (l : List Int) (s : St) (n : Int) (h : (rPass l s n).2 = 0) : s.2 = 0 ∧ n ≤ (l.length : Int) - s.1 ∧ rPass l s n = (s.1 + n.toNat, 0) := by
  unfold rPass at h ⊢
  by_cases c : s.2 = 0
  · rw [if_pos c] at h ⊢
    by_cases d : n ≤ (l.length : Int) - s.1
    · rw [if_pos d]; exact ⟨c, d, rfl⟩
    · rw [if_neg d] at h; simp at h
  · rw [if_neg c] at h; exact absurd h c
theorem rPass_on (l : List Int) (s : St) (n : Int) : On l s (rPass l s n) := fun h => by
  obtain ⟨h1, h2, h3⟩ := rPass_in l s n h
  rw [h3]
  exact ⟨h1, by simp, fun hs => by simp; omega⟩
theorem rBytes_on (l : List Int) (s : St) (n : Int) : On l s (rBytes l s n).2 := rPass_on l s n
theorem rBytes_sub (l : List Int) (s : St) (n : Int) : ∀ x ∈ (rBytes l s n).1, x ∈ l := fun x hx => List.mem_of_mem_drop (List.mem_of_mem_take hx)
theorem rBytes_le (l : List Int) (s : St) (n : Int) : (rBytes l s n).1.length ≤ l.length := by
  unfold rBytes; rw [List.length_take, List.length_drop]; omega
theorem rBytes_len (l : List Int) (s : St) (n : Int) (hs : s.1 ≤ l.length) (h : (rBytes l s n).2.2 = 0) : (rBytes l s n).1.length = n.toNat := by
  obtain ⟨h1, h2, h3⟩ := rPass_in l s n h
  unfold rBytes
  rw [h3]
  simp
  omega
theorem rId_in (l : List Int) (s : St) (hs : s.1 ≤ l.length) (hb : ∀ x ∈ l, IsB x) (h : (rId l s).2.2 = 0) : (s.2 = 0 ∧ s.1 ≤ (rId l s).2.1 ∧ (rId l s).2.1 ≤ l.length) ∧ (rId l s).1.length ≤ 20 ∧ (∀ x ∈ (rId l s).1, IsB x) := by
  have hn := rPlain_1 l s hb
  have o1 := rPlain_on l s 1 (by decide) hs
  unfold rId at h ⊢
  have e1 : ((1 : Nat) : Int) = 1 := rfl
  rw [e1] at o1
  have o2 := rMust_on l (rPlain l s 1).2 (decide ((rPlain l s 1).1 ≤ 20)) (y := 54) (by decide)
  have o3 := rBytes_on l (rMust (rPlain l s 1).2 (decide ((rPlain l s 1).1 ≤ 20)) 54) (rPlain l s 1).1
  have hm := (o3 h).1
  have hle := of_decide_eq_true (rMust_b (by decide) hm)
  have hp := (o2 hm).1
  have hs1 := (o1 hp).2.2 hs
  have hs2 := (o2 hm).2.2 hs1
  obtain ⟨x1, x2, x3⟩ := ((o1.trans o2).trans o3) h
  refine ⟨⟨x1, x2, x3 hs⟩, ?_, fun x hx => hb x (rBytes_sub _ _ _ x hx)⟩
  rw [rBytes_len _ _ _ hs2 h]
  omega
theorem rNum_in (l : List Int) (G : Lg) (s : St) (sp wd : Int) (hw : 1 ≤ wd ∧ wd ≤ 4) (hG : okN (G.at sp)) (hs : s.1 ≤ l.length) (hb : ∀ x ∈ l, IsB x) (h : (rNum l G s sp wd).2.2 = 0) :
    (s.2 = 0 ∧ s.1 + wd.toNat ≤ l.length ∧ (rNum l G s sp wd).2 = (s.1 + wd.toNat, 0)) ∧ Okn (rNum l G s sp wd).1 ∧ wholeV (G.at sp) ((rNum l G s sp wd).1 % st wd) wd = (rNum l G s sp wd).1 := by
  unfold rNum at h ⊢
  simp only at h ⊢
  have hlt := rPlain_lt l s wd hb
  rw [← st_pow wd hw] at hlt
  obtain ⟨n, rfl⟩ := Int.eq_ofNat_of_zero_le (show 0 ≤ wd by omega)
  obtain ⟨h1, h2, h3⟩ := rPlain_in l s n (by omega) h hs
  have hv := whole_spec (G.at sp) (rPlain l s n).1 n hG.1 hG.2 hlt.1 hlt.2
  refine ⟨⟨h1, by simpa using h2, by rw [h3]; simp⟩, hv.1, by rw [hv.2.1]⟩

/-- What is known of a packet that was read. -/
structure Got (l : List Int) (k : Nat) (idlen : Int) (G : Lg) (p : Pk) (e : Nat) : Prop where
  lt : k < e
  le : e ≤ l.length
  sp : p.space = 0 ∨ p.space = 1 ∨ p.space = 2
  d : p.dst.length ≤ 20
  s : p.src.length ≤ 20
  s2 : p.space = 2 → p.src = [] ∧ (p.dst.length : Int) = idlen ∧ e = l.length
  w : 1 ≤ p.width ∧ p.width ≤ 4
  n : Okn p.number
  back : wholeV (G.at p.space) (p.number % st p.width) p.width = p.number
  bd : ∀ x ∈ p.dst, IsB x
  bs : ∀ x ∈ p.src, IsB x
  by_ : ∀ x ∈ p.payload, IsB x
  yl : p.payload.length ≤ l.length

theorem okG_at {G : Lg} (h : okG G) (sp : Int) : okN (G.at sp) := by
  unfold Lg.at
  split
  · exact h.1
  · split
    · exact h.2.1
    · exact h.2.2

theorem long_got (l : List Int) (G : Lg) (hG : okG G) (s : St) (hs : s.1 ≤ l.length) (x : Int) (hx : IsB x) (hb : ∀ x ∈ l, IsB x) (k : Nat) (hk : k < s.1) (idlen : Int) (h : (longR l G s x).2.2 = 0) : s.2 = 0 ∧ Got l k idlen G (longR l G s x).1 (longR l G s x).2.1 := by
  have hw := widF_in x
  have ob := rBytes_on l (sLa l G s x).2 (IntKind.u64.wrap ((sL8 l s x).1 - widF x))
  have h' : (sLb l G s x).2.2 = 0 := h
  have ha := (ob h').1
  -- the steps, each from the one ahead of it
  have o1 : On l s (sL1 s x) := rMust_on l s _ (by decide)
  have p1 : (sL1 s x).1 ≤ l.length := by unfold sL1; rw [rMust_fst]; exact hs
  have o2 : On l (sL1 s x) (sL2 l s x).2 := rPlain_on l _ 4 (by decide) p1
  have o3 : On l (sL2 l s x).2 (sL3 l s x) := rMust_on l _ _ (by decide)
  have o4 : On l (sL3 l s x) (sL4 l s x) := rMust_on l _ _ (by decide)
  have o8 : On l (sL7 l s x) (sL8 l s x).2 := rSized_on l _
  have o9 : On l (sL8 l s x).2 (sL9 l s x) := rMust_on l _ _ (by decide)
  have o7 : On l (sL6 l s x).2 (sL7 l s x) := by
    unfold sL7 sT
    split
    · exact (rSized_on l _).trans (rPass_on l _ _)
    · exact fun h => ⟨h, Nat.le_refl _, id⟩
  have q9 : (sL9 l s x).2 = 0 := by
    have : (rPlain l (sL9 l s x) (widF x)).2.2 = 0 := ha
    unfold rPlain rRead at this
    split at this
    · assumption
    · exact this
  have q6 : (sL6 l s x).2.2 = 0 := ((o7.trans o8).trans o9 q9).1
  have q5 : (sL5 l s x).2.2 = 0 := by
    by_cases c : (sL5 l s x).2.2 = 0
    · exact c
    · have e : sL6 l s x = ([], (sL5 l s x).2) := rId_no c
      rw [e] at q6; exact q6
  have q4 : (sL4 l s x).2 = 0 := by
    by_cases c : (sL4 l s x).2 = 0
    · exact c
    · have e : sL5 l s x = ([], sL4 l s x) := rId_no c
      rw [e] at q5; exact q5
  obtain ⟨z1, z2, z3⟩ := ((o1.trans o2).trans o3).trans o4 q4
  have p4 := z3 hs
  obtain ⟨⟨-, y2, y3⟩, y4, y5⟩ := rId_in l (sL4 l s x) p4 hb q5
  obtain ⟨⟨-, x2, x3⟩, x4, x5⟩ := rId_in l (sL5 l s x).2 y3 hb q6
  obtain ⟨-, v2, v3⟩ := (o7.trans o8).trans o9 q9
  have p9 := v3 x3
  obtain ⟨⟨-, u2, u3⟩, u4, u5⟩ := rNum_in l G (sL9 l s x) (spcF x).1 (widF x) hw (okG_at hG _) p9 hb ha
  obtain ⟨-, t2, t3⟩ := ob h'
  have ea : (sLa l G s x).2 = ((sL9 l s x).1 + (widF x).toNat, 0) := u3
  have pa : (sLa l G s x).2.1 ≤ l.length := by rw [ea]; exact u2
  refine ⟨z1, ⟨?_, t3 pa, ?_, y4, x4, ?_, hw, u4, u5, y5, x5, fun x hx => hb x (rBytes_sub _ _ _ x hx), rBytes_le _ _ _⟩⟩
  · show k < (sLb l G s x).2.1
    have : (sL9 l s x).1 ≤ (sLa l G s x).2.1 := by rw [ea]; simp
    have y2' : (sL4 l s x).1 ≤ (sL5 l s x).2.1 := y2
    have x2' : (sL5 l s x).2.1 ≤ (sL6 l s x).2.1 := x2
    have t2' : (sLa l G s x).2.1 ≤ (sLb l G s x).2.1 := t2
    omega
  · rcases spcF_sp x with e | e
    · exact .inl e
    · exact .inr (.inl e)
  · intro e
    have e' : (spcF x).1 = 2 := e
    rcases spcF_sp x with c | c <;> rw [c] at e' <;> cases e'

theorem short_got (l : List Int) (G : Lg) (hG : okG G) (s : St) (hs : s.1 ≤ l.length) (x : Int) (hx : IsB x) (hb : ∀ x ∈ l, IsB x) (k : Nat) (hk : k < s.1) (idlen : Int) (hi : 0 ≤ idlen ∧ idlen ≤ 20) (h : (shortR l G s x idlen).2.2 = 0) : s.2 = 0 ∧ Got l k idlen G (shortR l G s x idlen).1 (shortR l G s x idlen).2.1 := by
  have hw := widF_in x
  have ob := rBytes_on l (sS3 l G s x idlen).2 ((l.length : Int) - (sS3 l G s x idlen).2.1)
  have h' : (sS4 l G s x idlen).2.2 = 0 := h
  have ha := (ob h').1
  have o1 : On l s (sS1 s x) := rMust_on l s _ (by decide)
  have o2 : On l (sS1 s x) (sS2 l s x idlen).2 := rBytes_on l _ _
  have q2 : (sS2 l s x idlen).2.2 = 0 := by
    have : (rPlain l (sS2 l s x idlen).2 (widF x)).2.2 = 0 := ha
    unfold rPlain rRead at this
    split at this
    · assumption
    · exact this
  obtain ⟨z1, z2, z3⟩ := (o1.trans o2) q2
  have q1 := (o2 q2).1
  have p1 := (o1 q1).2.2 hs
  have p2 := z3 hs
  have hl2 := rBytes_len l (sS1 s x) idlen p1 q2
  obtain ⟨⟨-, u2, u3⟩, u4, u5⟩ := rNum_in l G (sS2 l s x idlen).2 2 (widF x) hw (okG_at hG _) p2 hb ha
  have ea : (sS3 l G s x idlen).2 = ((sS2 l s x idlen).2.1 + (widF x).toNat, 0) := u3
  have pa : (sS3 l G s x idlen).2.1 ≤ l.length := by rw [ea]; exact u2
  obtain ⟨-, t2, t3⟩ := ob h'
  obtain ⟨-, -, r3⟩ := rPass_in l (sS3 l G s x idlen).2 ((l.length : Int) - (sS3 l G s x idlen).2.1) h'
  have ee : (sS4 l G s x idlen).2.1 = l.length := by
    have e1 : (sS4 l G s x idlen).2 = rPass l (sS3 l G s x idlen).2 ((l.length : Int) - (sS3 l G s x idlen).2.1) := rfl
    rw [e1, r3]
    simp only
    omega
  have hd : (sS2 l s x idlen).1.length = idlen.toNat := hl2
  refine ⟨z1, ⟨?_, t3 pa, .inr (.inr rfl), ?_, by simp [shortR], fun _ => ⟨rfl, ?_, ee⟩, hw, u4, u5, fun x hx => hb x (rBytes_sub _ _ _ x hx), by simp [shortR], fun x hx => hb x (rBytes_sub _ _ _ x hx), rBytes_le _ _ _⟩⟩
  · show k < (sS4 l G s x idlen).2.1
    rw [ee]; omega
  · show (sS2 l s x idlen).1.length ≤ 20
    omega
  · show ((sS2 l s x idlen).1.length : Int) = idlen
    omega

theorem short_dead (l : List Int) (G : Lg) (s : St) (x idlen : Int) (h : s.2 ≠ 0) : (shortR l G s x idlen).2 = s := by
  have e1 : sS1 s x = s := rMust_no h
  have e2 : sS2 l s x idlen = ([], s) := by unfold sS2; rw [e1]; exact rBytes_no h
  have e3 : (sS3 l G s x idlen).2 = s := by unfold sS3 rNum rPlain; rw [e2]; simp only; rw [rRead_no h]
  show (sS4 l G s x idlen).2 = s
  unfold sS4
  rw [e3, rBytes_no h]

theorem pack_got (l : List Int) (G : Lg) (hG : okG G) (k : Nat) (hk : k ≤ l.length) (hb : ∀ x ∈ l, IsB x) (idlen : Int) (hi : 0 ≤ idlen ∧ idlen ≤ 20) (h : (packR l G k idlen).2.2 = 0) : Got l k idlen G (packR l G k idlen).1 (packR l G k idlen).2.1 := by
  have hx := rPlain_1 l (k, 0) hb
  by_cases c : (rPlain l (k, 0) 1).2.2 = 0
  · obtain ⟨-, h2, h3⟩ := rPlain_in l (k, 0) 1 (by decide) c hk
    have e1 : ((1 : Nat) : Int) = 1 := rfl
    rw [e1] at h3
    have hp : (rPlain l (k, 0) 1).2.1 = k + 1 := by rw [h3]
    unfold packR at h ⊢
    by_cases d : 128 ≤ (rPlain l (k, 0) 1).1
    · rw [if_pos d] at h ⊢
      exact (long_got l G hG _ (by omega) _ hx hb k (by omega) idlen h).2
    · rw [if_neg d] at h ⊢
      exact (short_got l G hG _ (by omega) _ hx hb k (by omega) idlen hi h).2
  · exfalso
    have e : rPlain l (k, 0) 1 = (0, (k, 50)) := by
      unfold rPlain rRead at c ⊢
      rw [if_pos rfl] at c ⊢
      split at c
      · exact absurd rfl c
      · rename_i d; rw [if_neg d]
    unfold packR at h
    rw [e] at h
    simp only [if_neg (show ¬ (128 : Int) ≤ 0 by decide)] at h
    have := short_dead l G (k, 50) 0 idlen (by simp)
    rw [this] at h
    cases h

end Go.Proofs.Ytnglgedcpmbbjaa
