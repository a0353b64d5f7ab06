/- A beginning of what Encode writes, plain. -/
import Derived.Test.YtdmjejfnohhpiaaKC1
namespace Go.Proofs.Ytdmjejfnohhpiaa
open Go.RowKit
set_option linter.unusedVariables false
set_option maxRecDepth 100000

abbrev noneG : Lg := (-1, -1, -1)
theorem okG_none : okG noneG := by decide

theorem first_cut {l : List Int} {k : Nat} (hk : k ≤ l.length) (h1 : 1 ≤ k) (h : (rPlain l (0, 0) 1).2.2 = 0) : rPlain (l.take k) (0, 0) 1 = rPlain l (0, 0) 1 ∧ (rPlain l (0, 0) 1).2 = (1, 0) := by
  obtain ⟨-, h2, h3⟩ := rPlain_in l (0, 0) 1 (by decide) h (Nat.zero_le _)
  have e1 : ((1 : Nat) : Int) = 1 := rfl
  rw [e1] at h3
  have c : CutR k (rPlain l (0, 0) 1) (rPlain (l.take k) (0, 0) 1) := plain_cut hk 1 (by decide) (Nat.zero_le _) h (.inl ⟨Nat.zero_le _, rfl⟩)
  refine ⟨?_, by rw [h3]⟩
  rcases c with ⟨-, c⟩ | c
  · exact c
  · exfalso
    have := plain_cut (k := k) hk 1 (by decide) (s := (0, 0)) (s' := (0, 0)) (Nat.zero_le _) h (.inl ⟨Nat.zero_le _, rfl⟩)
    unfold rPlain rRead at c
    rw [if_pos rfl, show (1 : Int) = ((1 : Nat) : Int) from rfl, readF_in (l.take k) 0 1 (by decide) (by rw [take_len hk]; omega)] at c
    simp at c

theorem dec_dead {l : List Int} {n : Int} {G : Lg} (hG : okG G) (hn : 0 ≤ n ∧ n ≤ 20) (h : (packR l G 0 n).2.2 = 50) : decP l 0 n G = (noP, 0, 50) := by
  unfold decP
  rw [if_neg (by rintro (c | c | c); omega; omega; exact c ⟨hG, hn⟩)]
  have e : (0 : Int).toNat = 0 := rfl
  rw [e, if_neg (by rw [h]; decide), h]

theorem enc_cut (p : Pk) (h : Good p) (hb : ∀ x ∈ bytesP p, IsB x) (k : Nat) (hk : k < (bytesP p).length) (hn : ¬ (p.space = 2 ∧ overP p ≤ k)) : decP ((bytesP p).take k) 0 p.dst.length noneG = (noP, 0, 50) := by
  have hd := h.d
  have hw := h.w
  apply dec_dead okG_none (by omega)
  have whole : packR (bytesP p) noneG 0 p.dst.length = (foundP p noneG, ((bytesP p).length, 0)) := by
    rcases h.sp with c | c | c
    · have := long_at (l := bytesP p) (R := []) (k := 0) h (.inl c) noneG p.dst.length (by simp)
      rwa [Nat.zero_add] at this
    · have := long_at (l := bytesP p) (R := []) (k := 0) h (.inr c) noneG p.dst.length (by simp)
      rwa [Nat.zero_add] at this
    · have := short_at (l := bytesP p) (k := 0) h c noneG (by simp)
      rwa [Nat.zero_add] at this
  have hov : ((bytesP p).length : Int) = overP p + p.payload.length := by
    unfold bytesP partsP cutP overP
    rcases h.sp with e | e | e
    all_goals
      simp [e, dig_length, layF_length]
      omega
  have hx := rPlain_1 (bytesP p) (0, 0) hb
  have alive : (rPlain (bytesP p) (0, 0) 1).2.2 = 0 := by
    by_cases c : (rPlain (bytesP p) (0, 0) 1).2.2 = 0
    · exact c
    · exfalso
      have e : rPlain (bytesP p) (0, 0) 1 = (0, (0, 50)) := by
        unfold rPlain rRead at c ⊢
        rw [if_pos rfl] at c ⊢
        split at c
        · exact absurd rfl c
        · rename_i d; rw [if_neg d]
      unfold packR at whole
      rw [e] at whole
      simp only [if_neg (show ¬ (128 : Int) ≤ 0 by decide)] at whole
      have := short_dead (bytesP p) noneG (0, 50) 0 p.dst.length (by simp)
      rw [whole] at this
      simp at this
  by_cases hk0 : k = 0
  · subst hk0
    have e : rPlain ((bytesP p).take 0) (0, 0) 1 = (0, (0, 50)) := by
      unfold rPlain rRead
      rw [if_pos rfl, show (1 : Int) = ((1 : Nat) : Int) from rfl, readF_short _ _ _ (by simp) (by simp)]
      rfl
    unfold packR
    rw [e]
    simp only [if_neg (show ¬ (128 : Int) ≤ 0 by decide)]
    rw [short_dead _ _ _ _ _ (by simp)]
  · obtain ⟨e1, e2⟩ := first_cut (k := k) (by omega) (by omega) alive
    unfold packR at whole ⊢
    rw [e1]
    by_cases d : 128 ≤ (rPlain (bytesP p) (0, 0) 1).1
    · rw [if_pos d] at whole ⊢
      rw [e2] at whole ⊢
      exact long_cut (by omega) noneG okG_none hb (1, 0) (by simp only; omega) _ (by rw [whole]) (by rw [whole]; exact hk)
    · rw [if_neg d] at whole ⊢
      rw [e2] at whole ⊢
      generalize (rPlain (bytesP p) (0, 0) 1).1 = x at *
      have w2 := congrArg Prod.snd whole
      have wp := congrArg (fun r => r.1.space) whole
      have hs2 : p.space = 2 := by
        have : (2 : Int) = p.space := wp
        omega
      have ww : widF x = p.width := by have := congrArg (fun r => r.1.width) whole; exact this
      have hlt : k < overP p := by
        have : ¬ overP p ≤ k := fun c => hn ⟨hs2, c⟩
        omega
      have ho : overP p = 1 + p.dst.length + p.width := by unfold overP; rw [if_pos hs2]; simp
      have ob := rBytes_on (bytesP p) (sS3 (bytesP p) noneG (1, 0) x p.dst.length).2 (((bytesP p).length : Int) - (sS3 (bytesP p) noneG (1, 0) x p.dst.length).2.1)
      have h4 : (sS4 (bytesP p) noneG (1, 0) x p.dst.length).2.2 = 0 := by
        have : (sS4 (bytesP p) noneG (1, 0) x p.dst.length).2 = ((bytesP p).length, 0) := w2
        rw [this]
      have h3 := (ob h4).1
      have q2 : (sS2 (bytesP p) (1, 0) x p.dst.length).2.2 = 0 := by
        have : (rPlain (bytesP p) (sS2 (bytesP p) (1, 0) x p.dst.length).2 (widF x)).2.2 = 0 := h3
        unfold rPlain rRead at this
        split at this
        · assumption
        · exact this
      obtain ⟨q1, q1', q3⟩ := rPass_in (bytesP p) (sS1 (1, 0) x) p.dst.length q2
      have f1 : (sS1 (1, 0) x).1 = 1 := by unfold sS1; rw [rMust_fst]
      have e5 : (sS2 (bytesP p) (1, 0) x p.dst.length).2 = (1 + p.dst.length, 0) := by
        have : (sS2 (bytesP p) (1, 0) x p.dst.length).2 = rPass (bytesP p) (sS1 (1, 0) x) p.dst.length := rfl
        rw [this, q3, f1, Int.toNat_natCast]
      rw [f1] at q1'
      obtain ⟨⟨-, -, u3⟩, -⟩ := rNum_in (bytesP p) noneG (sS2 (bytesP p) (1, 0) x p.dst.length).2 2 (widF x) (widF_in x) (okG_at okG_none _) (by rw [e5]; simp only; omega) hb h3
      have e6 : (sS3 (bytesP p) noneG (1, 0) x p.dst.length).2.1 = 1 + p.dst.length + p.width.toNat := by
        have : (sS3 (bytesP p) noneG (1, 0) x p.dst.length).2 = ((sS2 (bytesP p) (1, 0) x p.dst.length).2.1 + (widF x).toNat, 0) := u3
        rw [this, e5, ww]
      exact short_cut (by omega) noneG okG_none hb (1, 0) (by simp only; omega) x p.dst.length h3 (by rw [e6]; omega)

theorem enc_cut2 (p : Pk) (h : Good p) (k : Nat) (hk : k < (bytesP p).length) (h2 : p.space = 2) (ho : overP p ≤ k) : ∃ q, decP ((bytesP p).take k) 0 p.dst.length noneG = (q, (k : Int), 0) ∧ (q.payload.length : Int) = k - overP p ∧ (∀ x ∈ q.payload, x ∈ p.payload) ∧ q.dst = p.dst ∧ q.src = p.src := by
  have hw := h.w
  have ho2 : overP p = 1 + p.dst.length + p.width := by unfold overP; rw [if_pos h2]; simp
  have e0 : bytesP p = ((63 + p.width) :: (p.dst ++ cutP p)) ++ p.payload := by
    unfold bytesP partsP
    rw [if_pos h2]
    simp
  have hl0 : ((63 + p.width) :: (p.dst ++ cutP p)).length = 1 + p.dst.length + p.width.toNat := by
    unfold cutP; simp [dig_length]; omega
  have hd := h.d
  have hkl : k < 1 + p.dst.length + p.width.toNat + p.payload.length := by rw [e0, List.length_append, hl0] at hk; exact hk
  obtain ⟨j, hj⟩ : ∃ j, k = 1 + p.dst.length + p.width.toNat + j := ⟨k - (1 + p.dst.length + p.width.toNat), by omega⟩
  have h' : Good { p with payload := p.payload.take j } := ⟨h.sp, h.d, h.s, h.s2, h.w, h.n, fun c => absurd h2 c⟩
  have e1 : (bytesP p).take k = bytesP { p with payload := p.payload.take j } := by
    have e2 : bytesP { p with payload := p.payload.take j } = ((63 + p.width) :: (p.dst ++ cutP p)) ++ p.payload.take j := by
      unfold bytesP partsP
      rw [if_pos h2]
      simp [cutP]
    rw [e2, e0, List.take_append, hl0, hj, Nat.add_sub_cancel_left, List.take_of_length_le (by rw [hl0]; omega)]
  have hlen : ((bytesP p).take k).length = k := by simp; omega
  have := dec_enc [] [] { p with payload := p.payload.take j } h' noneG okG_none p.dst.length (by omega) (fun _ => ⟨rfl, rfl⟩)
  simp only [List.nil_append, List.append_nil, List.length_nil, Nat.zero_add] at this
  rw [← e1, hlen] at this
  refine ⟨_, this, ?_, fun x hx => ?_, rfl, rfl⟩
  · show ((p.payload.take j).length : Int) = _
    rw [List.length_take]; omega
  · exact List.mem_of_mem_take (by simpa [foundP] using hx)

end Go.Proofs.Ytdmjejfnohhpiaa
