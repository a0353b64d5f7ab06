/- What Encode writes is read again, plain. -/
import Derived.Test.YtnglgedcpmbbjaaKZ
namespace Go.Proofs.Ytnglgedcpmbbjaa
open Go.RowKit
set_option linter.unusedVariables false
set_option maxRecDepth 100000

theorem drop_len {l p R : List Int} {k : Nat} (h : l.drop k = p ++ R) (hp : p ≠ []) : k + p.length + R.length = l.length := by
  have := congrArg List.length h
  rw [List.length_drop, List.length_append] at this
  have : 0 < p.length := List.length_pos_iff.2 hp
  omega
theorem drop_next {l p R : List Int} {k : Nat} (h : l.drop k = p ++ R) : l.drop (k + p.length) = R := by
  rw [← List.drop_drop, h]; simp
theorem drop_le {l p R : List Int} {k : Nat} (h : l.drop k = p ++ R) (hk : k ≤ l.length) : k + p.length ≤ l.length := by
  have := congrArg List.length h
  rw [List.length_drop, List.length_append] at this
  omega

theorem plain_at {l R : List Int} {k n : Nat} {v : Int} (h : l.drop k = dig v n ++ R) (hn : 1 ≤ n ∧ n ≤ 8) (v0 : 0 ≤ v) (v1 : v / 256 ^ n = 0) : rPlain l (k, 0) n = (v, (k + n, 0)) ∧ l.drop (k + n) = R := by
  have hl := drop_len h (fun e => by have := congrArg List.length e; rw [dig_length] at this; simp at this; omega)
  rw [dig_length] at hl
  have hd := drop_next h
  rw [dig_length] at hd
  refine ⟨?_, hd⟩
  unfold rPlain rRead
  rw [if_pos rfl, readF_in l k n hn.2 (by omega)]
  have e : (l.drop k).take n = dig v n := by
    rw [h]
    have := List.take_left (l₁ := dig v n) (l₂ := R)
    rwa [dig_length] at this
  rw [e, joinF_back v n v0 v1]
  simp
  omega
theorem byte_at {l R : List Int} {k : Nat} {x : Int} (h : l.drop k = x :: R) : rPlain l (k, 0) 1 = (x, (k + 1, 0)) ∧ l.drop (k + 1) = R := by
  have hl := drop_len (p := [x]) h (by simp)
  have hd := drop_next (p := [x]) h
  simp only [List.length_cons, List.length_nil] at hl hd
  refine ⟨?_, hd⟩
  unfold rPlain rRead
  rw [if_pos rfl, show (1 : Int) = ((1 : Nat) : Int) from rfl, readF_in l k 1 (by decide) (by omega), h]
  simp [joinF]
theorem pass_at {l : List Int} {k n : Nat} (h : k + n ≤ l.length) : rPass l (k, 0) (n : Int) = (k + n, 0) := by
  unfold rPass
  rw [if_pos rfl, if_pos (by simp only; omega)]
  simp
theorem bytes_at {l d R : List Int} {k : Nat} (h : l.drop k = d ++ R) (hk : k ≤ l.length) : rBytes l (k, 0) (d.length : Int) = (d, (k + d.length, 0)) ∧ l.drop (k + d.length) = R := by
  have hl := drop_le h hk
  refine ⟨?_, drop_next h⟩
  unfold rBytes
  rw [pass_at hl]
  simp only [Nat.add_sub_cancel_left, h]
  rw [List.take_left]
theorem sized_at {l R : List Int} {k n : Nat} {v : Int} (h : l.drop k = layF v n ++ R) (hf : Fits v n) (v0 : 0 ≤ v) (hk : k ≤ l.length) : rSized l (k, 0) = (v, (k + n, 0)) ∧ l.drop (k + n) = R := by
  have hd := drop_next h
  rw [layF_length] at hd
  refine ⟨?_, hd⟩
  have e : l = l.take k ++ layF v n ++ R := by rw [List.append_assoc, ← h, List.take_append_drop]
  have el : (l.take k).length = k := by simp; omega
  have g := get_back (l.take k) R v n hf v0
  rw [← e, el] at g
  unfold rSized rRead
  rw [if_pos rfl, g]
  simp
  omega
theorem id_at {l d R : List Int} {k : Nat} (h : l.drop k = [(d.length : Int)] ++ d ++ R) (hd : d.length ≤ 20) : rId l (k, 0) = (d, (k + 1 + d.length, 0)) ∧ l.drop (k + 1 + d.length) = R := by
  have h' : l.drop k = (d.length : Int) :: (d ++ R) := by simpa using h
  obtain ⟨e1, e2⟩ := byte_at h'
  have hl := drop_len (p := [(d.length : Int)]) (R := d ++ R) (by simpa using h) (by simp)
  simp only [List.length_cons, List.length_nil] at hl
  unfold rId
  rw [e1]
  simp only
  rw [decide_eq_true (show (d.length : Int) ≤ 20 by omega), rMust_yes]
  exact bytes_at e2 (by omega)

theorem num_at {l R : List Int} {k : Nat} {p : Pk} (hg : Good p) (G : Lg) (h : l.drop k = cutP p ++ R) : rNum l G (k, 0) p.space p.width = (wholeV (G.at p.space) (p.number % st p.width) p.width, (k + p.width.toNat, 0)) ∧ l.drop (k + p.width.toNat) = R := by
  obtain ⟨q0, q1, q2⟩ := cut_low p hg
  have hw := hg.w
  unfold cutP at h
  obtain ⟨e1, e2⟩ := plain_at h (by omega) q0 q2
  rw [show ((p.width.toNat : Nat) : Int) = p.width by omega] at e1
  unfold rNum
  rw [e1]
  exact ⟨rfl, e2⟩

theorem first_long (sp w : Int) (hs : sp = 0 ∨ sp = 1) (hw : 1 ≤ w ∧ w ≤ 4) : bitL (191 + 32 * sp + w) = true ∧ spcF (191 + 32 * sp + w) = (sp, true) ∧ widF (191 + 32 * sp + w) = w ∧ 128 ≤ 191 + 32 * sp + w := by
  obtain rfl | rfl | rfl | rfl : w = 1 ∨ w = 2 ∨ w = 3 ∨ w = 4 := by omega
  all_goals rcases hs with rfl | rfl <;> decide
theorem first_short (w : Int) (hw : 1 ≤ w ∧ w ≤ 4) : bitS (63 + w) = true ∧ widF (63 + w) = w ∧ ¬ 128 ≤ 63 + w := by
  obtain rfl | rfl | rfl | rfl : w = 1 ∨ w = 2 ∨ w = 3 ∨ w = 4 := by omega
  all_goals decide

/-- The packet as the receiver finds it. -/
def foundP (p : Pk) (G : Lg) : Pk := { p with number := wholeV (G.at p.space) (p.number % st p.width) p.width }

theorem token_at {l R : List Int} {k : Nat} {sp : Int} (hs : sp = 0 ∨ sp = 1) (h : l.drop k = (if sp = 0 then [0] else []) ++ R) (hk : k ≤ l.length) : sT l (k, 0) sp = (k + (if sp = 0 then 1 else 0), 0) ∧ l.drop (k + (if sp = 0 then 1 else 0)) = R := by
  rcases hs with rfl | rfl
  · rw [if_pos rfl] at h ⊢
    have h' : l.drop k = layF 0 1 ++ R := h
    obtain ⟨e1, e2⟩ := sized_at h' (.inl ⟨rfl, by decide⟩) (by decide) hk
    refine ⟨?_, e2⟩
    unfold sT
    rw [if_pos rfl, e1]
    have := drop_le h hk
    have := pass_at (l := l) (k := k + 1) (n := 0) (by simpa using this)
    simpa using this
  · rw [if_neg (by decide)] at h ⊢
    refine ⟨?_, by simpa using h⟩
    unfold sT
    rw [if_neg (by decide)]
    rfl

theorem long_at {l R : List Int} {k : Nat} {p : Pk} (hg : Good p) (hs : p.space = 0 ∨ p.space = 1) (G : Lg) (idlen : Int) (h : l.drop k = bytesP p ++ R) : packR l G k idlen = (foundP p G, (k + (bytesP p).length, 0)) := by
  have hw := hg.w
  have hy := hg.y (by rcases hs with e | e <;> rw [e] <;> decide)
  obtain ⟨f1, f2, f3, f4⟩ := first_long p.space p.width hs hw
  have e0 : ∀ R, bytesP p ++ R = (191 + 32 * p.space + p.width) :: ([0, 0, 0, 1] ++ ([(p.dst.length : Int)] ++ (p.dst ++ ([(p.src.length : Int)] ++ (p.src ++ ((if p.space = 0 then [0] else []) ++ (layF (p.width + p.payload.length) 2 ++ (cutP p ++ (p.payload ++ R))))))))) := fun R => by
    unfold bytesP partsP
    rw [if_neg (by rcases hs with e | e <;> rw [e] <;> decide)]
    simp
  have hlen := congrArg List.length (e0 [])
  rw [List.append_nil] at hlen
  rw [e0 R] at h
  generalize 191 + 32 * p.space + p.width = x at *
  obtain ⟨a1, d1⟩ := byte_at (R := _) h
  have k1 : k + 1 ≤ l.length := by have := drop_len (p := [x]) (R := _) h (by simp); simp only [List.length_cons, List.length_nil] at this; omega
  have d1' : l.drop (k + 1) = dig 1 4 ++ _ := d1.trans rfl
  obtain ⟨a2, d2⟩ := plain_at d1' (by decide) (by decide) (by decide)
  have k2 := drop_le d1' k1
  rw [dig_length] at k2
  obtain ⟨a3, d3⟩ := id_at (d := p.dst) (d2.trans (List.append_assoc _ _ _).symm) hg.d
  have k3 := drop_le (p := [(p.dst.length : Int)] ++ p.dst) (d2.trans (List.append_assoc _ _ _).symm) k2
  obtain ⟨a4, d4⟩ := id_at (d := p.src) (d3.trans (List.append_assoc _ _ _).symm) hg.s
  have k3' : k + 1 + 4 + 1 + p.dst.length ≤ l.length := by simp at k3; omega
  have k4 := drop_le (p := [(p.src.length : Int)] ++ p.src) (d3.trans (List.append_assoc _ _ _).symm) k3'
  have k4' : k + 1 + 4 + 1 + p.dst.length + 1 + p.src.length ≤ l.length := by simp at k4; omega
  obtain ⟨a5, d5⟩ := token_at hs d4 k4'
  have k5 := drop_le d4 k4'
  have k5' : k + 1 + 4 + 1 + p.dst.length + 1 + p.src.length + (if p.space = 0 then 1 else 0) ≤ l.length := by
    refine Nat.le_trans (Nat.le_of_eq ?_) k5
    split <;> simp
  obtain ⟨a6, d6⟩ := sized_at d5 (.inr (.inl ⟨rfl, hy⟩)) (by omega) k5'
  have k6 := drop_le d5 k5'
  rw [layF_length] at k6
  obtain ⟨a7, d7⟩ := num_at hg G d6
  have k7 := drop_le d6 k6
  have k7' : k + 1 + 4 + 1 + p.dst.length + 1 + p.src.length + (if p.space = 0 then 1 else 0) + 2 + p.width.toNat ≤ l.length := by
    unfold cutP at k7; rw [dig_length] at k7; exact k7
  obtain ⟨a8, d8⟩ := bytes_at d7 k7'
  unfold packR
  rw [a1]
  simp only
  rw [if_pos f4]
  have s1 : sL1 (k + 1, 0) x = (k + 1, 0) := by unfold sL1; rw [f1, rMust_yes]
  have s2 : sL2 l (k + 1, 0) x = (1, (k + 1 + 4, 0)) := by unfold sL2; rw [s1]; exact a2
  have s3 : sL3 l (k + 1, 0) x = (k + 1 + 4, 0) := by unfold sL3; rw [s2]; simp only [decide_true]; rw [rMust_yes]
  have s4 : sL4 l (k + 1, 0) x = (k + 1 + 4, 0) := by unfold sL4; rw [s3, f2, rMust_yes]
  have s5 : sL5 l (k + 1, 0) x = (p.dst, (k + 1 + 4 + 1 + p.dst.length, 0)) := by unfold sL5; rw [s4]; exact a3
  have s6 : sL6 l (k + 1, 0) x = (p.src, (k + 1 + 4 + 1 + p.dst.length + 1 + p.src.length, 0)) := by unfold sL6; rw [s5]; exact a4
  have s7 : sL7 l (k + 1, 0) x = (k + 1 + 4 + 1 + p.dst.length + 1 + p.src.length + (if p.space = 0 then 1 else 0), 0) := by unfold sL7; rw [s6, f2]; exact a5
  have s8 : sL8 l (k + 1, 0) x = (p.width + p.payload.length, (k + 1 + 4 + 1 + p.dst.length + 1 + p.src.length + (if p.space = 0 then 1 else 0) + 2, 0)) := by unfold sL8; rw [s7]; exact a6
  have s9 : sL9 l (k + 1, 0) x = (k + 1 + 4 + 1 + p.dst.length + 1 + p.src.length + (if p.space = 0 then 1 else 0) + 2, 0) := by
    unfold sL9; rw [s8, f3]; simp only; rw [decide_eq_true (by omega), rMust_yes]
  have sa : sLa l G (k + 1, 0) x = rNum l G (sL9 l (k + 1, 0) x) (spcF x).1 (widF x) := rfl
  rw [s9, f2, f3, a7] at sa
  have sb : sLb l G (k + 1, 0) x = rBytes l (sLa l G (k + 1, 0) x).2 (IntKind.u64.wrap ((sL8 l (k + 1, 0) x).1 - widF x)) := rfl
  rw [sa, s8, f3] at sb
  simp only at sb
  rw [show p.width + (p.payload.length : Int) - p.width = (p.payload.length : Int) by omega, show IntKind.u64.wrap (p.payload.length : Int) = (p.payload.length : Int) by rw [IntKind.wrap_u64]; omega, a8] at sb
  unfold longR
  rw [s5, s6, sa, sb, f2, f3]
  simp only [foundP, Prod.mk.injEq, true_and]
  refine ⟨?_, trivial⟩
  rw [hlen]
  have ht : (if p.space = 0 then [(0 : Int)] else []).length = if p.space = 0 then 1 else 0 := by split <;> rfl
  simp only [List.length_cons, List.length_append, List.length_nil, layF_length, ht]
  unfold cutP; rw [dig_length]
  omega

theorem short_at {l : List Int} {k : Nat} {p : Pk} (hg : Good p) (hs : p.space = 2) (G : Lg) (h : l.drop k = bytesP p) : packR l G k p.dst.length = (foundP p G, (k + (bytesP p).length, 0)) := by
  have hw := hg.w
  obtain ⟨f1, f3, f4⟩ := first_short p.width hw
  have e0 : bytesP p = (63 + p.width) :: (p.dst ++ (cutP p ++ (p.payload ++ []))) := by
    unfold bytesP partsP
    rw [if_pos hs]
    simp
  have hlen := congrArg List.length e0
  have hl : k + (bytesP p).length = l.length := by
    have := congrArg List.length h
    rw [List.length_drop] at this
    rw [hlen] at this ⊢
    simp at this ⊢; omega
  rw [e0] at h
  generalize 63 + p.width = x at *
  obtain ⟨a1, d1⟩ := byte_at (R := _) h
  have k1 : k + 1 ≤ l.length := by have := drop_len (p := [x]) (R := _) h (by simp); simp only [List.length_cons, List.length_nil] at this; omega
  obtain ⟨a2, d2⟩ := bytes_at d1 k1
  have k2 := drop_le d1 k1
  obtain ⟨a3, d3⟩ := num_at hg G d2
  rw [hs] at a3
  have k3 := drop_le d2 k2
  have k3' : k + 1 + p.dst.length + p.width.toNat ≤ l.length := by
    unfold cutP at k3; rw [dig_length] at k3; exact k3
  obtain ⟨a4, d4⟩ := bytes_at d3 k3'
  unfold packR
  rw [a1]
  simp only
  rw [if_neg f4]
  have hll : l.length = k + 1 + p.dst.length + p.width.toNat + p.payload.length := by
    rw [← hl, hlen]
    simp only [List.length_cons, List.length_append, List.length_nil]
    unfold cutP; rw [dig_length]
    omega
  have s1 : sS1 (k + 1, 0) x = (k + 1, 0) := by unfold sS1; rw [f1, rMust_yes]
  have s2 : sS2 l (k + 1, 0) x p.dst.length = rBytes l (sS1 (k + 1, 0) x) p.dst.length := rfl
  rw [s1, a2] at s2
  have s3 : sS3 l G (k + 1, 0) x p.dst.length = rNum l G (sS2 l (k + 1, 0) x p.dst.length).2 2 (widF x) := rfl
  rw [s2, f3, a3] at s3
  have s4 : sS4 l G (k + 1, 0) x p.dst.length = rBytes l (sS3 l G (k + 1, 0) x p.dst.length).2 ((l.length : Int) - (sS3 l G (k + 1, 0) x p.dst.length).2.1) := rfl
  rw [s3] at s4
  simp only at s4
  rw [show (l.length : Int) - ((k + 1 + p.dst.length + p.width.toNat : Nat) : Int) = (p.payload.length : Int) by omega, a4] at s4
  unfold shortR
  rw [s2, s3, s4, f3]
  simp only [foundP, Prod.mk.injEq, hs, hg.s2 hs, true_and]
  exact ⟨by rw [← hll, hl], trivial⟩

end Go.Proofs.Ytnglgedcpmbbjaa
