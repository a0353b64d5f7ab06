/- What tell tells, by numbers: bounds. No program in sight. -/
import Derived.Test.YtggjeamondampaaFX4
namespace Go.Proofs.Ytggjeamondampaa
open Go.RowKit
set_option linter.unusedVariables false
set_option maxRecDepth 100000
set_option maxHeartbeats 4000000

theorem may_off {f bare : Fr} {l : Parts} (h : mayF f bare l = true) : 0 ≤ f.offset ∧ f.offset ≤ MAXN := by
  by_cases ho : 0 ≤ f.offset ∧ f.offset ≤ MAXN
  · exact ho
  · exfalso
    obtain ⟨f1, f2⟩ := fits_off f ho
    unfold mayF at h
    simp only [Bool.and_eq_true] at h
    obtain ⟨⟨⟨⟨q1, q2⟩, q3⟩, q4⟩, q5⟩ := h
    have n1 : l.1 ≠ 2 := fun e => by rw [e, f1] at q1; cases q1
    have n2 : l.2.1 ≠ 2 := fun e => by rw [e, f1] at q2; cases q2
    have n3 : l.2.2.1 ≠ 2 := fun e => by rw [e, f1] at q3; cases q3
    have n4 : l.2.2.2 ≠ 2 := fun e => by rw [e, f1] at q4; cases q4
    have h0 : (takeF (takeF (takeF (takeF f l.1) l.2.1) l.2.2.1) l.2.2.2).offset ≠ 0 := by
      rw [takeF_off _ _ n4, takeF_off _ _ n3, takeF_off _ _ n2, takeF_off _ _ n1]
      intro e; rw [e] at ho; unfold MAXN at ho; omega
    rw [bare_off _ _ h0] at q5
    cases q5

theorem take_data {f : Fr} {q : Nat} (h : q ≠ 11 ∧ q ≠ 12 ∧ q ≠ 13) : (takeF f q).data = f.data := by
  rcases (takeF_lists f q).1 with ⟨-, e⟩ | ⟨e, -⟩
  · omega
  · exact e
theorem take_runs {f : Fr} {q : Nat} (h : q ≠ 9) : (takeF f q).runs = f.runs := by
  rcases (takeF_lists f q).2 with ⟨-, e⟩ | ⟨e, -⟩
  · exact absurd e h
  · exact e

/-- No frame that may be has both lists. -/
theorem may_one {f bare : Fr} {l : Parts} {k0 : Int} (hs : shapeF k0 = some (bare, l)) (h : mayF f bare l = true) : f.runs = [] ∨ f.data = [] := by
  unfold mayF at h
  simp only [Bool.and_eq_true] at h
  obtain ⟨-, q5⟩ := h
  rw [bareF_chain] at q5
  simp only [Bool.and_eq_true] at q5
  have d0 : ((takeF (takeF (takeF (takeF f l.1) l.2.1) l.2.2.1) l.2.2.2).data.length : Int) = 0 := by simpa using q5.1.1.1.1.1.1.1.1.1.1.1.1.1
  have r0 : ((takeF (takeF (takeF (takeF f l.1) l.2.1) l.2.2.1) l.2.2.2).runs.length : Int) = 0 := by simpa using q5.1.1.1.1.1.1.1.1.1.1.1.1.2
  by_cases h9 : l.1 ≠ 9 ∧ l.2.1 ≠ 9 ∧ l.2.2.1 ≠ 9 ∧ l.2.2.2 ≠ 9
  · left
    rw [take_runs h9.2.2.2, take_runs h9.2.2.1, take_runs h9.2.1, take_runs h9.1] at r0
    exact List.length_eq_zero_iff.1 (by omega)
  · right
    have hd : (l.1 ≠ 11 ∧ l.1 ≠ 12 ∧ l.1 ≠ 13) ∧ (l.2.1 ≠ 11 ∧ l.2.1 ≠ 12 ∧ l.2.1 ≠ 13) ∧ (l.2.2.1 ≠ 11 ∧ l.2.2.1 ≠ 12 ∧ l.2.2.1 ≠ 13) ∧ (l.2.2.2 ≠ 11 ∧ l.2.2.2 ≠ 12 ∧ l.2.2.2 ≠ 13) := by
      rcases shape_parts hs with e | e | e | e | e | e | e | e | e | e | e | e | e | e | e | e | e <;> (rw [e] at h9 ⊢; revert h9; decide)
    rw [take_data hd.2.2.2, take_data hd.2.2.1, take_data hd.2.1, take_data hd.1] at d0
    exact List.length_eq_zero_iff.1 (by omega)

theorem may_runs {f bare : Fr} {l : Parts} (h : mayF f bare l = true) (h9 : l.1 ≠ 9 ∧ l.2.1 ≠ 9 ∧ l.2.2.1 ≠ 9 ∧ l.2.2.2 ≠ 9) : f.runs = [] := by
  unfold mayF at h
  simp only [Bool.and_eq_true] at h
  obtain ⟨-, q5⟩ := h
  rw [bareF_chain] at q5
  simp only [Bool.and_eq_true] at q5
  have r0 : ((takeF (takeF (takeF (takeF f l.1) l.2.1) l.2.2.1) l.2.2.2).runs.length : Int) = 0 := by simpa using q5.1.1.1.1.1.1.1.1.1.1.1.1.2
  rw [take_runs h9.2.2.2, take_runs h9.2.2.1, take_runs h9.2.1, take_runs h9.1] at r0
  exact List.length_eq_zero_iff.1 (by omega)

theorem gaps_range {lo : Int} {l : List (Int × Int)} (h : fallF (lo - 2) l = true) (hl : lo ≤ MAXN) : ∀ v ∈ gapsF lo l, 0 ≤ v ∧ v ≤ MAXN := by
  induction l generalizing lo with
  | nil => intro v hv; cases hv
  | cons r l ih =>
    simp only [fallF, Bool.and_eq_true, decide_eq_true_eq] at h
    obtain ⟨⟨⟨h1, h2⟩, h3⟩, h4⟩ := h
    intro v hv
    unfold MAXN at *
    rcases List.mem_cons.1 hv with rfl | hv
    · omega
    · rcases List.mem_cons.1 hv with rfl | hv
      · omega
      · exact ih h4 (by omega) v hv

theorem runsN_range {L : List (Int × Int)} (h : areF L = true) (hl : (L.length : Int) ≤ MAXN) : ∀ v ∈ runsN L, 0 ≤ v ∧ v ≤ MAXN := by
  cases L with
  | nil => simp [areF] at h
  | cons r l =>
    simp only [areF, fallF, Bool.and_eq_true, decide_eq_true_eq] at h
    obtain ⟨⟨⟨⟨h1, h2⟩, h3⟩, h4⟩, -⟩ := h
    intro v hv
    simp only [List.length_cons] at hl
    unfold MAXN at *
    rcases List.mem_cons.1 hv with rfl | hv
    · omega
    · rcases List.mem_cons.1 hv with rfl | hv
      · omega
      · exact gaps_range h4 (by unfold MAXN; omega) v hv

theorem numsP_range {f : Fr} {q : Nat} (hq : q ≤ 14) (hf : fitsF f q = true) (h8 : q = 8 → areF f.runs = true) (ho : 0 ≤ f.offset) (hl : (f.runs.length : Int) ≤ MAXN) : ∀ v ∈ numsP f q, 0 ≤ v ∧ v ≤ MAXN := by
  have one : ∀ x m : Int, m ≤ MAXN → numb x m = true → ∀ v ∈ [x], 0 ≤ v ∧ v ≤ MAXN := fun x m hm hn v hv => by
    obtain rfl := List.mem_singleton.1 hv
    unfold numb at hn
    simp only [Bool.and_eq_true, decide_eq_true_eq] at hn
    unfold MAXN at *; omega
  rcases (by omega : q = 0 ∨ q = 1 ∨ q = 2 ∨ q = 3 ∨ q = 4 ∨ q = 5 ∨ q = 6 ∨ q = 7 ∨ q = 8 ∨ q = 9 ∨ q = 10 ∨ q = 11 ∨ q = 12 ∨ q = 13 ∨ q = 14) with rfl | rfl | rfl | rfl | rfl | rfl | rfl | rfl | rfl | rfl | rfl | rfl | rfl | rfl | rfl
  · intro v hv; cases hv
  · exact one _ _ (Int.le_refl _) hf
  · exact one _ _ (Int.le_refl _) hf
  · exact one _ _ (Int.le_refl _) hf
  · exact one _ _ (by decide) hf
  · exact one _ _ (Int.le_refl _) hf
  · exact one _ _ (Int.le_refl _) hf
  · exact one _ _ (Int.le_refl _) hf
  · intro v hv
    have ha := h8 rfl
    obtain ⟨hne, hm⟩ := are_mem ha
    obtain rfl : v = (f.runs.headD (0, 0)).2 := by simpa [numsP] using hv
    cases hr : f.runs with
    | nil => exact absurd hr hne
    | cons s t => have := hm s (by rw [hr]; simp); simp only [List.headD_cons]; omega
  · exact runsN_range hf hl
  · have hf' : (numb f.c0 MAXN && numb f.c1 MAXN && numb f.c2 MAXN) = true := hf
    simp only [Bool.and_eq_true] at hf'
    intro v hv
    have hv' : v = f.c0 ∨ v = f.c1 ∨ v = f.c2 := by simpa [numsP] using hv
    rcases hv' with rfl | rfl | rfl
    · exact one _ _ (Int.le_refl _) hf'.1.1 _ (by simp)
    · exact one _ _ (Int.le_refl _) hf'.1.2 _ (by simp)
    · exact one _ _ (Int.le_refl _) hf'.2 _ (by simp)
  · intro v hv
    have hf' : decide ((f.data.length : Int) ≤ MAXN - f.offset) = true := hf
    rw [decide_eq_true_eq] at hf'
    obtain rfl : v = (f.data.length : Int) := by simpa [numsP] using hv
    unfold MAXN at *; omega
  · intro v hv; cases hv
  · intro v hv; cases hv
  · intro v hv; cases hv

theorem typeF_range {f : Fr} (h : isKindF f.kind = true) : 0 ≤ typeF f ∧ typeF f ≤ 100 := by
  have hk := kind_dom h
  have b1 := one_bounds (decide (f.offset > 0)); have b2 := one_bounds (!f.tail); have b3 := one_bounds f.fin
  have b4 := one_bounds f.marks; have b5 := one_bounds f.uni; have b6 := one_bounds f.own
  unfold typeF
  (repeat' split) <;> omega

/-- What is told: numbers that can be written, not too many; an error is one of two. -/
theorem tell_ok {f : Fr} {n rs : List Int} (h : tellF f = .inl (n, rs)) (hl : (f.runs.length : Int) ≤ MAXN) : (∀ v ∈ n, 0 ≤ v ∧ v ≤ MAXN) ∧ n.length ≤ 9 + 2 * f.runs.length ∧ (rs = f.data ∨ (rs.length ≤ 65534 ∧ f.runs = [])) ∧ (f.runs = [] ∨ f.data = []) := by
  unfold tellF at h
  by_cases hk : isKindF f.kind = true
  · obtain ⟨bare, l, hs⟩ := type_some hk
    rw [if_pos hk, hs] at h
    simp only at h
    by_cases hm : mayF f bare l = true
    · rw [if_pos hm] at h
      simp only [Sum.inl.injEq, Prod.mk.injEq] at h
      obtain ⟨rfl, rfl⟩ := h
      have off := may_off hm
      have hm0 := hm
      unfold mayF at hm
      simp only [Bool.and_eq_true] at hm
      obtain ⟨⟨⟨⟨q1, q2⟩, q3⟩, q4⟩, -⟩ := hm
      have le14 : l.1 ≤ 14 ∧ l.2.1 ≤ 14 ∧ l.2.2.1 ≤ 14 ∧ l.2.2.2 ≤ 14 := by
        rcases shape_parts hs with e | e | e | e | e | e | e | e | e | e | e | e | e | e | e | e | e <;> (rw [e]; decide)
      have h8 : l.1 = 8 ∨ l.2.1 = 8 ∨ l.2.2.1 = 8 ∨ l.2.2.2 = 8 → areF f.runs = true := fun h => by
        have : l.2.2.1 = 9 := by
          rcases shape_parts hs with e | e | e | e | e | e | e | e | e | e | e | e | e | e | e | e | e <;> (rw [e] at h ⊢ <;> (revert h; decide))
        rw [this] at q3
        exact q3
      refine ⟨fun v hv => ?_, ?_, ?_, may_one hs hm0⟩
      · rcases List.mem_cons.1 hv with rfl | hv
        · have := typeF_range hk; unfold MAXN; omega
        · simp only [List.mem_append] at hv
          rcases hv with ((hv | hv) | hv) | hv
          · exact numsP_range le14.1 q1 (fun e => h8 (by omega)) off.1 hl v hv
          · exact numsP_range le14.2.1 q2 (fun e => h8 (by omega)) off.1 hl v hv
          · exact numsP_range le14.2.2.1 q3 (fun e => h8 (by omega)) off.1 hl v hv
          · exact numsP_range le14.2.2.2 q4 (fun e => h8 (by omega)) off.1 hl v hv
      · have p1 := numsP_len2 f l.1; have p2 := numsP_len2 f l.2.1; have p3 := numsP_len2 f l.2.2.1; have p4 := numsP_len2 f l.2.2.2
        simp only [List.length_cons, List.length_append]
        rcases shape_parts hs with e | e | e | e | e | e | e | e | e | e | e | e | e | e | e | e | e <;> (rw [e] at p1 p2 p3 p4 ⊢; simp at p1 p2 p3 p4 ⊢; omega)
      · unfold restF
        split
        · rename_i e14
          right
          rw [e14] at q1
          have e : fitsF f 14 = numb (f.size - 1) 65534 := rfl
          rw [e] at q1
          unfold numb at q1
          simp only [Bool.and_eq_true, decide_eq_true_eq] at q1
          refine ⟨by rw [List.length_replicate]; omega, may_runs hm0 ?_⟩
          rcases shape_parts hs with e | e | e | e | e | e | e | e | e | e | e | e | e | e | e | e | e <;> (rw [e] at e14 ⊢; revert e14; decide)
        · exact .inl rfl
    · rw [if_neg hm] at h; cases h
  · rw [if_neg hk] at h; cases h

theorem tell_err {f : Fr} {x : Int} (h : tellF f = .inr x) : x = 41 ∨ x = 42 := by
  unfold tellF at h
  by_cases hk : isKindF f.kind = true
  · obtain ⟨bare, l, hs⟩ := type_some hk
    rw [if_pos hk, hs] at h
    simp only at h
    by_cases hm : mayF f bare l = true
    · rw [if_pos hm] at h; cases h
    · rw [if_neg hm] at h; cases h; exact .inr rfl
  · rw [if_neg hk] at h; cases h; exact .inl rfl
end Go.Proofs.Ytggjeamondampaa
