/- Add, Cut of runs, plain. -/
import Derived.Test.YtnflbefbgcbdfaaGreatSX0
namespace Go.Proofs.YtnflbefbgcbdfaaGreat
set_option maxRecDepth 100000
open Go.RowKit
set_option linter.unusedVariables false
set_option maxHeartbeats 400000

/-- What Add makes of runs (no bound). -/
def addF (lo hi : Int) (L : List Sp) : List Sp :=
  L.filter (fun s => decide (s.2 < lo - 1)) ++ ([grownF lo hi (L.filter (fun s => decide (lo - 1 ≤ s.2) && decide (s.1 ≤ hi + 1)))] ++ L.filter (fun s => decide (hi + 1 < s.1)))
/-- What Cut makes of runs (no bound). -/
def cutF (lo hi : Int) (L : List Sp) : List Sp :=
  L.filter (fun s => decide (s.2 < lo)) ++ (restF lo hi (L.filter (fun s => decide (lo ≤ s.2) && decide (s.1 ≤ hi))) ++ L.filter (fun s => decide (hi < s.1)))

def addS (most lo hi : Int) (L : List Sp) : List Sp := if hi < lo then L else boundF most (addF lo hi L)
def cutS (most lo hi : Int) (L : List Sp) : List Sp := if hi < lo then L else boundF most (cutF lo hi L)
def addN (lo hi : Int) (L : List Sp) : Int := if hi < lo then 0 else toldF (holesF lo hi L)
def cutN (lo hi : Int) (L : List Sp) : Int := if hi < lo then 0 else toldF (withinF lo hi L)

theorem filter3 {p q r : Sp → Bool} {A M D : List Sp} (hA : ∀ s ∈ A, p s = true ∧ q s = false ∧ r s = false) (hM : ∀ s ∈ M, p s = false ∧ q s = true ∧ r s = false) (hD : ∀ s ∈ D, p s = false ∧ q s = false ∧ r s = true) :
    (A ++ (M ++ D)).filter p = A ∧ (A ++ (M ++ D)).filter q = M ∧ (A ++ (M ++ D)).filter r = D := by
  have hno : ∀ {f : Sp → Bool} {X : List Sp}, (∀ s ∈ X, f s = false) → X.filter f = [] := fun h => List.filter_eq_nil_iff.2 fun s hs => by simp [h s hs]
  have hall : ∀ {f : Sp → Bool} {X : List Sp}, (∀ s ∈ X, f s = true) → X.filter f = X := fun h => List.filter_eq_self.2 h
  simp only [List.filter_append]
  rw [hall fun s hs => (hA s hs).1, hno fun s hs => (hM s hs).1, hno fun s hs => (hD s hs).1, hno fun s hs => (hA s hs).2.1, hall fun s hs => (hM s hs).2.1, hno fun s hs => (hD s hs).2.1, hno fun s hs => (hA s hs).2.2, hno fun s hs => (hM s hs).2.2, hall fun s hs => (hD s hs).2.2]
  simp

theorem addF_split {mn mx lo hi : Int} {A M D : List Sp} (h : Good mn mx (A ++ (M ++ D))) (hlh : lo ≤ hi) (hA : ∀ s ∈ A, s.2 < lo - 1) (hM : ∀ s ∈ M, lo - 1 ≤ s.2 ∧ s.1 ≤ hi + 1) (hD : ∀ s ∈ D, hi + 1 < s.1 ∧ lo - 1 ≤ s.2) : addF lo hi (A ++ (M ++ D)) = A ++ ([grownF lo hi M] ++ D) := by
  obtain ⟨e1, e2, e3⟩ := filter3 (p := fun s => decide (s.2 < lo - 1)) (q := fun s => decide (lo - 1 ≤ s.2) && decide (s.1 ≤ hi + 1)) (r := fun s => decide (hi + 1 < s.1)) (A := A) (M := M) (D := D)
    (fun s hs => by have := hA s hs; have := h.left.mem hs; simp; omega) (fun s hs => by have := hM s hs; simp; omega) (fun s hs => by have := hD s hs; simp; omega)
  unfold addF
  rw [e1, e2, e3]

theorem cutF_split {mn mx lo hi : Int} {A M D : List Sp} (h : Good mn mx (A ++ (M ++ D))) (hlh : lo ≤ hi) (hA : ∀ s ∈ A, s.2 < lo) (hM : ∀ s ∈ M, lo ≤ s.2 ∧ s.1 ≤ hi) (hD : ∀ s ∈ D, hi < s.1 ∧ lo ≤ s.2) : cutF lo hi (A ++ (M ++ D)) = A ++ (restF lo hi M ++ D) := by
  obtain ⟨e1, e2, e3⟩ := filter3 (p := fun s => decide (s.2 < lo)) (q := fun s => decide (lo ≤ s.2) && decide (s.1 ≤ hi)) (r := fun s => decide (hi < s.1)) (A := A) (M := M) (D := D)
    (fun s hs => by have := hA s hs; have := h.left.mem hs; simp; omega) (fun s hs => by have := hM s hs; simp; omega) (fun s hs => by have := hD s hs; simp; omega)
  unfold cutF
  rw [e1, e2, e3]

/-- What is kept: apart; how many numbers; not many runs more. -/
theorem addF_good {L : List Sp} {lo hi : Int} (h : Good (-9223372036854775808) 9223372036854775807 L) (hlh : lo ≤ hi) (hlo : -9223372036854775808 ≤ lo) (hhi : hi ≤ 9223372036854775807) :
    Good (-9223372036854775808) 9223372036854775807 (addF lo hi L) ∧ cnt (addF lo hi L) = cnt L + cnt (holesF lo hi L) ∧ (addF lo hi L).length ≤ L.length + 1 := by
  obtain ⟨A, M, D, rfl, hA, hM, hD⟩ := split3 (lo - 1) (hi + 1) h (by omega)
  rw [addF_split h hlh hA hM hD]
  have := add_good h hlh hlo hhi hA hM hD
  exact ⟨this.1, this.2, by simp only [List.length_append, List.length_cons, List.length_nil]; omega⟩

theorem restF_length (lo hi : Int) (M : List Sp) : (restF lo hi M).length ≤ M.length + 1 := by
  cases M with
  | nil => simp [restF]
  | cons m M =>
    simp only [restF, List.length_append, List.length_cons]
    have h1 : (if m.1 < lo then [(m.1, lo - 1)] else []).length ≤ 1 := by split <;> simp
    have h2 : (if hi < (M.getLastD m).2 then [(hi + 1, (M.getLastD m).2)] else []).length ≤ 1 := by split <;> simp
    omega

theorem cutF_good {L : List Sp} {lo hi : Int} (h : Good (-9223372036854775808) 9223372036854775807 L) (hlh : lo ≤ hi) :
    Good (-9223372036854775808) 9223372036854775807 (cutF lo hi L) ∧ cnt (cutF lo hi L) = cnt L - cnt (withinF lo hi L) ∧ (cutF lo hi L).length ≤ L.length + 1 := by
  obtain ⟨A, M, D, rfl, hA, hM, hD⟩ := split3 lo hi h (by omega)
  rw [cutF_split h hlh hA hM hD]
  have := cut_good h hlh hA hM hD
  have hl := restF_length lo hi M
  exact ⟨this.1, this.2, by simp only [List.length_append]; omega⟩

theorem boundF_good {mn mx most : Int} {L : List Sp} (h : Good mn mx L) : Good mn mx (boundF most L) ∧ (boundF most L).length ≤ L.length := by
  unfold boundF
  split
  · rw [← List.take_append_drop (L.length - most.toNat) L] at h
    exact ⟨h.right, by simp⟩
  · exact ⟨h, Nat.le_refl _⟩

end Go.Proofs.YtnflbefbgcbdfaaGreat
