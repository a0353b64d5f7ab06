/- Plain: the numbers that stand one behind the other. -/
import Derived.Test.YtihhgminbmngcaaND
namespace Go.Proofs.Ytihhgminbmngcaa
open Go.RowKit
set_option linter.unusedVariables false
set_option maxRecDepth 100000

/-- So many numbers at the most, from a place on. -/
def allF (L : List Int) : Nat → Int → List (Int × Int)
  | 0, _ => []
  | f + 1, i => if (getF L i).2.2 = 0 then (i, (getF L i).1) :: allF L f (getF L i).2.1 else []

theorem getF_ok (L : List Int) (i : Int) (h : (getF L i).2.2 = 0) : 0 ≤ i ∧ i < L.length ∧ i < (getF L i).2.1 ∧ (getF L i).2.1 ≤ L.length := by
  rcases getF_cases L i with ⟨c, hc, e⟩ | ⟨k, rfl, hk, hs, e⟩
  · rw [e] at h; simp at h; omega
  · have := sz_size (L.getD k 0)
    rw [e]
    simp only
    omega

theorem allF_fuel (L : List Int) : ∀ (f g : Nat) (i : Int), (L.length : Int) + 1 - i ≤ f → (L.length : Int) + 1 - i ≤ g → allF L f i = allF L g i
  | 0, 0, _, _, _ => rfl
  | 0, g + 1, i, h1, _ => by
    have : ¬ (getF L i).2.2 = 0 := fun h => by have := getF_ok L i h; omega
    simp [allF, this]
  | f + 1, 0, i, _, h2 => by
    have : ¬ (getF L i).2.2 = 0 := fun h => by have := getF_ok L i h; omega
    simp [allF, this]
  | f + 1, g + 1, i, h1, h2 => by
    simp only [allF]
    split
    · rename_i h
      have := getF_ok L i h
      rw [allF_fuel L f g _ (by omega) (by omega)]
    · rfl

/-- All of them. -/
def allG (L : List Int) (i : Int) : List (Int × Int) := allF L ((L.length : Int) + 1 - i).toNat i

theorem allG_ok (L : List Int) (i : Int) (h : (getF L i).2.2 = 0) : allG L i = (i, (getF L i).1) :: allG L (getF L i).2.1 := by
  have hk := getF_ok L i h
  unfold allG
  obtain ⟨f, hf⟩ : ∃ f, ((L.length : Int) + 1 - i).toNat = f + 1 := ⟨((L.length : Int) + 1 - i).toNat - 1, by omega⟩
  rw [hf, allF, if_pos h, allF_fuel L f ((L.length : Int) + 1 - (getF L i).2.1).toNat _ (by omega) (by omega)]
theorem allG_end (L : List Int) (i : Int) (h : (getF L i).2.2 ≠ 0) : allG L i = [] := by
  unfold allG
  cases ((L.length : Int) + 1 - i).toNat with
  | zero => rfl
  | succ f => rw [allF, if_neg h]

theorem getF_bound (L : List Int) (hL : ∀ x ∈ L, IsB x) (i : Int) : 0 ≤ (getF L i).1 ∧ (getF L i).1 < 18446744073709551616 := by
  rcases getF_cases L i with ⟨c, hc, e⟩ | ⟨k, rfl, hk, hs, e⟩
  · rw [e]; simp
  · rw [e]
    have hx := hL (L.getD k 0) (by simp [List.getD, hk])
    have hz := sz_size (L.getD k 0)
    have := lay_back (L.getD k 0) ((L.drop (k + 1)).take (sz (L.getD k 0) - 1)) hx (fun y hy => hL y (List.mem_of_mem_drop (List.mem_of_mem_take hy))) (by rw [List.length_take, List.length_drop]; omega)
    have h2 := size_le _ _ this.2.1
    simp only
    omega
end Go.Proofs.Ytihhgminbmngcaa
