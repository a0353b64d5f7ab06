/- Plain: numbers laid one behind the other. -/
import Derived.Test.YtommpeibdohdjabPA
namespace Go.Proofs.Ytommpeibdohdjab
open Go.RowKit
set_option linter.unusedVariables false

def bytesOf : List (Int × Nat) → List Int
  | [] => []
  | c :: r => layF c.1 c.2 ++ bytesOf r
def pairs : List (Int × Nat) → Int → List (Int × Int)
  | [], _ => []
  | c :: r, s => (s, c.1) :: pairs r (s + (c.2 : Int))
def Good (cs : List (Int × Nat)) : Prop := ∀ c ∈ cs, 0 ≤ c.1 ∧ Fits c.1 c.2

theorem pairs_length : ∀ (cs : List (Int × Nat)) (s : Int), (pairs cs s).length = cs.length
  | [], _ => rfl
  | c :: r, s => by simp [pairs, pairs_length r]
theorem bytesOf_snoc : ∀ (cs : List (Int × Nat)) (c : Int × Nat), bytesOf (cs ++ [c]) = bytesOf cs ++ layF c.1 c.2
  | [], c => by simp [bytesOf]
  | d :: r, c => by simp [bytesOf, bytesOf_snoc r c]
theorem pairs_snoc : ∀ (cs : List (Int × Nat)) (c : Int × Nat) (s : Int), pairs (cs ++ [c]) s = pairs cs s ++ [(s + ((bytesOf cs).length : Int), c.1)]
  | [], c, s => by simp [pairs, bytesOf]
  | d :: r, c, s => by
    simp only [List.cons_append, pairs, pairs_snoc r c, bytesOf, List.length_append, layF_length]
    congr 3
    simp
    omega
theorem bytesOf_byte : ∀ (cs : List (Int × Nat)), Good cs → ∀ x ∈ bytesOf cs, IsB x
  | [], _ => by simp [bytesOf]
  | c :: r, h => by
    intro x hx
    simp only [bytesOf, List.mem_append] at hx
    rcases hx with hx | hx
    · exact layF_byte c.1 c.2 (h c (by simp)).1 (h c (by simp)).2 x hx
    · exact bytesOf_byte r (fun d hd => h d (by simp [hd])) x hx
theorem bytesOf_length : ∀ (cs : List (Int × Nat)), Good cs → (bytesOf cs).length ≤ 8 * cs.length
  | [], _ => by simp [bytesOf]
  | c :: r, h => by
    have h1 := bytesOf_length r (fun d hd => h d (by simp [hd]))
    have h2 := (h c (by simp)).2
    unfold Fits at h2
    simp only [bytesOf, List.length_append, layF_length, List.length_cons]
    omega
theorem all_pairs : ∀ (cs : List (Int × Nat)) (pre : List Int), Good cs → allG (pre ++ bytesOf cs) pre.length = pairs cs pre.length
  | [], pre, _ => by
    simp only [bytesOf, List.append_nil, pairs]
    exact allG_end _ _ (by rw [getF_end]; decide)
  | c :: r, pre, h => by
    have hc := h c (by simp)
    have hb := get_back pre (bytesOf r) c.1 c.2 hc.2 hc.1
    have ih := all_pairs r (pre ++ layF c.1 c.2) (fun d hd => h d (by simp [hd]))
    rw [List.length_append, layF_length] at ih
    simp only [bytesOf, pairs]
    rw [← List.append_assoc]
    rw [allG_ok _ _ (by rw [hb]), hb]
    simp only
    congr 1
theorem all_row (cs : List (Int × Nat)) (h : Good cs) : allG (bytesOf cs) 0 = pairs cs 0 := by
  have := all_pairs cs [] h
  simpa using this
end Go.Proofs.Ytommpeibdohdjab
