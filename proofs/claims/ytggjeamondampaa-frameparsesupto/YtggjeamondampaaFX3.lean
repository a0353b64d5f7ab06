/- tell: what it tells, part by part. -/
import Derived.Test.YtggjeamondampaaFT
import Derived.Test.YtggjeamondampaaFX2
import Derived.Test.YtggjeamondampaaFG
namespace Go.Proofs.Ytggjeamondampaa
open Go.RowKit
set_option linter.unusedVariables false
set_option maxRecDepth 100000
set_option maxHeartbeats 4000000

theorem fitsW_in (f : Fr) (q : Nat) (h : 0 ≤ f.offset ∧ f.offset ≤ MAXN) : fitsW f q = fitsF f q := by
  unfold fitsW
  by_cases hq : q = 11 ∨ q = 12
  · rw [if_pos hq]
    have e : IntKind.i64.wrap (MAXN - f.offset) = MAXN - f.offset := by rw [IntKind.wrap_i64]; unfold MAXN at *; omega
    rw [e]
    unfold fitsF
    rw [if_neg (by omega), if_neg (by omega), if_neg (by omega), if_neg (by omega), if_pos hq]
  · rw [if_neg hq]
theorem setF_off (f : Fr) (q : Nat) (v : Int) (h : q ≠ 2) : (setF f q v).offset = f.offset := by
  unfold setF
  by_cases h1 : q = 1
  · rw [if_pos h1]
  · rw [if_neg h1, if_neg h]
    (repeat' split) <;> rfl
theorem takeF_off (f : Fr) (q : Nat) (h : q ≠ 2) : (takeF f q).offset = f.offset := by
  unfold takeF
  by_cases h0 : q = 0 ∨ q = 8
  · rw [if_pos h0]
  by_cases h1 : q = 9
  · rw [if_neg h0, if_pos h1]
  by_cases h2 : q = 10
  · rw [if_neg h0, if_neg h1, if_pos h2]
  by_cases h3 : q = 11 ∨ q = 12 ∨ q = 13
  · rw [if_neg h0, if_neg h1, if_neg h2, if_pos h3]
  · rw [if_neg h0, if_neg h1, if_neg h2, if_neg h3]; exact setF_off f q 0 h
theorem fits_off (f : Fr) (h : ¬ (0 ≤ f.offset ∧ f.offset ≤ MAXN)) : fitsF f 2 = false ∧ fitsW f 2 = false := by
  have e : fitsF f 2 = numb f.offset MAXN := rfl
  have e2 : fitsW f 2 = fitsF f 2 := rfl
  rw [e2, e]
  have : numb f.offset MAXN = false := by
    unfold numb
    rw [Bool.and_eq_false_iff, decide_eq_false_iff_not, decide_eq_false_iff_not]
    omega
  exact ⟨this, this⟩
theorem bare_off (L bare : Fr) (h : L.offset ≠ 0) : bareF L bare = false := by
  rw [bareF_chain]
  have : (L.offset == 0) = false := by simpa using h
  rw [this]
  simp

theorem mayW_mayF (f bare : Fr) (l : Parts) : mayW f bare l = mayF f bare l := by
  have e4 : fitsTo f l 4 = (fitsW f l.1 && fitsW f l.2.1 && fitsW f l.2.2.1 && fitsW f l.2.2.2) := by simp [fitsTo, nth]
  have el : leftF f l 4 = takeF (takeF (takeF (takeF f l.1) l.2.1) l.2.2.1) l.2.2.2 := rfl
  unfold mayW mayF
  rw [e4, el]
  by_cases h : 0 ≤ f.offset ∧ f.offset ≤ MAXN
  · rw [fitsW_in f _ h, fitsW_in f _ h, fitsW_in f _ h, fitsW_in f _ h]
  · obtain ⟨f1, f2⟩ := fits_off f h
    by_cases h1 : l.1 = 2
    · rw [h1, f1, f2]; simp
    by_cases h2 : l.2.1 = 2
    · rw [h2, f1, f2]; simp
    by_cases h3 : l.2.2.1 = 2
    · rw [h3, f1, f2]; simp
    by_cases h4 : l.2.2.2 = 2
    · rw [h4, f1, f2]; simp
    have ho : (takeF (takeF (takeF (takeF f l.1) l.2.1) l.2.2.1) l.2.2.2).offset ≠ 0 := by
      rw [takeF_off _ _ h4, takeF_off _ _ h3, takeF_off _ _ h2, takeF_off _ _ h1]
      intro e; rw [e] at h; unfold MAXN at h; omega
    rw [bare_off _ _ ho]; simp

/-- Every type of the table has parts. -/
theorem shape_some {k : Int} (h : (k = 0 ∨ k = 1 ∨ k = 30 ∨ k = 2 ∨ k = 3 ∨ k = 4 ∨ k = 5 ∨ k = 6) ∨ (8 ≤ k ∧ k ≤ 15) ∨ (k = 16 ∨ k = 20 ∨ k = 17 ∨ k = 21 ∨ k = 19 ∨ k = 23 ∨ k = 18 ∨ k = 22 ∨ k = 26 ∨ k = 27 ∨ k = 28 ∨ k = 29)) : ∃ bare l, shapeF k = some (bare, l) := by
  have h' : k = 0 ∨ k = 1 ∨ k = 30 ∨ k = 2 ∨ k = 3 ∨ k = 4 ∨ k = 5 ∨ k = 6 ∨ k = 8 ∨ k = 9 ∨ k = 10 ∨ k = 11 ∨ k = 12 ∨ k = 13 ∨ k = 14 ∨ k = 15 ∨ k = 16 ∨ k = 20 ∨ k = 17 ∨ k = 21 ∨ k = 19 ∨ k = 23 ∨ k = 18 ∨ k = 22 ∨ k = 26 ∨ k = 27 ∨ k = 28 ∨ k = 29 := by omega
  rcases h' with rfl | rfl | rfl | rfl | rfl | rfl | rfl | rfl | rfl | rfl | rfl | rfl | rfl | rfl | rfl | rfl | rfl | rfl | rfl | rfl | rfl | rfl | rfl | rfl | rfl | rfl | rfl | rfl
  all_goals exact ⟨_, _, rfl⟩

theorem kind_dom {k : Int} (h : isKindF k = true) : k = 0 ∨ k = 1 ∨ k = 2 ∨ k = 4 ∨ k = 5 ∨ k = 6 ∨ k = 8 ∨ k = 16 ∨ k = 17 ∨ k = 18 ∨ k = 20 ∨ k = 21 ∨ k = 22 ∨ k = 26 ∨ k = 27 ∨ k = 28 ∨ k = 30 := by
  have hd : ∃ g p, shapeF k = some (g, p) := by
    unfold isKindF at h
    cases hs : shapeF k with
    | none => rw [hs] at h; simp at h
    | some x => exact ⟨x.1, x.2, rfl⟩
  obtain ⟨g, p, hs⟩ := hd
  have dom := shape_dom hs
  by_cases hb : k = 3 ∨ k = 9 ∨ k = 10 ∨ k = 11 ∨ k = 12 ∨ k = 13 ∨ k = 14 ∨ k = 15 ∨ k = 19 ∨ k = 23 ∨ k = 29
  · exfalso
    rcases hb with rfl | rfl | rfl | rfl | rfl | rfl | rfl | rfl | rfl | rfl | rfl
    all_goals exact absurd h (by decide)
  · omega

theorem type_some {f : Fr} (h : isKindF f.kind = true) : ∃ bare l, shapeF (typeF f) = some (bare, l) := by
  have hk := kind_dom h
  refine shape_some ?_
  have b1 := one_bounds (decide (f.offset > 0)); have b2 := one_bounds (!f.tail); have b3 := one_bounds f.fin
  have b4 := one_bounds f.marks; have b5 := one_bounds f.uni; have b6 := one_bounds f.own
  unfold typeF
  (repeat' split) <;> omega

/-- The numbers of the first parts. -/
def numsTo (f : Fr) (p : Parts) : Nat → List Int
  | 0 => []
  | k + 1 => numsTo f p k ++ numsP f (nth p k)
/-- What stands behind all numbers, behind the first parts. -/
def restTo (f : Fr) (p : Parts) : Nat → List Int
  | 0 => f.data
  | k + 1 => if nth p k = 14 then List.replicate (f.size - 1).toNat 0 else restTo f p k

theorem numsTo_mono (f : Fr) (p : Parts) (k n : Nat) (h : k ≤ n) : (numsTo f p k).length ≤ (numsTo f p n).length := by
  induction n with
  | zero => obtain rfl : k = 0 := by omega
            exact Nat.le_refl _
  | succ n ih =>
    by_cases e : k = n + 1
    · rw [e]; exact Nat.le_refl _
    · have := ih (by omega)
      simp only [numsTo, List.length_append]; omega
theorem runsN_len (L : List (Int × Int)) : (runsN L).length ≤ 2 * L.length := by
  have hg : ∀ (l : List (Int × Int)) (lo : Int), (gapsF lo l).length = 2 * l.length := fun l => by
    induction l with
    | nil => intro lo; rfl
    | cons s l ih => intro lo; simp only [gapsF, List.length_cons, ih]; omega
  cases L with
  | nil => simp [runsN]
  | cons r l => simp only [runsN, List.length_cons, hg]; omega
theorem numsP_len (f : Fr) (q : Nat) : (numsP f q).length ≤ (if q = 9 then 2 * f.runs.length else 3) := by
  have := runsN_len f.runs
  unfold numsP
  (repeat' split) <;> simp <;> omega
end Go.Proofs.Ytggjeamondampaa
