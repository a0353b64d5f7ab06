/- Layer 3: Whole, the code's and the document's. -/
import Derived.Test.YtpcnpdippnljpaaKQC
namespace Go.Proofs.Ytpcnpdippnljpaa
open Go.RowKit
set_option maxRecDepth 100000
set_option linter.unusedVariables false

def wholeV (l low w : Int) : Int := nearF (l + 1) (l + 1 - (l + 1) % st w + low) (l + 1 - (l + 1) % st w + low + st w) (l + 1 - (l + 1) % st w + low - st w)

def upV (l low s : Int) : Int := (low - (l + 1) % s + s) % s
def refV (l low s : Int) : Int :=
  if 4611686018427387903 < l + 1 + upV l low s then l + 1 + upV l low s - s
  else if l + 1 + upV l low s - s < 0 ∨ upV l low s ≤ l + 1 - (l + 1 + upV l low s - s) then l + 1 + upV l low s else l + 1 + upV l low s - s

def WholeBad (l low w : Int) : Prop := l < -1 ∨ 4611686018427387903 < l ∨ w < 1 ∨ 4 < w ∨ st w ≤ low

theorem st_pos (w : Int) : 0 < st w ∧ st w ≤ 4294967296 := by unfold st; (repeat' split) <;> omega

theorem whole_bad (l low w : Int) (W : World) (h0 : 0 ≤ low ∧ low < 4294967296) (hb : WholeBad l low w) :
    Calls Try.prog 90 #[.int .i64 l, .int .u32 low, .int .i64 w] W fun r w' => r = .returned (.tuple #[.int .i64 0, .int .i64 1]) ∧ w' = W := by
  unfold WholeBad at hb
  by_cases h1 : l < -1 ∨ 4611686018427387903 < l
  · clear hb
    go_enter Try.func90, Try.ntmps90
    go_wp2_with fail
    all_goals go_ret2
    all_goals exact ⟨rfl, rfl⟩
  by_cases h2 : 1 ≤ w ∧ w ≤ 4
  · have h3 : st w ≤ low := by omega
    have n1 := isWidth_any w W
    have n2 := stretch_any w W h2
    rw [decide_eq_true h2] at n1
    have hp := st_pos w
    generalize st w = s at *
    have q1 : -1 ≤ l := by omega
    have q2 : l ≤ 4611686018427387903 := by omega
    clear hb h1 h2
    go_enter Try.func90, Try.ntmps90
    go_wp2_with (first | (go_at_call 58; refine n1.mono ?_; rintro e w' ⟨rfl, hw'⟩; subst w') | (go_at_call 59; refine n2.mono ?_; rintro e w' ⟨rfl, hw'⟩; subst w'))
    go_ret2
    exact ⟨rfl, rfl⟩
  · have n1 := isWidth_any w W
    rw [decide_eq_false h2] at n1
    have q1 : -1 ≤ l := by omega
    have q2 : l ≤ 4611686018427387903 := by omega
    clear hb h1 h2
    go_enter Try.func90, Try.ntmps90
    go_wp2_with (first | (go_at_call 58; refine n1.mono ?_; rintro e w' ⟨rfl, hw'⟩; subst w'))
    go_ret2
    exact ⟨rfl, rfl⟩

set_option maxHeartbeats 800000 in
theorem whole_good (l low w : Int) (W : World) (h1 : -1 ≤ l) (h2 : l ≤ 4611686018427387903) (hw : 1 ≤ w ∧ w ≤ 4) (h3 : 0 ≤ low ∧ low < st w) (V : Int) (hV : V = wholeV l low w) :
    Calls Try.prog 90 #[.int .i64 l, .int .u32 low, .int .i64 w] W fun r w' => r = .returned (.tuple #[.int .i64 V, .int .i64 0]) ∧ Below W.heap.size W w' := by
  have c2 := isWidth_any w W
  have c3 := fun W' => stretch_any w W' hw
  rw [decide_eq_true hw] at c2
  have y := box1 (heap_alloc_new W (.cells #[.int .i64 (l + 1)] 2))
  have N : ∀ (n : Nat) (x y z : Int), Bd x → Bd y → Bd z → Calls Try.prog 95 #[.agg #[.int .i64 x, .int .i64 y, .int .i64 z], .func (.func 94) #[] #[.pointer (some ⟨W.heap.size, 0, none⟩)]] ((W.alloc (.cells #[.int .i64 (l + 1)] 2)).drewN n) fun r w' => r = .returned (.int .i64 (nearF (l + 1) x y z)) ∧ Below W.heap.size W w' := fun n x y z hx hy hz =>
    (nearest_any W.heap.size (l + 1) x y z ((W.alloc (.cells #[.int .i64 (l + 1)] 2)).drewN n) (box1 (heap_alloc_new W (.cells #[.int .i64 (l + 1)] 2))) (by simp) (by omega) hx hy hz).mono fun r w' ⟨a, bel⟩ =>
      ⟨a, (bel_drewN ((Below.refl _ _).alloc (Nat.le_refl _) _) _).trans (bel.mono (by simp))⟩
  unfold wholeV at hV
  have HV := hide hV
  clear hV
  obtain rfl | rfl | rfl | rfl : w = 1 ∨ w = 2 ∨ w = 3 ∨ w = 4 := by omega
  all_goals first
    | rw [show st 1 = 256 from rfl] at *
    | rw [show st 2 = 65536 from rfl] at *
    | rw [show st 3 = 16777216 from rfl] at *
    | rw [show st 4 = 4294967296 from rfl] at *
  all_goals
    clear hw
    go_enter Try.func90, Try.ntmps90
    go_wp2_with (first | (go_at_call 58; refine c2.mono ?_; rintro e w' ⟨rfl, hw'⟩; subst w') | (go_at_call 59; refine (c3 _).mono ?_; rintro e w' ⟨rfl, hw'⟩; subst w'))
    go_quiet (fail)
    go_wp2_with fail
    refine (N _ _ _ _ (by unfold Bd; omega) (by unfold Bd; omega) (by unfold Bd; omega)).mono ?_
    rintro e w' ⟨rfl, bel2⟩
    rw [← unhide HV]
    clear HV y c2 c3 N
    go_wp2_with fail
    go_ret2
    exact ⟨rfl, bel2⟩

theorem ret_pair {a b : Int} (h : a = b) : Ending.returned (.tuple #[.int .i64 a, .int .i64 0]) = .returned (.tuple #[.int .i64 b, .int .i64 0]) := by rw [h]

end Go.Proofs.Ytpcnpdippnljpaa
