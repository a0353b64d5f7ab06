/- New, Forget. -/
import Derived.Test.YtielpjdjlmkejaaZK
namespace Go.Proofs.Ytielpjdjlmkejaa
open Go.RowKit
set_option linter.unusedVariables false
set_option maxHeartbeats 400000
set_option maxRecDepth 100000

def sn0 (space delay : Int) : Sn := ⟨space, delay, 0, [], -1, -1, 0, 0, 0, false, never⟩
def rightF (space delay : Int) : Prop := 0 ≤ space ∧ space ≤ 2 ∧ 0 ≤ delay ∧ delay ≤ 68719476736
instance (space delay : Int) : Decidable (rightF space delay) := by unfold rightF; infer_instance

theorem new_right (space delay : Int) (w : World) (h : rightF space delay) :
    Calls Try.prog 7 #[.int .i64 space, .int .i64 delay] w fun e w' => e = .returned (.tuple #[ptr (w.heap.size + 1), .int .i64 0]) ∧ SN w' (w.heap.size + 1) w.heap.size (.slice none 0 0) (sn0 space delay) ∧ w.grownBy w' none := by
  obtain ⟨h1, h2, h3, h4⟩ := h
  have ho := of_none w
  have F : Hid (∀ W, W = w.alloc (.cells #[.int .i64 0, .slice none 0 0] 83) → W.heap.size = w.heap.size + 1 ∧ SN (W.alloc (.cells (snc w.heap.size (sn0 space delay)) 63)) (w.heap.size + 1) w.heap.size (.slice none 0 0) (sn0 space delay) ∧ w.grownBy (W.alloc (.cells (snc w.heap.size (sn0 space delay)) 63)) none) := by
    rintro W rfl
    have e := alloc_size w (.cells #[.int .i64 0, .slice none 0 0] 83)
    refine ⟨e, ⟨?_, ?_, ?_⟩, grown_trans (grown_alloc _ _) (grown_alloc _ _)⟩
    · rw [← e]; exact Blk.new _ _ _
    · exact (Blk.new w #[.int .i64 0, .slice none 0 0] 83).alloc _
    · exact row_nil _
  have d1 : decide (space < 0) = false := decide_eq_false (by omega)
  have d2 : decide (2 < space) = false := decide_eq_false (by omega)
  have d3 : decide (delay < 0) = false := decide_eq_false (by omega)
  have d4 : decide (68719476736 < delay) = false := decide_eq_false (by omega)
  go_enter Try.func7, Try.ntmps7
  go_wp2_with fail
  refine ho.mono ?_
  rintro e W ⟨rfl, hW⟩
  obtain ⟨f1, f2, f3⟩ := unhide F W hW
  have G := hide (And.intro f2 f3)
  clear ho F hW f2 f3
  go_wp2_with fail
  go_ret2
  exact ⟨rfl, unhide G⟩

theorem new_wrong (space delay : Int) (w : World) (h : ¬ rightF space delay) :
    Calls Try.prog 7 #[.int .i64 space, .int .i64 delay] w fun e w' => e = .returned (.tuple #[.pointer none, .int .i64 1]) ∧ w' = w := by
  unfold rightF at h
  by_cases h1 : space < 0
  · have d1 : decide (space < 0) = true := decide_eq_true h1
    go_enter Try.func7, Try.ntmps7
    go_wp2_with fail
    go_ret2
    exact ⟨rfl, rfl⟩
  · have d1 : decide (space < 0) = false := decide_eq_false h1
    by_cases h2 : 2 < space
    · have d2 : decide (2 < space) = true := decide_eq_true h2
      go_enter Try.func7, Try.ntmps7
      go_wp2_with fail
      go_ret2
      exact ⟨rfl, rfl⟩
    · have d2 : decide (2 < space) = false := decide_eq_false h2
      by_cases h3 : delay < 0
      · have d3 : decide (delay < 0) = true := decide_eq_true h3
        go_enter Try.func7, Try.ntmps7
        go_wp2_with fail
        go_ret2
        exact ⟨rfl, rfl⟩
      · have d3 : decide (delay < 0) = false := decide_eq_false h3
        have h4 : 68719476736 < delay := by omega
        have d4 : decide (68719476736 < delay) = true := decide_eq_true h4
        go_enter Try.func7, Try.ntmps7
        go_wp2_with fail
        go_ret2
        exact ⟨rfl, rfl⟩

def forgetF (n : Int) (s : Sn) : Sn := if (raiseF (min n s.largest) s).L = [] then restF0 (raiseF (min n s.largest) s) else raiseF (min n s.largest) s

theorem forget_any (b bs : Nat) (v : Value) (s : Sn) (n : Int) (w : World) (h : SN w b bs v s) (hL : Ok s.L) (hl : s.largest ≤ 4611686018427387904) :
    Calls Try.prog 18 #[ptr b, .int .i64 n] w fun e w' => e = .returned (.tuple #[]) ∧ To b bs v w (forgetF n s) w' := by
  have c5 := h.cells.2.2.2.2.2.1
  obtain ⟨m, hm⟩ : ∃ m, m = min n s.largest := ⟨_, rfl⟩
  have hr := raise_any b bs v s m w h hL (by omega)
  have S : Hid (forgetF n s = if (raiseF m s).L = [] then restF0 (raiseF m s) else raiseF m s) := by rw [hm]; rfl
  generalize forgetF n s = s' at *
  generalize raiseF m s = s1 at *
  have H := hide hm
  clear h hL hm
  generalize s.largest = l at *
  by_cases hc : n ≤ l
  all_goals
    have hx : min n l = m := by have := unhide H; omega
    clear H
    go_enter Try.func18, Try.ntmps18
    go_wp2_with fail
  all_goals
    first
      | (have hm2 : n = m := by omega)
      | (have hm2 : l = m := by omega)
  all_goals
    rw [hm2]
    refine hr.mono ?_
    rintro e W ⟨rfl, v1, h1, o1, k1⟩
    have c3 := h1.cells.2.2.2.1
    have hl := len_set bs v1 s1.L W h1.set
    have T := hide (And.intro h1 (And.intro o1 k1))
    clear hr h1 o1 k1 c5
    go_wp2_with fail
    refine hl.mono ?_
    rintro e W' ⟨rfl, rfl⟩
    clear hl
    by_cases hnil : s1.L = []
    · have S' := hide ((unhide S).trans (if_pos hnil))
      have hre := rest_any b bs v1 s1 W' (unhide T).1
      have h0 : s1.L.length = 0 := by rw [hnil]; rfl
      rw [h0]
      clear S hnil h0
      go_wp2_with fail
      refine hre.mono ?_
      rintro e W2 ⟨rfl, h2, k2⟩
      have Z := hide (And.intro h2 k2)
      clear hre h2 k2
      go_wp2_with fail
      refine bodyPost_end (results_none rfl _ _ _) rfl ?_
      refine ⟨rfl, ?_⟩
      rw [unhide S']
      exact To.step (unhide T).2.1 (unhide T).2.2 (To.of (unhide Z).1 (unhide Z).2)
    · have S' := hide ((unhide S).trans (if_neg hnil))
      have h0 : 0 < s1.L.length := List.length_pos_iff.2 hnil
      have h0b : ((s1.L.length : Int) == 0) = false := by simp; omega
      clear S hnil
      generalize s1.L.length = q at *
      go_wp2_with fail
      refine bodyPost_end (results_none rfl _ _ _) rfl ?_
      refine ⟨rfl, ?_⟩
      rw [unhide S']
      exact ⟨v1, (unhide T).1, (unhide T).2.1, (unhide T).2.2⟩
end Go.Proofs.Ytielpjdjlmkejaa
