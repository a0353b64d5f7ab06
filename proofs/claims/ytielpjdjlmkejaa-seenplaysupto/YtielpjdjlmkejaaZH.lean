/- Fresh, count, the reasons, hurries, wait. -/
import Derived.Test.YtielpjdjlmkejaaZG
import Derived.Test.YtielpjdjlmkejaaSH
namespace Go.Proofs.Ytielpjdjlmkejaa
open Go.RowKit
set_option linter.unusedVariables false
set_option maxHeartbeats 400000
set_option maxRecDepth 100000

def freshF (s : Sn) (n : Int) : Bool := decide (s.floor < n) && (decide (n ≤ 4611686018427387903) && !memB n s.L)

theorem fresh_any (b bs : Nat) (v : Value) (s : Sn) (n : Int) (w : World) (h : SN w b bs v s) (hL : Ok s.L) :
    Calls Try.prog 12 #[ptr b, .int .i64 n] w fun e w' => e = .returned (.bool (freshF s n)) ∧ w.grownBy w' none := by
  have c3 := h.cells.2.2.2.1
  have c4 := h.cells.2.2.2.2.1
  have hh := has_any bs 0 n v s.L w h.set hL
  unfold freshF
  clear h hL
  generalize memB n s.L = m at *
  generalize s.floor = f at *
  by_cases h1 : f < n
  · have d1 : decide (f < n) = true := decide_eq_true h1
    by_cases h2 : n ≤ 4611686018427387903
    · have d2 : decide (n ≤ 4611686018427387903) = true := decide_eq_true h2
      go_enter Try.func12, Try.ntmps12
      go_wp2_with fail
      refine hh.mono ?_
      rintro e w' ⟨rfl, hg⟩
      have G := hide hg
      clear hh hg
      go_wp2_with fail
      go_ret
      exact ⟨by simp [h1, h2], unhide G⟩
    · have d2 : decide (n ≤ 4611686018427387903) = false := decide_eq_false h2
      clear hh
      go_enter Try.func12, Try.ntmps12
      go_wp2_with fail
      go_ret
      exact ⟨by simp, grown_self _ _⟩
  · have d1 : decide (f < n) = false := decide_eq_false h1
    clear hh
    go_enter Try.func12, Try.ntmps12
    go_wp2_with fail
    go_ret
    exact ⟨by simp, grown_self _ _⟩

def countF (mark : Int) (s : Sn) : Sn := { s with c0 := if mark = 1 then s.c0 + 1 else s.c0, c2 := if mark = 2 then s.c2 + 1 else s.c2 }

theorem count_seen (b bs : Nat) (v : Value) (s : Sn) (mark : Int) (w : World) (h : SN w b bs v s) (h0 : 0 ≤ s.c0 ∧ s.c0 < 9223372036854775807) (h2 : 0 ≤ s.c2 ∧ s.c2 < 9223372036854775807) :
    Calls Try.prog 34 #[ptr b, .int .i64 mark] w fun e w' => e = .returned (.tuple #[]) ∧ SN w' b bs v (countF mark s) ∧ Kp (fun g => g = b) w w' := by
  by_cases m1 : mark = 1
  · subst m1
    have q1 := h.put (s' := countF 1 s) 7 (.int .i64 (s.c0 + 1)) (by simp [countF, snc]) rfl
    have c7 := h.cells.2.2.2.2.2.2.2.1
    have t7 := h.blk.thaw 7
    have F := hide (And.intro q1 (kp_put w b 7 (.int .i64 (s.c0 + 1))))
    clear h q1
    generalize s.c0 = c at *
    have hw : IntKind.i64.wrap (c + 1) = c + 1 := by rw [IntKind.wrap_i64]; omega
    go_enter Try.func34, Try.ntmps34
    go_wp2_with fail
    go_region
    all_goals go_wp2
    all_goals refine bodyPost_end (results_none rfl _ _ _) rfl ?_
    all_goals exact ⟨rfl, (unhide F).1.kept (fun _ _ => rfl), (unhide F).2.drewN 1⟩
  · by_cases m2 : mark = 2
    · subst m2
      have q1 := h.put (s' := countF 2 s) 9 (.int .i64 (s.c2 + 1)) (by simp [countF, snc]) rfl
      have c7 := h.cells.2.2.2.2.2.2.2.2.2.1
      have t7 := h.blk.thaw 9
      have F := hide (And.intro q1 (kp_put w b 9 (.int .i64 (s.c2 + 1))))
      clear h q1
      generalize s.c2 = c at *
      have hw : IntKind.i64.wrap (c + 1) = c + 1 := by rw [IntKind.wrap_i64]; omega
      go_enter Try.func34, Try.ntmps34
      go_wp2_with fail
      go_region
      all_goals go_wp2
      all_goals refine bodyPost_end (results_none rfl _ _ _) rfl ?_
      all_goals exact ⟨rfl, (unhide F).1.kept (fun _ _ => rfl), (unhide F).2.drewN 1⟩
    · have e : countF mark s = s := by unfold countF; rw [if_neg m1, if_neg m2]
      rw [e]
      have F := hide h
      clear h e h0 h2
      go_enter Try.func34, Try.ntmps34
      go_wp2
      refine bodyPost_end (results_none rfl _ _ _) rfl ?_
      exact ⟨rfl, unhide F, Kp.refl _ _⟩

/-- What counts of a packet that elicits. -/
structure Arr where
  space : Int
  number : Int
  largest : Int
  mark : Int
  waits : Bool

def Arr.v (a : Arr) : Value := .agg #[.int .i64 a.space, .int .i64 a.number, .int .i64 a.largest, .int .i64 a.mark, .bool a.waits]
def Arr.why (a : Arr) : Nat → Bool
  | 0 => decide (a.space ≠ 2)
  | 1 => a.waits
  | 2 => decide (a.number < a.largest) || (decide (a.largest + 1 < a.number) && decide (a.largest ≠ -1))
  | 3 => decide (a.mark = 2)
  | _ => false
def Arr.hurries (a : Arr) : Bool := a.why 0 || a.why 1 || a.why 2 || a.why 3

theorem r1_any (a : Arr) (w : World) : Calls Try.prog 88 #[a.v] w fun e w' => e = .returned (.bool (a.why 0)) ∧ w.grownBy w' none := by
  unfold Arr.v Arr.why
  generalize a.space = x
  go_enter Try.func88, Try.ntmps88
  go_wp2
  all_goals go_ret
  all_goals exact ⟨by by_cases hx : x = 2 <;> simp [hx], grown_alloc _ _⟩
theorem r2_any (a : Arr) (w : World) : Calls Try.prog 89 #[a.v] w fun e w' => e = .returned (.bool (a.why 1)) ∧ w.grownBy w' none := by
  unfold Arr.v Arr.why
  generalize a.waits = x
  go_enter Try.func89, Try.ntmps89
  go_wp2
  all_goals go_ret
  all_goals exact ⟨by simp, grown_alloc _ _⟩
theorem r4_any (a : Arr) (w : World) : Calls Try.prog 91 #[a.v] w fun e w' => e = .returned (.bool (a.why 3)) ∧ w.grownBy w' none := by
  unfold Arr.v Arr.why
  generalize a.mark = x
  go_enter Try.func91, Try.ntmps91
  go_wp2
  all_goals go_ret
  all_goals exact ⟨by by_cases hx : x = 2 <;> simp [hx], grown_alloc _ _⟩
theorem r3_any (a : Arr) (w : World) (hb : -1 ≤ a.largest ∧ a.largest ≤ 4611686018427387904) : Calls Try.prog 90 #[a.v] w fun e w' => e = .returned (.bool (a.why 2)) ∧ w.grownBy w' none := by
  unfold Arr.v Arr.why
  generalize a.largest = l at *
  generalize a.number = n at *
  have hw : IntKind.i64.wrap (l + 1) = l + 1 := by rw [IntKind.wrap_i64]; omega
  by_cases h1 : n < l
  · have d1 : decide (n < l) = true := decide_eq_true h1
    go_enter Try.func90, Try.ntmps90
    go_wp2
    all_goals go_ret
    all_goals exact ⟨by simp [*], grown_alloc _ _⟩
  · have d1 : decide (n < l) = false := decide_eq_false h1
    by_cases h2 : l + 1 < n
    · have d2 : decide (l + 1 < n) = true := decide_eq_true h2
      go_enter Try.func90, Try.ntmps90
      go_wp2
      all_goals go_ret
      all_goals exact ⟨by by_cases hx : l = -1 <;> simp [*], grown_alloc _ _⟩
    · have d2 : decide (l + 1 < n) = false := decide_eq_false h2
      go_enter Try.func90, Try.ntmps90
      go_wp2
      all_goals go_ret
      all_goals exact ⟨by simp [*], grown_alloc _ _⟩

abbrev fnv (f : Nat) : Value := .func (.func f) #[] #[]
theorem reasons_any (w : World) : Calls Try.prog 70 #[] w fun e w' => e = .returned (.slice (some ⟨w.heap.size, 0, none⟩) 4 4) ∧ w' = w.alloc (.cells #[fnv 88, fnv 89, fnv 90, fnv 91] 103) := by
  go_enter Try.func70, Try.ntmps70
  go_wp2
  go_ret
  exact ⟨rfl, rfl⟩
end Go.Proofs.Ytielpjdjlmkejaa
