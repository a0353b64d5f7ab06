/- Layer 3: Whole. -/
import Derived.Test.YtpcnpdippnljpaaKQA
import Derived.BigQuiet
namespace Go.Proofs.Ytpcnpdippnljpaa
open Go.RowKit
set_option maxRecDepth 100000
set_option linter.unusedVariables false

def farF (e x : Int) : Int := max (x - e) (e - x)
def stepF (e b x : Int) : Int := if 0 ≤ x ∧ x ≤ 4611686018427387903 ∧ (b < 0 ∨ farF e x < farF e b ∨ (farF e x = farF e b ∧ b < x)) then x else b
def nearF (e x y z : Int) : Int := stepF e (stepF e (stepF e (-1) x) y) z

/-- The best of the first k. -/
def bestF (e x y z : Int) : Nat → Int
  | 0 => -1
  | 1 => stepF e (-1) x
  | 2 => stepF e (stepF e (-1) x) y
  | _ => nearF e x y z

theorem cell_alloc_old (w : World) (o : Obj) (b : Nat) (hb : b < w.heap.size) : (w.alloc o).cell? ⟨b, 0, none⟩ = w.cell? ⟨b, 0, none⟩ := World.cell?_of_block (Below.heap_alloc w o _ (by simpa using hb))

theorem box1 {w : World} {k : Nat} {x : Value} {t : TypeId} (h : w.heap[k]? = some (.cells #[x] t)) : w.cell? ⟨k, 0, none⟩ = some x := by simp [World.cell?, h]

/-- Far from the ends. -/
def Bd (t : Int) : Prop := -4611686018427387904 < t ∧ t < 4620000000000000000

theorem far_any (b : Nat) (e x : Int) (w : World) (hc : w.cell? ⟨b, 0, none⟩ = some (.int .i64 e)) (he : 0 ≤ e ∧ e ≤ 4611686018427387904) (hx : -4611686018427387904 < x ∧ x < 4620000000000000000) :
    Calls Try.prog 94 #[.int .i64 x, .pointer (some ⟨b, 0, none⟩)] w fun r w' => r = .returned (.int .i64 (farF e x)) ∧ w' = w := by
  go_enter Try.func94, Try.ntmps94
  go_wp2
  all_goals go_ret
  all_goals exact ⟨ret_int (by unfold farF; omega), rfl⟩

set_option maxHeartbeats 3200000 in
theorem nearest_any (b : Nat) (e x y z : Int) (w : World) (hc : w.cell? ⟨b, 0, none⟩ = some (.int .i64 e)) (hb : b < w.heap.size) (he : 0 ≤ e ∧ e ≤ 4611686018427387904)
    (hx : -4611686018427387904 < x ∧ x < 4620000000000000000) (hy : -4611686018427387904 < y ∧ y < 4620000000000000000) (hz : -4611686018427387904 < z ∧ z < 4620000000000000000) :
    Calls Try.prog 95 #[.agg #[.int .i64 x, .int .i64 y, .int .i64 z], .func (.func 94) #[] #[.pointer (some ⟨b, 0, none⟩)]] w fun r w' => r = .returned (.int .i64 (nearF e x y z)) ∧ Below w.heap.size w w' := by
  have i0 : ∀ w : World, (Instr.index 49 (.agg #[.int .i64 x, .int .i64 y, .int .i64 z]) (.int .i64 0)).run Try.prog w = .ok (.int .i64 x) w := fun _ => by kernel_rfl
  have i1 : ∀ w : World, (Instr.index 49 (.agg #[.int .i64 x, .int .i64 y, .int .i64 z]) (.int .i64 1)).run Try.prog w = .ok (.int .i64 y) w := fun _ => by kernel_rfl
  have i2 : ∀ w : World, (Instr.index 49 (.agg #[.int .i64 x, .int .i64 y, .int .i64 z]) (.int .i64 2)).run Try.prog w = .ok (.int .i64 z) w := fun _ => by kernel_rfl
  go_enter Try.func95, Try.ntmps95
  go_wp2_with fail
  generalize hW : w.alloc (.cells #[.int .i64 x, .int .i64 y, .int .i64 z] 49) = W at *
  have hc' : W.cell? ⟨b, 0, none⟩ = some (.int .i64 e) := by rw [← hW]; exact (cell_alloc_old w _ _ hb).trans hc
  have bel : Below w.heap.size w W := by rw [← hW]; exact Below.alloc (Below.refl _ _) (Nat.le_refl _) _
  have HB := hide bel
  clear bel hW hc hb
  have H0 := hide (And.intro hx (And.intro hy hz))
  clear hx hy hz
  go_loopw [5, 9] (fun s i wr => ∃ (k : Nat) (q : Int), k ≤ 3 ∧ i = .int .i64 k ∧ s = .int .i64 q ∧ q = bestF e x y z k ∧ (-4611686018427387904 < q ∧ q < 4620000000000000000) ∧ wr = W) (fun _ i _ => 3 - (intOf i).toNat)
  case atStart => exact ⟨0, -1, by omega, rfl, rfl, rfl, by omega, rfl⟩
  case round =>
    obtain ⟨k, q, hk, rfl, rfl, hq, hqb, rfl⟩ := hrel
    obtain ⟨hx, hy, hz⟩ := unhide H0
    have hf := fun t (ht : Bd t) => far_any b e t wr hc' he ht
    clear he hc'
    by_cases hk3 : k = 3
    · subst hk3
      go_wp2_with fail
      go_ret
      exact ⟨by rw [hq]; rfl, unhide HB⟩
    obtain ⟨v, hvB, hi, hs⟩ : ∃ v, Bd v ∧ (∀ w : World, (Instr.index 49 (.agg #[.int .i64 x, .int .i64 y, .int .i64 z]) (.int .i64 k)).run Try.prog w = .ok (.int .i64 v) w) ∧ bestF e x y z (k + 1) = stepF e q v := by
      obtain rfl | rfl | rfl : k = 0 ∨ k = 1 ∨ k = 2 := by omega
      · exact ⟨x, hx, i0, by rw [hq]; rfl⟩
      · exact ⟨y, hy, i1, by rw [hq]; rfl⟩
      · exact ⟨z, hz, i2, by rw [hq]; rfl⟩
    have hlt : (k : Int) < 3 := by omega
    have hqB : Bd q := hqb
    have n1 := isNumber_any v wr
    unfold stepF at hs
    have HS := hide hs
    clear hs i0 i1 i2 hx hy hz hqb hq hk3 H0
    by_cases hn : 0 ≤ v ∧ v ≤ 4611686018427387903
    · rw [decide_eq_true hn] at n1
      by_cases q0 : q < 0
      · have e1 := hide (((unhide HS).trans (if_pos (by omega))).symm)
        clear HS hn
        go_wp2_with (first | (go_at_call 57; refine n1.mono ?_; rintro e w' ⟨rfl, hw'⟩; subst w') | (go_at_call 94; refine (hf _ (by assumption)).mono ?_; rintro e w' ⟨rfl, hw'⟩; subst w'))
        exact ⟨⟨k + 1, v, by omega, by go_num, rfl, unhide e1, hvB, trivial⟩, by simp [intOf]; omega⟩
      by_cases q1 : farF e v < farF e q
      · have e1 := hide (((unhide HS).trans (if_pos (by omega))).symm)
        clear HS hn
        go_wp2_with (first | (go_at_call 57; refine n1.mono ?_; rintro e w' ⟨rfl, hw'⟩; subst w') | (go_at_call 94; refine (hf _ (by assumption)).mono ?_; rintro e w' ⟨rfl, hw'⟩; subst w'))
        exact ⟨⟨k + 1, v, by omega, by go_num, rfl, unhide e1, hvB, trivial⟩, by simp [intOf]; omega⟩
      by_cases q3 : farF e v = farF e q ∧ q < v
      · have e1 := hide (((unhide HS).trans (if_pos (by omega))).symm)
        clear HS hn
        go_wp2_with (first | (go_at_call 57; refine n1.mono ?_; rintro e w' ⟨rfl, hw'⟩; subst w') | (go_at_call 94; refine (hf _ (by assumption)).mono ?_; rintro e w' ⟨rfl, hw'⟩; subst w'))
        exact ⟨⟨k + 1, v, by omega, by go_num, rfl, unhide e1, hvB, trivial⟩, by simp [intOf]; omega⟩
      by_cases q4 : farF e v = farF e q
      · have e1 := hide (((unhide HS).trans (if_neg (by omega))).symm)
        clear HS hn
        go_wp2_with (first | (go_at_call 57; refine n1.mono ?_; rintro e w' ⟨rfl, hw'⟩; subst w') | (go_at_call 94; refine (hf _ (by assumption)).mono ?_; rintro e w' ⟨rfl, hw'⟩; subst w'))
        exact ⟨⟨k + 1, q, by omega, by go_num, rfl, unhide e1, hqB, trivial⟩, by simp [intOf]; omega⟩
      · have e1 := hide (((unhide HS).trans (if_neg (by omega))).symm)
        clear HS hn
        go_wp2_with (first | (go_at_call 57; refine n1.mono ?_; rintro e w' ⟨rfl, hw'⟩; subst w') | (go_at_call 94; refine (hf _ (by assumption)).mono ?_; rintro e w' ⟨rfl, hw'⟩; subst w'))
        exact ⟨⟨k + 1, q, by omega, by go_num, rfl, unhide e1, hqB, trivial⟩, by simp [intOf]; omega⟩
    · rw [decide_eq_false hn] at n1
      have e1 := hide (((unhide HS).trans (if_neg (by omega))).symm)
      clear HS hn
      go_wp2_with (first | (go_at_call 57; refine n1.mono ?_; rintro e w' ⟨rfl, hw'⟩; subst w') | (go_at_call 94; refine (hf _ (by assumption)).mono ?_; rintro e w' ⟨rfl, hw'⟩; subst w'))
      exact ⟨⟨k + 1, q, by omega, by go_num, rfl, unhide e1, hqB, trivial⟩, by simp [intOf]; omega⟩
end Go.Proofs.Ytpcnpdippnljpaa
