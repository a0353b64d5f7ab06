/- hurries, wait; Add and Cut of a set with what they leave; raise, keep; Len, Runs. -/
import Derived.Test.YtielpjdjlmkejaaZH
namespace Go.Proofs.Ytielpjdjlmkejaa
open Go.RowKit
set_option linter.unusedVariables false
set_option maxHeartbeats 400000
set_option maxRecDepth 100000

theorem hurries_any (a : Arr) (w : World) (hb : -1 ≤ a.largest ∧ a.largest ≤ 4611686018427387904) : Calls Try.prog 51 #[a.v] w fun e w' => e = .returned (.bool a.hurries) ∧ w.grownBy w' none := by
  obtain ⟨W1, hW1⟩ : ∃ W1, W1 = w.alloc (.cells #[.int .i64 a.space, .int .i64 a.number, .int .i64 a.largest, .int .i64 a.mark, .bool a.waits] 71) := ⟨_, rfl⟩
  have hr := reasons_any W1
  obtain ⟨W2, hW2⟩ : ∃ W2, W2 = W1.alloc (.cells #[fnv 88, fnv 89, fnv 90, fnv 91] 103) := ⟨_, rfl⟩
  rw [← hW2] at hr
  have g1 : w.grownBy W1 none := by rw [hW1]; exact grown_alloc _ _
  have g2 : W1.grownBy W2 none := by rw [hW2]; exact grown_alloc _ _
  have bA : Blk W1 w.heap.size #[.int .i64 a.space, .int .i64 a.number, .int .i64 a.largest, .int .i64 a.mark, .bool a.waits] 71 := by rw [hW1]; exact Blk.new _ _ _
  have bF : Blk W2 W1.heap.size #[fnv 88, fnv 89, fnv 90, fnv 91] 103 := by rw [hW2]; exact Blk.new _ _ _
  have bA2 := bA.grown g2
  have key : Hid (∀ k W, k < 4 → W2.grownBy W none → ∃ f, W.cell? ⟨W1.heap.size, k, none⟩ = some (.func (.func f) #[] #[]) ∧ (∀ args w, (callFunc f args).run Try.prog w = .ok (.enter f args) w) ∧ ∀ W', Calls Try.prog f #[a.v] W' fun e w' => e = .returned (.bool (a.why k)) ∧ W'.grownBy w' none) := by
    intro k W hk hg
    have bW := bF.grown hg
    match k, hk with
    | 0, _ => exact ⟨_, bW.cell 0 _ rfl, enters_of Try.func88 (by kernel_rfl) rfl, r1_any a⟩
    | 1, _ => exact ⟨_, bW.cell 1 _ rfl, enters_of Try.func89 (by kernel_rfl) rfl, r2_any a⟩
    | 2, _ => exact ⟨_, bW.cell 2 _ rfl, enters_of Try.func90 (by kernel_rfl) rfl, fun W' => r3_any a W' hb⟩
    | 3, _ => exact ⟨_, bW.cell 3 _ rfl, enters_of Try.func91 (by kernel_rfl) rfl, r4_any a⟩
  have BA := hide bA2
  have GG := hide (grown_trans g1 g2)
  clear hb g2 bF bA bA2 hW2 g1
  unfold Arr.v at *
  generalize W1.heap.size = g at *
  go_enter Try.func51, Try.ntmps51
  go_wp2_with fail
  rw [← hW1]
  clear hW1
  refine hr.mono ?_
  rintro e W2' ⟨rfl, rfl⟩
  clear hr
  go_wp2_with fail
  go_loopw [7] (fun i wr => ∃ k : Nat, k ≤ 4 ∧ i = .int .i64 k ∧ Hid (W2'.grownBy wr none ∧ ∀ j, j < k → a.why j = false)) (fun i _ => 4 - (intOf i).toNat)
  case atStart => exact ⟨0, by omega, rfl, grown_self _ _, fun j hj => absurd hj (Nat.not_lt_zero _)⟩
  case round =>
    obtain ⟨k, hk, rfl, H⟩ := hrel
    by_cases hlt : k < 4
    · obtain ⟨f, cf, ef, hf⟩ := unhide key k wr hlt (unhide H).1
      have bW := (unhide BA).grown (unhide H).1
      have x0 := bW.cell 0 _ rfl
      have x1 := bW.cell 1 _ rfl
      have x2 := bW.cell 2 _ rfl
      have x3 := bW.cell 3 _ rfl
      have x4 := bW.cell 4 _ rfl
      have hf1 := hf wr
      have hkI : (k : Int) < 4 := by omega
      have HL := hide hlt
      clear bW hf
      cases hy : a.why k with
      | true =>
        rw [hy] at hf1
        have Y := hide hy
        clear hy
        go_wp2_with fail
        refine hf1.mono ?_
        rintro e w' ⟨rfl, hg⟩
        have G := hide hg
        clear hg hf1
        go_wp2_with fail
        go_ret
        refine ⟨?_, grown_trans (grown_trans (unhide GG) (unhide H).1) (unhide G)⟩
        have hk4 := unhide HL
        have y := unhide Y
        have : a.hurries = true := by
          unfold Arr.hurries
          match k, hk4, y with
          | 0, _, y => simp [y]
          | 1, _, y => simp [y]
          | 2, _, y => simp [y]
          | 3, _, y => simp [y]
        rw [this]; rfl
      | false =>
        rw [hy] at hf1
        have Y := hide hy
        clear hy
        go_wp2_with fail
        refine hf1.mono ?_
        rintro e w' ⟨rfl, hg⟩
        have G := hide hg
        clear hg hf1
        go_wp2_with fail
        go_roundw
        case rel =>
          refine ⟨k + 1, unhide HL, by go_num, grown_trans (unhide H).1 (unhide G), fun j hj => ?_⟩
          by_cases c : j = k
          · rw [c]; exact unhide Y
          · exact (unhide H).2 j (by omega)
        case measure => have := unhide HL; simp [intOf]; omega
    · have hno : ¬ (k : Int) < 4 := by omega
      have E : Hid (a.hurries = false) := by
        have := (unhide H).2
        unfold Arr.hurries
        rw [this 0 (by omega), this 1 (by omega), this 2 (by omega), this 3 (by omega)]
        rfl
      go_wp2_with fail
      go_ret
      exact ⟨by rw [unhide E]; rfl, grown_trans (unhide GG) (unhide H).1⟩
end Go.Proofs.Ytielpjdjlmkejaa
