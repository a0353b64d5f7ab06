import Derived.Test.YtmfbbamaleagiaaDoorXG
namespace Go.Proofs.YtmfbbamaleagiaaDoor
open Go.RowKit
set_option linter.unusedVariables false
set_option maxRecDepth 100000

theorem ownsRow_open {w : World} {base : Nat} {e : TypeId} {v : Value} {n : Nat} {xs : List Value} (h : w.ownsRow base e 1 v n xs) (hn : n ≠ 0) : ∃ g cap, v = .slice (some ⟨g, 0, none⟩) n cap ∧ base ≤ g ∧ g < w.heap.size ∧ n ≤ cap ∧ cap ≤ maxLen := by
  have hl := h.lt
  rcases h.2 with ⟨_, h0⟩ | ⟨g, cap, cur, rfl, hb, hg, hnc, hm, _⟩
  · exact absurd h0 hn
  · exact ⟨g, cap, rfl, hb, (hl g rfl).2, hnc, hm⟩

theorem layF_cons (v : Int) (m : Nat) (c : Int) (hc : markF (m + 1) = c) : layF v (m + 1) = (v / 256 ^ m % 256 + c) :: dig v m := by
  simp only [layF, dig, hc]

set_option maxHeartbeats 1600000 in
theorem rputAs_ok (v : Int) (n m idx : Nat) (w : World) (v0 : 0 ≤ v) (hn : n = m + 1) (hn8 : n ≤ 8) (hf : Fits v n) (hi : idx < 4) (hid : szA idx = n) (hnot : ∀ k, k < 4 → k ≠ idx → szA k ≠ n) (hmk : markF n = 64 * (idx : Int)) (hfst : v < firstF n) (hd : v / 256 ^ m % 256 ≤ 63) :
    Calls Tryd.prog 44 #[.int .u64 v, .int .i64 n] w fun e w' => ∃ s, e = .returned (.tuple #[s, .int .i64 0]) ∧ w'.ownsRow w.heap.size 5 1 s n (vals (layF v n)) ∧ Below w.heap.size w w' := by
  have v1 : v < 18446744073709551616 := by rcases hf with ⟨_, h⟩ | ⟨_, h⟩ | ⟨_, h⟩ | ⟨_, h⟩ <;> omega
  have hne : (firstF n == 0) = false := by simp; omega
  have HID := hide hid; have HNOT := hide hnot; have HF := hide hf
  have HL : Hid (vals (layF v n) = .int .u8 (v / 256 ^ m % 256 + 64 * (idx : Int)) :: vals (dig v m)) := by
    show _ = _
    subst hn; rw [layF_cons v m _ hmk]; rfl
  have HD : Hid (vals (dig v n) = .int .u8 (v / 256 ^ m % 256) :: vals (dig v m)) := by
    show _ = _
    subst hn; rfl
  have d0 : 0 ≤ v / 256 ^ m % 256 := by omega
  have hn0 : n ≠ 0 := by omega
  clear hid hnot hf hmk hn
  go_enter Tryd.func44, Tryd.ntmps44
  go_wp2_with (first
    | (go_at_call 51; refine (first_any _ _).mono ?_; rintro e w' ⟨rfl, hw⟩; subst w')
    | (go_at_call 52; refine (digits_any v n _ v0 v1 hn8).mono ?_; rintro e w1 ⟨s, rfl, hown, hbel⟩))
  refine (sizes_any _).mono ?_
  rintro e w2 ⟨rfl, rfl⟩
  obtain ⟨g, cap, rfl, hg, hgl, hnc, hcm⟩ := ownsRow_open hown hn0
  have hs := heap_alloc_new w1 szs
  have hown1 := hown.alloc szs
  have hbel1 := hbel.alloc hbel.size szs
  have hgs : w1.heap.size < (w1.alloc szs).heap.size := by simp
  have HS := hide hs; have HO := hide hown1; have HB := hide hbel1
  generalize hsb : w1.heap.size = gs at HS hgs hgl ⊢
  generalize w1.alloc szs = W at HS HO HB hgs ⊢
  clear hs hown1 hbel1 hown hbel hsb w1
  unfold maxLen at hcm
  go_wp2_with fail
  go_loopw [9] (fun i wr => ∃ k : Nat, k ≤ 4 ∧ i = .int .i64 k ∧ wr.heap[gs]? = some szs ∧ (k ≤ idx → wr.ownsRow w.heap.size 5 1 (.slice (some ⟨g, 0, none⟩) n cap) n (vals (dig v n))) ∧ (idx < k → wr.ownsRow w.heap.size 5 1 (.slice (some ⟨g, 0, none⟩) n cap) n (vals (layF v n))) ∧ Below w.heap.size w wr) (fun i _ => 4 - (intOf i).toNat)
  case atStart => exact ⟨0, by omega, rfl, unhide HS, fun _ => unhide HO, fun h => by omega, unhide HB⟩
  case round =>
    obtain ⟨k, hk, rfl, hsz, hA, hB, hbel⟩ := hrel
    by_cases hlt : k < 4
    · have hc := szs_cell hsz k hlt
      by_cases hki : k = idx
      · have heq : (szA k == (n : Int)) = true := by rw [hki, beq_iff_eq]; exact unhide HID
        have own := hA (by omega)
        have hc0 : wr.cell? ⟨g, 0, none⟩ = some (.int .u8 (v / 256 ^ m % 256)) := by rw [own.cellAt 0 (by omega), unhide HD]; rfl
        have hf0 := own.frozenAt 0
        have hst := own.stored 0 (.int .u8 (v / 256 ^ m % 256 + 64 * (k : Int)))
        have HST := hide hst
        have HA := hide hA; have HB2 := hide hB; have HBEL := hide hbel; have HZ := hide hsz; have HKI := hide hki
        have hk3 : (k : Int) ≤ 3 := by omega
        have hgne : gs ≠ g := by omega
        clear hst hA hB hbel hsz own hki
        generalize v / 256 ^ m % 256 = D at *
        go_wp2_with fail
        go_roundw
        case rel =>
          refine ⟨k + 1, by omega, by go_num, ?_, fun h => by have := unhide HKI; omega, fun _ => ?_, ?_⟩
          · rw [(unhide HST).2.block gs (lt_of_block (unhide HZ)) (by simp; exact hgne)]; exact unhide HZ
          · have := (unhide HST).1
            rw [unhide HD] at this
            rw [unhide HL, ← unhide HKI]
            exact this
          · exact (unhide HBEL).grown (unhide HST).2 (unhide HBEL).size (fun q hq => by cases hq; exact hg)
        case measure => simp [intOf]; omega
      · have heq : (szA k == (n : Int)) = false := by rw [beq_eq_false_iff_ne]; exact unhide HNOT k hlt hki
        have HA := hide hA; have HB2 := hide hB; have HBEL := hide hbel; have HZ := hide hsz; have HKI := hide hki
        clear hA hB hbel hsz hki
        go_wp2_with fail
        go_roundw
        case rel => exact ⟨k + 1, by omega, by go_num, unhide HZ, fun h => unhide HA (by omega), fun h => unhide HB2 (by have := unhide HKI; omega), unhide HBEL⟩
        case measure => simp [intOf]; omega
    · have own := hB (by omega)
      clear hA hB
      go_wp2_with fail
      go_ret2
      exact ⟨_, rfl, own, hbel⟩
end Go.Proofs.YtmfbbamaleagiaaDoor
