/- RunsCounts. -/
import Derived.Test.YtebpcgljmcdllabSC
import Derived.Test.YtebpcgljmcdllabOP
import Derived.Deep.RegionHeld3
namespace Go.Proofs.Ytebpcgljmcdllab
open Go.RowKit
set_option linter.unusedVariables false
set_option maxHeartbeats 400000

theorem toldF_small {L : List Sp} (h : cnt L ≤ 18446744073709551615) : toldF L = cnt L := by unfold toldF; omega

/-- Behind an Add: what is told; what is counted. -/
theorem add_counts {L : List Sp} {lo hi : Int} (h : Good (-9223372036854775808) 9223372036854775807 L) (hc : cnt L < 18446744073709551615) (hlo : -9223372036854775808 ≤ lo) (hhi : hi ≤ 9223372036854775807) :
    Good (-9223372036854775808) 9223372036854775807 (addS 0 lo hi L) ∧ (addS 0 lo hi L).length ≤ L.length + 1 ∧ 0 ≤ addN lo hi L ∧ addN lo hi L ≤ 18446744073709551615 ∧ (toldF (addS 0 lo hi L) ≠ 18446744073709551615 → cnt (addS 0 lo hi L) < 18446744073709551615 ∧ cnt L + addN lo hi L = cnt (addS 0 lo hi L)) := by
  have hb : ∀ X, boundF 0 X = X := fun X => by unfold boundF; rw [if_neg (by omega)]
  unfold addS addN
  by_cases hlh : hi < lo
  · rw [if_pos hlh, if_pos hlh]
    exact ⟨h, by omega, by omega, by omega, fun _ => ⟨hc, by omega⟩⟩
  · rw [if_neg hlh, if_neg hlh, hb]
    have hg := addF_good h (by omega) hlo hhi
    have hh := (holes_good h (show lo ≤ hi by omega)).1
    have h0 := cnt_nonneg hh
    have hle := cnt_nonneg h
    refine ⟨hg.1, hg.2.2, by unfold toldF; omega, by unfold toldF; omega, fun hn => ?_⟩
    unfold toldF at hn ⊢
    have := hg.2.1
    omega

theorem cut_counts {L : List Sp} {lo hi : Int} (h : Good (-9223372036854775808) 9223372036854775807 L) (hc : cnt L < 18446744073709551615) :
    Good (-9223372036854775808) 9223372036854775807 (cutS 0 lo hi L) ∧ (cutS 0 lo hi L).length ≤ L.length + 1 ∧ 0 ≤ cutN lo hi L ∧ cutN lo hi L ≤ cnt L ∧ cnt (cutS 0 lo hi L) < 18446744073709551615 ∧ cnt L - cutN lo hi L = cnt (cutS 0 lo hi L) := by
  have hb : ∀ X, boundF 0 X = X := fun X => by unfold boundF; rw [if_neg (by omega)]
  have hle := cnt_nonneg h
  unfold cutS cutN
  by_cases hlh : hi < lo
  · rw [if_pos hlh, if_pos hlh]
    exact ⟨h, by omega, by omega, by omega, hc, by omega⟩
  · rw [if_neg hlh, if_neg hlh, hb]
    have hg := cutF_good h (show lo ≤ hi by omega)
    have h0 := cnt_nonneg (within_good h (show lo ≤ hi by omega))
    have h1 := cnt_nonneg hg.1
    have := hg.2.1
    refine ⟨hg.1, hg.2.2, by unfold toldF; omega, by unfold toldF; omega, by omega, by unfold toldF; omega⟩

set_option maxRecDepth 100000 in
theorem counts_walk (a : Option Addr) (len cap : Nat) (w : World) (hops : IsOps w a len cap) :
    Calls Try.prog 3 #[.slice a len cap] w fun e w' => e = .returned (.bool true) ∧ w.grownBy w' none := by
  have hsh := shown_ok w
  have ADD := hide (fun w0 w b (most : Int) L (h : LS w0 w b most L) (hL : Ok L) lo hi h1 h2 => add_ls h hL lo hi h1 h2)
  obtain ⟨h1, h2, hcells⟩ := hops
  unfold maxLen at h2
  have HC := hide hcells
  clear hcells
  go_enter Try.func3, Try.ntmps3
  go_wp2_with fail
  refine hsh.mono ?_
  rintro e W0 ⟨rfl, g0⟩
  clear hsh
  go_wp2_with fail
  refine (new_ls w W0 0 (by decide) g0).mono ?_
  rintro e W1 ⟨rfl, l0⟩
  have L0 := hide l0
  clear l0 g0
  generalize W0.heap.size = b at *
  go_wp2
  go_loopw [6, 7] (fun n i wr => ∃ (k : Nat) (L : List Sp), k ≤ len ∧ k ≤ 2000 ∧ i = .int .i64 k ∧ n = .int .u64 (cnt L) ∧ LS w wr b 0 L ∧ Good (-9223372036854775808) 9223372036854775807 L ∧ L.length ≤ k ∧ cnt L < 18446744073709551615) (fun _ i _ => len - (intOf i).toNat)
  case atStart => exact ⟨0, [], Nat.zero_le _, by omega, rfl, rfl, unhide L0, trivial, by simp, by simp [cnt]⟩
  case round =>
    obtain ⟨k, L, hk, hk2, rfl, rfl, hls, hgd, hll, hcn⟩ := hrel
    by_cases hlt : k < len
    · by_cases hlt2 : k < 2000
      · obtain ⟨bo, off, rfl, hcs⟩ := (unhide HC).resolve_left (by omega)
        obtain ⟨kd, hh, lo, hi, c0, -, c2, c3, r1, r2, r3, r4⟩ := hcs k hlt
        have d0 := cell_grown_none hls.grown c0
        have d2 := cell_grown_none hls.grown c2
        have d3 := cell_grown_none hls.grown c3
        have hokL : Ok L := ⟨hgd, by omega⟩
        have hA := fun w1 w2 (h : LS w1 w2 b 0 L) => unhide ADD _ _ _ _ _ h hokL lo hi r1 r4
        have hC := fun w1 w2 (h : LS w1 w2 b 0 L) => cut_ls h hokL lo hi r1 r4
        have hkn : (k : Int) < (len : Int) := by omega
        have hkd : decide ((k : Int) < (len : Int)) = true := decide_eq_true hkn
        have hk3 : (k : Int) < 2000 := by omega
        have hc0 := cnt_nonneg hgd
        by_cases hq : kd = 2
        · subst hq
          obtain ⟨s1, s2, s3, s4, s5, s6⟩ := cut_counts (lo := lo) (hi := hi) hgd hcn
          have hls' := hide hls
          have HS := hide (And.intro s1 (And.intro s2 (And.intro s5 (And.intro s6 hll))))
          have hok2 : Ok (cutS 0 lo hi L) := ⟨s1, by omega⟩
          have hct := fun w1 w2 (h : LS w1 w2 b 0 (cutS 0 lo hi L)) => count_ls h hok2
          have ht : toldF (cutS 0 lo hi L) = cnt (cutS 0 lo hi L) := toldF_small (by omega)
          have hz1 : ¬ (cnt L < cutN lo hi L) := by omega
          have hz2 : ¬ (cnt (cutS 0 lo hi L) = 18446744073709551615) := by omega
          have hw1 : IntKind.u64.wrap (cnt L - cutN lo hi L) = cnt (cutS 0 lo hi L) := by rw [IntKind.wrap_u64]; omega
          rw [ht] at hct
          generalize cutN lo hi L = cm at *
          generalize cutS 0 lo hi L = L2 at *
          clear hls hgd hll hcn hokL hA s1 s2 s3 s4 s5 s6 hok2 ht c0 r1 r2 r3 r4 hcs
          go_wp2
          go_region_held3 (fun W => W.cell? ⟨bo, off + k * 4 + 2, none⟩ = some (.int .i64 lo) ∧ W.cell? ⟨bo, off + k * 4 + 3, none⟩ = some (.int .i64 hi)) (go_keep) (first | (go_at_call 8; refine (hC _ _ ((unhide hls').keep (grown_drewN _ 1))).mono ?_; rintro e w' ⟨rfl, l2⟩; have y2 := cell_grown_none l2.grown c2; have y3 := cell_grown_none l2.grown c3))
          go_wp2_with fail
          refine (hct _ _ l2).mono ?_
          rintro e w3 ⟨rfl, l3⟩
          go_wp2_with fail
          refine (hct _ _ l3).mono ?_
          rintro e w4 ⟨rfl, l4⟩
          go_wp2
          obtain ⟨s1, s2, s5, s6, hll⟩ := unhide HS
          exact ⟨⟨k + 1, L2, by omega, by omega, by go_num, rfl, l4, s1, by omega, s5⟩, by simp [intOf]; omega⟩
        · obtain ⟨s1, s2, s3, s4, s5⟩ := add_counts (lo := lo) (hi := hi) hgd hcn r1 r4
          have hls' := hide hls
          have hok2 : Ok (addS 0 lo hi L) := ⟨s1, by omega⟩
          have hct := fun w1 w2 (h : LS w1 w2 b 0 (addS 0 lo hi L)) => count_ls h hok2
          generalize addN lo hi L = cm at *
          generalize addS 0 lo hi L = L2 at *
          by_cases hT : toldF L2 = 18446744073709551615
          · rw [hT] at hct
            clear hls hgd hll hcn hokL hC s1 s2 s3 s4 s5 hok2 hT c0 r1 r2 r3 r4 hcs
            go_wp2
            go_region_held3 (fun W => W.cell? ⟨bo, off + k * 4 + 2, none⟩ = some (.int .i64 lo) ∧ W.cell? ⟨bo, off + k * 4 + 3, none⟩ = some (.int .i64 hi)) (go_keep) (first | (go_at_call 9; refine (hA _ _ ((unhide hls').keep (grown_drewN _ 1))).mono ?_; rintro e w' ⟨rfl, l2⟩; have y2 := cell_grown_none l2.grown c2; have y3 := cell_grown_none l2.grown c3))
            go_wp2_with fail
            refine (hct _ _ l2).mono ?_
            rintro e w3 ⟨rfl, l3⟩
            go_wp2
            all_goals go_ret
            all_goals exact ⟨rfl, l3.grown⟩
          · obtain ⟨s6, s7⟩ := s5 hT
            have hw1 : IntKind.u64.wrap (cnt L + cm) = cnt L2 := by rw [IntKind.wrap_u64]; omega
            rw [toldF_small (show cnt L2 ≤ 18446744073709551615 by omega)] at hct hT
            have HS := hide (And.intro s1 (And.intro s2 (And.intro s6 hll)))
            clear hls hgd hll hcn hokL hC s1 s2 s3 s4 s5 s6 s7 hok2 c0 r1 r2 r3 r4 hcs
            go_wp2
            go_region_held3 (fun W => W.cell? ⟨bo, off + k * 4 + 2, none⟩ = some (.int .i64 lo) ∧ W.cell? ⟨bo, off + k * 4 + 3, none⟩ = some (.int .i64 hi)) (go_keep) (first | (go_at_call 9; refine (hA _ _ ((unhide hls').keep (grown_drewN _ 1))).mono ?_; rintro e w' ⟨rfl, l2⟩; have y2 := cell_grown_none l2.grown c2; have y3 := cell_grown_none l2.grown c3))
            go_wp2_with fail
            refine (hct _ _ l2).mono ?_
            rintro e w3 ⟨rfl, l3⟩
            go_wp2_with fail
            refine (hct _ _ l3).mono ?_
            rintro e w4 ⟨rfl, l4⟩
            go_wp2
            obtain ⟨s1, s2, s6, hll⟩ := unhide HS
            exact ⟨⟨k + 1, L2, by omega, by omega, by go_num, rfl, l4, s1, by omega, s6⟩, by simp [intOf]; omega⟩
      · have hkd : decide ((k : Int) < (len : Int)) = true := decide_eq_true (by omega)
        have hkd2 : decide ((k : Int) < 2000) = false := decide_eq_false (by omega)
        have F := hide hls.grown
        clear hls hgd hll hcn
        go_wp2
        all_goals go_ret
        all_goals exact ⟨rfl, unhide F⟩
    · have hkd : decide ((k : Int) < (len : Int)) = false := decide_eq_false (by omega)
      have F := hide hls.grown
      clear hls hgd hll hcn
      go_wp2
      all_goals go_ret
      all_goals exact ⟨rfl, unhide F⟩
end Go.Proofs.Ytebpcgljmcdllab
