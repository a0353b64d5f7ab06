/- RunsKinds. -/
import Derived.Test.YtebpcgljmcdllabSG
import Derived.Test.YtebpcgljmcdllabSAi
import Derived.Deep.RegionHeld3
namespace Go.Proofs.Ytebpcgljmcdllab
open Go.RowKit
set_option linter.unusedVariables false
set_option maxHeartbeats 400000

theorem ki_addS (most lo hi : Int) (L : List Sp) : Ki.addS most lo hi L = addS most lo hi L := rfl
theorem ki_cutS (most lo hi : Int) (L : List Sp) : Ki.cutS most lo hi L = cutS most lo hi L := rfl
theorem ki_toldF (L : List Sp) : Ki.toldF L = toldF L := rfl
theorem Ok.ki {L : List Sp} (h : Ok L) : Ki.Ok L := ⟨h.good, h.size⟩

set_option maxRecDepth 100000 in
theorem kinds_walk (a : Option Addr) (len cap : Nat) (w : World) (hops : IsOps w a len cap) :
    Calls Try.prog 5 #[.slice a len cap] w fun e w' => e = .returned (.bool true) ∧ w.grownBy w' none := by
  have hsh := shown_ok w
  obtain ⟨K, LO, HI, hops⟩ := hops.fn
  have hset := fun W (hW : w.grownBy W none) => set_ok a len cap K LO HI w W hW hops
  have ADD := hide (fun w0 w b (most : Int) L (h : Ki.LS w0 w b most L) (hL : Ki.Ok L) lo hi h1 h2 => Ki.add_ls h hL lo hi h1 h2)
  obtain ⟨h1, h2, hcells⟩ := hops
  unfold maxLen at h2
  have HC := hide hcells
  have HSET := hide hset
  clear hcells hset
  go_enter Try.func5, Try.ntmps5
  go_wp2_with fail
  refine hsh.mono ?_
  rintro e W0 ⟨rfl, g0⟩
  clear hsh
  go_wp2_with fail
  refine (unhide HSET _ g0).mono ?_
  rintro e W1 ⟨rfl, l1⟩
  clear HSET
  generalize W0.heap.size = b at *
  have L1 := hide l1
  have G1 := hide l1.grown
  clear l1 g0
  go_wp2_with fail
  refine (Ki.new_ls W1 W1 0 (by decide) (Ki.grown_self W1 none)).mono ?_
  rintro e W2 ⟨rfl, l0⟩
  have L0 := hide l0
  clear l0
  generalize W1.heap.size = b2 at *
  go_wp2
  go_loopw [7] (fun i wr => ∃ (k : Nat), k ≤ len ∧ k ≤ 2000 ∧ i = .int .i64 k ∧ Ki.LS W1 wr b2 0 (runL K LO HI k)) (fun i _ => len - (intOf i).toNat)
  case atStart => exact ⟨0, Nat.zero_le _, by omega, rfl, unhide L0⟩
  case round =>
    obtain ⟨k, hk, hk2, rfl, hls⟩ := hrel
    by_cases hlt : k < len
    · by_cases hlt2 : k < 2000
      · obtain ⟨bo, off, rfl, hcs⟩ := (unhide HC).resolve_left (by omega)
        have hgl := runL_good (K := K) (LO := LO) (HI := HI) k fun i hi => ⟨(hcs i (by omega)).2.2.2.1, (hcs i (by omega)).2.2.2.2.2.2⟩
        obtain ⟨c0, c2, c3, r1, r2, r3, r4⟩ := hcs k hlt
        have e0 := cell_grown_none (unhide G1) c0
        have e2 := cell_grown_none (unhide G1) c2
        have e3 := cell_grown_none (unhide G1) c3
        have d0 := cell_grown_none hls.grown e0
        have d2 := cell_grown_none hls.grown e2
        have d3 := cell_grown_none hls.grown e3
        have hokL : Ki.Ok (runL K LO HI k) := ⟨hgl.1, by omega⟩
        have hrl : runL K LO HI (k + 1) = if K k = 2 then cutS 0 (LO k) (HI k) (runL K LO HI k) else addS 0 (LO k) (HI k) (runL K LO HI k) := rfl
        generalize LO k = lo at *
        generalize HI k = hi at *
        have hA := fun w2 (h : Ki.LS W1 w2 b2 0 (runL K LO HI k)) => unhide ADD _ _ _ _ _ h hokL lo hi r1 r4
        have hC := fun w2 (h : Ki.LS W1 w2 b2 0 (runL K LO HI k)) => Ki.cut_ls h hokL lo hi r1 r4
        simp only [ki_addS] at hA
        simp only [ki_cutS] at hC
        have hkn : (k : Int) < (len : Int) := by omega
        have hkd : decide ((k : Int) < (len : Int)) = true := decide_eq_true hkn
        have hk3 : (k : Int) < 2000 := by omega
        have hls' := hide hls
        by_cases hq : K k = 2
        · rw [if_pos hq] at hrl
          rw [hq] at d0
          rw [← hrl] at hC
          have HR := hide hrl
          clear hls hgl hokL hA r1 r2 r3 r4 hcs hrl hq c0 c2 c3 e0
          go_wp2
          go_region_held3 (fun W => W.cell? ⟨bo, off + k * 4 + 2, none⟩ = some (.int .i64 lo) ∧ W.cell? ⟨bo, off + k * 4 + 3, none⟩ = some (.int .i64 hi)) (go_keep) (first | (go_at_call 16; refine (hC _ ((unhide hls').keep (Ki.grown_drewN _ 1))).mono ?_; rintro e w' ⟨rfl, l2⟩; have y2 := cell_grown_none l2.grown e2; have y3 := cell_grown_none l2.grown e3))
          go_wp2
          exact ⟨⟨k + 1, by omega, by omega, by go_num, l2⟩, by simp [intOf]; omega⟩
        · rw [if_neg hq] at hrl
          rw [← hrl] at hA
          have HR := hide hrl
          generalize K k = kd at *
          clear hls hgl hokL hC r1 r2 r3 r4 hcs hrl c0 c2 c3 e0
          go_wp2
          go_region_held3 (fun W => W.cell? ⟨bo, off + k * 4 + 2, none⟩ = some (.int .i64 lo) ∧ W.cell? ⟨bo, off + k * 4 + 3, none⟩ = some (.int .i64 hi)) (go_keep) (first | (go_at_call 17; refine (hA _ ((unhide hls').keep (Ki.grown_drewN _ 1))).mono ?_; rintro e w' ⟨rfl, l2⟩; have y2 := cell_grown_none l2.grown e2; have y3 := cell_grown_none l2.grown e3))
          go_wp2
          exact ⟨⟨k + 1, by omega, by omega, by go_num, l2⟩, by simp [intOf]; omega⟩
      · have hkd : decide ((k : Int) < (len : Int)) = true := decide_eq_true (by omega)
        have hkd2 : decide ((k : Int) < 2000) = false := decide_eq_false (by omega)
        have hmin : min len 2000 = k := by omega
        have hq1 : (k : Int) < (len : Int) := by omega
        have hq2 : ¬ ((k : Int) < 2000) := by omega
        have hok : Ok (runL K LO HI k) := by
          have hgl := runL_good (K := K) (LO := LO) (HI := HI) k fun i hi => by
            rcases unhide HC with h0 | ⟨bo, off, _, hcs⟩
            · omega
            · exact ⟨(hcs i (by omega)).2.2.2.1, (hcs i (by omega)).2.2.2.2.2.2⟩
          exact ⟨hgl.1, by omega⟩
        have l1 := unhide L1
        rw [hmin] at l1
        have g1 := unhide G1
        generalize runL K LO HI k = L at *
        obtain ⟨v, hv, -⟩ := (l1.keep hls.grown).at_
        obtain ⟨u, hu, -⟩ := hls.at_
        have hR1 := runs_any b 0 v L _ hv (by have := hok.size; omega)
        have hR2 := fun W hW => Ki.runs_any b2 0 u L W (hu.keep hW) (by have := hok.size; omega)
        have hC1 := fun W hW => count_any b 0 v L W (hv.keep hW) hok
        have hC2 := fun W hW => Ki.count_any b2 0 u L W (hu.keep hW) hok.ki
        have HG := hide (grown_trans g1 hls.grown)
        have HR2 := hide hR2
        have HC1 := hide hC1
        have HC2 := hide hC2
        clear hR2 hC1 hC2 hv hu hls l1 g1 hok L1 G1 HC L0 ADD hk hk2
        go_wp2_with fail
        refine hR1.mono ?_
        rintro e W3 ⟨va, rfl, ra, -, g3⟩
        clear hR1
        go_wp2_with fail
        refine (unhide HR2 _ g3).mono ?_
        rintro e W4 ⟨vb, rfl, rb, -, g4⟩
        have g4' := grown_trans g3 g4
        obtain ⟨a1, c1, rfl, k1, m1, n1⟩ := (ra.keep g4).shape
        obtain ⟨a2, c2, rfl, k2, m2, n2⟩ := rb.shape
        unfold maxLen at m1 m2
        go_wp2_with fail
        refine (unhide HC1 _ g4').mono ?_
        rintro e W5 ⟨rfl, g5⟩
        go_wp2_with fail
        refine (unhide HC2 _ (grown_trans g4' g5)).mono ?_
        rintro e W6 ⟨rfl, g6⟩
        rw [ki_toldF]
        have g56 := grown_trans g5 g6
        have KK := hide (And.intro k1 (And.intro k2 g56))
        have GG := hide (grown_trans (unhide HG) (grown_trans g4' g56))
        clear k1 k2 g56 ra rb g3 g4 g4' g5 g6 HG HR2 HC1 HC2
        generalize hn : L.length = n at *
        generalize toldF L = tL at *
        go_wp2
        go_loopw [10, 11] (fun ok i wr => ∃ (k q : Nat), k ≤ n ∧ ok = .bool true ∧ i = .int .i64 k ∧ wr = W6.drewN q) (fun _ i _ => n - (intOf i).toNat)
        case atStart => exact ⟨0, 0, Nat.zero_le _, rfl, rfl, rfl⟩
        case round =>
          obtain ⟨k, q, hk, rfl, rfl, rfl⟩ := hrel
          by_cases hlt : k < n
          · obtain ⟨k1, k2, g56⟩ := unhide KK
            obtain ⟨q1, rfl, z1⟩ := k1.resolve_left (fun e => by rw [e] at hn; simp at hn; omega)
            obtain ⟨q2, rfl, z2⟩ := k2.resolve_left (fun e => by rw [e] at hn; simp at hn; omega)
            have y1 := cell_grown_none g56 (z1 k hlt).1
            have y2 := cell_grown_none g56 (z1 k hlt).2
            have y3 := cell_grown_none g56 (z2 k hlt).1
            have y4 := cell_grown_none g56 (z2 k hlt).2
            generalize (L.getD k (0, 0)).1 = s1 at *
            generalize (L.getD k (0, 0)).2 = s2 at *
            have hkn : (k : Int) < (n : Int) := by omega
            have hkd : decide ((k : Int) < (n : Int)) = true := decide_eq_true hkn
            have hN := hide hn
            clear z1 z2 k1 k2 g56 hn
            go_wp2
            go_quiet (fail)
            go_wp2
            exact ⟨⟨k + 1, _, by omega, rfl, by go_num, rfl⟩, by simp [intOf]; omega⟩
          · have hkd : decide ((k : Int) < (n : Int)) = false := decide_eq_false (by omega)
            go_wp2
            all_goals go_ret
            all_goals exact ⟨rfl, grown_trans (unhide GG) (grown_drewN _ _)⟩
    · have hkd : decide ((k : Int) < (len : Int)) = false := decide_eq_false (by omega)
      have hq1 : ¬ ((k : Int) < (len : Int)) := by omega
      have hmin : min len 2000 = k := by omega
      have hok : Ok (runL K LO HI k) := by
        have hgl := runL_good (K := K) (LO := LO) (HI := HI) k fun i hi => by
          rcases unhide HC with h0 | ⟨bo, off, _, hcs⟩
          · omega
          · exact ⟨(hcs i (by omega)).2.2.2.1, (hcs i (by omega)).2.2.2.2.2.2⟩
        exact ⟨hgl.1, by omega⟩
      have l1 := unhide L1
      rw [hmin] at l1
      have g1 := unhide G1
      generalize runL K LO HI k = L at *
      obtain ⟨v, hv, -⟩ := (l1.keep hls.grown).at_
      obtain ⟨u, hu, -⟩ := hls.at_
      have hR1 := runs_any b 0 v L _ hv (by have := hok.size; omega)
      have hR2 := fun W hW => Ki.runs_any b2 0 u L W (hu.keep hW) (by have := hok.size; omega)
      have hC1 := fun W hW => count_any b 0 v L W (hv.keep hW) hok
      have hC2 := fun W hW => Ki.count_any b2 0 u L W (hu.keep hW) hok.ki
      have HG := hide (grown_trans g1 hls.grown)
      have HR2 := hide hR2
      have HC1 := hide hC1
      have HC2 := hide hC2
      clear hR2 hC1 hC2 hv hu hls l1 g1 hok L1 G1 HC L0 ADD hk hk2
      go_wp2_with fail
      refine hR1.mono ?_
      rintro e W3 ⟨va, rfl, ra, -, g3⟩
      clear hR1
      go_wp2_with fail
      refine (unhide HR2 _ g3).mono ?_
      rintro e W4 ⟨vb, rfl, rb, -, g4⟩
      have g4' := grown_trans g3 g4
      obtain ⟨a1, c1, rfl, k1, m1, n1⟩ := (ra.keep g4).shape
      obtain ⟨a2, c2, rfl, k2, m2, n2⟩ := rb.shape
      unfold maxLen at m1 m2
      go_wp2_with fail
      refine (unhide HC1 _ g4').mono ?_
      rintro e W5 ⟨rfl, g5⟩
      go_wp2_with fail
      refine (unhide HC2 _ (grown_trans g4' g5)).mono ?_
      rintro e W6 ⟨rfl, g6⟩
      rw [ki_toldF]
      have g56 := grown_trans g5 g6
      have KK := hide (And.intro k1 (And.intro k2 g56))
      have GG := hide (grown_trans (unhide HG) (grown_trans g4' g56))
      clear k1 k2 g56 ra rb g3 g4 g4' g5 g6 HG HR2 HC1 HC2
      generalize hn : L.length = n at *
      generalize toldF L = tL at *
      go_wp2
      go_loopw [10, 11] (fun ok i wr => ∃ (k q : Nat), k ≤ n ∧ ok = .bool true ∧ i = .int .i64 k ∧ wr = W6.drewN q) (fun _ i _ => n - (intOf i).toNat)
      case atStart => exact ⟨0, 0, Nat.zero_le _, rfl, rfl, rfl⟩
      case round =>
        obtain ⟨k, q, hk, rfl, rfl, rfl⟩ := hrel
        by_cases hlt : k < n
        · obtain ⟨k1, k2, g56⟩ := unhide KK
          obtain ⟨q1, rfl, z1⟩ := k1.resolve_left (fun e => by rw [e] at hn; simp at hn; omega)
          obtain ⟨q2, rfl, z2⟩ := k2.resolve_left (fun e => by rw [e] at hn; simp at hn; omega)
          have y1 := cell_grown_none g56 (z1 k hlt).1
          have y2 := cell_grown_none g56 (z1 k hlt).2
          have y3 := cell_grown_none g56 (z2 k hlt).1
          have y4 := cell_grown_none g56 (z2 k hlt).2
          generalize (L.getD k (0, 0)).1 = s1 at *
          generalize (L.getD k (0, 0)).2 = s2 at *
          have hkn : (k : Int) < (n : Int) := by omega
          have hkd : decide ((k : Int) < (n : Int)) = true := decide_eq_true hkn
          have hN := hide hn
          clear z1 z2 k1 k2 g56 hn
          go_wp2
          go_quiet (fail)
          go_wp2
          exact ⟨⟨k + 1, _, by omega, rfl, by go_num, rfl⟩, by simp [intOf]; omega⟩
        · have hkd : decide ((k : Int) < (n : Int)) = false := decide_eq_false (by omega)
          go_wp2
          all_goals go_ret
          all_goals exact ⟨rfl, grown_trans (unhide GG) (grown_drewN _ _)⟩
end Go.Proofs.Ytebpcgljmcdllab
