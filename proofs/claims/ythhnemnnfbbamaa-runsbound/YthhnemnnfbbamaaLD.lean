/- RunsBound. -/
import Derived.Test.YthhnemnnfbbamaaLD0
import Derived.Test.YthhnemnnfbbamaaOP
import Derived.Deep.RegionHeld3
import Derived.Deep.DeepCutAuto
namespace Go.Proofs.Ythhnemnnfbbamaa
open Go.RowKit Go.Shelf
set_option linter.unusedVariables false
set_option maxRecDepth 100000
set_option maxHeartbeats 1600000

set_option maxRecDepth 100000 in
theorem bound_walk (m : Int) (a : Option Addr) (len cap : Nat) (w : World) (hm : -9223372036854775808 ≤ m ∧ m ≤ 9223372036854775807) (hops : IsOps w a len cap) :
    Calls Try.prog 7 #[.int .i64 m, .slice a len cap] w fun e w' => e = .returned (.bool true) ∧ w.grownBy w' none := by
  have hsh := shown_ok w
  obtain ⟨h1, h2, hcells⟩ := hops
  unfold maxLen at h2
  have HC := hide hcells
  clear hcells
  go_enter Try.func7, Try.ntmps7
  go_upto_if 17 with (first | (go_at_call 9; refine hsh.mono ?_; rintro e W0 ⟨rfl, g0⟩; clear hsh))
  go_cut [0] (fun v wc => ∃ u : Int, v = .int .i64 u ∧ 0 ≤ u ∧ u ≤ 9223372036854775807 ∧ wc = W0)
  case first =>
    by_cases h : m < 0
    · go_wp2
      go_meet
      case rel => exact ⟨_, rfl, by omega, by omega, rfl⟩
    · go_wp2
      go_meet
      case rel => exact ⟨_, rfl, by omega, by omega, rfl⟩
  case rest =>
  obtain ⟨u, rfl, hu0, hu1, rfl⟩ := hcut
  clear hm
  have hM0 : 1 ≤ 1 + u % 40 := by omega
  have hM1 : 1 + u % 40 ≤ 40 := by omega
  have hnew := new_ls w wc (1 + u % 40) (by omega) g0
  go_wp2_with fail
  refine hnew.mono ?_
  rintro e W1 ⟨rfl, l0⟩
  have L0 := hide l0
  clear l0 g0 hnew
  generalize wc.heap.size = b at *
  generalize 1 + u % 40 = M at *
  clear hu0 hu1
  go_wp2_with fail
  go_loopw [6, 8] (fun s i wr => ∃ (k bs : Nat) (L : List Sp), k ≤ len ∧ k ≤ 1000 ∧ i = .int .i64 k ∧ s = .pointer (some ⟨bs, 0, none⟩) ∧ LS w wr bs M L ∧ Good (-9223372036854775808) 9223372036854775807 L ∧ (L.length : Int) ≤ M) (fun _ i _ => len - (intOf i).toNat)
  case atStart => exact ⟨0, b, [], Nat.zero_le _, by omega, rfl, rfl, unhide L0, trivial, by simp; omega⟩
  case round =>
    clear L0
    obtain ⟨k, bs, L, hk, hk2, rfl, rfl, hls, hgd, hll⟩ := hrel
    by_cases hlt : k < len
    · by_cases hlt2 : k < 1000
      · obtain ⟨bo, off, rfl, hcs⟩ := (unhide HC).resolve_left (by omega)
        obtain ⟨kd, hh, lo, hi, c0, -, c2, c3, r1, r2, r3, r4⟩ := hcs k hlt
        have hkn : (k : Int) < (len : Int) := by omega
        have hkd : decide ((k : Int) < (len : Int)) = true := decide_eq_true hkn
        have hk3 : (k : Int) < 1000 := by omega
        have hkd3 : decide ((k : Int) < 1000) = true := decide_eq_true hk3
        have hjs := join_self hls hgd (by omega)
        have hG := hls.grown
        have Z0 := fun W (g : w.grownBy W none) => cell_grown_none g c0
        have Z2 := fun W (g : w.grownBy W none) => cell_grown_none g c2
        have Z3 := fun W (g : w.grownBy W none) => cell_grown_none g c3
        have HLT := hide hlt
        clear hcs c0 c2 c3 HC hlt
        go_upto_if 58 with (first | (go_at_call 35; refine hjs.mono ?_; rintro e W2 ⟨bt, rfl, lt⟩; have T0 := Two.make hls lt; have y0 := Z0 W2 T0.grown; have y2 := Z2 W2 T0.grown; have y3 := Z3 W2 T0.grown; clear hjs lt hls hG))
        go_cut [10, 11] (fun n m wc => ∃ (N : Int) (Ls Lt : List Sp), n = .int .u64 N ∧ m = .int .u64 N ∧ Two w wc bs M Ls bt 0 Lt ∧ Ls = (if M < Lt.length then Lt.drop (Lt.length - M.toNat) else Lt) ∧ Lt.length ≤ 42 ∧ (Ls.length : Int) ≤ M ∧ Good (-9223372036854775808) 9223372036854775807 Lt ∧ Good (-9223372036854775808) 9223372036854775807 Ls)
        case first =>
          by_cases hq : kd = 2
          · subst hq
            obtain ⟨p1, p2, p3, p4, p5⟩ := bound_cut (M := M) (lo := lo) (hi := hi) (by omega) hll hgd
            have hA := fun W (h : Two w W bs M L bt 0 L) => cut_two h ⟨hgd, by omega⟩ lo hi r1 r4
            have hB := fun W (h : Two w W bt 0 L bs M (cutS M lo hi L)) => cut_two h ⟨hgd, by omega⟩ lo hi r1 r4
            have F := hide (And.intro p1 (And.intro (show (cutS 0 lo hi L).length ≤ 42 by omega) (And.intro p3 (And.intro p4 p5))))
            generalize cutN lo hi L = N at *
            generalize cutS 0 lo hi L = Lt at *
            generalize cutS M lo hi L = Ls at *
            clear p1 p2 p3 p4 p5 r1 r2 r3 r4 hgd
            go_wp2
            go_region_held3 (fun W => W.cell? ⟨bo, off + k * 4 + 2, none⟩ = some (.int .i64 lo) ∧ W.cell? ⟨bo, off + k * 4 + 3, none⟩ = some (.int .i64 hi)) (go_keep) (first | (go_at_call 40; refine (hA _ (T0.keep (grown_drewN _ 1))).mono ?_; rintro e W3 ⟨rfl, T1⟩; have y2 := Z2 W3 T1.grown; have y3 := Z3 W3 T1.grown))
            go_wp2
            go_region_held3 (fun W => W.cell? ⟨bo, off + k * 4 + 2, none⟩ = some (.int .i64 lo) ∧ W.cell? ⟨bo, off + k * 4 + 3, none⟩ = some (.int .i64 hi)) (go_keep) (first | (go_at_call 40; refine (hB _ (T1.swap.keep (grown_drewN _ 1))).mono ?_; rintro e W4 ⟨rfl, T2⟩; have y2 := Z2 W4 T2.grown; have y3 := Z3 W4 T2.grown))
            go_wp2
            go_meet
            case rel => exact ⟨N, Ls, Lt, rfl, rfl, T2.swap, unhide F⟩
          · obtain ⟨p1, p2, p3, p4, p5⟩ := bound_add (M := M) (lo := lo) (hi := hi) (by omega) hll hgd r1 r4
            have hA := fun W (h : Two w W bs M L bt 0 L) => add_two h ⟨hgd, by omega⟩ lo hi r1 r4
            have hB := fun W (h : Two w W bt 0 L bs M (addS M lo hi L)) => add_two h ⟨hgd, by omega⟩ lo hi r1 r4
            have F := hide (And.intro p1 (And.intro (show (addS 0 lo hi L).length ≤ 42 by omega) (And.intro p3 (And.intro p4 p5))))
            generalize addN lo hi L = N at *
            generalize addS 0 lo hi L = Lt at *
            generalize addS M lo hi L = Ls at *
            clear p1 p2 p3 p4 p5 r1 r2 r3 r4 hgd
            go_wp2
            go_region_held3 (fun W => W.cell? ⟨bo, off + k * 4 + 2, none⟩ = some (.int .i64 lo) ∧ W.cell? ⟨bo, off + k * 4 + 3, none⟩ = some (.int .i64 hi)) (go_keep) (first | (go_at_call 41; refine (hA _ (T0.keep (grown_drewN _ 1))).mono ?_; rintro e W3 ⟨rfl, T1⟩; have y2 := Z2 W3 T1.grown; have y3 := Z3 W3 T1.grown))
            go_wp2
            go_region_held3 (fun W => W.cell? ⟨bo, off + k * 4 + 2, none⟩ = some (.int .i64 lo) ∧ W.cell? ⟨bo, off + k * 4 + 3, none⟩ = some (.int .i64 hi)) (go_keep) (first | (go_at_call 41; refine (hB _ (T1.swap.keep (grown_drewN _ 1))).mono ?_; rintro e W4 ⟨rfl, T2⟩; have y2 := Z2 W4 T2.grown; have y3 := Z3 W4 T2.grown))
            go_wp2
            go_meet
            case rel => exact ⟨N, Ls, Lt, rfl, rfl, T2.swap, unhide F⟩
        case rest =>
        obtain ⟨N, Ls, Lt, rfl, rfl, T3, q1, q2, q3, q4, q5⟩ := hcut
        have hru := runs_g T3.snd (by omega)
        clear hgd hll r1 r2 r3 r4 T0 y0 y2 y3 Z0 Z2 Z3
        have Q1 := hide q1
        clear q1
        generalize hnt : Lt.length = nt at *
        generalize hns : Ls.length = ns at *
        have HNT := hide hnt; have HNS := hide hns
        clear hnt hns
        go_upto_if 112 with (first | (go_at_call 31; refine hru.mono ?_; rintro e W5 ⟨al, cl5, rfl, rd5, row5, b4, b5, g5⟩; have T4 := T3.keep g5; clear hru T3 g5))
        go_cut [12] (fun l wc => ∃ a' c', l = .slice a' ns c' ∧ RdS W5 a' Ls ∧ ns ≤ c' ∧ c' ≤ 9223372036854775807 ∧ wc = W5)
        case first =>
          by_cases hbig : M < (nt : Int)
          · have q1 := unhide Q1
            rw [if_pos hbig] at q1
            have hne : Lt ≠ [] := fun e => by have := unhide HNT; rw [e] at this; simp at this; omega
            obtain ⟨gl, rfl⟩ : ∃ gl, al = some ⟨gl, 0, none⟩ := by
              rcases Row.at row5 with ⟨e1, e2⟩ | ⟨g, c', sp, e1, e2⟩
              · exact absurd e2 hne
              · simp only [Value.slice.injEq] at e1; exact ⟨g, e1.1⟩
            obtain ⟨Mn, hMn⟩ : ∃ Mn : Nat, M = Mn := ⟨M.toNat, by omega⟩
            subst hMn
            rw [Int.toNat_natCast] at q1
            have rdl : RdS W5 (some ⟨gl, (nt - Mn) * 2, none⟩) Ls := by rw [q1]; exact rdS_drop row5 _
            have hll : ns = Mn := by have := unhide HNS; rw [← this, q1, List.length_drop, unhide HNT]; omega
            subst hll
            have RD := hide rdl
            clear rdl q1 row5 rd5 hne
            go_wp2
            go_meet
            case rel => exact ⟨_, _, by rw [show nt - (nt - ns) = ns by omega], unhide RD, by omega, by omega, rfl⟩
          · have q1 := unhide Q1
            rw [if_neg hbig] at q1
            subst q1
            obtain rfl : nt = ns := (unhide HNT).symm.trans (unhide HNS)
            have RD := hide rd5
            clear row5 rd5
            go_wp2
            go_meet
            case rel => exact ⟨_, _, rfl, unhide RD, b4, b5, rfl⟩
        case rest =>
        obtain ⟨a6, c6, rfl, rd6, b6, b7, rfl⟩ := hcut
        clear row5 rd5 b4 b5 Q1 HNT
        have hcl := clone_ls T4.fst ⟨q5, by have := unhide HNS; omega⟩
        have hn8 : ns ≤ 8000000000000 := by omega
        have RD := hide rd6; have HT := hide T4; have HQ := hide q5
        clear rd6 T4 q4 q5 q2
        go_wp2_with fail
        refine hcl.mono ?_
        rintro e W6 ⟨bc, rfl, lc⟩
        clear hcl
        have hg6 := lc.grown
        have hr1 := runs_g ((unhide HT).fst.keep hg6) (by have := unhide HNS; omega)
        rw [unhide HNS] at hr1
        go_wp2_with fail
        refine hr1.mono ?_
        rintro e W7 ⟨a7, c7, rfl, rd7, -, b8, b9, hg7⟩
        have hal := alike_true a7 a6 ns c7 c6 Ls W7 (unhide HNS) rd7 ((unhide RD).grown (grown_trans hg6 hg7)) (by omega) ⟨b8, b9⟩ ⟨b6, b7⟩
        clear hr1
        go_wp2_with fail
        refine hal.mono ?_
        rintro e W' ⟨rfl, q7, hq7⟩
        have hg8 : W7.grownBy W' none := by rw [hq7]; exact grown_drewN _ _
        clear hq7 hal
        have hr2 := runs_g (lc.keep (grown_trans hg7 hg8)) (by have := unhide HNS; omega)
        rw [unhide HNS] at hr2
        go_wp2_with fail
        refine hr2.mono ?_
        rintro e W9 ⟨a9, c9, rfl, rd9, -, e8, e9, hg9⟩
        have hal := alike_true a9 a6 ns c9 c6 Ls W9 (unhide HNS) rd9 ((unhide RD).grown (grown_trans hg6 (grown_trans hg7 (grown_trans hg8 hg9)))) (by omega) ⟨e8, e9⟩ ⟨b6, b7⟩
        clear hr2
        go_wp2_with fail
        refine hal.mono ?_
        rintro e W10 ⟨rfl, q10, hq10⟩
        have hg10 : W9.grownBy W10 none := by rw [hq10]; exact grown_drewN _ _
        clear hq10 hal
        have hgA := grown_trans hg7 (grown_trans hg8 (grown_trans hg9 hg10))
        have F1 := hide ((unhide HT).fst.keep (grown_trans hg6 hgA))
        have F2 := hide (LS.base (unhide HT).grown (lc.keep hgA))
        have hlen3 : (Ls.length : Int) ≤ M := by rw [unhide HNS]; exact q3
        have HL3 := hide hlen3
        clear hg6 hg7 hg8 hg9 hg10 hgA lc rd7 rd9 HT RD hlen3 q3
        by_cases h8 : (k : Int) % 8 = 7
        · go_wp2_with fail
          exact ⟨⟨k + 1, bc, Ls, unhide HLT, by omega, by go_num, rfl, unhide F2, unhide HQ, unhide HL3⟩, by simp [intOf]; have := unhide HLT; omega⟩
        · go_wp2_with fail
          exact ⟨⟨k + 1, bs, Ls, unhide HLT, by omega, by go_num, rfl, unhide F1, unhide HQ, unhide HL3⟩, by simp [intOf]; have := unhide HLT; omega⟩
      · have hkd : decide ((k : Int) < (len : Int)) = true := decide_eq_true (by omega)
        have hkd2 : decide ((k : Int) < 1000) = false := decide_eq_false (by omega)
        have hkn : (k : Int) < (len : Int) := by omega
        have hkn2 : ¬ (k : Int) < 1000 := by omega
        have F := hide hls
        clear hls
        go_wp2_with fail
        go_ret
        exact ⟨rfl, (unhide F).grown⟩
    · have hkd : decide ((k : Int) < (len : Int)) = false := decide_eq_false (by omega)
      have hkn : ¬ (k : Int) < (len : Int) := by omega
      have F := hide hls
      clear hls
      go_wp2_with fail
      go_ret
      exact ⟨rfl, (unhide F).grown⟩
end Go.Proofs.Ythhnemnnfbbamaa
