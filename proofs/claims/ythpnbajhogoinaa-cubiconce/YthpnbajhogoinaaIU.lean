/- CubicOnce. -/
import Derived.Test.YthpnbajhogoinaaIT
namespace Go.Proofs.Ythpnbajhogoinaa
open Go.RowKit Fl
set_option linter.unusedVariables false
set_option maxRecDepth 100000
set_option maxHeartbeats 4000000

theorem once_walk (n : Int) (a0 : Option Addr) (len cap : Nat) (ol : List OpE) (a1 : Option Addr) (len1 cap1 : Nat) (ol1 : List OpE) (w : World) (hn : i64B n) (h : IsOps w a0 len cap ol) (h1 : IsOps w a1 len1 cap1 ol1) :
    Calls Try.prog 5 #[.int .i64 n, .slice a0 len cap, .slice a1 len1 cap1] w fun e w' => e = .returned (.bool true) ∧ w.grownBy w' none := by
  have sh := shown_any w
  have HO := hide h
  have HO1 := hide h1
  have hl := h.hlen
  have hcap := h.hcap
  have hl1 := h1.hlen
  have hcap1 := h1.hcap
  have lenI : ¬ (9223372036854775807 : Int) < (len : Int) := by omega
  have lenI1 : ¬ (9223372036854775807 : Int) < (len1 : Int) := by omega
  have CT := hide (fun (W : World) (g : w.grownBy W none) => qe_ctl g n hn)
  clear h h1
  generalize cs0 (mtuF n) = s0 at *
  go_enter Try.func5, Try.ntmps5
  go_wp2_with fail
  refine sh.mono ?_
  rintro e w1 ⟨rfl, g1⟩
  clear sh
  go_wp2_with fail
  refine (unhide CT w1 g1).mono ?_
  rintro e w2 ⟨b, -, rfl, q2, -⟩
  have S0 := hide q2
  clear CT q2 g1
  go_wp2_with fail
  go_loopw [9] (fun i wr => ∃ (k : Nat) (s : Cs), k ≤ len ∧ k ≤ 2000 ∧ i = .int .i64 k ∧ Hid (QE w wr b k s)) (fun i _ => len - (intOf i).toNat)
  case atStart => exact ⟨0, _, Nat.zero_le _, Nat.zero_le _, rfl, S0⟩
  case round =>
    clear S0
    obtain ⟨k, s, hk, hk4, rfl, H⟩ := hrel
    by_cases hlt : k < len ∧ k < 2000
    · obtain ⟨bo, off, rfl, hcs⟩ := (unhide HO).cell.resolve_left (by omega)
      have hx' : ol[k]? = some ol[k] := List.getElem?_eq_getElem _
      have hcx := hcs k _ hx'
      generalize ol[k] = y at *
      have kn : (k : Int) < (len : Int) := by omega
      have k4 : (k : Int) < 2000 := by omega
      have HLT := hide hlt
      have gr := (unhide H).grown
      have c0 : wr.cell? ⟨bo, off + k * 6, none⟩ = some (.int .i64 y.kind) := cell_grown (hcx 0 _ rfl) gr
      have c1 : wr.cell? ⟨bo, off + k * 6 + 1, none⟩ = some (.int .i64 y.h) := cell_grown (hcx 1 _ rfl) gr
      have c2 : wr.cell? ⟨bo, off + k * 6 + 2, none⟩ = some (.int .i64 y.now) := cell_grown (hcx 2 _ rfl) gr
      have c3 : wr.cell? ⟨bo, off + k * 6 + 3, none⟩ = some (.int .i64 y.sent) := cell_grown (hcx 3 _ rfl) gr
      have c4 : wr.cell? ⟨bo, off + k * 6 + 4, none⟩ = some (.int .i64 y.size) := cell_grown (hcx 4 _ rfl) gr
      have c5 : wr.cell? ⟨bo, off + k * 6 + 5, none⟩ = some (.bool y.lim) := cell_grown (hcx 5 _ rfl) gr
      have DO := qe_does (unhide H) (by omega) y
      clear hcs hcx hx' hlt hk H gr
      unfold opc at DO
      go_wp2_with fail
      refine DO.mono ?_
      rintro e W3 ⟨rfl, p3, -⟩
      have R := hide p3
      clear DO p3 c0 c1 c2 c3 c4 c5
      go_wp2_with fail
      go_roundw
      case rel => exact ⟨k + 1, _, (unhide HLT).1, (unhide HLT).2, by go_num, R⟩
      case measure => have := unhide HLT; simp [intOf]; omega
    · have alt : (¬ (k : Int) < (len : Int)) ∨ ((k : Int) < (len : Int) ∧ ¬ (k : Int) < 2000) := by omega
      have EV := qe_event (unhide H) (by omega) 1125899906842624 1125899906842624
      have LE := last_event (unhide H).ok
      have K2 : k ≤ 2000 := hk4
      clear H hlt
      generalize eventF 1125899906842624 1125899906842624 s = s1 at *
      generalize (!aheadB 1125899906842624 s) = B at *
      rcases alt with e1 | ⟨e1, e2⟩
      all_goals as_aux_lemma =>
        go_wp2_with fail
        refine EV.mono ?_
        rintro e W4 ⟨rfl, p4, -⟩
        clear EV
        have V4 := qe_view p4
        obtain ⟨A, hA⟩ : ∃ A, s1.size = A := ⟨_, rfl⟩
        obtain ⟨T, hT⟩ : ∃ A, s1.thr = A := ⟨_, rfl⟩
        obtain ⟨F, hF⟩ : ∃ A, s1.flight = A := ⟨_, rfl⟩
        have vE : vwc s1 = #[.int .i64 A, .int .i64 T, .int .i64 F, .int .i64 1125899906842624] := by unfold vwc; rw [hA, hT, hF, LE]
        rw [vE] at V4
        clear vE hF
        go_wp2_with fail
        refine V4.mono ?_
        rintro e W5 ⟨rfl, p5, -⟩
        clear V4 p4
        have p6 := p5.keep (World.grownBy_alloc W5 (.cells #[.int .i64 A, .int .i64 T, .int .i64 F, .int .i64 1125899906842624] 33) none)
        have B6 := Blk.new W5 #[.int .i64 A, .int .i64 T, .int .i64 F, .int .i64 1125899906842624] 33
        have vlt : W5.heap.size ≠ b := by have := p5.at_.lt; omega
        have S1 := hide (And.intro (p6.up (show k ≤ 2000 from K2)) (And.intro (And.intro hA (And.intro hT LE)) (And.intro B6 vlt)))
        clear p5 p6 B6 vlt hA hT LE
        go_wp2_with fail
        generalize W5.heap.size = g at *
        generalize W5.alloc _ = W6 at *
        go_loopw [11] (fun i wr => ∃ (j : Nat) (s : Cs), j ≤ len1 ∧ j ≤ 2000 ∧ i = .int .i64 j ∧ Hid (QE w wr b (2000 + j) s ∧ (s.size = A ∧ s.thr = T ∧ s.began = 1125899906842624) ∧ Blk wr g #[.int .i64 A, .int .i64 T, .int .i64 F, .int .i64 1125899906842624] 33 ∧ g ≠ b)) (fun i _ => len1 - (intOf i).toNat)
        case atStart => exact ⟨0, _, Nat.zero_le _, Nat.zero_le _, rfl, S1⟩
        case round =>
          clear S1
          obtain ⟨j, s, hj, hj4, rfl, H⟩ := hrel
          by_cases hlt : j < len1 ∧ j < 2000
          · obtain ⟨bo, off, rfl, hcs⟩ := (unhide HO1).cell.resolve_left (by omega)
            have hx' : ol1[j]? = some ol1[j] := List.getElem?_eq_getElem _
            have hcx := hcs j _ hx'
            generalize ol1[j] = y at *
            have kn : (j : Int) < (len1 : Int) := by omega
            have k4 : (j : Int) < 2000 := by omega
            have HLT := hide hlt
            obtain ⟨q, ⟨z1, z2, z3⟩, bl, ne⟩ := unhide H
            have gr := q.grown
            have c0 : wr.cell? ⟨bo, off + j * 6, none⟩ = some (.int .i64 y.kind) := cell_grown (hcx 0 _ rfl) gr
            have c1 : wr.cell? ⟨bo, off + j * 6 + 1, none⟩ = some (.int .i64 y.h) := cell_grown (hcx 1 _ rfl) gr
            have c2 : wr.cell? ⟨bo, off + j * 6 + 2, none⟩ = some (.int .i64 y.now) := cell_grown (hcx 2 _ rfl) gr
            have c3 : wr.cell? ⟨bo, off + j * 6 + 3, none⟩ = some (.int .i64 y.sent) := cell_grown (hcx 3 _ rfl) gr
            have c4 : wr.cell? ⟨bo, off + j * 6 + 4, none⟩ = some (.int .i64 y.size) := cell_grown (hcx 4 _ rfl) gr
            have c5 : wr.cell? ⟨bo, off + j * 6 + 5, none⟩ = some (.bool y.lim) := cell_grown (hcx 5 _ rfl) gr
            by_cases k6 : y.kind = 6
            · rw [k6] at c0
              have R := hide (And.intro (q.up (show 2000 + j ≤ 2000 + (j + 1) by omega)) (And.intro (And.intro z1 (And.intro z2 z3)) (And.intro bl ne)))
              clear hcs hcx hx' hlt hj H gr q z1 z2 z3 bl ne
              go_wp2_with fail
              go_roundw
              case rel => exact ⟨j + 1, _, (unhide HLT).1, (unhide HLT).2, by go_num, R⟩
              case measure => have := unhide HLT; simp [intOf]; omega
            · have DO := qe_does q (by omega) y
              obtain ⟨y1, y2, y3, y4⟩ := does_once z3 y k6
              rw [y1] at DO
              rw [z1] at y2
              rw [z2] at y3
              rw [z3] at y4
              clear hcs hcx hx' hlt hj H gr q z1 z2 z3 y1
              unfold opc at DO
              go_wp2_with fail
              refine DO.mono ?_
              rintro e W7 ⟨rfl, p7, g7⟩
              have B7 := bl.far g7 ne
              clear DO bl g7 c0 c1 c2 c3 c4 c5
              have V7 := qe_view p7
              obtain ⟨F2, hF2⟩ : ∃ A, (doesF y s).flight = A := ⟨_, rfl⟩
              rw [show vwc (doesF y s) = #[.int .i64 A, .int .i64 T, .int .i64 F2, .int .i64 1125899906842624] by unfold vwc; rw [y2, y3, y4, hF2]] at V7
              clear hF2
              go_wp2_with fail
              refine V7.mono ?_
              rintro e W8 ⟨rfl, p8, g8⟩
              have g9 := g8.trans (World.grownBy_alloc W8 (.cells #[.int .i64 A, .int .i64 T, .int .i64 F2, .int .i64 1125899906842624] 33) none)
              have p9 := p8.keep (World.grownBy_alloc W8 (.cells #[.int .i64 A, .int .i64 T, .int .i64 F2, .int .i64 1125899906842624] 33) none)
              have B9 := B7.grown g9
              have v0 := B9.cell 0 _ rfl
              have v1 := B9.cell 1 _ rfl
              have v3 := B9.cell 3 _ rfl
              have BN := Blk.new W8 #[.int .i64 A, .int .i64 T, .int .i64 F2, .int .i64 1125899906842624] 33
              have u0 := BN.cell 0 _ rfl
              have u1 := BN.cell 1 _ rfl
              have u3 := BN.cell 3 _ rfl
              have R := hide (And.intro p9 (And.intro (And.intro y2 (And.intro y3 y4)) (And.intro B9 ne)))
              clear V7 p7 p8 p9 g8 g9 B7 B9 BN
              go_wp2_with fail
              go_roundw
              case rel => exact ⟨j + 1, _, (unhide HLT).1, (unhide HLT).2, by go_num, R⟩
              case measure => have := unhide HLT; simp [intOf]; omega
          · have alt : (¬ (j : Int) < (len1 : Int)) ∨ ((j : Int) < (len1 : Int) ∧ ¬ (j : Int) < 2000) := by omega
            have EN := hide (unhide H).1.grown
            clear H hlt
            rcases alt with e1 | ⟨e1, e2⟩
            all_goals
              go_wp2_with fail
              go_ret
              exact ⟨rfl, unhide EN⟩
end Go.Proofs.Ythpnbajhogoinaa
