/- PacePlays. -/
import Derived.Test.YtlfldbagbafjfaaUP0
import Derived.LoopIn
import Derived.Deep.CutRange
import Derived.Deep.DeepCutAuto
namespace Go.Proofs.Ytlfldbagbafjfaa
open Go.RowKit
set_option linter.unusedVariables false
set_option maxRecDepth 100000
set_option maxHeartbeats 4000000

theorem RB.new (w : World) (R S : Ps) : RB (w.alloc (.cells (rcc R ++ rcc S) 35)) w.heap.size 0 6 R S := by
  refine ⟨rcc R ++ rcc S, Blk.new _ _ _, rfl, fun j v hj hv => ?_, fun j v hj hv => ?_⟩
  · rw [Nat.zero_add, Array.getElem?_append_left (by rw [rcc_size]; exact hj)]
    exact hv
  · rw [Array.getElem?_append_right (by rw [rcc_size]; omega), rcc_size, Nat.add_sub_cancel_left]
    exact hv
theorem Blk.twos {W : World} {g : Nat} {t : TypeId} {v0 v1 : Value} (h : Blk W g #[v0, v1] t) : W.cell? ⟨g, 0, none⟩ = some v0 ∧ W.cell? ⟨g, 1, none⟩ = some v1 := ⟨h.cell 0 _ rfl, h.cell 1 _ rfl⟩

theorem plays_walk (i0 j0 : Int) (a0 : Option Addr) (len cap : Nat) (ol : List OpE) (w : World) (hi : i64B i0) (hj : i64B j0) (h : IsOps w a0 len cap ol) :
    Calls Try.prog 3 #[.int .i64 i0, .int .i64 j0, .slice a0 len cap] w fun e w' => e = .returned (.bool true) ∧ w.grownBy w' none := by
  have sh := shown_any w
  have HO := hide h
  have hl := h.hlen
  have hcap := h.hcap
  have lenI : ¬ (9223372036854775807 : Int) < (len : Int) := by omega
  have CT := hide (fun (W : World) (g : w.grownBy W none) => two_start g i0 hi)
  have CT2 := hide (fun (W : World) (g : w.grownBy W none) => qe_pacer g j0 hj)
  have M1 := burst_any i0 hi
  have M2 := burst_any j0 hj
  have N1 := fun W => rnew_any (bF i0) W
  have N2 := fun W => rnew_any (bF j0) W
  clear h
  obtain ⟨no, fb, hn, ht, hal⟩ : ∃ (no : Int) (fb : Bool), (∀ W : World, Calls Try.prog 8 #[.int .i64 i0] W fun e w' => ∃ P : Option Addr, e = .returned (.tuple #[.pointer P, .int .i64 no]) ∧ ((fb = true ∧ ∃ b, P = some ⟨b, 0, none⟩) ∨ (fb = false ∧ P = none)) ∧ W.grownBy w' none) ∧ (∀ W : World, Calls Try.prog 9 #[.int .i64 i0] W fun e w' => e = .returned (.bool fb) ∧ w' = W) ∧ ((no = 0 ∧ fb = true) ∨ (no = 1 ∧ fb = false)) := by
    by_cases hf : fitsF i0
    · exact ⟨0, true, fun W => (new_ok i0 hf W).mono fun e w' ⟨h1, h2⟩ => ⟨_, h1, .inl ⟨rfl, _, rfl⟩, by rw [h2]; exact World.grownBy_alloc _ _ _⟩, takes_ok i0 hf, .inl ⟨rfl, rfl⟩⟩
    · exact ⟨1, false, fun W => (new_no i0 hf W).mono fun e w' ⟨h1, h2⟩ => ⟨_, h1, .inr ⟨rfl, rfl⟩, by rw [h2]; exact World.grownBy.refl _ _⟩, takes_no i0 hf, .inr ⟨rfl, rfl⟩⟩
  generalize ps0 (bF i0) = s0 at *
  generalize ps0 (bF j0) = t0 at *
  generalize bF i0 = m0 at *
  generalize bF j0 = m1 at *
  unfold rcc at N1 N2
  go_enter Try.func3, Try.ntmps3
  go_wp2_with fail
  refine sh.mono ?_
  rintro e w0 ⟨rfl, k0⟩
  clear sh
  go_wp2_with fail
  refine (hn _).mono ?_
  rintro e w1 ⟨P, rfl, hP, k1⟩
  have g1 := k0.trans k1
  replace hP := hide hP
  replace hal := hide hal
  clear hn k0 k1
  go_wp2_with fail
  refine (ht _).mono ?_
  rintro e w1' ⟨rfl, hw1'⟩
  replace hw1' := hw1'.symm
  subst hw1'
  clear ht
  go_upto_region 4 with fail
  go_cut [45] (fun v wc => v = .bool false ∧ wc = w1)
  case first =>
    have hP := unhide hP
    have hal := unhide hal
    rcases hal with ⟨rfl, rfl⟩ | ⟨rfl, rfl⟩ <;> rcases hP with ⟨hp, bp, rfl⟩ | ⟨hp, rfl⟩
    any_goals (first | (cases hp; done) | skip)
    all_goals
      clear hp
      go_wp2_with fail
      go_meet
      case rel => exact ⟨rfl, rfl⟩
  case rest =>
    obtain ⟨rfl, hwc⟩ := hcut
    replace hwc := hwc.symm
    subst hwc
    clear hP hal
    go_wp2_with fail
    refine (unhide CT _ g1).mono ?_
    rintro e w2 ⟨a, rfl, q2, la⟩
    clear g1
    go_wp2_with fail
    refine (unhide CT2 _ q2.grown).mono ?_
    rintro e w3 ⟨rfl, q3, k3⟩
    generalize hb : w2.heap.size = b at *
    have T0 : TQ w w3 a b s0 t0 := ⟨q2.keep k3, q3, by omega⟩
    clear CT CT2 q2 q3 k3 hb la
    have T1 := T0.keep (World.grownBy_alloc w3 (.cells #[ptr a, ptr b] 30) none)
    have B1 := Blk.new w3 #[ptr a, ptr b] 30
    have nc : w.heap.size ≤ w3.heap.size := T0.qa.grown.size
    clear T0
    go_wp2_with fail
    generalize w3.heap.size = cb at *
    generalize w3.alloc _ = w4 at *
    refine (M1 _).mono ?_
    rintro e w5 ⟨rfl, hW⟩
    replace hW := hW.symm
    subst hW
    go_wp2_with fail
    refine (N1 _).mono ?_
    rintro e w5 ⟨rfl, hw5⟩
    have g5 : w4.grownBy w5 none := by rw [hw5]; exact World.grownBy_alloc _ _ _
    clear hw5
    go_wp2_with fail
    refine (M2 _).mono ?_
    rintro e w6 ⟨rfl, hW⟩
    replace hW := hW.symm
    subst hW
    go_wp2_with fail
    refine (N2 _).mono ?_
    rintro e w6 ⟨rfl, hw6⟩
    have g6 : w5.grownBy w6 none := by rw [hw6]; exact World.grownBy_alloc _ _ _
    clear hw6
    have g7 := (g5.trans g6).trans (World.grownBy_alloc w6 (.cells (rcc s0 ++ rcc t0) 35) none)
    have P0 : AQ w (w6.alloc (.cells (rcc s0 ++ rcc t0) 35)) a b cb w6.heap.size 0 1 #[ptr a, ptr b] s0 t0 s0 t0 := ⟨T1.keep g7, B1.grown g7, rfl, RB.new _ _ _, ⟨.inl (by decide), by decide⟩, nc, Nat.le_trans (T1.qa.grown.trans (g5.trans g6)).size (Nat.le_refl _)⟩
    obtain ⟨x0, x1⟩ := P0.row.twos
    have S0 := hide P0
    clear P0 T1 B1 nc g5 g6 g7 M1 M2 N1 N2
    have rE : rcc s0 ++ rcc t0 = #[.int .i64 s0.burst, .int .i64 s0.left, .int .i64 s0.rest, .int .i64 s0.rise, .int .i64 s0.span, .int .i64 s0.clock, .int .i64 t0.burst, .int .i64 t0.left, .int .i64 t0.rest, .int .i64 t0.rise, .int .i64 t0.span, .int .i64 t0.clock] := rfl
    rw [rE] at S0 x0 x1
    clear rE
    go_wp2_with fail
    generalize w6.heap.size = rr at *
    generalize w6.alloc _ = w7 at *
    clear x0 x1
    go_loopw [13] (fun iv wr => ∃ (k : Nat) (s t : Ps), k ≤ len ∧ iv = .int .i64 k ∧ Hid (AQ w wr a b cb rr 0 1 #[ptr a, ptr b] s t s t)) (fun iv _ => len - (intOf iv).toNat)
    case atStart => exact ⟨0, _, _, Nat.zero_le _, rfl, S0⟩
    case round =>
      clear S0
      obtain ⟨k, s, t, hk, rfl, H⟩ := hrel
      by_cases hlt : k < len ∧ k < 4000
      · obtain ⟨bo, off, rfl, hcs⟩ := (unhide HO).cell.resolve_left (by omega)
        have hx' : ol[k]? = some ol[k] := List.getElem?_eq_getElem _
        have hcx := hcs k _ hx'
        generalize ol[k] = y at *
        have kn : (k : Int) < (len : Int) := by omega
        have k4 : (k : Int) < 4000 := by omega
        have HLT := hide hlt
        have gw := (unhide H).T.qa.grown
        have c0 := cell_grown (hcx 0 _ rfl) gw
        have c1 := cell_grown (hcx 1 _ rfl) gw
        have c2 := cell_grown (hcx 2 _ rfl) gw
        have c3 := cell_grown (hcx 3 _ rfl) gw
        have c4 := cell_grown (hcx 4 _ rfl) gw
        rw [Nat.add_zero] at c0
        obtain ⟨a', b', i, j, s', t', G1, G2, G3, G4⟩ : ∃ (a' b' i j : Nat) (s' t' : Ps), Hid (AQ w wr a' b' cb rr i j #[ptr a, ptr b] s' t' s' t') ∧ (i : Int) = y.h % 2 ∧ i < 2 ∧ Hid (∀ (X : World) (s2 : Ps), AQ w X a' b' cb rr i j #[ptr a, ptr b] s2 t' s2 t' → ∃ s t, AQ w X a b cb rr 0 1 #[ptr a, ptr b] s t s t) := by
          rcases (by omega : y.h % 2 = 0 ∨ y.h % 2 = 1) with e | e
          · exact ⟨a, b, 0, 1, s, t, H, by rw [e]; rfl, by decide, fun X s2 h => ⟨_, _, h⟩⟩
          · exact ⟨b, a, 1, 0, t, s, (unhide H).swap rfl ⟨.inr (by decide), by decide⟩, by rw [e]; rfl, by decide, fun X s2 h => ⟨_, _, h.swap rfl ⟨.inl (by decide), by decide⟩⟩⟩
        have hand : bits BinOp.and IntKind.i64 y.h 1 = (i : Int) := by rw [and_one_i64, G2]
        have i2 : (i : Int) < 2 := by omega
        clear hcs hcx hx' hlt hk gw G2 H
        have B0 : Hid (AO w (wr.alloc (.cells #[.int .i64 y.kind, .int .i64 y.h, .int .i64 y.now, .int .i64 y.size, .int .i64 y.smooth] 37)) a' b' cb rr i j #[ptr a, ptr b] wr.heap.size y s' t' s' t') := ⟨(unhide G1).keep (World.grownBy_alloc _ _ _), Blk.new _ _ _⟩
        clear G1
        go_upto_region 14 with fail
        generalize wr.heap.size = o at *
        generalize wr.alloc _ = X0 at *
        clear c0 c1 c2 c3 c4
        obtain ⟨d0, e0, e1, e2, e3, e4⟩ := (unhide B0).cells
        have bq : ∀ m : Int, y.kind ≠ m → (y.kind == m) = false := fun m hm => by simpa using hm
        by_cases t1 : y.kind = 1
        · have d1 : (y.kind == 1) = true := by simpa using t1
          clear bq t1
          have A0 := unhide B0
          have SOK := hide A0.q.T.qa.ok
          have CL := ao_set A0.drew y.now y.size y.smooth
          clear A0 B0
          go_wp2_with fail
          go_region_held3 (fun X => X.cell? ⟨cb, i, none⟩ = some (ptr a') ∧ X.cell? ⟨o, 2, none⟩ = some (.int .i64 y.now) ∧ X.cell? ⟨o, 3, none⟩ = some (.int .i64 y.size) ∧ X.cell? ⟨o, 4, none⟩ = some (.int .i64 y.smooth)) (go_keep) (first | (go_at_call 13; refine CL.mono ?_; rintro e W ⟨rfl, A1⟩; clear d0 e0 e1 e2 e3 e4; obtain ⟨d0, e0, e1, e2, e3, e4⟩ := A1.cells))
          all_goals
            clear CL
            have CR := ao_rset A1.drew (unhide SOK) y.now y.size y.smooth
            clear A1
            go_wp2_with fail
            go_region_held3 (fun X => X.cell? ⟨o, 2, none⟩ = some (.int .i64 y.now) ∧ X.cell? ⟨o, 3, none⟩ = some (.int .i64 y.size) ∧ X.cell? ⟨o, 4, none⟩ = some (.int .i64 y.smooth)) (go_keep) (first | (go_at_call 14; refine CR.mono ?_; rintro e W2 ⟨rfl, A2⟩; clear d0 e0 e1 e2 e3 e4; obtain ⟨d0, e0, e1, e2, e3, e4⟩ := A2.cells))
            all_goals
              have B2 := hide A2
              clear CR d0 e0 e1 e2 e3 e4 A2
              clear SOK
              have SOK := hide (unhide B2).q.T.qa.ok
              have A1 := unhide B2
              obtain ⟨d0, e0, e1, e2, e3, e4⟩ := A1.cells
              have CL := ao_left A1 0
              clear A1 B2
              go_wp2_with fail
              refine CL.mono ?_
              rintro e W ⟨rfl, A2⟩
              clear CL d0 e0 e1 e2 e3 e4
              obtain ⟨d0, e0, e1, e2, e3, e4⟩ := A2.cells
              have CR := ao_rasked A2 (unhide SOK) 0
              clear A2
              go_wp2_with fail
              refine CR.mono ?_
              rintro e W2 ⟨rfl, A3⟩
              clear CR d0 e0 e1 e2 e3 e4
              obtain ⟨s3, t3, Q3⟩ := unhide G4 _ _ A3.q
              have R3 := hide Q3
              clear A3 Q3 G4
              generalize (fillF 0 (setF y.now y.size y.smooth s')).left = LL at *
              go_wp2_with fail
              go_roundw
              case rel => exact ⟨k + 1, _, _, (unhide HLT).1, by go_num, R3⟩
              case measure => have := unhide HLT; simp [intOf]; omega
        · have d1 := bq 1 t1
          by_cases t2 : y.kind = 2
          · have d2 : (y.kind == 2) = true := by simpa using t2
            clear bq t1 t2
            have A0 := unhide B0
            have SOK := hide A0.q.T.qa.ok
            have CL := ao_when A0.drew y.now y.size
            clear A0 B0
            go_wp2_with fail
            go_region_held3 (fun X => X.cell? ⟨cb, i, none⟩ = some (ptr a') ∧ X.cell? ⟨o, 2, none⟩ = some (.int .i64 y.now) ∧ X.cell? ⟨o, 3, none⟩ = some (.int .i64 y.size)) (go_keep) (first | (go_at_call 15; refine CL.mono ?_; rintro e W ⟨rfl, A1⟩; clear d0 e0 e1 e2 e3 e4; obtain ⟨d0, e0, e1, e2, e3, e4⟩ := A1.cells))
            all_goals
              clear CL
              have CR := ao_rwhen A1.drew (unhide SOK) y.now y.size
              clear A1
              go_wp2_with fail
              go_region_held3 (fun X => X.cell? ⟨o, 2, none⟩ = some (.int .i64 y.now) ∧ X.cell? ⟨o, 3, none⟩ = some (.int .i64 y.size)) (go_keep) (first | (go_at_call 16; refine CR.mono ?_; rintro e W2 ⟨rfl, A2⟩; clear d0 e0 e1 e2 e3 e4; obtain ⟨d0, e0, e1, e2, e3, e4⟩ := A2.cells))
              all_goals
                have B2 := hide A2
                clear CR d0 e0 e1 e2 e3 e4 A2
                clear SOK
                have SOK := hide (unhide B2).q.T.qa.ok
                have A1 := unhide B2
                obtain ⟨d0, e0, e1, e2, e3, e4⟩ := A1.cells
                have CL := ao_left A1 0
                clear A1 B2
                go_wp2_with fail
                refine CL.mono ?_
                rintro e W ⟨rfl, A2⟩
                clear CL d0 e0 e1 e2 e3 e4
                obtain ⟨d0, e0, e1, e2, e3, e4⟩ := A2.cells
                have CR := ao_rasked A2 (unhide SOK) 0
                clear A2
                go_wp2_with fail
                refine CR.mono ?_
                rintro e W2 ⟨rfl, A3⟩
                clear CR d0 e0 e1 e2 e3 e4
                obtain ⟨s3, t3, Q3⟩ := unhide G4 _ _ A3.q
                have R3 := hide Q3
                clear A3 Q3 G4
                generalize (fillF 0 (fillF y.now s')).left = LL at *
                go_wp2_with fail
                go_roundw
                case rel => exact ⟨k + 1, _, _, (unhide HLT).1, by go_num, R3⟩
                case measure => have := unhide HLT; simp [intOf]; omega
          · have d2 := bq 2 t2
            by_cases t3 : y.kind = 3
            · have d3 : (y.kind == 3) = true := by simpa using t3
              clear bq t1 t2 t3
              have A0 := unhide B0
              have SOK := hide A0.q.T.qa.ok
              have CL := ao_spend A0.drew y.now y.size
              clear A0 B0
              go_wp2_with fail
              go_region_held3 (fun X => X.cell? ⟨cb, i, none⟩ = some (ptr a') ∧ X.cell? ⟨o, 2, none⟩ = some (.int .i64 y.now) ∧ X.cell? ⟨o, 3, none⟩ = some (.int .i64 y.size)) (go_keep) (first | (go_at_call 17; refine CL.mono ?_; rintro e W ⟨rfl, A1⟩; clear d0 e0 e1 e2 e3 e4; obtain ⟨d0, e0, e1, e2, e3, e4⟩ := A1.cells))
              all_goals
                clear CL
                have CR := ao_rspend A1.drew (unhide SOK) y.now y.size
                clear A1
                go_wp2_with fail
                go_region_held3 (fun X => X.cell? ⟨o, 2, none⟩ = some (.int .i64 y.now) ∧ X.cell? ⟨o, 3, none⟩ = some (.int .i64 y.size)) (go_keep) (first | (go_at_call 18; refine CR.mono ?_; rintro e W2 ⟨rfl, A2⟩; clear d0 e0 e1 e2 e3 e4; obtain ⟨d0, e0, e1, e2, e3, e4⟩ := A2.cells))
                all_goals
                  have B2 := hide A2
                  clear CR d0 e0 e1 e2 e3 e4 A2
                  clear SOK
                  have SOK := hide (unhide B2).q.T.qa.ok
                  have A1 := unhide B2
                  obtain ⟨d0, e0, e1, e2, e3, e4⟩ := A1.cells
                  have CL := ao_left A1 0
                  clear A1 B2
                  go_wp2_with fail
                  refine CL.mono ?_
                  rintro e W ⟨rfl, A2⟩
                  clear CL d0 e0 e1 e2 e3 e4
                  obtain ⟨d0, e0, e1, e2, e3, e4⟩ := A2.cells
                  have CR := ao_rasked A2 (unhide SOK) 0
                  clear A2
                  go_wp2_with fail
                  refine CR.mono ?_
                  rintro e W2 ⟨rfl, A3⟩
                  clear CR d0 e0 e1 e2 e3 e4
                  obtain ⟨s3, t3, Q3⟩ := unhide G4 _ _ A3.q
                  have R3 := hide Q3
                  clear A3 Q3 G4
                  generalize (fillF 0 (spendF y.now y.size s')).left = LL at *
                  go_wp2_with fail
                  go_roundw
                  case rel => exact ⟨k + 1, _, _, (unhide HLT).1, by go_num, R3⟩
                  case measure => have := unhide HLT; simp [intOf]; omega
            · have d3 := bq 3 t3
              by_cases t4 : y.kind = 4
              · have d4 : (y.kind == 4) = true := by simpa using t4
                clear bq t1 t2 t3 t4
                have A0 := unhide B0
                have SOK := hide A0.q.T.qa.ok
                have CL := ao_left A0.drew y.now
                clear A0 B0
                go_wp2_with fail
                go_region_held3 (fun X => X.cell? ⟨cb, i, none⟩ = some (ptr a') ∧ X.cell? ⟨o, 2, none⟩ = some (.int .i64 y.now)) (go_keep) (first | (go_at_call 19; refine CL.mono ?_; rintro e W ⟨rfl, A1⟩; clear d0 e0 e1 e2 e3 e4; obtain ⟨d0, e0, e1, e2, e3, e4⟩ := A1.cells))
                all_goals
                  clear CL
                  have CR := ao_rasked A1.drew (unhide SOK) y.now
                  clear A1
                  go_wp2_with fail
                  go_region_held3 (fun X => X.cell? ⟨o, 2, none⟩ = some (.int .i64 y.now)) (go_keep) (first | (go_at_call 20; refine CR.mono ?_; rintro e W2 ⟨rfl, A2⟩; clear d0 e0 e1 e2 e3 e4; obtain ⟨d0, e0, e1, e2, e3, e4⟩ := A2.cells))
                  all_goals
                    have B2 := hide A2
                    clear CR d0 e0 e1 e2 e3 e4 A2
                    clear SOK
                    have SOK := hide (unhide B2).q.T.qa.ok
                    have A1 := unhide B2
                    obtain ⟨d0, e0, e1, e2, e3, e4⟩ := A1.cells
                    have CL := ao_left A1 0
                    clear A1 B2
                    go_wp2_with fail
                    refine CL.mono ?_
                    rintro e W ⟨rfl, A2⟩
                    clear CL d0 e0 e1 e2 e3 e4
                    obtain ⟨d0, e0, e1, e2, e3, e4⟩ := A2.cells
                    have CR := ao_rasked A2 (unhide SOK) 0
                    clear A2
                    go_wp2_with fail
                    refine CR.mono ?_
                    rintro e W2 ⟨rfl, A3⟩
                    clear CR d0 e0 e1 e2 e3 e4
                    obtain ⟨s3, t3, Q3⟩ := unhide G4 _ _ A3.q
                    have R3 := hide Q3
                    clear A3 Q3 G4
                    generalize (fillF 0 (fillF y.now s')).left = LL at *
                    go_wp2_with fail
                    go_roundw
                    case rel => exact ⟨k + 1, _, _, (unhide HLT).1, by go_num, R3⟩
                    case measure => have := unhide HLT; simp [intOf]; omega
              · have d4 := bq 4 t4
                have B2 := B0
                have SOK := hide (unhide B0).q.T.qa.ok
                clear bq t1 t2 t3 t4 B0 d0 e1 e2 e3 e4
                clear SOK
                have SOK := hide (unhide B2).q.T.qa.ok
                have A1 := unhide B2
                obtain ⟨d0, e0, e1, e2, e3, e4⟩ := A1.cells
                have CL := ao_left A1 0
                clear A1 B2
                go_wp2_with fail
                refine CL.mono ?_
                rintro e W ⟨rfl, A2⟩
                clear CL d0 e0 e1 e2 e3 e4
                obtain ⟨d0, e0, e1, e2, e3, e4⟩ := A2.cells
                have CR := ao_rasked A2 (unhide SOK) 0
                clear A2
                go_wp2_with fail
                refine CR.mono ?_
                rintro e W2 ⟨rfl, A3⟩
                clear CR d0 e0 e1 e2 e3 e4
                obtain ⟨s3, t3, Q3⟩ := unhide G4 _ _ A3.q
                have R3 := hide Q3
                clear A3 Q3 G4
                generalize (fillF 0 s').left = LL at *
                go_wp2_with fail
                go_roundw
                case rel => exact ⟨k + 1, _, _, (unhide HLT).1, by go_num, R3⟩
                case measure => have := unhide HLT; simp [intOf]; omega
      · have alt : (¬ (k : Int) < (len : Int)) ∨ ((k : Int) < (len : Int) ∧ ¬ (k : Int) < 4000) := by omega
        have EN := hide (unhide H).T.qa.grown
        clear H hlt
        rcases alt with e1 | ⟨e1, e2⟩
        all_goals
          go_wp2_with fail
          go_ret
          exact ⟨rfl, unhide EN⟩
end Go.Proofs.Ytlfldbagbafjfaa
