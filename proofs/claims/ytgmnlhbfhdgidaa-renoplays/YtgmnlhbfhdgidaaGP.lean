/- RenoPlays. -/
import Derived.Test.YtgmnlhbfhdgidaaGP0
namespace Go.Proofs.Ytgmnlhbfhdgidaa
open Go.RowKit
set_option linter.unusedVariables false
set_option maxRecDepth 100000
set_option maxHeartbeats 4000000

theorem Blk.twos {W : World} {g : Nat} {t : TypeId} {v0 v1 : Value} (h : Blk W g #[v0, v1] t) : W.cell? ⟨g, 0, none⟩ = some v0 ∧ W.cell? ⟨g, 1, none⟩ = some v1 := ⟨h.cell 0 _ rfl, h.cell 1 _ rfl⟩
theorem Blk.sixes {W : World} {g : Nat} {t : TypeId} {v0 v1 v2 v3 v4 v5 : Value} (h : Blk W g #[v0, v1, v2, v3, v4, v5] t) : W.cell? ⟨g, 0, none⟩ = some v0 ∧ W.cell? ⟨g, 1, none⟩ = some v1 ∧ W.cell? ⟨g, 2, none⟩ = some v2 ∧ W.cell? ⟨g, 3, none⟩ = some v3 ∧ W.cell? ⟨g, 4, none⟩ = some v4 ∧ W.cell? ⟨g, 5, none⟩ = some v5 := ⟨h.cell 0 _ rfl, h.cell 1 _ rfl, h.cell 2 _ rfl, h.cell 3 _ rfl, h.cell 4 _ rfl, h.cell 5 _ rfl⟩

theorem plays_walk (i0 j0 : Int) (a0 : Option Addr) (len cap : Nat) (ol : List OpE) (w : World) (hi : i64B i0) (hj : i64B j0) (h : IsOps w a0 len cap ol) :
    Calls Try.prog 3 #[.int .i64 i0, .int .i64 j0, .slice a0 len cap] w fun e w' => e = .returned (.bool true) ∧ w.grownBy w' none := by
  have sh := shown_any w
  have HO := hide h
  have hl := h.hlen
  have hcap := h.hcap
  have lenI : ¬ (9223372036854775807 : Int) < (len : Int) := by omega
  have CT := hide (fun (W : World) (g : w.grownBy W none) => qe_ctl g i0 hi)
  have CT2 := hide (fun (W : World) (g : w.grownBy W none) => qe_ctl g j0 hj)
  have M1 := mtu_any i0 hi
  have M2 := mtu_any j0 hj
  have N1 := fun W => rnew_any (mtuF i0) (mtu_fits i0) W
  have N2 := fun W => rnew_any (mtuF j0) (mtu_fits j0) W
  clear h
  obtain ⟨P, no, fb, hn, ht, hal⟩ : ∃ (P : World → Value) (no : Int) (fb : Bool), (∀ W : World, Calls Try.prog 10 #[.int .i64 i0] W fun e w' => e = .returned (.tuple #[P W, .int .i64 no]) ∧ W.grownBy w' none) ∧ (∀ W : World, Calls Try.prog 11 #[.int .i64 i0] W fun e w' => e = .returned (.bool fb) ∧ w' = W) ∧ ((fb = true ∧ no = 0 ∧ ∀ W, P W = ptr W.heap.size) ∨ (fb = false ∧ no = 1 ∧ ∀ W, P W = .pointer none)) := by
    by_cases hf : fitsF i0
    · exact ⟨fun W => ptr W.heap.size, 0, true, fun W => (new_ok i0 hf W).mono fun e w' ⟨h1, h2, h3⟩ => ⟨h1, h3⟩, takes_ok i0 hf, .inl ⟨rfl, rfl, fun _ => rfl⟩⟩
    · exact ⟨fun W => .pointer none, 1, false, fun W => (new_no i0 hf W).mono fun e w' ⟨h1, h2⟩ => ⟨h1, by rw [h2]; exact World.grownBy.refl _ _⟩, takes_no i0 hf, .inr ⟨rfl, rfl, fun _ => rfl⟩⟩
  generalize cs0 (mtuF i0) = s0 at *
  generalize cs0 (mtuF j0) = t0 at *
  generalize mtuF i0 = m0 at *
  generalize mtuF j0 = m1 at *
  unfold rcc at N1 N2
  go_enter Try.func3, Try.ntmps3
  go_wp2_with fail
  refine sh.mono ?_
  rintro e w0 ⟨rfl, k0⟩
  clear sh
  go_wp2_with fail
  refine (hn _).mono ?_
  rintro e w1 ⟨rfl, k1⟩
  have g1 := k0.trans k1
  clear hn k0 k1
  go_wp2_with fail
  refine (ht _).mono ?_
  rintro e w1' ⟨rfl, hw1'⟩
  replace hw1' := hw1'.symm
  subst hw1'
  clear ht
  rcases hal with ⟨rfl, rfl, hP⟩ | ⟨rfl, rfl, hP⟩
  all_goals
    rw [hP]
    clear hP P
    go_wp2_with fail
    refine (unhide CT _ g1).mono ?_
    rintro e w2 ⟨a, -, rfl, q2, -⟩
    clear g1
    go_wp2_with fail
    refine (unhide CT2 _ q2.grown).mono ?_
    rintro e w3 ⟨b, hb, rfl, q3, k3⟩
    have T0 : TQ w w3 a b 0 s0 t0 := ⟨q2.keep k3, q3, by have := q2.at_.lt; omega⟩
    clear CT CT2 q2 q3 k3 hb
    have T1 := T0.keep (World.grownBy_alloc w3 (.cells #[ptr a, ptr b] 30) none)
    have B1 := Blk.new w3 #[ptr a, ptr b] 30
    have nc : w.heap.size ≤ w3.heap.size := T0.qa.grown.size
    clear T0
    go_wp2_with fail
    generalize w3.heap.size = cb at *
    generalize w3.alloc _ = w4 at *
    refine (M1 _).mono ?_
    rintro e w5 ⟨rfl, hW⟩
    replace hW := hW.symm
    subst hW
    go_wp2_with fail
    refine (N1 _).mono ?_
    rintro e w5 ⟨rfl, g5⟩
    go_wp2_with fail
    refine (M2 _).mono ?_
    rintro e w6 ⟨rfl, hW⟩
    replace hW := hW.symm
    subst hW
    go_wp2_with fail
    refine (N2 _).mono ?_
    rintro e w6 ⟨rfl, g6⟩
    have g7 := (g5.trans g6).trans (World.grownBy_alloc w6 (.cells (rcc s0 ++ rcc t0) 37) none)
    have P0 : PQ w (w6.alloc (.cells (rcc s0 ++ rcc t0) 37)) a b cb w6.heap.size 0 s0 t0 s0 t0 := ⟨T1.keep g7, B1.grown g7, Blk.new _ _ _, nc, Nat.le_trans (T1.qa.grown.trans (g5.trans g6)).size (Nat.le_refl _)⟩
    obtain ⟨x0, x1⟩ := P0.row.twos
    have S0 := hide P0
    clear P0 T1 B1 nc g5 g6 g7 M1 M2 N1 N2
    have rE : rcc s0 ++ rcc t0 = #[.int .i64 s0.mtu, .int .i64 s0.clock, .int .i64 s0.rest, .int .i64 s0.size, .int .i64 s0.thr, .int .i64 s0.flight, .int .i64 s0.began, .int .i64 t0.mtu, .int .i64 t0.clock, .int .i64 t0.rest, .int .i64 t0.size, .int .i64 t0.thr, .int .i64 t0.flight, .int .i64 t0.began] := rfl
    rw [rE] at S0 x0 x1
    clear rE
    go_wp2_with fail
    generalize w6.heap.size = rr at *
    generalize w6.alloc _ = w7 at *
    clear x0 x1
    go_loopw [13] (fun i wr => ∃ (k : Nat) (s t : Cs), k ≤ len ∧ k ≤ 4000 ∧ i = .int .i64 k ∧ Hid (PQ w wr a b cb rr k s t s t)) (fun i _ => len - (intOf i).toNat)
    case atStart => exact ⟨0, _, _, Nat.zero_le _, Nat.zero_le _, rfl, S0⟩
    case round =>
      clear S0
      obtain ⟨k, s, t, hk, hk4, rfl, H⟩ := hrel
      by_cases hlt : k < len ∧ k < 4000
      · obtain ⟨bo, off, rfl, hcs⟩ := (unhide HO).cell.resolve_left (by omega)
        have hx' : ol[k]? = some ol[k] := List.getElem?_eq_getElem _
        have hcx := hcs k _ hx'
        generalize ol[k] = y at *
        have gr := (unhide H).T.qa.grown
        have c0 : wr.cell? ⟨bo, off + k * 6, none⟩ = some (.int .i64 y.kind) := cell_grown (hcx 0 _ rfl) gr
        have c1 : wr.cell? ⟨bo, off + k * 6 + 1, none⟩ = some (.int .i64 y.h) := cell_grown (hcx 1 _ rfl) gr
        have c2 : wr.cell? ⟨bo, off + k * 6 + 2, none⟩ = some (.int .i64 y.now) := cell_grown (hcx 2 _ rfl) gr
        have c3 : wr.cell? ⟨bo, off + k * 6 + 3, none⟩ = some (.int .i64 y.sent) := cell_grown (hcx 3 _ rfl) gr
        have c4 : wr.cell? ⟨bo, off + k * 6 + 4, none⟩ = some (.int .i64 y.size) := cell_grown (hcx 4 _ rfl) gr
        have c5 : wr.cell? ⟨bo, off + k * 6 + 5, none⟩ = some (.bool y.lim) := cell_grown (hcx 5 _ rfl) gr
        have kn : (k : Int) < (len : Int) := by omega
        have k4 : (k : Int) < 4000 := by omega
        have HLT := hide hlt
        have Q0 := (unhide H).keep (World.grownBy_alloc wr (.cells (opc y) 39) none)
        have BO := Blk.new wr (opc y) 39
        have hand : y.h % 2 = 0 ∨ y.h % 2 = 1 := by omega
        rw [← and_one_i64] at hand
        clear hcs hcx hx' gr hlt hk H
        unfold opc at *
        rcases hand with hb | hb
        · as_aux_lemma =>
          have n0 : k ≤ 4000 := hk4
          have IS : inB s := ok_in Q0.T.qa.ok (by omega)
          have IT : inB (doesF y s) := ok_in (does_ok Q0.T.qa.ok y) (by omega)
          have D0 := pq_da (Q0.keep (drew_grown _)) (by omega) y
          have ne0 : wr.heap.size ≠ a := Blk.neT BO Q0.T.qa.at_ (by decide)
          obtain ⟨x0, x1⟩ := Q0.row.twos
          obtain ⟨o0, o1, o2, o3, o4, o5⟩ := BO.sixes
          unfold opc at D0
          clear Q0
          go_wp2_with fail
          clear c0 c1 c2 c3 c4 c5
          go_region_held3 (fun X => X.cell? ⟨cb, 0, none⟩ = some (ptr a) ∧ X.cell? ⟨wr.heap.size, 0, none⟩ = some (.int .i64 y.kind) ∧ X.cell? ⟨wr.heap.size, 1, none⟩ = some (.int .i64 y.h) ∧ X.cell? ⟨wr.heap.size, 2, none⟩ = some (.int .i64 y.now) ∧ X.cell? ⟨wr.heap.size, 3, none⟩ = some (.int .i64 y.sent) ∧ X.cell? ⟨wr.heap.size, 4, none⟩ = some (.int .i64 y.size) ∧ X.cell? ⟨wr.heap.size, 5, none⟩ = some (.bool y.lim)) (go_keep) (first | (go_at_call 15; refine D0.mono ?_; rintro e W2 ⟨rfl, Q2, g2⟩; have B2 := Blk.far (Blk.drew BO) g2 ne0; clear x0 x1 o0 o1 o2 o3 o4 o5; obtain ⟨x0, x1⟩ := Q2.row.twos; obtain ⟨o0, o1, o2, o3, o4, o5⟩ := B2.sixes))
          have D2 := pq_sa (Q2.keep (drew_grown _)) IS y
          have ne2 : wr.heap.size ≠ rr := Blk.neT B2 Q2.two (by decide)
          unfold opc at D2
          clear D0 BO ne0 Q2 g2 IS
          generalize cutF y s = ct at *
          generalize doesF y s = s' at *
          go_wp2_with fail
          go_region_held3 (fun X => X.cell? ⟨wr.heap.size, 0, none⟩ = some (.int .i64 y.kind) ∧ X.cell? ⟨wr.heap.size, 1, none⟩ = some (.int .i64 y.h) ∧ X.cell? ⟨wr.heap.size, 2, none⟩ = some (.int .i64 y.now) ∧ X.cell? ⟨wr.heap.size, 3, none⟩ = some (.int .i64 y.sent) ∧ X.cell? ⟨wr.heap.size, 4, none⟩ = some (.int .i64 y.size) ∧ X.cell? ⟨wr.heap.size, 5, none⟩ = some (.bool y.lim)) (go_keep) (first | (go_at_call 16; refine D2.mono ?_; rintro e W3 ⟨rfl, Q3, g3⟩; have B3 := Blk.far (Blk.drew B2) g3 ne2; clear x0 x1 o0 o1 o2 o3 o4 o5; obtain ⟨x0, x1⟩ := Q3.row.twos; obtain ⟨o0, o1, o2, o3, o4, o5⟩ := B3.sixes))
          have D3 := pq_ma (Q3.keep (drew_grown _)) (by omega) y.size
          clear D2 B2 ne2 Q3 g3
          go_wp2_with fail
          go_region_held3 (fun X => X.cell? ⟨cb, 0, none⟩ = some (ptr a) ∧ X.cell? ⟨wr.heap.size, 4, none⟩ = some (.int .i64 y.size)) (go_keep) (first | (go_at_call 17; refine D3.mono ?_; rintro e W4 ⟨rfl, Q4, g4⟩; have B4 := Blk.grown (Blk.drew B3) g4; clear x0 x1 o0 o1 o2 o3 o4 o5; obtain ⟨x0, x1⟩ := Q4.row.twos; obtain ⟨o0, o1, o2, o3, o4, o5⟩ := B4.sixes))
          have D4 := pq_ra (Q4.keep (drew_grown _)) IT y.size
          clear D3 B3 Q4 g4 IT
          generalize mayF y.size s' = my at *
          go_wp2_with fail
          go_region_held3 (fun X => X.cell? ⟨wr.heap.size, 4, none⟩ = some (.int .i64 y.size)) (go_keep) (first | (go_at_call 18; refine D4.mono ?_; rintro e W5 ⟨rfl, Q5, g5⟩; have B5 := Blk.grown (Blk.drew B4) g5; clear x0 x1 o0 o1 o2 o3 o4 o5; obtain ⟨x0, x1⟩ := Q5.row.twos; obtain ⟨o0, o1, o2, o3, o4, o5⟩ := B5.sixes))
          have VA := pq_va (Q5.keep (drew_grown _))
          unfold vwc at VA
          obtain ⟨-, -, -, -, r3, r4, r5, r6⟩ := Q5.two.full0
          obtain ⟨-, -, -, -, q3, q4, q5, q6⟩ := Q5.two.full7
          clear D4 B4 B5 Q5 g5 o0 o1 o2 o3 o4 o5
          go_wp2_with fail
          go_region_held3 (fun X => X.cell? ⟨cb, 0, none⟩ = some (ptr a) ∧ X.cell? ⟨cb, 1, none⟩ = some (ptr b) ∧ X.cell? ⟨rr, 3, none⟩ = some (.int .i64 s'.size) ∧ X.cell? ⟨rr, 4, none⟩ = some (.int .i64 s'.thr) ∧ X.cell? ⟨rr, 5, none⟩ = some (.int .i64 s'.flight) ∧ X.cell? ⟨rr, 6, none⟩ = some (.int .i64 s'.began) ∧ X.cell? ⟨rr, 10, none⟩ = some (.int .i64 t.size) ∧ X.cell? ⟨rr, 11, none⟩ = some (.int .i64 t.thr) ∧ X.cell? ⟨rr, 12, none⟩ = some (.int .i64 t.flight) ∧ X.cell? ⟨rr, 13, none⟩ = some (.int .i64 t.began)) (go_keep) (first | (go_at_call 19; refine VA.mono ?_; rintro e W6 ⟨rfl, Q6, g6⟩; have VB := pq_vb Q6; unfold vwc at VB; clear VA g6 x0 x1 r3 r4 r5 r6 q3 q4 q5 q6; obtain ⟨x0, x1⟩ := Q6.row.twos; obtain ⟨-, -, -, -, r3, r4, r5, r6⟩ := Q6.two.full0; obtain ⟨-, -, -, -, q3, q4, q5, q6⟩ := Q6.two.full7) | (go_at_call 19; refine VB.mono ?_; rintro e W7 ⟨rfl, Q7, g7⟩; clear VB g7 x0 x1 r3 r4 r5 r6 q3 q4 q5 q6; obtain ⟨x0, x1⟩ := Q7.row.twos; obtain ⟨-, -, -, -, r3, r4, r5, r6⟩ := Q7.two.full0; obtain ⟨-, -, -, -, q3, q4, q5, q6⟩ := Q7.two.full7))
          have R := hide Q7
          clear Q6 Q7 x0 x1 r3 r4 r5 r6 q3 q4 q5 q6
          go_wp2_with fail
          go_roundw
          case rel => exact ⟨k + 1, _, _, (unhide HLT).1, (unhide HLT).2, by go_num, R⟩
          case measure => have := unhide HLT; simp [intOf]; omega
        · as_aux_lemma =>
          have n0 : k ≤ 4000 := hk4
          have IS : inB t := ok_in Q0.T.qb.ok (by omega)
          have IT : inB (doesF y t) := ok_in (does_ok Q0.T.qb.ok y) (by omega)
          have D0 := pq_db (Q0.keep (drew_grown _)) (by omega) y
          have ne0 : wr.heap.size ≠ b := Blk.neT BO Q0.T.qb.at_ (by decide)
          obtain ⟨x0, x1⟩ := Q0.row.twos
          obtain ⟨o0, o1, o2, o3, o4, o5⟩ := BO.sixes
          unfold opc at D0
          clear Q0
          go_wp2_with fail
          clear c0 c1 c2 c3 c4 c5
          go_region_held3 (fun X => X.cell? ⟨cb, 1, none⟩ = some (ptr b) ∧ X.cell? ⟨wr.heap.size, 0, none⟩ = some (.int .i64 y.kind) ∧ X.cell? ⟨wr.heap.size, 1, none⟩ = some (.int .i64 y.h) ∧ X.cell? ⟨wr.heap.size, 2, none⟩ = some (.int .i64 y.now) ∧ X.cell? ⟨wr.heap.size, 3, none⟩ = some (.int .i64 y.sent) ∧ X.cell? ⟨wr.heap.size, 4, none⟩ = some (.int .i64 y.size) ∧ X.cell? ⟨wr.heap.size, 5, none⟩ = some (.bool y.lim)) (go_keep) (first | (go_at_call 15; refine D0.mono ?_; rintro e W2 ⟨rfl, Q2, g2⟩; have B2 := Blk.far (Blk.drew BO) g2 ne0; clear x0 x1 o0 o1 o2 o3 o4 o5; obtain ⟨x0, x1⟩ := Q2.row.twos; obtain ⟨o0, o1, o2, o3, o4, o5⟩ := B2.sixes))
          have D2 := pq_sb (Q2.keep (drew_grown _)) IS y
          have ne2 : wr.heap.size ≠ rr := Blk.neT B2 Q2.two (by decide)
          unfold opc at D2
          clear D0 BO ne0 Q2 g2 IS
          generalize cutF y t = ct at *
          generalize doesF y t = s' at *
          go_wp2_with fail
          go_region_held3 (fun X => X.cell? ⟨wr.heap.size, 0, none⟩ = some (.int .i64 y.kind) ∧ X.cell? ⟨wr.heap.size, 1, none⟩ = some (.int .i64 y.h) ∧ X.cell? ⟨wr.heap.size, 2, none⟩ = some (.int .i64 y.now) ∧ X.cell? ⟨wr.heap.size, 3, none⟩ = some (.int .i64 y.sent) ∧ X.cell? ⟨wr.heap.size, 4, none⟩ = some (.int .i64 y.size) ∧ X.cell? ⟨wr.heap.size, 5, none⟩ = some (.bool y.lim)) (go_keep) (first | (go_at_call 16; refine D2.mono ?_; rintro e W3 ⟨rfl, Q3, g3⟩; have B3 := Blk.far (Blk.drew B2) g3 ne2; clear x0 x1 o0 o1 o2 o3 o4 o5; obtain ⟨x0, x1⟩ := Q3.row.twos; obtain ⟨o0, o1, o2, o3, o4, o5⟩ := B3.sixes))
          have D3 := pq_mb (Q3.keep (drew_grown _)) (by omega) y.size
          clear D2 B2 ne2 Q3 g3
          go_wp2_with fail
          go_region_held3 (fun X => X.cell? ⟨cb, 1, none⟩ = some (ptr b) ∧ X.cell? ⟨wr.heap.size, 4, none⟩ = some (.int .i64 y.size)) (go_keep) (first | (go_at_call 17; refine D3.mono ?_; rintro e W4 ⟨rfl, Q4, g4⟩; have B4 := Blk.grown (Blk.drew B3) g4; clear x0 x1 o0 o1 o2 o3 o4 o5; obtain ⟨x0, x1⟩ := Q4.row.twos; obtain ⟨o0, o1, o2, o3, o4, o5⟩ := B4.sixes))
          have D4 := pq_rb (Q4.keep (drew_grown _)) IT y.size
          clear D3 B3 Q4 g4 IT
          generalize mayF y.size s' = my at *
          go_wp2_with fail
          go_region_held3 (fun X => X.cell? ⟨wr.heap.size, 4, none⟩ = some (.int .i64 y.size)) (go_keep) (first | (go_at_call 18; refine D4.mono ?_; rintro e W5 ⟨rfl, Q5, g5⟩; have B5 := Blk.grown (Blk.drew B4) g5; clear x0 x1 o0 o1 o2 o3 o4 o5; obtain ⟨x0, x1⟩ := Q5.row.twos; obtain ⟨o0, o1, o2, o3, o4, o5⟩ := B5.sixes))
          have VA := pq_va (Q5.keep (drew_grown _))
          unfold vwc at VA
          obtain ⟨-, -, -, -, r3, r4, r5, r6⟩ := Q5.two.full0
          obtain ⟨-, -, -, -, q3, q4, q5, q6⟩ := Q5.two.full7
          clear D4 B4 B5 Q5 g5 o0 o1 o2 o3 o4 o5
          go_wp2_with fail
          go_region_held3 (fun X => X.cell? ⟨cb, 0, none⟩ = some (ptr a) ∧ X.cell? ⟨cb, 1, none⟩ = some (ptr b) ∧ X.cell? ⟨rr, 3, none⟩ = some (.int .i64 s.size) ∧ X.cell? ⟨rr, 4, none⟩ = some (.int .i64 s.thr) ∧ X.cell? ⟨rr, 5, none⟩ = some (.int .i64 s.flight) ∧ X.cell? ⟨rr, 6, none⟩ = some (.int .i64 s.began) ∧ X.cell? ⟨rr, 10, none⟩ = some (.int .i64 s'.size) ∧ X.cell? ⟨rr, 11, none⟩ = some (.int .i64 s'.thr) ∧ X.cell? ⟨rr, 12, none⟩ = some (.int .i64 s'.flight) ∧ X.cell? ⟨rr, 13, none⟩ = some (.int .i64 s'.began)) (go_keep) (first | (go_at_call 19; refine VA.mono ?_; rintro e W6 ⟨rfl, Q6, g6⟩; have VB := pq_vb Q6; unfold vwc at VB; clear VA g6 x0 x1 r3 r4 r5 r6 q3 q4 q5 q6; obtain ⟨x0, x1⟩ := Q6.row.twos; obtain ⟨-, -, -, -, r3, r4, r5, r6⟩ := Q6.two.full0; obtain ⟨-, -, -, -, q3, q4, q5, q6⟩ := Q6.two.full7) | (go_at_call 19; refine VB.mono ?_; rintro e W7 ⟨rfl, Q7, g7⟩; clear VB g7 x0 x1 r3 r4 r5 r6 q3 q4 q5 q6; obtain ⟨x0, x1⟩ := Q7.row.twos; obtain ⟨-, -, -, -, r3, r4, r5, r6⟩ := Q7.two.full0; obtain ⟨-, -, -, -, q3, q4, q5, q6⟩ := Q7.two.full7))
          have R := hide Q7
          clear Q6 Q7 x0 x1 r3 r4 r5 r6 q3 q4 q5 q6
          go_wp2_with fail
          go_roundw
          case rel => exact ⟨k + 1, _, _, (unhide HLT).1, (unhide HLT).2, by go_num, R⟩
          case measure => have := unhide HLT; simp [intOf]; omega
      · have alt : (¬ (k : Int) < (len : Int)) ∨ ((k : Int) < (len : Int) ∧ ¬ (k : Int) < 4000) := by omega
        have EN := hide (unhide H).T.qa.grown
        clear H hlt
        rcases alt with e1 | ⟨e1, e2⟩
        all_goals
          go_wp2_with fail
          go_ret
          exact ⟨rfl, unhide EN⟩
end Go.Proofs.Ytgmnlhbfhdgidaa
