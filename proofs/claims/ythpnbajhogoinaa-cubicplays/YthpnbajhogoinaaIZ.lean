/- CubicPlays. -/
import Derived.Test.YthpnbajhogoinaaI2G
namespace Go.Proofs.Ythpnbajhogoinaa
open Go.RowKit Fl
set_option linter.unusedVariables false
set_option maxRecDepth 100000
set_option maxHeartbeats 4000000
attribute [local go_sem] run_store_float

theorem Blk.twos {W : World} {g : Nat} {t : TypeId} {v0 v1 : Value} (h : Blk W g #[v0, v1] t) : W.cell? ⟨g, 0, none⟩ = some v0 ∧ W.cell? ⟨g, 1, none⟩ = some v1 := ⟨h.cell 0 _ rfl, h.cell 1 _ rfl⟩
theorem Blk.sixes {W : World} {g : Nat} {t : TypeId} {v0 v1 v2 v3 v4 v5 : Value} (h : Blk W g #[v0, v1, v2, v3, v4, v5] t) : W.cell? ⟨g, 0, none⟩ = some v0 ∧ W.cell? ⟨g, 1, none⟩ = some v1 ∧ W.cell? ⟨g, 2, none⟩ = some v2 ∧ W.cell? ⟨g, 3, none⟩ = some v3 ∧ W.cell? ⟨g, 4, none⟩ = some v4 ∧ W.cell? ⟨g, 5, none⟩ = some v5 := ⟨h.cell 0 _ rfl, h.cell 1 _ rfl, h.cell 2 _ rfl, h.cell 3 _ rfl, h.cell 4 _ rfl, h.cell 5 _ rfl⟩

theorem Try.sizeR2 : (Try.prog.info? 38).map (·.size) = some 24 := by kernel_rfl
theorem RB.new (w : World) (R S : Cs) : RB (w.alloc (.cells (rcc R ++ rcc S) 38)) w.heap.size 0 12 R S := by
  refine ⟨rcc R ++ rcc S, Blk.new _ _ _, rfl, fun j v hj hv => ?_, fun j v hj hv => ?_⟩
  · rw [Nat.zero_add, Array.getElem?_append_left (by rw [rcc_size]; exact hj)]
    exact hv
  · rw [Array.getElem?_append_right (by rw [rcc_size]; omega), rcc_size, Nat.add_sub_cancel_left]
    exact hv
theorem lk_may {s r : Cs} (h : Lk s r) (x : Int) : mayF x r = mayF x s := by
  obtain ⟨-, e1, e2, -⟩ := h.view
  unfold mayF
  rw [e1, e2]
theorem PQ.wins {w wr : World} {a b cb rr n : Nat} {s t R S : Cs} (h : PQ w wr a b cb rr n s t R S) (la : Lk s R) (lb : Lk t S) : wr.cell? ⟨rr, 8, none⟩ = some (.int .i64 s.size) ∧ wr.cell? ⟨rr, 9, none⟩ = some (.int .i64 s.thr) ∧ wr.cell? ⟨rr, 10, none⟩ = some (.int .i64 s.flight) ∧ wr.cell? ⟨rr, 11, none⟩ = some (.int .i64 s.began) ∧ wr.cell? ⟨rr, 20, none⟩ = some (.int .i64 t.size) ∧ wr.cell? ⟨rr, 21, none⟩ = some (.int .i64 t.thr) ∧ wr.cell? ⟨rr, 22, none⟩ = some (.int .i64 t.flight) ∧ wr.cell? ⟨rr, 23, none⟩ = some (.int .i64 t.began) := by
  have h1 := h.two.wins
  obtain ⟨-, a1, a2, a3⟩ := la.view
  obtain ⟨-, b1, b2, b3⟩ := lb.view
  have a4 : R.thr = s.thr := by rw [la.eq]
  have b4 : S.thr = t.thr := by rw [lb.eq]
  rw [a1, a2, a3, a4, b1, b2, b3, b4] at h1
  exact h1

theorem plays_walk (i0 j0 : Int) (a0 : Option Addr) (len cap : Nat) (ol : List OpE) (w : World) (hi : i64B i0) (hj : i64B j0) (h : IsOps w a0 len cap ol) :
    Calls Try.prog 3 #[.int .i64 i0, .int .i64 j0, .slice a0 len cap] w fun e w' => e = .returned (.bool true) ∧ w.grownBy w' none := by
  have sh := shown_any w
  have HO := hide h
  have hl := h.hlen
  have hcap := h.hcap
  have lenI : ¬ (9223372036854775807 : Int) < (len : Int) := by omega
  have CT := hide (fun (W : World) (g : w.grownBy W none) => qe_ctl g i0 hi)
  have CT2 := hide (fun (W : World) (g : w.grownBy W none) => qe_ctl g j0 hj)
  have M1 := mtu_any i0 hi
  have M2 := mtu_any j0 hj
  have N1 := fun W => rnew_any (mtuF i0) (mtu_fits i0) W
  have N2 := fun W => rnew_any (mtuF j0) (mtu_fits j0) W
  clear h
  obtain ⟨no, fb, hn, ht, hal⟩ : ∃ (no : Int) (fb : Bool), (∀ W : World, Calls Try.prog 10 #[.int .i64 i0] W fun e w' => ∃ P : Option Addr, e = .returned (.tuple #[.pointer P, .int .i64 no]) ∧ ((fb = true ∧ ∃ b, P = some ⟨b, 0, none⟩) ∨ (fb = false ∧ P = none)) ∧ W.grownBy w' none) ∧ (∀ W : World, Calls Try.prog 11 #[.int .i64 i0] W fun e w' => e = .returned (.bool fb) ∧ w' = W) ∧ ((fb = true ∧ no = 0) ∨ (fb = false ∧ no = 1)) := by
    by_cases hf : fitsF i0
    · exact ⟨0, true, fun W => (new_ok i0 hf W).mono fun e w' ⟨b, h1, hb, h2, h3⟩ => ⟨_, h1, .inl ⟨rfl, b, rfl⟩, h3⟩, takes_ok i0 hf, .inl ⟨rfl, rfl⟩⟩
    · exact ⟨1, false, fun W => (new_no i0 hf W).mono fun e w' ⟨h1, h2⟩ => ⟨_, h1, .inr ⟨rfl, rfl⟩, by rw [h2]; exact World.grownBy.refl _ _⟩, takes_no i0 hf, .inr ⟨rfl, rfl⟩⟩
  have oS0 := cs0_ok (mtu_fits i0)
  have oT0 := cs0_ok (mtu_fits j0)
  generalize cs0 (mtuF i0) = s0 at *
  generalize cs0 (mtuF j0) = t0 at *
  generalize mtuF i0 = m0 at *
  generalize mtuF j0 = m1 at *
  unfold rcc at N1 N2
  go_enter Try.func3, Try.ntmps3
  go_wp2_with fail
  refine sh.mono ?_
  rintro e w0 ⟨rfl, k0⟩
  clear sh
  go_wp2_with fail
  refine (hn _).mono ?_
  rintro e w1 ⟨P, rfl, hP, k1⟩
  have g1 := k0.trans k1
  have HP := hide hP
  clear hP
  clear hn k0 k1
  go_wp2_with fail
  refine (ht _).mono ?_
  rintro e w1' ⟨rfl, hw1'⟩
  replace hw1' := hw1'.symm
  subst hw1'
  clear ht
  have hP := unhide HP
  clear HP
  rcases hal with ⟨rfl, rfl⟩ | ⟨rfl, rfl⟩ <;> rcases hP with ⟨hp, bp, rfl⟩ | ⟨hp, rfl⟩
  any_goals (first | (cases hp; done) | skip)
  all_goals
    clear hp
    go_wp2_with fail
    refine (unhide CT _ g1).mono ?_
    rintro e w2 ⟨a, -, rfl, q2, -⟩
    clear g1
    go_wp2_with fail
    refine (unhide CT2 _ q2.grown).mono ?_
    rintro e w3 ⟨b, hb, rfl, q3, k3⟩
    have T0 : TQ w w3 a b 0 s0 t0 := ⟨q2.keep k3, q3, by have := q2.at_.lt; omega⟩
    clear CT CT2 q2 q3 k3 hb
    have T1 := T0.keep (World.grownBy_alloc w3 (.cells #[ptr a, ptr b] 30) none)
    have B1 := Blk.new w3 #[ptr a, ptr b] 30
    have nc : w.heap.size ≤ w3.heap.size := T0.qa.grown.size
    clear T0
    go_wp2_with fail
    generalize w3.heap.size = cb at *
    generalize w3.alloc _ = w4 at *
    refine (M1 _).mono ?_
    rintro e w5 ⟨rfl, hW⟩
    replace hW := hW.symm
    subst hW
    go_wp2_with fail
    refine (N1 _).mono ?_
    rintro e w5 ⟨rfl, g5⟩
    go_wp2_with fail
    refine (M2 _).mono ?_
    rintro e w6 ⟨rfl, hW⟩
    replace hW := hW.symm
    subst hW
    go_wp2_with fail
    refine (N2 _).mono ?_
    rintro e w6 ⟨rfl, g6⟩
    have g7 := (g5.trans g6).trans (World.grownBy_alloc w6 (.cells (rcc s0 ++ rcc t0) 38) none)
    have P0 : PQ w (w6.alloc (.cells (rcc s0 ++ rcc t0) 38)) a b cb w6.heap.size 0 s0 t0 s0 t0 := ⟨T1.keep g7, B1.grown g7, RB.new _ _ _, nc, Nat.le_trans (T1.qa.grown.trans (g5.trans g6)).size (Nat.le_refl _)⟩
    obtain ⟨x0, x1⟩ := P0.row.twos
    have S0 : Hid (_ ∧ Lk s0 s0 ∧ Lk t0 t0 ∧ s0.Ok 0 ∧ t0.Ok 0) := ⟨P0, Lk.refl _, Lk.refl _, oS0, oT0⟩
    clear oS0 oT0
    clear P0 T1 B1 nc g5 g6 g7 M1 M2 N1 N2
    have rE : rcc s0 ++ rcc t0 = #[.int .i64 s0.mtu, .int .i64 s0.clock, .int .i64 s0.ep, .int .i64 s0.wt, fv s0.pk, fv s0.og, fv s0.pl, fv s0.pt, .int .i64 s0.size, .int .i64 s0.thr, .int .i64 s0.flight, .int .i64 s0.began, .int .i64 t0.mtu, .int .i64 t0.clock, .int .i64 t0.ep, .int .i64 t0.wt, fv t0.pk, fv t0.og, fv t0.pl, fv t0.pt, .int .i64 t0.size, .int .i64 t0.thr, .int .i64 t0.flight, .int .i64 t0.began] := rfl
    rw [rE] at S0 x0 x1
    clear rE
    have BZ := hide (Blk.new w6 #[.int .i64 0, .int .i64 0, .int .i64 0, .int .i64 0, fv 0, fv 0, fv 0, fv 0, .int .i64 0, .int .i64 0, .int .i64 0, .int .i64 0, .int .i64 0, .int .i64 0, .int .i64 0, .int .i64 0, fv 0, fv 0, fv 0, fv 0, .int .i64 0, .int .i64 0, .int .i64 0, .int .i64 0] 38)
    go_wp2_with (refine wpList_store_row rfl _ _ _ rfl w6.heap.size #[.int .i64 s0.mtu, .int .i64 s0.clock, .int .i64 s0.ep, .int .i64 s0.wt, fv s0.pk, fv s0.og, fv s0.pl, fv s0.pt, .int .i64 s0.size, .int .i64 s0.thr, .int .i64 s0.flight, .int .i64 s0.began, .int .i64 t0.mtu, .int .i64 t0.clock, .int .i64 t0.ep, .int .i64 t0.wt, fv t0.pk, fv t0.og, fv t0.pl, fv t0.pt, .int .i64 t0.size, .int .i64 t0.thr, .int .i64 t0.flight, .int .i64 t0.began] rfl rfl 38 _ (unhide BZ) Try.sizeR2 rfl (by simp [Value.oneCell']) ?_; rw [World.setRow_alloc_new])
    clear BZ
    generalize w6.heap.size = rr at *
    generalize w6.alloc _ = w7 at *
    clear x0 x1
    go_loopw [13] (fun i wr => ∃ (k : Nat) (s t R S : Cs), k ≤ len ∧ k ≤ 4000 ∧ i = .int .i64 k ∧ Hid (PQ w wr a b cb rr k s t R S ∧ Lk s R ∧ Lk t S ∧ R.Ok k ∧ S.Ok k)) (fun i _ => len - (intOf i).toNat)
    case atStart => exact ⟨0, _, _, _, _, Nat.zero_le _, Nat.zero_le _, rfl, S0⟩
    case round =>
      clear S0
      obtain ⟨k, s, t, R, S, hk, hk4, rfl, H⟩ := hrel
      by_cases hlt : k < len ∧ k < 4000
      · obtain ⟨bo, off, rfl, hcs⟩ := (unhide HO).cell.resolve_left (by omega)
        have hx' : ol[k]? = some ol[k] := List.getElem?_eq_getElem _
        have hcx := hcs k _ hx'
        generalize ol[k] = y at *
        have gr := (unhide H).1.T.qa.grown
        have c0 : wr.cell? ⟨bo, off + k * 6, none⟩ = some (.int .i64 y.kind) := cell_grown (hcx 0 _ rfl) gr
        have c1 : wr.cell? ⟨bo, off + k * 6 + 1, none⟩ = some (.int .i64 y.h) := cell_grown (hcx 1 _ rfl) gr
        have c2 : wr.cell? ⟨bo, off + k * 6 + 2, none⟩ = some (.int .i64 y.now) := cell_grown (hcx 2 _ rfl) gr
        have c3 : wr.cell? ⟨bo, off + k * 6 + 3, none⟩ = some (.int .i64 y.sent) := cell_grown (hcx 3 _ rfl) gr
        have c4 : wr.cell? ⟨bo, off + k * 6 + 4, none⟩ = some (.int .i64 y.size) := cell_grown (hcx 4 _ rfl) gr
        have c5 : wr.cell? ⟨bo, off + k * 6 + 5, none⟩ = some (.bool y.lim) := cell_grown (hcx 5 _ rfl) gr
        have kn : (k : Int) < (len : Int) := by omega
        have k4 : (k : Int) < 4000 := by omega
        have HLT := hide hlt
        obtain ⟨-, LA, LB, oR, oS⟩ := unhide H
        have Q0 := (unhide H).1.keep (World.grownBy_alloc wr (.cells (opc y) 40) none)
        have BO := Blk.new wr (opc y) 40
        have hand : y.h % 2 = 0 ∨ y.h % 2 = 1 := by omega
        rw [← and_one_i64] at hand
        clear hcs hcx hx' gr hlt hk H
        unfold opc at *
        rcases hand with hb | hb
        · as_aux_lemma =>
          have n0 : k ≤ 4000 := hk4
          have okR := rdoes_ok oR (by omega) y
          have okO : S.Ok (k + 1) := oS.up (Nat.le_succ k)
          have hf : 0 ≤ (rdoesF y R).flight ∧ (rdoesF y R).flight ≤ 1000000000000 := ⟨okR.f.1, by have := okR.f.2; omega⟩
          obtain ⟨LD, de⟩ := lk_does LA Q0.T.qa.ok y
          have me := lk_may LD y.size
          have D0 := pq_da (Q0.keep (drew_grown _)) (by omega) y
          have ne0 : wr.heap.size ≠ a := Blk.neT BO Q0.T.qa.at_ (by decide)
          obtain ⟨x0, x1⟩ := Q0.row.twos
          obtain ⟨o0, o1, o2, o3, o4, o5⟩ := BO.sixes
          unfold opc at D0
          clear Q0
          go_wp2_with fail
          clear c0 c1 c2 c3 c4 c5
          go_region_held3 (fun X => X.cell? ⟨cb, 0, none⟩ = some (ptr a) ∧ X.cell? ⟨wr.heap.size, 0, none⟩ = some (.int .i64 y.kind) ∧ X.cell? ⟨wr.heap.size, 1, none⟩ = some (.int .i64 y.h) ∧ X.cell? ⟨wr.heap.size, 2, none⟩ = some (.int .i64 y.now) ∧ X.cell? ⟨wr.heap.size, 3, none⟩ = some (.int .i64 y.sent) ∧ X.cell? ⟨wr.heap.size, 4, none⟩ = some (.int .i64 y.size) ∧ X.cell? ⟨wr.heap.size, 5, none⟩ = some (.bool y.lim)) (go_keep) (first | (go_at_call 15; refine D0.mono ?_; rintro e W2 ⟨rfl, Q2, g2⟩; have B2 := Blk.far (Blk.drew BO) g2 ne0; clear x0 x1 o0 o1 o2 o3 o4 o5; obtain ⟨x0, x1⟩ := Q2.row.twos; obtain ⟨o0, o1, o2, o3, o4, o5⟩ := B2.sixes))
          have D2 := pq_sa (Q2.keep (drew_grown _)) k oR (by omega) y
          rw [de] at D2
          have ne2 : wr.heap.size ≠ rr := (RB.neT Q2.two B2 (by decide)).symm
          unfold opc at D2
          clear D0 BO ne0 Q2 g2 de
          generalize didF y s = ct at *
          generalize doesF y s = s' at *
          generalize rdoesF y R = R' at *
          go_wp2_with fail
          go_region_held3 (fun X => X.cell? ⟨wr.heap.size, 0, none⟩ = some (.int .i64 y.kind) ∧ X.cell? ⟨wr.heap.size, 1, none⟩ = some (.int .i64 y.h) ∧ X.cell? ⟨wr.heap.size, 2, none⟩ = some (.int .i64 y.now) ∧ X.cell? ⟨wr.heap.size, 3, none⟩ = some (.int .i64 y.sent) ∧ X.cell? ⟨wr.heap.size, 4, none⟩ = some (.int .i64 y.size) ∧ X.cell? ⟨wr.heap.size, 5, none⟩ = some (.bool y.lim)) (go_keep) (first | (go_at_call 16; refine D2.mono ?_; rintro e W3 ⟨rfl, Q3, g3⟩; have B3 := Blk.far (Blk.drew B2) g3 ne2; clear x0 x1 o0 o1 o2 o3 o4 o5; obtain ⟨x0, x1⟩ := Q3.row.twos; obtain ⟨o0, o1, o2, o3, o4, o5⟩ := B3.sixes))
          have D3 := pq_ma (Q3.keep (drew_grown _)) (by omega) y.size
          clear D2 B2 ne2 Q3 g3
          go_wp2_with fail
          go_region_held3 (fun X => X.cell? ⟨cb, 0, none⟩ = some (ptr a) ∧ X.cell? ⟨wr.heap.size, 4, none⟩ = some (.int .i64 y.size)) (go_keep) (first | (go_at_call 17; refine D3.mono ?_; rintro e W4 ⟨rfl, Q4, g4⟩; have B4 := Blk.grown (Blk.drew B3) g4; clear x0 x1 o0 o1 o2 o3 o4 o5; obtain ⟨x0, x1⟩ := Q4.row.twos; obtain ⟨o0, o1, o2, o3, o4, o5⟩ := B4.sixes))
          have D4 := pq_ra (Q4.keep (drew_grown _)) hf y.size
          rw [me] at D4
          clear D3 B3 Q4 g4 hf me
          generalize mayF y.size s' = my at *
          go_wp2_with fail
          go_region_held3 (fun X => X.cell? ⟨wr.heap.size, 4, none⟩ = some (.int .i64 y.size)) (go_keep) (first | (go_at_call 18; refine D4.mono ?_; rintro e W5 ⟨rfl, Q5, g5⟩; have B5 := Blk.grown (Blk.drew B4) g5; clear x0 x1 o0 o1 o2 o3 o4 o5; obtain ⟨x0, x1⟩ := Q5.row.twos; obtain ⟨o0, o1, o2, o3, o4, o5⟩ := B5.sixes))
          have VA := pq_va (Q5.keep (drew_grown _))
          unfold vwc at VA
          obtain ⟨r3, r4, r5, r6, q3, q4, q5, q6⟩ := Q5.wins LD LB
          clear D4 B4 B5 Q5 g5 o0 o1 o2 o3 o4 o5
          go_wp2_with fail
          go_region_held3 (fun X => X.cell? ⟨cb, 0, none⟩ = some (ptr a) ∧ X.cell? ⟨cb, 1, none⟩ = some (ptr b) ∧ X.cell? ⟨rr, 8, none⟩ = some (.int .i64 s'.size) ∧ X.cell? ⟨rr, 9, none⟩ = some (.int .i64 s'.thr) ∧ X.cell? ⟨rr, 10, none⟩ = some (.int .i64 s'.flight) ∧ X.cell? ⟨rr, 11, none⟩ = some (.int .i64 s'.began) ∧ X.cell? ⟨rr, 20, none⟩ = some (.int .i64 t.size) ∧ X.cell? ⟨rr, 21, none⟩ = some (.int .i64 t.thr) ∧ X.cell? ⟨rr, 22, none⟩ = some (.int .i64 t.flight) ∧ X.cell? ⟨rr, 23, none⟩ = some (.int .i64 t.began)) (go_keep) (first | (go_at_call 19; refine VA.mono ?_; rintro e W6 ⟨rfl, Q6, g6⟩; have VB := pq_vb Q6; unfold vwc at VB; clear VA g6 x0 x1 r3 r4 r5 r6 q3 q4 q5 q6; obtain ⟨x0, x1⟩ := Q6.row.twos; obtain ⟨r3, r4, r5, r6, q3, q4, q5, q6⟩ := Q6.wins LD LB) | (go_at_call 19; refine VB.mono ?_; rintro e W7 ⟨rfl, Q7, g7⟩; clear VB g7 x0 x1 r3 r4 r5 r6 q3 q4 q5 q6; obtain ⟨x0, x1⟩ := Q7.row.twos; obtain ⟨r3, r4, r5, r6, q3, q4, q5, q6⟩ := Q7.wins LD LB))
          have RR : Hid (_ ∧ Lk s' R' ∧ Lk t S ∧ R'.Ok (k + 1) ∧ S.Ok (k + 1)) := ⟨Q7, LD, LB, okR, okO⟩
          clear Q6 Q7 x0 x1 r3 r4 r5 r6 q3 q4 q5 q6
          go_wp2_with fail
          go_roundw
          case rel => exact ⟨k + 1, _, _, _, _, (unhide HLT).1, (unhide HLT).2, by go_num, RR⟩
          case measure => have := unhide HLT; simp [intOf]; omega
        · as_aux_lemma =>
          have n0 : k ≤ 4000 := hk4
          have okR := rdoes_ok oS (by omega) y
          have okO : R.Ok (k + 1) := oR.up (Nat.le_succ k)
          have hf : 0 ≤ (rdoesF y S).flight ∧ (rdoesF y S).flight ≤ 1000000000000 := ⟨okR.f.1, by have := okR.f.2; omega⟩
          obtain ⟨LD, de⟩ := lk_does LB Q0.T.qb.ok y
          have me := lk_may LD y.size
          have D0 := pq_db (Q0.keep (drew_grown _)) (by omega) y
          have ne0 : wr.heap.size ≠ b := Blk.neT BO Q0.T.qb.at_ (by decide)
          obtain ⟨x0, x1⟩ := Q0.row.twos
          obtain ⟨o0, o1, o2, o3, o4, o5⟩ := BO.sixes
          unfold opc at D0
          clear Q0
          go_wp2_with fail
          clear c0 c1 c2 c3 c4 c5
          go_region_held3 (fun X => X.cell? ⟨cb, 1, none⟩ = some (ptr b) ∧ X.cell? ⟨wr.heap.size, 0, none⟩ = some (.int .i64 y.kind) ∧ X.cell? ⟨wr.heap.size, 1, none⟩ = some (.int .i64 y.h) ∧ X.cell? ⟨wr.heap.size, 2, none⟩ = some (.int .i64 y.now) ∧ X.cell? ⟨wr.heap.size, 3, none⟩ = some (.int .i64 y.sent) ∧ X.cell? ⟨wr.heap.size, 4, none⟩ = some (.int .i64 y.size) ∧ X.cell? ⟨wr.heap.size, 5, none⟩ = some (.bool y.lim)) (go_keep) (first | (go_at_call 15; refine D0.mono ?_; rintro e W2 ⟨rfl, Q2, g2⟩; have B2 := Blk.far (Blk.drew BO) g2 ne0; clear x0 x1 o0 o1 o2 o3 o4 o5; obtain ⟨x0, x1⟩ := Q2.row.twos; obtain ⟨o0, o1, o2, o3, o4, o5⟩ := B2.sixes))
          have D2 := pq_sb (Q2.keep (drew_grown _)) k oS (by omega) y
          rw [de] at D2
          have ne2 : wr.heap.size ≠ rr := (RB.neT Q2.two B2 (by decide)).symm
          unfold opc at D2
          clear D0 BO ne0 Q2 g2 de
          generalize didF y t = ct at *
          generalize doesF y t = s' at *
          generalize rdoesF y S = R' at *
          go_wp2_with fail
          go_region_held3 (fun X => X.cell? ⟨wr.heap.size, 0, none⟩ = some (.int .i64 y.kind) ∧ X.cell? ⟨wr.heap.size, 1, none⟩ = some (.int .i64 y.h) ∧ X.cell? ⟨wr.heap.size, 2, none⟩ = some (.int .i64 y.now) ∧ X.cell? ⟨wr.heap.size, 3, none⟩ = some (.int .i64 y.sent) ∧ X.cell? ⟨wr.heap.size, 4, none⟩ = some (.int .i64 y.size) ∧ X.cell? ⟨wr.heap.size, 5, none⟩ = some (.bool y.lim)) (go_keep) (first | (go_at_call 16; refine D2.mono ?_; rintro e W3 ⟨rfl, Q3, g3⟩; have B3 := Blk.far (Blk.drew B2) g3 ne2; clear x0 x1 o0 o1 o2 o3 o4 o5; obtain ⟨x0, x1⟩ := Q3.row.twos; obtain ⟨o0, o1, o2, o3, o4, o5⟩ := B3.sixes))
          have D3 := pq_mb (Q3.keep (drew_grown _)) (by omega) y.size
          clear D2 B2 ne2 Q3 g3
          go_wp2_with fail
          go_region_held3 (fun X => X.cell? ⟨cb, 1, none⟩ = some (ptr b) ∧ X.cell? ⟨wr.heap.size, 4, none⟩ = some (.int .i64 y.size)) (go_keep) (first | (go_at_call 17; refine D3.mono ?_; rintro e W4 ⟨rfl, Q4, g4⟩; have B4 := Blk.grown (Blk.drew B3) g4; clear x0 x1 o0 o1 o2 o3 o4 o5; obtain ⟨x0, x1⟩ := Q4.row.twos; obtain ⟨o0, o1, o2, o3, o4, o5⟩ := B4.sixes))
          have D4 := pq_rb (Q4.keep (drew_grown _)) hf y.size
          rw [me] at D4
          clear D3 B3 Q4 g4 hf me
          generalize mayF y.size s' = my at *
          go_wp2_with fail
          go_region_held3 (fun X => X.cell? ⟨wr.heap.size, 4, none⟩ = some (.int .i64 y.size)) (go_keep) (first | (go_at_call 18; refine D4.mono ?_; rintro e W5 ⟨rfl, Q5, g5⟩; have B5 := Blk.grown (Blk.drew B4) g5; clear x0 x1 o0 o1 o2 o3 o4 o5; obtain ⟨x0, x1⟩ := Q5.row.twos; obtain ⟨o0, o1, o2, o3, o4, o5⟩ := B5.sixes))
          have VA := pq_va (Q5.keep (drew_grown _))
          unfold vwc at VA
          obtain ⟨r3, r4, r5, r6, q3, q4, q5, q6⟩ := Q5.wins LA LD
          clear D4 B4 B5 Q5 g5 o0 o1 o2 o3 o4 o5
          go_wp2_with fail
          go_region_held3 (fun X => X.cell? ⟨cb, 0, none⟩ = some (ptr a) ∧ X.cell? ⟨cb, 1, none⟩ = some (ptr b) ∧ X.cell? ⟨rr, 8, none⟩ = some (.int .i64 s.size) ∧ X.cell? ⟨rr, 9, none⟩ = some (.int .i64 s.thr) ∧ X.cell? ⟨rr, 10, none⟩ = some (.int .i64 s.flight) ∧ X.cell? ⟨rr, 11, none⟩ = some (.int .i64 s.began) ∧ X.cell? ⟨rr, 20, none⟩ = some (.int .i64 s'.size) ∧ X.cell? ⟨rr, 21, none⟩ = some (.int .i64 s'.thr) ∧ X.cell? ⟨rr, 22, none⟩ = some (.int .i64 s'.flight) ∧ X.cell? ⟨rr, 23, none⟩ = some (.int .i64 s'.began)) (go_keep) (first | (go_at_call 19; refine VA.mono ?_; rintro e W6 ⟨rfl, Q6, g6⟩; have VB := pq_vb Q6; unfold vwc at VB; clear VA g6 x0 x1 r3 r4 r5 r6 q3 q4 q5 q6; obtain ⟨x0, x1⟩ := Q6.row.twos; obtain ⟨r3, r4, r5, r6, q3, q4, q5, q6⟩ := Q6.wins LA LD) | (go_at_call 19; refine VB.mono ?_; rintro e W7 ⟨rfl, Q7, g7⟩; clear VB g7 x0 x1 r3 r4 r5 r6 q3 q4 q5 q6; obtain ⟨x0, x1⟩ := Q7.row.twos; obtain ⟨r3, r4, r5, r6, q3, q4, q5, q6⟩ := Q7.wins LA LD))
          have RR : Hid (_ ∧ Lk s R ∧ Lk s' R' ∧ R.Ok (k + 1) ∧ R'.Ok (k + 1)) := ⟨Q7, LA, LD, okO, okR⟩
          clear Q6 Q7 x0 x1 r3 r4 r5 r6 q3 q4 q5 q6
          go_wp2_with fail
          go_roundw
          case rel => exact ⟨k + 1, _, _, _, _, (unhide HLT).1, (unhide HLT).2, by go_num, RR⟩
          case measure => have := unhide HLT; simp [intOf]; omega
      · have alt : (¬ (k : Int) < (len : Int)) ∨ ((k : Int) < (len : Int) ∧ ¬ (k : Int) < 4000) := by omega
        have EN := hide (unhide H).1.T.qa.grown
        clear H hlt
        rcases alt with e1 | ⟨e1, e2⟩
        all_goals
          go_wp2_with fail
          go_ret
          exact ⟨rfl, unhide EN⟩
end Go.Proofs.Ythpnbajhogoinaa
