/- PacketRow, walked. -/
import Derived.Test.YtnglgedcpmbbjaaRJ
import Derived.Deep.DeepCutAuto
import Derived.Deep.RegionHeld3
namespace Go.Proofs.Ytnglgedcpmbbjaa
open Go.RowKit
set_option linter.unusedVariables false
set_option maxRecDepth 100000
set_option maxHeartbeats 2000000

theorem okTo_step {G : Lg} {k : Nat} (hk : k < 3) (ho : okTo G k) {w : World} {g : Nat} {t : TypeId} (b : Blk w g #[.int .i64 G.1, .int .i64 G.2.1, .int .i64 G.2.2] t) :
    ∃ v, w.cell? ⟨g, k, none⟩ = some (.int .i64 v) ∧ Hid (okN v → okTo G (k + 1)) := by
  obtain rfl | rfl | rfl : k = 0 ∨ k = 1 ∨ k = 2 := by omega
  · exact ⟨_, b.cell 0 _ rfl, fun h => h⟩
  · exact ⟨_, b.cell 1 _ rfl, fun h => ⟨ho, h⟩⟩
  · exact ⟨_, b.cell 2 _ rfl, fun h => ⟨ho.1, ho.2, h⟩⟩

theorem tail_none {w wr : World} {gG k : Nat} {G : Lg} {xs qs : List PV} {bv wv : Value} {n : Int} {s : Bool} (h : RowI w gG G xs wr k bv wv n s qs) (ht : tot xs ≤ 70000000) : TailI w gG G n s qs [] wv bv wr := by
  have tt := h.tt
  exact ⟨by rw [List.append_nil]; exact h.hb, h.row, h.in_, h.ld, h.n20, h.bG, h.gr, fun _ => rfl, .inl rfl, (fun x hx => by cases hx), by rw [List.append_nil]; omega⟩
theorem tail_junk {w wr : World} {gG k : Nat} {G : Lg} {xs qs : List PV} {bv wv jv : Value} {n x : Int} {R : List Int} (h : RowI w gG G xs wr k bv wv n false qs) (hg : gG = w.heap.size) (ht : tot xs ≤ 70000000) (hj : InB w jv (x :: R)) (hJ : (x :: R).length ≤ 1048576) (h64 : x < 64) :
    ∃ v' W', (Builtin.append_ #[24, 24] 24 #[bv, jv]).run Try.prog wr = .ok v' W' ∧ TailI w gG G n false qs (x :: R) wv v' W' := by
  have tt := h.tt
  obtain ⟨v', W', r1, o1, g1⟩ := app_rd wr (gG + 1) 24 bv (lay qs) h.hb jv (x :: R) (hj.grown h.gr) (by omega) h.hB
  have b1 : Below (gG + 1) wr W' := (Below.refl (gG + 1) wr).grown g1 h.hB (fun k e => (World.ownsRow.lt h.hb k e).1)
  have hx := hj.bytes x (by simp)
  refine ⟨v', W', r1, o1, row_kpt h.row (fun g _ hl e => g1.block g hl (row_ne h.row h.hb (by decide) e)), h.in_, h.ld, h.n20, (b1.block gG (Nat.lt_succ_self _)).trans h.bG, below_grown ((grown_bel h.gr).trans (b1.mono (by omega))), (fun e => by cases e), .inr ⟨x, R, rfl, hx.1, h64⟩, hj.bytes, ?_⟩
  rw [List.length_append]; omega

theorem row_walk (a0 : Option Addr) (len cap : Nat) (xs : List PV) (G : Lg) (jv : Value) (J : List Int) (w : World) (hx : IsPks w a0 len cap xs) (hj : InB w jv J) (ht : tot xs ≤ 70000000) (hn : len ≤ 1048576) (hJ : J.length ≤ 1048576) :
    Calls Try.prog 3 #[.slice a0 len cap, G.v, jv] w fun e w' => e = .returned (.bool true) ∧ w.grownBy w' none := by
  have aw := fun W => awake_any W
  obtain ⟨aJ, cJ, rfl, -⟩ := id hj
  have b0 := Blk.new w #[.int .i64 G.1, .int .i64 G.2.1, .int .i64 G.2.2] 23
  have g0 := World.grownBy_alloc w (.cells #[.int .i64 G.1, .int .i64 G.2.1, .int .i64 G.2.2] 23) none
  have sz0 := alloc_size w (.cells #[.int .i64 G.1, .int .i64 G.2.1, .int .i64 G.2.2] 23)
  have hcap := hx.hcap
  have HX := hide hx; have HJ := hide hj
  clear hx hj
  have lI : ¬ (9223372036854775807 : Int) < (len : Int) := by omega
  have JI : ¬ (9223372036854775807 : Int) < (J.length : Int) := by omega
  go_enter Try.func3, Try.ntmps3
  go_wp2_with fail
  refine (aw _).mono ?_
  rintro e W1 ⟨rfl, g1⟩
  have gA := g0.trans g1
  have bG1 := b0.grown g1
  have sz1 : w.heap.size + 1 ≤ W1.heap.size := by have := g1.size; omega
  clear b0 g0 g1 sz0 aw
  generalize hgG : w.heap.size = gG at *
  have HgG := hide hgG.symm
  clear hgG
  go_wp2_with fail
  go_loopw [8] (fun i wr => ∃ k : Nat, k ≤ 3 ∧ i = .int .i64 k ∧ Hid (okTo G k) ∧ wr = W1) (fun i _ => 3 - (intOf i).toNat)
  case atStart => exact ⟨0, by omega, rfl, trivial, rfl⟩
  case round =>
    obtain ⟨k, hk, rfl, ho, hwr⟩ := hrel
    replace hwr := hwr.symm
    subst hwr
    by_cases hk3 : k = 3
    · have hG : okG G := by rw [hk3] at ho; exact ho
      have k3 : ¬ (k : Int) < 3 := by omega
      obtain ⟨kk, hkk⟩ : ∃ z : Nat, z = k := ⟨_, rfl⟩
      subst hkk
      clear hk3 hk
      have START : Hid (RowI w gG G xs W1 0 (.slice none 0 0) (.slice none 0 0) 0 false []) :=
        ⟨OwnB.nil _ _, World.ownsRow_nil _ _ _ _, by simp, Nat.le_refl _, by simp [lay], .nil, fun _ => ⟨rfl, fun p hp => by cases hp⟩, ⟨by omega, by omega⟩, bG1, gA, sz1⟩
      have HOK := hide hG
      clear ho hG bG1 gA sz1
      go_wp2_with fail
      go_loopw [9, 10, 11, 12, 13] (fun bv wv nv sv iv wr => ∃ (b1 w1 : Value) (k : Nat) (n : Int) (s : Bool) (qs : List PV), Hid (b1 = bv) ∧ Hid (w1 = wv) ∧ k ≤ len ∧ nv = .int .i64 n ∧ sv = .bool s ∧ iv = .int .i64 k ∧ Hid (RowI w gG G xs wr k b1 w1 n s qs)) (fun _ _ _ _ iv _ => len - (intOf iv).toNat)
      case atStart => exact ⟨_, _, 0, 0, false, [], rfl, rfl, Nat.zero_le _, rfl, rfl, rfl, unhide START⟩
      case round =>
        clear START
        obtain ⟨b1, w1, k, n, s, qs, eb, ew, hk, rfl, rfl, rfl, H⟩ := hrel
        have eb := unhide eb
        have ew := unhide ew
        subst eb ew
        by_cases hgo : k < len ∧ s = false
        · obtain ⟨hlt, rfl⟩ := hgo
          have kN : (k : Int) < (len : Int) := by omega
          obtain ⟨x, hxk⟩ : ∃ x, xs[k]? = some x := ⟨xs[k]'(by have := (unhide HX).hlen; omega), by simp⟩
          have hm := List.mem_of_getElem? hxk
          have ix : Lists w x := (unhide HX).in_ x hm
          have ln := (unhide HX).ln x hm
          obtain ⟨b, off, rfl, hcell⟩ := (unhide HX).cell.resolve_left (by omega)
          have gr := (unhide H).gr
          have d0 : w.cell? ⟨b, off + k * 6, none⟩ = some (.int .i64 x.p.space) := hcell k x hxk 0 (by omega)
          have d1 : w.cell? ⟨b, off + k * 6 + 1, none⟩ = some x.d := hcell k x hxk 1 (by omega)
          have d2 : w.cell? ⟨b, off + k * 6 + 2, none⟩ = some x.s := hcell k x hxk 2 (by omega)
          have d3 : w.cell? ⟨b, off + k * 6 + 3, none⟩ = some (.int .i64 x.p.number) := hcell k x hxk 3 (by omega)
          have d4 : w.cell? ⟨b, off + k * 6 + 4, none⟩ = some (.int .i64 x.p.width) := hcell k x hxk 4 (by omega)
          have d5 : w.cell? ⟨b, off + k * 6 + 5, none⟩ = some x.y := hcell k x hxk 5 (by omega)
          have n0 := (unhide H).bG.cell 0 (.int .i64 G.1) rfl
          have n1 := (unhide H).bG.cell 1 (.int .i64 G.2.1) rfl
          have n2 := (unhide H).bG.cell 2 (.int .i64 G.2.2) rfl
          have en := encode_any x.p x.d x.s x.y wr (ix.1.grown gr) (ix.2.1.grown gr) (ix.2.2.grown gr) (by omega) (by omega) (by omega)
          have fd := fun W => found_all x.p G (unhide HOK) x.d x.s x.y W
          have NEXT : Hid (∀ W, wr.grownBy W none → RowI w gG G xs W (k + 1) b1 w1 n false qs) := fun W gW => (unhide H).next gW hxk
          have STEP := hide (fun (g : Good x.p) (hf : foundB x.p G = true) (W : World) (cv : Value) (gW : wr.grownBy W none) (hc : InB W cv (bytesP x.p)) => row_step (unhide H) (unhide HgG) hxk ix g hf gW hc ht (by omega))
          have hn0 := hide ((unhide H).ns rfl).1
          obtain ⟨p, xd, xs', xy⟩ := x
          dsimp only at d0 d1 d2 d3 d4 d5 en fd ln
          have hbb := fun (g : Good p) => bytesP_byte g ix.1.bytes ix.2.1.bytes ix.2.2.bytes
          obtain ⟨u1, v1, rfl⟩ : ∃ u c, xd = .slice u p.dst.length c := shapeI ix.1
          obtain ⟨u2, v2, rfl⟩ : ∃ u c, xs' = .slice u p.src.length c := shapeI ix.2.1
          obtain ⟨u3, v3, rfl⟩ : ∃ u c, xy = .slice u p.payload.length c := shapeI ix.2.2
          have c0 := cell_grown d0 gr
          have c1 := cell_grown d1 gr
          have c2 := cell_grown d2 gr
          have c3 := cell_grown d3 gr
          have c4 := cell_grown d4 gr
          have c5 := cell_grown d5 gr
          have HBB := hide hbb; have EN := hide en; have FD := hide fd; have D0 := hide d0; have D1 := hide d1; have D2 := hide d2; have D3 := hide d3; have D4 := hide d4; have D5 := hide d5
          have l1 : ¬ (9223372036854775807 : Int) < (p.dst.length : Int) := by omega
          clear hbb en fd d0 d1 d2 d3 d4 d5 gr hcell ix hm H hxk
          by_cases hz : encE p = 0
          · have good := enc_good hz
            have hlt2 := bytesP_lt p good
            by_cases hfb : foundB p G = true
            · simp only [hfb] at FD
              by_cases h2 : p.space = 2
              · have t2 : (p.space == 2) = true := by simpa using h2
                have H2 := hide h2
                clear h2
                go_wp2_with fail
                refine (unhide EN).mono ?_
                intro e W2 he
                obtain ⟨g, rfl, ib, g2⟩ := he.ok good (unhide HBB good) (by unfold maxLen; omega)
                clear he
                have z0 := cell_grown c0 g2; have z1 := cell_grown c1 g2; have z2 := cell_grown c2 g2; have z3 := cell_grown c3 g2; have z4 := cell_grown c4 g2; have z5 := cell_grown c5 g2
                have m0 := cell_grown n0 g2; have m1 := cell_grown n1 g2; have m2 := cell_grown n2 g2
                clear c0 c1 c2 c3 c4 c5 n0 n1 n2 EN
                go_upto_region 15 with fail
                go_region_held3 (fun W => W.cell? ⟨b, off + k * 6, none⟩ = some (.int .i64 p.space) ∧ W.cell? ⟨b, off + k * 6 + 1, none⟩ = some (.slice u1 p.dst.length v1) ∧ W.cell? ⟨b, off + k * 6 + 2, none⟩ = some (.slice u2 p.src.length v2) ∧ W.cell? ⟨b, off + k * 6 + 3, none⟩ = some (.int .i64 p.number) ∧ W.cell? ⟨b, off + k * 6 + 4, none⟩ = some (.int .i64 p.width) ∧ W.cell? ⟨b, off + k * 6 + 5, none⟩ = some (.slice u3 p.payload.length v3) ∧ W.cell? ⟨gG, 0, none⟩ = some (.int .i64 G.1) ∧ W.cell? ⟨gG, 1, none⟩ = some (.int .i64 G.2.1) ∧ W.cell? ⟨gG, 2, none⟩ = some (.int .i64 G.2.2)) (go_keep) (first | (go_at_call 6; refine (unhide FD _).mono ?_; rintro e Ws ⟨rfl, gs⟩; have gs' : World.grownBy W2 Ws none := World.grownBy.trans (by (first | with_reducible exact World.grownBy.refl _ none | with_reducible exact grown_drew' (World.grownBy.refl _ none) | with_reducible exact grown_drewN (World.grownBy.refl _ none) | with_reducible exact World.grownBy_alloc _ _ none | with_reducible exact grown_drew' (World.grownBy_alloc _ _ none) | with_reducible exact (grown_drew' (World.grownBy.refl _ none)).trans (World.grownBy_alloc _ _ none) | with_reducible exact (grown_drewN (World.grownBy.refl _ none)).trans (World.grownBy_alloc _ _ none))) gs; have y0 := cell_grown z0 gs'; have y1 := cell_grown z1 gs'; have y2 := cell_grown z2 gs'; have y3 := cell_grown z3 gs'; have y4 := cell_grown z4 gs'; have y5 := cell_grown z5 gs'; have q0 := cell_grown m0 gs'; have q1 := cell_grown m1 gs'; have q2 := cell_grown m2 gs'))
                obtain ⟨v', Wa, r1, ga, g', c', Wb, r2, gb, sa, sb⟩ := unhide STEP good hfb Ws _ (g2.trans gs') (ib.grown gs')
                have R1 := hide r1; have R2 := hide r2
                have E := hide (sb (unhide H2))
                clear NEXT STEP gs gs' y0 y1 y2 y3 y4 y5 q0 q1 q2 z0 z1 z2 z3 z4 z5 m0 m1 m2 r1 r2 sa sb ib
                have e0 := cell_grown (unhide D0) ga; have e1 := cell_grown (unhide D1) ga; have e2 := cell_grown (unhide D2) ga; have e3 := cell_grown (unhide D3) ga; have e4 := cell_grown (unhide D4) ga; have e5 := cell_grown (unhide D5) ga
                have f0 := cell_grown (unhide D0) gb; have f1 := cell_grown (unhide D1) gb
                go_wp2_with (at_builtin; first | refine wpList_append_runQ _ rfl _ _ 24 24 rfl _ _ rfl rfl (unhide R1) ?_ | refine wpList_append_runQ _ rfl _ _ 22 22 rfl _ _ rfl rfl (unhide R2) ?_)
                go_roundw
                case rel => exact ⟨_, _, k + 1, (p.dst.length : Int), true, qs ++ [⟨p, _, _, _⟩], rfl, rfl, by omega, rfl, rfl, by go_num, E⟩
                case measure => simp [intOf]; omega
              · have t2 : (p.space == 2) = false := by simpa using h2
                have H2 := hide h2
                clear h2
                go_wp2_with fail
                refine (unhide EN).mono ?_
                intro e W2 he
                obtain ⟨g, rfl, ib, g2⟩ := he.ok good (unhide HBB good) (by unfold maxLen; omega)
                clear he
                have z0 := cell_grown c0 g2; have z1 := cell_grown c1 g2; have z2 := cell_grown c2 g2; have z3 := cell_grown c3 g2; have z4 := cell_grown c4 g2; have z5 := cell_grown c5 g2
                have m0 := cell_grown n0 g2; have m1 := cell_grown n1 g2; have m2 := cell_grown n2 g2
                clear c0 c1 c2 c3 c4 c5 n0 n1 n2 EN
                go_upto_region 15 with fail
                go_region_held3 (fun W => W.cell? ⟨b, off + k * 6, none⟩ = some (.int .i64 p.space) ∧ W.cell? ⟨b, off + k * 6 + 1, none⟩ = some (.slice u1 p.dst.length v1) ∧ W.cell? ⟨b, off + k * 6 + 2, none⟩ = some (.slice u2 p.src.length v2) ∧ W.cell? ⟨b, off + k * 6 + 3, none⟩ = some (.int .i64 p.number) ∧ W.cell? ⟨b, off + k * 6 + 4, none⟩ = some (.int .i64 p.width) ∧ W.cell? ⟨b, off + k * 6 + 5, none⟩ = some (.slice u3 p.payload.length v3) ∧ W.cell? ⟨gG, 0, none⟩ = some (.int .i64 G.1) ∧ W.cell? ⟨gG, 1, none⟩ = some (.int .i64 G.2.1) ∧ W.cell? ⟨gG, 2, none⟩ = some (.int .i64 G.2.2)) (go_keep) (first | (go_at_call 6; refine (unhide FD _).mono ?_; rintro e Ws ⟨rfl, gs⟩; have gs' : World.grownBy W2 Ws none := World.grownBy.trans (by (first | with_reducible exact World.grownBy.refl _ none | with_reducible exact grown_drew' (World.grownBy.refl _ none) | with_reducible exact grown_drewN (World.grownBy.refl _ none) | with_reducible exact World.grownBy_alloc _ _ none | with_reducible exact grown_drew' (World.grownBy_alloc _ _ none) | with_reducible exact (grown_drew' (World.grownBy.refl _ none)).trans (World.grownBy_alloc _ _ none) | with_reducible exact (grown_drewN (World.grownBy.refl _ none)).trans (World.grownBy_alloc _ _ none))) gs; have y0 := cell_grown z0 gs'; have y1 := cell_grown z1 gs'; have y2 := cell_grown z2 gs'; have y3 := cell_grown z3 gs'; have y4 := cell_grown z4 gs'; have y5 := cell_grown z5 gs'; have q0 := cell_grown m0 gs'; have q1 := cell_grown m1 gs'; have q2 := cell_grown m2 gs'))
                obtain ⟨v', Wa, r1, ga, g', c', Wb, r2, gb, sa, sb⟩ := unhide STEP good hfb Ws _ (g2.trans gs') (ib.grown gs')
                have R1 := hide r1; have R2 := hide r2
                have E := hide (sa (unhide H2))
                clear NEXT STEP gs gs' y0 y1 y2 y3 y4 y5 q0 q1 q2 z0 z1 z2 z3 z4 z5 m0 m1 m2 r1 r2 sa sb ib
                have e0 := cell_grown (unhide D0) ga; have e1 := cell_grown (unhide D1) ga; have e2 := cell_grown (unhide D2) ga; have e3 := cell_grown (unhide D3) ga; have e4 := cell_grown (unhide D4) ga; have e5 := cell_grown (unhide D5) ga
                have f0 := cell_grown (unhide D0) gb; have f1 := cell_grown (unhide D1) gb
                go_wp2_with (at_builtin; first | refine wpList_append_runQ _ rfl _ _ 24 24 rfl _ _ rfl rfl (unhide R1) ?_ | refine wpList_append_runQ _ rfl _ _ 22 22 rfl _ _ rfl rfl (unhide R2) ?_)
                go_roundw
                case rel => exact ⟨_, _, k + 1, 0, false, qs ++ [⟨p, _, _, _⟩], rfl, rfl, by omega, by rw [unhide hn0], rfl, by go_num, E⟩
                case measure => simp [intOf]; omega
            · have hfb : foundB p G = false := by simpa using hfb
              simp only [hfb] at FD
              go_wp2_with fail
              refine (unhide EN).mono ?_
              intro e W2 he
              obtain ⟨g, rfl, ib, g2⟩ := he.ok good (unhide HBB good) (by unfold maxLen; omega)
              clear he
              have z0 := cell_grown c0 g2; have z1 := cell_grown c1 g2; have z2 := cell_grown c2 g2; have z3 := cell_grown c3 g2; have z4 := cell_grown c4 g2; have z5 := cell_grown c5 g2
              have m0 := cell_grown n0 g2; have m1 := cell_grown n1 g2; have m2 := cell_grown n2 g2
              clear c0 c1 c2 c3 c4 c5 n0 n1 n2 EN
              go_upto_region 15 with fail
              go_region_held3 (fun W => W.cell? ⟨b, off + k * 6, none⟩ = some (.int .i64 p.space) ∧ W.cell? ⟨b, off + k * 6 + 1, none⟩ = some (.slice u1 p.dst.length v1) ∧ W.cell? ⟨b, off + k * 6 + 2, none⟩ = some (.slice u2 p.src.length v2) ∧ W.cell? ⟨b, off + k * 6 + 3, none⟩ = some (.int .i64 p.number) ∧ W.cell? ⟨b, off + k * 6 + 4, none⟩ = some (.int .i64 p.width) ∧ W.cell? ⟨b, off + k * 6 + 5, none⟩ = some (.slice u3 p.payload.length v3) ∧ W.cell? ⟨gG, 0, none⟩ = some (.int .i64 G.1) ∧ W.cell? ⟨gG, 1, none⟩ = some (.int .i64 G.2.1) ∧ W.cell? ⟨gG, 2, none⟩ = some (.int .i64 G.2.2)) (go_keep) (first | (go_at_call 6; refine (unhide FD _).mono ?_; rintro e Ws ⟨rfl, gs⟩; have gs' : World.grownBy W2 Ws none := World.grownBy.trans (by (first | with_reducible exact World.grownBy.refl _ none | with_reducible exact grown_drew' (World.grownBy.refl _ none) | with_reducible exact grown_drewN (World.grownBy.refl _ none) | with_reducible exact World.grownBy_alloc _ _ none | with_reducible exact grown_drew' (World.grownBy_alloc _ _ none) | with_reducible exact (grown_drew' (World.grownBy.refl _ none)).trans (World.grownBy_alloc _ _ none) | with_reducible exact (grown_drewN (World.grownBy.refl _ none)).trans (World.grownBy_alloc _ _ none))) gs; have y0 := cell_grown z0 gs'; have y1 := cell_grown z1 gs'; have y2 := cell_grown z2 gs'; have y3 := cell_grown z3 gs'; have y4 := cell_grown z4 gs'; have y5 := cell_grown z5 gs'; have q0 := cell_grown m0 gs'; have q1 := cell_grown m1 gs'; have q2 := cell_grown m2 gs'))
              have E := hide (unhide NEXT _ (g2.trans gs'))
              clear NEXT STEP gs gs' y0 y1 y2 y3 y4 y5 q0 q1 q2 z0 z1 z2 z3 z4 z5 m0 m1 m2
              go_wp2_with fail
              first
                | exact ⟨⟨_, _, k + 1, n, false, qs, rfl, rfl, by omega, rfl, rfl, by go_num, E⟩, by simp [intOf]; omega⟩
                | (go_roundw; (case rel => exact ⟨_, _, k + 1, n, false, qs, rfl, rfl, by omega, rfl, rfl, by go_num, E⟩); (case measure => simp [intOf]; omega))
          · have tE : (encE p != 0) = true := by simpa using hz
            go_wp2_with fail
            refine (unhide EN).mono ?_
            intro e W2 he
            obtain ⟨⟨hne, rfl⟩ | ⟨h0, -⟩, g2⟩ := he
            rotate_left
            · exact absurd h0 hz
            clear hne hz
            have z0 := cell_grown c0 g2; have z1 := cell_grown c1 g2; have z2 := cell_grown c2 g2; have z3 := cell_grown c3 g2; have z4 := cell_grown c4 g2; have z5 := cell_grown c5 g2
            have m0 := cell_grown n0 g2; have m1 := cell_grown n1 g2; have m2 := cell_grown n2 g2
            clear c0 c1 c2 c3 c4 c5 n0 n1 n2 EN
            go_upto_region 15 with fail
            go_region_held3 (fun W => W.cell? ⟨b, off + k * 6, none⟩ = some (.int .i64 p.space) ∧ W.cell? ⟨b, off + k * 6 + 1, none⟩ = some (.slice u1 p.dst.length v1) ∧ W.cell? ⟨b, off + k * 6 + 2, none⟩ = some (.slice u2 p.src.length v2) ∧ W.cell? ⟨b, off + k * 6 + 3, none⟩ = some (.int .i64 p.number) ∧ W.cell? ⟨b, off + k * 6 + 4, none⟩ = some (.int .i64 p.width) ∧ W.cell? ⟨b, off + k * 6 + 5, none⟩ = some (.slice u3 p.payload.length v3) ∧ W.cell? ⟨gG, 0, none⟩ = some (.int .i64 G.1) ∧ W.cell? ⟨gG, 1, none⟩ = some (.int .i64 G.2.1) ∧ W.cell? ⟨gG, 2, none⟩ = some (.int .i64 G.2.2)) (go_keep) (first | (go_at_call 6; refine (unhide FD _).mono ?_; rintro e Ws ⟨rfl, gs⟩; have gs' : World.grownBy W2 Ws none := World.grownBy.trans (by (first | with_reducible exact World.grownBy.refl _ none | with_reducible exact grown_drew' (World.grownBy.refl _ none) | with_reducible exact grown_drewN (World.grownBy.refl _ none) | with_reducible exact World.grownBy_alloc _ _ none | with_reducible exact grown_drew' (World.grownBy_alloc _ _ none) | with_reducible exact (grown_drew' (World.grownBy.refl _ none)).trans (World.grownBy_alloc _ _ none) | with_reducible exact (grown_drewN (World.grownBy.refl _ none)).trans (World.grownBy_alloc _ _ none))) gs; have y0 := cell_grown z0 gs'; have y1 := cell_grown z1 gs'; have y2 := cell_grown z2 gs'; have y3 := cell_grown z3 gs'; have y4 := cell_grown z4 gs'; have y5 := cell_grown z5 gs'; have q0 := cell_grown m0 gs'; have q1 := cell_grown m1 gs'; have q2 := cell_grown m2 gs'))
            have E := hide (unhide NEXT _ (g2.trans gs'))
            clear NEXT STEP gs gs' y0 y1 y2 y3 y4 y5 q0 q1 q2 z0 z1 z2 z3 z4 z5 m0 m1 m2
            go_wp2_with fail
            first
              | exact ⟨⟨_, _, k + 1, n, false, qs, rfl, rfl, by omega, rfl, rfl, by go_num, E⟩, by simp [intOf]; omega⟩
              | (go_roundw; (case rel => exact ⟨_, _, k + 1, n, false, qs, rfl, rfl, by omega, rfl, rfl, by go_num, E⟩); (case measure => simp [intOf]; omega))
        · have b1s := (unhide H).hb.shape
          obtain ⟨ab, cb, rfl⟩ := b1s
          have tt := (unhide H).tt
          generalize hL : (lay qs).length = L at *
          have LI : ¬ (9223372036854775807 : Int) < (L : Int) := by omega
          have HL := hide hL
          clear hL tt
          rcases (by cases s <;> simp at hgo ⊢ <;> omega : (¬ k < len ∧ s = false) ∨ (¬ k < len ∧ s = true) ∨ (k < len ∧ s = true)) with ⟨hkl, rfl⟩ | ⟨hkl, rfl⟩ | ⟨hkl, rfl⟩
          · have kN : ¬ (k : Int) < (len : Int) := by omega
            cases J with
            | nil =>
              have T := hide (tail_none (unhide H) ht)
              clear H
              have SP := row_tail (unhide T) (unhide HOK)
              rw [unhide HL] at SP
              have n0 := (unhide T).bG.cell 0 (.int .i64 G.1) rfl
              have n1 := (unhide T).bG.cell 1 (.int .i64 G.2.1) rfl
              have n2 := (unhide T).bG.cell 2 (.int .i64 G.2.2) rfl
              clear T
              go_wp2_with fail
              refine SP.mono ?_
              rintro e W5 ⟨a5, m5, c5, rfl, SM⟩
              clear SP
              go_wp2_with fail
              refine (unhide SM).mono ?_
              rintro e W6 ⟨rfl, g6⟩
              have E := hide g6
              clear SM g6
              go_wp2_with fail
              go_ret
              exact ⟨rfl, unhide E⟩
            | cons x R =>
              have jl : ((x :: R).length : Int) = ((R.length + 1 : Nat) : Int) := rfl
              obtain ⟨bJ, oJ, rfl, hcJ⟩ : ∃ b o, aJ = some ⟨b, o, none⟩ ∧ wr.cell? ⟨b, o, none⟩ = some (.int .u8 x) := by
                obtain ⟨a, c, e, hr, -⟩ := (unhide HJ).grown (unhide H).gr
                simp only [Value.slice.injEq] at e
                obtain ⟨rfl, -, rfl⟩ := e
                obtain ⟨b, o, e, hc⟩ := hr.2 (by simp)
                exact ⟨b, o, e, hc 0 (by simp)⟩
              have xb := (unhide HJ).bytes x (by simp)
              have j0 : (0 : Int) < (((x :: R).length : Nat) : Int) := by simp
              have jc : (x :: R).length ≤ cJ ∧ cJ ≤ 9223372036854775807 := by
                obtain ⟨a, c, e, hr, h1, h2, -⟩ := unhide HJ
                simp only [Value.slice.injEq] at e
                obtain ⟨-, -, rfl⟩ := e
                exact ⟨h1, by unfold maxLen at h2; omega⟩
              clear jl
              by_cases h64 : x < 64
              · obtain ⟨v', W', r1, T⟩ := tail_junk (unhide H) (unhide HgG) ht (unhide HJ) hJ h64
                have R1 := hide r1
                have T := hide T
                clear H r1 HJ
                generalize (x :: R).length = NJ at *
                generalize x :: R = RR at *
                have SP := row_tail (unhide T) (unhide HOK)
                rw [unhide HL] at SP
                have n0 := (unhide T).bG.cell 0 (.int .i64 G.1) rfl
                have n1 := (unhide T).bG.cell 1 (.int .i64 G.2.1) rfl
                have n2 := (unhide T).bG.cell 2 (.int .i64 G.2.2) rfl
                clear T
                go_wp2_with (at_builtin; refine wpList_append_runQ _ rfl _ _ 24 24 rfl _ _ rfl rfl (unhide R1) ?_)
                refine SP.mono ?_
                rintro e W5 ⟨a5, m5, c5, rfl, SM⟩
                clear SP
                go_wp2_with fail
                refine (unhide SM).mono ?_
                rintro e W6 ⟨rfl, g6⟩
                have E := hide g6
                clear SM g6
                go_wp2_with fail
                go_ret
                exact ⟨rfl, unhide E⟩
              · have T := hide (tail_none (unhide H) ht)
                clear H HJ
                generalize (x :: R).length = NJ at *
                have SP := row_tail (unhide T) (unhide HOK)
                rw [unhide HL] at SP
                have n0 := (unhide T).bG.cell 0 (.int .i64 G.1) rfl
                have n1 := (unhide T).bG.cell 1 (.int .i64 G.2.1) rfl
                have n2 := (unhide T).bG.cell 2 (.int .i64 G.2.2) rfl
                clear T
                go_wp2_with fail
                refine SP.mono ?_
                rintro e W5 ⟨a5, m5, c5, rfl, SM⟩
                clear SP
                go_wp2_with fail
                refine (unhide SM).mono ?_
                rintro e W6 ⟨rfl, g6⟩
                have E := hide g6
                clear SM g6
                go_wp2_with fail
                go_ret
                exact ⟨rfl, unhide E⟩
          · have kN : ¬ (k : Int) < (len : Int) := by omega
            have T := hide (tail_none (unhide H) ht)
            clear H
            have SP := row_tail (unhide T) (unhide HOK)
            rw [unhide HL] at SP
            have n0 := (unhide T).bG.cell 0 (.int .i64 G.1) rfl
            have n1 := (unhide T).bG.cell 1 (.int .i64 G.2.1) rfl
            have n2 := (unhide T).bG.cell 2 (.int .i64 G.2.2) rfl
            clear T
            go_wp2_with fail
            refine SP.mono ?_
            rintro e W5 ⟨a5, m5, c5, rfl, SM⟩
            clear SP
            go_wp2_with fail
            refine (unhide SM).mono ?_
            rintro e W6 ⟨rfl, g6⟩
            have E := hide g6
            clear SM g6
            go_wp2_with fail
            go_ret
            exact ⟨rfl, unhide E⟩
          · have kN : (k : Int) < (len : Int) := by omega
            have T := hide (tail_none (unhide H) ht)
            clear H
            have SP := row_tail (unhide T) (unhide HOK)
            rw [unhide HL] at SP
            have n0 := (unhide T).bG.cell 0 (.int .i64 G.1) rfl
            have n1 := (unhide T).bG.cell 1 (.int .i64 G.2.1) rfl
            have n2 := (unhide T).bG.cell 2 (.int .i64 G.2.2) rfl
            clear T
            go_wp2_with fail
            refine SP.mono ?_
            rintro e W5 ⟨a5, m5, c5, rfl, SM⟩
            clear SP
            go_wp2_with fail
            refine (unhide SM).mono ?_
            rintro e W6 ⟨rfl, g6⟩
            have E := hide g6
            clear SM g6
            go_wp2_with fail
            go_ret
            exact ⟨rfl, unhide E⟩
    · have hlt3 : (k : Int) < 3 := by omega
      obtain ⟨v, hc, hs⟩ := okTo_step (by omega) (unhide ho) bG1
      have GE := hide gA
      clear ho bG1 gA hk3
      by_cases h1 : v < -1
      · go_wp2_with fail
        go_ret
        exact ⟨rfl, unhide GE⟩
      · by_cases h2 : 4611686018427387903 < v
        · go_wp2_with fail
          go_ret
          exact ⟨rfl, unhide GE⟩
        · have ho := hide (unhide hs (by unfold okN MAXP; omega))
          clear hs
          go_wp2_with fail
          exact ⟨⟨k + 1, by omega, by go_num, ho, trivial⟩, by simp [intOf]; omega⟩
end Go.Proofs.Ytnglgedcpmbbjaa
