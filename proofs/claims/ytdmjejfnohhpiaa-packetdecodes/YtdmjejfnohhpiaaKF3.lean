/- The walk of PacketDecodes. -/
import Derived.Test.YtdmjejfnohhpiaaKF1
import Derived.Test.YtdmjejfnohhpiaaKD7
import Derived.Test.YtdmjejfnohhpiaaKC5
import Derived.Deep.RegionHeld3
import Derived.Deep.DeepCutAuto
namespace Go.Proofs.Ytdmjejfnohhpiaa
open Go.RowKit
open Sp (sepV Sep3 sep_nil sep_nil_r)
set_option linter.unusedVariables false
set_option maxRecDepth 100000
set_option maxHeartbeats 2000000

/-- Behind 'q, end, f := packet.Decode(..)': the lists apart. -/
def QS (w0 : World) (r : Pk × Int × Int) (v12 v13 v14 : Value) (w' : World) : Prop :=
  ∃ gq a1 n1 c1 a2 n2 c2 a3 n3 c3, v12 = .pointer (some ⟨gq, 0, none⟩) ∧ v13 = .int .i64 r.2.1 ∧ v14 = .int .i64 r.2.2 ∧ Blk w' gq (r.1.cs (.slice a1 n1 c1) (.slice a2 n2 c2) (.slice a3 n3 c3)) 24 ∧ w0.heap.size ≤ gq
    ∧ OwnB w0.heap.size w' (.slice a1 n1 c1) r.1.dst ∧ OwnB w0.heap.size w' (.slice a2 n2 c2) r.1.src ∧ OwnB w0.heap.size w' (.slice a3 n3 c3) r.1.payload ∧ w0.grownBy w' none ∧ n1 = r.1.dst.length ∧ n2 = r.1.src.length ∧ n3 = r.1.payload.length ∧ Sep3 (.slice a1 n1 c1) (.slice a2 n2 c2) (.slice a3 n3 c3)

theorem QS.a {w0 W1 Wd : World} {r : Pk × Int × Int} {a1 a2 a3 : Option Addr} {n1 n2 n3 c1 c2 c3 : Nat} (o1 : OwnB W1.heap.size Wd (.slice a1 n1 c1) r.1.dst) (o2 : OwnB W1.heap.size Wd (.slice a2 n2 c2) r.1.src) (o3 : OwnB W1.heap.size Wd (.slice a3 n3 c3) r.1.payload)
    (g1 : w0.grownBy W1 none) (gd : W1.grownBy Wd none) (q1 : n1 = r.1.dst.length) (q2 : n2 = r.1.src.length) (q3 : n3 = r.1.payload.length) (hs : Sep3 (.slice a1 n1 c1) (.slice a2 n2 c2) (.slice a3 n3 c3)) :
    QS w0 r (.pointer (some ⟨Wd.heap.size, 0, none⟩)) (.int .i64 r.2.1) (.int .i64 r.2.2) (Wd.alloc (.cells (r.1.cs (.slice a1 n1 c1) (.slice a2 n2 c2) (.slice a3 n3 c3)) 24)) := by
  have ga := World.grownBy_alloc Wd (.cells (r.1.cs (.slice a1 n1 c1) (.slice a2 n2 c2) (.slice a3 n3 c3)) 24) none
  have g := (g1.trans gd)
  exact ⟨_, _, _, _, _, _, _, _, _, _, rfl, rfl, rfl, Blk.new _ _ _, g.size, (o1.far ga (fun q e => by cases e)).mono g1.size, (o2.far ga (fun q e => by cases e)).mono g1.size, (o3.far ga (fun q e => by cases e)).mono g1.size, g.trans ga, q1, q2, q3, hs⟩

theorem QS.b {w0 W1 Wd : World} {r : Pk × Int × Int} {a1 a2 a3 : Option Addr} {n1 n2 n3 c1 c2 c3 gq : Nat} {u0 u1 u2 u3 u4 u5 : Value} (o1 : OwnB W1.heap.size Wd (.slice a1 n1 c1) r.1.dst) (o2 : OwnB W1.heap.size Wd (.slice a2 n2 c2) r.1.src) (o3 : OwnB W1.heap.size Wd (.slice a3 n3 c3) r.1.payload)
    (g1 : w0.grownBy W1 none) (gd : W1.grownBy Wd none) (q1 : n1 = r.1.dst.length) (q2 : n2 = r.1.src.length) (q3 : n3 = r.1.payload.length) (bq : Blk Wd gq #[u0, u1, u2, u3, u4, u5] 24) (hq : w0.heap.size ≤ gq) (hq2 : gq < W1.heap.size) (hs : Sep3 (.slice a1 n1 c1) (.slice a2 n2 c2) (.slice a3 n3 c3)) :
    QS w0 r (.pointer (some ⟨gq, 0, none⟩)) (.int .i64 r.2.1) (.int .i64 r.2.2) ((((((Wd.setCell ⟨gq, 0, none⟩ (.int .i64 r.1.space)).setCell ⟨gq, 1, none⟩ (.slice a1 n1 c1)).setCell ⟨gq, 2, none⟩ (.slice a2 n2 c2)).setCell ⟨gq, 3, none⟩ (.int .i64 r.1.number)).setCell ⟨gq, 4, none⟩ (.int .i64 r.1.width)).setCell ⟨gq, 5, none⟩ (.slice a3 n3 c3)) := by
  have gg : Wd.grownBy ((((((Wd.setCell ⟨gq, 0, none⟩ (.int .i64 r.1.space)).setCell ⟨gq, 1, none⟩ (.slice a1 n1 c1)).setCell ⟨gq, 2, none⟩ (.slice a2 n2 c2)).setCell ⟨gq, 3, none⟩ (.int .i64 r.1.number)).setCell ⟨gq, 4, none⟩ (.int .i64 r.1.width)).setCell ⟨gq, 5, none⟩ (.slice a3 n3 c3)) (some gq) :=
    grown_at (grown_at (grown_at (grown_at (grown_at (grown_at (World.grownBy.refl Wd (some gq)) 0 _) 1 _) 2 _) 3 _) 4 _) 5 _
  have ho : ∀ q, some gq = some q → q < W1.heap.size := fun q e => by cases e; exact hq2
  exact ⟨_, _, _, _, _, _, _, _, _, _, rfl, rfl, rfl, bq.set6, hq, (o1.far gg ho).mono g1.size, (o2.far gg ho).mono g1.size, (o3.far gg ho).mono g1.size, grown_over (g1.trans gd) gg hq, q1, q2, q3, hs⟩


theorem LT.ok.inL {t : LT} {w0 wr : World} {B : Nat} (h : t.ok w0 B wr) : InL wr t.gf t.cf t.l := by
  have hl := h.len
  obtain ⟨-, -, -, h1, h2, -, -⟩ := h.lent.ne
  refine ⟨h.bytes, fun i hi => ?_, by rw [hl]; omega, h2, (h.lent.full.lt t.gf rfl).2⟩
  obtain ⟨g, o, e, hc⟩ := (h.lent.rd h.byte).2 (fun e => by have e' : t.l = [] := e; rw [e'] at hi; simp at hi)
  cases e
  have := hc i hi
  rw [Nat.zero_add] at this
  exact this

structure Fine (p : Pk) : Prop where
  bd : ∀ x ∈ p.dst, IsB x
  bs : ∀ x ∈ p.src, IsB x
  by_ : ∀ x ∈ p.payload, IsB x
  ld : p.dst.length ≤ 140737488355000
  ls : p.src.length ≤ 140737488355000
  ly : p.payload.length ≤ 140737488355000
theorem dec_fine (l : List Int) (i n : Int) (G : Lg) (hb : ∀ x ∈ l, IsB x) (hl : l.length ≤ 140737488351232) : Fine (decP l i n G).1 := by
  rcases dec_cases l i n G hb with ⟨y, -, e⟩ | ⟨k, m, p, -, -, -, -, e, g⟩
  · rw [e]; exact ⟨by simp [noP], by simp [noP], by simp [noP], by simp [noP], by simp [noP], by simp [noP]⟩
  · rw [e]; exact ⟨g.bd, g.bs, g.by_, by have := g.d; simp only; omega, by have := g.s; simp only; omega, by have := g.yl; simp only; omega⟩

theorem wpList_append_runP {P : Program} (w : World) {ops : Array Oper} {rest : List Oper} {o : Oper} {a : Act} {Q : Exit → Act → World → Prop} (hgd : o.guard = none) (d s : Operand) (t t' : TypeId)
    (ho : o.op = .call { callee := .builtin .append, args := #[d, s], argTypes := #[t, t'] }) (v u : Value) (hv : a.eval d = v) (hu : a.eval s = u) {v' : Value} {w' : World}
    (hr : (Builtin.append_ #[t, t'] o.type #[v, u]).run P w = .ok v' w') (h : wpList P ops Q rest (a.put o.dst v') w') : wpList P ops Q (o :: rest) a w := by
  refine wpList_plain hgd fun K hK => ?_
  unfold Oper.wp execOp
  simp only [ho, resolve, invoke, builtin, Sem.run_bind, Sem.run_pure, Result.andThen_ok, List.map_toArray, List.map_cons, List.map_nil, hv, hu, hr]
  exact hK _ _ h

theorem decodes_walk (v : Value) (l : List Int) (i n : Int) (G : Lg) (w : World) (hv : InB w v l) (hl : l.length ≤ 140737488351232) :
    Calls Try.prog 4 #[v, .int .i64 i, .int .i64 n, G.v] w fun e w' => e = .returned (.bool true) ∧ w.grownBy w' none := by
  obtain ⟨a0, c0, rfl, -⟩ := id hv
  have b0 := Blk.new w #[.int .i64 G.1, .int .i64 G.2.1, .int .i64 G.2.2] 46
  have g0 := World.grownBy_alloc w (.cells #[.int .i64 G.1, .int .i64 G.2.1, .int .i64 G.2.2] 46) none
  go_enter Try.func4, Try.ntmps4
  go_wp2_with fail
  refine (awake_any _).mono ?_
  rintro e W1 ⟨rfl, g1⟩
  have gA := g0.trans g1
  have b1 := b0.grown g1
  have h01 : w.heap.size < W1.heap.size := b1.lt
  have ld := lend_lt w w.heap.size _ l W1 (hv.grown gA) hl (grown_bel gA) gA.size
  clear b0 g0 g1 hv
  go_wp2_with fail
  refine ld.mono ?_
  intro e W2 hld
  obtain ⟨⟨tg, tn, tgf, tcf, tgw, tcw, tF⟩, he, ok, hTl, hTn, hTg, g2⟩ := hld
  obtain rfl : e = .returned (.pointer (some ⟨tg, 0, none⟩)) := he
  replace hTn : tn = l.length := hTn
  replace hTg : W1.heap.size ≤ tg := hTg
  replace ok : LT.ok ⟨tg, tn, tgf, tcf, tgw, tcw, tF⟩ w w.heap.size W2 := ok
  have b2 := b1.grown g2
  obtain ⟨k0, k1, k2, k3, k4, k5⟩ := ok.lts
  replace k1 : tg < tgf := k1
  replace k2 : tg < tgw := k2
  replace k4 : tgf < W2.heap.size := k4
  replace k5 : tgw < W2.heap.size := k5
  have hlt : tn ≤ 140737488351232 := by omega
  have hk := hide (show w.heap.size < tg ∧ tg < tgf ∧ tg < tgw ∧ tgf < W2.heap.size ∧ tgw < W2.heap.size from ⟨by omega, k1, k2, k4, k5⟩)
  have START := hide (show LT.ok ⟨tg, tn, tgf, tcf, tgw, tcw, tF⟩ w w.heap.size W2 ∧ Blk W2 w.heap.size #[.int .i64 G.1, .int .i64 G.2.1, .int .i64 G.2.2] 46 from ⟨ok, b2⟩)
  clear ld b1 gA g2 ok hTl hTn hTg b2 k0 k1 k2 k3 k4 k5 h01 hl
  generalize hB1 : W2.heap.size = B1 at *
  have HB1 := hide hB1
  generalize hgG : w.heap.size = gG at *
  have HgG := hide hgG
  clear hB1 hgG
  go_wp2_with fail
  go_loopw [11, 12] (fun lv j wr => ∃ (k : Nat) (a : Option Addr) (c : Nat) (F : List Int) (ps : List PV), k ≤ 3 ∧ j = .int .i64 k ∧ lv = .slice a k c ∧ Hid (ps.length = k ∧ LT.ok ⟨tg, tn, tgf, tcf, tgw, tcw, F⟩ w gG wr ∧ Blk wr gG #[.int .i64 G.1, .int .i64 G.2.1, .int .i64 G.2.2] 46 ∧ PRow B1 wr (.slice a k c) ps ∧ B1 ≤ wr.heap.size)) (fun _ j _ => 3 - (intOf j).toNat)
  case atStart => exact ⟨0, none, 0, tF, [], by omega, rfl, rfl, rfl, (unhide START).1, (unhide START).2, PRow.nil _ _, Nat.le_of_eq (unhide HB1).symm⟩
  case round =>
    clear START
    obtain ⟨k, a, c, F, ps, hk3, rfl, rfl, H⟩ := hrel
    by_cases hlt3 : k = 3
    · subst hlt3
      obtain ⟨hps, ok, bG, pr, hB⟩ := unhide H
      obtain ⟨gl, cl, e⟩ : ∃ gl cl, Value.slice a 3 c = .slice (some ⟨gl, 0, none⟩) 3 cl := by
        rcases pr.row.2 with ⟨e, e2⟩ | ⟨g, cap, cur, e, -⟩
        · omega
        · rw [hps] at e; exact ⟨g, cap, e⟩
      rw [e] at pr
      have ap := apart05 B1 wr gl 3 cl ps hps pr hB (by decide) (by decide)
      rw [← e] at ap
      clear pr e H
      go_wp2_with fail
      refine ap.mono ?_
      rintro e W3 ⟨rfl, bl⟩
      obtain ⟨j1, j2, j3, j4, j5⟩ := unhide hk
      have ok3 := ok.bel bl (by omega) (show tg < B1 by omega) (show tgf < B1 from j4) (show tgw < B1 from j5)
      have kp := kept_lt _ w W3 gG ok3
      have E := hide (fun q => show w.grownBy (W3.drewN q) none from grown_drewS (below_grown (by rw [unhide HgG]; exact ok3.lent.bel)) q)
      clear ap ok ok3 bG bl
      go_wp2_with fail
      refine kp.mono ?_
      rintro e W4 ⟨rfl, q, rfl⟩
      clear kp
      go_wp2_with fail
      go_ret
      exact ⟨rfl, unhide E q⟩
    · have hk2 : (k : Int) < 3 := by omega
      obtain ⟨hps, ok, bG, pr, hB⟩ := unhide H
      have hL : (LT.l ⟨tg, tn, tgf, tcf, tgw, tcw, F⟩).length = tn := ok.len
      have hf := dec_fine (LT.l ⟨tg, tn, tgf, tcf, tgw, tcw, F⟩) i n G ok.bytes (by rw [hL]; exact hlt)
      have cp1 : ∀ W, wr.grownBy W none → Calls Try.prog 23 #[.pointer (some ⟨tg, 0, none⟩)] W fun e w' => e = .returned (.slice (some ⟨tgf, 0, none⟩) tn tcf) ∧ W.grownBy w' none := fun W gW => (bytes_lt _ w W gG (ok.grown gW)).mono fun e w' ⟨he, q, hw⟩ => ⟨he, by rw [hw]; exact grown_drewS (World.grownBy.refl _ none) q⟩
      have de1 : ∀ W, wr.grownBy W none → Calls Try.prog 22 #[.slice (some ⟨tgf, 0, none⟩) tn tcf, .int .i64 i, .int .i64 n, G.v] W (DecPost W (decP (LT.l ⟨tg, tn, tgf, tcf, tgw, tcw, F⟩) i n G)) := fun W gW => by
        have h := rdec_any tgf tcf (LT.l ⟨tg, tn, tgf, tcf, tgw, tcw, F⟩) i n G W (ok.inL.grown gW) (by rw [hL]; exact hlt)
        rw [hL] at h
        exact h
      have de2 : ∀ W, wr.grownBy W none → Calls Try.prog 24 #[.slice (some ⟨tgf, 0, none⟩) tn tcf, .int .i64 i, .int .i64 n, G.v] W (Sp.DecPost W (decP (LT.l ⟨tg, tn, tgf, tcf, tgw, tcw, F⟩) i n G)) := fun W gW => Sp.decode_in _ _ i n G W (ok.grown gW).inB (by rw [hL]; omega)
      have kp : ∀ W, wr.grownBy W none → Calls Try.prog 25 #[.pointer (some ⟨tg, 0, none⟩)] W fun e w' => e = .returned (.bool true) ∧ W.grownBy w' none := fun W gW => (kept_lt _ w W gG (ok.grown gW)).mono fun e w' ⟨he, q, hw⟩ => ⟨he, by rw [hw]; exact grown_drewS (World.grownBy.refl _ none) q⟩
      have n0 := bG.cell 0 (.int .i64 G.1) rfl
      have n1 := bG.cell 1 (.int .i64 G.2.1) rfl
      have n2 := bG.cell 2 (.int .i64 G.2.2) rfl
      have CP1 := hide cp1; have DE1 := hide de1; have DE2 := hide de2; have KP := hide kp; have HF := hide hf
      clear cp1 de1 de2 kp hL hf hps ok bG pr hB
      generalize decP (LT.l ⟨tg, tn, tgf, tcf, tgw, tcw, F⟩) i n G = r at *
      obtain ⟨P, rE, rF⟩ := r
      go_upto_region 7 with fail
      go_cut [13, 14, 15] (fun u1 u2 u3 wx => QPost wr (P, rE, rF) u1 u2 u3 wx)
      case first =>
        clear H DE2 KP HF
        have lw := cell_ltb n0
        have nw := Nat.ne_of_lt lw
        have nw2 := Ne.symm nw
        go_region_held3 (fun W => W.cell? ⟨gG, 0, none⟩ = some (.int .i64 G.1) ∧ W.cell? ⟨gG, 1, none⟩ = some (.int .i64 G.2.1) ∧ W.cell? ⟨gG, 2, none⟩ = some (.int .i64 G.2.2)) (go_keep) (first
          | (go_at_call 23; first
            | (with_reducible show Calls _ _ _ (World.alloc _ _) _; refine (unhide CP1 _ (by (first | with_reducible exact World.grownBy.refl _ none | with_reducible exact grown_drew' (World.grownBy.refl _ none) | with_reducible exact grown_drewN (World.grownBy.refl _ none) | with_reducible exact World.grownBy_alloc _ _ none | with_reducible exact grown_drew' (World.grownBy_alloc _ _ none) | with_reducible exact (grown_drew' (World.grownBy.refl _ none)).trans (World.grownBy_alloc _ _ none) | with_reducible exact (grown_drewN (World.grownBy.refl _ none)).trans (World.grownBy_alloc _ _ none)))).mono ?_; rintro e Wc ⟨rfl, gc⟩; have gc' : World.grownBy wr Wc none := World.grownBy.trans (by (first | with_reducible exact World.grownBy.refl _ none | with_reducible exact grown_drew' (World.grownBy.refl _ none) | with_reducible exact grown_drewN (World.grownBy.refl _ none) | with_reducible exact World.grownBy_alloc _ _ none | with_reducible exact grown_drew' (World.grownBy_alloc _ _ none) | with_reducible exact (grown_drew' (World.grownBy.refl _ none)).trans (World.grownBy_alloc _ _ none) | with_reducible exact (grown_drewN (World.grownBy.refl _ none)).trans (World.grownBy_alloc _ _ none))) gc; have bq0 := (Blk.new _ (pcs 0 nilV nilV 0 0 nilV) 24).grown gc; have n0c := cell_grown n0 gc'; have n1c := cell_grown n1 gc'; have n2c := cell_grown n2 gc'; have lc := cell_ltb n0c; have nec := Nat.ne_of_lt lc; have nfc := Ne.symm nec)
            | (with_reducible show Calls _ _ _ (World.drew (World.alloc _ _)) _; refine (unhide CP1 _ (by (first | with_reducible exact World.grownBy.refl _ none | with_reducible exact grown_drew' (World.grownBy.refl _ none) | with_reducible exact grown_drewN (World.grownBy.refl _ none) | with_reducible exact World.grownBy_alloc _ _ none | with_reducible exact grown_drew' (World.grownBy_alloc _ _ none) | with_reducible exact (grown_drew' (World.grownBy.refl _ none)).trans (World.grownBy_alloc _ _ none) | with_reducible exact (grown_drewN (World.grownBy.refl _ none)).trans (World.grownBy_alloc _ _ none)))).mono ?_; rintro e Wc ⟨rfl, gc⟩; have gc' : World.grownBy wr Wc none := World.grownBy.trans (by (first | with_reducible exact World.grownBy.refl _ none | with_reducible exact grown_drew' (World.grownBy.refl _ none) | with_reducible exact grown_drewN (World.grownBy.refl _ none) | with_reducible exact World.grownBy_alloc _ _ none | with_reducible exact grown_drew' (World.grownBy_alloc _ _ none) | with_reducible exact (grown_drew' (World.grownBy.refl _ none)).trans (World.grownBy_alloc _ _ none) | with_reducible exact (grown_drewN (World.grownBy.refl _ none)).trans (World.grownBy_alloc _ _ none))) gc; have bq0 := ((Blk.new wr (pcs 0 nilV nilV 0 0 nilV) 24).drew).grown gc; have n0c := cell_grown n0 gc'; have n1c := cell_grown n1 gc'; have n2c := cell_grown n2 gc'; have lc := cell_ltb n0c; have nec := Nat.ne_of_lt lc; have nfc := Ne.symm nec)
            | (refine (unhide CP1 _ (by (first | with_reducible exact World.grownBy.refl _ none | with_reducible exact grown_drew' (World.grownBy.refl _ none) | with_reducible exact grown_drewN (World.grownBy.refl _ none) | with_reducible exact World.grownBy_alloc _ _ none | with_reducible exact grown_drew' (World.grownBy_alloc _ _ none) | with_reducible exact (grown_drew' (World.grownBy.refl _ none)).trans (World.grownBy_alloc _ _ none) | with_reducible exact (grown_drewN (World.grownBy.refl _ none)).trans (World.grownBy_alloc _ _ none)))).mono ?_; rintro e Wc ⟨rfl, gc⟩; have gc' : World.grownBy wr Wc none := World.grownBy.trans (by (first | with_reducible exact World.grownBy.refl _ none | with_reducible exact grown_drew' (World.grownBy.refl _ none) | with_reducible exact grown_drewN (World.grownBy.refl _ none) | with_reducible exact World.grownBy_alloc _ _ none | with_reducible exact grown_drew' (World.grownBy_alloc _ _ none) | with_reducible exact (grown_drew' (World.grownBy.refl _ none)).trans (World.grownBy_alloc _ _ none) | with_reducible exact (grown_drewN (World.grownBy.refl _ none)).trans (World.grownBy_alloc _ _ none))) gc; have n0c := cell_grown n0 gc'; have n1c := cell_grown n1 gc'; have n2c := cell_grown n2 gc'; have lc := cell_ltb n0c; have nec := Nat.ne_of_lt lc; have nfc := Ne.symm nec))
          | (go_at_call 22; first
            | (with_reducible show Calls _ _ _ (World.alloc _ _) _; refine (unhide DE1 _ (gc'.trans (World.grownBy_alloc _ _ none))).mono ?_; intro e Wd hd; obtain ⟨b1, m1, f1, b2, m2, f2, b3, m3, f3, rfl, o1, o2, o3, gd, q1, q2, q3⟩ := hd.parts; have gd' := (gc'.trans (World.grownBy_alloc _ _ none)).trans gd; have n0d := cell_grown n0 gd'; have n1d := cell_grown n1 gd'; have n2d := cell_grown n2 gd'; have ld := cell_ltb n0d; have ned := Nat.ne_of_lt ld; have nfd := Ne.symm ned; have bq := (Blk.new Wc (pcs 0 nilV nilV 0 0 nilV) 24).grown gd; have z0 := bq.cell 0 (.int .i64 0) rfl; have z1 := bq.cell 1 nilV rfl; have z2 := bq.cell 2 nilV rfl; have z3 := bq.cell 3 (.int .i64 0) rfl; have z4 := bq.cell 4 (.int .i64 0) rfl; have z5 := bq.cell 5 nilV rfl; have mt := bq.thaws)
            | (refine (unhide DE1 Wc gc').mono ?_; intro e Wd hd; obtain ⟨b1, m1, f1, b2, m2, f2, b3, m3, f3, rfl, o1, o2, o3, gd, q1, q2, q3⟩ := hd.parts; have gd' := gc'.trans gd; have n0d := cell_grown n0 gd'; have n1d := cell_grown n1 gd'; have n2d := cell_grown n2 gd'; have ld := cell_ltb n0d; have ned := Nat.ne_of_lt ld; have nfd := Ne.symm ned; (try (have bq := bq0.grown gd; have z0 := bq.cell 0 (.int .i64 0) rfl; have z1 := bq.cell 1 nilV rfl; have z2 := bq.cell 2 nilV rfl; have z3 := bq.cell 3 (.int .i64 0) rfl; have z4 := bq.cell 4 (.int .i64 0) rfl; have z5 := bq.cell 5 nilV rfl; have mt := bq.thaws)))))
        all_goals (go_wp2_with fail; go_meet)
        · subst q1 q2 q3; exact QPost.a (r := (P, rE, rF)) o1 o2 o3 gc' gd rfl rfl rfl
        · subst q1 q2 q3; exact QPost.b (r := (P, rE, rF)) o1 o2 o3 (gc'.trans (World.grownBy_alloc _ _ none)) gd rfl rfl rfl bq gc'.size (by rw [alloc_size]; omega)
        · subst q1 q2 q3; exact QPost.b (r := (P, rE, rF)) o1 o2 o3 gc' gd rfl rfl rfl bq (Nat.le_refl _) bq0.lt
      case rest =>
        obtain ⟨gq, b1, m1, f1, b2, m2, f2, b3, m3, f3, rfl, rfl, rfl, bq, hgq, o1, o2, o3, gx, q1, q2, q3⟩ := hcut
        generalize hWX : wc = Wx at *
        clear hWX
        have n0 := cell_grown n0 gx
        have n1 := cell_grown n1 gx
        have n2 := cell_grown n2 gx
        have CP2 := hide (fun W (gW : Wx.grownBy W none) => unhide CP1 W (gx.trans gW))
        have DE3 := hide (fun W (gW : Wx.grownBy W none) => unhide DE2 W (gx.trans gW))
        have Q1 := hide (And.intro bq (And.intro o1 (And.intro o2 (And.intro o3 gx))))
        clear CP1 DE1 DE2 bq o1 o2 o3 gx hgq q1 q2 q3
        go_upto_region 8 with fail
        go_cut [16, 17, 18] (fun u1 u2 u3 wx => QS Wx (P, rE, rF) u1 u2 u3 wx)
        case first =>
          clear H KP HF Q1
          have lw := cell_ltb n0
          have nw := Nat.ne_of_lt lw
          have nw2 := Ne.symm nw
          go_region_held3 (fun W => W.cell? ⟨gG, 0, none⟩ = some (.int .i64 G.1) ∧ W.cell? ⟨gG, 1, none⟩ = some (.int .i64 G.2.1) ∧ W.cell? ⟨gG, 2, none⟩ = some (.int .i64 G.2.2)) (go_keep) (first
            | (go_at_call 23; first
              | (with_reducible show Calls _ _ _ (World.alloc _ _) _; refine (unhide CP2 _ (by (first | with_reducible exact World.grownBy.refl _ none | with_reducible exact grown_drew' (World.grownBy.refl _ none) | with_reducible exact grown_drewN (World.grownBy.refl _ none) | with_reducible exact World.grownBy_alloc _ _ none | with_reducible exact grown_drew' (World.grownBy_alloc _ _ none) | with_reducible exact (grown_drew' (World.grownBy.refl _ none)).trans (World.grownBy_alloc _ _ none) | with_reducible exact (grown_drewN (World.grownBy.refl _ none)).trans (World.grownBy_alloc _ _ none)))).mono ?_; rintro e Wc ⟨rfl, gc⟩; have gc' : World.grownBy Wx Wc none := World.grownBy.trans (by (first | with_reducible exact World.grownBy.refl _ none | with_reducible exact grown_drew' (World.grownBy.refl _ none) | with_reducible exact grown_drewN (World.grownBy.refl _ none) | with_reducible exact World.grownBy_alloc _ _ none | with_reducible exact grown_drew' (World.grownBy_alloc _ _ none) | with_reducible exact (grown_drew' (World.grownBy.refl _ none)).trans (World.grownBy_alloc _ _ none) | with_reducible exact (grown_drewN (World.grownBy.refl _ none)).trans (World.grownBy_alloc _ _ none))) gc; have bq0 := (Blk.new _ (pcs 0 nilV nilV 0 0 nilV) 24).grown gc; have n0c := cell_grown n0 gc'; have n1c := cell_grown n1 gc'; have n2c := cell_grown n2 gc'; have lc := cell_ltb n0c; have nec := Nat.ne_of_lt lc; have nfc := Ne.symm nec)
              | (with_reducible show Calls _ _ _ (World.drew (World.alloc _ _)) _; refine (unhide CP2 _ (by (first | with_reducible exact World.grownBy.refl _ none | with_reducible exact grown_drew' (World.grownBy.refl _ none) | with_reducible exact grown_drewN (World.grownBy.refl _ none) | with_reducible exact World.grownBy_alloc _ _ none | with_reducible exact grown_drew' (World.grownBy_alloc _ _ none) | with_reducible exact (grown_drew' (World.grownBy.refl _ none)).trans (World.grownBy_alloc _ _ none) | with_reducible exact (grown_drewN (World.grownBy.refl _ none)).trans (World.grownBy_alloc _ _ none)))).mono ?_; rintro e Wc ⟨rfl, gc⟩; have gc' : World.grownBy Wx Wc none := World.grownBy.trans (by (first | with_reducible exact World.grownBy.refl _ none | with_reducible exact grown_drew' (World.grownBy.refl _ none) | with_reducible exact grown_drewN (World.grownBy.refl _ none) | with_reducible exact World.grownBy_alloc _ _ none | with_reducible exact grown_drew' (World.grownBy_alloc _ _ none) | with_reducible exact (grown_drew' (World.grownBy.refl _ none)).trans (World.grownBy_alloc _ _ none) | with_reducible exact (grown_drewN (World.grownBy.refl _ none)).trans (World.grownBy_alloc _ _ none))) gc; have bq0 := ((Blk.new Wx (pcs 0 nilV nilV 0 0 nilV) 24).drew).grown gc; have n0c := cell_grown n0 gc'; have n1c := cell_grown n1 gc'; have n2c := cell_grown n2 gc'; have lc := cell_ltb n0c; have nec := Nat.ne_of_lt lc; have nfc := Ne.symm nec)
              | (refine (unhide CP2 _ (by (first | with_reducible exact World.grownBy.refl _ none | with_reducible exact grown_drew' (World.grownBy.refl _ none) | with_reducible exact grown_drewN (World.grownBy.refl _ none) | with_reducible exact World.grownBy_alloc _ _ none | with_reducible exact grown_drew' (World.grownBy_alloc _ _ none) | with_reducible exact (grown_drew' (World.grownBy.refl _ none)).trans (World.grownBy_alloc _ _ none) | with_reducible exact (grown_drewN (World.grownBy.refl _ none)).trans (World.grownBy_alloc _ _ none)))).mono ?_; rintro e Wc ⟨rfl, gc⟩; have gc' : World.grownBy Wx Wc none := World.grownBy.trans (by (first | with_reducible exact World.grownBy.refl _ none | with_reducible exact grown_drew' (World.grownBy.refl _ none) | with_reducible exact grown_drewN (World.grownBy.refl _ none) | with_reducible exact World.grownBy_alloc _ _ none | with_reducible exact grown_drew' (World.grownBy_alloc _ _ none) | with_reducible exact (grown_drew' (World.grownBy.refl _ none)).trans (World.grownBy_alloc _ _ none) | with_reducible exact (grown_drewN (World.grownBy.refl _ none)).trans (World.grownBy_alloc _ _ none))) gc; have n0c := cell_grown n0 gc'; have n1c := cell_grown n1 gc'; have n2c := cell_grown n2 gc'; have lc := cell_ltb n0c; have nec := Nat.ne_of_lt lc; have nfc := Ne.symm nec))
            | (go_at_call 24; first
              | (with_reducible show Calls _ _ _ (World.alloc _ _) _; refine (unhide DE3 _ (gc'.trans (World.grownBy_alloc _ _ none))).mono ?_; intro e Wd hd; obtain ⟨b1, m1, f1, b2, m2, f2, b3, m3, f3, rfl, o1, o2, o3, gd, q1, q2, q3, s3⟩ := hd.parts; have gd' := (gc'.trans (World.grownBy_alloc _ _ none)).trans gd; have n0d := cell_grown n0 gd'; have n1d := cell_grown n1 gd'; have n2d := cell_grown n2 gd'; have ld := cell_ltb n0d; have ned := Nat.ne_of_lt ld; have nfd := Ne.symm ned; have bq := (Blk.new Wc (pcs 0 nilV nilV 0 0 nilV) 24).grown gd; have z0 := bq.cell 0 (.int .i64 0) rfl; have z1 := bq.cell 1 nilV rfl; have z2 := bq.cell 2 nilV rfl; have z3 := bq.cell 3 (.int .i64 0) rfl; have z4 := bq.cell 4 (.int .i64 0) rfl; have z5 := bq.cell 5 nilV rfl; have mt := bq.thaws)
              | (refine (unhide DE3 Wc gc').mono ?_; intro e Wd hd; obtain ⟨b1, m1, f1, b2, m2, f2, b3, m3, f3, rfl, o1, o2, o3, gd, q1, q2, q3, s3⟩ := hd.parts; have gd' := gc'.trans gd; have n0d := cell_grown n0 gd'; have n1d := cell_grown n1 gd'; have n2d := cell_grown n2 gd'; have ld := cell_ltb n0d; have ned := Nat.ne_of_lt ld; have nfd := Ne.symm ned; (try (have bq := bq0.grown gd; have z0 := bq.cell 0 (.int .i64 0) rfl; have z1 := bq.cell 1 nilV rfl; have z2 := bq.cell 2 nilV rfl; have z3 := bq.cell 3 (.int .i64 0) rfl; have z4 := bq.cell 4 (.int .i64 0) rfl; have z5 := bq.cell 5 nilV rfl; have mt := bq.thaws)))))
          all_goals (have HS3 := hide s3; clear s3)
          all_goals (go_wp2_with fail; go_meet)
          · subst q1 q2 q3; exact QS.a (r := (P, rE, rF)) o1 o2 o3 gc' gd rfl rfl rfl (unhide HS3)
          · subst q1 q2 q3; exact QS.b (r := (P, rE, rF)) o1 o2 o3 (gc'.trans (World.grownBy_alloc _ _ none)) gd rfl rfl rfl bq gc'.size (by rw [alloc_size]; omega) (unhide HS3)
          · subst q1 q2 q3; exact QS.b (r := (P, rE, rF)) o1 o2 o3 gc' gd rfl rfl rfl bq (Nat.le_refl _) bq0.lt (unhide HS3)
        case rest =>
          obtain ⟨gr, d1, i1, e1, d2, i2, e2, d3, i3, e3, rfl, rfl, rfl, br, hgr, p1, p2, p3, gy, q1, q2, q3, s3⟩ := hcut
          generalize hWY : wc = Wy at *
          clear hWY
          obtain ⟨bq, o1, o2, o3, gx⟩ := unhide Q1
          have kp := unhide KP Wy (gx.trans gy)
          have Q2 := hide (And.intro br (And.intro p1 (And.intro p2 (And.intro p3 (And.intro gy s3)))))
          clear CP2 DE3 n0 n1 n2 br p1 p2 p3 gy s3 hgr q1 q2 q3 bq o1 o2 o3 gx KP
          go_wp2_with fail
          refine kp.mono ?_
          rintro e Wk ⟨rfl, gk⟩
          obtain ⟨bq, o1, o2, o3, gx⟩ := unhide Q1
          obtain ⟨br, p1, p2, p3, gy, s3⟩ := unhide Q2
          have fn := unhide HF
          have hno : ∀ q, (none : Option Nat) = some q → q < 0 := fun q e => by cases e
          have gyk := gy.trans gk
          have o1 := o1.far gyk (fun q e => by cases e)
          have o2 := o2.far gyk (fun q e => by cases e)
          have o3 := o3.far gyk (fun q e => by cases e)
          have p1k := p1.far gk (fun q e => by cases e)
          have p2k := p2.far gk (fun q e => by cases e)
          have p3k := p3.far gk (fun q e => by cases e)
          have sm := same05 P _ _ _ _ _ _ Wk (p1k.inB fn.bd) (p2k.inB fn.bs) (p3k.inB fn.by_) (o1.inB fn.bd) (o2.inB fn.bs) (o3.inB fn.by_)
          have bq1 := bq.grown gyk
          have br1 := br.grown gk
          have x0 := bq1.cell 0 (.int .i64 P.space) rfl
          have x1 := bq1.cell 1 (.slice b1 m1 f1) rfl
          have x2 := bq1.cell 2 (.slice b2 m2 f2) rfl
          have x3 := bq1.cell 3 (.int .i64 P.number) rfl
          have x4 := bq1.cell 4 (.int .i64 P.width) rfl
          have x5 := bq1.cell 5 (.slice b3 m3 f3) rfl
          have y0 := br1.cell 0 (.int .i64 P.space) rfl
          have y1 := br1.cell 1 (.slice d1 i1 e1) rfl
          have y2 := br1.cell 2 (.slice d2 i2 e2) rfl
          have y3 := br1.cell 3 (.int .i64 P.number) rfl
          have y4 := br1.cell 4 (.int .i64 P.width) rfl
          have y5 := br1.cell 5 (.slice d3 i3 e3) rfl
          have GK := hide gk
          clear kp bq o1 o2 o3 gx br p1 p2 p3 gy s3 fn hno gyk p1k p2k p3k bq1 br1 gk
          go_wp2_with fail
          refine sm.mono ?_
          rintro e Ws ⟨rfl, gs⟩
          clear sm x0 x1 x2 x3 x4 x5
          have y0 := cell_grown y0 gs
          have y1 := cell_grown y1 gs
          have y2 := cell_grown y2 gs
          have y3 := cell_grown y3 gs
          have y4 := cell_grown y4 gs
          have y5 := cell_grown y5 gs
          obtain ⟨bq, o1, o2, o3, gx⟩ := unhide Q1
          obtain ⟨br, p1, p2, p3, gy, s3⟩ := unhide Q2
          have fn := unhide HF
          obtain ⟨hps, ok, bG, pr, hB⟩ := unhide H
          have gys := (gy.trans (unhide GK)).trans gs
          have gall := gx.trans gys
          have hBs : B1 ≤ Ws.heap.size := Nat.le_trans hB gall.size
          have hBx : B1 ≤ Wx.heap.size := Nat.le_trans hB gx.size
          have xin : PV.In ⟨P, .slice d1 i1 e1, .slice d2 i2 e2, .slice d3 i3 e3⟩ B1 Ws :=
            ⟨(p1.far ((unhide GK).trans gs) (fun q e => by cases e)).mono hBx, (p2.far ((unhide GK).trans gs) (fun q e => by cases e)).mono hBx, (p3.far ((unhide GK).trans gs) (fun q e => by cases e)).mono hBx, fn.ld, fn.ls, fn.ly⟩
          obtain ⟨gl', cl', W', hrun, pr', bl⟩ := (pr.grown gall).push ⟨P, .slice d1 i1 e1, .slice d2 i2 e2, .slice d3 i3 e3⟩ xin s3 (fun v hv u hu => by
            rw [List.mem_flatMap] at hv
            obtain ⟨x, hx, hv⟩ := hv
            have xo := pr.own x hx
            have key : ∀ d, OwnB B1 wr v d → sepV v u := fun d hd => by
              simp only [PV.vl, List.mem_cons, List.not_mem_nil, or_false] at hu
              rcases hu with rfl | rfl | rfl
              · exact Sp.own_sep hd p1 gx.size
              · exact Sp.own_sep hd p2 gx.size
              · exact Sp.own_sep hd p3 gx.size
            simp only [PV.vl, List.mem_cons, List.not_mem_nil, or_false] at hv
            rcases hv with rfl | rfl | rfl
            · exact key _ xo.d
            · exact key _ xo.s
            · exact key _ xo.y) (by omega) hBs
          obtain ⟨j1, j2, j3, j4, j5⟩ := unhide hk
          have ok' := (ok.grown gall).bel bl (by omega) (show tg < B1 by omega) (show tgf < B1 from j4) (show tgw < B1 from j5)
          have bG' : Blk W' gG #[.int .i64 G.1, .int .i64 G.2.1, .int .i64 G.2.2] 46 := (bl.block gG (by omega)).trans (bG.grown gall)
          rw [hps] at hrun pr'
          have hps' : (ps ++ [(⟨P, .slice d1 i1 e1, .slice d2 i2 e2, .slice d3 i3 e3⟩ : PV)]).length = k + 1 := by simp [hps]
          have hB' : B1 ≤ W'.heap.size := Nat.le_trans hBs bl.size
          generalize ps ++ [(⟨P, .slice d1 i1 e1, .slice d2 i2 e2, .slice d3 i3 e3⟩ : PV)] = ps' at *
          have HRUN := hide hrun
          have NX := hide (And.intro hps' (And.intro ok' (And.intro bG' (And.intro pr' hB'))))
          have J := hide (And.intro j1 (And.intro j2 (And.intro j3 (And.intro j4 j5))))
          clear bq o1 o2 o3 gx br p1 p2 p3 gy s3 fn hps ok bG pr hB gys gall hBs hBx xin pr' bl ok' bG' hps' hB' j1 j2 j3 j4 j5 hrun gs GK Q1 Q2 HF H
          have cd := fun W => code_was rF W
          have rr : (rE != rE) = false := by simp
          have rr2 : (rF != rF) = false := by simp
          by_cases hk1 : k = 1
          · subst hk1
            obtain ⟨hps', ok', bG', pr', hB'⟩ := unhide NX
            have tu := turn_lt _ w W' gG 4 ok' (by decide) (by decide)
            clear hps' ok' bG' pr' hB'
            go_wp2_with fail
            refine (cd _).mono ?_
            rintro e Wt ⟨rfl, hwt⟩
            subst hwt
            clear cd
            go_wp2_with (at_builtin; refine wpList_append_runP _ rfl _ _ 48 48 rfl _ _ rfl rfl (unhide HRUN) ?_)
            refine tu.mono ?_
            rintro e W5 ⟨rfl, F', ok5, on⟩
            obtain ⟨hps', ok', bG', pr', hB'⟩ := unhide NX
            obtain ⟨j1, j2, j3, j4, j5⟩ := unhide J
            have NX5 : Hid (ps'.length = 1 + 1 ∧ LT.ok ⟨tg, tn, tgf, tcf, tgw, tcw, F'⟩ w gG W5 ∧ Blk W5 gG #[.int .i64 G.1, .int .i64 G.2.1, .int .i64 G.2.2] 46 ∧ PRow B1 W5 (.slice (some ⟨gl', 0, none⟩) (1 + 1) cl') ps' ∧ B1 ≤ W5.heap.size) :=
              ⟨hps', ok5, (on.2 gG (by show gG ≠ tgf; omega) (by show gG ≠ tgw; omega)).trans bG', pr'.only on j4 j5, by rw [on.1]; exact hB'⟩
            clear tu on ok5 hps' ok' bG' pr' hB' j1 j2 j3 j4 j5 NX HRUN
            go_wp2_with fail
            exact ⟨⟨2, some ⟨gl', 0, none⟩, cl', F', ps', by omega, rfl, rfl, NX5⟩, by simp [intOf]⟩
          · have hk1b : ((k : Int) == 1) = false := by simp; omega
            have hk1c : (k == 1) = false := by simp; omega
            clear hk1
            go_wp2_with fail
            refine (cd _).mono ?_
            rintro e Wt ⟨rfl, hwt⟩
            subst hwt
            clear cd
            go_wp2_with (at_builtin; refine wpList_append_runP _ rfl _ _ 48 48 rfl _ _ rfl rfl (unhide HRUN) ?_)
            exact ⟨⟨k + 1, some ⟨gl', 0, none⟩, cl', F, ps', by omega, by go_num, rfl, NX⟩, by simp [intOf]; omega⟩

end Go.Proofs.Ytdmjejfnohhpiaa
