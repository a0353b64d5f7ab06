/- L4A, L4B, L4C, L4D, one text. -/
import Derived.Test.YtnflbefbgcbdfaaGreatL8Q
import Derived.Deep.RegionHeld3
import Derived.BigQuiet
namespace Go.Proofs.YtnflbefbgcbdfaaGreat
open Go.RowKit
set_option linter.unusedVariables false
set_option maxRecDepth 100000
set_option maxHeartbeats 4000000

section
variable {R T : Nat → Prop} {W W' : World} {fv : Value} {fs : List Fr}
theorem Li.lo {sz : Nat} {v : Value} {xs : List Value} (h : Li R W sz v xs) : Li (fun b => R b ∧ b < W.heap.size) W sz v xs := by
  obtain ⟨a, n, c, h1, h2, h3, h4⟩ := h.ex
  exact ⟨a, n, c, h1, h2, h3, fun hx b off e => ⟨h4 hx b off e, h3.lt hx b off e⟩⟩
theorem FrAt.lo {cs : List Value} {f : Fr} (h : FrAt R W cs f) : FrAt (fun b => R b ∧ b < W.heap.size) W cs f := by
  obtain ⟨h0, dv, rv, h1, h2, h3⟩ := h
  exact ⟨h0, dv, rv, h1, h2.lo, h3.lo⟩
theorem FvAt.mono (h : FvAt R W fv fs) (hn : ∀ b, R b → T b) : FvAt T W fv fs := by
  obtain ⟨h0, a, c, css, h1, h3, h4, h5⟩ := h
  exact ⟨h0, a, c, css, h1, ⟨h3.len, fun i c f hc hf => (h3.at_ i c f hc hf).mono hn⟩, h4, fun hx b off e => hn b (h5 hx b off e)⟩
theorem FvAt.lo (h : FvAt R W fv fs) : FvAt (fun b => R b ∧ b < W.heap.size) W fv fs := by
  obtain ⟨h0, a, c, css, h1, h3, h4, h5⟩ := h
  refine ⟨h0, a, c, css, h1, ⟨h3.len, fun i c f hc hf => (h3.at_ i c f hc hf).lo⟩, h4, fun hx b off e => ⟨h5 hx b off e, h4.lt (fun e2 => hx ?_) b off e⟩⟩
  have h6 := flat_len 17 css h3.l17
  rw [e2, h3.len] at h6
  simp at h6
  exact List.length_eq_zero_iff.1 (by omega)
theorem FvAt.one (h : FvAt R W fv fs) : fv.oneCell' = true := by
  obtain ⟨h0, a, c, css, rfl, -⟩ := h
  rfl
end
theorem KvAt.mono {R T : Nat → Prop} {W : World} {kv : Value} {ks : List St} (h : KvAt R W kv ks) (hn : ∀ b, R b → T b) : KvAt T W kv ks := by
  obtain ⟨fvs, h1, h2, h3⟩ := h
  exact ⟨fvs, h1, h2, fun i s fv a b => (h3 i s fv a b).mono hn⟩

theorem copied_fv {R : Nat → Prop} (s : St) (fa : Option Addr) (fc : Nat) (X : World) (hf : FvAt R X (.slice fa s.fs.length fc) s.fs) :
    Calls Tryz.prog 50 #[.agg (s.cs (.slice fa s.fs.length fc))] X fun e Y => ∃ a' c', e = .returned (.agg (s.cs (.slice a' s.fs.length c'))) ∧ FvAt (fun b => X.heap.size ≤ b) Y (.slice a' s.fs.length c') s.fs ∧ X.grownBy Y none := by
  obtain ⟨h0, a, c, css, h1, h3, h4, h5⟩ := hf
  injection h1 with e1 e2 e3
  subst e1
  subst e3
  exact copied_core s.nu s.ti s.si s.el s.co s.pr s.tl s.fs fa s.fs.length fc css rfl h0 h3 h4
/-- Packets that are collected: the list lies in the cell bo. -/
structure TO (n0 : Nat) (W : World) (bo : Nat) (ov : Value) (Ro : Nat → Prop) (outs : List St) : Prop where
  blk : Blk W bo #[ov] 26
  row : KvAt Ro W ov outs
  rg : ∀ g, Ro g → n0 ≤ g ∧ g < W.heap.size
  og : ∀ g, ov.ownBlock = some g → n0 ≤ g ∧ ¬ Ro g ∧ g ≠ bo
  nb : ¬ Ro bo
  lo : n0 ≤ bo
theorem TO.kept {n0 : Nat} {W W' : World} {bo : Nat} {ov : Value} {Ro : Nat → Prop} {outs : List St} (h : TO n0 W bo ov Ro outs) {S : Nat → Prop} (k : Kp S W W') (hs : ∀ g, S g → ¬ Ro g ∧ g ≠ bo ∧ ov.ownBlock ≠ some g) : TO n0 W' bo ov Ro outs :=
  ⟨(k.block bo h.blk.lt (fun e => (hs bo e).2.1 rfl)).trans h.blk, h.row.kept (fun b hb => k.block b (h.rg b hb).2 (fun e => (hs b e).1 hb)) (fun g hg => k.block g (h.row.lt g hg) (fun e => (hs g e).2.2 hg)), fun g hg => ⟨(h.rg g hg).1, Nat.lt_of_lt_of_le (h.rg g hg).2 k.size⟩, h.og, h.nb, h.lo⟩
theorem TO.grown {n0 : Nat} {W W' : World} {bo : Nat} {ov : Value} {Ro : Nat → Prop} {outs : List St} (h : TO n0 W bo ov Ro outs) (g : W.grownBy W' none) : TO n0 W' bo ov Ro outs :=
  h.kept (Kp.grown g (fun _ => False)) (fun _ e => e.elim)
/-- What a step of it may change. -/
def KT (W W' : World) (bo : Nat) (ov : Value) : Prop := Kp (fun g => g = bo ∨ ov.ownBlock = some g) W W'
theorem TO.push {n0 : Nat} {W X Y : World} {bo : Nat} {ov fv : Value} {Ro : Nat → Prop} {outs : List St} {s : St} (h : TO n0 W bo ov Ro outs) (gX : W.grownBy X none) (gY : X.grownBy Y none) (hf : FvAt (fun b => X.heap.size ≤ b) Y fv s.fs) (hl : outs.length ≤ 1100000) :
    ∃ v' W', (Builtin.append_ #[26, 26] 26 #[ov, .slice (some ⟨Y.heap.size, 0, none⟩) 1 1]).run Tryz.prog (Y.alloc (.cells (s.cs fv) 46)) = .ok v' W' ∧ Blk W' bo #[ov] 26 ∧
      ∃ Ro', TO n0 (W'.setCell ⟨bo, 0, none⟩ v') bo v' Ro' (outs ++ [s]) ∧ KT W (W'.setCell ⟨bo, 0, none⟩ v') bo ov ∧ (v'.ownBlock = ov.ownBlock ∨ ∀ g, v'.ownBlock = some g → W.heap.size ≤ g) := by
  have s1 := gX.size
  have s2 := gY.size
  have gWY := grown_trans gX gY
  obtain ⟨Z, hZ⟩ : ∃ Z, Z = Y.alloc (.cells (s.cs fv) 46) := ⟨_, rfl⟩
  have sZ : Z.heap.size = Y.heap.size + 1 := by rw [hZ]; exact alloc_size _ _
  have gZ : Y.grownBy Z none := by rw [hZ]; exact grown_alloc _ _
  have bZ : Blk Z Y.heap.size (s.cs fv) 46 := by rw [hZ]; exact Blk.new _ _ _
  have gWZ := grown_trans gWY gZ
  have hbl := h.blk.lt
  have row : KvAt (fun g => Ro g ∨ (X.heap.size ≤ g ∧ g < Y.heap.size)) Z ov outs := (h.row.grown gWZ).mono fun b hb => .inl hb
  have fz : FvAt (fun g => Ro g ∨ (X.heap.size ≤ g ∧ g < Y.heap.size)) Z fv s.fs := (hf.lo.grown gZ).mono fun b hb => .inr hb
  have hno : ∀ g, ov.ownBlock = some g → ¬ (Ro g ∨ (X.heap.size ≤ g ∧ g < Y.heap.size)) := fun g e q => by
    have h1 := h.row.lt g e
    rcases q with q | q
    · exact (h.og g e).2.1 q
    · omega
  have hR : ∀ g, (Ro g ∨ (X.heap.size ≤ g ∧ g < Y.heap.size)) → g < Z.heap.size := fun g q => by
    rcases q with q | q
    · have := (h.rg g q).2; omega
    · omega
  obtain ⟨v', W', hrun, kv', gr, own⟩ := row.app s fv fz hno hl Y.heap.size 1 (fun j v hj => bZ.cell j v hj) hR 26
  rw [hZ] at hrun
  have oB : ∀ g, v'.ownBlock = some g → (ov.ownBlock = some g ∨ g = Z.heap.size) := fun g e => by
    rcases own with q | q
    · exact .inl (by rw [← q]; exact e)
    · rw [q] at e; cases e; exact .inr rfl
  have bo' : Blk W' bo #[ov] 26 := (gr.block bo (by omega) (fun e => (h.og bo e.symm).2.2 rfl)).trans (h.blk.grown gWZ)
  have sW := gr.size
  refine ⟨v', W', hrun, bo', fun g => Ro g ∨ (X.heap.size ≤ g ∧ g < Y.heap.size), ⟨?_, ?_, ?_, ?_, ?_, h.lo⟩, ?_, ?_⟩
  · exact bo'.setC 0 v'
  · refine kv'.kept (fun b hbq => set_heap _ _ _ _ _ ?_) (fun g hg => set_heap _ _ _ _ _ ?_)
    · rintro rfl
      rcases hbq with q | q
      · exact h.nb q
      · omega
    · rintro rfl
      rcases oB _ hg with q | q
      · exact (h.og _ q).2.2 rfl
      · omega
  · intro g q
    rw [set_size]
    rcases q with q | q
    · have := h.rg g q; omega
    · have := h.lo; omega
  · intro g e
    rcases oB g e with q | q
    · have := h.og g q
      exact ⟨this.1, hno g q, this.2.2⟩
    · subst q
      have := h.lo
      exact ⟨by omega, fun q => by have := hR _ q; omega, by omega⟩
  · rintro (q | q)
    · exact h.nb q
    · omega
  · exact Kp.set ((Kp.grown gWZ _).trans ⟨gr.os, gr.tape, gr.output, gr.size, fun g hg hn => gr.block g hg (fun e => hn (.inr e.symm))⟩) bo 0 v' (fun _ => .inl rfl)
  · rcases own with q | q
    · exact .inl q
    · exact .inr fun g e => by rw [q] at e; cases e; omega
end Go.Proofs.YtnflbefbgcbdfaaGreat

namespace Go.Proofs.YtnflbefbgcbdfaaGreat
open Go.RowKit
set_option linter.unusedVariables false
set_option linter.unusedSimpArgs false
set_option maxRecDepth 100000
set_option maxHeartbeats 1000000

theorem enters_copied : Enters Tryz.prog 50 := Go.Proofs.enters_of Tryz.func50 (by kernel_rfl) rfl
theorem cells8 {W : World} {b : Nat} {c0 c1 c2 c3 c4 c5 c6 c7 : Value} {t : TypeId} (h : Blk W b #[c0, c1, c2, c3, c4, c5, c6, c7] t) : W.cell? ⟨b, 0, none⟩ = some c0 ∧ W.cell? ⟨b, 1, none⟩ = some c1 ∧ W.cell? ⟨b, 2, none⟩ = some c2 ∧ W.cell? ⟨b, 3, none⟩ = some c3 ∧ W.cell? ⟨b, 4, none⟩ = some c4 ∧ W.cell? ⟨b, 5, none⟩ = some c5 ∧ W.cell? ⟨b, 6, none⟩ = some c6 ∧ W.cell? ⟨b, 7, none⟩ = some c7 :=
  ⟨h.cell 0 _ rfl, h.cell 1 _ rfl, h.cell 2 _ rfl, h.cell 3 _ rfl, h.cell 4 _ rfl, h.cell 5 _ rfl, h.cell 6 _ rfl, h.cell 7 _ rfl⟩

theorem take1_yes (n0 bm bo : Nat) (f : FuncId) (pre cb : Array Value) (s : St) (R : Nat → Prop) (fa : Option Addr) (fc : Nat) (W : World) (ov : Value) (Ro : Nat → Prop) (outs : List St)
    (eg : ∀ args w, (callFunc f args).run Tryz.prog w = .ok (.enter f args) w) (hm : W.cell? ⟨bm, 0, none⟩ = some (.func (.func f) pre cb))
    (hM : ∀ Z, W.grownBy Z none → Calls Tryz.prog f (pre ++ #[.int .i64 s.nu] ++ cb) Z fun e Z' => e = .returned (.bool true) ∧ Z.grownBy Z' none)
    (hf : FvAt R W (.slice fa s.fs.length fc) s.fs) (h : TO n0 W bo ov Ro outs) (hl : outs.length ≤ 1100000) :
    Calls Tryz.prog 73 #[.agg (s.cs (.slice fa s.fs.length fc)), .pointer (some ⟨bm, 0, none⟩), .pointer (some ⟨bo, 0, none⟩)] W fun e W' => e = .returned (.bool true) ∧ ∃ v' Ro', TO n0 W' bo v' Ro' (outs ++ [s]) ∧ KT W W' bo ov ∧ (v'.ownBlock = ov.ownBlock ∨ ∀ g, v'.ownBlock = some g → W.heap.size ≤ g) := by
  obtain ⟨B, hB⟩ : ∃ B, B = W.alloc (.cells (s.cs (.slice fa s.fs.length fc)) 46) := ⟨_, rfl⟩
  have gB : W.grownBy B none := by rw [hB]; exact grown_alloc _ _
  have bB : Blk B W.heap.size (s.cs (.slice fa s.fs.length fc)) 46 := by rw [hB]; exact Blk.new W _ _
  obtain ⟨bs, hbs⟩ : ∃ bs, bs = W.heap.size := ⟨_, rfl⟩
  rw [← hbs] at bB
  have hc1 := hM B gB
  have hcop := fun X (g : W.grownBy X none) => copied_fv s fa fc X (hf.grown g)
  have PUSH := hide (fun X Y fv (g1 : B.grownBy X none) (g2 : X.grownBy Y none) (q : FvAt (fun b => X.heap.size ≤ b) Y fv s.fs) => (h.grown gB).push g1 g2 q hl)
  have hmB := cell_grown hm gB
  have BB := hide bB
  have LTB := hide bB.lt
  have GB := hide gB
  have BO := hide (h.blk.grown gB)
  have NE : Hid (bs ≠ bo ∧ ov.ownBlock ≠ some bs) := ⟨by have := h.blk.lt; omega, fun e => by have := h.row.lt bs e; omega⟩
  have HOV : ∃ oa on oc, ov = .slice oa on oc := by
    rcases h.row.sh with ⟨q, -⟩ | ⟨g, c, q, -⟩
    · exact ⟨_, _, _, q⟩
    · exact ⟨_, _, _, q⟩
  obtain ⟨oa, on, oc, rfl⟩ := HOV
  obtain ⟨nu, ti, si, el, co, pr, tl, fs⟩ := s
  simp only [St.cs] at hB bB hc1 hcop hbs ⊢
  have y0 : B.cell? ⟨bs, 0, none⟩ = some (.int .i64 nu) := bB.cell 0 _ rfl
  clear bB gB hM hf h hm
  go_enter Tryz.func73, Tryz.ntmps73
  go_upto_region 1 with fail
  rw [← hB, ← hbs]
  replace hB := hide hB
  replace hbs := hide hbs
  go_wp2_with (refine hc1.mono ?_; rintro e X ⟨rfl, gX⟩)
  have gWX := grown_trans (unhide GB) gX
  have oX : X.cell? ⟨bo, 0, none⟩ = some (.slice oa on oc) := ((unhide BO).grown gX).cell 0 _ rfl
  have bX : Blk X bs #[.int .i64 nu, .int .i64 ti, .int .i64 si, .bool el, .bool co, .bool pr, .int .i64 tl, .slice fa fs.length fc] 46 := (unhide BB).grown gX
  have BX := hide bX
  have GX := hide gX
  have hcx := hcop X.drew (grown_drew' gWX)
  have BOX := hide ((unhide BO).grown gX)
  have q0 := cells8 bX.drew
  clear hcop hc1 hmB y0 bX gX gWX BO
  refine wp_region_held_drew (S := fun Z => Z.cell? ⟨bs, 0, none⟩ = some (.int .i64 nu) ∧ Z.cell? ⟨bs, 1, none⟩ = some (.int .i64 ti) ∧ Z.cell? ⟨bs, 2, none⟩ = some (.int .i64 si) ∧ Z.cell? ⟨bs, 3, none⟩ = some (.bool el) ∧ Z.cell? ⟨bs, 4, none⟩ = some (.bool co) ∧ Z.cell? ⟨bs, 5, none⟩ = some (.bool pr) ∧ Z.cell? ⟨bs, 6, none⟩ = some (.int .i64 tl) ∧ Z.cell? ⟨bs, 7, none⟩ = some (.slice fa fs.length fc)) (by kernel_rfl) q0 (fun hHeld => ?_)
  refine wpAnyH_take (i := 1) (v := ?_) rfl (by as_aux_lemma => kernel_rfl) (by as_aux_lemma => kernel_rfl) (by as_aux_lemma => kernel_rfl) (fun _ _ _ h => h) (Or.inl ⟨by rfl, ?_⟩) (by assumption) ?_
  rotate_left
  · intro wH hSw
    try dsimp only at hSw
    obtain ⟨s0q, s1q, s2q, s3q, s4q, s5q, s6q, s7q⟩ := hSw
    go_simp
    try with_reducible rfl
  try simp only [Act.put, List.setIfInBounds_toArray, List.set_cons_zero, List.set_cons_succ]
  refine wpAnyH_ready (rs := [0, 2]) (by as_aux_lemma => kernel_rfl) (by simp) ?_
  refine AllReadyH.cons rfl (fun KH hKH => ?_) (AllReadyH.cons rfl (fun KH hKH => ?_) AllReadyH.nil)
  · go_simp
    refine hKH.out _ _ q0 (fun hHeld0 => ?_)
    clear hKH KH
    try simp only [Act.put, List.setIfInBounds_toArray, List.set_cons_zero, List.set_cons_succ]
    refine wpAnyH_ready (rs := [2]) (by as_aux_lemma => kernel_rfl) (by simp) ?_
    refine AllReadyH.cons rfl (fun KH hKH => ?_) AllReadyH.nil
    (refine step_call (by rfl) 50 #[.agg #[.int .i64 nu, .int .i64 ti, .int .i64 si, .bool el, .bool co, .bool pr, .int .i64 tl, .slice fa fs.length fc]] enters_copied #[Operand.tmp 11] #[46] (by rfl) (by simp [Act.eval]) hcx ?_; rintro e Y ⟨a2, c2, rfl, hf2, gY⟩; refine ⟨_, rfl, ?_⟩; obtain ⟨v2, W2, hap, bo2, Ro2, t2, k2, o2⟩ := unhide PUSH X.drew Y _ (grown_drew' (unhide GX)) gY hf2; have bY := (unhide BX).drew.grown gY; have qY := cells8 bY; have bZ := bY.alloc (.cells #[.int .i64 nu, .int .i64 ti, .int .i64 si, .bool el, .bool co, .bool pr, .int .i64 tl, .slice a2 fs.length c2] 46); have qZ := cells8 bZ; have oY : Y.cell? ⟨bo, 0, none⟩ = some (.slice oa on oc) := ((unhide BOX).drew.grown gY).cell 0 _ rfl; have oZ : (Y.alloc (.cells #[.int .i64 nu, .int .i64 ti, .int .i64 si, .bool el, .bool co, .bool pr, .int .i64 tl, .slice a2 fs.length c2] 46)).cell? ⟨bo, 0, none⟩ = some (.slice oa on oc) := (((unhide BOX).drew.grown gY).alloc _).cell 0 _ rfl; have bK := (k2.block bs (unhide LTB) (fun e => e.elim (unhide NE).1 (unhide NE).2)); have bS : Blk (W2.setCell ⟨bo, 0, none⟩ v2) bs #[.int .i64 nu, .int .i64 ti, .int .i64 si, .bool el, .bool co, .bool pr, .int .i64 tl, .slice fa fs.length fc] 46 := bK.trans (unhide BB); have qS := cells8 bS; have qW := cells8 (show Blk W2 bs #[.int .i64 nu, .int .i64 ti, .int .i64 si, .bool el, .bool co, .bool pr, .int .i64 tl, .slice fa fs.length fc] 46 from (set_heap W2 bo 0 v2 bs (unhide NE).1).symm.trans bS); obtain ⟨g3, c3, rfl⟩ : ∃ g3 c3, v2 = .slice (some ⟨g3, 0, none⟩) (outs.length + 1) c3 := (by rcases t2.row.sh with ⟨-, q⟩ | ⟨g, c, q, -⟩; exact absurd q (by simp); exact ⟨g, c, by rw [q]; simp⟩); have o3 : W2.cell? ⟨bo, 0, none⟩ = some (.slice oa on oc) := bo2.cell 0 _ rfl; have f3 := bo2.thaw 0; have FIN := hide (And.intro t2 (And.intro k2 o2)); clear bY bZ bK bS t2 k2 o2 hf2 gY bo2)
    refine hKH.out _ _ qY (fun hHeld2 => ?_)
    clear hKH KH
    try simp only [Act.put, List.setIfInBounds_toArray, List.set_cons_zero, List.set_cons_succ]
    refine wpAnyH_ready (rs := [3]) (by as_aux_lemma => kernel_rfl) (by simp) ?_
    refine AllReadyH.cons rfl (fun KH hKH => ?_) AllReadyH.nil
    go_simp
    refine hKH.out _ _ qZ (fun hHeld3 => ?_)
    clear hKH KH
    try simp only [Act.put, List.setIfInBounds_toArray, List.set_cons_zero, List.set_cons_succ]
    refine wpAnyH_ready (rs := [4]) (by as_aux_lemma => kernel_rfl) (by simp) ?_
    refine AllReadyH.cons rfl (fun KH hKH => ?_) AllReadyH.nil
    refine step_append_run rfl (Operand.tmp 10) (Operand.tmp 13) 26 26 rfl (.slice oa on oc) (.slice (some ⟨Y.heap.size, 0, none⟩) 1 1) rfl rfl hap ?_
    refine hKH.out _ _ qW (fun hHeld4 => ?_)
    clear hKH KH
    try simp only [Act.put, List.setIfInBounds_toArray, List.set_cons_zero, List.set_cons_succ]
    refine wpAnyH_ready (rs := [5]) (by as_aux_lemma => kernel_rfl) (by simp) ?_
    refine AllReadyH.cons rfl (fun KH hKH => ?_) AllReadyH.nil
    go_simp
    refine hKH.out _ _ qS (fun hHeld5 => ?_)
    clear hKH KH
    try simp only [Act.put, List.setIfInBounds_toArray, List.set_cons_zero, List.set_cons_succ]
    refine wpAnyH_done (by as_aux_lemma => kernel_rfl) ?_ _
    clear q0 qY qZ qW qS oX oY oZ o3 f3 hap hcx
    go_wp2_with fail
    go_ret
    exact ⟨rfl, _, Ro2, (unhide FIN).1, Kp.trans (Kp.grown (unhide GB) _) (unhide FIN).2.1, (unhide FIN).2.2.imp id (fun q g e => Nat.le_trans (unhide GB).size (q g e))⟩
  · (refine step_call (by rfl) 50 #[.agg #[.int .i64 nu, .int .i64 ti, .int .i64 si, .bool el, .bool co, .bool pr, .int .i64 tl, .slice fa fs.length fc]] enters_copied #[Operand.tmp 11] #[46] (by rfl) (by simp [Act.eval]) hcx ?_; rintro e Y ⟨a2, c2, rfl, hf2, gY⟩; refine ⟨_, rfl, ?_⟩; obtain ⟨v2, W2, hap, bo2, Ro2, t2, k2, o2⟩ := unhide PUSH X.drew Y _ (grown_drew' (unhide GX)) gY hf2; have bY := (unhide BX).drew.grown gY; have qY := cells8 bY; have bZ := bY.alloc (.cells #[.int .i64 nu, .int .i64 ti, .int .i64 si, .bool el, .bool co, .bool pr, .int .i64 tl, .slice a2 fs.length c2] 46); have qZ := cells8 bZ; have oY : Y.cell? ⟨bo, 0, none⟩ = some (.slice oa on oc) := ((unhide BOX).drew.grown gY).cell 0 _ rfl; have oZ : (Y.alloc (.cells #[.int .i64 nu, .int .i64 ti, .int .i64 si, .bool el, .bool co, .bool pr, .int .i64 tl, .slice a2 fs.length c2] 46)).cell? ⟨bo, 0, none⟩ = some (.slice oa on oc) := (((unhide BOX).drew.grown gY).alloc _).cell 0 _ rfl; have bK := (k2.block bs (unhide LTB) (fun e => e.elim (unhide NE).1 (unhide NE).2)); have bS : Blk (W2.setCell ⟨bo, 0, none⟩ v2) bs #[.int .i64 nu, .int .i64 ti, .int .i64 si, .bool el, .bool co, .bool pr, .int .i64 tl, .slice fa fs.length fc] 46 := bK.trans (unhide BB); have qS := cells8 bS; have qW := cells8 (show Blk W2 bs #[.int .i64 nu, .int .i64 ti, .int .i64 si, .bool el, .bool co, .bool pr, .int .i64 tl, .slice fa fs.length fc] 46 from (set_heap W2 bo 0 v2 bs (unhide NE).1).symm.trans bS); obtain ⟨g3, c3, rfl⟩ : ∃ g3 c3, v2 = .slice (some ⟨g3, 0, none⟩) (outs.length + 1) c3 := (by rcases t2.row.sh with ⟨-, q⟩ | ⟨g, c, q, -⟩; exact absurd q (by simp); exact ⟨g, c, by rw [q]; simp⟩); have o3 : W2.cell? ⟨bo, 0, none⟩ = some (.slice oa on oc) := bo2.cell 0 _ rfl; have f3 := bo2.thaw 0; have FIN := hide (And.intro t2 (And.intro k2 o2)); clear bY bZ bK bS t2 k2 o2 hf2 gY bo2)
    refine hKH.out _ _ qY (fun hHeld2 => ?_)
    clear hKH KH
    try simp only [Act.put, List.setIfInBounds_toArray, List.set_cons_zero, List.set_cons_succ]
    refine wpAnyH_ready (rs := [0, 3]) (by as_aux_lemma => kernel_rfl) (by simp) ?_
    refine AllReadyH.cons rfl (fun KH hKH => ?_) (AllReadyH.cons rfl (fun KH hKH => ?_) AllReadyH.nil)
    · go_simp
      refine hKH.out _ _ qY (fun hHeld0 => ?_)
      clear hKH KH
      try simp only [Act.put, List.setIfInBounds_toArray, List.set_cons_zero, List.set_cons_succ]
      refine wpAnyH_ready (rs := [3]) (by as_aux_lemma => kernel_rfl) (by simp) ?_
      refine AllReadyH.cons rfl (fun KH hKH => ?_) AllReadyH.nil
      go_simp
      refine hKH.out _ _ qZ (fun hHeld3 => ?_)
      clear hKH KH
      try simp only [Act.put, List.setIfInBounds_toArray, List.set_cons_zero, List.set_cons_succ]
      refine wpAnyH_ready (rs := [4]) (by as_aux_lemma => kernel_rfl) (by simp) ?_
      refine AllReadyH.cons rfl (fun KH hKH => ?_) AllReadyH.nil
      refine step_append_run rfl (Operand.tmp 10) (Operand.tmp 13) 26 26 rfl (.slice oa on oc) (.slice (some ⟨Y.heap.size, 0, none⟩) 1 1) rfl rfl hap ?_
      refine hKH.out _ _ qW (fun hHeld4 => ?_)
      clear hKH KH
      try simp only [Act.put, List.setIfInBounds_toArray, List.set_cons_zero, List.set_cons_succ]
      refine wpAnyH_ready (rs := [5]) (by as_aux_lemma => kernel_rfl) (by simp) ?_
      refine AllReadyH.cons rfl (fun KH hKH => ?_) AllReadyH.nil
      go_simp
      refine hKH.out _ _ qS (fun hHeld5 => ?_)
      clear hKH KH
      try simp only [Act.put, List.setIfInBounds_toArray, List.set_cons_zero, List.set_cons_succ]
      refine wpAnyH_done (by as_aux_lemma => kernel_rfl) ?_ _
      clear q0 qY qZ qW qS oX oY oZ o3 f3 hap hcx
      go_wp2_with fail
      go_ret
      exact ⟨rfl, _, Ro2, (unhide FIN).1, Kp.trans (Kp.grown (unhide GB) _) (unhide FIN).2.1, (unhide FIN).2.2.imp id (fun q g e => Nat.le_trans (unhide GB).size (q g e))⟩
    · go_simp
      refine hKH.out _ _ qZ (fun hHeld3 => ?_)
      clear hKH KH
      try simp only [Act.put, List.setIfInBounds_toArray, List.set_cons_zero, List.set_cons_succ]
      refine wpAnyH_ready (rs := [0]) (by as_aux_lemma => kernel_rfl) (by simp) ?_
      refine AllReadyH.cons rfl (fun KH hKH => ?_) AllReadyH.nil
      go_simp
      refine hKH.out _ _ qZ (fun hHeld0 => ?_)
      clear hKH KH
      try simp only [Act.put, List.setIfInBounds_toArray, List.set_cons_zero, List.set_cons_succ]
      refine wpAnyH_ready (rs := [4]) (by as_aux_lemma => kernel_rfl) (by simp) ?_
      refine AllReadyH.cons rfl (fun KH hKH => ?_) AllReadyH.nil
      refine step_append_run rfl (Operand.tmp 10) (Operand.tmp 13) 26 26 rfl (.slice oa on oc) (.slice (some ⟨Y.heap.size, 0, none⟩) 1 1) rfl rfl hap ?_
      refine hKH.out _ _ qW (fun hHeld4 => ?_)
      clear hKH KH
      try simp only [Act.put, List.setIfInBounds_toArray, List.set_cons_zero, List.set_cons_succ]
      refine wpAnyH_ready (rs := [5]) (by as_aux_lemma => kernel_rfl) (by simp) ?_
      refine AllReadyH.cons rfl (fun KH hKH => ?_) AllReadyH.nil
      go_simp
      refine hKH.out _ _ qS (fun hHeld5 => ?_)
      clear hKH KH
      try simp only [Act.put, List.setIfInBounds_toArray, List.set_cons_zero, List.set_cons_succ]
      refine wpAnyH_done (by as_aux_lemma => kernel_rfl) ?_ _
      clear q0 qY qZ qW qS oX oY oZ o3 f3 hap hcx
      go_wp2_with fail
      go_ret
      exact ⟨rfl, _, Ro2, (unhide FIN).1, Kp.trans (Kp.grown (unhide GB) _) (unhide FIN).2.1, (unhide FIN).2.2.imp id (fun q g e => Nat.le_trans (unhide GB).size (q g e))⟩
end Go.Proofs.YtnflbefbgcbdfaaGreat

namespace Go.Proofs.YtnflbefbgcbdfaaGreat
open Go.RowKit
set_option linter.unusedVariables false
set_option linter.unusedSimpArgs false
set_option maxRecDepth 100000
set_option maxHeartbeats 4000000

theorem take1_no (bm bo : Nat) (f : FuncId) (pre cb : Array Value) (s : St) (fa : Option Addr) (fc : Nat) (W : World)
    (eg : ∀ args w, (callFunc f args).run Tryz.prog w = .ok (.enter f args) w) (hm : W.cell? ⟨bm, 0, none⟩ = some (.func (.func f) pre cb))
    (hM : ∀ Z, W.grownBy Z none → Calls Tryz.prog f (pre ++ #[.int .i64 s.nu] ++ cb) Z fun e Z' => e = .returned (.bool false) ∧ Z.grownBy Z' none) :
    Calls Tryz.prog 73 #[.agg (s.cs (.slice fa s.fs.length fc)), .pointer (some ⟨bm, 0, none⟩), .pointer (some ⟨bo, 0, none⟩)] W fun e W' => e = .returned (.bool false) ∧ W.grownBy W' none := by
  obtain ⟨B, hB⟩ : ∃ B, B = W.alloc (.cells (s.cs (.slice fa s.fs.length fc)) 46) := ⟨_, rfl⟩
  have gB : W.grownBy B none := by rw [hB]; exact grown_alloc _ _
  have bB : Blk B W.heap.size (s.cs (.slice fa s.fs.length fc)) 46 := by rw [hB]; exact Blk.new W _ _
  obtain ⟨bs, hbs⟩ : ∃ bs, bs = W.heap.size := ⟨_, rfl⟩
  rw [← hbs] at bB
  have hc1 := hM B gB
  have hmB := cell_grown hm gB
  have GB := hide gB
  obtain ⟨nu, ti, si, el, co, pr, tl, fs⟩ := s
  simp only [St.cs] at hB bB hc1 hbs ⊢
  have y0 : B.cell? ⟨bs, 0, none⟩ = some (.int .i64 nu) := bB.cell 0 _ rfl
  clear bB gB hM hm
  go_enter Tryz.func73, Tryz.ntmps73
  go_upto_region 1 with fail
  rw [← hB, ← hbs]
  replace hB := hide hB
  replace hbs := hide hbs
  go_wp2_with (refine hc1.mono ?_; rintro e X ⟨rfl, gX⟩)
  have G := hide (grown_trans (unhide GB) gX)
  clear gX hc1
  go_wp2_with fail
  all_goals go_ret
  all_goals exact ⟨rfl, unhide G⟩

/-- Which packets are meant: a function of their numbers that only reads, in every world in which the row g alone has changed. -/
structure Mn (w0 : World) (g : Option Nat) (f : FuncId) (pre cb : Array Value) (M : Int → Bool) : Prop where
  en : ∀ args w, (callFunc f args).run Tryz.prog w = .ok (.enter f args) w
  ca : ∀ Z k, w0.grownBy Z g → Calls Tryz.prog f (pre ++ #[.int .i64 k] ++ cb) Z fun e Z' => e = .returned (.bool (M k)) ∧ Z.grownBy Z' none

/-- What IndexFunc leaves. -/
def IdxP (n0 : Nat) (W : World) (bo : Nat) (ov : Value) (Ro : Nat → Prop) (M : Int → Bool) (ks : List St) (e : Ending) (W' : World) : Prop :=
  (e = .returned (.int .i64 (-1)) ∧ (∀ s ∈ ks, M s.nu = false) ∧ W.grownBy W' none) ∨
  ∃ (k : Nat) (s : St), e = .returned (.int .i64 k) ∧ ks[k]? = some s ∧ M s.nu = true ∧ (∀ s ∈ ks.take k, M s.nu = false) ∧ ∃ v' Ro', TO n0 W' bo v' Ro' [s] ∧ KT W W' bo ov ∧ (v'.ownBlock = ov.ownBlock ∨ ∀ g, v'.ownBlock = some g → W.heap.size ≤ g)

theorem idx_any (n0 bm bo g c : Nat) (w0 : World) (f : FuncId) (pre cb : Array Value) (M : Int → Bool) (ks : List St) (R : Nat → Prop) (W : World) (ov : Value) (Ro : Nat → Prop)
    (hM : Mn w0 (some g) f pre cb M) (gW : w0.grownBy W (some g)) (hm : W.cell? ⟨bm, 0, none⟩ = some (.func (.func f) pre cb)) (hk : KvAt R W (.slice (some ⟨g, 0, none⟩) ks.length c) ks) (h : TO n0 W bo ov Ro []) (hn : ks.length ≤ 1100000) :
    Calls Tryz.prog 99 #[.slice (some ⟨g, 0, none⟩) ks.length c, .func (.func 73) #[] #[.pointer (some ⟨bm, 0, none⟩), .pointer (some ⟨bo, 0, none⟩)]] W fun e W' => IdxP n0 W bo ov Ro M ks e W' := by
  obtain ⟨n, hnn⟩ : ∃ n, n = ks.length := ⟨_, rfl⟩
  have HM := hide hM
  have GW := hide gW
  have HK := hide hk
  have HT := hide h
  have lenI : ¬ (9223372036854775807 : Int) < (n : Int) := by omega
  rw [← hnn]
  clear hM gW hk h
  replace hnn := hide hnn
  replace hm := hide hm
  go_enter Tryz.func99, Tryz.ntmps99
  go_wp2
  go_loopw [8] (fun iv wr => ∃ (k : Nat), k ≤ n ∧ iv = .int .i64 k ∧ Hid (W.grownBy wr none ∧ ∀ s ∈ ks.take k, M s.nu = false)) (fun iv _ => n - (intOf iv).toNat)
  case atStart => exact ⟨0, Nat.zero_le _, rfl, ⟨grown_self _ _, by simp⟩⟩
  case round =>
    obtain ⟨k, hk, rfl, I⟩ := hrel
    by_cases hlt : k < n
    · have hkI : (k : Int) < (n : Int) := by omega
      have hk0 : (0 : Int) ≤ (k : Int) := by omega
      obtain ⟨q1, q2⟩ := unhide I
      obtain ⟨s, hs⟩ : ∃ s, ks[k]? = some s := ⟨_, List.getElem?_eq_getElem (by rw [← unhide hnn]; exact hlt)⟩
      obtain ⟨fv, hfv, hc⟩ := ((unhide HK).grown q1).get hs
      have y0 : wr.cell? ⟨g, k * 8, none⟩ = some (.int .i64 s.nu) := hc 0 _ rfl
      have y1 : wr.cell? ⟨g, k * 8 + 1, none⟩ = some (.int .i64 s.ti) := hc 1 _ rfl
      have y2 : wr.cell? ⟨g, k * 8 + 2, none⟩ = some (.int .i64 s.si) := hc 2 _ rfl
      have y3 : wr.cell? ⟨g, k * 8 + 3, none⟩ = some (.bool s.el) := hc 3 _ rfl
      have y4 : wr.cell? ⟨g, k * 8 + 4, none⟩ = some (.bool s.co) := hc 4 _ rfl
      have y5 : wr.cell? ⟨g, k * 8 + 5, none⟩ = some (.bool s.pr) := hc 5 _ rfl
      have y6 : wr.cell? ⟨g, k * 8 + 6, none⟩ = some (.int .i64 s.tl) := hc 6 _ rfl
      have y7 : wr.cell? ⟨g, k * 8 + 7, none⟩ = some fv := hc 7 _ rfl
      have HF := hide hfv
      obtain ⟨-, fa, fc, css, rfl, -⟩ := hfv
      have hmw := cell_grown (unhide hm) q1
      have gww := grown_trans (unhide GW) q1
      have ht := (unhide HT).grown q1
      have HS := hide hs
      have Q := hide (And.intro q1 q2)
      by_cases hp : M s.nu = true
      · have hc1 := take1_yes n0 bm bo f pre cb s R fa fc wr ov Ro [] (unhide HM).en hmw (fun Z gZ => by have := (unhide HM).ca Z s.nu (grown_trans gww gZ); rw [hp] at this; exact this) (unhide HF) ht (by simp)
        have HP := hide hp
        clear hc HF hmw gww ht hp q1 q2 I HK HT hs
        go_wp2_with (refine hc1.mono ?_; rintro e X ⟨rfl, v2, Ro2, t2, k2, o2⟩)
        all_goals go_ret
        all_goals
          obtain ⟨q1, q2⟩ := unhide Q
          refine .inr ⟨k, s, rfl, unhide HS, unhide HP, q2, v2, Ro2, t2, Kp.trans (Kp.grown q1 _) k2, o2.imp id (fun q g e => Nat.le_trans q1.size (q g e))⟩
      · have hp : M s.nu = false := by simpa using hp
        have hc1 := take1_no bm bo f pre cb s fa fc wr (unhide HM).en hmw (fun Z gZ => by have := (unhide HM).ca Z s.nu (grown_trans gww gZ); rw [hp] at this; exact this)
        have HP := hide hp
        clear hc HF hmw gww ht hp q1 q2 I HK HT hs
        go_wp2_with (refine hc1.mono ?_; rintro e X ⟨rfl, gX⟩)
        all_goals go_roundw
        case rel =>
          obtain ⟨q1, q2⟩ := unhide Q
          refine ⟨k + 1, hlt, by go_num, ⟨grown_trans q1 gX, fun x hx => ?_⟩⟩
          rw [List.take_add_one, unhide HS] at hx
          rcases List.mem_append.1 hx with h1 | h1
          · exact q2 x h1
          · simp at h1; subst h1; exact unhide HP
        case measure => simp [intOf]; omega
    · obtain rfl : k = n := by omega
      have hkI : ¬ (k : Int) < (k : Int) := by omega
      go_wp2
      go_ret
      obtain ⟨q1, q2⟩ := unhide I
      refine .inl ⟨rfl, fun s hs => q2 s ?_, q1⟩
      rw [List.take_of_length_le (by rw [unhide hnn]; exact Nat.le_refl _)]
      exact hs
end Go.Proofs.YtnflbefbgcbdfaaGreat

namespace Go.Proofs.YtnflbefbgcbdfaaGreat
open Go.RowKit
set_option linter.unusedVariables false
set_option linter.unusedSimpArgs false
set_option maxRecDepth 100000
set_option maxHeartbeats 1000000

/-- The cells of packets. -/
def clp (ps : List (St × Value)) : List Value := (ps.map fun p => (p.1.cs p.2).toList).flatten
theorem clp_len (ps : List (St × Value)) : (clp ps).length = ps.length * 8 := by
  have := flat_len 8 (ps.map fun p => (p.1.cs p.2).toList) (fun c hc => by obtain ⟨p, -, rfl⟩ := List.mem_map.1 hc; rfl)
  rw [List.length_map] at this
  exact this
theorem clp_app (a b : List (St × Value)) : clp (a ++ b) = clp a ++ clp b := by simp [clp]
theorem clp_cons (p : St × Value) (b : List (St × Value)) : clp (p :: b) = (p.1.cs p.2).toList ++ clp b := by simp [clp]
theorem skl_clp (ks : List St) (fvs : List Value) : (skl ks fvs).flatten = clp (ks.zip fvs) := by
  unfold skl clp
  congr 1
  rw [List.zip, List.map_zipWith]

theorem run_clearN {P : Program} (sz : Nat) (hsz : 0 < sz) (w : World) (t e : TypeId) (z : Value) (ht : P.underlying t = some (.slice e)) (hv : ∀ w, (zeroValue e).run P w = .ok z w) (hz : z.cells.size = sz) (h1 : ∀ u ∈ z.cells.toList, u.oneCell' = true)
    (g o n : Nat) (X C Y : List Value) (tt : TypeId) (hg : w.heap[g]? = some (.cells (X ++ (C ++ Y)).toArray tt (0, 0))) (ho : o = X.length) (hC : C.length = n * sz) :
    ∃ Z, Z.length = n * sz ∧ ∀ ty c, (Builtin.clear_ #[t] ty #[.slice (some ⟨g, o, none⟩) n c]).run P w = .ok (.tuple #[]) (w.setRow g (X ++ (Z ++ Y)).toArray) := by
  cases n with
  | zero =>
    have : C = [] := List.length_eq_zero_iff.1 (by omega)
    subst this
    refine ⟨[], by simp, fun ty c => ?_⟩
    rw [setRow_self w g _ tt (0, 0) hg]
    simp [Builtin.clear_, run_underlying ht]
  | succ m =>
    have hlen : (Builtin.zeroCells z.cells (m + 1)).toList.length = (m + 1) * sz := by simp [Builtin.zeroCells, hz]
    have hst := run_storeCells_at P g o tt (Builtin.zeroCells z.cells (m + 1)).toList 0 _ w hg (by subst ho; rw [hlen]; simp; omega) (by
      intro v hv'
      simp only [Builtin.zeroCells, Array.toList_map, List.mem_map] at hv'
      obtain ⟨k, hk, rfl⟩ := hv'
      have : k % z.cells.size < z.cells.size := Nat.mod_lt _ (by omega)
      rw [getElem!_pos z.cells _ this]
      exact h1 _ (by simp))
    refine ⟨_, hlen, fun ty c => ?_⟩
    have e := splice X C Y (Builtin.zeroCells z.cells (m + 1)).toList o ho (by rw [hlen, hC])
    rw [e] at hst
    simp [Builtin.clear_, run_underlying ht, hv, hst]

/-- An element stored whole, into the midst of a row. -/
theorem wpList_store_mid {P : Program} {ops : Array Oper} {rest : List Oper} {o : Oper} {a : Act} {w : World} {Q : Exit → Act → World → Prop} (hgd : o.guard = none) (ty : TypeId) (x y : Operand) (ho : o.op = .store ty x y)
    (g off : Nat) (cells : Array Value) (hx : a.eval x = .pointer (some ⟨g, off, none⟩)) (hy : a.eval y = .agg cells)
    (t : TypeId) (X C Y : List Value) (hg : w.heap[g]? = some (.cells (X ++ (C ++ Y)).toArray t (0, 0))) (hoff : off = X.length) (hC : C.length = cells.size) (hi : (P.info? ty).map (·.size) = some cells.size) (h1 : ∀ v ∈ cells.toList, v.oneCell' = true)
    (h : wpList P ops Q rest (a.put o.dst undef) (w.setRow g (X ++ (cells.toList ++ Y)).toArray)) : wpList P ops Q (o :: rest) a w :=
  wpList_plain hgd fun K hK => by
    have hst := run_storeCells_at P g off t cells.toList 0 _ w hg (by subst hoff; simp; omega) h1
    have e := splice X C Y cells.toList off hoff (by simpa using hC)
    rw [e] at hst
    have hv : (storeVar ty ⟨g, off, none⟩ (.agg cells)).run P w = .ok () (w.setRow g (X ++ (cells.toList ++ Y)).toArray) := by
      cases hq : P.info? ty with
      | none => simp [hq] at hi
      | some i =>
        have hs : cells.size = i.size := by simp [hq] at hi; omega
        simp [storeVar, sizeOf, typeInfo, hq, Value.cells, hs, hst]
    unfold Oper.wp execOp
    simp only [ho, hx, hy, Instr.storeAt, Instr.sureAddr, Sem.run_bind, Sem.run_pure, Result.andThen_ok, hv]
    exact hK _ _ h

theorem cell_mid {W : World} {g : Nat} {t : TypeId} {X C Y : List Value} (hg : W.heap[g]? = some (.cells (X ++ (C ++ Y)).toArray t (0, 0))) (o : Nat) (ho : o = X.length) (j : Nat) (v : Value) (hv : C[j]? = some v) : W.cell? ⟨g, o + j, none⟩ = some v := by
  subst ho
  have hj := (List.getElem?_eq_some_iff.1 hv).1
  unfold World.cell?
  rw [hg]
  simp only [List.getElem?_toArray]
  rw [List.getElem?_append_right (by omega), Nat.add_sub_cancel_left, List.getElem?_append_left hj]
  exact hv

/-- While packets are taken out: j were looked at, K of them are left. -/
structure DI (R : Nat → Prop) (M : Int → Bool) (W : World) (g c : Nat) (ps : List (St × Value)) (j : Nat) (K : List (St × Value)) : Prop where
  hK : K = (ps.take j).filter (fun p => !M p.1.nu)
  blk : ∃ mid sp, Blk W g (clp K ++ (mid ++ (clp (ps.drop j) ++ sp))).toArray 46 ∧ K.length * 8 + mid.length = j * 8 ∧ ps.length * 8 + sp.length = c * 8
  fv : ∀ p ∈ ps, FvAt R W p.2 p.1.fs
  jl : j ≤ ps.length
section
variable {R : Nat → Prop} {M : Int → Bool} {W W' : World} {g c j : Nat} {ps K : List (St × Value)}
theorem DI.kl (h : DI R M W g c ps j K) : K.length ≤ j := by
  rw [h.hK]
  have := List.length_filter_le (fun p : St × Value => !M p.1.nu) (ps.take j)
  rw [List.length_take] at this
  omega
theorem DI.kept (h : DI R M W g c ps j K) (hg : W'.heap[g]? = W.heap[g]?) (hr : ∀ b, R b → W'.heap[b]? = W.heap[b]?) : DI R M W' g c ps j K := by
  obtain ⟨mid, sp, h1, h2, h3⟩ := h.blk
  exact ⟨h.hK, ⟨mid, sp, hg.trans h1, h2, h3⟩, fun p hp => (h.fv p hp).kept hr, h.jl⟩
theorem drop_at {α : Type} {l : List α} {j : Nat} {p : α} (h : l[j]? = some p) : l.drop j = p :: l.drop (j + 1) := by
  obtain ⟨h1, h2⟩ := List.getElem?_eq_some_iff.1 h
  rw [List.drop_eq_getElem_cons h1, h2]
theorem DI.get {p : St × Value} (h : DI R M W g c ps j K) (hp : ps[j]? = some p) : ∀ t v, (p.1.cs p.2)[t]? = some v → W.cell? ⟨g, j * 8 + t, none⟩ = some v := by
  intro t v hv
  obtain ⟨mid, sp, h1, h2, h3⟩ := h.blk
  rw [drop_at hp, clp_cons, ← List.append_assoc (clp K), List.append_assoc (p.1.cs p.2).toList] at h1
  exact cell_mid h1 (j * 8) (by rw [List.length_append, clp_len]; omega) t v (by simpa using hv)
theorem take_at {α : Type} {l : List α} {j : Nat} {p : α} (h : l[j]? = some p) : l.take (j + 1) = l.take j ++ [p] := by
  rw [List.take_add_one, h]; rfl
theorem DI.skip {p : St × Value} (h : DI R M W g c ps j K) (hp : ps[j]? = some p) (hm : M p.1.nu = true) : DI R M W g c ps (j + 1) K := by
  obtain ⟨mid, sp, h1, h2, h3⟩ := h.blk
  refine ⟨?_, ⟨mid ++ (p.1.cs p.2).toList, sp, ?_, ?_, h3⟩, h.fv, (List.getElem?_eq_some_iff.1 hp).1⟩
  · rw [take_at hp, List.filter_append, ← h.hK]; simp [hm]
  · rw [drop_at hp, clp_cons] at h1
    simpa [List.append_assoc] using h1
  · rw [List.length_append]; show _ + (_ + 8) = _; omega
/-- One that is left goes to its place. -/
theorem DI.put {p : St × Value} (h : DI R M W g c ps j K) (hp : ps[j]? = some p) (hm : M p.1.nu = false) (hr : ¬ R g) :
    ∃ X C Y : List Value, Blk W g (X ++ (C ++ Y)).toArray 46 ∧ K.length * 8 = X.length ∧ C.length = 8 ∧ DI R M (W.setRow g (X ++ ((p.1.cs p.2).toList ++ Y)).toArray) g c ps (j + 1) (K ++ [p]) := by
  obtain ⟨mid, sp, h1, h2, h3⟩ := h.blk
  have hd := drop_at hp
  rw [hd, clp_cons] at h1
  have hm8 : 8 ≤ (mid ++ (p.1.cs p.2).toList).length := by rw [List.length_append]; show _ ≤ _ + 8; omega
  have e : clp K ++ (mid ++ ((p.1.cs p.2).toList ++ clp (ps.drop (j + 1)) ++ sp)) = clp K ++ ((mid ++ (p.1.cs p.2).toList).take 8 ++ ((mid ++ (p.1.cs p.2).toList).drop 8 ++ (clp (ps.drop (j + 1)) ++ sp))) := by
    congr 1
    rw [← List.append_assoc (List.take _ _), List.take_append_drop]
    simp [List.append_assoc]
  rw [e] at h1
  refine ⟨clp K, (mid ++ (p.1.cs p.2).toList).take 8, (mid ++ (p.1.cs p.2).toList).drop 8 ++ (clp (ps.drop (j + 1)) ++ sp), h1, (clp_len K).symm, by rw [List.length_take]; omega, ?_, ⟨(mid ++ (p.1.cs p.2).toList).drop 8, sp, ?_, ?_, h3⟩, fun q hq => (h.fv q hq).kept fun b hb => setRow_other W g b _ (fun e => hr (e ▸ hb)), (List.getElem?_eq_some_iff.1 hp).1⟩
  · rw [take_at hp, List.filter_append, ← h.hK]; simp [hm]
  · have := h1.row (clp K ++ ((p.1.cs p.2).toList ++ ((mid ++ (p.1.cs p.2).toList).drop 8 ++ (clp (ps.drop (j + 1)) ++ sp)))).toArray
    rw [clp_app, clp_cons]
    simpa [clp, List.append_assoc] using this
  · rw [List.length_append, List.length_drop, List.length_append]
    show (_ + 1) * 8 + (_ + 8 - 8) = _
    omega
/-- The beginning. -/
theorem DI.start {ks : List St} {k : Nat} {s : St} (h : KvAt R W (.slice (some ⟨g, 0, none⟩) ks.length c) ks) (hs : ks[k]? = some s) (h1 : ∀ s ∈ ks.take k, M s.nu = false) (h2 : M s.nu = true) :
    ∃ ps K, ps.map Prod.fst = ks ∧ K.length = k ∧ DI R M W g c ps (k + 1) K := by
  obtain ⟨fvs, e1, e2, e3⟩ := h
  have hk := (List.getElem?_eq_some_iff.1 hs).1
  obtain ⟨fv, hf⟩ : ∃ fv, fvs[k]? = some fv := ⟨_, List.getElem?_eq_getElem (by omega)⟩
  have hz : (ks.zip fvs)[k]? = some (s, fv) := by rw [List.getElem?_zip_eq_some]; exact ⟨hs, hf⟩
  have hzl : (ks.zip fvs).length = ks.length := by simp [e1]
  refine ⟨ks.zip fvs, (ks.zip fvs).take k, List.map_fst_zip (by omega), by rw [List.length_take]; omega, ?_⟩
  have hD : DI R M W g c (ks.zip fvs) k ((ks.zip fvs).take k) := by
    refine ⟨?_, ?_, ?_, by omega⟩
    · rw [List.filter_eq_self.2]
      rintro ⟨x, y⟩ hx
      have : x ∈ ks.take k := by
        have h3 : x ∈ ((ks.zip fvs).take k).map Prod.fst := List.mem_map.2 ⟨_, hx, rfl⟩
        rw [List.map_take, List.map_fst_zip (by omega)] at h3
        exact h3
      simp [h1 x this]
    · rw [skl_clp] at e2
      rcases e2.2 with ⟨q, -⟩ | ⟨g', c', cur, q1, q2, q3, q4, q5, q6, q7⟩
      · cases q
      · injection q1 with q1 q1b q1c
        injection q1 with q1
        injection q1 with q1
        subst q1
        subst q1c
        refine ⟨[], cur.toList.drop (ks.length * 8), ?_, by rw [List.length_take]; simp; omega, by rw [List.length_drop, hzl]; simp; omega⟩
        rw [List.nil_append, ← List.append_assoc, ← clp_app, List.take_append_drop, ← q7, List.take_append_drop, Array.toArray_toList]
        exact q3
    · rintro ⟨x, y⟩ hx
      obtain ⟨i, hi⟩ := List.getElem?_of_mem hx
      rw [List.getElem?_zip_eq_some] at hi
      exact e3 i x y hi.1 hi.2
  exact hD.skip hz h2
/-- The end: what is behind was cleared. -/
theorem DI.ends {n : Nat} (h : DI R M W g c ps n K) (hn : n = ps.length) (hr : ¬ R g) (hc : c ≤ maxLen) :
    ∃ X C Y : List Value, Blk W g (X ++ (C ++ Y)).toArray 46 ∧ K.length * 8 = X.length ∧ C.length = (n - K.length) * 8 ∧ ∀ Z : List Value, Z.length = (n - K.length) * 8 → KvAt R (W.setRow g (X ++ (Z ++ Y)).toArray) (.slice (some ⟨g, 0, none⟩) K.length c) ((ps.map Prod.fst).filter (fun s => !M s.nu)) := by
  have hkl := h.kl
  obtain ⟨mid, sp, h1, h2, h3⟩ := h.blk
  rw [hn, List.drop_length] at h1
  have e : clp K ++ (mid ++ (clp [] ++ sp)) = clp K ++ (mid ++ sp) := rfl
  rw [e] at h1
  refine ⟨clp K, mid, sp, h1, (clp_len K).symm, by omega, fun Z hZ => ?_⟩
  have hks : (ps.map Prod.fst).filter (fun s => !M s.nu) = K.map Prod.fst := by
    rw [h.hK, hn, List.take_length, List.filter_map]
    rfl
  have hl : K.length = (K.map Prod.fst).length := by simp
  rw [hks]
  refine ⟨K.map Prod.snd, by simp, ?_, fun i s fv a b => ?_⟩
  · have ez : (K.map Prod.fst).zip (K.map Prod.snd) = K := by
      rw [List.zip_map']; simp
    rw [skl_clp, ez, ← hl]
    refine ⟨clp_len K, .inr ⟨g, c, (clp K ++ (Z ++ sp)).toArray, rfl, Nat.zero_le _, h1.row _, by omega, hc, ?_, ?_⟩⟩
    · simp only [List.size_toArray, List.length_append, clp_len]; omega
    · rw [← clp_len]; simp
  · rw [List.getElem?_map] at a b
    obtain ⟨p, hp, rfl⟩ := Option.map_eq_some_iff.1 a
    rw [hp] at b
    simp at b
    subst b
    have hpK : p ∈ K := List.mem_of_getElem? hp
    rw [h.hK] at hpK
    exact (h.fv p (List.mem_of_mem_take (List.mem_filter.1 hpK).1)).kept fun b hb => setRow_other W g b _ (fun e => hr (e ▸ hb))
end
end Go.Proofs.YtnflbefbgcbdfaaGreat
