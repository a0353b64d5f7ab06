/- Ledger: take's function of a packet. -/
import Derived.Test.YtnflbefbgcbdfaaL4A
namespace Go.Proofs.Ytnflbefbgcbdfaa
open Go.RowKit
set_option linter.unusedVariables false
set_option linter.unusedSimpArgs false
set_option maxRecDepth 100000
set_option maxHeartbeats 1000000

theorem enters_copied : Enters Try.prog 28 := Go.Proofs.enters_of Try.func28 (by kernel_rfl) rfl
theorem cells8 {W : World} {b : Nat} {c0 c1 c2 c3 c4 c5 c6 c7 : Value} {t : TypeId} (h : Blk W b #[c0, c1, c2, c3, c4, c5, c6, c7] t) : W.cell? ⟨b, 0, none⟩ = some c0 ∧ W.cell? ⟨b, 1, none⟩ = some c1 ∧ W.cell? ⟨b, 2, none⟩ = some c2 ∧ W.cell? ⟨b, 3, none⟩ = some c3 ∧ W.cell? ⟨b, 4, none⟩ = some c4 ∧ W.cell? ⟨b, 5, none⟩ = some c5 ∧ W.cell? ⟨b, 6, none⟩ = some c6 ∧ W.cell? ⟨b, 7, none⟩ = some c7 :=
  ⟨h.cell 0 _ rfl, h.cell 1 _ rfl, h.cell 2 _ rfl, h.cell 3 _ rfl, h.cell 4 _ rfl, h.cell 5 _ rfl, h.cell 6 _ rfl, h.cell 7 _ rfl⟩

theorem take1_yes (n0 bm bo : Nat) (f : FuncId) (pre cb : Array Value) (s : St) (R : Nat → Prop) (fa : Option Addr) (fc : Nat) (W : World) (ov : Value) (Ro : Nat → Prop) (outs : List St)
    (eg : ∀ args w, (callFunc f args).run Try.prog w = .ok (.enter f args) w) (hm : W.cell? ⟨bm, 0, none⟩ = some (.func (.func f) pre cb))
    (hM : ∀ Z, W.grownBy Z none → Calls Try.prog f (pre ++ #[.int .i64 s.nu] ++ cb) Z fun e Z' => e = .returned (.bool true) ∧ Z.grownBy Z' none)
    (hf : FvAt R W (.slice fa s.fs.length fc) s.fs) (h : TO n0 W bo ov Ro outs) (hl : outs.length ≤ 1100000) :
    Calls Try.prog 45 #[.agg (s.cs (.slice fa s.fs.length fc)), .pointer (some ⟨bm, 0, none⟩), .pointer (some ⟨bo, 0, none⟩)] W fun e W' => e = .returned (.bool true) ∧ ∃ v' Ro', TO n0 W' bo v' Ro' (outs ++ [s]) ∧ KT W W' bo ov ∧ (v'.ownBlock = ov.ownBlock ∨ ∀ g, v'.ownBlock = some g → W.heap.size ≤ g) := by
  obtain ⟨B, hB⟩ : ∃ B, B = W.alloc (.cells (s.cs (.slice fa s.fs.length fc)) 36) := ⟨_, rfl⟩
  have gB : W.grownBy B none := by rw [hB]; exact grown_alloc _ _
  have bB : Blk B W.heap.size (s.cs (.slice fa s.fs.length fc)) 36 := by rw [hB]; exact Blk.new W _ _
  obtain ⟨bs, hbs⟩ : ∃ bs, bs = W.heap.size := ⟨_, rfl⟩
  rw [← hbs] at bB
  have hc1 := hM B gB
  have hcop := fun X (g : W.grownBy X none) => copied_fv s fa fc X (hf.grown g)
  have PUSH := hide (fun X Y fv (g1 : B.grownBy X none) (g2 : X.grownBy Y none) (q : FvAt (fun b => X.heap.size ≤ b) Y fv s.fs) => (h.grown gB).push g1 g2 q hl)
  have hmB := cell_grown hm gB
  have BB := hide bB
  have LTB := hide bB.lt
  have GB := hide gB
  have BO := hide (h.blk.grown gB)
  have NE : Hid (bs ≠ bo ∧ ov.ownBlock ≠ some bs) := ⟨by have := h.blk.lt; omega, fun e => by have := h.row.lt bs e; omega⟩
  have HOV : ∃ oa on oc, ov = .slice oa on oc := by
    rcases h.row.sh with ⟨q, -⟩ | ⟨g, c, q, -⟩
    · exact ⟨_, _, _, q⟩
    · exact ⟨_, _, _, q⟩
  obtain ⟨oa, on, oc, rfl⟩ := HOV
  obtain ⟨nu, ti, si, el, co, pr, tl, fs⟩ := s
  simp only [St.cs] at hB bB hc1 hcop hbs ⊢
  have y0 : B.cell? ⟨bs, 0, none⟩ = some (.int .i64 nu) := bB.cell 0 _ rfl
  clear bB gB hM hf h hm
  go_enter Try.func45, Try.ntmps45
  go_upto_region 1 with fail
  rw [← hB, ← hbs]
  replace hB := hide hB
  replace hbs := hide hbs
  go_wp2_with (refine hc1.mono ?_; rintro e X ⟨rfl, gX⟩)
  have gWX := grown_trans (unhide GB) gX
  have oX : X.cell? ⟨bo, 0, none⟩ = some (.slice oa on oc) := ((unhide BO).grown gX).cell 0 _ rfl
  have bX : Blk X bs #[.int .i64 nu, .int .i64 ti, .int .i64 si, .bool el, .bool co, .bool pr, .int .i64 tl, .slice fa fs.length fc] 36 := (unhide BB).grown gX
  have BX := hide bX
  have GX := hide gX
  have hcx := hcop X.drew (grown_drew' gWX)
  have BOX := hide ((unhide BO).grown gX)
  have q0 := cells8 bX.drew
  clear hcop hc1 hmB y0 bX gX gWX BO
  refine wp_region_held_drew (S := fun Z => Z.cell? ⟨bs, 0, none⟩ = some (.int .i64 nu) ∧ Z.cell? ⟨bs, 1, none⟩ = some (.int .i64 ti) ∧ Z.cell? ⟨bs, 2, none⟩ = some (.int .i64 si) ∧ Z.cell? ⟨bs, 3, none⟩ = some (.bool el) ∧ Z.cell? ⟨bs, 4, none⟩ = some (.bool co) ∧ Z.cell? ⟨bs, 5, none⟩ = some (.bool pr) ∧ Z.cell? ⟨bs, 6, none⟩ = some (.int .i64 tl) ∧ Z.cell? ⟨bs, 7, none⟩ = some (.slice fa fs.length fc)) (by kernel_rfl) q0 (fun hHeld => ?_)
  refine wpAnyH_take (i := 1) (v := ?_) rfl (by as_aux_lemma => kernel_rfl) (by as_aux_lemma => kernel_rfl) (by as_aux_lemma => kernel_rfl) (fun _ _ _ h => h) (Or.inl ⟨by rfl, ?_⟩) (by assumption) ?_
  rotate_left
  · intro wH hSw
    try dsimp only at hSw
    obtain ⟨s0q, s1q, s2q, s3q, s4q, s5q, s6q, s7q⟩ := hSw
    go_simp
    try with_reducible rfl
  try simp only [Act.put, List.setIfInBounds_toArray, List.set_cons_zero, List.set_cons_succ]
  refine wpAnyH_ready (rs := [0, 2]) (by as_aux_lemma => kernel_rfl) (by simp) ?_
  refine AllReadyH.cons rfl (fun KH hKH => ?_) (AllReadyH.cons rfl (fun KH hKH => ?_) AllReadyH.nil)
  · go_simp
    refine hKH.out _ _ q0 (fun hHeld0 => ?_)
    clear hKH KH
    try simp only [Act.put, List.setIfInBounds_toArray, List.set_cons_zero, List.set_cons_succ]
    refine wpAnyH_ready (rs := [2]) (by as_aux_lemma => kernel_rfl) (by simp) ?_
    refine AllReadyH.cons rfl (fun KH hKH => ?_) AllReadyH.nil
    (refine step_call (by rfl) 28 #[.agg #[.int .i64 nu, .int .i64 ti, .int .i64 si, .bool el, .bool co, .bool pr, .int .i64 tl, .slice fa fs.length fc]] enters_copied #[Operand.tmp 11] #[36] (by rfl) (by simp [Act.eval]) hcx ?_; rintro e Y ⟨a2, c2, rfl, hf2, gY⟩; refine ⟨_, rfl, ?_⟩; obtain ⟨v2, W2, hap, bo2, Ro2, t2, k2, o2⟩ := unhide PUSH X.drew Y _ (grown_drew' (unhide GX)) gY hf2; have bY := (unhide BX).drew.grown gY; have qY := cells8 bY; have bZ := bY.alloc (.cells #[.int .i64 nu, .int .i64 ti, .int .i64 si, .bool el, .bool co, .bool pr, .int .i64 tl, .slice a2 fs.length c2] 36); have qZ := cells8 bZ; have oY : Y.cell? ⟨bo, 0, none⟩ = some (.slice oa on oc) := ((unhide BOX).drew.grown gY).cell 0 _ rfl; have oZ : (Y.alloc (.cells #[.int .i64 nu, .int .i64 ti, .int .i64 si, .bool el, .bool co, .bool pr, .int .i64 tl, .slice a2 fs.length c2] 36)).cell? ⟨bo, 0, none⟩ = some (.slice oa on oc) := (((unhide BOX).drew.grown gY).alloc _).cell 0 _ rfl; have bK := (k2.block bs (unhide LTB) (fun e => e.elim (unhide NE).1 (unhide NE).2)); have bS : Blk (W2.setCell ⟨bo, 0, none⟩ v2) bs #[.int .i64 nu, .int .i64 ti, .int .i64 si, .bool el, .bool co, .bool pr, .int .i64 tl, .slice fa fs.length fc] 36 := bK.trans (unhide BB); have qS := cells8 bS; have qW := cells8 (show Blk W2 bs #[.int .i64 nu, .int .i64 ti, .int .i64 si, .bool el, .bool co, .bool pr, .int .i64 tl, .slice fa fs.length fc] 36 from (set_heap W2 bo 0 v2 bs (unhide NE).1).symm.trans bS); obtain ⟨g3, c3, rfl⟩ : ∃ g3 c3, v2 = .slice (some ⟨g3, 0, none⟩) (outs.length + 1) c3 := (by rcases t2.row.sh with ⟨-, q⟩ | ⟨g, c, q, -⟩; exact absurd q (by simp); exact ⟨g, c, by rw [q]; simp⟩); have o3 : W2.cell? ⟨bo, 0, none⟩ = some (.slice oa on oc) := bo2.cell 0 _ rfl; have f3 := bo2.thaw 0; have FIN := hide (And.intro t2 (And.intro k2 o2)); clear bY bZ bK bS t2 k2 o2 hf2 gY bo2)
    refine hKH.out _ _ qY (fun hHeld2 => ?_)
    clear hKH KH
    try simp only [Act.put, List.setIfInBounds_toArray, List.set_cons_zero, List.set_cons_succ]
    refine wpAnyH_ready (rs := [3]) (by as_aux_lemma => kernel_rfl) (by simp) ?_
    refine AllReadyH.cons rfl (fun KH hKH => ?_) AllReadyH.nil
    go_simp
    refine hKH.out _ _ qZ (fun hHeld3 => ?_)
    clear hKH KH
    try simp only [Act.put, List.setIfInBounds_toArray, List.set_cons_zero, List.set_cons_succ]
    refine wpAnyH_ready (rs := [4]) (by as_aux_lemma => kernel_rfl) (by simp) ?_
    refine AllReadyH.cons rfl (fun KH hKH => ?_) AllReadyH.nil
    refine step_append_run rfl (Operand.tmp 10) (Operand.tmp 13) 49 49 rfl (.slice oa on oc) (.slice (some ⟨Y.heap.size, 0, none⟩) 1 1) rfl rfl hap ?_
    refine hKH.out _ _ qW (fun hHeld4 => ?_)
    clear hKH KH
    try simp only [Act.put, List.setIfInBounds_toArray, List.set_cons_zero, List.set_cons_succ]
    refine wpAnyH_ready (rs := [5]) (by as_aux_lemma => kernel_rfl) (by simp) ?_
    refine AllReadyH.cons rfl (fun KH hKH => ?_) AllReadyH.nil
    go_simp
    refine hKH.out _ _ qS (fun hHeld5 => ?_)
    clear hKH KH
    try simp only [Act.put, List.setIfInBounds_toArray, List.set_cons_zero, List.set_cons_succ]
    refine wpAnyH_done (by as_aux_lemma => kernel_rfl) ?_ _
    clear q0 qY qZ qW qS oX oY oZ o3 f3 hap hcx
    go_wp2_with fail
    go_ret
    exact ⟨rfl, _, Ro2, (unhide FIN).1, Kp.trans (Kp.grown (unhide GB) _) (unhide FIN).2.1, (unhide FIN).2.2.imp id (fun q g e => Nat.le_trans (unhide GB).size (q g e))⟩
  · (refine step_call (by rfl) 28 #[.agg #[.int .i64 nu, .int .i64 ti, .int .i64 si, .bool el, .bool co, .bool pr, .int .i64 tl, .slice fa fs.length fc]] enters_copied #[Operand.tmp 11] #[36] (by rfl) (by simp [Act.eval]) hcx ?_; rintro e Y ⟨a2, c2, rfl, hf2, gY⟩; refine ⟨_, rfl, ?_⟩; obtain ⟨v2, W2, hap, bo2, Ro2, t2, k2, o2⟩ := unhide PUSH X.drew Y _ (grown_drew' (unhide GX)) gY hf2; have bY := (unhide BX).drew.grown gY; have qY := cells8 bY; have bZ := bY.alloc (.cells #[.int .i64 nu, .int .i64 ti, .int .i64 si, .bool el, .bool co, .bool pr, .int .i64 tl, .slice a2 fs.length c2] 36); have qZ := cells8 bZ; have oY : Y.cell? ⟨bo, 0, none⟩ = some (.slice oa on oc) := ((unhide BOX).drew.grown gY).cell 0 _ rfl; have oZ : (Y.alloc (.cells #[.int .i64 nu, .int .i64 ti, .int .i64 si, .bool el, .bool co, .bool pr, .int .i64 tl, .slice a2 fs.length c2] 36)).cell? ⟨bo, 0, none⟩ = some (.slice oa on oc) := (((unhide BOX).drew.grown gY).alloc _).cell 0 _ rfl; have bK := (k2.block bs (unhide LTB) (fun e => e.elim (unhide NE).1 (unhide NE).2)); have bS : Blk (W2.setCell ⟨bo, 0, none⟩ v2) bs #[.int .i64 nu, .int .i64 ti, .int .i64 si, .bool el, .bool co, .bool pr, .int .i64 tl, .slice fa fs.length fc] 36 := bK.trans (unhide BB); have qS := cells8 bS; have qW := cells8 (show Blk W2 bs #[.int .i64 nu, .int .i64 ti, .int .i64 si, .bool el, .bool co, .bool pr, .int .i64 tl, .slice fa fs.length fc] 36 from (set_heap W2 bo 0 v2 bs (unhide NE).1).symm.trans bS); obtain ⟨g3, c3, rfl⟩ : ∃ g3 c3, v2 = .slice (some ⟨g3, 0, none⟩) (outs.length + 1) c3 := (by rcases t2.row.sh with ⟨-, q⟩ | ⟨g, c, q, -⟩; exact absurd q (by simp); exact ⟨g, c, by rw [q]; simp⟩); have o3 : W2.cell? ⟨bo, 0, none⟩ = some (.slice oa on oc) := bo2.cell 0 _ rfl; have f3 := bo2.thaw 0; have FIN := hide (And.intro t2 (And.intro k2 o2)); clear bY bZ bK bS t2 k2 o2 hf2 gY bo2)
    refine hKH.out _ _ qY (fun hHeld2 => ?_)
    clear hKH KH
    try simp only [Act.put, List.setIfInBounds_toArray, List.set_cons_zero, List.set_cons_succ]
    refine wpAnyH_ready (rs := [0, 3]) (by as_aux_lemma => kernel_rfl) (by simp) ?_
    refine AllReadyH.cons rfl (fun KH hKH => ?_) (AllReadyH.cons rfl (fun KH hKH => ?_) AllReadyH.nil)
    · go_simp
      refine hKH.out _ _ qY (fun hHeld0 => ?_)
      clear hKH KH
      try simp only [Act.put, List.setIfInBounds_toArray, List.set_cons_zero, List.set_cons_succ]
      refine wpAnyH_ready (rs := [3]) (by as_aux_lemma => kernel_rfl) (by simp) ?_
      refine AllReadyH.cons rfl (fun KH hKH => ?_) AllReadyH.nil
      go_simp
      refine hKH.out _ _ qZ (fun hHeld3 => ?_)
      clear hKH KH
      try simp only [Act.put, List.setIfInBounds_toArray, List.set_cons_zero, List.set_cons_succ]
      refine wpAnyH_ready (rs := [4]) (by as_aux_lemma => kernel_rfl) (by simp) ?_
      refine AllReadyH.cons rfl (fun KH hKH => ?_) AllReadyH.nil
      refine step_append_run rfl (Operand.tmp 10) (Operand.tmp 13) 49 49 rfl (.slice oa on oc) (.slice (some ⟨Y.heap.size, 0, none⟩) 1 1) rfl rfl hap ?_
      refine hKH.out _ _ qW (fun hHeld4 => ?_)
      clear hKH KH
      try simp only [Act.put, List.setIfInBounds_toArray, List.set_cons_zero, List.set_cons_succ]
      refine wpAnyH_ready (rs := [5]) (by as_aux_lemma => kernel_rfl) (by simp) ?_
      refine AllReadyH.cons rfl (fun KH hKH => ?_) AllReadyH.nil
      go_simp
      refine hKH.out _ _ qS (fun hHeld5 => ?_)
      clear hKH KH
      try simp only [Act.put, List.setIfInBounds_toArray, List.set_cons_zero, List.set_cons_succ]
      refine wpAnyH_done (by as_aux_lemma => kernel_rfl) ?_ _
      clear q0 qY qZ qW qS oX oY oZ o3 f3 hap hcx
      go_wp2_with fail
      go_ret
      exact ⟨rfl, _, Ro2, (unhide FIN).1, Kp.trans (Kp.grown (unhide GB) _) (unhide FIN).2.1, (unhide FIN).2.2.imp id (fun q g e => Nat.le_trans (unhide GB).size (q g e))⟩
    · go_simp
      refine hKH.out _ _ qZ (fun hHeld3 => ?_)
      clear hKH KH
      try simp only [Act.put, List.setIfInBounds_toArray, List.set_cons_zero, List.set_cons_succ]
      refine wpAnyH_ready (rs := [0]) (by as_aux_lemma => kernel_rfl) (by simp) ?_
      refine AllReadyH.cons rfl (fun KH hKH => ?_) AllReadyH.nil
      go_simp
      refine hKH.out _ _ qZ (fun hHeld0 => ?_)
      clear hKH KH
      try simp only [Act.put, List.setIfInBounds_toArray, List.set_cons_zero, List.set_cons_succ]
      refine wpAnyH_ready (rs := [4]) (by as_aux_lemma => kernel_rfl) (by simp) ?_
      refine AllReadyH.cons rfl (fun KH hKH => ?_) AllReadyH.nil
      refine step_append_run rfl (Operand.tmp 10) (Operand.tmp 13) 49 49 rfl (.slice oa on oc) (.slice (some ⟨Y.heap.size, 0, none⟩) 1 1) rfl rfl hap ?_
      refine hKH.out _ _ qW (fun hHeld4 => ?_)
      clear hKH KH
      try simp only [Act.put, List.setIfInBounds_toArray, List.set_cons_zero, List.set_cons_succ]
      refine wpAnyH_ready (rs := [5]) (by as_aux_lemma => kernel_rfl) (by simp) ?_
      refine AllReadyH.cons rfl (fun KH hKH => ?_) AllReadyH.nil
      go_simp
      refine hKH.out _ _ qS (fun hHeld5 => ?_)
      clear hKH KH
      try simp only [Act.put, List.setIfInBounds_toArray, List.set_cons_zero, List.set_cons_succ]
      refine wpAnyH_done (by as_aux_lemma => kernel_rfl) ?_ _
      clear q0 qY qZ qW qS oX oY oZ o3 f3 hap hcx
      go_wp2_with fail
      go_ret
      exact ⟨rfl, _, Ro2, (unhide FIN).1, Kp.trans (Kp.grown (unhide GB) _) (unhide FIN).2.1, (unhide FIN).2.2.imp id (fun q g e => Nat.le_trans (unhide GB).size (q g e))⟩
end Go.Proofs.Ytnflbefbgcbdfaa
