/- G4N, one text. -/
import Derived.Test.YtggjeamondampaaM4B
namespace Go.Proofs.Ytggjeamondampaa
open Go.RowKit
set_option linter.unusedVariables false
set_option linter.unusedSimpArgs false
set_option maxRecDepth 100000
set_option maxHeartbeats 4000000

theorem rowD_mono {base base' size n : Nat} {e : TypeId} {w : World} {v : Value} {xs : List Value} (h : w.ownsRow base e size v n xs) (hb : base' ≤ base) : w.ownsRow base' e size v n xs := by
  refine ⟨h.1, ?_⟩
  rcases h.2 with h2 | ⟨g, cap, cur, e1, q1, q2⟩
  · exact .inl h2
  · exact .inr ⟨g, cap, cur, e1, Nat.le_trans hb q1, q2⟩
theorem step_build {P : Program} {ops : Array Oper} {o : Oper} {a : Act} {w : World} {K : Act → World → Prop} {Q : Exit → Act → World → Prop} {E : Prop}
    (hg : o.guard = none) (t : TypeId) (parts : Array (Nat × Operand)) (ho : o.op = .build t parts) (C : Array Value) (L : List (Nat × Value)) (hL : (parts.map fun (i, x) => (i, a.eval x)).toList = L) (hf : P.built t L = some C) (hK : K (a.put o.dst (.agg C)) w) :
    if Region.wanted o (yielded ops a.tmps) = true then Oper.wp P o a w K Q else E := by
  have hw : Region.wanted o (yielded ops a.tmps) = true := by simp [Region.wanted, hg]
  rw [if_pos hw]
  exact wp_build t parts ho (by rw [hL, hf]; rfl) (by rw [hL, hf]; exact hK)
theorem bel_of {w W : World} (h : w.grownBy W none) : Below w.heap.size w W := ⟨h.os, h.tape, h.output, h.size, fun i hi => h.block i hi (by simp)⟩
theorem grown_drewM {w W : World} (g : w.grownBy W none) (q : Nat) : w.grownBy (W.drewN q) none := ⟨g.os, g.tape, g.output, g.size, g.block⟩
theorem far_ne {v : Value} {b : Nat} (h : v.ownBlock = none ∨ v.ownBlock ≠ some b) : some b ≠ v.ownBlock := fun e => by
  rcases h with h | h
  · rw [h] at e; cases e
  · exact h e.symm
theorem take_snocD (l : List (Int × Int)) (k : Nat) (h : k < l.length) : l.take (k + 1) = l.take k ++ [l.getD k (0, 0)] := by
  rw [List.take_add_one, List.getElem?_eq_getElem h]
  simp [List.getD, h]
theorem bel_gr {w W : World} (hb : Below w.heap.size w W) : w.grownBy W none := ⟨hb.os, hb.tape, hb.output, hb.size, fun k hk _ => hb.block k hk⟩

theorem lend_of (f : Fr) (a p : Option Addr) (n m c q : Nat) (w : World) (hn : n = f.data.length) (hm : m = f.runs.length)
    (CP : Hid (∀ W, w.grownBy W none → Calls Try.prog 18 #[.agg (f.cs (.slice a n c) (.slice p m q))] W fun e w' => ∃ C2 : Array Value, e = .returned (.agg C2) ∧ Hid (∃ d' r', C2 = f.cs d' r' ∧ OwnB W.heap.size w' d' f.data ∧ OwnR W.heap.size w' r' f.runs ∧ W.grownBy w' none)))
    (hRd : Hid (Rd w a f.data)) (hRR : Hid (RdR w p f.runs)) (nB : n ≤ 100000000) (mB : m ≤ 100000000) :
    Calls Try.prog 10 #[.agg (f.cs (.slice a n c) (.slice p m q))] w fun e w' => ∃ G, e = .returned (.pointer (some ⟨G, 0, none⟩)) ∧ Hid (∃ b lg gf cf gw cw d' r' ra rc, LdI w w' b G lg n gf cf gw cw f (.slice a n c) (.slice p m q) (.slice (some ⟨gf, 0, none⟩) n cf) (.slice (some ⟨ra, 0, none⟩) m rc) d' r' (.slice (some ⟨ra, 0, none⟩) (m + 40) rc) (m + 40)) := by
  obtain ⟨C, hC⟩ : ∃ C, C = f.cs (.slice a n c) (.slice p m q) := ⟨_, rfl⟩
  have C17 : C.size = 17 := by rw [hC]; rfl
  have c3 : C[3]? = some (.slice a n c) := by rw [hC]; rfl
  have HC := hide hC
  rw [← hC] at CP ⊢
  have HN := hide (And.intro hn hm)
  clear hC hn hm
  have B1 := Blk.new w C 26
  have g1 := World.grownBy_alloc w (.cells C 26) none
  go_enter Try.func10, Try.ntmps10
  go_upto_region 1 with fail
  generalize w.alloc (.cells C 26) = W0 at *
  have hb : w.heap.size ≤ w.heap.size := Nat.le_refl _
  have hB0 := B1.lt
  generalize hbb : w.heap.size = b at B1 hB0 ⊢
  have cl : ∀ W, W0.grownBy W none → ∀ j v, C[j]? = some v → W.cell? ⟨b, 0 + j, none⟩ = some v := fun W g j v hv => by rw [Nat.zero_add]; exact (B1.grown g).cell j v hv
  have LD : Hid (∀ W, W0.grownBy W none → Calls Try.prog 20 #[.slice a n c] W fun e w' => ∃ fv wv, e = .returned (.pointer (some ⟨W.heap.size, 0, none⟩)) ∧ Hid (LP W W.heap.size w' W.heap.size n fv wv (n + 80) (n + 80) (lentL f.data) (lentL f.data))) := fun W g => by
    have := lend_any a f.data c W ⟨(unhide hRd).1, fun h => by
      obtain ⟨b, o, e, hc⟩ := (unhide hRd).2 h
      exact ⟨b, o, e, fun i hi => cell_grown (hc i hi) (g1.trans g)⟩⟩ (by rw [← (unhide HN).1]; omega)
    rw [← (unhide HN).1] at this
    exact this
  have HB := hide B1
  go_cut [3] (fun v wc => ∃ G, v = .pointer (some ⟨G, 0, none⟩) ∧ Hid (∃ lg gf cf gw cw d' r', LdI w wc b G lg n gf cf gw cw f (.slice a n c) (.slice p m q) (.slice a n c) (.slice p m q) d' r' nilS 0))
  case first =>
    have gd : W0.grownBy W0.drew none := drew_gr W0
    have FIN : ∀ (W2 : World) (C2 : Array Value) (lg : Nat) (fv wv : Value), W0.grownBy W2 none → Hid (∃ d' r', C2 = f.cs d' r' ∧ OwnB w.heap.size W2 d' f.data ∧ OwnR w.heap.size W2 r' f.runs) → Hid (LP w w.heap.size W2 lg n fv wv (n + 80) (n + 80) (lentL f.data) (lentL f.data)) →
        ∃ C3 : Array Value, Try.prog.built 37 [(0, .agg C), (1, .agg C2), (2, .pointer (some ⟨lg, 0, none⟩))] = some C3 ∧ Hid (∃ lg gf cf gw cw d' r', LdI w (W2.alloc (.cells C3 37)) b W2.heap.size lg n gf cf gw cw f (.slice a n c) (.slice p m q) (.slice a n c) (.slice p m q) d' r' nilS 0) := fun W2 C2 lg fv wv g2 H2 lp => by
      obtain ⟨d', r', e2, o1, o2⟩ := unhide H2
      obtain ⟨gf, cf, rfl, -⟩ := ownsRow_open (unhide lp).full (by omega)
      obtain ⟨gw, cw, rfl, -⟩ := ownsRow_open (unhide lp).was (by omega)
      have gA := World.grownBy_alloc W2 (.cells (loanC f (.slice a n c) (.slice p m q) d' r' (.pointer (some ⟨lg, 0, none⟩)) (.slice none 0 0)) 37) none
      refine ⟨_, by rw [unhide HC, e2]; exact built_loan f _ _ d' r' _, lg, gf, cf, gw, cw, d', r', ⟨?_, Blk.new _ _ _, ?_, ?_, World.ownsRow_nil _ _ _ _, ?_, LP.onN (unhide lp) gA, ⟨by omega, ?_⟩, (g1.trans g2).trans gA⟩⟩
      · have := ((unhide HB).grown g2).grown gA
        rw [unhide HC] at this
        exact this
      · exact World.ownsRow.kept o1 gA (by cases d'.ownBlock <;> simp)
      · exact World.ownsRow.kept o2 gA (by cases r'.ownBlock <;> simp)
      · cases hr : r'.ownBlock with
        | none => exact .inr rfl
        | some x => left; simp [Value.ownBlock]
      · have := g2.size; omega
    refine wp_region_held_drew (S := fun W => W0.grownBy W none) (by kernel_rfl) gd (fun hHeld => ?_)
    refine wpAnyH_take (i := 0) (v := .agg C) rfl (by as_aux_lemma => kernel_rfl) (by as_aux_lemma => kernel_rfl) (by as_aux_lemma => kernel_rfl) (fun _ _ _ h => h) (Or.inl ⟨by rfl, ?_⟩) (by assumption) ?_
    · intro wH hSw
      exact exec_load_at (x := .tmp 1) rfl rfl C17 (cl wH hSw)
    try simp only [Act.put, List.setIfInBounds_toArray, List.set_cons_zero, List.set_cons_succ]
    refine wpAnyH_take (i := 1) (v := .agg C) rfl (by as_aux_lemma => kernel_rfl) (by as_aux_lemma => kernel_rfl) (by as_aux_lemma => kernel_rfl) (fun _ _ _ h => h) (Or.inl ⟨by rfl, ?_⟩) (by assumption) ?_
    · intro wH hSw
      exact exec_load_at (x := .tmp 1) rfl rfl C17 (cl wH hSw)
    try simp only [Act.put, List.setIfInBounds_toArray, List.set_cons_zero, List.set_cons_succ]
    refine wpAnyH_take (i := 3) (v := ?_) rfl (by as_aux_lemma => kernel_rfl) (by as_aux_lemma => kernel_rfl) (by as_aux_lemma => kernel_rfl) (fun _ _ _ h => h) (Or.inl ⟨by rfl, ?_⟩) (by assumption) ?_
    rotate_left
    · intro wH hSw
      try dsimp only at hSw
      go_simp
      try with_reducible rfl
    try simp only [Act.put, List.setIfInBounds_toArray, List.set_cons_zero, List.set_cons_succ]
    refine wpAnyH_take (i := 4) (v := ?_) rfl (by as_aux_lemma => kernel_rfl) (by as_aux_lemma => kernel_rfl) (by as_aux_lemma => kernel_rfl) (fun _ _ _ h => h) (Or.inl ⟨by rfl, ?_⟩) (by assumption) ?_
    rotate_left
    · intro wH hSw
      try dsimp only at hSw
      have y3 := cl wH hSw 3 _ c3
      rw [Nat.zero_add] at y3
      go_simp
      try with_reducible rfl
    try simp only [Act.put, List.setIfInBounds_toArray, List.set_cons_zero, List.set_cons_succ]
    refine wpAnyH_ready (rs := [2]) (by as_aux_lemma => kernel_rfl) (by simp) ?_
    refine AllReadyH.cons rfl (fun KH hKH => ?_) AllReadyH.nil
    · go_simp
      refine (unhide CP _ (g1.trans gd)).mono ?_
      rintro e W1 ⟨C2, rfl, H2⟩
      have h21 : W0.drew.grownBy W1 none := by obtain ⟨_, _, _, _, _, h⟩ := unhide H2; exact h
      have gW1 := gd.trans h21
      refine hKH.out _ _ gW1 (fun hHeld1 => ?_)
      clear hKH KH
      try simp only [Act.put, List.setIfInBounds_toArray, List.set_cons_zero, List.set_cons_succ]
      refine wpAnyH_ready (rs := [5]) (by as_aux_lemma => kernel_rfl) (by simp) ?_
      refine AllReadyH.cons rfl (fun KH hKH => ?_) AllReadyH.nil
      go_simp
      refine (unhide LD W1 gW1).mono ?_
      rintro e W2 ⟨fv, wv, rfl, lp⟩
      have h22 : W1.grownBy W2 none := bel_gr (unhide lp).bel
      have gW2 := gW1.trans h22
      obtain ⟨C3, hb3, F3⟩ := FIN W2 C2 W1.heap.size fv wv gW2 (by
        obtain ⟨d', r', e2, o1, o2, -⟩ := unhide H2
        have hs : w.heap.size ≤ W0.drew.heap.size := (g1.trans gd).size
        exact ⟨d', r', e2, rowD_mono (World.ownsRow.kept o1 h22 (by cases d'.ownBlock <;> simp)) hs, rowD_mono (World.ownsRow.kept o2 h22 (by cases r'.ownBlock <;> simp)) hs⟩) (by
        have hs : w.heap.size ≤ W1.heap.size := (g1.trans gW1).size
        exact ⟨(unhide lp).blk, (unhide lp).full, (unhide lp).was, (unhide lp).sep, (bel_of (g1.trans gW2)), hs⟩)
      refine hKH.out _ _ gW2 (fun hHeld2 => ?_)
      clear hKH KH
      try simp only [Act.put, List.setIfInBounds_toArray, List.set_cons_zero, List.set_cons_succ]
      refine wpAnyH_ready (rs := [6]) (by as_aux_lemma => kernel_rfl) (by simp) ?_
      refine AllReadyH.cons rfl (fun KH hKH => ?_) AllReadyH.nil
      clear FIN CP LD H2 lp cl
      refine step_build rfl 37 _ rfl C3 _ (by simp [Act.eval]) hb3 ?_
      refine hKH.out _ _ gW2 (fun hHeld3 => ?_)
      clear hKH KH
      try simp only [Act.put, List.setIfInBounds_toArray, List.set_cons_zero, List.set_cons_succ]
      refine wpAnyH_ready (rs := [7]) (by as_aux_lemma => kernel_rfl) (by simp) ?_
      refine AllReadyH.cons rfl (fun KH hKH => ?_) AllReadyH.nil
      go_simp
      refine hKH.out _ _ (gW2.trans (World.grownBy_alloc W2 _ none)) (fun hHeld4 => ?_)
      clear hKH KH
      try simp only [Act.put, List.setIfInBounds_toArray, List.set_cons_zero, List.set_cons_succ]
      refine wpAnyH_ready (rs := [8]) (by as_aux_lemma => kernel_rfl) (by simp) ?_
      refine AllReadyH.cons rfl (fun KH hKH => ?_) AllReadyH.nil
      go_simp
      refine hKH.out _ _ (gW2.trans (World.grownBy_alloc W2 _ none)) (fun hHeld5 => ?_)
      clear hKH KH
      try simp only [Act.put, List.setIfInBounds_toArray, List.set_cons_zero, List.set_cons_succ]
      refine wpAnyH_done (by as_aux_lemma => kernel_rfl) ?_ _
      go_wp2_with fail
      go_meet
      exact ⟨_, rfl, F3⟩
  case rest =>
    obtain ⟨G, rfl, H⟩ := hcut
    obtain ⟨lg, gf, cf, gw, cw, d', r', I⟩ := unhide H
    clear H CP LD HB B1 cl hB0 g1 hb c3 C17 HC
    have bt := bytes_any w wc w.heap.size lg n gf cf gw cw _ _ I.lent
    have x34 := I.bG.cell 34 _ (loanC_g f _ _ d' r' _ _).2.2.1
    have x3 := I.bG.cell 3 _ (loanC_g f _ _ d' r' _ _).1
    have xt := I.bG.thaws
    have HI := hide I
    clear I
    go_upto_region 3 with (go_at_call 22; refine bt.mono ?_; rintro e W1 ⟨rfl, qq, rfl⟩)
    have I1 := ((unhide HI).onN (grown_drewM (World.grownBy.refl wc none) qq)).setG 3 (.slice (some ⟨gf, 0, none⟩) n cf) (loanC_3 f _ _ d' r' _ _ _)
    generalize (wc.drewN qq).setCell ⟨G, 3, none⟩ (.slice (some ⟨gf, 0, none⟩) n cf) = W3 at *
    have H3 := hide I1
    clear HI I1 bt x34 x3 xt
    go_wp2_with fail
    go_loopw [4] (fun i wr => ∃ (k : Nat) (v : Value), k ≤ m + 40 ∧ i = .int .i64 k ∧ Hid (LdI w wr b G lg n gf cf gw cw f (.slice a n c) (.slice p m q) (.slice (some ⟨gf, 0, none⟩) n cf) (.slice p m q) d' r' v k)) (fun i _ => m + 40 - (intOf i).toNat)
    case atStart => exact ⟨0, nilS, Nat.zero_le _, rfl, unhide H3⟩
    case round =>
      clear H3
      obtain ⟨k, v, hk, rfl, H⟩ := hrel
      by_cases hlt : k < m + 40
      · have kI : (k : Int) < (m : Int) + 40 := by omega
        have d12 := (unhide H).bb.cell 12 (.slice p m q) rfl
        have tk := take_snocD (lentR f.runs) k (by rw [lentR_length, ← (unhide HN).2]; exact hlt)
        by_cases hkm : k < m
        · have kM : (k : Int) < (m : Int) := by omega
          have kL : k < f.runs.length := by rw [← (unhide HN).2]; exact hkm
          rw [lentR_lo _ _ kL] at tk
          obtain ⟨rb, off, rfl, hcs⟩ := (unhide hRR) (fun e => by rw [e] at kL; simp at kL)
          have z0 := cell_grown (hcs k kL).1 (unhide H).gr
          have z1 := cell_grown (hcs k kL).2 (unhide H).gr
          clear hcs
          generalize f.runs.getD k (0, 0) = xy at *
          obtain ⟨x, y⟩ := xy
          simp only at z0 z1
          go_upto_region 7 with (refine wpList_store_new wr #[.int .i64 0, .int .i64 0] #[.int .i64 (-7), .int .i64 (-9)] wr.heap.size rfl _ _ _ rfl rfl rfl rfl rfl rfl rfl ?_)
          have NB := Blk.new wr #[.int .i64 (-7), .int .i64 (-9)] 81
          have gA := World.grownBy_alloc wr (.cells #[.int .i64 (-7), .int .i64 (-9)] 81) none
          have hnv : v.ownBlock ≠ some wr.heap.size := fun e => by have := (World.ownsRow.lt (unhide H).own _ e).2; omega
          generalize wr.alloc (.cells #[.int .i64 (-7), .int .i64 (-9)] 81) = W1 at *
          have d12' := ((unhide H).bb.grown gA).cell 12 (.slice (some ⟨rb, off, none⟩) m q) rfl
          have z0' := cell_grown z0 gA
          have z1' := cell_grown z1 gA
          have GA := hide gA
          clear d12 z0 z1 gA
          generalize hnb : wr.heap.size = nb at *
          have n0 := NB.cell 0 (.int .i64 (-7)) rfl
          have n1 := NB.cell 1 (.int .i64 (-9)) rfl
          have tw := NB.thaws
          have HNB := hide hnb
          clear hnb
          go_wp2_with fail
          have NB2 : Blk ((W1.setCell ⟨nb, 0, none⟩ (.int .i64 x)).setCell ⟨nb, 1, none⟩ (.int .i64 y)) nb #[.int .i64 x, .int .i64 y] 81 := (NB.setC 0 (.int .i64 x)).setC 1 (.int .i64 y)
          have I2 := (unhide H).onN (grown_set (grown_set (unhide GA) nb 0 (.int .i64 x) (Nat.le_of_eq (unhide HNB))) nb 1 (.int .i64 y) (Nat.le_of_eq (unhide HNB)))
          clear GA HNB
          clear NB n0 n1 tw d12' z0' z1'
          generalize (W1.setCell ⟨nb, 0, none⟩ (.int .i64 x)).setCell ⟨nb, 1, none⟩ (.int .i64 y) = W2 at *
          obtain ⟨va, vc, hv, hkc, -⟩ := row_shape I2.own
          have tl : ((lentR f.runs).take k).length = k := by rw [List.length_take, lentR_length, ← (unhide HN).2]; omega
          rw [tl] at hv hkc
          subst hv
          have gd := drew_gr W2
          have gA := World.grownBy_alloc W2.drew (.cells #[.int .i64 x, .int .i64 y] 81) none
          have gB := gd.trans gA
          obtain ⟨a4, c4, W4, hap, o4, mv4⟩ := app_spanM x y ((I2.onN gd).own) (I2.onN gd).gr.size (by rw [tl]; omega)
          rw [tl] at hap o4 mv4
          have gr4 := mv4.gr
          rw [← tk] at o4
          have hs : W2.drew.heap.size = W2.heap.size := rfl
          rw [hs] at hap
          have IB := I2.onN gB
          have sp4 : r'.ownBlock ≠ (Value.slice a4 (k + 1) c4).ownBlock ∨ r'.ownBlock = none := mv4.far IB.run IB.sep
          have FIN := hide (IB.push (x := x) (y := y) o4 gr4 sp4)
          have e35a := I2.bG.cell 35 _ (loanC_g f _ _ d' r' _ _).2.2.2
          have e35b := (I2.onN (World.grownBy_alloc W2 (.cells #[.int .i64 x, .int .i64 y] 81) none)).bG.cell 35 _ (loanC_g f _ _ d' r' _ _).2.2.2
          have e35c := IB.bG.cell 35 _ (loanC_g f _ _ d' r' _ _).2.2.2
          have nG := row_far IB.bG IB.own (by decide)
          have BG4 : Blk W4 G _ _ := (gr4.block G IB.bG.lt (far_ne nG)).trans IB.bG
          have u35 := BG4.cell 35 _ (loanC_g f _ _ d' r' _ _).2.2.2
          have ut := BG4.thaws
          have x0 := NB2.cell 0 (.int .i64 x) rfl
          have x1 := NB2.cell 1 (.int .i64 y) rfl
          have hnbG : nb ≠ G := fun e => by rw [e] at NB2; have := NB2.symm.trans I2.bG; simp only [Option.some.injEq, Obj.cells.injEq] at this; exact absurd this.2.1 (by decide)
          have NBv : W4.heap[nb]? = some (.cells #[.int .i64 x, .int .i64 y] 81 (0, 0)) := by
            have NBB := NB2.grown gB
            refine (gr4.block nb NBB.lt (fun e => ?_)).trans NBB
            exact hnv e.symm
          have hS0 : W2.drew.cell? ⟨nb, 0, none⟩ = some (.int .i64 x) ∧ W2.drew.cell? ⟨nb, 1, none⟩ = some (.int .i64 y) := ⟨x0, x1⟩
          have hSA : (W2.drew.alloc (.cells #[.int .i64 x, .int .i64 y] 81)).cell? ⟨nb, 0, none⟩ = some (.int .i64 x) ∧ (W2.drew.alloc (.cells #[.int .i64 x, .int .i64 y] 81)).cell? ⟨nb, 1, none⟩ = some (.int .i64 y) := ⟨cell_grown x0 gB, cell_grown x1 gB⟩
          have hS4 : W4.cell? ⟨nb, 0, none⟩ = some (.int .i64 x) ∧ W4.cell? ⟨nb, 1, none⟩ = some (.int .i64 y) := ⟨Blk.cell (cs := #[.int .i64 x, .int .i64 y]) NBv 0 _ rfl, Blk.cell (cs := #[.int .i64 x, .int .i64 y]) NBv 1 _ rfl⟩
          have hSF : (W4.setCell ⟨G, 35, none⟩ (.slice a4 (k + 1) c4)).cell? ⟨nb, 0, none⟩ = some (.int .i64 x) ∧ (W4.setCell ⟨G, 35, none⟩ (.slice a4 (k + 1) c4)).cell? ⟨nb, 1, none⟩ = some (.int .i64 y) := by
            have := Blk.setO (cs := #[.int .i64 x, .int .i64 y]) NBv G 35 (.slice a4 (k + 1) c4) (Ne.symm hnbG)
            exact ⟨this.cell 0 _ rfl, this.cell 1 _ rfl⟩
          have HLT := hide hlt
          clear gd gA gB o4 mv4 gr4 IB sp4 nG BG4 NBv NB2 I2 tl tk hs hlt hk x0 x1 H hkc
          go_wp2_with fail
          refine wp_region_held_drew (S := fun W => W.cell? ⟨nb, 0, none⟩ = some (.int .i64 x) ∧ W.cell? ⟨nb, 1, none⟩ = some (.int .i64 y)) (by kernel_rfl) hS0 (fun hHeld => ?_)
          refine wpAnyH_take (i := 0) (v := ?_) rfl (by as_aux_lemma => kernel_rfl) (by as_aux_lemma => kernel_rfl) (by as_aux_lemma => kernel_rfl) (fun _ _ _ h => h) (Or.inl ⟨by rfl, ?_⟩) (by assumption) ?_
          rotate_left
          · intro wH hSw
            try dsimp only at hSw
            obtain ⟨s1, s2⟩ := hSw
            go_simp
            try with_reducible rfl
          try simp only [Act.put, List.setIfInBounds_toArray, List.set_cons_zero, List.set_cons_succ]
          refine wpAnyH_take (i := 1) (v := ?_) rfl (by as_aux_lemma => kernel_rfl) (by as_aux_lemma => kernel_rfl) (by as_aux_lemma => kernel_rfl) (fun _ _ _ h => h) (Or.inl ⟨by rfl, ?_⟩) (by assumption) ?_
          rotate_left
          · intro wH hSw
            try dsimp only at hSw
            obtain ⟨s1, s2⟩ := hSw
            go_simp
            try with_reducible rfl
          try simp only [Act.put, List.setIfInBounds_toArray, List.set_cons_zero, List.set_cons_succ]
          refine wpAnyH_take (i := 2) (v := ?_) rfl (by as_aux_lemma => kernel_rfl) (by as_aux_lemma => kernel_rfl) (by as_aux_lemma => kernel_rfl) (fun _ _ _ h => h) (Or.inl ⟨by rfl, ?_⟩) (by assumption) ?_
          rotate_left
          · intro wH hSw
            try dsimp only at hSw
            obtain ⟨s1, s2⟩ := hSw
            go_simp
            try with_reducible rfl
          try simp only [Act.put, List.setIfInBounds_toArray, List.set_cons_zero, List.set_cons_succ]
          refine wpAnyH_take (i := 3) (v := ?_) rfl (by as_aux_lemma => kernel_rfl) (by as_aux_lemma => kernel_rfl) (by as_aux_lemma => kernel_rfl) (fun _ _ _ h => h) (Or.inl ⟨by rfl, ?_⟩) (by assumption) ?_
          rotate_left
          · intro wH hSw
            try dsimp only at hSw
            obtain ⟨s1, s2⟩ := hSw
            go_simp
            try with_reducible rfl
          try simp only [Act.put, List.setIfInBounds_toArray, List.set_cons_zero, List.set_cons_succ]
          refine wpAnyH_take (i := 5) (v := ?_) rfl (by as_aux_lemma => kernel_rfl) (by as_aux_lemma => kernel_rfl) (by as_aux_lemma => kernel_rfl) (fun _ _ _ h => h) (Or.inl ⟨by rfl, ?_⟩) (by assumption) ?_
          rotate_left
          · intro wH hSw
            try dsimp only at hSw
            obtain ⟨s1, s2⟩ := hSw
            go_simp
            try with_reducible rfl
          try simp only [Act.put, List.setIfInBounds_toArray, List.set_cons_zero, List.set_cons_succ]
          refine wpAnyH_ready (rs := [4, 6]) (by as_aux_lemma => kernel_rfl) (by simp) ?_
          refine AllReadyH.cons rfl (fun KH hKH => ?_) (AllReadyH.cons rfl (fun KH hKH => ?_) AllReadyH.nil)
          · go_simp
            refine hKH.out _ _ hS0 (fun hHeld4 => ?_)
            clear hKH KH
            try simp only [Act.put, List.setIfInBounds_toArray, List.set_cons_zero, List.set_cons_succ]
            refine wpAnyH_ready (rs := [6]) (by as_aux_lemma => kernel_rfl) (by simp) ?_
            refine AllReadyH.cons rfl (fun KH hKH => ?_) AllReadyH.nil
            go_simp
            refine hKH.out _ _ hSA (fun hHeld6 => ?_)
            clear hKH KH
            try simp only [Act.put, List.setIfInBounds_toArray, List.set_cons_zero, List.set_cons_succ]
            refine wpAnyH_ready (rs := [7]) (by as_aux_lemma => kernel_rfl) (by simp) ?_
            refine AllReadyH.cons rfl (fun KH hKH => ?_) AllReadyH.nil
            refine step_append_run rfl (Operand.tmp 46) (Operand.tmp 48) 23 23 rfl (.slice va k vc) (.slice (some ⟨W2.heap.size, 0, none⟩) 1 1) rfl rfl (hap 23) ?_
            refine hKH.out _ _ hS4 (fun hHeld7 => ?_)
            clear hKH KH
            try simp only [Act.put, List.setIfInBounds_toArray, List.set_cons_zero, List.set_cons_succ]
            refine wpAnyH_ready (rs := [8]) (by as_aux_lemma => kernel_rfl) (by simp) ?_
            refine AllReadyH.cons rfl (fun KH hKH => ?_) AllReadyH.nil
            go_simp
            refine hKH.out _ _ hS4 (fun hHeld8 => ?_)
            clear hKH KH
            try simp only [Act.put, List.setIfInBounds_toArray, List.set_cons_zero, List.set_cons_succ]
            refine wpAnyH_ready (rs := [9]) (by as_aux_lemma => kernel_rfl) (by simp) ?_
            refine AllReadyH.cons rfl (fun KH hKH => ?_) AllReadyH.nil
            go_simp
            refine hKH.out _ _ hS4 (fun hHeld9 => ?_)
            clear hKH KH
            try simp only [Act.put, List.setIfInBounds_toArray, List.set_cons_zero, List.set_cons_succ]
            refine wpAnyH_ready (rs := [10]) (by as_aux_lemma => kernel_rfl) (by simp) ?_
            refine AllReadyH.cons rfl (fun KH hKH => ?_) AllReadyH.nil
            go_simp
            refine hKH.out _ _ hSF (fun hHeld10 => ?_)
            clear hKH KH
            try simp only [Act.put, List.setIfInBounds_toArray, List.set_cons_zero, List.set_cons_succ]
            refine wpAnyH_done (by as_aux_lemma => kernel_rfl) ?_ _
            clear hSA hS4 hSF
            go_wp2_with fail
            exact ⟨⟨k + 1, _, unhide HLT, by go_num, unhide FIN⟩, by simp [intOf]; have := unhide HLT; omega⟩
          · go_simp
            refine hKH.out _ _ hSA (fun hHeld6 => ?_)
            clear hKH KH
            try simp only [Act.put, List.setIfInBounds_toArray, List.set_cons_zero, List.set_cons_succ]
            refine wpAnyH_ready (rs := [4]) (by as_aux_lemma => kernel_rfl) (by simp) ?_
            refine AllReadyH.cons rfl (fun KH hKH => ?_) AllReadyH.nil
            go_simp
            refine hKH.out _ _ hSA (fun hHeld4 => ?_)
            clear hKH KH
            try simp only [Act.put, List.setIfInBounds_toArray, List.set_cons_zero, List.set_cons_succ]
            refine wpAnyH_ready (rs := [7]) (by as_aux_lemma => kernel_rfl) (by simp) ?_
            refine AllReadyH.cons rfl (fun KH hKH => ?_) AllReadyH.nil
            refine step_append_run rfl (Operand.tmp 46) (Operand.tmp 48) 23 23 rfl (.slice va k vc) (.slice (some ⟨W2.heap.size, 0, none⟩) 1 1) rfl rfl (hap 23) ?_
            refine hKH.out _ _ hS4 (fun hHeld7 => ?_)
            clear hKH KH
            try simp only [Act.put, List.setIfInBounds_toArray, List.set_cons_zero, List.set_cons_succ]
            refine wpAnyH_ready (rs := [8]) (by as_aux_lemma => kernel_rfl) (by simp) ?_
            refine AllReadyH.cons rfl (fun KH hKH => ?_) AllReadyH.nil
            go_simp
            refine hKH.out _ _ hS4 (fun hHeld8 => ?_)
            clear hKH KH
            try simp only [Act.put, List.setIfInBounds_toArray, List.set_cons_zero, List.set_cons_succ]
            refine wpAnyH_ready (rs := [9]) (by as_aux_lemma => kernel_rfl) (by simp) ?_
            refine AllReadyH.cons rfl (fun KH hKH => ?_) AllReadyH.nil
            go_simp
            refine hKH.out _ _ hS4 (fun hHeld9 => ?_)
            clear hKH KH
            try simp only [Act.put, List.setIfInBounds_toArray, List.set_cons_zero, List.set_cons_succ]
            refine wpAnyH_ready (rs := [10]) (by as_aux_lemma => kernel_rfl) (by simp) ?_
            refine AllReadyH.cons rfl (fun KH hKH => ?_) AllReadyH.nil
            go_simp
            refine hKH.out _ _ hSF (fun hHeld10 => ?_)
            clear hKH KH
            try simp only [Act.put, List.setIfInBounds_toArray, List.set_cons_zero, List.set_cons_succ]
            refine wpAnyH_done (by as_aux_lemma => kernel_rfl) ?_ _
            clear hSA hS4 hSF
            go_wp2_with fail
            exact ⟨⟨k + 1, _, unhide HLT, by go_num, unhide FIN⟩, by simp [intOf]; have := unhide HLT; omega⟩
        · have kM : ¬ (k : Int) < (m : Int) := by omega
          rw [lentR_hi _ _ (by rw [← (unhide HN).2]; omega) (by rw [← (unhide HN).2]; exact hlt)] at tk
          go_upto_region 7 with (refine wpList_store_new wr #[.int .i64 0, .int .i64 0] #[.int .i64 (-7), .int .i64 (-9)] wr.heap.size rfl _ _ _ rfl rfl rfl rfl rfl rfl rfl ?_)
          have NB := Blk.new wr #[.int .i64 (-7), .int .i64 (-9)] 81
          have gA := World.grownBy_alloc wr (.cells #[.int .i64 (-7), .int .i64 (-9)] 81) none
          have hnv : v.ownBlock ≠ some wr.heap.size := fun e => by have := (World.ownsRow.lt (unhide H).own _ e).2; omega
          generalize wr.alloc (.cells #[.int .i64 (-7), .int .i64 (-9)] 81) = W1 at *
          have d12' := ((unhide H).bb.grown gA).cell 12 (.slice p m q) rfl
          have I2 := (unhide H).onN gA
          clear d12 gA
          generalize wr.heap.size = nb at *
          generalize W1 = W2 at *
          have NB2 := NB
          generalize (-7 : Int) = x at *
          generalize (-9 : Int) = y at *
          obtain ⟨va, vc, hv, hkc, -⟩ := row_shape I2.own
          have tl : ((lentR f.runs).take k).length = k := by rw [List.length_take, lentR_length, ← (unhide HN).2]; omega
          rw [tl] at hv hkc
          subst hv
          have gd := drew_gr W2
          have gA := World.grownBy_alloc W2.drew (.cells #[.int .i64 x, .int .i64 y] 81) none
          have gB := gd.trans gA
          obtain ⟨a4, c4, W4, hap, o4, mv4⟩ := app_spanM x y ((I2.onN gd).own) (I2.onN gd).gr.size (by rw [tl]; omega)
          rw [tl] at hap o4 mv4
          have gr4 := mv4.gr
          rw [← tk] at o4
          have hs : W2.drew.heap.size = W2.heap.size := rfl
          rw [hs] at hap
          have IB := I2.onN gB
          have sp4 : r'.ownBlock ≠ (Value.slice a4 (k + 1) c4).ownBlock ∨ r'.ownBlock = none := mv4.far IB.run IB.sep
          have FIN := hide (IB.push (x := x) (y := y) o4 gr4 sp4)
          have e35a := I2.bG.cell 35 _ (loanC_g f _ _ d' r' _ _).2.2.2
          have e35b := (I2.onN (World.grownBy_alloc W2 (.cells #[.int .i64 x, .int .i64 y] 81) none)).bG.cell 35 _ (loanC_g f _ _ d' r' _ _).2.2.2
          have e35c := IB.bG.cell 35 _ (loanC_g f _ _ d' r' _ _).2.2.2
          have nG := row_far IB.bG IB.own (by decide)
          have BG4 : Blk W4 G _ _ := (gr4.block G IB.bG.lt (far_ne nG)).trans IB.bG
          have u35 := BG4.cell 35 _ (loanC_g f _ _ d' r' _ _).2.2.2
          have ut := BG4.thaws
          have x0 := NB2.cell 0 (.int .i64 x) rfl
          have x1 := NB2.cell 1 (.int .i64 y) rfl
          have hnbG : nb ≠ G := fun e => by rw [e] at NB2; have := NB2.symm.trans I2.bG; simp only [Option.some.injEq, Obj.cells.injEq] at this; exact absurd this.2.1 (by decide)
          have NBv : W4.heap[nb]? = some (.cells #[.int .i64 x, .int .i64 y] 81 (0, 0)) := by
            have NBB := NB2.grown gB
            refine (gr4.block nb NBB.lt (fun e => ?_)).trans NBB
            exact hnv e.symm
          have hS0 : W2.drew.cell? ⟨nb, 0, none⟩ = some (.int .i64 x) ∧ W2.drew.cell? ⟨nb, 1, none⟩ = some (.int .i64 y) := ⟨x0, x1⟩
          have hSA : (W2.drew.alloc (.cells #[.int .i64 x, .int .i64 y] 81)).cell? ⟨nb, 0, none⟩ = some (.int .i64 x) ∧ (W2.drew.alloc (.cells #[.int .i64 x, .int .i64 y] 81)).cell? ⟨nb, 1, none⟩ = some (.int .i64 y) := ⟨cell_grown x0 gB, cell_grown x1 gB⟩
          have hS4 : W4.cell? ⟨nb, 0, none⟩ = some (.int .i64 x) ∧ W4.cell? ⟨nb, 1, none⟩ = some (.int .i64 y) := ⟨Blk.cell (cs := #[.int .i64 x, .int .i64 y]) NBv 0 _ rfl, Blk.cell (cs := #[.int .i64 x, .int .i64 y]) NBv 1 _ rfl⟩
          have hSF : (W4.setCell ⟨G, 35, none⟩ (.slice a4 (k + 1) c4)).cell? ⟨nb, 0, none⟩ = some (.int .i64 x) ∧ (W4.setCell ⟨G, 35, none⟩ (.slice a4 (k + 1) c4)).cell? ⟨nb, 1, none⟩ = some (.int .i64 y) := by
            have := Blk.setO (cs := #[.int .i64 x, .int .i64 y]) NBv G 35 (.slice a4 (k + 1) c4) (Ne.symm hnbG)
            exact ⟨this.cell 0 _ rfl, this.cell 1 _ rfl⟩
          have HLT := hide hlt
          clear gd gA gB o4 mv4 gr4 IB sp4 nG BG4 NBv NB2 I2 tl tk hs hlt hk x0 x1 H hkc
          go_wp2_with fail
          refine wp_region_held_drew (S := fun W => W.cell? ⟨nb, 0, none⟩ = some (.int .i64 x) ∧ W.cell? ⟨nb, 1, none⟩ = some (.int .i64 y)) (by kernel_rfl) hS0 (fun hHeld => ?_)
          refine wpAnyH_take (i := 0) (v := ?_) rfl (by as_aux_lemma => kernel_rfl) (by as_aux_lemma => kernel_rfl) (by as_aux_lemma => kernel_rfl) (fun _ _ _ h => h) (Or.inl ⟨by rfl, ?_⟩) (by assumption) ?_
          rotate_left
          · intro wH hSw
            try dsimp only at hSw
            obtain ⟨s1, s2⟩ := hSw
            go_simp
            try with_reducible rfl
          try simp only [Act.put, List.setIfInBounds_toArray, List.set_cons_zero, List.set_cons_succ]
          refine wpAnyH_take (i := 1) (v := ?_) rfl (by as_aux_lemma => kernel_rfl) (by as_aux_lemma => kernel_rfl) (by as_aux_lemma => kernel_rfl) (fun _ _ _ h => h) (Or.inl ⟨by rfl, ?_⟩) (by assumption) ?_
          rotate_left
          · intro wH hSw
            try dsimp only at hSw
            obtain ⟨s1, s2⟩ := hSw
            go_simp
            try with_reducible rfl
          try simp only [Act.put, List.setIfInBounds_toArray, List.set_cons_zero, List.set_cons_succ]
          refine wpAnyH_take (i := 2) (v := ?_) rfl (by as_aux_lemma => kernel_rfl) (by as_aux_lemma => kernel_rfl) (by as_aux_lemma => kernel_rfl) (fun _ _ _ h => h) (Or.inl ⟨by rfl, ?_⟩) (by assumption) ?_
          rotate_left
          · intro wH hSw
            try dsimp only at hSw
            obtain ⟨s1, s2⟩ := hSw
            go_simp
            try with_reducible rfl
          try simp only [Act.put, List.setIfInBounds_toArray, List.set_cons_zero, List.set_cons_succ]
          refine wpAnyH_take (i := 3) (v := ?_) rfl (by as_aux_lemma => kernel_rfl) (by as_aux_lemma => kernel_rfl) (by as_aux_lemma => kernel_rfl) (fun _ _ _ h => h) (Or.inl ⟨by rfl, ?_⟩) (by assumption) ?_
          rotate_left
          · intro wH hSw
            try dsimp only at hSw
            obtain ⟨s1, s2⟩ := hSw
            go_simp
            try with_reducible rfl
          try simp only [Act.put, List.setIfInBounds_toArray, List.set_cons_zero, List.set_cons_succ]
          refine wpAnyH_take (i := 5) (v := ?_) rfl (by as_aux_lemma => kernel_rfl) (by as_aux_lemma => kernel_rfl) (by as_aux_lemma => kernel_rfl) (fun _ _ _ h => h) (Or.inl ⟨by rfl, ?_⟩) (by assumption) ?_
          rotate_left
          · intro wH hSw
            try dsimp only at hSw
            obtain ⟨s1, s2⟩ := hSw
            go_simp
            try with_reducible rfl
          try simp only [Act.put, List.setIfInBounds_toArray, List.set_cons_zero, List.set_cons_succ]
          refine wpAnyH_ready (rs := [4, 6]) (by as_aux_lemma => kernel_rfl) (by simp) ?_
          refine AllReadyH.cons rfl (fun KH hKH => ?_) (AllReadyH.cons rfl (fun KH hKH => ?_) AllReadyH.nil)
          · go_simp
            refine hKH.out _ _ hS0 (fun hHeld4 => ?_)
            clear hKH KH
            try simp only [Act.put, List.setIfInBounds_toArray, List.set_cons_zero, List.set_cons_succ]
            refine wpAnyH_ready (rs := [6]) (by as_aux_lemma => kernel_rfl) (by simp) ?_
            refine AllReadyH.cons rfl (fun KH hKH => ?_) AllReadyH.nil
            go_simp
            refine hKH.out _ _ hSA (fun hHeld6 => ?_)
            clear hKH KH
            try simp only [Act.put, List.setIfInBounds_toArray, List.set_cons_zero, List.set_cons_succ]
            refine wpAnyH_ready (rs := [7]) (by as_aux_lemma => kernel_rfl) (by simp) ?_
            refine AllReadyH.cons rfl (fun KH hKH => ?_) AllReadyH.nil
            refine step_append_run rfl (Operand.tmp 46) (Operand.tmp 48) 23 23 rfl (.slice va k vc) (.slice (some ⟨W2.heap.size, 0, none⟩) 1 1) rfl rfl (hap 23) ?_
            refine hKH.out _ _ hS4 (fun hHeld7 => ?_)
            clear hKH KH
            try simp only [Act.put, List.setIfInBounds_toArray, List.set_cons_zero, List.set_cons_succ]
            refine wpAnyH_ready (rs := [8]) (by as_aux_lemma => kernel_rfl) (by simp) ?_
            refine AllReadyH.cons rfl (fun KH hKH => ?_) AllReadyH.nil
            go_simp
            refine hKH.out _ _ hS4 (fun hHeld8 => ?_)
            clear hKH KH
            try simp only [Act.put, List.setIfInBounds_toArray, List.set_cons_zero, List.set_cons_succ]
            refine wpAnyH_ready (rs := [9]) (by as_aux_lemma => kernel_rfl) (by simp) ?_
            refine AllReadyH.cons rfl (fun KH hKH => ?_) AllReadyH.nil
            go_simp
            refine hKH.out _ _ hS4 (fun hHeld9 => ?_)
            clear hKH KH
            try simp only [Act.put, List.setIfInBounds_toArray, List.set_cons_zero, List.set_cons_succ]
            refine wpAnyH_ready (rs := [10]) (by as_aux_lemma => kernel_rfl) (by simp) ?_
            refine AllReadyH.cons rfl (fun KH hKH => ?_) AllReadyH.nil
            go_simp
            refine hKH.out _ _ hSF (fun hHeld10 => ?_)
            clear hKH KH
            try simp only [Act.put, List.setIfInBounds_toArray, List.set_cons_zero, List.set_cons_succ]
            refine wpAnyH_done (by as_aux_lemma => kernel_rfl) ?_ _
            clear hSA hS4 hSF
            go_wp2_with fail
            exact ⟨⟨k + 1, _, unhide HLT, by go_num, unhide FIN⟩, by simp [intOf]; have := unhide HLT; omega⟩
          · go_simp
            refine hKH.out _ _ hSA (fun hHeld6 => ?_)
            clear hKH KH
            try simp only [Act.put, List.setIfInBounds_toArray, List.set_cons_zero, List.set_cons_succ]
            refine wpAnyH_ready (rs := [4]) (by as_aux_lemma => kernel_rfl) (by simp) ?_
            refine AllReadyH.cons rfl (fun KH hKH => ?_) AllReadyH.nil
            go_simp
            refine hKH.out _ _ hSA (fun hHeld4 => ?_)
            clear hKH KH
            try simp only [Act.put, List.setIfInBounds_toArray, List.set_cons_zero, List.set_cons_succ]
            refine wpAnyH_ready (rs := [7]) (by as_aux_lemma => kernel_rfl) (by simp) ?_
            refine AllReadyH.cons rfl (fun KH hKH => ?_) AllReadyH.nil
            refine step_append_run rfl (Operand.tmp 46) (Operand.tmp 48) 23 23 rfl (.slice va k vc) (.slice (some ⟨W2.heap.size, 0, none⟩) 1 1) rfl rfl (hap 23) ?_
            refine hKH.out _ _ hS4 (fun hHeld7 => ?_)
            clear hKH KH
            try simp only [Act.put, List.setIfInBounds_toArray, List.set_cons_zero, List.set_cons_succ]
            refine wpAnyH_ready (rs := [8]) (by as_aux_lemma => kernel_rfl) (by simp) ?_
            refine AllReadyH.cons rfl (fun KH hKH => ?_) AllReadyH.nil
            go_simp
            refine hKH.out _ _ hS4 (fun hHeld8 => ?_)
            clear hKH KH
            try simp only [Act.put, List.setIfInBounds_toArray, List.set_cons_zero, List.set_cons_succ]
            refine wpAnyH_ready (rs := [9]) (by as_aux_lemma => kernel_rfl) (by simp) ?_
            refine AllReadyH.cons rfl (fun KH hKH => ?_) AllReadyH.nil
            go_simp
            refine hKH.out _ _ hS4 (fun hHeld9 => ?_)
            clear hKH KH
            try simp only [Act.put, List.setIfInBounds_toArray, List.set_cons_zero, List.set_cons_succ]
            refine wpAnyH_ready (rs := [10]) (by as_aux_lemma => kernel_rfl) (by simp) ?_
            refine AllReadyH.cons rfl (fun KH hKH => ?_) AllReadyH.nil
            go_simp
            refine hKH.out _ _ hSF (fun hHeld10 => ?_)
            clear hKH KH
            try simp only [Act.put, List.setIfInBounds_toArray, List.set_cons_zero, List.set_cons_succ]
            refine wpAnyH_done (by as_aux_lemma => kernel_rfl) ?_ _
            clear hSA hS4 hSF
            go_wp2_with fail
            exact ⟨⟨k + 1, _, unhide HLT, by go_num, unhide FIN⟩, by simp [intOf]; have := unhide HLT; omega⟩
      · obtain rfl : k = m + 40 := by omega
        have kI : ¬ ((m + 40 : Nat) : Int) < (m : Int) + 40 := by omega
        have tl : ((lentR f.runs).take (m + 40)).length = m + 40 := by rw [List.length_take, lentR_length, ← (unhide HN).2]; omega
        obtain ⟨ra, rc, hv, -, -, hrc1, hrc2⟩ := Rl.ownsRow_open (unhide H).own (by rw [tl]; omega)
        rw [tl] at hv hrc1
        subst hv
        unfold maxLen at hrc2
        have d12 := (unhide H).bb.cell 12 (.slice p m q) rfl
        have e35 := (unhide H).bG.cell 35 _ (loanC_g f _ _ d' r' _ _).2.2.2
        have e12 := (unhide H).bG.cell 12 _ (loanC_g f _ _ d' r' _ _).2.1
        have et := (unhide H).bG.thaws
        have FIN := hide (((unhide H).setG 12 (.slice (some ⟨ra, 0, none⟩) m rc) (loanC_12 f _ _ d' r' _ _ _)).onN (drew_gr _))
        clear hk hlt tl H
        go_wp2_with fail
        go_region
        all_goals go_wp2_with fail
        all_goals go_ret
        all_goals exact ⟨G, rfl, b, lg, gf, cf, gw, cw, d', r', ra, rc, unhide FIN⟩
end Go.Proofs.Ytggjeamondampaa
