/- G4Q, P4Kin, one text. -/
import Derived.Test.YtggjeamondampaaM4H
import Derived.Test.YtggjeamondampaaM4I
import Derived.Test.YtggjeamondampaaM4J
import Derived.Test.YtggjeamondampaaM4D
import Derived.ProofKit
import Derived.OpenShut
import Derived.ShutString
import Derived.ChangeOld
import Derived.SizedLaws
import Derived.JoinedCond
import Derived.Deep.CondSized
namespace Go.Proofs.Ytggjeamondampaa
open Go.RowKit
set_option linter.unusedVariables false
set_option linter.unusedSimpArgs false
set_option maxRecDepth 100000
set_option maxHeartbeats 4000000

/-- A list of two frames. -/
theorem wpList_two_frames {ops : Array Oper} {rest : List Oper} {o : Oper} {a : Act} {w : World} {Q : Exit → Act → World → Prop} (hg : o.guard = none) (x y : Operand) (ho : o.op = .buildSlice 47 2 #[(0, x), (1, y)]) (C D : Array Value) (hx : a.eval x = .agg C) (hy : a.eval y = .agg D) (h17 : C.size = 17) (h17' : D.size = 17)
    (h : wpList Try.prog ops Q rest (a.put o.dst (.slice (some ⟨w.heap.size, 0, none⟩) 2 2)) (w.alloc (.cells (C ++ D) 26))) : wpList Try.prog ops Q (o :: rest) a w := by
  obtain ⟨i, hi, hz0, hz1, hz2⟩ := info_parts Try.infoF
  refine wpList_buildSlice hg 47 26 2 #[(0, x), (1, y)] ho (C ++ D) i _ Try.underlying47 hi hz0 (by rw [hz1]; decide) (by rw [hz1]; decide) ?_ h
  rw [hz1]
  have e1 : ((#[(0, x), (1, y)] : Array (Nat × Operand)).map fun (i, x) => (i, a.eval x)).toList = [(0, a.eval x), (1, a.eval y)] := by simp
  rw [e1, hx, hy]
  have := Great.fill_whole (s := 17) (by decide) [.agg C, .agg D] ((Array.range (2 * 17)).map ((Value.agg Z17).cells[· % (Value.agg Z17).cells.size]!)) (by
    intro v hv
    rcases List.mem_cons.1 hv with rfl | hv
    · simpa [Value.cells] using h17
    · obtain rfl := List.mem_singleton.1 hv
      simpa [Value.cells] using h17') (by simp)
  have e2 : C ++ D = (C.toList ++ D.toList).toArray := by apply Array.ext'; simp
  rw [e2]
  simpa [Value.cells] using this

theorem two_cells (x y : FV) (i : Nat) (hi : i < 2) (j : Nat) (v : Value) (h : (([x, y] : List FV).getD i fv0).C[j]? = some v) : (x.C ++ y.C)[i * 17 + j]? = some v := by
  have hs : x.C.size = 17 := x.size
  have hj : j < 17 := by
    have := (Array.getElem?_eq_some_iff.1 h).1
    rcases (by omega : i = 0 ∨ i = 1) with rfl | rfl
    · exact Nat.lt_of_lt_of_eq this x.size
    · exact Nat.lt_of_lt_of_eq this y.size
  rcases (by omega : i = 0 ∨ i = 1) with rfl | rfl
  · rw [Nat.zero_mul, Nat.zero_add, Array.getElem?_append_left (by omega)]; exact h
  · rw [Array.getElem?_append_right (by omega), hs, Nat.one_mul, Nat.add_sub_cancel_left]; exact h

theorem kr_of {f : Fr} {W8 W9 : World} {C2 : Array Value} (bd : ∀ x ∈ f.data, IsB x) (h : ∃ d' r', C2 = f.cs d' r' ∧ OwnB W8.heap.size W9 d' f.data ∧ OwnR W8.heap.size W9 r' f.runs ∧ W8.grownBy W9 none) :
    Calls Try.prog 40 #[.agg C2] W9 (fun e w' => ∃ Cw : Array Value, e = .returned (.tuple #[.agg Cw, .bool (decide (0 < keepS f.kind))]) ∧ Cw.size = 17 ∧ Cw.all (·.oneCell') = true ∧ Hid (∃ dw rw, Cw = (keepF f).cs dw rw ∧ FrR w' (keepF f) dw rw ∧ W9.grownBy w' none)) := by
  obtain ⟨d', r', rfl, h1, h2, -⟩ := h
  obtain ⟨a, c, rfl, q1, q2, q3⟩ := h1.rd bd
  obtain ⟨p, q, rfl, q4, q5, q6⟩ := h2.rd
  refine (keepR_any f a c (.slice p f.runs.length q) W9 rfl).mono ?_
  rintro e w' ⟨d2, r2, rfl, hc, g⟩
  have fr : FrR w' (keepF f) d2 r2 := by
    rcases hc with ⟨hk, rfl, rfl⟩ | ⟨hk, rfl, rfl⟩ | ⟨hk, rfl, rfl⟩
    · have e : keepF f = { f with size := (f.data.length : Int), data := [], tail := false } := by unfold keepF; rw [hk]; rfl
      rw [e]
      exact ⟨⟨none, 0, rfl, ⟨by simp, fun h => absurd rfl h⟩, by simp, by omega⟩, ⟨p, q, rfl, q4.grow g, q5, q6⟩⟩
    · have e : keepF f = f := by unfold keepF; rw [hk]; rfl
      rw [e]
      exact ⟨⟨a, c, rfl, q1.grow g, q2, q3⟩, ⟨p, q, rfl, q4.grow g, q5, q6⟩⟩
    · have e : keepF f = Fr.zero := by unfold keepF; rw [hk]; rfl
      rw [e]
      exact ⟨⟨none, 0, rfl, ⟨by simp [Fr.zero], fun h => absurd rfl h⟩, by simp [Fr.zero], by omega⟩, ⟨none, 0, rfl, fun h => absurd rfl h, by simp [Fr.zero], by omega⟩⟩
  refine ⟨_, rfl, rfl, ?_, d2, r2, rfl, fr, g⟩
  obtain ⟨_, _, e1, -⟩ := fr.data
  obtain ⟨_, _, e2, -⟩ := fr.runs
  exact one17 _ _ _ (by rw [e1]; rfl) (by rw [e2]; rfl)

theorem kinds_walk (f : Fr) (d r : Value) (s : Int) (w : World) (hR : FrR w f d r) (hd : f.data.length ≤ 1048576) (hr : f.runs.length ≤ 1048576) :
    Calls Try.prog 8 #[f.val d r, .int .i64 s] w fun e w' => e = .returned (.bool true) ∧ w.grownBy w' none := by
  obtain ⟨C, hC⟩ : ∃ C, C = f.cs d r := ⟨_, rfl⟩
  have C17 : C.size = 17 := by rw [hC]; rfl
  have iC : (Try.prog.info? 26).map (·.size) = some C.size := by rw [C17]; exact Try.size26
  have eV : f.val d r = .agg C := by rw [hC]
  have B0 := Blk.new w C 26
  have g0 := World.grownBy_alloc w (.cells C 26) none
  have AW := awake_any (w.alloc (.cells C 26))
  have LN := hide (fun W (g : w.grownBy W none) => lendFr_any f d r W (hR.keep g) (by omega) (by omega))
  have CP := hide (fun W (g : w.grownBy W none) => copiedFr_any f d r W (hR.keep g) (by omega) (by omega))
  have ER := hide (fun W => elicR_any f d r W)
  have AR := hide (fun W => allowR_any s f d r W)
  have bd : ∀ x ∈ f.data, IsB x := by obtain ⟨_, _, _, h, -⟩ := hR.data; exact h.1
  have kd : ∀ x ∈ (keepF f).data, IsB x := by unfold keepF; split <;> (try split) <;> first | exact bd | (intro x hx; cases hx)
  have kl : (keepF f).data.length ≤ 1048576 ∧ (keepF f).runs.length ≤ 1048576 := by unfold keepF; split <;> (try split) <;> first | exact ⟨hd, hr⟩ | exact ⟨by simp, hr⟩ | exact ⟨by simp [Fr.zero], by simp [Fr.zero]⟩
  rw [eV] at LN CP ER AR ⊢
  have HB := hide B0
  have HK := hide (And.intro bd (And.intro kd kl))
  clear B0 eV hC hR bd kd kl
  go_enter Try.func8, Try.ntmps8
  go_upto_region 2 with (go_at_call 9; refine AW.mono ?_; rintro e W1 ⟨rfl, g1⟩)
  have b1 := (unhide HB).grown g1
  have ln := unhide LN W1 (g0.trans g1)
  clear AW LN HB
  go_upto_region 3 with (first | (refine wpList_load_row rfl _ _ rfl w.heap.size rfl 26 C (0, 0) _ b1 Try.underlying26 rfl iC ?_) | (go_at_call 10; refine ln.mono ?_; rintro e W2 ⟨G, d1, r1, rfl, H2⟩))
  have g2 := (unhide H2).2
  have L2 := (unhide H2).1
  have b2 := b1.grown g2
  have gT2 := (g0.trans g1).trans g2
  obtain ⟨C1, hC1⟩ : ∃ C1, C1 = f.cs d1 r1 := ⟨_, rfl⟩
  have C117 : C1.size = 17 := by rw [hC1]; rfl
  have eV1 : f.val d1 r1 = .agg C1 := by rw [hC1]
  have CL := hide (fun W (g : W2.grownBy W none) j v (h : C1[j]? = some v) => (L2.keep g).cells j v (by rw [← hC1]; exact h))
  have EL := hide (fun W => eliciting_any f d1 r1 W)
  have AL := hide (fun W => allowed_any s f d1 r1 W)
  have KP := hide (fun W (g : W2.grownBy W none) => keep_folded f d1 r1 W (L2.keep g).fr (by omega) (by omega))
  have KT := hide (fun W (g : W2.grownBy W none) => (L2.keep g).kept)
  rw [eV1] at EL AL KP
  have el := unhide EL W2
  have cl2 := unhide CL W2 (World.grownBy.refl W2 none)
  clear ln b1 H2 L2 EL eV1 hC1
  go_upto_region 4 with (first | (refine wpList_load_at rfl _ rfl G 0 C1 rfl C117 cl2 ?_) | (go_at_call 37; refine el.mono ?_; rintro e W3 ⟨rfl, g3⟩))
  have cl3 := unhide CL W3 g3
  have al := unhide AL W3
  clear el cl2 AL
  go_upto_region 5 with (first | (refine wpList_load_at rfl _ rfl G 0 C1 rfl C117 cl3 ?_) | (go_at_call 38; refine al.mono ?_; rintro e W4 ⟨rfl, g4⟩))
  have g24 := g3.trans g4
  have cl4 := unhide CL W4 g24
  have kp4 := unhide KP W4 g24
  clear al cl3 g3 g4
  go_upto_region 6 with (first | (refine wpList_load_at rfl _ rfl G 0 C1 rfl C117 cl4 ?_) | (go_at_call 39; refine kp4.mono ?_; rintro e W5 ⟨Ca, rfl, Ca17, Ca1, HKa⟩) | (refine wpList_store_new W5 Z17 Ca W5.heap.size rfl _ _ _ rfl rfl rfl rfl (by rw [Ca17]; exact Try.size26) (by rw [Ca17]; rfl) Ca1 ?_))
  have ga := World.grownBy_alloc W5 (.cells Ca 26) none
  have gK5 : W4.grownBy W5 none := by obtain ⟨_, _, _, _, _, h⟩ := unhide HKa; exact h
  have ba := Blk.new W5 Ca 26
  have g26 := (g24.trans gK5).trans ga
  have hba : W2.heap.size ≤ W5.heap.size := (g24.trans gK5).size
  have oa : Hid (∃ d' r', Ca = (keepF f).cs d' r' ∧ OwnB W2.heap.size (W5.alloc (.cells Ca 26)) d' (keepF f).data ∧ OwnR W2.heap.size (W5.alloc (.cells Ca 26)) r' (keepF f).runs) := by
    obtain ⟨d', r', e, h1, h2, -⟩ := unhide HKa
    exact ⟨d', r', e, (h1.mono g24.size).keepN ga, (h2.mono g24.size).keepN ga⟩
  clear kp4 cl4 HKa g24 gK5 ga
  generalize W5.alloc (.cells Ca 26) = W6 at *
  generalize W5.heap.size = na at *
  have cl6 := unhide CL W6 g26
  have kp6 := unhide KP W6 g26
  clear CL KP
  go_upto_region 7 with (first | (refine wpList_load_at rfl _ rfl G 0 C1 rfl C117 cl6 ?_) | (go_at_call 39; refine kp6.mono ?_; rintro e W7 ⟨Cb, rfl, Cb17, Cb1, HKb⟩) | (refine wpList_store_new W7 Z17 Cb W7.heap.size rfl _ _ _ rfl rfl rfl rfl (by rw [Cb17]; exact Try.size26) (by rw [Cb17]; rfl) Cb1 ?_))
  have gb := World.grownBy_alloc W7 (.cells Cb 26) none
  have gK7 : W6.grownBy W7 none := by obtain ⟨_, _, _, _, _, h⟩ := unhide HKb; exact h
  have bb := Blk.new W7 Cb 26
  have gab := gK7.trans gb
  have ba8 := ba.grown gab
  have g28 := g26.trans gab
  have hW6 := g26.size
  have ob : Hid (∃ da ra db rb, Ca = (keepF f).cs da ra ∧ Cb = (keepF f).cs db rb ∧ OwnB W2.heap.size (W7.alloc (.cells Cb 26)) da (keepF f).data ∧ OwnR W2.heap.size (W7.alloc (.cells Cb 26)) ra (keepF f).runs ∧ OwnB W2.heap.size (W7.alloc (.cells Cb 26)) db (keepF f).data ∧ OwnR W2.heap.size (W7.alloc (.cells Cb 26)) rb (keepF f).runs ∧ Bg.sepV da db ∧ Bg.sepV ra rb) := by
    obtain ⟨da, ra, ea, h1, h2⟩ := unhide oa
    obtain ⟨db, rb, eb, h3, h4, -⟩ := unhide HKb
    refine ⟨da, ra, db, rb, ea, eb, h1.keepN gab, h2.keepN gab, (h3.mono hW6).keepN gb, (h4.mono hW6).keepN gb, ?_, ?_⟩
    · unfold Bg.sepV
      cases hv : da.ownBlock with
      | none => exact .inl rfl
      | some k =>
        right
        intro e
        have q1 := (World.ownsRow.lt h1 k hv).2
        have q2 := (World.ownsRow.lt h3 k e.symm).1
        omega
    · unfold Bg.sepV
      cases hv : ra.ownBlock with
      | none => exact .inl rfl
      | some k =>
        right
        intro e
        have q1 := (World.ownsRow.lt h2 k hv).2
        have q2 := (World.ownsRow.lt h4 k e.symm).1
        omega
  have b8 := b2.grown g28
  clear kp6 cl6 HKb gK7 gb gab oa ba b2 g26 hW6
  generalize W7.alloc (.cells Cb 26) = W8 at *
  generalize W7.heap.size = nb at *
  have cp := unhide CP W8 (gT2.trans g28)
  clear CP
  have KR := hide (fun W a2 c2 r2 (h : r2.oneCell' = true) => keepR_any f a2 c2 r2 W h)
  go_upto_region 8 with (first | (refine wpList_load_row rfl _ _ rfl w.heap.size rfl 26 C (0, 0) _ b8 Try.underlying26 rfl iC ?_) | (go_at_call 18; refine cp.mono ?_; rintro e W9 ⟨C2, rfl, HC2⟩; have kr : Calls Try.prog 40 #[.agg C2] W9 (fun e w' => ∃ Cw : Array Value, e = .returned (.tuple #[.agg Cw, .bool (decide (0 < keepS f.kind))]) ∧ Cw.size = 17 ∧ Cw.all (·.oneCell') = true ∧ Hid (∃ dw rw, Cw = (keepF f).cs dw rw ∧ FrR w' (keepF f) dw rw ∧ W9.grownBy w' none)) := kr_of (unhide HK).1 (unhide HC2)) | (go_at_call 40; refine kr.mono ?_; rintro e W10 ⟨Cw, rfl, Cw17, Cw1, HKw⟩) | (refine wpList_store_new W10 Z17 Cw W10.heap.size rfl _ _ _ rfl rfl rfl rfl (by rw [Cw17]; exact Try.size26) (by rw [Cw17]; rfl) Cw1 ?_))
  have gw := World.grownBy_alloc W10 (.cells Cw 26) none
  have gC : W8.grownBy W9 none := by obtain ⟨_, _, _, _, _, h⟩ := unhide HC2; exact h
  have gK : W9.grownBy W10 none := by obtain ⟨_, _, _, _, h⟩ := unhide HKw; exact h
  have bw := Blk.new W10 Cw 26
  have g811 := (gC.trans gK).trans gw
  have ba11 := ba8.grown g811
  have bb11 := bb.grown g811
  have b11 := b8.grown g811
  have g211 := g28.trans g811
  have oab : Hid (∃ da ra db rb dw rw, Ca = (keepF f).cs da ra ∧ Cb = (keepF f).cs db rb ∧ Cw = (keepF f).cs dw rw ∧ OwnB W2.heap.size (W10.alloc (.cells Cw 26)) da (keepF f).data ∧ OwnR W2.heap.size (W10.alloc (.cells Cw 26)) ra (keepF f).runs ∧ OwnB W2.heap.size (W10.alloc (.cells Cw 26)) db (keepF f).data ∧ OwnR W2.heap.size (W10.alloc (.cells Cw 26)) rb (keepF f).runs ∧ Bg.sepV da db ∧ Bg.sepV ra rb ∧ FrR (W10.alloc (.cells Cw 26)) (keepF f) dw rw) := by
    obtain ⟨da, ra, db, rb, ea, eb, h1, h2, h3, h4, h5, h6⟩ := unhide ob
    obtain ⟨dw, rw, ew, h7, -⟩ := unhide HKw
    exact ⟨da, ra, db, rb, dw, rw, ea, eb, ew, h1.keepN g811, h2.keepN g811, h3.keepN g811, h4.keepN g811, h5, h6, h7.keep gw⟩
  clear cp KR HC2 HKw ob gC gK gw g811 ba8 bb b8 g28
  generalize W10.alloc (.cells Cw 26) = W11 at *
  generalize W10.heap.size = nw at *
  have iA : (Try.prog.info? 26).map (·.size) = some Ca.size := by rw [Ca17]; exact Try.size26
  have iB : (Try.prog.info? 26).map (·.size) = some Cb.size := by rw [Cb17]; exact Try.size26
  have iW : (Try.prog.info? 26).map (·.size) = some Cw.size := by rw [Cw17]; exact Try.size26
  have er := unhide ER W11
  clear ER
  go_upto_region 9 with (first | (refine wpList_load_row rfl _ _ rfl w.heap.size rfl 26 C (0, 0) _ b11 Try.underlying26 rfl iC ?_) | (go_at_call 41; refine er.mono ?_; rintro e W12 ⟨rfl, g12⟩))
  have b12 := b11.grown g12
  have ar := unhide AR W12
  clear AR er
  go_upto_region 10 with (first | (refine wpList_load_row rfl _ _ rfl w.heap.size rfl 26 C (0, 0) _ b12 Try.underlying26 rfl iC ?_) | (go_at_call 42; refine ar.mono ?_; rintro e W13 ⟨rfl, g13⟩))
  have g1113 := g12.trans g13
  have a13 := ba11.grown g1113
  have bb13 := bb11.grown g1113
  have w13 := bw.grown g1113
  have s1 : Hid (∀ W, W11.grownBy W none → (Calls Try.prog 25 #[.agg Ca, .agg Cw] W fun e w' => e = .returned (.bool true) ∧ W.grownBy w' none) ∧ (Calls Try.prog 25 #[.agg Cb, .agg Cw] W fun e w' => e = .returned (.bool true) ∧ W.grownBy w' none)) := fun W g => by
    obtain ⟨da, ra, db, rb, dw, rw, ea, eb, ew, h1, h2, h3, h4, h5, h6, h7⟩ := unhide oab
    rw [ea, eb, ew]
    have fw := h7.keep g
    exact ⟨same_fr (keepF f) _ _ _ _ W (FrR.own (h1.keepN g) (h2.keepN g) (unhide HK).2.1) fw, same_fr (keepF f) _ _ _ _ W (FrR.own (h3.keepN g) (h4.keepN g) (unhide HK).2.1) fw⟩
  have sa := (unhide s1 W13 g1113).1
  clear ar b11 b12
  go_upto_region 11 with (first | (refine wpList_load_row rfl _ _ rfl na rfl 26 Ca (0, 0) _ a13 Try.underlying26 rfl iA ?_) | (refine wpList_load_row rfl _ _ rfl nw rfl 26 Cw (0, 0) _ w13 Try.underlying26 rfl iW ?_) | (go_at_call 25; refine sa.mono ?_; rintro e W14 ⟨rfl, g14⟩))
  have g1114 := g1113.trans g14
  have bb14 := bb13.grown g14
  have w14 := w13.grown g14
  have sb := (unhide s1 W14 g1114).2
  clear sa s1 a13 bb13 w13
  go_upto_region 12 with (first | (refine wpList_load_row rfl _ _ rfl nb rfl 26 Cb (0, 0) _ bb14 Try.underlying26 rfl iB ?_) | (refine wpList_load_row rfl _ _ rfl nw rfl 26 Cw (0, 0) _ w14 Try.underlying26 rfl iW ?_) | (go_at_call 25; refine sb.mono ?_; rintro e W15 ⟨rfl, g15⟩))
  have g1115 := g1114.trans g15
  have kt := unhide KT W15 (g211.trans g1115)
  clear sb bb14 w14
  go_upto_region 13 with (go_at_call 15; refine kt.mono ?_; rintro e W16 ⟨rfl, g16⟩)
  have g1116 := g1115.trans g16
  have g216 := g211.trans g1116
  have a16 := ba11.grown g1116
  have b16 := bb11.grown g1116
  clear kt
  have n1 : ∀ b : Bool, (b != b) = false := fun b => by cases b <;> rfl
  generalize elicF f.kind = e1 at *
  generalize allowF s f.kind f.own = e2 at *
  generalize decide (0 < keepS f.kind) = e3 at *
  have ne1 := n1 e1
  have ne2 := n1 e2
  have ne3 := n1 e3
  clear n1
  go_upto_region 15 with fail
  have AP : Calls Try.prog 27 #[.slice (some ⟨W16.heap.size, 0, none⟩) 2 2] (W16.alloc (.cells (Ca ++ Cb) 26)) fun e w' => e = .returned (.bool true) ∧ Below W2.heap.size (W16.alloc (.cells (Ca ++ Cb) 26)) w' := by
    obtain ⟨da, ra, db, rb, dw, rw, ea, eb, ew, h1, h2, h3, h4, h5, h6, h7⟩ := unhide oab
    have gA := World.grownBy_alloc W16 (.cells (Ca ++ Cb) 26) none
    have gB := g1116.trans gA
    have hN := Blk.new W16 (Ca ++ Cb) 26
    obtain ⟨x, hx⟩ : ∃ x : FV, x = ⟨keepF f, da, ra⟩ := ⟨_, rfl⟩
    obtain ⟨y, hy⟩ : ∃ y : FV, y = ⟨keepF f, db, rb⟩ := ⟨_, rfl⟩
    have ex : Ca = x.C := by rw [hx, ea]
    have ey : Cb = y.C := by rw [hy, eb]
    have frx : OwnB W2.heap.size (W16.alloc (.cells (Ca ++ Cb) 26)) x.d x.f.data ∧ OwnR W2.heap.size (W16.alloc (.cells (Ca ++ Cb) 26)) x.r x.f.runs := by rw [hx]; exact ⟨h1.keepN gB, h2.keepN gB⟩
    have fry : OwnB W2.heap.size (W16.alloc (.cells (Ca ++ Cb) 26)) y.d y.f.data ∧ OwnR W2.heap.size (W16.alloc (.cells (Ca ++ Cb) 26)) y.r y.f.runs := by rw [hy]; exact ⟨h3.keepN gB, h4.keepN gB⟩
    have xl : x.f.data.length ≤ 1048576 ∧ x.f.runs.length ≤ 1048576 ∧ ∀ z ∈ x.f.data, IsB z := by rw [hx]; exact ⟨(unhide HK).2.2.1, (unhide HK).2.2.2, (unhide HK).2.1⟩
    have yl : y.f.data.length ≤ 1048576 ∧ y.f.runs.length ≤ 1048576 ∧ ∀ z ∈ y.f.data, IsB z := by rw [hy]; exact ⟨(unhide HK).2.2.1, (unhide HK).2.2.2, (unhide HK).2.1⟩
    have sd : Bg.sepV x.d y.d := by rw [hx, hy]; exact h5
    have sr : Bg.sepV x.r y.r := by rw [hx, hy]; exact h6
    refine (apartFr_any W2.heap.size 2 2 _ [x, y] _ rfl (by omega) (by omega) ((g216.trans gA).size) ⟨fun z hz => ?_, fun _ => ⟨W16.heap.size, 0, rfl, fun i hi j v hv => ?_⟩⟩ ⟨fun z hz => ?_, fun z hz => ?_, by simp [sd], by simp [sr]⟩ ⟨by omega, by omega⟩).mono (fun e w' ⟨h, hb, _⟩ => ⟨h, hb⟩)
    · rcases List.mem_cons.1 hz with rfl | hz
      · exact FrR.own frx.1 frx.2 xl.2.2
      · obtain rfl := List.mem_singleton.1 hz
        exact FrR.own fry.1 fry.2 yl.2.2
    · rw [Nat.zero_add]
      refine hN.cell _ v ?_
      rw [ex, ey]
      exact two_cells x y i hi j v hv
    · rcases List.mem_cons.1 hz with rfl | hz
      · exact ⟨frx.1, by omega⟩
      · obtain rfl := List.mem_singleton.1 hz
        exact ⟨fry.1, by omega⟩
    · rcases List.mem_cons.1 hz with rfl | hz
      · exact ⟨frx.2, by omega⟩
      · obtain rfl := List.mem_singleton.1 hz
        exact ⟨fry.2, by omega⟩
  clear oab ba11 bb11 bw
  go_upto_region 16 with (first | (refine wpList_load_row rfl _ _ rfl na rfl 26 Ca (0, 0) _ a16 Try.underlying26 rfl iA ?_) | (refine wpList_load_row rfl _ _ rfl nb rfl 26 Cb (0, 0) _ b16 Try.underlying26 rfl iB ?_) | (refine wpList_two_frames rfl _ _ rfl Ca Cb rfl rfl Ca17 Cb17 ?_) | (go_at_call 27; refine AP.mono ?_; rintro e W18 ⟨rfl, bl18⟩))
  have g218 : W2.grownBy W18 none := by
    have gA := World.grownBy_alloc W16 (.cells (Ca ++ Cb) 26) none
    exact bel_gr ((bel_of (g216.trans gA)).trans bl18)
  have kt := unhide KT W18 g218
  clear AP bl18 KT
  go_upto_region 17 with (go_at_call 15; refine kt.mono ?_; rintro e W19 ⟨rfl, g19⟩)
  have FIN := (gT2.trans g218).trans g19
  clear kt
  go_wp2_with fail
  go_ret
  exact ⟨rfl, FIN⟩
end Go.Proofs.Ytggjeamondampaa

namespace Go.Proofs.Ytggjeamondampaa
open Go.ChangeShapes Go.WideShapes Go.ChangeAt Go.RowKit
set_option linter.unusedVariables false
set_option maxRecDepth 100000
namespace frameKindsFrame

theorem own : ownKnob Try.prog.godebug = none := by kernel_rfl
theorem laidOut : laidOutB Try.prog = true := by kernel_rfl

set_option maxRecDepth 100000 in
theorem lifted (os : Os) (started : os.Started) (H : Type) (enc : TypeId × Value → H) (F : Stop.Interp) :
    ReturnsInHanded {} Try.checked os 8 .any ((Rows.OpenSpec.upto Rows.frameKindsSpec).pre6 enc Try.prog Try.f8 Rows.frameKindsUptoRow.domain false) (((Rows.OpenSpec.upto Rows.frameKindsSpec).at F).post enc Try.prog Try.f8 false true false false) := by
  refine returnsInHanded_of_cond_sized (C := Try.checked) (s := Rows.OpenSpec.upto Rows.frameKindsSpec) (k := Rows.uptoSmall) rfl own started (by kernel_rfl) Try.func8
    (OpenSpec.witness (enc := enc) (C := Try.checked) (s := Rows.OpenSpec.upto Rows.frameKindsSpec) (k := Rows.uptoSmall) rfl false ⟨#[], #[.agg #[.int .i64 0, .int .i64 0, .int .i64 0, .slice none 0 0, .int .i64 0, .bool false, .bool false, .int .i64 0, .bool false, .int .i64 0, .bool false, .int .i64 0, .slice none 0 0, .bool false, .int .i64 0, .int .i64 0, .int .i64 0], .int .i64 0], []⟩ 8 (by kernel_rfl) (by kernel_rfl) (by kernel_rfl)
      (x := ([.agg [.lit (.int .i64 0), .lit (.int .i64 0), .lit (.int .i64 0), .nil, .lit (.int .i64 0), .lit (.bool false), .lit (.bool false), .lit (.int .i64 0), .lit (.bool false), .lit (.int .i64 0), .lit (.bool false), .lit (.int .i64 0), .nil, .lit (.bool false), .agg [.lit (.int .i64 0), .lit (.int .i64 0), .lit (.int .i64 0)]], .lit (.int .i64 0)], [], [])) (by kernel_rfl) rfl (by kernel_rfl)) ?_
  intro W base args ds gs before hval0 hW hcnd hk hsz0 _
  have hsz : (DataW.weightsEach Try.prog (Try.f8.params.toList ++ (Rows.OpenSpec.upto Rows.frameKindsSpec).bare.plain.varTypes Try.prog) (ds ++ gs)).all (· ≤ reachBytes) = true := hsz0
  have hval : ∀ (j : Nat) t v, Try.f8.params[j]? = some t → args[j]? = some v → Value.okWide Try.prog W .any base t v := hval0
  have hW' := hW
  obtain ⟨p, q, hA0, hV, rfl, hfz, hnd⟩ := hW
  have hA : DataW.TrodAll enc Try.prog W 0 (fun _ => true) true Try.f8.params.toList args.toList ds p := hA0
  rw [Try.params8] at hA hval hsz
  obtain ⟨v0, vs0, d0, ds0, p0, q0, hargs, rfl, rfl, h0, r0⟩ := trodAll_cons hA
  obtain ⟨v1, vs1, d1, ds1, p1, q1, rfl, rfl, rfl, h1, r1⟩ := trodAll_cons r0
  obtain ⟨rfl, rfl, rfl⟩ := trodAll_nil r1
  obtain rfl : args = #[v0, v1] := by cases args; simp_all
  obtain ⟨rfl, rfl⟩ := trodVars_none hV
  have k0 := h0
  have lt0 : ∀ x ∈ p0, x.block < W.heap.size := by obtain ⟨m, hm⟩ := k0; exact DataW.trod_lt m _ _ _ hm
  obtain ⟨P0, x0, y0, rfl, i0, j0, l0, m0, n0, b0, c0⟩ := open_frame (hval 0 26 v0 rfl rfl) h0 (fun n hn => List.all_eq_true.1 hsz n (DataW.weights_mem_each (j := 0) rfl rfl n hn))
  have bk0 : P0.data.length ≤ 1048576 := Nat.le_trans b0 (bulk_mem hk (d := d0) (by simp))
  have ck0 : P0.runs.length ≤ 1048576 := Nat.le_trans c0 (bulk_mem hk (d := d0) (by simp))
  have k1 := h1
  have lt1 : ∀ x ∈ p1, x.block < W.heap.size := by obtain ⟨m, hm⟩ := k1; exact DataW.trod_lt m _ _ _ hm
  obtain ⟨a1, rfl, rfl, rfl, w1⟩ := open_int Try.underlying3 (hval 1 3 v1 rfl rfl) h1
  clear hA0 hval0
  refine (kinds_walk P0 x0 y0 a1 W (FrR.of i0 j0) bk0 ck0).mono fun e W' ⟨he, gr⟩ => ?_
  have bel := grown_bel gr
  subst he
  exact ⟨_, rfl, _, _, _, [], _, [], hW', trodAll_mk1 (shut_bool Try.underlying4 _), (trodAll_cons_mk (Below.trod laidOut (by kernel_rfl) (of_decide_eq_true (by kernel_rfl)) k0 bel lt0) (trodAll_cons_mk (shut_int Try.underlying3 w1) trodAll_mk0)), rfl, bel.frame _, fun h => by cases h⟩

theorem over : Rows.frameKindsUptoRow.holds Try.pinned (Rows.OpenSpec.upto Rows.frameKindsSpec) :=
  OpenClaim.holds_of_cond 8 Try.f8 rfl rfl rfl rfl rfl rfl rfl ⟨rfl, rfl, rfl, rfl, rfl⟩ rfl rfl rfl rfl rfl (by kernel_rfl) Try.func8 (by kernel_rfl)
    (of_decide_eq_true (by kernel_rfl)) (by unfold Func.isWrapper; first | (rw [if_pos (by decide +kernel)]; kernel_rfl) | (rw [if_neg (by decide +kernel)]; exact ⟨rfl, rfl⟩))
    (fun os started H enc _ F => lifted os started H enc F)
end frameKindsFrame

/-- THE STATEMENT -/
theorem frameKinds_holds : Rows.FrameKindsUptoSaid := frameKindsFrame.over
end Go.Proofs.Ytggjeamondampaa
