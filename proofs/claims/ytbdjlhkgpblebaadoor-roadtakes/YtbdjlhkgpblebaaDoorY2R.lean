/- Road: Take. -/
import Derived.Test.YtbdjlhkgpblebaaDoorY2Q
namespace Go.Proofs.YtbdjlhkgpblebaaDoor
open Go.RowKit Go.Shelf Go.Maps
set_option linter.unusedVariables false
set_option linter.unusedSimpArgs false
set_option maxRecDepth 100000
set_option maxHeartbeats 1000000
theorem mk_fl (n : Nat) (h : n ≤ 4096) (W : World) : ∃ cur : Array Value, (Instr.makeSlice 28 (.int .i64 0) (.int .i64 (n : Int))).run Tryd.prog W = .ok (.slice (some ⟨W.heap.size, 0, none⟩) 0 n) (W.alloc (.cells cur 35)) ∧ cur.size = n * 5 := by
  obtain ⟨i, hi, hz, hs, hb⟩ := info_parts Tryd.infoFl
  have := run_make (P := Tryd.prog) W 28 35 i _ Tryd.underlying28 hi hz .i64 .i64 0 n (by omega) (by omega) (by rw [hb]; omega) (by omega)
  refine ⟨_, this, ?_⟩
  simp [madeCells, hs]
theorem wpList_mkF {ops : Array Oper} {rest : List Oper} {o : Oper} {a : Act} {Q : Exit → Act → World → Prop} (w : World) (hg : o.guard = none) (t : TypeId) (l c : Operand) (hop : o.op = Op.makeSlice t l c) (lv cv : Value)
    (hl : a.eval l = lv) (hc : a.eval c = cv) {v' : Value} {w' : World} (hr : (Instr.makeSlice t lv cv).run Tryd.prog w = .ok v' w') (hK : wpList Tryd.prog ops Q rest (a.put o.dst v') w') : wpList Tryd.prog ops Q (o :: rest) a w := by
  refine wpList_plain hg fun K hK' => ?_
  unfold Oper.wp
  simp [execOp, hop, hl, hc, hr, Result.andThen]
  exact hK' _ _ hK

section
variable {b : Nat} {w : World} {S : Nat → Prop} {r : Nat} {R : Rs}

theorem sorted_strict {P due : List Gm} (hp : P.Perm due) (hs : P.Pairwise (fun x y => ¬ ltG y x)) (hd : due.Pairwise (fun x y => x.id < y.id)) : P.Pairwise ltG := by
  have h1 : due.Pairwise (fun x y => x.id ≠ y.id) := hd.imp (fun h => by omega)
  have h2 : P.Pairwise (fun x y => x.id ≠ y.id) := (hp.pairwise_iff (R := fun x y : Gm => x.id ≠ y.id) (fun h => Ne.symm h)).2 h1
  refine (hs.and h2).imp (fun {x y} h => ?_)
  obtain ⟨a, c⟩ := h
  unfold ltG at *
  omega
/-- Behind the first loop: a row is made, those that have arrived are sorted. -/
theorem take_sort {n1 k ac : Nat} {aa : Option Addr} {wr : World} {R1 : Rs} {due : List Gm} (h : MidP b w S n1 r R1 due aa k ac wr) (hok : ∀ g ∈ due, g.Ok) (hd : due.Pairwise (fun x y => x.id < y.id)) (hk : k ≤ 4096) :
    ∃ cur : Array Value, (Instr.makeSlice 28 (.int .i64 0) (.int .i64 (k : Int))).run Tryd.prog wr = .ok (.slice (some ⟨wr.heap.size, 0, none⟩) 0 k) (wr.alloc (.cells cur 35)) ∧
      Calls Tryd.prog 25 #[.slice aa k ac] (wr.alloc (.cells cur 35)) fun e W6 => e = .returned (.slice aa k ac) ∧ Hid (∃ P S2, P.Perm due ∧ P.Pairwise ltG ∧ P.length = k ∧ (∀ g ∈ P, g.Ok) ∧ (∃ Z, T2I b w S S2 r R1 n1 Z P aa ac 0 W6 (some ⟨wr.heap.size, 0, none⟩) k)) := by
  obtain ⟨arr, S2, al, ap, ro, ri, st, n0, n1', na⟩ := h
  subst al
  obtain ⟨cur, hrun, csz⟩ := mk_fl arr.length hk wr
  refine ⟨cur, hrun, ?_⟩
  have g5 : wr.grownBy (wr.alloc (.cells cur 35)) none := World.grownBy_alloc wr _ none
  have ro5 := rows_kept ro (w' := wr.alloc (.cells cur 35)) (fun i e => g5.block i (ro.lt i e).2 (by simp))
  refine (order_any n1 _ _ arr ro5 (by omega)).mono ?_
  rintro e W6 ⟨rfl, P, hP, hs, ro6, gr6⟩
  have lP : P.length = arr.length := hP.length_eq
  have hPd := hP.trans ap
  refine ⟨rfl, P, S2, hPd, sorted_strict hPd hs hd, lP, fun g hg => hok g (hPd.mem_iff.1 hg), wr.heap.size, ⟨⟨[], by simp, rfl, ?_, by simp⟩, ?_, ?_, ?_, ⟨st.kp.size, ?_⟩, fun g hg => (ri.lt g hg).2, fun g e => (ro.lt g (by rw [← lP]; exact e)).2⟩⟩
  · refine ⟨rfl, .inr ⟨wr.heap.size, arr.length, cur, rfl, Nat.le_refl _, ?_, Nat.zero_le _, by unfold maxLen; omega, csz, by simp [clF]⟩⟩
    refine (gr6.block wr.heap.size (by rw [alloc_size]; omega) (fun e => by have := (ro.lt _ e.symm).2; omega)).trans ?_
    exact heap_alloc_new wr _
  · exact (ri.grown g5).other (S2 := fun j => (Value.slice aa arr.length ac).ownBlock = some j) ⟨gr6.os, gr6.tape, gr6.output, gr6.size, fun j h1 h2 => gr6.block j h1 (fun e => h2 e.symm)⟩ (fun j hj e => na j e hj)
  · rw [← lP] at ro6; exact ro6
  · refine ⟨⟨gr6.os.trans (g5.os.trans st.kp.os), gr6.tape.trans (g5.tape.trans st.kp.tape), gr6.output.trans (g5.output.trans st.kp.output), Nat.le_trans st.kp.size (Nat.le_trans g5.size gr6.size), fun j h1 h2 => ?_⟩, st.up, st.dn⟩
    have := st.kp.size
    have := g5.size
    exact (gr6.block j (by omega) (fun e => by have := (ro.lt j e.symm).1; omega)).trans ((g5.block j (by omega) (by simp)).trans (st.kp.block j h1 h2))
  · exact Nat.le_trans g5.size gr6.size

theorem take_any (h : RI b w S r R) (ht : Tb w) (hb0 : 0 < b) (t : Int) (hnx : R.nx ≤ 4611686018427387904) :
    Calls Tryd.prog 11 #[ptr r, .int .i64 t] w (TakeP b w S r R t) := by
  have ps := pass_ri h t
  obtain ⟨R1, hR1⟩ : ∃ R1, R1 = passS R t := ⟨_, rfl⟩
  have eT : takeS R t = { R1 with B := lateB R1.B R1.now } := by rw [hR1]; rfl
  have eB : R1.B = R.B ∧ R1.now = adv R.now t ∧ R1.nx = R.nx := by rw [hR1]; exact ⟨rfl, rfl, rfl⟩
  rw [← hR1] at ps
  have hSl := h.lt
  have hRlt := h.b4
  have HSL := hide (And.intro hSl (And.intro ht (And.intro hb0 (And.intro hnx (And.intro eT (And.intro eB hRlt))))))
  clear h ht hSl hb0 hR1 hnx eT eB hRlt
  go_enter Tryd.func11, Tryd.ntmps11
  go_wp2_with fail
  refine ps.mono ?_
  rintro e w1 ⟨rfl, q, st⟩
  obtain ⟨W, mb, vl, vf, Sw, c, T, A, LY, FR, h1, h2, h3, h4⟩ := q.ex
  obtain ⟨hSl, ht, hb0, hnx, eT, eB, hR⟩ := unhide HSL
  have ht1 : Tb w1 := ht.kept (st.kp.block 0 ht.lt (fun hs => by have := (hSl 0 hs).1; omega))
  have c0 := h1.cells.1
  have c3 := h1.cells.2.2.2.1
  have BEG := hide (fun X gX eX => take_begin h1 h4 (fun g hg => (q.lt g hg).2) st.kp ht1 X gX eX)
  have nodup := dueP_nodup h1 h2 R1.now
  have MID := hide (fun n0 n1 da dc k wr aa ac hk hh => take_mid (w := w) (S := S) (n0 := n0) (n1 := n1) (da := da) (dc := dc) (k := k) (wr := wr) (aa := aa) (ac := ac) h1 h2 h3 hSl hh hk)
  have hA4 : A.length ≤ 4096 := by have := h1.len; have := h1.l4; omega
  have dl : (dueP T R1.now).length ≤ 4096 := by
    unfold dueP dueT
    have e := h2.length_eq
    have := List.length_filter_le (fun p : Tm => !decide (R1.now < p.2)) T
    rw [List.length_map]
    simp only [tmA, List.length_map] at e
    omega
  have HN := hide (And.intro nodup dl)
  have hnx1 : R1.nx ≤ 4611686018427387904 := by rw [eB.2.2]; exact hnx
  have hbw : b ≤ w1.heap.size := by have := h1.low.1; have := h1.blk.lt; omega
  have HB := hide (And.intro hA4 (And.intro hnx1 hbw))
  generalize dueP T R1.now = D at *
  clear q h1 h2 h3 h4 hSl ht hb0 hnx eT eB ht1 nodup hA4 hnx1 hbw hR ps st dl
  go_upto_region 3 with fail
  go_region_held3 (fun Z => Z.cell? ⟨r, 0, none⟩ = some (.int .i64 (R1.now : Int)) ∧ Z.cell? ⟨r, 3, none⟩ = some (ptr W)) (go_keep) (first
    | (go_at_call 24; refine (unhide BEG _ (by first | with_reducible exact World.grownBy.refl _ _ | with_reducible exact grown_drew' (World.grownBy.refl _ _)) (by rfl)).mono ?_; rintro e W2 ⟨da, m, dc, rfl, d0, d3, H⟩))
  obtain ⟨hm, tk⟩ := unhide H
  have hml : m ≤ 4096 := by have := (unhide HN).2; omega
  have W2S : Hid (W2.heap.size = W2.heap.size) := rfl
  obtain ⟨n1, hn1⟩ : ∃ n1, n1 = W2.heap.size := ⟨_, rfl⟩
  rw [← hn1] at tk
  have TK := hide tk
  have HM := hide hm
  have HN1 := hide hn1
  clear H hm tk W2S hn1 BEG c0 c3 d0 d3
  go_upto_region 3 with fail
  have hml2 : ¬ (9223372036854775807 : Int) < (m : Int) := by omega
  go_loopw [5, 24] (fun av iv wr => ∃ (k : Nat) (aa : Option Addr) (ac : Nat), av = .slice aa k ac ∧ iv = .int .i64 (k : Int) ∧ k ≤ m ∧ Hid (TkI b w S w1.heap.size n1 r W mb vl Sw R1.now (lateT T R1.now) A R1.now R1.sp R1.nx D da dc k wr aa ac)) (fun _ iv _ => m - (intOf iv).toNat)
  case atStart => exact ⟨0, none, 0, rfl, rfl, Nat.zero_le _, unhide TK⟩
  case round =>
    obtain ⟨k, aa, ac, rfl, rfl, hk, H⟩ := hrel
    clear TK
    by_cases hlt : k < m
    · have kI : (k : Int) < (m : Int) := by omega
      have k0 : ¬ (k : Int) < 0 := by omega
      have tk := unhide H
      obtain ⟨hDn, hDl⟩ := unhide HN
      obtain ⟨p, hp⟩ : ∃ p, D[k]? = some p := ⟨_, List.getElem?_eq_getElem (by have := unhide HM; omega)⟩
      obtain ⟨a2, cf2, e2, c21, c22, cc⟩ := fr_shape tk.row
      injection e2 with e2 e3 e4
      subst e2 e4
      obtain ⟨gf, rfl, gflt, cc⟩ := cc (by have := unhide HM; omega)
      have cp := cc k p hp
      have cl := tk.round p hp hDn.1 hDn.2 (unhide HB).2.1 (by have := (unhide HB).2.2; have := tk.sz; omega) (unhide HB).1
      have c63 : m ≤ dc := by have := unhide HM; omega
      clear tk hDn hDl hp cc gflt H c21 e3
      go_wp2_with fail
      refine cl.mono ?_
      rintro e W3 ⟨g, rfl, H3⟩
      obtain ⟨a', c', W4, hrun, tk4⟩ := unhide H3
      have HRUN := hide hrun; have TK4 := hide tk4
      clear hrun tk4 H3 cl
      generalize strOfNums g.tx = st at *
      go_wp2_with (at_builtin; refine wpList_append_runQ _ rfl _ _ 48 48 rfl _ _ rfl rfl (unhide HRUN) ?_)
      exact ⟨⟨k + 1, a', c', rfl, by go_num, hlt, unhide TK4⟩, by simp [intOf]; omega⟩
    · obtain rfl : k = m := by omega
      have kI : ¬ (k : Int) < (k : Int) := by omega
      have mid := unhide MID _ _ _ _ _ _ _ _ (by rw [unhide HM]) (unhide H)
      obtain ⟨hSl, ht, hb0, hnx, eT, eB, hR⟩ := unhide HSL
      have dok : ∀ g ∈ dueB R1.B R1.now, g.Ok := fun g hg => (hR.2.1 g (by rw [← eB.1]; exact (List.mem_filter.1 hg).1)).1
      have dpw : (dueB R1.B R1.now).Pairwise (fun x y => x.id < y.id) := by
        unfold dueB; rw [eB.1]; exact hR.2.2.1.filter _
      obtain ⟨cur, hmk, hord⟩ := take_sort mid dok dpw hml
      have FIN : Hid (∀ P (S2 : Nat → Prop) Z wr' la lc, P.Perm (dueB R1.B R1.now) → P.Pairwise ltG → T2I b w S S2 r { R1 with B := lateB R1.B R1.now } n1 Z P aa ac P.length wr' la lc → TakeP b w S r R t (.returned (.slice la P.length lc)) wr') := by
        intro P S2 Z wr' la lc hp hs h2
        obtain ⟨L, l1, l2, l3, l4⟩ := h2.ex
        rw [List.take_length] at l1
        refine ⟨la, P.length, lc, Z, S2, L, rfl, l2, h2.sz.1, h2.sz.2, l3, l4, ⟨by rw [l1, ← eB.2.1, ← eB.1]; exact hp, by rw [l1]; exact hs⟩, by rw [eT]; exact h2.ri, h2.st, h2.s2⟩
      have HMK := hide hmk; have HORD := hide hord
      clear H MID HM mid hSl ht hb0 hnx eT eB hR dok dpw hmk hord HSL HN HB
      go_upto_region 9 with (refine wpList_mkF _ rfl _ _ _ rfl _ _ rfl rfl (unhide HMK) ?_)
      generalize wr.alloc (.cells cur 35) = W5 at *
      go_wp2_with fail
      refine (unhide HORD).mono ?_
      rintro e W6 ⟨rfl, H6⟩
      obtain ⟨P, S2, hp, hs, lP, pok, Z, t2⟩ := unhide (unhide H6)
      have T2 := hide t2
      have HP := hide (And.intro hp (And.intro hs (And.intro lP pok)))
      clear H6 hp hs lP pok t2 HMK HORD
      have lPk := (unhide HP).2.2.1
      replace lPk := hide lPk
      go_wp2_with fail
      go_loopw [8, 41] (fun lv iv wq => ∃ (i : Nat) (la : Option Addr) (lc : Nat), lv = .slice la i lc ∧ iv = .int .i64 (i : Int) ∧ i ≤ k ∧ Hid (T2I b w S S2 r { R1 with B := lateB R1.B R1.now } n1 Z P aa ac i wq la lc)) (fun _ iv _ => k - (intOf iv).toNat)
      case atStart => exact ⟨0, _, _, rfl, rfl, Nat.zero_le _, unhide T2⟩
      case round =>
        obtain ⟨i, la, lc, rfl, rfl, hi, H⟩ := hrel
        clear T2
        by_cases hlt : i < k
        · have iI : (i : Int) < (k : Int) := by omega
          have i0 : ¬ (i : Int) < 0 := by omega
          have t2 := unhide H
          obtain ⟨g, hg⟩ : ∃ g, P[i]? = some g := ⟨_, List.getElem?_eq_getElem (by have := unhide lPk; omega)⟩
          obtain ⟨gl, cl, e1, c1, c63, gllt, cc⟩ := ly_cell t2.row hg
          injection e1 with e1 e2 e3
          subst e1 e3
          have a0 : wr.cell? ⟨gl, i * 5, none⟩ = some (.int .i64 (g.id : Int)) := cc 0 _ rfl
          have a1 : wr.cell? ⟨gl, i * 5 + 1, none⟩ = some (.int .i64 g.to) := cc 1 _ rfl
          have a2 : wr.cell? ⟨gl, i * 5 + 2, none⟩ = some (.int .i64 (g.at_ : Int)) := cc 2 _ rfl
          have a3 : wr.cell? ⟨gl, i * 5 + 3, none⟩ = some (.string (strOfNums g.tx)) := cc 3 _ rfl
          have a4 : wr.cell? ⟨gl, i * 5 + 4, none⟩ = some (.int .i64 g.mark) := cc 4 _ rfl
          have gA : wr.grownBy (wr.alloc (.cells g.cs 56)) none := World.grownBy_alloc wr _ none
          have fl := t2.round g hg ((unhide HP).2.2.2 g (List.mem_of_getElem? hg)) gA (by have := unhide lPk; omega)
          have FL := hide fl
          have kac : k ≤ ac := by have := unhide lPk; omega
          clear t2 hg cc gA fl H e2 c1
          unfold Gm.cs at FL
          generalize strOfNums g.tx = st at *
          go_wp2_with fail
          refine (unhide FL).mono ?_
          rintro e W7 ⟨f, rfl, H7⟩
          obtain ⟨a', c', W8, hrun, t8⟩ := unhide H7
          have HRUN := hide hrun; have T8 := hide t8
          clear hrun t8 H7 FL
          go_wp2_with (at_builtin; refine wpList_append_runQ _ rfl _ _ 28 28 rfl _ _ rfl rfl (unhide HRUN) ?_)
          exact ⟨⟨i + 1, a', c', rfl, by go_num, hlt, unhide T8⟩, by simp [intOf]; omega⟩
        · obtain rfl : i = k := by omega
          have iI : ¬ (i : Int) < (i : Int) := by omega
          have t2 := unhide H
          have F : Hid (TakeP b w S r R t (.returned (.slice la i lc)) wr) := by
            obtain ⟨hp, hs, lP, -⟩ := unhide HP
            have := unhide FIN P S2 Z wr la lc hp hs (by rw [lP]; exact t2)
            rw [lP] at this
            exact this
          clear H t2 FIN HP
          go_wp2_with fail
          go_ret
          exact unhide F
end
end Go.Proofs.YtbdjlhkgpblebaaDoor
