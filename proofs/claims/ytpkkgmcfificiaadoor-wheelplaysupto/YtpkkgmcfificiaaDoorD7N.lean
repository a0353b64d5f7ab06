/- list: its walk, over whatever slots gives and inOrder tells. -/
import Derived.Test.YtpkkgmcfificiaaDoorHF
import Derived.RangeFuncNested
import Derived.RangeFuncLeaves
import Derived.RangeFuncBound
import Derived.Sort.MapsRangeIn
import Derived.Sort.CutIn
import Derived.Shelf.RegionOpen
namespace Go.Proofs.YtpkkgmcfificiaaDoor
open Go.RowKit Go.Shelf
set_option linter.unusedVariables false
set_option maxHeartbeats 1000000
set_option maxRecDepth 100000
attribute [local go_sem] Oper.semAt_some

theorem slots_any' (W : Nat) (w : World) :
    Calls Tryd.prog 32 #[ptr W] w fun e w' => e = .returned (.func (.func 42) #[] #[.pointer (some ⟨w.heap.size, 0, none⟩)]) ∧ w' = w.alloc (.cells #[ptr W] 24) := by
  go_enter Tryd.func32, Tryd.ntmps32
  go_wp2
  go_ret
  exact ⟨rfl, rfl⟩
theorem Tryd.infoDl : (Tryd.prog.info? 73).map (fun i => (i.zero, i.size, i.bytes)) = some (some (.agg #[.int .i64 0, .int .i64 0]), 2, 16) := by kernel_rfl

/-- All but a wheel, a box and the table. -/
abbrev Sb (Wh Bw : Nat) : Nat → Prop := fun g => g ≠ 0 ∧ g ≠ Wh ∧ g ≠ Bw
theorem kb_cell {S : Nat → Prop} {w w' : World} (k : Kp S w w') {g : Nat} (hg : ¬ S g) (hl : g < w.heap.size) (o : Nat) : w'.cell? ⟨g, o, none⟩ = w.cell? ⟨g, o, none⟩ := by
  simp only [World.cell?, k.block g hl hg]
theorem slotK_put {Wh Bw n : Nat} (h0 : 0 < n) (hW : Wh < n) (hB : Bw < n) (W : World) (l : Nat) (o' : Obj) (hl : n ≤ l) : Kp (Sb Wh Bw) W (W.putObj l o') :=
  ⟨rfl, rfl, rfl, by simp, fun g hg hn => World.putObj_heap_other (fun e => hn (by subst e; exact ⟨by omega, by omega, by omega⟩))⟩
theorem grown_bel' {w w' : World} (g : w.grownBy w' none) : Below w.heap.size w w' := ⟨g.os, g.tape, g.output, g.size, fun i hi => g.block i hi (by simp)⟩

/-- An append within a region that draws, in a round. -/
theorem stepIn_app {F : Fence} {n : Nat} {P : Program} {ops : Array Oper} {o : Oper} {a : Act} {w : World} {K : Act → World → Prop} {Q : Exit → Act → World → Prop} {E : Prop} (hgd : o.guard = none) (d s : Operand) (t : TypeId)
    (hop : o.op = Op.call { callee := Callee.builtin Builtin.append, args := #[d, s], argTypes := #[t, t] }) (vd vs : Value) (hd : a.eval d = vd) (hs : a.eval s = vs) {v' : Value} {w' : World} (hrun : (Builtin.append_ #[t, t] o.type #[vd, vs]).run P w = .ok v' w') (hK : K (a.put o.dst v') w') :
    if Region.wanted o (yielded ops a.tmps) = true then Oper.wpIn F n P o a w K Q else E := by
  rw [if_pos (by simp [Region.wanted, hgd])]
  unfold Oper.wpIn
  refine ⟨?_, ?_⟩
  · simp [Oper.about, hop, resolve, Target.leads, Sem.run_pure]
  · rw [Oper.semAt_plain F _ _ (by rw [hop]; intro c hc'; cases hc')]
    simp [execOp, hop, resolve, invoke, builtin, hd, hs, hrun, Result.andThen]
    exact hK

def nd2 (m : Nd) : List Value := [.int .i64 (m.id : Int), .int .i64 (m.at_ : Int)]

theorem row_grown {base n : Nat} {e : TypeId} {sz : Nat} {w w' : World} {v : Value} {xs : List Value} (h : w.ownsRow base e sz v n xs) (g : w.grownBy w' none) : w'.ownsRow base e sz v n xs :=
  h.kept g (by
    rcases hv : v.ownBlock with _ | x
    · exact .inl rfl
    · exact .inr (by simp))
theorem row_at {w : World} {base n c k : Nat} {e : TypeId} {a : Option Addr} {xs : List Value} {u : Value} (h : w.ownsRow base e 1 (.slice a n c) n xs) (hk : xs[k]? = some u) (hx : xs.length = n) : ∃ g, a = some ⟨g, 0, none⟩ ∧ w.cell? ⟨g, k, none⟩ = some u ∧ n ≤ c ∧ c ≤ 9223372036854775807 := by
  have hi : k < xs.length := (List.getElem?_eq_some_iff.1 hk).1
  rcases h.2 with ⟨-, e2⟩ | ⟨g, cap, cur, e1, q1, q2, q3, q4, q5, q6⟩
  · omega
  · cases e1
    refine ⟨g, rfl, ?_, by omega, by unfold maxLen at q4; omega⟩
    simp only [World.cell?, q2]
    have e : (cur.toList.take (n * 1))[k]? = xs[k]? := by rw [q6]
    rw [List.getElem?_take, if_pos (by omega), Array.getElem?_toList] at e
    rw [e, hk]
    simp

/-- What list holds between two of its appends. -/
structure LJ (w X wr : World) (b W : Nat) (row : Value) (P : List Nd) (qs : List Nd) (v : Value) : Prop where
  box : Boxed wr b 97 v
  own : wr.ownsRow w.heap.size 73 2 v qs.length (qs.flatMap nd2)
  bel : Below w.heap.size w wr
  sb : Boxed wr (b + 1) 24 (ptr W)
  prow : wr.ownsRow X.heap.size 52 1 row P.length (P.map fun n => ptr n.g)
  ko : KeepsOthers X wr

theorem LJ.push {w X wr : World} {b W : Nat} {row : Value} {P qs : List Nd} {v : Value} (h : LJ w X wr b W row P qs v) (hb : w.heap.size ≤ b) (m : Nd) (few : qs.length ≤ 10000000) :
    ∃ g c w', (Builtin.append_ #[97, 97] 97 #[v, .slice (some ⟨wr.heap.size, 0, none⟩) 1 1]).run Tryd.prog (wr.drew.alloc (.cells #[.int .i64 (m.id : Int), .int .i64 (m.at_ : Int)] 73)) = .ok (.slice (some ⟨g, 0, none⟩) (qs.length + 1) c) w'
      ∧ Boxed w' b 97 v ∧ LJ w X (w'.setCell ⟨b, 0, none⟩ (.slice (some ⟨g, 0, none⟩) (qs.length + 1) c)) b W row P (qs ++ [m]) (.slice (some ⟨g, 0, none⟩) (qs.length + 1) c) := by
  obtain ⟨inf, hi0, hz0, hz1, hz2⟩ := info_parts Tryd.infoDl
  have hB := h.bel.size
  have own0 : wr.drew.ownsRow w.heap.size 73 2 v qs.length (qs.flatMap nd2) := h.own
  have box0 : Boxed wr.drew b 97 v := h.box
  have hnews : ∀ (i : Nat) u, (nd2 m)[i]? = some u → (wr.drew.alloc (.cells #[.int .i64 (m.id : Int), .int .i64 (m.at_ : Int)] 73)).cell? ((⟨wr.heap.size, 0, none⟩ : Addr).add i) = some u := fun i u hu => by
    rw [show (⟨wr.heap.size, 0, none⟩ : Addr).add i = ⟨wr.drew.heap.size, i, none⟩ by simp [Addr.add]; exact fun e => e.symm]
    simp only [World.cell?, heap_alloc_new]
    rw [← hu]
    simp [nd2]
  have hsz : (wr.drew.alloc (.cells #[.int .i64 (m.id : Int), .int .i64 (m.at_ : Int)] 73)).heap.size = wr.heap.size + 1 := by show (wr.heap.push _).size = _; simp
  have h1 := own0.alloc (.cells #[.int .i64 (m.id : Int), .int .i64 (m.at_ : Int)] 73)
  obtain ⟨v5, W5, hrun, o5, g5, -⟩ := run_append_own (P := Tryd.prog) (wr.drew.alloc (.cells #[.int .i64 (m.id : Int), .int .i64 (m.at_ : Int)] 73)) w.heap.size 97 97 73 inf (.agg #[.int .i64 0, .int .i64 0]) 2 16 Tryd.underlying97 hi0 hz0 hz1 hz2 rfl (by decide) v qs.length (qs.flatMap nd2) h1 ⟨wr.heap.size, 0, none⟩ 1 1 (nd2 m) rfl hnews (fun u hu => by
    simp only [nd2, List.mem_cons, List.not_mem_nil, or_false] at hu
    rcases hu with rfl | rfl <;> rfl) (by unfold maxLen; omega) (by omega) (by omega)
  obtain ⟨h5, c5, rfl⟩ := ownsRow_succ o5
  obtain ⟨a1, a2, a3, a4, a5⟩ := box0.appended (by decide) own0 hB hb o5 g5
  have sb0 : Boxed wr.drew (b + 1) 24 (ptr W) := h.sb
  have pr0 : wr.drew.ownsRow X.heap.size 52 1 row P.length (P.map fun n => ptr n.g) := h.prow
  have ko0 : KeepsOthers X wr.drew := h.ko.trans (KeepsOthers.drew _)
  have kd : Below w.heap.size w wr.drew := h.bel.drew
  have rowne : ∀ g, row.ownBlock = some g → some g ≠ v.ownBlock := fun g e e2 => by
    rcases pr0.2 with ⟨rfl, -⟩ | ⟨g1, cap1, cur1, rfl, q1, q2, -⟩
    · simp [Value.ownBlock] at e
    · obtain rfl : g1 = g := by simpa [Value.ownBlock] using e
      rcases own0.2 with ⟨rfl, -⟩ | ⟨g3, cap3, cur3, rfl, r1, r2, -⟩
      · simp [Value.ownBlock] at e2
      · obtain rfl : g1 = g3 := by simpa [Value.ownBlock] using e2
        rw [q2] at r2; cases r2
  refine ⟨h5, c5, W5, hrun, a1, ⟨a2, ?_, kd.trans a5, ?_, ?_, ko0.trans a4⟩⟩
  · have e1 : (qs ++ [m]).length = qs.length + 1 := by simp
    have e2 : (qs ++ [m]).flatMap nd2 = qs.flatMap nd2 ++ nd2 m := by simp
    rw [e1, e2]; exact a3
  · have s1 : Boxed W5 (b + 1) 24 (ptr W) := (sb0.alloc _).kept g5 (sb0.not_row (by decide) own0)
    exact s1.other (by omega) _
  · have p1 := pr0.alloc (.cells #[.int .i64 (m.id : Int), .int .i64 (m.at_ : Int)] 73)
    have p2 : W5.ownsRow X.heap.size 52 1 row P.length (P.map fun n => ptr n.g) := p1.kept g5 (by
      rcases hr : row.ownBlock with _ | g
      · exact .inl (by simp)
      · exact .inr (rowne g hr))
    exact p2.kept (grownBy_setCell' W5 b _) (.inr (fun e => (a1.not_row (t := 97) (by decide) p2) e.symm))

theorem list_core {α : Type} (W mb n : Nat) (hn : n ≤ 4096) (q : α → Option Addr) (fP : α → List Nd) (SS Sp : List α → Prop) (w : World) (hW0 : W < w.heap.size) (h00 : 0 < w.heap.size) (ck : w.cell? ⟨W, 1, none⟩ = some (.map (some mb)))
    (hl : ∀ {F : Fence} {nn : Nat} {ops : Array Oper} {rest : List Oper} {o : Oper} {a : Act} {Q : Exit → Act → World → Prop} (hg : o.guard = none) (m : Operand) (hop : o.op = Op.call { callee := Callee.builtin Builtin.len, args := #[m], argTypes := #[50] }) (hm : a.eval m = .map (some mb)) (hK : wpListIn F nn Tryd.prog ops Q rest (a.put o.dst (.int .i64 (n : Int))) w), wpListIn F nn Tryd.prog ops Q (o :: rest) a w)
    (hseq : ∀ X Bw, X.cell? ⟨Bw, 0, none⟩ = some (ptr W) → Below w.heap.size w X → SeqStopsK Fence.wide 5 Tryd.prog 42 #[.pointer (some ⟨Bw, 0, none⟩)] (fun x : α => #[.pointer (q x)]) (Kp (Sb W Bw)) SS Sp 705 X)
    (hio : ∀ x X, Below w.heap.size w X → Calls Tryd.prog 48 #[.pointer (q x)] X fun e W' => ∃ a c, e = .returned (.slice a (fP x).length c) ∧ W'.ownsRow X.heap.size 52 1 (.slice a (fP x).length c) (fP x).length ((fP x).map fun n => ptr n.g) ∧ X.grownBy W' none)
    (hnd : ∀ x, ∀ m ∈ fP x, w.cell? ⟨m.g, 0, none⟩ = some (.int .i64 (m.id : Int)) ∧ w.cell? ⟨m.g, 1, none⟩ = some (.int .i64 (m.at_ : Int)))
    (hfew : ∀ x, (fP x).length ≤ 4096) :
    Calls Tryd.prog 46 #[ptr W] w fun e W' => ∃ v ys, SS ys ∧ e = .returned v ∧ W'.ownsRow w.heap.size 73 2 v (ys.flatMap fP).length ((ys.flatMap fP).flatMap nd2) ∧ Below w.heap.size w W' := by
  refine (callsIn_wide (n := 6)).1 ?_
  have ha := fun X => slots_any' W X
  obtain ⟨inf, hi0, hz0, hz1, hz2⟩ := info_parts Tryd.infoDl
  refine callsIn_of_wp_marks Tryd.func46 rfl trivial ?_ rfl
  simp only [Tryd.ntmps46, List.size_toArray, List.length_cons, List.length_nil, Nat.reduceAdd, Nat.reduceSub, Array.replicate_succ, Array.replicate_zero, List.push_toArray, List.append_toArray, List.nil_append, List.cons_append]
  gi_wp2_with (first | (gi_at_len; refine hl rfl _ rfl rfl ?_) | (gi_at_make; refine wpListIn_make_own _ rfl _ _ 97 rfl w.heap.size 73 inf (.agg #[.int .i64 0, .int .i64 0]) 2 Tryd.underlying97 hi0 hz0 hz1 .i64 .i64 (n : Int) n rfl rfl rfl (by rw [hz2]; omega) (by unfold maxLen; omega) (Nat.le_refl _) ?_; intro w1 hown1 hgr1))
  refine ⟨trivial, ?_⟩
  refine (callsIn_wide.2 (ha _)).mono ?_
  rintro e w' ⟨rfl, rfl⟩
  gi_wp2_with fail
  have s1 := hgr1.size
  have bO := Boxed.new w1 97 (.slice (some ⟨w.heap.size, 0, none⟩) 0 n)
  have bN := Boxed.new (w1.alloc (.cells #[.slice (some ⟨w.heap.size, 0, none⟩) 0 n] 97)) 24 (ptr W)
  rw [World.size_alloc] at bN
  have hB0 : Below w.heap.size w ((w1.alloc (.cells #[.slice (some ⟨w.heap.size, 0, none⟩) 0 n] 97)).alloc (.cells #[ptr W] 24)) := ((grown_bel' hgr1).alloc s1 _).alloc (by simp; omega) _
  have own0 : ((w1.alloc (.cells #[.slice (some ⟨w.heap.size, 0, none⟩) 0 n] 97)).alloc (.cells #[ptr W] 24)).ownsRow w.heap.size 73 2 (.slice (some ⟨w.heap.size, 0, none⟩) 0 n) 0 [] := (hown1.alloc _).alloc _
  refine wpIn_rangeFunc_ownG (F := Fence.wide) rfl (by decide) (gf := 42) (lb := #[.pointer (some ⟨w1.heap.size + 1, 0, none⟩)]) rfl trivial (enters_of Tryd.func42 (by kernel_rfl) rfl)
    (hseq _ (w1.heap.size + 1) bN.cell hB0) (fun h k => Kp.trans h k) (fun X l o o' hl _ _ _ => slotK_put (n := w1.heap.size + 2) (by omega) (by omega) (by omega) X l o' (by simpa using hl)) (Below.refl _ _) (fun _ => rfl)
    (fun (pre : List α) X => (∃ v, Boxed X w1.heap.size 97 v ∧ X.ownsRow w.heap.size 73 2 v (pre.flatMap fP).length ((pre.flatMap fP).flatMap nd2) ∧ (pre.flatMap fP).length ≤ pre.length * 4096) ∧ Below w.heap.size w X ∧ Boxed X (w1.heap.size + 1) 24 (ptr W))
    (fun _ _ _ => False)
    (OwnFrom.and (Own.from (holdsRow_own w.heap.size w1.heap.size 97 73 2 (fun (pre : List α) => (pre.flatMap fP).length) (fun (pre : List α) => (pre.flatMap fP).flatMap nd2) (fun pre v => (pre.flatMap fP).length ≤ pre.length * 4096)) _) (OwnFrom.and (ownFrom_below (Nat.le_refl _) (by simp; omega)) (Own.from (boxed_own _ _ _) _)))
    (fun _ _ _ _ _ hs _ _ => hs)
    ⟨⟨_, bO.alloc _, own0, by simp⟩, hB0, bN⟩
    (fun (x : α) => { tmps := #[ptr W, undef, .slice none 0 0, .pointer (some ⟨w1.heap.size, 0, none⟩), .pointer (q x), undef, undef, ptr W, .pointer (some ⟨W, 0, none⟩), .pointer (some ⟨W, 1, none⟩), .map (some mb), .int .i64 (n : Int), .slice (some ⟨w.heap.size, 0, none⟩) 0 n, ptr W, .func (.func 42) #[] #[.pointer (some ⟨w1.heap.size + 1, 0, none⟩)], .pointer (q x), undef, undef, undef, undef, undef, undef, undef, undef, undef, undef, undef, undef, undef, undef, undef, undef], defers := [] }) ?assign ?body ?done ?stop
  case assign =>
    intro l x X K hK
    gi_wp2
    exact hK
  case body =>
    rintro l pre x X ⟨⟨v, hv, hrow, hle⟩, hB, hbw⟩ hpre
    have io := hio x X hB
    have fx := hfew x
    have NX := hide (hnd x)
    have HP := hide (show w.heap.size ≤ w1.heap.size ∧ (pre.flatMap fP).length ≤ 705 * 4096 from ⟨s1, by omega⟩)
    clear hnd hfew hio hseq hl ha hown1 hgr1 bO bN hB0 own0
    gi_wp2_with fail
    refine ⟨trivial, ?_⟩
    refine (CallsIn.inRound l (callsIn_wide.2 io)).mono ?_
    rintro e X2 ⟨a, cc, rfl, prow, pg⟩
    have J0 : LJ w X X2 w1.heap.size W (.slice a (fP x).length cc) (fP x) (pre.flatMap fP ++ (fP x).take 0) v := by
      refine ⟨hv.kept pg (by simp), by simpa using row_grown hrow pg, hB.trans ((grown_bel' pg).mono hB.size), hbw.kept pg (by simp), prow, ⟨pg.size, fun k o hk _ => (pg.block k (Array.getElem?_eq_some_iff.1 hk).1 (by simp)).trans hk⟩⟩
    have HJ0 := hide J0
    have HX := hide (And.intro hB hbw)
    clear J0 prow pg io hv hrow hB hbw
    generalize hPx : fP x = P at *
    have lenI : ¬ (9223372036854775807 : Int) < (P.length : Int) := by omega
    have mixed : Tryd.prog.follows .mixedOrders = true := by kernel_rfl
    gi_wp2_with fail
    gi_loopw [19] (fun iv wr => ∃ k : Nat, k ≤ P.length ∧ iv = .int .i64 k ∧ Hid (∃ v, LJ w X wr w1.heap.size W (.slice a P.length cc) P (pre.flatMap fP ++ P.take k) v)) (fun iv _ => P.length - (intOf iv).toNat)
    case atStart => exact ⟨0, Nat.zero_le _, rfl, v, unhide HJ0⟩
    case round =>
      obtain ⟨k, hk, rfl, H⟩ := hrel
      clear HJ0
      by_cases hlt : k < P.length
      · have kI : (k : Int) < (P.length : Int) := by omega
        obtain ⟨v', J⟩ := unhide H
        obtain ⟨m, hm⟩ : ∃ m, P[k]? = some m := ⟨P[k], by simp⟩
        obtain ⟨gp, rfl, cp, c1, c2⟩ := row_at J.prow (k := k) (u := ptr m.g) (by simp [hm]) (by simp)
        obtain ⟨n0, n1⟩ := unhide NX m (List.mem_of_getElem? hm)
        have d0 := (J.bel.cell (p := ⟨m.g, 0, none⟩) (World.block_lt_of_cell? w _ n0)).trans n0
        have d1 := (J.bel.cell (p := ⟨m.g, 1, none⟩) (World.block_lt_of_cell? w _ n1)).trans n1
        have cb := J.box.cell
        have cb2 := (J.box.alloc (.cells #[.int .i64 (m.id : Int), .int .i64 (m.at_ : Int)] 73)).cell
        obtain ⟨g5, c5, w5, hrun, bx, J5⟩ := J.push (unhide HP).1 m (by have h2 := (unhide HP).2; have h3 : (P.take k).length ≤ P.length := by rw [List.length_take]; omega
                                                                        rw [List.length_append]; omega)
        generalize hj : (pre.flatMap fP ++ P.take k).length = j at *
        have cf := bx.cell
        have ff := bx.frozen
        have R1 := hide hrun
        have E5 := hide J5
        clear J H J5 bx n0 n1
        gi_wp2_with fail
        refine wpIn_region_any (by assumption) ?_
        change wpAnyIn _ _ _ _ _ _ _ _ _ (World.drew _)
        refine wpAnyIn_ready (rs := [0, 1]) (by kernel_rfl) (by simp) ?_
        refine AllReadyIn.cons rfl (fun K hK => ?_) ?_
        · go_simp
          refine hK _ _ ?_
          clear hK K
          refine wpAnyIn_ready (rs := [1]) (by kernel_rfl) (by simp) ?_
          refine AllReadyIn.cons rfl (fun K hK => ?_) ?_
          · go_simp
            refine hK _ _ ?_
            clear hK K
            refine wpAnyIn_ready (rs := [2]) (by kernel_rfl) (by simp) ?_
            refine AllReadyIn.cons rfl (fun K hK => ?_) ?_
            · go_simp
              refine hK _ _ ?_
              clear hK K
              refine wpAnyIn_ready (rs := [3]) (by kernel_rfl) (by simp) ?_
              refine AllReadyIn.cons rfl (fun K hK => ?_) ?_
              · go_simp
                refine hK _ _ ?_
                clear hK K
                refine wpAnyIn_ready (rs := [4]) (by kernel_rfl) (by simp) ?_
                refine AllReadyIn.cons rfl (fun K hK => ?_) ?_
                · go_simp
                  refine hK _ _ ?_
                  clear hK K
                  refine wpAnyIn_ready (rs := [5]) (by kernel_rfl) (by simp) ?_
                  refine AllReadyIn.cons rfl (fun K hK => ?_) ?_
                  · go_simp
                    refine hK _ _ ?_
                    clear hK K
                    refine wpAnyIn_ready (rs := [6]) (by kernel_rfl) (by simp) ?_
                    refine AllReadyIn.cons rfl (fun K hK => ?_) ?_
                    · refine stepIn_app rfl _ _ 97 rfl _ _ rfl rfl (unhide R1) ?_; go_simp
                      refine hK _ _ ?_
                      clear hK K
                      refine wpAnyIn_ready (rs := [7]) (by kernel_rfl) (by simp) ?_
                      refine AllReadyIn.cons rfl (fun K hK => ?_) ?_
                      · go_simp
                        refine hK _ _ ?_
                        clear hK K
                        refine wpAnyIn_done (by kernel_rfl) ?_ _
                        gi_wp2_with fail
                        go_roundw
                        case rel => exact ⟨k + 1, hlt, by go_num, _, by rw [List.take_add_one, hm, ← List.append_assoc]; exact unhide E5⟩
                        case measure => simp [intOf]; omega
                      exact AllReadyIn.nil
                    exact AllReadyIn.nil
                  exact AllReadyIn.nil
                exact AllReadyIn.nil
              exact AllReadyIn.nil
            exact AllReadyIn.nil
          exact AllReadyIn.nil
        refine AllReadyIn.cons rfl (fun K hK => ?_) ?_
        · go_simp
          refine hK _ _ ?_
          clear hK K
          refine wpAnyIn_ready (rs := [0, 2]) (by kernel_rfl) (by simp) ?_
          refine AllReadyIn.cons rfl (fun K hK => ?_) ?_
          · go_simp
            refine hK _ _ ?_
            clear hK K
            refine wpAnyIn_ready (rs := [2]) (by kernel_rfl) (by simp) ?_
            refine AllReadyIn.cons rfl (fun K hK => ?_) ?_
            · go_simp
              refine hK _ _ ?_
              clear hK K
              refine wpAnyIn_ready (rs := [3]) (by kernel_rfl) (by simp) ?_
              refine AllReadyIn.cons rfl (fun K hK => ?_) ?_
              · go_simp
                refine hK _ _ ?_
                clear hK K
                refine wpAnyIn_ready (rs := [4]) (by kernel_rfl) (by simp) ?_
                refine AllReadyIn.cons rfl (fun K hK => ?_) ?_
                · go_simp
                  refine hK _ _ ?_
                  clear hK K
                  refine wpAnyIn_ready (rs := [5]) (by kernel_rfl) (by simp) ?_
                  refine AllReadyIn.cons rfl (fun K hK => ?_) ?_
                  · go_simp
                    refine hK _ _ ?_
                    clear hK K
                    refine wpAnyIn_ready (rs := [6]) (by kernel_rfl) (by simp) ?_
                    refine AllReadyIn.cons rfl (fun K hK => ?_) ?_
                    · refine stepIn_app rfl _ _ 97 rfl _ _ rfl rfl (unhide R1) ?_; go_simp
                      refine hK _ _ ?_
                      clear hK K
                      refine wpAnyIn_ready (rs := [7]) (by kernel_rfl) (by simp) ?_
                      refine AllReadyIn.cons rfl (fun K hK => ?_) ?_
                      · go_simp
                        refine hK _ _ ?_
                        clear hK K
                        refine wpAnyIn_done (by kernel_rfl) ?_ _
                        gi_wp2_with fail
                        go_roundw
                        case rel => exact ⟨k + 1, hlt, by go_num, _, by rw [List.take_add_one, hm, ← List.append_assoc]; exact unhide E5⟩
                        case measure => simp [intOf]; omega
                      exact AllReadyIn.nil
                    exact AllReadyIn.nil
                  exact AllReadyIn.nil
                exact AllReadyIn.nil
              exact AllReadyIn.nil
            exact AllReadyIn.nil
          refine AllReadyIn.cons rfl (fun K hK => ?_) ?_
          · go_simp
            refine hK _ _ ?_
            clear hK K
            refine wpAnyIn_ready (rs := [0, 3]) (by kernel_rfl) (by simp) ?_
            refine AllReadyIn.cons rfl (fun K hK => ?_) ?_
            · go_simp
              refine hK _ _ ?_
              clear hK K
              refine wpAnyIn_ready (rs := [3]) (by kernel_rfl) (by simp) ?_
              refine AllReadyIn.cons rfl (fun K hK => ?_) ?_
              · go_simp
                refine hK _ _ ?_
                clear hK K
                refine wpAnyIn_ready (rs := [4]) (by kernel_rfl) (by simp) ?_
                refine AllReadyIn.cons rfl (fun K hK => ?_) ?_
                · go_simp
                  refine hK _ _ ?_
                  clear hK K
                  refine wpAnyIn_ready (rs := [5]) (by kernel_rfl) (by simp) ?_
                  refine AllReadyIn.cons rfl (fun K hK => ?_) ?_
                  · go_simp
                    refine hK _ _ ?_
                    clear hK K
                    refine wpAnyIn_ready (rs := [6]) (by kernel_rfl) (by simp) ?_
                    refine AllReadyIn.cons rfl (fun K hK => ?_) ?_
                    · refine stepIn_app rfl _ _ 97 rfl _ _ rfl rfl (unhide R1) ?_; go_simp
                      refine hK _ _ ?_
                      clear hK K
                      refine wpAnyIn_ready (rs := [7]) (by kernel_rfl) (by simp) ?_
                      refine AllReadyIn.cons rfl (fun K hK => ?_) ?_
                      · go_simp
                        refine hK _ _ ?_
                        clear hK K
                        refine wpAnyIn_done (by kernel_rfl) ?_ _
                        gi_wp2_with fail
                        go_roundw
                        case rel => exact ⟨k + 1, hlt, by go_num, _, by rw [List.take_add_one, hm, ← List.append_assoc]; exact unhide E5⟩
                        case measure => simp [intOf]; omega
                      exact AllReadyIn.nil
                    exact AllReadyIn.nil
                  exact AllReadyIn.nil
                exact AllReadyIn.nil
              exact AllReadyIn.nil
            refine AllReadyIn.cons rfl (fun K hK => ?_) ?_
            · go_simp
              refine hK _ _ ?_
              clear hK K
              refine wpAnyIn_ready (rs := [0, 4]) (by kernel_rfl) (by simp) ?_
              refine AllReadyIn.cons rfl (fun K hK => ?_) ?_
              · go_simp
                refine hK _ _ ?_
                clear hK K
                refine wpAnyIn_ready (rs := [4]) (by kernel_rfl) (by simp) ?_
                refine AllReadyIn.cons rfl (fun K hK => ?_) ?_
                · go_simp
                  refine hK _ _ ?_
                  clear hK K
                  refine wpAnyIn_ready (rs := [5]) (by kernel_rfl) (by simp) ?_
                  refine AllReadyIn.cons rfl (fun K hK => ?_) ?_
                  · go_simp
                    refine hK _ _ ?_
                    clear hK K
                    refine wpAnyIn_ready (rs := [6]) (by kernel_rfl) (by simp) ?_
                    refine AllReadyIn.cons rfl (fun K hK => ?_) ?_
                    · refine stepIn_app rfl _ _ 97 rfl _ _ rfl rfl (unhide R1) ?_; go_simp
                      refine hK _ _ ?_
                      clear hK K
                      refine wpAnyIn_ready (rs := [7]) (by kernel_rfl) (by simp) ?_
                      refine AllReadyIn.cons rfl (fun K hK => ?_) ?_
                      · go_simp
                        refine hK _ _ ?_
                        clear hK K
                        refine wpAnyIn_done (by kernel_rfl) ?_ _
                        gi_wp2_with fail
                        go_roundw
                        case rel => exact ⟨k + 1, hlt, by go_num, _, by rw [List.take_add_one, hm, ← List.append_assoc]; exact unhide E5⟩
                        case measure => simp [intOf]; omega
                      exact AllReadyIn.nil
                    exact AllReadyIn.nil
                  exact AllReadyIn.nil
                exact AllReadyIn.nil
              refine AllReadyIn.cons rfl (fun K hK => ?_) ?_
              · go_simp
                refine hK _ _ ?_
                clear hK K
                refine wpAnyIn_ready (rs := [0, 5]) (by kernel_rfl) (by simp) ?_
                refine AllReadyIn.cons rfl (fun K hK => ?_) ?_
                · go_simp
                  refine hK _ _ ?_
                  clear hK K
                  refine wpAnyIn_ready (rs := [5]) (by kernel_rfl) (by simp) ?_
                  refine AllReadyIn.cons rfl (fun K hK => ?_) ?_
                  · go_simp
                    refine hK _ _ ?_
                    clear hK K
                    refine wpAnyIn_ready (rs := [6]) (by kernel_rfl) (by simp) ?_
                    refine AllReadyIn.cons rfl (fun K hK => ?_) ?_
                    · refine stepIn_app rfl _ _ 97 rfl _ _ rfl rfl (unhide R1) ?_; go_simp
                      refine hK _ _ ?_
                      clear hK K
                      refine wpAnyIn_ready (rs := [7]) (by kernel_rfl) (by simp) ?_
                      refine AllReadyIn.cons rfl (fun K hK => ?_) ?_
                      · go_simp
                        refine hK _ _ ?_
                        clear hK K
                        refine wpAnyIn_done (by kernel_rfl) ?_ _
                        gi_wp2_with fail
                        go_roundw
                        case rel => exact ⟨k + 1, hlt, by go_num, _, by rw [List.take_add_one, hm, ← List.append_assoc]; exact unhide E5⟩
                        case measure => simp [intOf]; omega
                      exact AllReadyIn.nil
                    exact AllReadyIn.nil
                  exact AllReadyIn.nil
                refine AllReadyIn.cons rfl (fun K hK => ?_) ?_
                · go_simp
                  refine hK _ _ ?_
                  clear hK K
                  refine wpAnyIn_ready (rs := [0]) (by kernel_rfl) (by simp) ?_
                  refine AllReadyIn.cons rfl (fun K hK => ?_) ?_
                  · go_simp
                    refine hK _ _ ?_
                    clear hK K
                    refine wpAnyIn_ready (rs := [6]) (by kernel_rfl) (by simp) ?_
                    refine AllReadyIn.cons rfl (fun K hK => ?_) ?_
                    · refine stepIn_app rfl _ _ 97 rfl _ _ rfl rfl (unhide R1) ?_; go_simp
                      refine hK _ _ ?_
                      clear hK K
                      refine wpAnyIn_ready (rs := [7]) (by kernel_rfl) (by simp) ?_
                      refine AllReadyIn.cons rfl (fun K hK => ?_) ?_
                      · go_simp
                        refine hK _ _ ?_
                        clear hK K
                        refine wpAnyIn_done (by kernel_rfl) ?_ _
                        gi_wp2_with fail
                        go_roundw
                        case rel => exact ⟨k + 1, hlt, by go_num, _, by rw [List.take_add_one, hm, ← List.append_assoc]; exact unhide E5⟩
                        case measure => simp [intOf]; omega
                      exact AllReadyIn.nil
                    exact AllReadyIn.nil
                  exact AllReadyIn.nil
                exact AllReadyIn.nil
              exact AllReadyIn.nil
            exact AllReadyIn.nil
          exact AllReadyIn.nil
        exact AllReadyIn.nil
      · obtain rfl : k = P.length := by omega
        have kI : ¬ (P.length : Int) < (P.length : Int) := by omega
        obtain ⟨v', J⟩ := unhide H
        rw [List.take_length] at J
        have E := hide J
        clear J H
        gi_wp2_with fail
        have J := unhide E
        refine ⟨J.ko.from _, ⟨?_, ?_, ?_, J.ko.size, fun g hg hng => ?_⟩, ⟨_, J.box, ?_, ?_⟩, J.bel, J.sb⟩
        · exact J.bel.os.trans (unhide HX).1.os.symm
        · exact J.bel.tape.trans (unhide HX).1.tape.symm
        · exact J.bel.output.trans (unhide HX).1.output.symm
        · by_cases c0 : g = 0
          · subst c0; exact (J.bel.block 0 h00).trans ((unhide HX).1.block 0 h00).symm
          · by_cases c1 : g = W
            · subst c1; exact (J.bel.block g hW0).trans ((unhide HX).1.block g hW0).symm
            · by_cases c2 : g = w1.heap.size + 1
              · subst c2
                have e1 : wr.heap[w1.heap.size + 1]? = _ := J.sb
                have e2 : X.heap[w1.heap.size + 1]? = _ := (unhide HX).2
                rw [e1, e2]
              · exact absurd ⟨c0, c1, c2⟩ hng
        · have o := J.own
          rw [← hPx] at o
          simpa [List.length_flatMap] using o
        · have := (unhide HP).2
          simp only [List.map_append, List.sum_append, List.map_cons, List.map_nil, List.sum_cons, List.sum_nil, List.length_append, List.length_cons, List.length_nil]
          have e : (List.map (fun a => (fP a).length) pre).sum = (pre.flatMap fP).length := by rw [List.length_flatMap]
          rw [e, hPx]
          omega
  case done =>
    rintro D ys X hD hys ⟨⟨v, hv, hrow, -⟩, hB, hbw⟩ hK
    have hc := hv.cell
    gi_wp2
    refine ⟨by simp, .inl ⟨_, _, rfl, run_takeDeferred hK, ?_⟩⟩
    refine ⟨_, results_tmp rfl _ _ _, v, ys, hys, rfl, ownsRow_putObj hrow (.deferred none) hK rfl, hB.trans (belowK_b (w := w) (Nat.le_refl _) X D _ _ (by simp at hD; omega) hK rfl rfl)⟩
  case stop =>
    rintro D c pre X _ _ h _
    exact h.elim
end Go.Proofs.YtpkkgmcfificiaaDoor
