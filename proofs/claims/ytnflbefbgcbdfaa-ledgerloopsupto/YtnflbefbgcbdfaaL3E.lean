/- Ledger: copied, the walk. -/
import Derived.Test.YtnflbefbgcbdfaaL3D
import Derived.Deep.DeepCutAuto
import Derived.Deep.RegionWith
import Derived.Deep.CutRange
namespace Go.Proofs.Ytnflbefbgcbdfaa
open Go.RowKit
set_option linter.unusedVariables false
set_option maxRecDepth 100000
set_option maxHeartbeats 4000000

theorem Li.one_ {R : Nat → Prop} {W : World} {sz : Nat} {v : Value} {xs : List Value} (h : Li R W sz v xs) : v.oneCell' = true := by
  obtain ⟨a, n, c, rfl, -⟩ := h.ex
  rfl
theorem Frs.one_ {R : Nat → Prop} {W : World} {css : List (List Value)} {fs : List Fr} (h : Frs R W css fs) : ∀ v ∈ css.flatten, v.oneCell' = true := fun v hv => by
  obtain ⟨c, hc, hv⟩ := List.mem_flatten.1 hv
  obtain ⟨i, hi⟩ := List.getElem?_of_mem hc
  have hl := (List.getElem?_eq_some_iff.1 hi).1
  obtain ⟨wf, dv, rv, rfl, l1, l2⟩ := h.at_ i c _ hi (List.getElem?_eq_getElem (by rw [← h.len]; exact hl))
  unfold Fr.cs at hv
  rw [List.mem_append, List.mem_cons, List.mem_append, List.mem_cons] at hv
  rcases hv with q | q | q | q | q
  · exact wf.one v (by simp [q])
  · rw [q]; exact l1.one_
  · exact wf.one v (by simp [q])
  · rw [q]; exact l2.one_
  · exact wf.one v (by simp [q])
theorem NewL.sh {X Y : World} {t : TypeId} {n : Nat} {xs : List Value} {v : Value} (h : NewL X t n xs v Y) : ∃ a c, v = .slice a n c := by
  rcases h.1 with ⟨e1, e2⟩ | ⟨_, g, e2, _⟩
  · exact ⟨none, 0, by rw [e1]; exact e2⟩
  · exact ⟨_, _, e2⟩
theorem Blk.inv {W : World} {g j : Nat} {cs : Array Value} {t : TypeId} {v : Value} (h : Blk W g cs t) (hc : W.cell? ⟨g, j, none⟩ = some v) : cs[j]? = some v := by
  unfold World.cell? at hc
  rw [show W.heap[g]? = some (.cells cs t (0, 0)) from h] at hc
  simpa using hc
theorem Blk.cell_ne {W : World} {g i j : Nat} {cs : Array Value} {t : TypeId} {u v : Value} (h : Blk W g cs t) (hv : cs[j]? = some v) (hij : i ≠ j) : (W.setCell ⟨g, i, none⟩ u).cell? ⟨g, j, none⟩ = some v := by
  refine (h.setC i u).cell j v ?_
  rw [Array.getElem?_setIfInBounds_ne hij]
  exact hv
theorem NewL.li2 {X Y : World} {t : TypeId} {n sz : Nat} {xs : List Value} {v : Value} {n0 g : Nat} (h : NewL X t n xs v Y) (hx : xs.length = n * sz) (hw : n0 ≤ X.heap.size) (hg : g < X.heap.size) : Li (fun b => n0 ≤ b ∧ b ≠ g) Y sz v xs :=
  (h.li hx).mono fun b hb => ⟨by omega, by omega⟩
/-- One frame more is copied. -/
theorem CI.copy {X W : World} {n0 g i : Nat} {css : List (List Value)} {fs : List Fr} (h : CI X n0 g css fs i W) {c : List Value} {f : Fr} {dv rv v1 v2 : Value} {dn rn : Nat} {Z1 Y1 Z2 Y2 : World} {t1 t2 : TypeId} (hc : css[i]? = some c) (hf : fs[i]? = some f) (wf : f.Wf) (e : c = f.cs dv rv) (ld : f.d.length = dn * 1) (lr : f.r.length = rn * 2)
    (g1 : W.grownBy Z1 none) (n1 : NewL Z1 t1 dn f.d v1 Y1) (g2 : Y1.grownBy Z2 none) (n2 : NewL Z2 t2 rn f.r v2 Y2) :
    CI X n0 g (css.set i (f.cs v1 v2)) fs (i + 1) ((Y2.setCell ⟨g, i * 17 + 3, none⟩ v1).setCell ⟨g, i * 17 + 12, none⟩ v2) := by
  have k1 := grown_trans g1 n1.2
  have k2 := grown_trans g2 n2.2
  have hg := h.blk.lt
  have s0 := h.hg
  have s1 := g1.size
  have s2 := n1.2.size
  have s3 := g2.size
  exact (h.grown (grown_trans k1 k2)).step hc hf wf e ((n1.li2 ld (by omega) (by omega)).grown k2) (n2.li2 lr (by omega) (by omega))
theorem grown_dN (w : World) (q : Nat) : w.grownBy (w.drewN q) none := ⟨rfl, rfl, rfl, Nat.le_refl _, fun _ _ _ => rfl⟩
section
variable {X : World} {R : Nat → Prop}
theorem copied_core (nu ti si : Int) (el co pr : Bool) (tl : Int) (fs : List Fr) (a : Option Addr) (n c : Nat) (css : List (List Value)) (hnn : n = fs.length) (hn : n ≤ 100000000) (frs : Frs R X css fs) (rd : RdV X a css.flatten) :
    Calls Try.prog 28 #[.agg #[.int .i64 nu, .int .i64 ti, .int .i64 si, .bool el, .bool co, .bool pr, .int .i64 tl, .slice a n c]] X fun e Y => ∃ a' c', e = .returned (.agg #[.int .i64 nu, .int .i64 ti, .int .i64 si, .bool el, .bool co, .bool pr, .int .i64 tl, .slice a' n c']) ∧ FvAt (fun b => X.heap.size ≤ b) Y (.slice a' n c') fs ∧ X.grownBy Y none := by
  obtain ⟨W2, hW2⟩ : ∃ W2, W2 = (X.alloc (.cells #[.int .i64 nu, .int .i64 ti, .int .i64 si, .bool el, .bool co, .bool pr, .int .i64 tl, .slice a n c] 36)).alloc (.cells #[.int .i64 0, .int .i64 0, .int .i64 0, .bool false, .bool false, .bool false, .int .i64 0, .slice none 0 0] 36) := ⟨_, rfl⟩
  have g2 : X.grownBy W2 none := by rw [hW2]; exact grown_trans (grown_alloc _ _) (grown_alloc _ _)
  have bb := Blk.two X #[.int .i64 nu, .int .i64 ti, .int .i64 si, .bool el, .bool co, .bool pr, .int .i64 tl, .slice a n c] #[.int .i64 0, .int .i64 0, .int .i64 0, .bool false, .bool false, .bool false, .int .i64 0, .slice none 0 0] 36 36
  rw [← hW2] at bb
  obtain ⟨B1, B2⟩ := bb
  have hl := listF_any W2 a n c css.flatten (by rw [flat_len 17 css frs.l17, frs.len, hnn]) (rd.grown g2) frs.one_ hn
  have c7 : W2.cell? ⟨X.heap.size, 7, none⟩ = some (.slice a n c) := B1.cell 7 _ rfl
  have sz2 : Hid (W2.heap.size = X.heap.size + 2) := by show _ = _; rw [hW2]; simp
  have FR := hide frs
  have G2 := hide g2
  have BB := hide (And.intro B1 B2)
  have HN := hide hnn
  clear frs rd g2 B1 B2 hnn
  obtain ⟨b1, hb1⟩ : ∃ b1, b1 = X.heap.size := ⟨_, rfl⟩
  rw [← hb1] at c7 BB
  go_enter Try.func28, Try.ntmps28
  go_upto_region 1 with fail
  rw [← hW2, ← hb1]
  replace hW2 := hide hW2
  replace hb1 := hide hb1
  go_wp2_with fail
  refine hl.mono ?_
  rintro e W3 ⟨v, rfl, nl⟩
  obtain ⟨a', c', hv⟩ : ∃ a' c', v = .slice a' n c' := by
    rcases nl.1 with ⟨e1, e2⟩ | ⟨_, g, e2, _⟩
    · exact ⟨none, 0, by rw [e1]; exact e2⟩
    · exact ⟨_, _, e2⟩
  subst hv
  have B13 := (unhide BB).1.grown nl.2
  have B23 := (unhide BB).2.1.grown nl.2
  have t7 := B13.thaw 7
  have c73 : W3.cell? ⟨b1, 7, none⟩ = some (.slice a n c) := B13.cell 7 _ rfl
  have B14 := B13.setC 7 (.slice a' n c')
  have c74 : (W3.setCell ⟨b1, 7, none⟩ (.slice a' n c')).cell? ⟨b1, 7, none⟩ = some (.slice a' n c') := B14.cell 7 _ rfl
  have lenI : ¬ (9223372036854775807 : Int) < (n : Int) := by omega
  have LO := hide (And.intro nl (And.intro B13 (And.intro B14 B23)))
  clear hl B13 B23 B14 c7 nl BB
  have FIN : Hid (∀ W, X.grownBy W none → Blk W (b1 + 1) #[.int .i64 0, .int .i64 0, .int .i64 0, .bool false, .bool false, .bool false, .int .i64 0, .slice none 0 0] 36 → FvAt (fun b => W2.heap.size ≤ b) W (.slice a' n c') fs → FvAt (fun b => X.heap.size ≤ b) (W.setRow (b1 + 1) #[.int .i64 nu, .int .i64 ti, .int .i64 si, .bool el, .bool co, .bool pr, .int .i64 tl, .slice a' n c']) (.slice a' n c') fs ∧ X.grownBy (W.setRow (b1 + 1) #[.int .i64 nu, .int .i64 ti, .int .i64 si, .bool el, .bool co, .bool pr, .int .i64 tl, .slice a' n c']) none ∧ Blk (W.setRow (b1 + 1) #[.int .i64 nu, .int .i64 ti, .int .i64 si, .bool el, .bool co, .bool pr, .int .i64 tl, .slice a' n c']) (b1 + 1) #[.int .i64 nu, .int .i64 ti, .int .i64 si, .bool el, .bool co, .bool pr, .int .i64 tl, .slice a' n c'] 36) := fun W gW q2 q3 => by
    have e2 := unhide sz2
    have e1 := unhide hb1
    refine ⟨?_, grown_row gW _ _ (by omega), q2.row _⟩
    have k := q3.kept (W' := W.setRow (b1 + 1) #[.int .i64 nu, .int .i64 ti, .int .i64 si, .bool el, .bool co, .bool pr, .int .i64 tl, .slice a' n c']) fun b hb => setRow_other W (b1 + 1) b _ (by omega)
    obtain ⟨h0, a, c, css, h1, h3, h4, h5⟩ := k
    exact ⟨h0, a, c, css, h1, ⟨h3.len, fun i cc f hc hf => (h3.at_ i cc f hc hf).mono fun b hb => (by omega)⟩, h4, fun hx b off e => by have := h5 hx b off e; omega⟩
  by_cases h0 : n = 0
  · subst h0
    obtain ⟨W4, hW4⟩ : ∃ W4, W4 = W3.setCell ⟨b1, 7, none⟩ (.slice a' 0 c') := ⟨_, rfl⟩
    obtain ⟨nl, q1, q2, q3⟩ := unhide LO
    have e1 := unhide hb1
    have gx4 : X.grownBy W4 none := by rw [hW4]; exact grown_set (grown_trans (unhide G2) nl.2) _ _ _ (by omega)
    have z4 : Blk W4 (b1 + 1) #[.int .i64 0, .int .i64 0, .int .i64 0, .bool false, .bool false, .bool false, .int .i64 0, .slice none 0 0] 36 := by rw [hW4]; exact q3.setO b1 7 _ (by omega)
    have q2' : Blk W4 b1 #[.int .i64 nu, .int .i64 ti, .int .i64 si, .bool el, .bool co, .bool pr, .int .i64 tl, .slice a' 0 c'] 36 := by rw [hW4]; exact q2
    have fv0 : FvAt (fun b => W2.heap.size ≤ b) W4 (.slice a' 0 c') fs := by
      have hf : fs = [] := List.length_eq_zero_iff.1 (by rw [← unhide HN])
      subst hf
      exact ⟨Nat.zero_le _, a', c', [], rfl, ⟨rfl, fun i c f hc => (by simp at hc)⟩, rdv_nil _ _, fun q => absurd rfl q⟩
    have E := hide (unhide FIN W4 gx4 z4 fv0)
    have Z4 := hide z4
    have hnI : ¬ (0 : Int) < ((0 : Nat) : Int) := by omega
    obtain ⟨p0, p1, p2, p3, p4, p5, p6, p7⟩ : W4.cell? ⟨b1, 0, none⟩ = some (.int .i64 nu) ∧ W4.cell? ⟨b1, 1, none⟩ = some (.int .i64 ti) ∧ W4.cell? ⟨b1, 2, none⟩ = some (.int .i64 si) ∧ W4.cell? ⟨b1, 3, none⟩ = some (.bool el) ∧ W4.cell? ⟨b1, 4, none⟩ = some (.bool co) ∧ W4.cell? ⟨b1, 5, none⟩ = some (.bool pr) ∧ W4.cell? ⟨b1, 6, none⟩ = some (.int .i64 tl) ∧ W4.cell? ⟨b1, 7, none⟩ = some (.slice a' 0 c') := ⟨q2'.cell 0 _ rfl, q2'.cell 1 _ rfl, q2'.cell 2 _ rfl, q2'.cell 3 _ rfl, q2'.cell 4 _ rfl, q2'.cell 5 _ rfl, q2'.cell 6 _ rfl, q2'.cell 7 _ rfl⟩
    clear nl q1 q2 q3 e1 gx4 z4 q2' fv0 LO FIN
    go_upto_region 3 with fail
    rw [← hW4]
    clear hW4 c73 c74 t7
    go_loopw [12] (fun iv wr => iv = .int .i64 0 ∧ wr = W4) (fun iv _ => 0)
    case atStart => exact ⟨rfl, rfl⟩
    case round =>
      obtain ⟨rfl, hwr⟩ := hrel
      replace hwr := hwr.symm
      subst hwr
      go_wp2_with (refine wpList_store_row rfl _ _ _ rfl (b1 + 1) #[.int .i64 nu, .int .i64 ti, .int .i64 si, .bool el, .bool co, .bool pr, .int .i64 tl, .slice a' 0 c'] rfl rfl 36 _ (unhide Z4) Try.sizeSent rfl (by simp [Value.oneCell']) ?_)
      refine bodyPost_ret (results_cell_row rfl _ _ (b1 + 1) 36 #[.int .i64 nu, .int .i64 ti, .int .i64 si, .bool el, .bool co, .bool pr, .int .i64 tl, .slice a' 0 c'] (0, 0) _ rfl (unhide E).2.2 Try.underlying36 rfl Try.sizeSent) rfl ?_
      exact ⟨a', c', rfl, (unhide E).1, (unhide E).2.1⟩
  · obtain ⟨g, hg1, hg2, hg3⟩ : ∃ g, a' = some ⟨g, 0, none⟩ ∧ W2.heap.size ≤ g ∧ Blk W3 g css.flatten.toArray 83 := by
      rcases (unhide LO).1.1 with ⟨e1, _⟩ | ⟨_, g, e2, e3, e4⟩
      · exact absurd e1 h0
      · injection e2 with e5
        exact ⟨g, e5, e3, e4⟩
    subst hg1
    obtain ⟨W4, hW4⟩ : ∃ W4, W4 = W3.setCell ⟨b1, 7, none⟩ (.slice (some ⟨g, 0, none⟩) n c') := ⟨_, rfl⟩
    have b1g : b1 ≠ g ∧ b1 + 1 ≠ g ∧ X.heap.size ≤ W2.heap.size := by have := unhide sz2; have := unhide hb1; omega
    have C0 : Hid (CI X W2.heap.size g css fs 0 W4 ∧ Blk W4 b1 #[.int .i64 nu, .int .i64 ti, .int .i64 si, .bool el, .bool co, .bool pr, .int .i64 tl, .slice (some ⟨g, 0, none⟩) n c'] 36 ∧ Blk W4 (b1 + 1) #[.int .i64 0, .int .i64 0, .int .i64 0, .bool false, .bool false, .bool false, .int .i64 0, .slice none 0 0] 36) := by
      obtain ⟨nl, q1, q2, q3⟩ := unhide LO
      have gx3 := grown_trans (unhide G2) nl.2
      have gx4 : X.grownBy W4 none := by rw [hW4]; exact grown_set gx3 _ _ _ (by rw [unhide hb1]; exact Nat.le_refl _)
      refine ⟨⟨gx4, ?_, (unhide FR).len, fun j c f hj => by omega, fun j cc f _ hc hf => (((unhide FR).at_ j cc f hc hf).own.mono fun b hb => (by have := b1g.2.2; omega)).grown gx4, hg2, b1g.2.2⟩, by rw [hW4]; exact q2, by rw [hW4]; exact q3.setO b1 7 _ (by omega)⟩
      rw [hW4]
      exact hg3.setO b1 7 _ b1g.1
    have c74' : W4.cell? ⟨b1, 7, none⟩ = some (.slice (some ⟨g, 0, none⟩) n c') := by rw [hW4]; exact c74
    clear c74
    go_upto_region 3 with fail
    rw [← hW4]
    clear hW4 c74' c73 t7 LO hg3
    go_loopw [12] (fun iv wr => ∃ (k : Nat) (css : List (List Value)), k ≤ n ∧ iv = .int .i64 k ∧ Hid (CI X W2.heap.size g css fs k wr ∧ Blk wr b1 #[.int .i64 nu, .int .i64 ti, .int .i64 si, .bool el, .bool co, .bool pr, .int .i64 tl, .slice (some ⟨g, 0, none⟩) n c'] 36 ∧ Blk wr (b1 + 1) #[.int .i64 0, .int .i64 0, .int .i64 0, .bool false, .bool false, .bool false, .int .i64 0, .slice none 0 0] 36)) (fun iv _ => n - (intOf iv).toNat)
    case atStart => exact ⟨0, css, Nat.zero_le _, rfl, C0⟩
    case round =>
      clear C0
      obtain ⟨k, cs, hk, rfl, I⟩ := hrel
      by_cases hlt : k < n
      · have hkI : (k : Int) < (n : Int) := by omega
        obtain ⟨ci, q1, q2⟩ := unhide I
        obtain ⟨c, f, dv, rv, hc, hf, wf, e, l1, l2, x3, x12⟩ := ci.look (by rw [← unhide HN]; exact hlt)
        obtain ⟨da, dn, dc, rfl, ld, rd1, -⟩ := l1.ex
        obtain ⟨ra, rn, rc, rfl, lr, rd2, -⟩ := l2.ex
        have hlb := fun Z (gZ : wr.grownBy Z none) => listB_any Z da dn dc f.d ld (rd1.grown gZ) (fun v hv => wf.one v (by simp [hv])) (by have := wf.nd; omega)
        have hlr := fun Z (gZ : wr.grownBy Z none) => listR_any Z ra rn rc f.r lr (rd2.grown gZ) (fun v hv => wf.one v (by simp [hv])) (by obtain ⟨m, h1, h2⟩ := wf.nr; omega)
        have y7 : wr.cell? ⟨b1, 7, none⟩ = some (.slice (some ⟨g, 0, none⟩) n c') := q1.cell 7 _ rfl
        have t3 := ci.blk.thaw (k * 17 + 3)
        have t12 := ci.blk.thaw (k * 17 + 12)
        have HH := hide (And.intro hc (And.intro hf (And.intro wf (And.intro e (And.intro ld lr)))))
        have HI := hide (unhide I)
        clear I ci q1 q2 l1 l2 rd1 rd2 hc hf wf e ld lr
        go_upto_region 6 with fail
        go_region_with (first
          | (go_at_call 52; refine (hlb _ (by first | with_reducible exact grown_self _ _ | with_reducible exact grown_drew' (grown_self _ _) | with_reducible exact grown_dN _ _)).mono ?_; rintro e Y1 ⟨v1, rfl, nl1⟩; obtain ⟨a1, c1, hv1⟩ := nl1.sh; subst hv1; have gY1 : wr.grownBy Y1 none := grown_trans (by first | with_reducible exact grown_self _ _ | with_reducible exact grown_drew' (grown_self _ _) | with_reducible exact grown_dN _ _) nl1.2; have x3a := cell_grown x3 gY1; have x12a := cell_grown x12 gY1; have G1 := hide gY1; have NL1 := hide nl1; clear nl1 gY1)
          | (go_at_call 53; refine (hlr _ (by first | with_reducible exact unhide G1 | with_reducible exact grown_drew' (unhide G1))).mono ?_; rintro e Y2 ⟨v2, rfl, nl2⟩; obtain ⟨a2, c2, hv2⟩ := nl2.sh; subst hv2; have gY2 : Y1.grownBy Y2 none := grown_trans (by first | with_reducible exact grown_self _ _ | with_reducible exact grown_drew' (grown_self _ _) | with_reducible exact grown_dN _ _) nl2.2; have x12b := cell_grown x12a gY2; have NL2 := hide nl2; have bY2 := (unhide HI).1.blk.grown (grown_trans (unhide G1) gY2); have x3b := cell_grown x3a gY2; have t3b := bY2.thaw (k * 17 + 3); have x12c := bY2.cell_ne (i := k * 17 + 3) (u := .slice a1 dn c1) (bY2.inv x12b) (by omega); have t12c := (bY2.setC (k * 17 + 3) (.slice a1 dn c1)).thaw (k * 17 + 12); have GY2 := hide gY2; clear nl2 gY2 bY2))
        all_goals go_wp2_with fail
        all_goals
          obtain ⟨ci, q1, q2⟩ := unhide HI
          obtain ⟨hc, hf, wf, e, ld, lr⟩ := unhide HH
          have nl1 := unhide NL1
          have nl2 := unhide NL2
          have cc := ci.copy hc hf wf e ld lr (by first | with_reducible exact grown_self _ _ | with_reducible exact grown_drew' (grown_self _ _)) nl1 (by first | with_reducible exact grown_self _ _ | with_reducible exact grown_drew' (grown_self _ _)) nl2
          have gg := grown_trans (unhide G1) (unhide GY2)
          exact ⟨⟨k + 1, _, hlt, rfl, cc, ((q1.grown gg).setO g _ _ (by omega)).setO g _ _ (by omega), ((q2.grown gg).setO g _ _ (by omega)).setO g _ _ (by omega)⟩, by simp [intOf]; omega⟩
      · obtain rfl : k = n := by omega
        have hkI : ¬ (k : Int) < (k : Int) := by omega
        obtain ⟨ci, q1, q2⟩ := unhide I
        obtain ⟨p0, p1, p2, p3, p4, p5, p6, p7⟩ : wr.cell? ⟨b1, 0, none⟩ = some (.int .i64 nu) ∧ wr.cell? ⟨b1, 1, none⟩ = some (.int .i64 ti) ∧ wr.cell? ⟨b1, 2, none⟩ = some (.int .i64 si) ∧ wr.cell? ⟨b1, 3, none⟩ = some (.bool el) ∧ wr.cell? ⟨b1, 4, none⟩ = some (.bool co) ∧ wr.cell? ⟨b1, 5, none⟩ = some (.bool pr) ∧ wr.cell? ⟨b1, 6, none⟩ = some (.int .i64 tl) ∧ wr.cell? ⟨b1, 7, none⟩ = some (.slice (some ⟨g, 0, none⟩) k c') := ⟨q1.cell 0 _ rfl, q1.cell 1 _ rfl, q1.cell 2 _ rfl, q1.cell 3 _ rfl, q1.cell 4 _ rfl, q1.cell 5 _ rfl, q1.cell 6 _ rfl, q1.cell 7 _ rfl⟩
        have Q2 := hide q2
        have fvn : FvAt (fun b => W2.heap.size ≤ b) wr (.slice (some ⟨g, 0, none⟩) k c') fs := by
          have hk := unhide HN
          subst hk
          exact ci.fv hn c'
        have E := hide (unhide FIN wr ci.gr q2 fvn)
        clear I ci q1 q2 fvn FIN
        go_wp2_with (refine wpList_store_row rfl _ _ _ rfl (b1 + 1) #[.int .i64 nu, .int .i64 ti, .int .i64 si, .bool el, .bool co, .bool pr, .int .i64 tl, .slice (some ⟨g, 0, none⟩) k c'] rfl rfl 36 _ (unhide Q2) Try.sizeSent rfl (by simp [Value.oneCell']) ?_)
        refine bodyPost_ret (results_cell_row rfl _ _ (b1 + 1) 36 #[.int .i64 nu, .int .i64 ti, .int .i64 si, .bool el, .bool co, .bool pr, .int .i64 tl, .slice (some ⟨g, 0, none⟩) k c'] (0, 0) _ rfl (unhide E).2.2 Try.underlying36 rfl Try.sizeSent) rfl ?_
        exact ⟨_, c', rfl, (unhide E).1, (unhide E).2.1⟩
end
end Go.Proofs.Ytnflbefbgcbdfaa
