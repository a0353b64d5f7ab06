/- Road: Delay. -/
import Derived.Test.YtbdjlhkgpblebaaDoorY2L
namespace Go.Proofs.YtbdjlhkgpblebaaDoor
open Go.RowKit Go.Shelf Go.Maps
set_option linter.unusedVariables false
set_option linter.unusedSimpArgs false
set_option maxRecDepth 100000
set_option maxHeartbeats 1000000
section
variable {b : Nat} {w w' : World} {r W mb : Nat} {vl vf : Value} {Sw Sw' : Nat → Prop} {c : Nat} {T T' : List Tm} {A : List (Gm × Nat)} {LY : List Gm} {FR : List Nat} {k now sp nx : Nat} {S : Nat → Prop} {R : Rs}

theorem hasB_iff (R : Rs) (id : Int) : hasB R id = true ↔ ∃ g ∈ R.B, (g.id : Int) = id := by
  unfold hasB
  rw [List.any_eq_true]
  constructor
  · rintro ⟨g, h1, h2⟩; exact ⟨g, h1, by simpa using h2⟩
  · rintro ⟨g, h1, h2⟩; exact ⟨g, h1, by simpa using h2⟩
theorem delayS_no {R : Rs} {id a : Int} (h : hasB R id = false) : delayS R id a = R := by
  unfold delayS
  split
  · have : (R.B.map fun g => if (g.id : Int) = id then { g with at_ := a.toNat } else g) = R.B := by
      conv => rhs; rw [← List.map_id R.B]
      apply List.map_congr_left
      intro g hg
      have : ¬ (g.id : Int) = id := fun e => by have := (hasB_iff R id).2 ⟨g, hg, e⟩; rw [h] at this; cases this
      rw [if_neg this]; rfl
    rw [this]
  · rfl

/-- What a call leaves. -/
def CallP (b : Nat) (w : World) (S : Nat → Prop) (r : Nat) (R' : Rs) (v : Value) (e : Ending) (w' : World) : Prop := e = .returned v ∧ ∃ S', RI b w' S' r R' ∧ St w w' S S'

theorem delay_no (h : RI b w S r R) (id a : Int) (hw : wfI id) (hh : hasB R id = false) :
    Calls Tryd.prog 13 #[ptr r, .int .i64 id, .int .i64 a] w fun e w' => e = .returned (.int .i64 4) ∧ w' = w := by
  obtain ⟨W, mb, vl, vf, Sw, c, T, A, LY, FR, h1, h2, h3, h4⟩ := h.ex
  have c4 := h1.cells.2.2.2.2.1
  have hno : ∀ n ∈ (A.map (fun q => (q.1.id, q.2)) : List (Nat × Nat)), (n.1 : Int) ≠ id := by
    intro n hn e
    obtain ⟨q, hq, rfl⟩ := List.mem_map.1 hn
    have := (hasB_iff R id).2 ⟨q.1, by rw [← h3]; exact List.mem_map.2 ⟨q, hq, rfl⟩, e⟩
    rw [hh] at this; cases this
  have mp := h1.mp
  generalize (A.map fun q => (q.1.id, q.2)) = AL at *
  clear h1 h2 h3 h4 h hh
  go_enter Tryd.func13, Tryd.ntmps13
  go_wp2_with (at_lookup; refine wpList_lookQ_no _ rfl _ _ rfl mb AL mp id hw rfl rfl hno ?_)
  go_ret
  exact ⟨rfl, rfl⟩

theorem delay_far (h : RI b w S r R) (id : Nat) (a : Int) (hh : hasB R (id : Int) = true) (hnx : R.nx ≤ 4611686018427387904) (ha : ¬ atOk a) :
    Calls Tryd.prog 13 #[ptr r, .int .i64 (id : Int), .int .i64 a] w fun e w' => e = .returned (.int .i64 1) ∧ w' = w := by
  obtain ⟨W, mb, vl, vf, Sw, c, T, A, LY, FR, h1, h2, h3, h4⟩ := h.ex
  have c4 := h1.cells.2.2.2.2.1
  obtain ⟨g, hg, hid⟩ := (hasB_iff R _).1 hh
  rw [← h3] at hg
  obtain ⟨q, hq, rfl⟩ := List.mem_map.1 hg
  have hidn : q.1.id = id := by omega
  have hmem : (id, q.2) ∈ (A.map (fun q => (q.1.id, q.2)) : List (Nat × Nat)) := List.mem_map.2 ⟨q, hq, by rw [hidn]⟩
  have hlt : id < 4611686018427387904 := by have := h1.ids q hq; omega
  have mp := h1.mp
  have MP := hide (And.intro mp (And.intro hmem hlt))
  have arr := isArr_any a w
  rw [decide_eq_false ha] at arr
  obtain ⟨p, hp⟩ : ∃ p, p = q.2 := ⟨_, rfl⟩
  rw [← hp] at MP
  clear h1 h2 h3 h4 h hh mp hmem hlt hg hid hidn hp hq ha
  go_enter Tryd.func13, Tryd.ntmps13
  go_wp2_with (first
    | (at_lookup; refine wpList_lookQ_yes _ rfl _ _ rfl mb _ (unhide MP).1 (id, p) (unhide MP).2.1 (unhide MP).2.2 rfl rfl ?_)
    | (go_at_call 23; refine arr.mono ?_; rintro e W1 ⟨rfl, hw⟩; subst hw))
  go_ret
  exact ⟨rfl, rfl⟩
theorem delay_ok (h : RI b w S r R) (id t : Nat) (hh : hasB R (id : Int) = true) (hnx : R.nx ≤ 4611686018427387904) (ha : t < 4611686018427387904) :
    Calls Tryd.prog 13 #[ptr r, .int .i64 (id : Int), .int .i64 (t : Int)] w (CallP b w S r (delayS R id t) (.int .i64 0)) := by
  obtain ⟨W, mb, vl, vf, Sw, c, T, A, LY, FR, h1, h2, h3, h4⟩ := h.ex
  have c4 := h1.cells.2.2.2.2.1
  have c5 := h1.cells.2.2.2.2.2.1
  obtain ⟨g, hg, hid⟩ := (hasB_iff R _).1 hh
  rw [← h3] at hg
  obtain ⟨⟨g0, p⟩, hq, hgq⟩ := List.mem_map.1 hg
  simp only at hgq
  subst hgq
  have hidn : g0.id = id := by omega
  have hmem : (id, p) ∈ (A.map (fun q => (q.1.id, q.2)) : List (Nat × Nat)) := List.mem_map.2 ⟨(g0, p), hq, by rw [← hidn]⟩
  have hlt : id < 4611686018427387904 := by have := h1.ids _ hq; simp only at this; omega
  have hp := h1.at_ _ hq
  simp only at hp
  have plt := (List.getElem?_eq_some_iff.1 hp).1
  have l4 := h1.l4
  obtain ⟨g', hg'⟩ : ∃ g' : Gm, g' = { g0 with at_ := t } := ⟨_, rfl⟩
  have ecs : g0.cs.toList.set 2 (.int .i64 (t : Int)) = g'.cs.toList := by rw [hg']; rfl
  obtain ⟨gl, cl, hvl, lcl, c63, gllt, fz, sm, ro1, oth⟩ := ly_turn h1.ly hp (by omega : 2 < 5) ecs
  obtain ⟨W1, hW1⟩ : ∃ W1, W1 = w.setCell ⟨gl, p * 5 + 2, none⟩ (.int .i64 (t : Int)) := ⟨_, rfl⟩
  rw [← hW1] at ro1 oth
  have sz1 : W1.heap.size = w.heap.size := by rw [hW1, set_size]
  have ns := h1.nes
  have hgl : ∀ i, vl.ownBlock ≠ some i → i ≠ gl := fun i h e => h (by rw [hvl, e]; rfl)
  have r1 : Blk W1 r (rdc R.now R.sp R.nx W mb vl vf) 51 := (oth r (hgl r ns.2.1)).trans h1.blk
  have wl1 : Wl b W1 Sw W c T := h1.wl.kept (by omega) (fun i hi => oth i (fun e => h1.ne3 i (by rw [hvl, e]; rfl) hi))
  have mp1 : Mq W1 mb (A.map fun q => (q.1.id, q.2)) := h1.mp.kept (oth mb (hgl mb ns.2.2.2.1))
  have fr1 := rows_kept h1.fr (fun i e => oth i (hgl i (fun e2 => ns.2.2.2.2.2 i e2 e)))
  have hp2 : (LY.set p g')[p]? = some g' := by rw [List.getElem?_set_self]; exact plt
  have gat : g'.at_ = t := by rw [hg']
  have arm := arm_any (b := b) (w := W1) (r := r) (W := W) (mb := mb) (vl := vl) (vf := vf) (Sw := Sw) (c := c) (T := T) (LY := LY.set p g') (now := R.now) (sp := R.sp) (nx := R.nx) h1.ne1 h1.ne3 r1 wl1 ro1 p g' hp2 (by rw [List.length_set]; exact l4)
  have FIN := hide (fun (W2 : World) (Sw2 : Nat → Prop) (wl2 : Wl b W2 Sw2 W c (armT T p g'.at_)) (st2 : St W1 W2 Sw Sw2) => show ∃ S', RI b W2 S' r (delayS R id t) ∧ St w W2 S S' from by
    have o2 : ∀ i, i < w.heap.size → ¬ Sw i → i ≠ gl → W2.heap[i]? = w.heap[i]? := fun i h1 h2 h3 => (st2.kp.block i (by omega) h2).trans (oth i h3)
    have k2 : ∀ i, i < w.heap.size → ¬ Sw i → W2.heap[i]? = W1.heap[i]? := fun i h1 h2 => st2.kp.block i (by omega) h2
    have sz2 := st2.kp.size
    have q := h1.upd (w' := W2) (Sw' := Sw2) (T' := armT T p g'.at_) (g := g0) (g' := g') hq (by rw [hg']) (by rw [hg']; have := h1.gm _ hq; exact ⟨this.b, this.l, ha⟩) ((k2 r h1.blk.lt h1.ne1).trans r1) (mp1.kept (k2 mb h1.mp.lt h1.ne2)) (rows_kept ro1 (fun i e => k2 i (h1.ly.lt i e).2 (h1.ne3 i e))) (rows_kept fr1 (fun i e => k2 i (h1.fr.lt i e).2 (h1.ne4 i e))) wl2 (fun i hi hs => by
      have hlt := (h1.olt i (.inr hi)).2
      rcases st2.dn i hs with e | e
      · rcases hi with rfl | rfl | e2 | e2
        · exact h1.ne1 e
        · exact h1.ne2 e
        · exact h1.ne3 i e2 e
        · exact h1.ne4 i e2 e
      · omega)
    have nd := h1.nd
    rw [List.nodup_append] at nd
    have tp : (armT T p g'.at_).Perm (tmA (updA A p g')) := (armT_perm h2 p g'.at_ (by omega) (by rw [gat]; exact ha)).trans (updA_tm A p g' nd.1 (List.mem_map.2 ⟨(g0, p), hq, rfl⟩)).symm
    have eB : (updA A p g').map Prod.fst = (delayS R id t).B := by
      rw [updA_fst h1 hq, h3]
      unfold delayS
      rw [if_pos (show atOk (t : Int) from ⟨by omega, by omega⟩)]
      simp only
      apply List.map_congr_left
      intro x hx
      by_cases e : x.id = g0.id
      · have e2 : (x.id : Int) = (id : Int) := by omega
        have ex : x = g0 := by
          rw [← h3] at hx
          obtain ⟨y, hy, rfl⟩ := List.mem_map.1 hx
          rw [h1.ids2 y hy (g0, p) hq e]
        rw [if_pos e, if_pos e2, hg', ex]
        simp
      · have e2 : ¬ (x.id : Int) = (id : Int) := by omega
        rw [if_neg e, if_neg e2]
    have eR : (delayS R id t).now = R.now ∧ (delayS R id t).sp = R.sp ∧ (delayS R id t).nx = R.nx := by unfold delayS; split <;> exact ⟨rfl, rfl, rfl⟩
    refine ⟨fun i => S i ∨ Sw2 i, ⟨⟨W, mb, vl, vf, Sw2, c, _, _, _, _, by rw [eR.1, eR.2.1, eR.2.2]; exact q, tp, eB, fun i hi => ?_⟩, fun i hi => ?_⟩, ⟨⟨?_, ?_, ?_, by omega, fun i h5 h6 => ?_⟩, fun i hi => .inl hi, fun i hi => ?_⟩⟩
    · rcases hi with hi | hi
      · exact .inr hi
      · exact .inl (h4 i (.inr hi))
    · rcases hi with hi | hi
      · have := h.lt i hi; exact ⟨this.1, by omega⟩
      · exact wl2.lt i hi
    · rw [st2.kp.os, hW1]; rfl
    · rw [st2.kp.tape, hW1]; rfl
    · rw [st2.kp.output, hW1]; rfl
    · exact o2 i h5 (fun e => h6 (h4 i (.inl e))) (fun e => h6 (h4 i (.inr (.inr (.inr (.inl (by rw [hvl, e]; rfl)))))))
    · rcases hi with hi | hi
      · exact .inl hi
      · rcases st2.dn i hi with e | e
        · exact .inl (h4 i (.inl e))
        · exact .inr (by omega))
  have mp := h1.mp
  have MP := hide (And.intro mp (And.intro hmem hlt))
  have arr := isArr_any (t : Int) w
  rw [decide_eq_true (show atOk (t : Int) from ⟨by omega, by omega⟩)] at arr
  have ARM := hide arm
  have HW1 := hide hW1
  have p0 : ¬ (p : Int) < 0 := by omega
  have p1 : (p : Int) < (LY.length : Int) := by omega
  have e5 : w.cell? ⟨r, 5, none⟩ = some (.slice (some ⟨gl, 0, none⟩) LY.length cl) := by rw [c5, hvl]
  obtain ⟨old, hold⟩ : ∃ v, w.cell? ⟨gl, p * 5 + 2, none⟩ = some v := Option.isSome_iff_exists.1 sm
  generalize LY.length = m at *
  unfold CallP
  clear h1 h2 h3 h4 h hh mp hmem hlt hg hid hidn hp hq ha arm hW1 ro1 oth sz1 ns hgl r1 wl1 mp1 fr1 hp2 gat sm c5 hvl hg' ecs hnx plt
  go_enter Tryd.func13, Tryd.ntmps13
  go_upto_region 7 with (first
    | (at_lookup; refine wpList_lookQ_yes _ rfl _ _ rfl mb _ (unhide MP).1 (id, p) (unhide MP).2.1 (unhide MP).2.2 rfl rfl ?_)
    | (go_at_call 23; refine arr.mono ?_; rintro e W1 ⟨rfl, hw⟩; subst hw))
  rw [← unhide HW1]
  go_wp2_with fail
  refine (unhide ARM).mono ?_
  rintro e W2 ⟨rfl, Sw2, wl2, st2⟩
  have F := hide (unhide FIN W2 Sw2 wl2 st2)
  clear FIN ARM wl2 st2
  go_wp2_with fail
  go_ret
  exact ⟨rfl, unhide F⟩
theorem delay_any (h : RI b w S r R) (id : Nat) (a : Int) (hid : id < 4611686018427387904) (hnx : R.nx ≤ 4611686018427387904) :
    Calls Tryd.prog 13 #[ptr r, .int .i64 (id : Int), .int .i64 a] w (CallP b w S r (delayS R id a) (.int .i64 (delayE R id a))) := by
  cases hh : hasB R (id : Int) with
  | false =>
    refine (delay_no h id a (wfQ hid) hh).mono ?_
    rintro e w' ⟨rfl, rfl⟩
    exact ⟨by unfold delayE; rw [if_pos hh], S, by rw [delayS_no hh]; exact h, St.r0 _ _⟩
  | true =>
    by_cases ha : atOk a
    · obtain ⟨h0, h1⟩ := ha
      have ha : atOk a := ⟨h0, h1⟩
      obtain ⟨t, rfl⟩ := Int.eq_ofNat_of_zero_le h0
      refine (delay_ok h id t hh hnx (by omega)).mono ?_
      rintro e w' ⟨rfl, q⟩
      exact ⟨by unfold delayE; rw [if_neg (by rw [hh]; simp), if_pos ha], q⟩
    · refine (delay_far h id a hh hnx ha).mono ?_
      rintro e w' ⟨rfl, rfl⟩
      exact ⟨by unfold delayE; rw [if_neg (by rw [hh]; simp), if_neg ha], S, by unfold delayS; rw [if_neg ha]; exact h, St.r0 _ _⟩
end
end Go.Proofs.YtbdjlhkgpblebaaDoor
