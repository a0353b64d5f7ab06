/- Road: Next, Delay. -/
import Derived.Test.YtbdjlhkgpblebaaDoorY2K
namespace Go.Proofs.YtbdjlhkgpblebaaDoor
open Go.RowKit Go.Shelf Go.Maps
set_option linter.unusedVariables false
set_option linter.unusedSimpArgs false
set_option maxRecDepth 100000
set_option maxHeartbeats 1000000

/-- Another datagram at a place. -/
def updA (A : List (Gm × Nat)) (p : Nat) (g' : Gm) : List (Gm × Nat) := A.map fun q => if q.2 = p then (g', q.2) else q
theorem updA_snd (A : List (Gm × Nat)) (p : Nat) (g' : Gm) : (updA A p g').map Prod.snd = A.map Prod.snd := by
  unfold updA
  rw [List.map_map]
  apply List.map_congr_left
  intro q _
  simp only [Function.comp_def]
  split <;> rfl
theorem updA_mem {A : List (Gm × Nat)} {p : Nat} {g' : Gm} {x : Gm × Nat} (h : x ∈ updA A p g') : (x = (g', p)) ∨ (x ∈ A ∧ x.2 ≠ p) := by
  obtain ⟨q, hq, rfl⟩ := List.mem_map.1 h
  by_cases e : q.2 = p
  · rw [if_pos e]; left; rw [e]
  · rw [if_neg e]; exact .inr ⟨hq, e⟩
theorem updA_tm : ∀ (A : List (Gm × Nat)) (p : Nat) (g' : Gm), (A.map Prod.snd).Nodup → p ∈ A.map Prod.snd → (tmA (updA A p g')).Perm ((p, g'.at_) :: tmA (rest A p))
  | [], p, g', _, h => by simp at h
  | q :: A, p, g', hnd, h => by
    rw [List.map_cons, List.nodup_cons] at hnd
    by_cases e : q.2 = p
    · have hno : ∀ x ∈ A, x.2 ≠ p := fun x hx e2 => hnd.1 (by rw [e, ← e2]; exact List.mem_map.2 ⟨x, hx, rfl⟩)
      have e1 : updA (q :: A) p g' = (g', p) :: A := by
        unfold updA
        rw [List.map_cons, if_pos e, e]
        congr 1
        conv => rhs; rw [← List.map_id A]
        exact List.map_congr_left (fun x hx => by rw [if_neg (hno x hx)]; rfl)
      have e2 : rest (q :: A) p = A := by
        unfold rest
        rw [List.filter_cons, if_neg (by simp [e]), List.filter_eq_self.2 (fun x hx => by simpa using hno x hx)]
      rw [e1, e2]
      exact List.Perm.refl _
    · have h2 : p ∈ A.map Prod.snd := by
        rw [List.map_cons] at h
        rcases List.mem_cons.1 h with h | h
        · exact absurd h.symm e
        · exact h
      have ih := updA_tm A p g' hnd.2 h2
      have e1 : updA (q :: A) p g' = q :: updA A p g' := by
        unfold updA
        rw [List.map_cons, if_neg e]
      have e2 : rest (q :: A) p = q :: rest A p := by
        unfold rest
        rw [List.filter_cons, if_pos (by simpa using e)]
      rw [e1, e2]
      unfold tmA at ih ⊢
      rw [List.map_cons, List.map_cons]
      exact (ih.cons _).trans (List.Perm.swap _ _ _)

section
variable {b : Nat} {w w' : World} {r W mb : Nat} {vl vf : Value} {Sw Sw' : Nat → Prop} {c : Nat} {T T' : List Tm} {A : List (Gm × Nat)} {LY : List Gm} {FR : List Nat} {k now sp nx : Nat} {S : Nat → Prop} {R : Rs}

theorem updA_fst (h : RP b w r W mb vl vf Sw c T A LY FR k now sp nx) {g g' : Gm} {p : Nat} (hq : (g, p) ∈ A) : (updA A p g').map Prod.fst = (A.map Prod.fst).map fun x => if x.id = g.id then g' else x := by
  unfold updA
  rw [List.map_map, List.map_map]
  apply List.map_congr_left
  intro q hq2
  simp only [Function.comp_def]
  by_cases e : q.2 = p
  · have := h.pl2 q hq2 (g, p) hq e
    subst this
    simp
  · have : q.1.id ≠ g.id := fun e2 => e (by rw [h.ids2 q hq2 (g, p) hq e2])
    rw [if_neg e, if_neg this]
theorem updA_ids (h : RP b w r W mb vl vf Sw c T A LY FR k now sp nx) {g g' : Gm} {p : Nat} (hq : (g, p) ∈ A) (hid : g'.id = g.id) : (updA A p g').map (fun q => (q.1.id, q.2)) = A.map fun q => (q.1.id, q.2) := by
  unfold updA
  rw [List.map_map]
  apply List.map_congr_left
  intro q hq2
  simp only [Function.comp_def]
  by_cases e : q.2 = p
  · have := h.pl2 q hq2 (g, p) hq e
    subst this
    simp [hid]
  · rw [if_neg e]
theorem RP.upd (h : RP b w r W mb vl vf Sw c T A LY FR k now sp nx) {g g' : Gm} {p : Nat} (hq : (g, p) ∈ A) (hid : g'.id = g.id) (hok : g'.Ok)
    (hr : Blk w' r (rdc now sp nx W mb vl vf) 51) (hm : Mq w' mb (A.map fun q => (q.1.id, q.2))) (hl : w'.ownsRow b 56 5 vl (LY.set p g').length (clG (LY.set p g'))) (hf : w'.ownsRow b 3 1 vf FR.length (plV FR)) (hw : Wl b w' Sw' W c T') (hn : ∀ g, OW r mb vl vf g → ¬ Sw' g) :
    RP b w' r W mb vl vf Sw' c T' (updA A p g') (LY.set p g') FR k now sp nx := by
  have hlt := (List.getElem?_eq_some_iff.1 (h.at_ _ hq)).1
  refine { h with blk := hr, wl := hw, mp := by rw [updA_ids h hq hid]; exact hm, ly := hl, fr := hf, ids := fun x hx => ?_, asc := ?_, at_ := fun x hx => ?_, nd := by rw [updA_snd]; exact h.nd, lt := fun x hx => by rw [List.length_set]; exact h.lt x hx, len := by rw [List.length_set, show (updA A p g').length = A.length by simp [updA]]; exact h.len, l4 := by rw [List.length_set]; exact h.l4, gm := fun x hx => ?_, ne1 := hn r (.inl rfl), ne2 := hn mb (.inr (.inl rfl)), ne3 := fun g e => hn g (.inr (.inr (.inl e))), ne4 := fun g e => hn g (.inr (.inr (.inr e))) }
  · rcases updA_mem hx with rfl | ⟨hx, -⟩
    · have := h.ids _ hq; simp only at this ⊢; omega
    · exact h.ids x hx
  · have e : (updA A p g').map (fun q => q.1.id) = A.map fun q => q.1.id := by
      have := congrArg (List.map Prod.fst) (updA_ids h hq hid)
      rw [List.map_map, List.map_map] at this
      exact this
    have := h.asc
    rw [← List.pairwise_map (f := fun q : Gm × Nat => q.1.id) (R := fun x y => x < y)] at this ⊢
    rw [e]; exact this
  · rcases updA_mem hx with rfl | ⟨hx, hne⟩
    · rw [List.getElem?_set_self]; exact hlt
    · rw [List.getElem?_set_ne (Ne.symm hne)]; exact h.at_ x hx
  · rcases updA_mem hx with rfl | ⟨hx, -⟩
    · exact hok
    · exact h.gm x hx

/-- A cell of the one that lies at p is turned: the row. -/
theorem ly_turn {vl : Value} {p j : Nat} {g g' : Gm} {v : Value} (h : w.ownsRow b 56 5 vl LY.length (clG LY)) (hp : LY[p]? = some g) (hj : j < 5) (e : g.cs.toList.set j v = g'.cs.toList) :
    ∃ gl cl, vl = .slice (some ⟨gl, 0, none⟩) LY.length cl ∧ LY.length ≤ cl ∧ cl ≤ 9223372036854775807 ∧ gl < w.heap.size ∧ w.frozen? ⟨gl, p * 5 + j, none⟩ = false ∧ (w.cell? ⟨gl, p * 5 + j, none⟩).isSome = true ∧
      (w.setCell ⟨gl, p * 5 + j, none⟩ v).ownsRow b 56 5 vl (LY.set p g').length (clG (LY.set p g')) ∧ (∀ i, i ≠ gl → (w.setCell ⟨gl, p * 5 + j, none⟩ v).heap[i]? = w.heap[i]?) := by
  obtain ⟨gl, cl, hvl, lcl, c63, bgl, gllt, X, Y, bl, hXl, SET⟩ := ly_mid h hp
  have b2 := bl.setC (p * 5 + j) v
  have h5 : g.cs.toList.length = 5 := rfl
  have e2 : ((X ++ (g.cs.toList ++ Y)).toArray.setIfInBounds (p * 5 + j) v) = (X ++ (g'.cs.toList ++ Y)).toArray := by
    rw [← e, hXl, List.setIfInBounds_toArray]
    congr 1
    rw [List.set_append_right _ _ (by omega), Nat.add_sub_cancel_left, List.set_append_left _ _ (by omega)]
  rw [e2] at b2
  refine ⟨gl, cl, hvl, lcl, c63, gllt, bl.thaw _, ?_, SET _ g' b2, fun i hi => set_heap w gl _ v i hi⟩
  unfold World.cell?
  rw [show w.heap[gl]? = _ from bl]
  simp only [List.getElem?_toArray]
  rw [List.getElem?_append_right (by omega), List.getElem?_append_left (by omega), List.getElem?_eq_getElem (by omega)]
  rfl

theorem next_ri (h : RI b w S r R) (ht : Tb w) : Calls Tryd.prog 12 #[ptr r] w fun e w' => ∃ T : List Tm, e = .returned (.int .i64 (nextT T : Nat)) ∧ T.Pairwise ltT ∧ (T.map Prod.snd).Perm (R.B.map Gm.at_) ∧ w.grownBy w' none := by
  obtain ⟨W, mb, vl, vf, Sw, c, T, A, LY, FR, h1, h2, h3, h4⟩ := h.ex
  have hc := wl_next b w Sw W c T h1.wl ht
  have c3 := h1.cells.2.2.2.1
  have srt := h1.wl.srt
  have pm : (T.map Prod.snd).Perm (R.B.map Gm.at_) := by
    rw [← h3, List.map_map]
    have := h2.map Prod.snd
    unfold tmA at this
    rw [List.map_map] at this
    exact this
  have E := hide (And.intro srt pm)
  clear h1 h2 h3 h4 h srt pm
  generalize hN : nextT T = N at *
  have HN := hide hN
  clear hN
  go_enter Tryd.func12, Tryd.ntmps12
  go_wp2_with fail
  refine hc.mono ?_
  rintro e w' ⟨rfl, g⟩
  clear hc
  go_wp2_with fail
  go_ret
  exact ⟨T, by rw [unhide HN]; rfl, (unhide E).1, (unhide E).2, g⟩
end
end Go.Proofs.YtbdjlhkgpblebaaDoor
