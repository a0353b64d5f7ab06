/- slices.SortFunc of pieces, off the shelf. -/
import Derived.Test.YthihabjegpacaaaGreatT6N
import Derived.Shelf.SlSortCmp.WholeK
import Derived.Shelf.Lay
import Derived.Ground.SlsfProg
namespace Go.Proofs.YthihabjegpacaaaGreat
open Go.Shelf Go.RowKit Go.Lib Go.Sort
set_option linter.unusedVariables false
set_option maxHeartbeats 400000
set_option maxRecDepth 100000

shelf_lay_g SlLaysF0.n6 Slsf 6 at Tryz 49 as Tryz.sortP

theorem ins_0p (v : Value) (w : World) : Calls Tryz.prog 87 #[.slice none 0 0, .int .i64 0, .int .i64 0, v] w fun e w' => e = .returned (.tuple #[]) ∧ w.grownBy w' none := by
  go_enter Tryz.func87, Tryz.ntmps87
  go_wp2
  go_loopw [8] (fun i wr => i = .int .i64 1 ∧ wr = w) (fun i _ => 0)
  case atStart => exact ⟨rfl, rfl⟩
  case round =>
    obtain ⟨rfl, rfl⟩ := hrel
    go_wp2
    refine bodyPost_end (results_none rfl _ _ _) rfl ?_
    exact ⟨rfl, grown_self _ _⟩
theorem pdq_0p (v : Value) (w : World) : Calls Tryz.prog 66 #[.slice none 0 0, .int .i64 0, .int .i64 0, .int .i64 0, v] w fun e w' => e = .returned (.tuple #[]) ∧ w.grownBy w' none := by
  have h := fun W => ins_0p v W
  go_enter Tryz.func66, Tryz.ntmps66
  go_wp2_with fail
  go_loopw [1, 2, 3] (fun i j l wr => i = .int .i64 0 ∧ j = .int .i64 0 ∧ wr = w) (fun i _ _ _ => 0)
  case atStart => exact ⟨rfl, rfl, rfl⟩
  case round =>
    obtain ⟨rfl, rfl, rfl⟩ := hrel
    go_wp2_with fail
    refine (h _).mono ?_
    rintro e w' ⟨rfl, hg⟩
    clear h
    go_wp2_with fail
    refine bodyPost_ret (results_none rfl _ _ _) rfl ?_
    exact ⟨rfl, hg⟩
theorem sort_0p (v : Value) (w : World) : Calls Tryz.prog 49 #[.slice none 0 0, v] w fun e w' => e = .returned (.tuple #[]) ∧ w.grownBy w' none := by
  have h := len_0 w
  have h2 := fun W => pdq_0p v W
  go_enter Tryz.func49, Tryz.ntmps49
  go_wp2_with fail
  refine h.mono ?_
  rintro e w' ⟨rfl, hg⟩
  clear h
  go_wp2_with fail
  refine (h2 _).mono ?_
  rintro e w2 ⟨rfl, hg2⟩
  clear h2
  go_wp2_with fail
  refine bodyPost_end (results_none rfl _ _ _) rfl ?_
  exact ⟨rfl, grown_trans hg hg2⟩

/-- A piece's two cells. -/
def encP (x : He) : List Value := [.int .i64 x.off, .slice (some ⟨x.g, 0, none⟩) x.p.length x.p.length]
instance : Inhabited He := ⟨⟨0, [], 0⟩⟩
def cmpP (x y : He) : Int := if x.off < y.off then -1 else if y.off < x.off then 1 else 0

theorem isNaN_any (x : Int) (w : World) :
    Calls Tryz.prog 55 #[.int .i64 x] w fun e w' => e = .returned (.bool false) ∧ w' = w := by
  go_enter Tryz.func55, Tryz.ntmps55
  go_wp2
  go_ret
  exact ⟨rfl, rfl⟩

theorem compare_any (x y : Int) (w : World) :
    Calls Tryz.prog 36 #[.int .i64 x, .int .i64 y] w fun e w' => e = .returned (.int .i64 (if x < y then -1 else if y < x then 1 else 0)) ∧ w' = w := by
  obtain ⟨r, hr⟩ : ∃ r : Int, r = if x < y then -1 else if y < x then 1 else 0 := ⟨_, rfl⟩
  rw [← hr]
  have HR := hide hr
  clear hr
  go_enter Tryz.func36, Tryz.ntmps36
  go_wp2_with (go_at_call 55; refine (isNaN_any _ _).mono ?_; rintro e w' ⟨rfl, hw'⟩; subst w')
  all_goals go_ret
  all_goals (refine ⟨?_, rfl⟩; rw [unhide HR]; simp [*]; try omega)

theorem closure_any (x y : He) (W : World) : Calls Tryz.prog 50 #[.agg #[.int .i64 x.off, .slice (some ⟨x.g, 0, none⟩) x.p.length x.p.length], .agg #[.int .i64 y.off, .slice (some ⟨y.g, 0, none⟩) y.p.length y.p.length]] W fun e w' => e = .returned (.int .i64 (cmpP x y)) ∧ ∃ q os', w' = grow (W.drewN q) os' := by
  have hcon := fun W' => compare_any x.off y.off W'
  unfold cmpP
  generalize (if x.off < y.off then (-1 : Int) else if y.off < x.off then 1 else 0) = r at hcon ⊢
  go_enter Tryz.func50, Tryz.ntmps50
  go_wp2_with (go_at_call 36; refine (hcon _).mono ?_; rintro e w' ⟨rfl, rfl⟩)
  go_ret
  exact ⟨rfl, 0, _, by rw [alloc_eq_grow, alloc_eq_grow, grow_grow]; rfl⟩

theorem cmpLays_any (blk off size : Nat) (w : World) : CmpLays Tryz.prog 50 #[] encP 2 cmpP blk off size w :=
  fun _ _ _ _ x y => closure_any x y _

theorem ltP (x y : He) : ltOf cmpP x y = decide (x.off < y.off) := by
  unfold ltOf cmpP
  by_cases h1 : x.off < y.off
  · simp [h1]
  · by_cases h2 : y.off < x.off <;> simp [h1, h2]

theorem swoP : SWO (ltOf cmpP) where
  irrefl x := by rw [ltP]; simp
  trans x y z h1 h2 := by rw [ltP] at *; simp at *; omega
  ntrans x y z h1 h2 := by rw [ltP] at *; simp at *; omega

theorem flat_cp (L : List He) : (flatK encP 2 L.toArray).toList = Pq.cl (L.map pcOf) := by
  apply List.ext_getElem?
  intro j
  by_cases hj : j < L.length * 2
  · have h1 : (flatK encP 2 L.toArray).toList[j]? = some ((encP (L.toArray[j / 2]!))[j % 2]!) := by
      have := get_flatK encP 2 L.toArray j (by simpa using hj)
      rw [Array.getElem?_toList, getElem?_pos _ _ (by simpa using hj)]
      rw [getElem!_pos _ _ (by simpa using hj)] at this
      rw [this]
    have hd : j / 2 < L.length := by omega
    have e : L.toArray[j / 2]! = L[j / 2] := by
      rw [getElem!_pos _ _ (by simpa using hd)]
      simp
    rw [h1, e]
    have hx : (L.map pcOf)[j / 2]? = some (pcOf L[j / 2]) := by rw [List.getElem?_map, List.getElem?_eq_getElem hd]; rfl
    rcases Nat.mod_two_eq_zero_or_one j with h | h
    · rw [h]
      have := Pq.cl_off (L.map pcOf) (j / 2) _ hx
      rw [show j / 2 * 2 = j by omega] at this
      rw [this]
      rfl
    · rw [h]
      have := Pq.cl_data (L.map pcOf) (j / 2) _ hx
      rw [show j / 2 * 2 + 1 = j by omega] at this
      rw [this]
      rfl
  · rw [List.getElem?_eq_none (by simp; omega), List.getElem?_eq_none (by rw [Pq.cl_length, List.length_map]; omega)]

theorem holds_rowP {w : World} {g c : Nat} {L : List He} {sp : List Value} (h : Pq.RowAt w g [] c (L.map pcOf) sp) : HoldsK encP 2 w g 0 L.toArray := by
  intro j hj
  have hj2 : j < (Pq.cl (L.map pcOf)).length := by rw [Pq.cl_length, List.length_map]; simpa using hj
  have e : (flatK encP 2 L.toArray)[j]! = (Pq.cl (L.map pcOf))[j] := by
    rw [getElem!_pos _ _ (by simpa using hj)]
    have := flat_cp L
    have h2 : (flatK encP 2 L.toArray).toList[j]? = (Pq.cl (L.map pcOf))[j]? := by rw [this]
    rw [Array.getElem?_toList, getElem?_pos _ _ (by simpa using hj), List.getElem?_eq_getElem hj2] at h2
    simpa using h2
  rw [Nat.zero_add]
  refine ⟨?_, ?_⟩
  · have hcj := h.cell j _ (List.getElem?_eq_getElem hj2)
    simp only [List.length_nil, Nat.zero_add] at hcj
    rw [hcj]
    simp only [id]
    rw [e]
  · unfold World.frozen?
    rw [h.1]
    simp

theorem sorted_rowP {w : World} {g c : Nat} {L P : List He} {sp : List Value} (h : Pq.RowAt w g [] c (L.map pcOf) sp) (hl : P.length = L.length) (m : Nat) (os : Array Obj) :
    Pq.RowAt (sortWorldK encP 2 w g 0 m P.toArray os) g [] c (P.map pcOf) sp ∧ w.grownBy (sortWorldK encP 2 w g 0 m P.toArray os) (some g) := by
  have hg := h.lt
  have hput : (putRowK encP 2 (Sort.ahead w m) g 0 P.toArray).heap = w.heap.modify g (onCells (putCells id 0 (flatK encP 2 P.toArray))) := rfl
  have hsz : (putRowK encP 2 (Sort.ahead w m) g 0 P.toArray).heap.size = w.heap.size := by rw [hput]; simp
  refine ⟨⟨?_, by have := h.2.1; rw [List.length_map] at this ⊢; rw [hl]; exact this, h.2.2⟩, rfl, rfl, rfl, ?_, ?_⟩
  · unfold sortWorldK
    rw [heap_grow_old _ _ (by rw [hsz]; exact hg), hput, Array.getElem?_modify, if_pos rfl, h.1]
    simp only [Option.map_some, onCells, Option.some.injEq, Obj.cells.injEq, and_true]
    apply Array.ext_getElem?
    intro k
    simp only [putCells, Array.getElem?_mapIdx, List.getElem?_toArray, List.nil_append]
    have hcl : (Pq.cl (P.map pcOf)).length = P.length * 2 := by rw [Pq.cl_length, List.length_map]
    have hclL : (Pq.cl (L.map pcOf)).length = L.length * 2 := by rw [Pq.cl_length, List.length_map]
    by_cases hk : k < P.length * 2
    · have h1 : (flatK encP 2 P.toArray).toList[k]? = (Pq.cl (P.map pcOf))[k]? := by rw [flat_cp]
      rw [Array.getElem?_toList, getElem?_pos _ _ (by simpa using hk)] at h1
      rw [List.getElem?_append_left (by omega), List.getElem?_append_left (by omega), ← h1, List.getElem?_eq_getElem (by omega)]
      simp only [Option.map_some, Option.some.injEq]
      rw [if_pos ⟨by omega, by simpa using hk⟩, Nat.sub_zero, getElem!_pos _ _ (by simpa using hk)]
      rfl
    · rw [List.getElem?_append_right (by omega), List.getElem?_append_right (by omega), hcl, hclL, hl]
      cases sp[k - L.length * 2]? with
      | none => rfl
      | some u =>
        simp only [Option.map_some, Option.some.injEq]
        rw [if_neg (by simp; omega)]
  · unfold sortWorldK grow
    simp only [Array.size_append, hsz]
    omega
  · intro k hk hne
    unfold sortWorldK
    rw [heap_grow_old _ _ (by rw [hsz]; exact hk), hput, Array.getElem?_modify, if_neg (by simpa using Ne.symm hne)]


/-- slices.SortFunc of pieces whose row begins at its block. -/
theorem sort_pieces (W : World) (v : Value) (E : List He) (hrow : (v = .slice none 0 0 ∧ E = []) ∨ ∃ g c sp, v = .slice (some ⟨g, 0, none⟩) E.length c ∧ Pq.RowAt W g [] c (E.map pcOf) sp) (hlen : E.length ≤ 1000000000) :
    Calls Tryz.prog 49 #[v, .func (.func 50) #[] #[]] W fun e w' => e = .returned (.tuple #[]) ∧ ∃ P, P.Perm E ∧ P.Pairwise (fun a b => a.off ≤ b.off) ∧ ((v = .slice none 0 0 ∧ P = []) ∨ ∃ g c sp, v = .slice (some ⟨g, 0, none⟩) P.length c ∧ Pq.RowAt w' g [] c (P.map pcOf) sp) ∧ W.grownBy w' v.ownBlock := by
  rcases hrow with ⟨rfl, rfl⟩ | ⟨g, c, sp, rfl, hR⟩
  · refine (sort_0p (.func (.func 50) #[] #[]) W).mono ?_
    rintro e w' ⟨rfl, hg⟩
    exact ⟨rfl, [], List.Perm.refl _, List.Pairwise.nil, .inl ⟨rfl, rfl⟩, hg⟩
  · have eg : ∀ args w, (callFunc 50 args).run Tryz.prog w = .ok (.enter 50 args) w := Go.Proofs.enters_of Tryz.func50 (by kernel_rfl) rfl
    have h := AnyQ.slices_SortFunc Tryz.sortP 2 Tryz.isAgg88 Tryz.sizeOf88 encP (fun _ => rfl) (fun x v hv => by simp [encP] at hv; rcases hv with rfl | rfl <;> rfl) cmpP swoP 50 #[] g 0 c E.toArray W eg (cmpLays_any g 0 E.toArray.size W) (holds_rowP hR) hR.lt (by simp; omega)
    refine Calls.mono (show Calls Tryz.prog 49 #[.slice (some ⟨g, 0, none⟩) E.length c, .func (.func 50) #[] #[]] W _ from h) ?_
    rintro e w' ⟨rfl, d', n, os, hp, hs, rfl⟩
    obtain ⟨hp1, -, hp2⟩ := hp
    have hl : d'.toList.length = E.length := by simpa using hp1
    obtain ⟨h1, h2⟩ := sorted_rowP (P := d'.toList) hR hl n os
    rw [Array.toArray_toList] at h1 h2
    refine ⟨rfl, d'.toList, ?_, ?_, .inr ⟨g, c, sp, by rw [hl], h1⟩, h2⟩
    · have e1 : (d'.extract 0 E.toArray.size).toList = d'.toList := by
        have : d'.extract 0 E.toArray.size = d' := by rw [← hp1]; simp
        rw [this]
      have e2 : (E.toArray.extract 0 E.toArray.size).toList = E := by simp
      rw [e1, e2] at hp2
      exact hp2
    · rw [List.pairwise_iff_getElem]
      intro i j hi hj hij
      have := hs i j (Nat.zero_le _) hij (by simp; omega)
      rw [ltP, getElem!_pos _ _ (by simpa using hj), getElem!_pos _ _ (by simpa using hi)] at this
      simpa using this
end Go.Proofs.YthihabjegpacaaaGreat
