/- slices.SortFunc at a row of spans. -/
import Derived.Test.YtnflbefbgcbdfaaGreatTA
import Derived.Test.YtnflbefbgcbdfaaGreatLB0
import Derived.Shelf.SlSortCmp.NoneTotal
namespace Go.Proofs.YtnflbefbgcbdfaaGreat
open Go.Shelf Go.RowKit Go.Lib Go.Sort
set_option linter.unusedVariables false
set_option maxHeartbeats 400000
set_option maxRecDepth 100000

theorem flat_cl (L : List Sp) : (flatK encS 2 L.toArray).toList = cl L := by
  apply List.ext_getElem?
  intro j
  by_cases hj : j < L.length * 2
  · have h1 : (flatK encS 2 L.toArray).toList[j]? = some ((encS (L.toArray[j / 2]!))[j % 2]!) := by
      have := get_flatK encS 2 L.toArray j (by simpa using hj)
      rw [Array.getElem?_toList, getElem?_pos _ _ (by simpa using hj)]
      rw [getElem!_pos _ _ (by simpa using hj)] at this
      rw [this]
    have hd : j / 2 < L.length := by omega
    have e : L.toArray[j / 2]! = L.getD (j / 2) (0, 0) := by
      rw [getElem!_pos _ _ (by simpa using hd)]
      simp [List.getD, hd]
    rw [h1, e]
    rcases Nat.mod_two_eq_zero_or_one j with h | h
    · rw [h]
      have := cl_lo L (j / 2) hd
      rw [show j / 2 * 2 = j by omega] at this
      rw [this]
      rfl
    · rw [h]
      have := cl_hi L (j / 2) hd
      rw [show j / 2 * 2 + 1 = j by omega] at this
      rw [this]
      rfl
  · rw [List.getElem?_eq_none (by simp; omega), List.getElem?_eq_none (by rw [cl_length]; omega)]

theorem holds_rowAt {w : World} {g c : Nat} {L : List Sp} {sp : List Value} (h : RowAt w g c L sp) : HoldsK encS 2 w g 0 L.toArray := by
  intro j hj
  have hj2 : j < (cl L).length := by rw [cl_length]; simpa using hj
  have e : (flatK encS 2 L.toArray)[j]! = (cl L)[j] := by
    rw [getElem!_pos _ _ (by simpa using hj)]
    have := flat_cl L
    have h2 : (flatK encS 2 L.toArray).toList[j]? = (cl L)[j]? := by rw [this]
    rw [Array.getElem?_toList, getElem?_pos _ _ (by simpa using hj), List.getElem?_eq_getElem hj2] at h2
    simpa using h2
  rw [Nat.zero_add]
  refine ⟨?_, ?_⟩
  · rw [h.cell j _ (List.getElem?_eq_getElem hj2)]
    simp only [id]
    rw [e]
  · unfold World.frozen?
    rw [h.1]
    simp

theorem sorted_row {w : World} {g c : Nat} {L P : List Sp} {sp : List Value} (h : RowAt w g c L sp) (hl : P.length = L.length) (m : Nat) (os : Array Obj) :
    RowAt (sortWorldK encS 2 w g 0 m P.toArray os) g c P sp ∧ w.grownBy (sortWorldK encS 2 w g 0 m P.toArray os) (some g) := by
  have hg := h.lt
  have hput : (putRowK encS 2 (Sort.ahead w m) g 0 P.toArray).heap = w.heap.modify g (onCells (putCells id 0 (flatK encS 2 P.toArray))) := rfl
  have hsz : (putRowK encS 2 (Sort.ahead w m) g 0 P.toArray).heap.size = w.heap.size := by rw [hput]; simp
  refine ⟨⟨?_, by rw [hl]; exact h.2.1, h.2.2⟩, rfl, rfl, rfl, ?_, ?_⟩
  · unfold sortWorldK
    rw [heap_grow_old _ _ (by rw [hsz]; exact hg), hput, Array.getElem?_modify, if_pos rfl, h.1]
    simp only [Option.map_some, onCells, Option.some.injEq, Obj.cells.injEq, and_true]
    apply Array.ext_getElem?
    intro k
    simp only [putCells, Array.getElem?_mapIdx, List.getElem?_toArray]
    have hcl : (cl P).length = P.length * 2 := cl_length P
    have hclL : (cl L).length = L.length * 2 := cl_length L
    by_cases hk : k < P.length * 2
    · have h1 : (flatK encS 2 P.toArray).toList[k]? = (cl P)[k]? := by rw [flat_cl]
      rw [Array.getElem?_toList, getElem?_pos _ _ (by simpa using hk)] at h1
      rw [List.getElem?_append_left (by omega), List.getElem?_append_left (by omega), ← h1, List.getElem?_eq_getElem (by omega)]
      simp only [Option.map_some, Option.some.injEq]
      rw [if_pos ⟨by omega, by simpa using hk⟩, Nat.sub_zero, getElem!_pos _ _ (by simpa using hk)]
      rfl
    · rw [List.getElem?_append_right (by omega), List.getElem?_append_right (by omega), hcl, hclL, hl]
      cases sp[k - L.length * 2]? with
      | none => rfl
      | some u =>
        simp only [Option.map_some, Option.some.injEq]
        rw [if_neg (by simp; omega)]
  · unfold sortWorldK grow
    simp only [Array.size_append, hsz]
    omega
  · intro k hk hne
    unfold sortWorldK
    rw [heap_grow_old _ _ (by rw [hsz]; exact hk), hput, Array.getElem?_modify, if_neg (by simpa using Ne.symm hne)]

theorem sort_ok : SortOk := by
  intro W v L hrow hlen
  rcases Row.at hrow with ⟨rfl, rfl⟩ | ⟨g, c, sp, rfl, hR⟩
  · have h := AnyF.slices_SortFunc_none Tryz.sortS none 0 (.func (.func 76) #[] #[]) W
    refine Calls.mono (show Calls Tryz.prog 75 _ _ _ from h) ?_
    rintro e w' ⟨rfl, rfl⟩
    exact ⟨rfl, [], List.Perm.refl _, List.Pairwise.nil, row_nil _, grown_self _ _⟩
  · have eg : ∀ args w, (callFunc 76 args).run Tryz.prog w = .ok (.enter 76 args) w := enters_of Tryz.func76 (by kernel_rfl) rfl
    have h := AnyQ.slices_SortFunc Tryz.sortS 2 Tryz.isAgg63 Tryz.sizeOf63 encS (fun _ => rfl) (fun x v hv => by simp [encS] at hv; rcases hv with rfl | rfl <;> rfl) cmpF swoS 76 #[] g 0 c L.toArray W eg (cmpLays_any g 0 L.toArray.size W) (holds_rowAt hR) hR.lt (by simp; omega)
    refine Calls.mono (show Calls Tryz.prog 75 _ _ _ from h) ?_
    rintro e w' ⟨rfl, d', n, os, hp, hs, rfl⟩
    obtain ⟨hp1, -, hp2⟩ := hp
    have hl : d'.toList.length = L.length := by simpa using hp1
    obtain ⟨h1, h2⟩ := sorted_row (P := d'.toList) hR hl n os
    rw [Array.toArray_toList] at h1 h2
    refine ⟨rfl, d'.toList, ?_, ?_, ?_, h2⟩
    · have e1 : (d'.extract 0 L.toArray.size).toList = d'.toList := by
        have : d'.extract 0 L.toArray.size = d' := by rw [← hp1]; simp
        rw [this]
      have e2 : (L.toArray.extract 0 L.toArray.size).toList = L := by simp
      rw [e1, e2] at hp2
      exact hp2
    · rw [List.pairwise_iff_getElem]
      intro i j hi hj hij
      have := hs i j (Nat.zero_le _) hij (by simp; omega)
      rw [ltS, getElem!_pos _ _ (by simpa using hj), getElem!_pos _ _ (by simpa using hi)] at this
      simpa using this
    · have := h1.row
      rw [hl] at this
      exact this
end Go.Proofs.YtnflbefbgcbdfaaGreat
