/- slices.Insert of spans, where there is no room. -/
import Derived.Test.YtnflbefbgcbdfaaGreatSI
namespace Go.Proofs.YtnflbefbgcbdfaaGreat
set_option maxRecDepth 100000
open Go.RowKit
set_option linter.unusedVariables false
set_option maxHeartbeats 400000

set_option maxRecDepth 100000 in
/-- There is no room, and something behind. -/
theorem insert_grow (g c vb vc : Nat) (A D V : List Sp) (sp : List Value) (w : World) (hR : RowAt w g c (A ++ D) sp) (hV : Away w g vb V.length vc V) (hvb : vb < w.heap.size) (hD : D ≠ []) (hV0 : V ≠ []) (hno : c < A.length + D.length + V.length)
    (hbytes : (A.length + D.length + V.length) * 16 ≤ 140737488355328) :
    Calls Tryz.prog 94 #[.slice (some ⟨g, 0, none⟩) (A.length + D.length) c, .int .i64 A.length, .slice (some ⟨vb, 0, none⟩) V.length vc] w fun e w' =>
      ∃ c' sp', e = .returned (.slice (some ⟨w.heap.size, 0, none⟩) (A.length + D.length + V.length) c') ∧ RowAt w' w.heap.size c' (A ++ (V ++ D)) sp' ∧ w.grownBy w' none ∧ w.heap.size < w'.heap.size := by
  obtain ⟨inf, hi0, hz0, hz1, hz2⟩ := info_parts Tryz.infoS
  have hcm := hR.2.2; unfold maxLen at hcm
  have hglt := hR.lt
  have hDl : 0 < D.length := List.length_pos_iff.2 hD
  have hVl : 0 < V.length := List.length_pos_iff.2 hV0
  have hsz := hR.2.1
  simp only [List.length_append] at hsz
  have hcA : ∀ j v, (cl A)[j]? = some v → w.cell? (Addr.add ⟨g, 0, none⟩ j) = some v := fun j v hj => by
    rw [Addr.add_lit, Nat.zero_add]
    exact hR.cell j v (by rw [cl_append, List.getElem?_append_left (List.getElem?_eq_some_iff.1 hj).1]; exact hj)
  have hap := fun ty => Lib.run_append_grow_zeros (P := Tryz.prog) w 47 3 ty 63 inf _ .i64 .i64 Tryz.underlying47 Tryz.underlying3 hi0 hz0 (some ⟨g, 0, none⟩) A.length c (cl A)
    (run_firstCells_some (P := Tryz.prog) w.drew inf.size A.length ⟨g, 0, none⟩ A.length c (cl A) (by rw [hz1]; exact cl_length A) hcA) (D.length + V.length) (by omega) (by rw [hz1]; decide) (by omega) (by omega) (by rw [hz2]; omega) (growslice_fits (by omega) (by rw [hz2]; omega))
  rw [show A.length + (D.length + V.length) = A.length + D.length + V.length by omega] at hap
  have hge := grownCap_ge w (A.length + D.length + V.length) c 63
  have hle := grownCap_le_maxLen w (A.length + D.length + V.length) c 63 (by unfold maxLen; omega)
  generalize grownCap w (A.length + D.length + V.length) c 63 = c' at hap hge hle
  generalize hZ : Builtin.zeroCells (Value.agg #[Value.int IntKind.i64 0, Value.int IntKind.i64 0]).cells (D.length + V.length) = Z at hap
  generalize hY : Builtin.zeroCells (Value.agg #[Value.int IntKind.i64 0, Value.int IntKind.i64 0]).cells (c' - (A.length + D.length + V.length)) = Y at hap
  have hZl : Z.toList.length = (D.length + V.length) * 2 := by rw [← hZ]; simp [Builtin.zeroCells, Value.cells]
  have hYl : Y.toList.length = (c' - (A.length + D.length + V.length)) * 2 := by rw [← hY]; simp [Builtin.zeroCells, Value.cells]
  obtain ⟨X, C, Y0, hXY, hXl, hCl⟩ := take3 Z.toList (V.length * 2) (D.length * 2) (by omega)
  have hY0 : Y0 = [] := by
    have := congrArg List.length hXY
    simp only [List.length_append] at this
    exact List.length_eq_zero_iff.1 (by omega)
  subst hY0
  have hrow0 : (cl A).toArray ++ Z ++ Y = (cl A ++ (X ++ (C ++ Y.toList))).toArray := by
    apply Array.toList_inj.1
    simp [hXY]
  simp only [hrow0] at hap
  obtain ⟨W1, hW1⟩ : ∃ W1, W1 = w.drew.alloc (.cells (cl A ++ (X ++ (C ++ Y.toList))).toArray 63) := ⟨_, rfl⟩
  rw [← hW1] at hap
  have hN : W1.heap[w.heap.size]? = some (.cells (cl A ++ (X ++ (C ++ Y.toList))).toArray 63 (0, 0)) := by rw [hW1]; exact heap_alloc_new w.drew _
  have hold : ∀ k, k < w.heap.size → W1.heap[k]? = w.heap[k]? := fun k hk => by rw [hW1]; exact (World.grownBy_alloc w.drew _ none).block k hk (by simp)
  have hW1s : W1.heap.size = w.heap.size + 1 := by rw [hW1]; simp
  have hW1f : W1.os = w.os ∧ W1.tape = w.tape ∧ W1.output = w.output := by rw [hW1]; exact ⟨rfl, rfl, rfl⟩
  clear hW1
  have hc1 := fun ty dl dc (hdl : V.length ≤ dl) => copy_sp W1 w.heap.size (A.length * 2) dl dc ⟨vb, 0, none⟩ V.length vc (cl A) X (C ++ Y.toList) V 63 ty hN (cl_length A).symm hXl (min_l _ _ hdl).symm (fun j v hj => by
    rw [Addr.add_lit, Nat.zero_add]
    have h2 := hV.cell j v hj
    unfold World.cell? at h2 ⊢
    simp only [hold vb hvb]
    exact h2)
  obtain ⟨W2, hW2⟩ : ∃ W2, W2 = W1.setRow w.heap.size (cl A ++ (cl V ++ (C ++ Y.toList))).toArray := ⟨_, rfl⟩
  rw [← hW2] at hc1
  have hN2 : W2.heap[w.heap.size]? = some (.cells ((cl A ++ cl V) ++ (C ++ Y.toList)).toArray 63 (0, 0)) := by rw [hW2, setRow_heap W1 _ _ _ _ _ hN, List.append_assoc]
  have hold2 : ∀ k, k < w.heap.size → W2.heap[k]? = w.heap[k]? := fun k hk => by rw [hW2, setRow_other W1 _ k _ (by omega)]; exact hold k hk
  have hW2s : W2.heap.size = w.heap.size + 1 := by rw [hW2]; simpa using hW1s
  have hW2f : W2.os = w.os ∧ W2.tape = w.tape ∧ W2.output = w.output := by rw [hW2]; exact hW1f
  clear hW2
  have hc2 := fun ty o dl dc sl sc (ho : o = (A.length + V.length) * 2) (hdl : D.length ≤ dl) (hsl : sl = D.length) => copy_sp W2.drew w.heap.size o dl dc ⟨g, A.length * 2, none⟩ sl sc (cl A ++ cl V) C Y.toList D 63 ty hN2 (by simp only [List.length_append, cl_length]; omega) hCl (by rw [hsl]; exact (min_l _ _ hdl).symm) (fun j v hj => by
    have := hR.cell (A.length * 2 + j) v (by rw [cl_append, List.getElem?_append_right (by rw [cl_length]; omega), cl_length, Nat.add_sub_cancel_left]; exact hj)
    rw [Addr.add_lit, World.cell?_of_block (w := w) (w' := W2.drew) (hold2 g hglt)]
    exact this)
  generalize hi : A.length = i at *
  generalize hd : D.length = d at *
  generalize hm : V.length = m at *
  have hz1 : ¬ ((m : Int) = 0) := by omega
  have hz2 : ¬ ((i : Int) = (i : Int) + (d : Int)) := by omega
  have hz3 : (c : Int) < (i : Int) + (d : Int) + (m : Int) := by omega
  have hw1 : IntKind.i64.wrap ((i : Int) + (m : Int)) = (i : Int) + (m : Int) := by rw [IntKind.wrap_i64]; omega
  have hw2 : IntKind.i64.wrap ((i : Int) + (d : Int) + (m : Int)) = (i : Int) + (d : Int) + (m : Int) := by rw [IntKind.wrap_i64]; omega
  have hw3 : IntKind.i64.wrap ((i : Int) + (d : Int) + (m : Int) - (i : Int)) = ((d + m : Nat) : Int) := by rw [IntKind.wrap_i64]; omega
  have hb1 : (0 : Int) ≤ (i : Int) + (m : Int) := by omega
  have hb2 : (i : Int) ≤ (i : Int) + (d : Int) := by omega
  have hb3 : (i : Int) ≤ (i : Int) + (d : Int) + (m : Int) := by omega
  have htn : ((i : Int) + (m : Int)).toNat = i + m := by omega
  have hb5 : ¬ (c = i) := by omega
  have hb6 : ¬ (c' = i) := by omega
  have hb7 : ¬ (c' = i + m) := by omega
  have hq1 := fun ty => hc1 ty (i + d + m - i) (c' - i) (by omega)
  have hq2 := fun ty => hc2 ty ((i + m) * 2) (i + d + m - (i + m)) (c' - (i + m)) d (c - i) rfl (by omega) rfl
  go_enter Tryz.func94, Tryz.ntmps94
  go_wp2_with (at_builtin; first | refine wpList_append_run _ rfl _ _ 47 3 rfl _ _ rfl rfl (hap _) ?_ | refine wpList_copy_run _ rfl _ _ 47 47 rfl _ _ rfl rfl (hq1 _) ?_)
  go_region_law (refine step_copy_run rfl _ _ 47 47 rfl _ _ (by simp [Act.eval, Act.put]) (by simp [Act.eval, Act.put]) (hq2 _) ?_)
  go_wp2
  go_ret
  refine ⟨c', Y.toList, rfl, ⟨?_, ?_, hle⟩, ⟨hW2f.1, hW2f.2.1, hW2f.2.2, ?_, fun k hk _ => ?_⟩, ?_⟩
  · rw [setRow_heap W2.drew _ _ _ _ _ hN2]
    simp [cl_append]
  · simp only [List.length_append, hi, hd, hm]; omega
  · simp only [setRow_size]; show w.heap.size ≤ W2.heap.size; omega
  · rw [setRow_other W2.drew _ k _ (by omega)]; exact hold2 k hk
  · simp only [setRow_size]; show w.heap.size < W2.heap.size; omega
end Go.Proofs.YtnflbefbgcbdfaaGreat
