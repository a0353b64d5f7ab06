/- slices.Replace of spans: more than is taken out; whole. -/
import Derived.Test.YtnflbefbgcbdfaaGreatSL
namespace Go.Proofs.YtnflbefbgcbdfaaGreat
set_option maxRecDepth 100000
open Go.RowKit
set_option linter.unusedVariables false
set_option maxHeartbeats 400000

/-- There is room: copy, copy. -/
theorem more_steps (g c vb vc : Nat) (A M D V : List Sp) (sp : List Value) (w : World) (hR : RowAt w g c (A ++ (M ++ D)) sp) (hA : Away w g vb V.length vc V) (hroom : A.length + V.length + D.length ≤ c) (hle : M.length ≤ V.length)
    (i d u m j : Nat) (hi : A.length = i) (hd : D.length = d) (hu : M.length = u) (hm : V.length = m) (hj : i + u = j) :
    ∃ W1 W2, (∀ ty dl dc sl sc, d ≤ dl → sl = d → (Builtin.copy_ #[47, 47] ty #[.slice (some ⟨g, (i + m) * 2, none⟩) dl dc, .slice (some ⟨g, j * 2, none⟩) sl sc]).run Tryz.prog w.drew = .ok (goInt (Nat.min sl dl)) W1) ∧
      (∀ ty dl dc, m ≤ dl → (Builtin.copy_ #[47, 47] ty #[.slice (some ⟨g, i * 2, none⟩) dl dc, .slice (some ⟨vb, 0, none⟩) m vc]).run Tryz.prog W1 = .ok (goInt (Nat.min m dl)) W2) ∧
      (∃ Z, RowAt W2 g c (A ++ (V ++ D)) Z) ∧ w.grownBy W2 (some g) := by
  subst hi hd hu hm hj
  have hsz := hR.2.1
  simp only [List.length_append] at hsz
  obtain ⟨X, C, Y, hXY, hXl, hCl⟩ := take3 (cl M ++ (cl D ++ sp)) (V.length * 2) (D.length * 2) (by simp only [List.length_append, cl_length]; omega)
  have hYl := congrArg List.length hXY
  simp only [List.length_append, cl_length] at hYl
  have hg0 : w.heap[g]? = some (.cells ((cl A ++ X) ++ (C ++ Y)).toArray 63 (0, 0)) := by rw [hR.1, cl_append, cl_append]; simp only [List.append_assoc]; rw [hXY]
  have hc1 := fun ty dl dc sl sc (hdl : D.length ≤ dl) (hsl : sl = D.length) => copy_sp w.drew g ((A.length + V.length) * 2) dl dc ⟨g, (A.length + M.length) * 2, none⟩ sl sc (cl A ++ X) C Y D 63 ty hg0 (by simp only [List.length_append, cl_length, hXl]; omega) hCl (by rw [hsl]; exact (min_l _ _ hdl).symm) (fun k v hk => by
    have := hR.cell ((A.length + M.length) * 2 + k) v (by
      rw [cl_append, cl_append, ← List.append_assoc, List.getElem?_append_right (by simp only [List.length_append, cl_length]; omega)]
      simp only [List.length_append, cl_length]
      rw [show (A.length + M.length) * 2 + k - (A.length * 2 + M.length * 2) = k by omega]
      exact hk)
    rw [Addr.add_lit]
    exact this)
  obtain ⟨W1, hW1⟩ : ∃ W1, W1 = w.drew.setRow g ((cl A ++ X) ++ (cl D ++ Y)).toArray := ⟨_, rfl⟩
  rw [← hW1] at hc1
  have hG1 : w.grownBy W1 (some g) := by rw [hW1]; exact ⟨rfl, rfl, rfl, by simp, fun k _ hk => setRow_other w.drew g k _ (fun e => hk (by rw [e]))⟩
  have hg1 : W1.heap[g]? = some (.cells (cl A ++ (X ++ (cl D ++ Y))).toArray 63 (0, 0)) := by rw [hW1, setRow_heap w.drew g _ _ _ _ hg0, List.append_assoc]
  have hvb : W1.heap[vb]? = w.heap[vb]? := by rw [hW1]; exact setRow_other w.drew g vb _ hA.ne
  clear hW1
  have hc2 := fun ty dl dc (hdl : V.length ≤ dl) => copy_sp W1 g (A.length * 2) dl dc ⟨vb, 0, none⟩ V.length vc (cl A) X (cl D ++ Y) V 63 ty hg1 (cl_length A).symm hXl (min_l _ _ hdl).symm (fun k v hk => by
    rw [Addr.add_lit, Nat.zero_add, World.cell?_of_block (w := w) (w' := W1) hvb]
    exact hA.cell k v hk)
  refine ⟨W1, _, hc1, hc2, ⟨Y, ?_, ?_, hR.2.2⟩, grown_step hG1 _⟩
  · rw [setRow_heap W1 g _ _ _ _ hg1]; simp [cl_append]
  · simp only [List.length_append]; omega

theorem overlaps_no2 (w : World) (g vb vl vc o lb cb : Nat) (V : List Sp) (c : Nat) (L : List Sp) (sp : List Value) (hV : Away w g vb vl vc V) (hR : RowAt w g c L sp) (hV0 : V ≠ []) :
    (callFunc 95 #[.slice (some ⟨g, o, none⟩) lb cb, .slice (some ⟨vb, 0, none⟩) vl vc]).run Tryz.prog w = .ok (.value (.bool false)) w := by
  obtain ⟨spv, hr⟩ := hV.row
  have hVl : 0 < V.length := List.length_pos_iff.2 hV0
  rw [run_callFunc_extern Tryz.func95 (by kernel_rfl) (by kernel_rfl) (by kernel_rfl) (e := Extern.SlicesOverlaps.overlaps #[47, 47] #[4]) (by kernel_rfl),
    Lib.run_overlaps_apart w 47 4 63 Tryz.underlying47 2 (fun w => by rfl) ⟨g, o, none⟩ ⟨vb, 0, none⟩ lb cb vl vc (Ne.symm hV.ne) 63 63 (c * 2) (cl V ++ spv).length (by simp [World.shape?, hR.1, cl_length]; have := hR.2.1; omega) (by simp [World.shape?, hr]) (by simp only [List.length_append, cl_length]; omega) (by simp [World.frozen?, hR.1]) (by simp [World.frozen?, hR.1])]
  rfl

set_option maxRecDepth 100000 in
theorem replace_room (g c vb vc : Nat) (A M D V : List Sp) (sp : List Value) (w : World) (hR : RowAt w g c (A ++ (M ++ D)) sp) (hA : Away w g vb V.length vc V) (hroom : A.length + V.length + D.length ≤ c) (hD : D ≠ []) (hM : M ≠ []) (hle : M.length < V.length) (n j : Nat) (hj : A.length + M.length = j) (hn : j + D.length = n) :
    Calls Tryz.prog 70 #[.slice (some ⟨g, 0, none⟩) n c, .int .i64 A.length, .int .i64 j, .slice (some ⟨vb, 0, none⟩) V.length vc] w fun e w' =>
      e = .returned (.slice (some ⟨g, 0, none⟩) (A.length + V.length + D.length) c) ∧ (∃ sp', RowAt w' g c (A ++ (V ++ D)) sp') ∧ w.grownBy w' (some g) := by
  have hcm := hR.2.2; unfold maxLen at hcm
  have hDl : 0 < D.length := List.length_pos_iff.2 hD
  have hMl : 0 < M.length := List.length_pos_iff.2 hM
  have hsz := hR.2.1
  simp only [List.length_append] at hsz
  have hov := fun nq o lb cb => overlaps_no2 (w.drewN nq) g vb V.length vc o lb cb V c _ sp ⟨hA.ne, hA.len, hA.row⟩ hR (fun h => by rw [h, List.length_nil] at hle; omega)
  have hst := fun nq => hide (more_steps g c vb vc A M D V sp (w.drewN nq) hR ⟨hA.ne, hA.len, hA.row⟩ hroom (by omega) A.length D.length M.length V.length j rfl rfl rfl rfl hj)
  generalize hi : A.length = i at *
  generalize hd : D.length = d at *
  generalize hm : V.length = m at *
  generalize hu : M.length = u at *
  have hnj : n - j = d := by omega
  have hz1 : ¬ ((i : Int) = (j : Int)) := by omega
  have hz2 : ¬ ((j : Int) = (n : Int)) := by omega
  have hz3 : ¬ ((c : Int) < (i : Int) + (m : Int) + (d : Int)) := by omega
  have hw1 : IntKind.i64.wrap ((i : Int) + (m : Int)) = (i : Int) + (m : Int) := by rw [IntKind.wrap_i64]; omega
  have hw2 : IntKind.i64.wrap ((i : Int) + (m : Int) + (d : Int)) = (i : Int) + (m : Int) + (d : Int) := by rw [IntKind.wrap_i64]; omega
  have hz4 : ¬ ((i : Int) + (m : Int) ≤ (j : Int)) := by omega
  have hb0 : (i : Int) ≤ (j : Int) := by omega
  have hb1 : (j : Int) ≤ (n : Int) := by omega
  have hb2 : (n : Int) ≤ (c : Int) := by omega
  have hb3 : ¬ (c = i) := by omega
  have hb4 : ¬ (c = j) := by omega
  have hb5 : ¬ (c = i + m) := by omega
  have htn : ((i : Int) + (m : Int)).toNat = i + m := by omega
  have htn2 : ((i : Int) + (m : Int) + (d : Int)).toNat = i + m + d := by omega
  have hb6 : (0 : Int) ≤ (i : Int) + (m : Int) := by omega
  have hb7 : (0 : Int) ≤ (i : Int) + (m : Int) + (d : Int) := by omega
  have hb8 : (i : Int) + (m : Int) + (d : Int) ≤ (c : Int) := by omega
  have hb9 : (i : Int) + (m : Int) ≤ (i : Int) + (m : Int) + (d : Int) := by omega
  have hx1 : d ≤ i + m + d - (i + m) := by omega
  have hx2 : m ≤ i + m + d - i := by omega
  clear hR hA hi hd hm hu hj hn hsz hle hDl hMl hD hM hroom
  go_enter Tryz.func70, Tryz.ntmps70
  go_wp2
  go_quiet (fail)
  rename_i nq
  have hov := hov nq
  obtain ⟨W1, W2, hc1, hc2, hZ, hG⟩ := unhide (hst nq)
  clear hst
  have hq1 := fun ty => hc1 ty (i + m + d - (i + m)) (c - (i + m)) d (c - j) hx1 rfl
  have hq2 := fun ty => hc2 ty (i + m + d - i) (c - i) hx2
  have hZG := hide (And.intro hZ hG)
  clear hc1 hc2 hZ hG
  go_wp2_with (simp only [hov])
  go_region_law (refine step_copy_run rfl _ _ 47 47 rfl _ _ (by simp [Act.eval, Act.put]) (by simp [Act.eval, Act.put]) (hq1 _) ?_)
  go_wp2_with (at_builtin; refine wpList_copy_run _ rfl _ _ 47 47 rfl _ _ rfl rfl (hq2 _) ?_)
  go_ret
  exact ⟨rfl, (unhide hZG).1, grown_of_drewN (unhide hZG).2⟩

/-- There is no room: a new row, copy, copy. -/
theorem grow_steps (g c vb vc : Nat) (A M D V : List Sp) (sp : List Value) (w : World) (hR : RowAt w g c (A ++ (M ++ D)) sp) (hV : Away w g vb V.length vc V) (hvb : vb < w.heap.size) (hD : D ≠ []) (hno : c < A.length + V.length + D.length)
    (hbytes : (A.length + V.length + D.length) * 16 ≤ 140737488355328)
    (i d u m j : Nat) (hi : A.length = i) (hd : D.length = d) (hu : M.length = u) (hm : V.length = m) (hj : i + u = j) :
    ∃ c' W1 W2 W3, i + m + d ≤ c' ∧ (∀ ty, (Builtin.append_ #[47, 3] ty #[.slice (some ⟨g, 0, none⟩) i c, .int .i64 ((m + d : Nat) : Int)]).run Tryz.prog w = .ok (.slice (some ⟨w.heap.size, 0, none⟩) (i + m + d) c') W1) ∧
      (∀ ty dl dc, m ≤ dl → (Builtin.copy_ #[47, 47] ty #[.slice (some ⟨w.heap.size, i * 2, none⟩) dl dc, .slice (some ⟨vb, 0, none⟩) m vc]).run Tryz.prog W1 = .ok (goInt (Nat.min m dl)) W2) ∧
      (∀ ty dl dc sl sc, d ≤ dl → sl = d → (Builtin.copy_ #[47, 47] ty #[.slice (some ⟨w.heap.size, (i + m) * 2, none⟩) dl dc, .slice (some ⟨g, j * 2, none⟩) sl sc]).run Tryz.prog W2.drew = .ok (goInt (Nat.min sl dl)) W3) ∧
      (∃ Z, RowAt W3 w.heap.size c' (A ++ (V ++ D)) Z) ∧ w.grownBy W3 none ∧ w.heap.size < W3.heap.size := by
  subst hi hd hu hm hj
  obtain ⟨inf, hi0, hz0, hz1, hz2⟩ := info_parts Tryz.infoS
  have hglt := hR.lt
  have hDl : 0 < D.length := List.length_pos_iff.2 hD
  have hsz := hR.2.1
  simp only [List.length_append] at hsz
  have hcA : ∀ j v, (cl A)[j]? = some v → w.cell? (Addr.add ⟨g, 0, none⟩ j) = some v := fun j v hj => by
    rw [Addr.add_lit, Nat.zero_add]
    exact hR.cell j v (by rw [cl_append, List.getElem?_append_left (List.getElem?_eq_some_iff.1 hj).1]; exact hj)
  have hap := fun ty => Lib.run_append_grow_zeros (P := Tryz.prog) w 47 3 ty 63 inf _ .i64 .i64 Tryz.underlying47 Tryz.underlying3 hi0 hz0 (some ⟨g, 0, none⟩) A.length c (cl A)
    (run_firstCells_some (P := Tryz.prog) w.drew inf.size A.length ⟨g, 0, none⟩ A.length c (cl A) (by rw [hz1]; exact cl_length A) hcA) (V.length + D.length) (by omega) (by rw [hz1]; decide) (by omega) (by omega) (by rw [hz2]; omega) (growslice_fits (by omega) (by rw [hz2]; omega))
  rw [show A.length + (V.length + D.length) = A.length + V.length + D.length by omega] at hap
  have hge := grownCap_ge w (A.length + V.length + D.length) c 63
  have hle := grownCap_le_maxLen w (A.length + V.length + D.length) c 63 (by unfold maxLen; omega)
  generalize grownCap w (A.length + V.length + D.length) c 63 = c' at hap hge hle
  generalize hZ : Builtin.zeroCells (Value.agg #[Value.int IntKind.i64 0, Value.int IntKind.i64 0]).cells (V.length + D.length) = Z at hap
  generalize hY : Builtin.zeroCells (Value.agg #[Value.int IntKind.i64 0, Value.int IntKind.i64 0]).cells (c' - (A.length + V.length + D.length)) = Y at hap
  have hZl : Z.toList.length = (V.length + D.length) * 2 := by rw [← hZ]; simp [Builtin.zeroCells, Value.cells]
  have hYl : Y.toList.length = (c' - (A.length + V.length + D.length)) * 2 := by rw [← hY]; simp [Builtin.zeroCells, Value.cells]
  obtain ⟨X, C, Y0, hXY, hXl, hCl⟩ := take3 Z.toList (V.length * 2) (D.length * 2) (by omega)
  have hY0 : Y0 = [] := by
    have := congrArg List.length hXY
    simp only [List.length_append] at this
    exact List.length_eq_zero_iff.1 (by omega)
  subst hY0
  have hrow0 : (cl A).toArray ++ Z ++ Y = (cl A ++ (X ++ (C ++ Y.toList))).toArray := by
    apply Array.toList_inj.1
    simp [hXY]
  simp only [hrow0] at hap
  obtain ⟨W1, hW1⟩ : ∃ W1, W1 = w.drew.alloc (.cells (cl A ++ (X ++ (C ++ Y.toList))).toArray 63) := ⟨_, rfl⟩
  rw [← hW1] at hap
  have hN : W1.heap[w.heap.size]? = some (.cells (cl A ++ (X ++ (C ++ Y.toList))).toArray 63 (0, 0)) := by rw [hW1]; exact heap_alloc_new w.drew _
  have hold : ∀ k, k < w.heap.size → W1.heap[k]? = w.heap[k]? := fun k hk => by rw [hW1]; exact (World.grownBy_alloc w.drew _ none).block k hk (by simp)
  have hW1s : W1.heap.size = w.heap.size + 1 := by rw [hW1]; simp
  have hW1f : W1.os = w.os ∧ W1.tape = w.tape ∧ W1.output = w.output := by rw [hW1]; exact ⟨rfl, rfl, rfl⟩
  clear hW1
  have hc1 := fun ty dl dc (hdl : V.length ≤ dl) => copy_sp W1 w.heap.size (A.length * 2) dl dc ⟨vb, 0, none⟩ V.length vc (cl A) X (C ++ Y.toList) V 63 ty hN (cl_length A).symm hXl (min_l _ _ hdl).symm (fun j v hj => by
    rw [Addr.add_lit, Nat.zero_add, World.cell?_of_block (w := w) (w' := W1) (hold vb hvb)]
    exact hV.cell j v hj)
  obtain ⟨W2, hW2⟩ : ∃ W2, W2 = W1.setRow w.heap.size (cl A ++ (cl V ++ (C ++ Y.toList))).toArray := ⟨_, rfl⟩
  rw [← hW2] at hc1
  have hN2 : W2.heap[w.heap.size]? = some (.cells ((cl A ++ cl V) ++ (C ++ Y.toList)).toArray 63 (0, 0)) := by rw [hW2, setRow_heap W1 _ _ _ _ _ hN, List.append_assoc]
  have hold2 : ∀ k, k < w.heap.size → W2.heap[k]? = w.heap[k]? := fun k hk => by rw [hW2, setRow_other W1 _ k _ (by omega)]; exact hold k hk
  have hW2s : W2.heap.size = w.heap.size + 1 := by rw [hW2]; simpa using hW1s
  have hW2f : W2.os = w.os ∧ W2.tape = w.tape ∧ W2.output = w.output := by rw [hW2]; exact hW1f
  clear hW2
  have hc2 := fun ty dl dc sl sc (hdl : D.length ≤ dl) (hsl : sl = D.length) => copy_sp W2.drew w.heap.size ((A.length + V.length) * 2) dl dc ⟨g, (A.length + M.length) * 2, none⟩ sl sc (cl A ++ cl V) C Y.toList D 63 ty hN2 (by simp only [List.length_append, cl_length]; omega) hCl (by rw [hsl]; exact (min_l _ _ hdl).symm) (fun k v hk => by
    have := hR.cell ((A.length + M.length) * 2 + k) v (by
      rw [cl_append, cl_append, ← List.append_assoc, List.getElem?_append_right (by simp only [List.length_append, cl_length]; omega)]
      simp only [List.length_append, cl_length]
      rw [show (A.length + M.length) * 2 + k - (A.length * 2 + M.length * 2) = k by omega]
      exact hk)
    rw [Addr.add_lit, World.cell?_of_block (w := w) (w' := W2.drew) (hold2 g hglt)]
    exact this)
  refine ⟨c', W1, W2, _, hge, hap, hc1, hc2, ⟨Y.toList, ?_, ?_, hle⟩, ⟨hW2f.1, hW2f.2.1, hW2f.2.2, ?_, fun k hk _ => ?_⟩, ?_⟩
  · rw [setRow_heap W2.drew _ _ _ _ _ hN2]
    simp [cl_append]
  · simp only [List.length_append]; omega
  · simp only [setRow_size]; show w.heap.size ≤ W2.heap.size; omega
  · rw [setRow_other W2.drew _ k _ (by omega)]; exact hold2 k hk
  · simp only [setRow_size]; show w.heap.size < W2.heap.size; omega

set_option maxRecDepth 100000 in
theorem replace_grow (g c vb vc : Nat) (A M D V : List Sp) (sp : List Value) (w : World) (hR : RowAt w g c (A ++ (M ++ D)) sp) (hA : Away w g vb V.length vc V) (hvb : vb < w.heap.size) (hno : c < A.length + V.length + D.length) (hbytes : (A.length + V.length + D.length) * 16 ≤ 140737488355328) (hD : D ≠ []) (hM : M ≠ []) (n j : Nat) (hj : A.length + M.length = j) (hn : j + D.length = n) :
    Calls Tryz.prog 70 #[.slice (some ⟨g, 0, none⟩) n c, .int .i64 A.length, .int .i64 j, .slice (some ⟨vb, 0, none⟩) V.length vc] w fun e w' =>
      ∃ c', e = .returned (.slice (some ⟨w.heap.size, 0, none⟩) (A.length + V.length + D.length) c') ∧ (∃ sp', RowAt w' w.heap.size c' (A ++ (V ++ D)) sp') ∧ w.grownBy w' none ∧ w.heap.size < w'.heap.size := by
  have hcm := hR.2.2; unfold maxLen at hcm
  have hDl : 0 < D.length := List.length_pos_iff.2 hD
  have hMl : 0 < M.length := List.length_pos_iff.2 hM
  have hsz := hR.2.1
  simp only [List.length_append] at hsz
  have hst := fun nq => hide (grow_steps g c vb vc A M D V sp (w.drewN nq) hR ⟨hA.ne, hA.len, hA.row⟩ hvb hD hno hbytes A.length D.length M.length V.length j rfl rfl rfl rfl hj)
  generalize hi : A.length = i at *
  generalize hd : D.length = d at *
  generalize hm : V.length = m at *
  generalize hu : M.length = u at *
  have hnj : n - j = d := by omega
  have hz1 : ¬ ((i : Int) = (j : Int)) := by omega
  have hz2 : ¬ ((j : Int) = (n : Int)) := by omega
  have hz3 : (c : Int) < (i : Int) + (m : Int) + (d : Int) := by omega
  have hw1 : IntKind.i64.wrap ((i : Int) + (m : Int)) = (i : Int) + (m : Int) := by rw [IntKind.wrap_i64]; omega
  have hw2 : IntKind.i64.wrap ((i : Int) + (m : Int) + (d : Int)) = (i : Int) + (m : Int) + (d : Int) := by rw [IntKind.wrap_i64]; omega
  have hw3 : IntKind.i64.wrap ((i : Int) + (m : Int) + (d : Int) - (i : Int)) = ((m + d : Nat) : Int) := by rw [IntKind.wrap_i64]; omega
  have hb0 : (i : Int) ≤ (j : Int) := by omega
  have hb1 : (j : Int) ≤ (n : Int) := by omega
  have hb2 : (n : Int) ≤ (c : Int) := by omega
  have hb2' : (i : Int) ≤ (c : Int) := by omega
  have hb3 : ¬ (c = i) := by omega
  have hb4 : ¬ (c = j) := by omega
  have htn : ((i : Int) + (m : Int)).toNat = i + m := by omega
  have hb6 : (0 : Int) ≤ (i : Int) + (m : Int) := by omega
  have hb7 : (i : Int) ≤ (i : Int) + (m : Int) + (d : Int) := by omega
  have hb9 : (i : Int) + (m : Int) ≤ (i : Int) + (m : Int) + (d : Int) := by omega
  have hx1 : d ≤ i + m + d - (i + m) := by omega
  have hx2 : m ≤ i + m + d - i := by omega
  clear hR hA hi hd hm hu hj hn hsz hMl hD hM hno hbytes hvb
  go_enter Tryz.func70, Tryz.ntmps70
  go_wp2
  go_quiet (fail)
  rename_i nq
  obtain ⟨c', W1, W2, W3, hcc, hap, hc1, hc2, hZG⟩ := unhide (hst nq)
  clear hst
  have hb10 : ¬ (c' = i) := by omega
  have hb11 : ¬ (c' = i + m) := by omega
  have hq1 := fun ty => hc1 ty (i + m + d - i) (c' - i) hx2
  have hq2 := fun ty => hc2 ty (i + m + d - (i + m)) (c' - (i + m)) d (c - j) hx1 rfl
  have hN : (w.drewN nq).heap.size = w.heap.size := rfl
  rw [hN] at hap hq1 hq2 hZG
  have hZG := hide hZG
  clear hc1 hc2 hcc hDl hN
  go_wp2_with (at_builtin; first | refine wpList_append_run _ rfl _ _ 47 3 rfl _ _ rfl rfl (hap _) ?_ | refine wpList_copy_run _ rfl _ _ 47 47 rfl _ _ rfl rfl (hq1 _) ?_)
  go_region_law (refine step_copy_run rfl _ _ 47 47 rfl _ _ (by simp [Act.eval, Act.put]) (by simp [Act.eval, Act.put]) (hq2 _) ?_)
  go_wp2
  go_ret
  have := unhide hZG
  exact ⟨c', rfl, this.1, grown_of_drewN this.2.1, this.2.2⟩
end Go.Proofs.YtnflbefbgcbdfaaGreat
