/- slices.Insert of spans. -/
import Derived.Test.YthihabjegpacaaaGreatT6A
namespace Go.Proofs.YthihabjegpacaaaGreat.Pq
set_option maxRecDepth 100000
open Go.RowKit
set_option linter.unusedVariables false
set_option maxHeartbeats 400000

/-- Spans that lie elsewhere: plain memory, in a block other than the row's. -/
structure Away (w : World) (g : Nat) (vb : Nat) (vl vc : Nat) (V : List Pc) : Prop where
  ne : vb ≠ g
  len : V.length = vl
  row : ∃ sp, w.heap[vb]? = some (.cells (cl V ++ sp).toArray 88 (0, 0))

theorem Away.cell {w : World} {g vb vl vc : Nat} {V : List Pc} (h : Away w g vb vl vc V) (j : Nat) (v : Value) (hj : (cl V)[j]? = some v) : w.cell? ⟨vb, j, none⟩ = some v := by
  obtain ⟨sp, hr⟩ := h.row
  unfold World.cell?
  simp only [hr]
  have hlt := (List.getElem?_eq_some_iff.1 hj).1
  simp [List.getElem?_append_left hlt, hj]

theorem overlaps_no (w : World) (g vb vl vc o lb cb : Nat) (V : List Pc) (pr : List Value) (c : Nat) (L : List Pc) (sp : List Value) (hV : Away w g vb vl vc V) (hR : RowAt w g pr c L sp) (hc : 0 < c) :
    (callFunc 68 #[.slice (some ⟨vb, 0, none⟩) vl vc, .slice (some ⟨g, o, none⟩) lb cb]).run Tryz.prog w = .ok (.value (.bool false)) w := by
  obtain ⟨spv, hr⟩ := hV.row
  rw [run_callFunc_extern Tryz.func68 (by kernel_rfl) (by kernel_rfl) (by kernel_rfl) (e := Extern.SlicesOverlaps.overlaps #[51, 51] #[4]) (by kernel_rfl),
    Lib.run_overlaps_apart w 51 4 88 Tryz.underlying51 2 (fun w => by rfl) ⟨vb, 0, none⟩ ⟨g, o, none⟩ vl vc lb cb hV.ne 88 88 (cl V ++ spv).length (pr.length + c * 2) (by simp [World.shape?, hr]) (by simp [World.shape?, hR.1, cl_length]; have := hR.2.1; omega) (by omega) (by simp [World.frozen?, hr]) (by simp [World.frozen?, hr])]
  rfl

/-- copy within the world at hand: the row g holds X, C, Y; the cells of S come in C's place. -/
theorem copy_sp (w : World) (g o dl dc : Nat) (a : Addr) (sl sc : Nat) (X C Y : List Value) (S : List Pc) (t : TypeId) (ty : TypeId)
    (hg : w.heap[g]? = some (.cells (X ++ (C ++ Y)).toArray t (0, 0))) (ho : o = X.length) (hC : C.length = S.length * 2) (hn : S.length = Nat.min sl dl) (hsrc : ∀ j v, (cl S)[j]? = some v → w.cell? (a.add j) = some v) :
    (Builtin.copy_ #[51, 51] ty #[.slice (some ⟨g, o, none⟩) dl dc, .slice (some a) sl sc]).run Tryz.prog w = .ok (goInt (Nat.min sl dl)) (w.setRow g (X ++ (cl S ++ Y)).toArray) :=
  run_copy2 w _ _ ty 88 g o dl dc a sl sc X C Y t (cl S) Tryz.underlying51 Tryz.sizeP hg ho (by rw [hC, cl_length]) (by rw [cl_length, hn]) hsrc (cl_one S)

set_option maxRecDepth 100000 in
/-- There is room, and something behind. -/
theorem insert_room (g : Nat) (pr : List Value) (c vb vc : Nat) (A D V : List Pc) (sp : List Value) (w : World) (hR : RowAt w g pr c (A ++ D) sp) (hV : Away w g vb V.length vc V) (hD : D ≠ []) (hV0 : V ≠ []) (hroom : A.length + D.length + V.length ≤ c) :
    Calls Tryz.prog 67 #[.slice (some ⟨g, pr.length, none⟩) (A.length + D.length) c, .int .i64 A.length, .slice (some ⟨vb, 0, none⟩) V.length vc] w fun e w' =>
      e = .returned (.slice (some ⟨g, pr.length, none⟩) (A.length + D.length + V.length) c) ∧ ∃ sp', RowAt w' g pr c (A ++ (V ++ D)) sp' ∧ w.grownBy w' (some g) := by
  have hcm := hR.2.2; unfold maxLen at hcm
  have hDl : 0 < D.length := List.length_pos_iff.2 hD
  have hVl : 0 < V.length := List.length_pos_iff.2 hV0
  have hov := fun o lb cb => overlaps_no w g vb V.length vc o lb cb V pr c (A ++ D) sp hV hR (by omega)
  have hsz := hR.2.1
  simp only [List.length_append] at hsz
  obtain ⟨X, C, Y, hXY, hXl, hCl⟩ := take3 (cl D ++ sp) (V.length * 2) (D.length * 2) (by simp only [List.length_append, cl_length]; omega)
  have hYl : Y.length + (A.length + D.length + V.length) * 2 = c * 2 := by
    have := congrArg List.length hXY
    simp only [List.length_append, cl_length, hXl, hCl] at this
    omega
  have hg0 : w.heap[g]? = some (.cells ((pr ++ cl A ++ X) ++ (C ++ Y)).toArray 88 (0, 0)) := by rw [hR.1, cl_append]; simp only [List.append_assoc]; rw [hXY]
  have hsrc1 : ∀ W : World, W.heap = w.heap → ∀ j v, (cl D)[j]? = some v → W.cell? (Addr.add ⟨g, pr.length + A.length * 2, none⟩ j) = some v := fun W hW j v hj => by
    have := hR.cell (A.length * 2 + j) v (by rw [cl_append, List.getElem?_append_right (by rw [cl_length]; omega), cl_length, Nat.add_sub_cancel_left]; exact hj)
    rw [Addr.add_lit, Nat.add_assoc]
    unfold World.cell? at this ⊢
    rw [hW]; exact this
  have hcp1 : ∀ (W : World) ty o1 dl dc o2 sl sc, W.heap = w.heap → o1 = pr.length + (A.length + V.length) * 2 → dl = D.length → o2 = pr.length + A.length * 2 → D.length ≤ sl →
      (Builtin.copy_ #[51, 51] ty #[.slice (some ⟨g, o1, none⟩) dl dc, .slice (some ⟨g, o2, none⟩) sl sc]).run Tryz.prog W = .ok (goInt (Nat.min sl dl)) (W.setRow g (pr ++ (cl A ++ (X ++ (cl D ++ Y)))).toArray) := fun W ty o1 dl dc o2 sl sc hW e1 e2 e3 e4 => by
    subst e1 e2 e3
    rw [show pr ++ (cl A ++ (X ++ (cl D ++ Y))) = (pr ++ cl A ++ X) ++ (cl D ++ Y) by simp]
    exact copy_sp W g _ _ _ _ _ _ (pr ++ cl A ++ X) C Y D _ ty (by rw [hW]; exact hg0) (by simp only [List.length_append, cl_length, hXl]; omega) hCl (min_r _ _ e4).symm (hsrc1 W hW)
  have hcp2 : ∀ (W W0 : World) ty o1 dl dc sl sc, W0.heap = w.heap → W.heap = (W0.setRow g (pr ++ (cl A ++ (X ++ (cl D ++ Y)))).toArray).heap → o1 = pr.length + A.length * 2 → V.length ≤ dl → sl = V.length →
      (Builtin.copy_ #[51, 51] ty #[.slice (some ⟨g, o1, none⟩) dl dc, .slice (some ⟨vb, 0, none⟩) sl sc]).run Tryz.prog W = .ok (goInt (Nat.min sl dl)) (W.setRow g (pr ++ (cl A ++ (cl V ++ (cl D ++ Y)))).toArray) := fun W W0 ty o1 dl dc sl sc hW0 hW e1 e2 e3 => by
    subst e1 e3
    rw [show pr ++ (cl A ++ (cl V ++ (cl D ++ Y))) = (pr ++ cl A) ++ (cl V ++ (cl D ++ Y)) by simp]
    refine copy_sp W g _ _ _ _ _ _ (pr ++ cl A) X (cl D ++ Y) V 88 ty ?_ (by simp only [List.length_append, cl_length]) hXl (min_l _ _ e2).symm ?_
    · rw [hW, setRow_heap W0 g _ _ _ _ (by rw [hW0]; exact hg0)]; simp
    · intro j v hj
      rw [Addr.add_lit, Nat.zero_add]
      have h2 := hV.cell j v hj
      unfold World.cell? at h2 ⊢
      rw [hW]
      simp only [setRow_other W0 g vb _ hV.ne, hW0]
      exact h2
  generalize hq : pr.length = q at *
  generalize hi : A.length = i at *
  generalize hd : D.length = d at *
  generalize hm : V.length = m at *
  have hz1 : ¬ ((m : Int) = 0) := by omega
  have hz2 : ¬ ((i : Int) = (i : Int) + (d : Int)) := by omega
  have hz3 : ¬ ((c : Int) < (i : Int) + (d : Int) + (m : Int)) := by omega
  have hw1 : IntKind.i64.wrap ((i : Int) + (m : Int)) = (i : Int) + (m : Int) := by rw [IntKind.wrap_i64]; omega
  have hw2 : IntKind.i64.wrap ((i : Int) + (d : Int) + (m : Int)) = (i : Int) + (d : Int) + (m : Int) := by rw [IntKind.wrap_i64]; omega
  have hb1 : (0 : Int) ≤ (i : Int) + (m : Int) := by omega
  have hb2 : (i : Int) ≤ (i : Int) + (d : Int) := by omega
  have hb3 : (i : Int) ≤ (i : Int) + (d : Int) + (m : Int) := by omega
  have htn : ((i : Int) + (m : Int)).toNat = i + m := by omega
  have hb4 : ¬ (c = i + m) := by omega
  have hb5 : ¬ (c = i) := by omega
  have hq1 := fun ty => hcp1 w.drew ty (q + (i + m) * 2) (i + d + m - (i + m)) (c - (i + m)) (q + i * 2) (i + d + m - i) (c - i) rfl rfl (by omega) rfl (by omega)
  have hq2 := fun ty => hcp2 _ w.drew ty (q + i * 2) (i + d + m - i) (c - i) m vc rfl rfl rfl (by omega) rfl
  go_enter Tryz.func67, Tryz.ntmps67
  go_wp2_with (simp only [hov])
  go_region_law (refine step_copy_run rfl _ _ 51 51 rfl _ _ (by simp [Act.eval, Act.put]) (by simp [Act.eval, Act.put]) (hq1 _) ?_)
  go_wp2_with (at_builtin; refine wpList_copy_run _ rfl _ _ 51 51 rfl _ _ rfl rfl (hq2 _) ?_)
  go_ret
  refine ⟨rfl, Y, ⟨?_, ?_, hR.2.2⟩, ?_⟩
  · rw [setRow_heap _ g _ _ 88 (0, 0) (setRow_heap w.drew g _ _ _ _ hg0)]
    simp [cl_append]
  · simp only [List.length_append, hi, hd, hm]; omega
  · rw [setRow_setRow]
    exact ⟨rfl, rfl, rfl, by simp, fun k _ hk => setRow_other w.drew g k _ (fun e => hk (by rw [e]))⟩

/-- append of pieces to a row of one's own. -/
theorem app2 (w : World) (v : Value) (A V : List Pc) (ty : TypeId) (hrow : Row w v A) (ad : Addr) (c : Nat) (hsrc : ∀ j u, (cl V)[j]? = some u → w.cell? (ad.add j) = some u) (hm : V ≠ []) (hbytes : (A.length + V.length) * 32 ≤ 140737488355328) :
    ∃ v' w', (Builtin.append_ #[51, 51] ty #[v, .slice (some ad) V.length c]).run Tryz.prog w = .ok v' w' ∧ Row w' v' (A ++ V) ∧ Moved w w' v v' ∧ v' ≠ .slice none 0 0 := by
  obtain ⟨i, hi, hz0, hz1, hz2⟩ := info_parts Tryz.infoP
  have hVl : 0 < V.length := List.length_pos_iff.2 hm
  have h63 : A.length + V.length ≤ maxLen := by unfold maxLen; omega
  have new : ∀ (c' : Nat) (old sp : List Value), old = cl A → A.length + V.length ≤ c' → c' ≤ maxLen → sp.length = (c' - (A.length + V.length)) * 2 → ∀ X : Array Value, X.toList = old ++ cl V ++ sp → Row (w.drew.alloc (.cells X 88)) (.slice (some ⟨w.heap.size, 0, none⟩) (A.length + V.length) c') (A ++ V) := fun c' old sp ho h1 h2 h3 X hX => by
    subst ho
    have e : (A ++ V).length = A.length + V.length := List.length_append
    refine .inr ⟨w.heap.size, [], c', sp, by rw [e]; rfl, ?_, by rw [e]; omega, h2⟩
    rw [show X = ([] ++ (cl (A ++ V) ++ sp)).toArray from Array.toList_inj.1 (by rw [hX, cl_append]; simp)]
    exact heap_alloc_new w.drew _
  rcases hrow with ⟨rfl, rfl⟩ | ⟨g, pr, cap, sp, rfl, hR⟩
  · have := run_append_nil (P := Tryz.prog) w 51 ty 88 i _ Tryz.underlying51 hi hz0 ad V.length c (cl V) (by rw [hz1]; exact cl_length V) hsrc hVl (by omega) (by rw [hz2]; simp only [List.length_nil, Nat.zero_add] at hbytes; omega)
    have hge := grownCap_ge w V.length 0 88
    have hle := grownCap_le_maxLen w V.length 0 88 (by unfold maxLen; omega)
    refine ⟨_, _, this, ?_, .inr ⟨rfl, grown_drew_alloc w _⟩, fun h => by cases h⟩
    have e0 : ([] : List Pc).length + V.length = V.length := by simp
    have := new (grownCap w V.length 0 88) [] (Builtin.zeroCells (Value.agg #[Value.int IntKind.i64 0, Value.slice none 0 0]).cells (grownCap w V.length 0 88 - V.length)).toList rfl (by rw [e0]; exact hge) hle (by rw [e0]; simp [Builtin.zeroCells, Value.cells]) ((cl V).toArray ++ Builtin.zeroCells (Value.agg #[Value.int IntKind.i64 0, Value.slice none 0 0]).cells (grownCap w V.length 0 88 - V.length)) (by simp)
    rw [e0] at this
    exact this
  · have hsz := hR.2.1
    by_cases hroom : A.length + V.length ≤ cap
    · obtain ⟨X, C, Y, hXY, hXl, hCl⟩ := take3 sp 0 (V.length * 2) (by omega)
      obtain rfl := List.length_eq_zero_iff.1 hXl
      rw [List.nil_append] at hXY
      have hg' : w.heap[g]? = some (.cells ((pr ++ cl A) ++ (C ++ Y)).toArray 88 (0, 0)) := by rw [hR.1, hXY]; simp
      have := run_append_off (P := Tryz.prog) w 51 ty 88 i Tryz.underlying51 hi g pr.length A.length cap _ _ hg' ad V.length c (cl V) (by rw [hz1]; exact cl_length V) hsrc (cl_one V) hroom (by simp only [hz1, List.size_toArray, List.length_append, cl_length]; omega)
      have e := splice (pr ++ cl A) C Y (cl V) (pr.length + A.length * i.size) (by rw [hz1]; simp only [List.length_append, cl_length]) (by rw [hCl, cl_length])
      rw [Nat.add_zero] at e
      rw [e] at this
      refine ⟨_, _, this, ?_, .inl ⟨rfl, grown_setRow w g _⟩, fun h => by cases h⟩
      have e2 : (A ++ V).length = A.length + V.length := List.length_append
      refine .inr ⟨g, pr, cap, Y, by rw [e2], ?_, ?_, hR.2.2⟩
      · rw [setRow_heap w g _ _ _ _ hg', cl_append]; simp
      · rw [e2]
        have := congrArg List.length hXY
        simp only [List.length_append] at this
        omega
    · have := run_append_grow (P := Tryz.prog) w 51 ty 88 i _ Tryz.underlying51 hi hz0 ⟨g, pr.length, none⟩ A.length cap (cl A) (by rw [hz1]; exact cl_length A) (fun j u hj => by rw [Addr.add_lit]; exact hR.cell j u hj) ad V.length c (cl V) (by rw [hz1]; exact cl_length V) hsrc (by omega) (by unfold maxLen at h63; omega) (growslice_fits (by omega) (by rw [hz2]; exact hbytes))
      have hge := grownCap_ge w (A.length + V.length) cap 88
      have hle := grownCap_le_maxLen w (A.length + V.length) cap 88 h63
      refine ⟨_, _, this, ?_, .inr ⟨rfl, grown_drew_alloc w _⟩, fun h => by cases h⟩
      exact new (grownCap w (A.length + V.length) cap 88) (cl A) (Builtin.zeroCells (Value.agg #[Value.int IntKind.i64 0, Value.slice none 0 0]).cells (grownCap w (A.length + V.length) cap 88 - (A.length + V.length))).toList rfl hge hle (by simp [Builtin.zeroCells, Value.cells]) _ (by simp)

theorem Away.src {w : World} {g vb vl vc : Nat} {V : List Pc} (h : Away w g vb vl vc V) : ∀ j u, (cl V)[j]? = some u → w.cell? (Addr.add ⟨vb, 0, none⟩ j) = some u := fun j u hj => by rw [Addr.add_lit, Nat.zero_add]; exact h.cell j u hj

/-- Nothing to insert. -/
theorem insert_none (v : Value) (A D : List Pc) (a : Option Addr) (c : Nat) (w : World) (hrow : Row w v (A ++ D)) :
    Calls Tryz.prog 67 #[v, .int .i64 A.length, .slice a 0 c] w fun e w' => e = .returned v ∧ w' = w := by
  rcases Row.at hrow with ⟨rfl, h0⟩ | ⟨g, pr, cap, sp, rfl, hR⟩
  · obtain ⟨rfl, rfl⟩ := List.append_eq_nil_iff.1 h0
    go_enter Tryz.func67, Tryz.ntmps67
    go_wp2
    go_ret
    exact ⟨rfl, rfl⟩
  · have hcm := hR.2.2; unfold maxLen at hcm
    have hsz := hR.2.1
    simp only [List.length_append] at hsz ⊢
    generalize pr.length = q at *
    generalize A.length = i at *
    generalize D.length = d at *
    go_enter Tryz.func67, Tryz.ntmps67
    go_wp2
    all_goals go_ret
    all_goals exact ⟨rfl, rfl⟩

/-- At the end. -/
theorem insert_end (v : Value) (A V : List Pc) (vb c : Nat) (w : World) (hrow : Row w v A) (hsrc : ∀ j u, (cl V)[j]? = some u → w.cell? (Addr.add ⟨vb, 0, none⟩ j) = some u) (hV0 : V ≠ []) (hbytes : (A.length + V.length) * 32 ≤ 140737488355328) :
    Calls Tryz.prog 67 #[v, .int .i64 A.length, .slice (some ⟨vb, 0, none⟩) V.length c] w fun e w' => ∃ v', e = .returned v' ∧ Row w' v' (A ++ V) ∧ Moved w w' v v' := by
  have hap := fun ty => app2 w v A V ty hrow ⟨vb, 0, none⟩ c hsrc hV0 hbytes
  have hVl : 0 < V.length := List.length_pos_iff.2 hV0
  have hz1 : ¬ ((V.length : Int) = 0) := by omega
  rcases Row.at hrow with ⟨rfl, rfl⟩ | ⟨g, pr, cap, sp, rfl, hR⟩
  · generalize V.length = m at *
    go_enter Tryz.func67, Tryz.ntmps67
    obtain ⟨v', w', hr, hro, hmo, _⟩ := hap 51
    go_wp2_with (at_builtin; refine wpList_append_run _ rfl _ _ 51 51 rfl _ _ rfl rfl hr ?_)
    go_ret
    exact ⟨v', rfl, hro, hmo⟩
  · have hcm := hR.2.2; unfold maxLen at hcm
    have hsz := hR.2.1
    generalize pr.length = q at *
    generalize A.length = i at *
    generalize V.length = m at *
    go_enter Tryz.func67, Tryz.ntmps67
    obtain ⟨v', w', hr, hro, hmo, _⟩ := hap 51
    go_wp2_with (at_builtin; refine wpList_append_run _ rfl _ _ 51 51 rfl _ _ rfl rfl hr ?_)
    all_goals go_ret
    all_goals exact ⟨v', rfl, hro, hmo⟩
end Go.Proofs.YthihabjegpacaaaGreat.Pq
