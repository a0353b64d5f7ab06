/- Rows of pieces that begin where their blocks begin. -/
import Derived.Test.YthihabjegpacaaaGreatT6P
namespace Go.Proofs.YthihabjegpacaaaGreat.Pq
open Go.RowKit
set_option linter.unusedVariables false
set_option maxHeartbeats 400000
set_option maxRecDepth 100000

/-- A row that begins where its block begins. -/
def Row0 (w : World) (v : Value) (L : List Pc) : Prop := (v = .slice none 0 0 ∧ L = []) ∨ ∃ g c sp, v = .slice (some ⟨g, 0, none⟩) L.length c ∧ RowAt w g [] c L sp
theorem RowAt.row0 {w : World} {g c : Nat} {L : List Pc} {sp : List Value} (h : RowAt w g [] c L sp) : Row0 w (.slice (some ⟨g, 0, none⟩) L.length c) L := .inr ⟨g, c, sp, rfl, h⟩
theorem Row0.row {w : World} {v : Value} {L : List Pc} (h : Row0 w v L) : Row w v L := by
  rcases h with h | ⟨g, c, sp, rfl, h⟩
  · exact .inl h
  · exact .inr ⟨g, [], c, sp, rfl, h⟩
theorem Row0.kept {w w' : World} {v : Value} {L : List Pc} (h : Row0 w v L) (hk : ∀ g, v.ownBlock = some g → w'.heap[g]? = w.heap[g]?) : Row0 w' v L := by
  rcases h with h | ⟨g, c, sp, rfl, hR⟩
  · exact .inl h
  · exact .inr ⟨g, c, sp, rfl, (hk g rfl).trans hR.1, hR.2⟩
theorem Row0.grown {w w' : World} {v : Value} {L : List Pc} (h : Row0 w v L) (g : w.grownBy w' none) : Row0 w' v L := h.kept fun k q => g.block k (h.row.lt k q) (by simp)

/-- append of pieces to a row of one's own. -/
theorem app0 (w : World) (v : Value) (A V : List Pc) (ty : TypeId) (hrow : Row0 w v A) (ad : Addr) (c : Nat) (hsrc : ∀ j u, (cl V)[j]? = some u → w.cell? (ad.add j) = some u) (hm : V ≠ []) (hbytes : (A.length + V.length) * 32 ≤ 140737488355328) :
    ∃ v' w', (Builtin.append_ #[51, 51] ty #[v, .slice (some ad) V.length c]).run Tryz.prog w = .ok v' w' ∧ Row0 w' v' (A ++ V) ∧ Moved w w' v v' ∧ v' ≠ .slice none 0 0 := by
  obtain ⟨i, hi, hz0, hz1, hz2⟩ := info_parts Tryz.infoP
  have hVl : 0 < V.length := List.length_pos_iff.2 hm
  have h63 : A.length + V.length ≤ maxLen := by unfold maxLen; omega
  have new : ∀ (c' : Nat) (old sp : List Value), old = cl A → A.length + V.length ≤ c' → c' ≤ maxLen → sp.length = (c' - (A.length + V.length)) * 2 → ∀ X : Array Value, X.toList = old ++ cl V ++ sp → Row0 (w.drew.alloc (.cells X 88)) (.slice (some ⟨w.heap.size, 0, none⟩) (A.length + V.length) c') (A ++ V) := fun c' old sp ho h1 h2 h3 X hX => by
    subst ho
    have e : (A ++ V).length = A.length + V.length := List.length_append
    refine .inr ⟨w.heap.size, c', sp, by rw [e], ?_, by rw [e]; omega, h2⟩
    rw [show X = ([] ++ (cl (A ++ V) ++ sp)).toArray from Array.toList_inj.1 (by rw [hX, cl_append]; simp)]
    exact heap_alloc_new w.drew _
  rcases hrow with ⟨rfl, rfl⟩ | ⟨g, cap, sp, rfl, hR⟩
  · have := run_append_nil (P := Tryz.prog) w 51 ty 88 i _ Tryz.underlying51 hi hz0 ad V.length c (cl V) (by rw [hz1]; exact cl_length V) hsrc hVl (by omega) (by rw [hz2]; simp only [List.length_nil, Nat.zero_add] at hbytes; omega)
    have hge := grownCap_ge w V.length 0 88
    have hle := grownCap_le_maxLen w V.length 0 88 (by unfold maxLen; omega)
    refine ⟨_, _, this, ?_, .inr ⟨rfl, grown_drew_alloc w _⟩, fun h => by cases h⟩
    have e0 : ([] : List Pc).length + V.length = V.length := by simp
    have := new (grownCap w V.length 0 88) [] (Builtin.zeroCells (Value.agg #[Value.int IntKind.i64 0, Value.slice none 0 0]).cells (grownCap w V.length 0 88 - V.length)).toList rfl (by rw [e0]; exact hge) hle (by rw [e0]; simp [Builtin.zeroCells, Value.cells]) ((cl V).toArray ++ Builtin.zeroCells (Value.agg #[Value.int IntKind.i64 0, Value.slice none 0 0]).cells (grownCap w V.length 0 88 - V.length)) (by simp)
    rw [e0] at this
    exact this
  · have hsz := hR.2.1
    by_cases hroom : A.length + V.length ≤ cap
    · obtain ⟨X, C, Y, hXY, hXl, hCl⟩ := take3 sp 0 (V.length * 2) (by omega)
      obtain rfl := List.length_eq_zero_iff.1 hXl
      rw [List.nil_append] at hXY
      have hg' : w.heap[g]? = some (.cells ((cl A) ++ (C ++ Y)).toArray 88 (0, 0)) := by rw [hR.1, hXY]; simp
      have := run_append_off (P := Tryz.prog) w 51 ty 88 i Tryz.underlying51 hi g 0 A.length cap _ _ hg' ad V.length c (cl V) (by rw [hz1]; exact cl_length V) hsrc (cl_one V) hroom (by simp only [hz1, List.size_toArray, List.length_append, cl_length]; omega)
      have e := splice (cl A) C Y (cl V) (0 + A.length * i.size) (by rw [hz1]; simp only [cl_length]; omega) (by rw [hCl, cl_length])
      rw [Nat.add_zero] at e
      rw [e] at this
      refine ⟨_, _, this, ?_, .inl ⟨rfl, grown_setRow w g _⟩, fun h => by cases h⟩
      have e2 : (A ++ V).length = A.length + V.length := List.length_append
      refine .inr ⟨g, cap, Y, by rw [e2], ?_, ?_, hR.2.2⟩
      · rw [setRow_heap w g _ _ _ _ hg', cl_append]; simp
      · rw [e2]
        have := congrArg List.length hXY
        simp only [List.length_append] at this
        omega
    · have := run_append_grow (P := Tryz.prog) w 51 ty 88 i _ Tryz.underlying51 hi hz0 ⟨g, 0, none⟩ A.length cap (cl A) (by rw [hz1]; exact cl_length A) (fun j u hj => by rw [Addr.add_lit]; exact hR.cell j u hj) ad V.length c (cl V) (by rw [hz1]; exact cl_length V) hsrc (by omega) (by unfold maxLen at h63; omega) (growslice_fits (by omega) (by rw [hz2]; exact hbytes))
      have hge := grownCap_ge w (A.length + V.length) cap 88
      have hle := grownCap_le_maxLen w (A.length + V.length) cap 88 h63
      refine ⟨_, _, this, ?_, .inr ⟨rfl, grown_drew_alloc w _⟩, fun h => by cases h⟩
      exact new (grownCap w (A.length + V.length) cap 88) (cl A) (Builtin.zeroCells (Value.agg #[Value.int IntKind.i64 0, Value.slice none 0 0]).cells (grownCap w (A.length + V.length) cap 88 - (A.length + V.length))).toList rfl hge hle (by simp [Builtin.zeroCells, Value.cells]) _ (by simp)

/-- slices.Clone of a part of a row. -/
theorem clone_part0 (g o n c : Nat) (L : List Pc) (w : World) (hn : L.length = n) (hsrc : ∀ j u, (cl L)[j]? = some u → w.cell? (Addr.add ⟨g, o, none⟩ j) = some u) (hbytes : n * 32 ≤ 140737488355328) :
    Calls Tryz.prog 46 #[.slice (some ⟨g, o, none⟩) n c] w fun e w' => ∃ v', e = .returned v' ∧ Row0 w' v' L ∧ Fresh w v' ∧ w.grownBy w' none := by
  have hfr : Fresh w (.slice (some ⟨w.heap.size, 0, none⟩) 0 0) := fun k hk => by injection hk with hk; exact Nat.le_of_eq hk
  by_cases hn0 : n = 0
  · subst hn0
    obtain rfl := List.length_eq_zero_iff.1 hn
    have hap : ∀ ty, (Builtin.append_ #[51, 51] ty #[.slice (some ⟨w.heap.size, 0, none⟩) 0 0, .slice (some ⟨g, o, none⟩) 0 c]).run Tryz.prog (w.alloc (.cells #[] 88)) = .ok (.slice (some ⟨w.heap.size, 0, none⟩) 0 0) (w.alloc (.cells #[] 88)) := fun ty => by
      obtain ⟨inf, hi0, hz0, hz1, hz2⟩ := info_parts Tryz.infoP
      simp [Builtin.append_, run_underlying Tryz.underlying51, sizeOf, typeInfo, hi0, Builtin.lenOf, Builtin.firstCells, storeCells, loadCells, loadCellsFrom]
    clear hsrc hbytes hn
    go_enter Tryz.func46, Tryz.ntmps46
    go_wp2_with (first | simp only [eqnil, Option.isNone_some] | (at_builtin; refine wpList_append_run _ rfl _ _ 51 51 rfl _ _ rfl rfl (hap _) ?_))
    all_goals go_ret
    all_goals exact ⟨_, rfl, (row_empty w).row0, hfr, grown_alloc _ _⟩
  · obtain ⟨v', w', hr, hro, hmo, hnn⟩ := app0 (w.alloc (.cells #[] 88)) _ [] L 51 (row_empty w).row0 ⟨g, o, none⟩ c (fun j u hj => cell_grown_none (grown_alloc _ _) (hsrc j u hj)) (fun e => by rw [e] at hn; simp at hn; omega) (by simpa [hn] using hbytes)
    rw [hn] at hr
    have hfin := hide (And.intro hro (Moved.fresh (grown_alloc w _) hfr hmo))
    have hr' : (Builtin.append_ #[51, 51] 51 #[.slice (some ⟨w.heap.size, 0, none⟩) 0 0, .slice (some ⟨g, o, none⟩) n c]).run Tryz.prog (w.alloc (.cells #[] 88)) = .ok v' w' := hr
    clear hsrc hbytes hn hr hro hmo hnn
    go_enter Tryz.func46, Tryz.ntmps46
    go_wp2_with (first | simp only [eqnil, Option.isNone_some] | (at_builtin; refine wpList_append_run _ rfl _ _ 51 51 rfl _ _ rfl rfl hr' ?_))
    all_goals go_ret
    all_goals exact ⟨_, rfl, (unhide hfin).1, (unhide hfin).2.2, (unhide hfin).2.1⟩

end Go.Proofs.YthihabjegpacaaaGreat.Pq
