/- slices.Replace whole; slices.Delete. -/
import Derived.Test.YtnflbefbgcbdfaaGreatSM
namespace Go.Proofs.YtnflbefbgcbdfaaGreat
set_option maxRecDepth 100000
open Go.RowKit
set_option linter.unusedVariables false
set_option maxHeartbeats 400000

set_option maxRecDepth 100000 in
theorem replace_none (v vV : Value) (A D V : List Sp) (w : World) (hrow : Row w v (A ++ D)) (hV : Vs w v vV V) (hbytes : (A.length + D.length + V.length) * 16 ≤ 140737488355328) :
    Calls Tryz.prog 70 #[v, .int .i64 A.length, .int .i64 A.length, vV] w fun e w' => ∃ v', e = .returned v' ∧ Row w' v' (A ++ (V ++ D)) ∧ Moved w w' v v' := by
  have hins := insert_any v vV A D V w hrow hV hbytes
  obtain ⟨va, vc, rfl⟩ := hV.shape
  clear hV hbytes
  rcases Row.at hrow with ⟨rfl, h0⟩ | ⟨g, c, sp, rfl, hR⟩
  · obtain ⟨rfl, rfl⟩ := List.append_eq_nil_iff.1 h0
    generalize V.length = m at *
    go_enter Tryz.func70, Tryz.ntmps70
    go_wp2_with (refine hins.mono ?_; rintro e w' ⟨v', rfl, h1, h2⟩)
    all_goals go_ret
    all_goals exact ⟨v', rfl, h1, h2⟩
  · have hcm := hR.2.2; unfold maxLen at hcm
    have hsz := hR.2.1
    simp only [List.length_append] at hsz hins ⊢
    clear hrow hR
    generalize A.length = i at *
    generalize D.length = d at *
    generalize V.length = m at *
    have hb2 : (i : Int) ≤ (c : Int) := by omega
    clear hsz
    go_enter Tryz.func70, Tryz.ntmps70
    go_wp2_with (refine hins.mono ?_; rintro e w' ⟨v', rfl, h1, h2⟩)
    all_goals go_ret
    all_goals exact ⟨v', rfl, h1, h2⟩

/-- slices.Replace: those of M go, those of V come. -/
theorem replace_any (v vV : Value) (A M D V : List Sp) (w : World) (hrow : Row w v (A ++ (M ++ D))) (hV : Vs w v vV V) (hbytes : (A.length + M.length + D.length + V.length) * 16 ≤ 140737488355328) :
    Calls Tryz.prog 70 #[v, .int .i64 A.length, .int .i64 ((A.length + M.length : Nat) : Int), vV] w fun e w' => ∃ v', e = .returned v' ∧ Row w' v' (A ++ (V ++ D)) ∧ Moved w w' v v' := by
  by_cases hM : M = []
  · subst hM
    exact replace_none v vV A D V w hrow hV (by simp only [List.length_nil] at hbytes; omega)
  rcases Row.at hrow with ⟨rfl, h0⟩ | ⟨g, c, sp, rfl, hR⟩
  · exact absurd (List.append_eq_nil_iff.1 (List.append_eq_nil_iff.1 h0).2).1 hM
  have hlen : (A ++ (M ++ D)).length = A.length + M.length + D.length := by simp only [List.length_append]; omega
  have hV' : Vs w (.slice (some ⟨g, 0, none⟩) 0 0) vV V := hV
  have fin : ∀ (w' : World) (a : Nat), a = A.length + V.length + D.length → (∃ sp', RowAt w' g c (A ++ (V ++ D)) sp') → w.grownBy w' (some g) →
      ∃ v', Ending.returned (.slice (some ⟨g, 0, none⟩) a c) = .returned v' ∧ Row w' v' (A ++ (V ++ D)) ∧ Moved w w' (.slice (some ⟨g, 0, none⟩) (A ++ (M ++ D)).length c) v' := fun w' a ha hr hg => by
    obtain ⟨sp', hr⟩ := hr
    refine ⟨_, rfl, ?_, .inl ⟨rfl, hg⟩⟩
    have := hr.row
    rwa [show (A ++ (V ++ D)).length = a by simp only [List.length_append]; omega] at this
  by_cases hD : D = []
  · subst hD
    simp only [List.append_nil] at hR fin ⊢
    by_cases hle : V.length < M.length
    · rw [show (A ++ M).length = A.length + M.length by simp]
      refine (replace_end_less g c vV A M V sp w hR hV' hle (A.length + M.length) rfl).mono ?_
      rintro e w' ⟨rfl, hr, hg⟩
      have := fin w' (A.length + V.length) (by simp) hr hg
      rwa [show (A ++ M).length = A.length + M.length by simp] at this
    · rcases hV with ⟨rfl, rfl⟩ | ⟨hV0, vb, vc, rfl, hvb, hne, hsp⟩
      · have := List.length_pos_iff.2 hM; simp only [List.length_nil] at hle; omega
      · rw [show (A ++ M).length = A.length + M.length by simp]
        exact replace_end_more g c vb vc A M V sp w hR (Away.src (g := vb + 1) (vl := V.length) (vc := vc) ⟨by omega, rfl, hsp⟩) hM (by omega) (A.length + M.length) rfl (by simp only [List.length_nil] at hbytes; omega)
  · by_cases hle : V.length ≤ M.length
    · have := replace_less g c vV A M D V sp w hR hV' hD hM hle (A.length + M.length + D.length) (A.length + M.length) rfl rfl
      rw [hlen]
      refine this.mono ?_
      rintro e w' ⟨rfl, hr, hg⟩
      have := fin w' _ rfl hr hg
      rwa [hlen] at this
    · rcases hV with ⟨rfl, rfl⟩ | ⟨hV0, vb, vc, rfl, hvb, hne, hsp⟩
      · simp only [List.length_nil] at hle; omega
      have hA : Away w g vb V.length vc V := ⟨hne g rfl, rfl, hsp⟩
      by_cases hroom : A.length + V.length + D.length ≤ c
      · rw [hlen]
        refine (replace_room g c vb vc A M D V sp w hR hA hroom hD hM (by omega) (A.length + M.length + D.length) (A.length + M.length) rfl rfl).mono ?_
        rintro e w' ⟨rfl, hr, hg⟩
        have := fin w' _ rfl hr hg
        rwa [hlen] at this
      · rw [hlen]
        refine (replace_grow g c vb vc A M D V sp w hR hA hvb (by omega) (by omega) hD hM (A.length + M.length + D.length) (A.length + M.length) rfl rfl).mono ?_
        rintro e w' ⟨c', rfl, ⟨sp', hr⟩, hg, hlt⟩
        refine ⟨_, rfl, ?_, .inr ⟨rfl, hg, hlt⟩⟩
        have := hr.row
        rwa [show (A ++ (V ++ D)).length = A.length + V.length + D.length by simp only [List.length_append]; omega] at this

/-- What append and clear make of a row whose head goes. -/
theorem delete_steps (g c : Nat) (M D : List Sp) (sp : List Value) (w : World) (hR : RowAt w g c (M ++ D) sp) (u d : Nat) (hu : M.length = u) (hd : D.length = d) :
    ∃ W1 W2, (∀ ty cc, (Builtin.append_ #[47, 47] ty #[.slice (some ⟨g, 0, none⟩) 0 c, .slice (some ⟨g, u * 2, none⟩) d cc]).run Tryz.prog w.drew = .ok (.slice (some ⟨g, 0, none⟩) d c) W1) ∧
      (∀ ty cc, (Builtin.clear_ #[47] ty #[.slice (some ⟨g, d * 2, none⟩) u cc]).run Tryz.prog W1 = .ok (.tuple #[]) W2) ∧ (∃ Z, RowAt W2 g c D Z) ∧ w.grownBy W2 (some g) := by
  obtain ⟨inf, hi0, hz0, hz1, hz2⟩ := info_parts Tryz.infoS
  subst hu hd
  have hsz := hR.2.1
  simp only [List.length_append] at hsz
  obtain ⟨X, C, Y, hXY, hXl, hCl⟩ := take3 (cl (M ++ D) ++ sp) (D.length * 2) (M.length * 2) (by simp only [List.length_append, cl_length]; omega)
  have hYl := congrArg List.length hXY
  simp only [List.length_append, cl_length] at hYl
  have hg0 : w.drew.heap[g]? = some (.cells (X ++ (C ++ Y)).toArray 63 (0, 0)) := by show w.heap[g]? = _; rw [hR.1, hXY]
  have hap := fun ty cc => run_append_room (P := Tryz.prog) w.drew 47 ty 63 inf Tryz.underlying47 hi0 g 0 c _ hg0 ⟨g, M.length * 2, none⟩ D.length cc (cl D) (by rw [hz1]; exact cl_length D) (fun k v hk => by
    have := hR.cell (M.length * 2 + k) v (by rw [cl_append, List.getElem?_append_right (by rw [cl_length]; omega), cl_length, Nat.add_sub_cancel_left]; exact hk)
    rw [Addr.add_lit]; exact this) (cl_one D) (by omega) (by simp only [List.size_toArray, List.length_append, cl_length]; omega)
  have e := splice ([] : List Value) X (C ++ Y) (cl D) (0 * inf.size) (by simp) (by rw [hXl, cl_length])
  simp only [Nat.zero_add, Nat.add_zero, List.nil_append, Nat.zero_mul] at e hap
  simp only [e] at hap
  obtain ⟨W1, hW1⟩ : ∃ W1, W1 = w.drew.setRow g (cl D ++ (C ++ Y)).toArray := ⟨_, rfl⟩
  rw [← hW1] at hap
  have hG1 : w.grownBy W1 (some g) := by rw [hW1]; exact ⟨rfl, rfl, rfl, by simp, fun k _ hk => setRow_other w.drew g k _ (fun e => hk (by rw [e]))⟩
  have hg1 : W1.heap[g]? = some (.cells (cl D ++ (C ++ Y)).toArray 63 (0, 0)) := by rw [hW1]; exact setRow_heap w.drew g _ _ _ _ hg0
  clear hW1
  obtain ⟨Z, hZ, hr⟩ := clear_sp W1 g (D.length * 2) M.length _ C Y _ hg1 (by rw [cl_length]) hCl
  refine ⟨W1, _, hap, hr, ⟨Z ++ Y, ?_, ?_, hR.2.2⟩, grown_step hG1 _⟩
  · rw [setRow_heap W1 g _ _ _ _ hg1]
  · simp only [List.length_append]; omega

/-- slices.Delete of a head that isn't all. -/
theorem delete_head (g c : Nat) (M D : List Sp) (sp : List Value) (w : World) (hR : RowAt w g c (M ++ D) sp) (hM : M ≠ []) (hD : D ≠ []) (n : Nat) (hn : M.length + D.length = n) :
    Calls Tryz.prog 98 #[.slice (some ⟨g, 0, none⟩) n c, .int .i64 0, .int .i64 M.length] w fun e w' =>
      e = .returned (.slice (some ⟨g, 0, none⟩) D.length c) ∧ (∃ sp', RowAt w' g c D sp') ∧ w.grownBy w' (some g) := by
  have hcm := hR.2.2; unfold maxLen at hcm
  have hDl : 0 < D.length := List.length_pos_iff.2 hD
  have hMl : 0 < M.length := List.length_pos_iff.2 hM
  have hsz := hR.2.1
  simp only [List.length_append] at hsz
  obtain ⟨W1, W2, hap, hcl, hZ, hG⟩ := delete_steps g c M D sp w hR M.length D.length rfl rfl
  have hZG := hide (And.intro hZ hG)
  clear hZ hG hR
  generalize hu : M.length = u at *
  generalize hd : D.length = d at *
  have hz1 : ¬ ((u : Int) = 0) := by omega
  have hz2 : ¬ (0 = (u : Int)) := by omega
  have hb1 : (u : Int) ≤ (n : Int) := by omega
  have hb2 : (n : Int) ≤ (c : Int) := by omega
  have hb3 : ¬ (c = u) := by omega
  have hb4 : ¬ (c = d) := by omega
  have hb5 : (d : Int) ≤ (n : Int) := by omega
  have hnu : n - u = d := by omega
  have hnd : n - d = u := by omega
  have hq1 := fun ty => hap ty (c - u)
  have hq2 := fun ty => hcl ty (c - d)
  clear hap hcl hu hd hn hsz hM hD hDl hMl
  go_enter Tryz.func98, Tryz.ntmps98
  go_wp2
  go_region_law (refine step_append_run rfl _ _ 47 47 rfl _ _ (by simp [Act.eval, Act.put]) (by simp [Act.eval, Act.put]) (hq1 _) ?_)
  go_wp2_with (at_builtin; refine wpList_clear_run _ rfl _ 47 rfl _ rfl (hq2 _) ?_)
  all_goals go_ret
  all_goals exact ⟨rfl, (unhide hZG).1, (unhide hZG).2⟩
end Go.Proofs.YtnflbefbgcbdfaaGreat
