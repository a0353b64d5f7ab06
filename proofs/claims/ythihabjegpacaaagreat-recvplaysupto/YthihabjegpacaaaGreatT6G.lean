/- slices.Replace whole; slices.Delete. -/
import Derived.Test.YthihabjegpacaaaGreatT6F
namespace Go.Proofs.YthihabjegpacaaaGreat.Pq
set_option maxRecDepth 100000
open Go.RowKit
set_option linter.unusedVariables false
set_option maxHeartbeats 400000

set_option maxRecDepth 100000 in
theorem replace_none (v vV : Value) (A D V : List Pc) (w : World) (hrow : Row w v (A ++ D)) (hV : Vs w v vV V) (hbytes : (A.length + D.length + V.length) * 32 ≤ 140737488355328) :
    Calls Tryz.prog 51 #[v, .int .i64 A.length, .int .i64 A.length, vV] w fun e w' => ∃ v', e = .returned v' ∧ Row w' v' (A ++ (V ++ D)) ∧ Moved w w' v v' := by
  have hins := insert_any v vV A D V w hrow hV hbytes
  obtain ⟨va, vc, rfl⟩ := hV.shape
  clear hV hbytes
  rcases Row.at hrow with ⟨rfl, h0⟩ | ⟨g, pr, c, sp, rfl, hR⟩
  · obtain ⟨rfl, rfl⟩ := List.append_eq_nil_iff.1 h0
    generalize V.length = m at *
    go_enter Tryz.func51, Tryz.ntmps51
    go_wp2_with (refine hins.mono ?_; rintro e w' ⟨v', rfl, h1, h2⟩)
    all_goals go_ret
    all_goals exact ⟨v', rfl, h1, h2⟩
  · have hcm := hR.2.2; unfold maxLen at hcm
    have hsz := hR.2.1
    simp only [List.length_append] at hsz hins ⊢
    clear hrow hR
    generalize pr.length = q at *
    generalize A.length = i at *
    generalize D.length = d at *
    generalize V.length = m at *
    have hb2 : (i : Int) ≤ (c : Int) := by omega
    clear hsz
    go_enter Tryz.func51, Tryz.ntmps51
    go_wp2_with (refine hins.mono ?_; rintro e w' ⟨v', rfl, h1, h2⟩)
    all_goals go_ret
    all_goals exact ⟨v', rfl, h1, h2⟩

/-- slices.Replace: those of M go, those of V come. -/
theorem replace_any (v vV : Value) (A M D V : List Pc) (w : World) (hrow : Row w v (A ++ (M ++ D))) (hV : Vs w v vV V) (hbytes : (A.length + M.length + D.length + V.length) * 32 ≤ 140737488355328) :
    Calls Tryz.prog 51 #[v, .int .i64 A.length, .int .i64 ((A.length + M.length : Nat) : Int), vV] w fun e w' => ∃ v', e = .returned v' ∧ Row w' v' (A ++ (V ++ D)) ∧ Moved w w' v v' := by
  by_cases hM : M = []
  · subst hM
    exact replace_none v vV A D V w hrow hV (by simp only [List.length_nil] at hbytes; omega)
  rcases Row.at hrow with ⟨rfl, h0⟩ | ⟨g, pr, c, sp, rfl, hR⟩
  · exact absurd (List.append_eq_nil_iff.1 (List.append_eq_nil_iff.1 h0).2).1 hM
  have hlen : (A ++ (M ++ D)).length = A.length + M.length + D.length := by simp only [List.length_append]; omega
  have hV' : Vs w (.slice (some ⟨g, pr.length, none⟩) 0 0) vV V := hV
  have fin : ∀ (w' : World) (a : Nat), a = A.length + V.length + D.length → (∃ sp', RowAt w' g pr c (A ++ (V ++ D)) sp') → w.grownBy w' (some g) →
      ∃ v', Ending.returned (.slice (some ⟨g, pr.length, none⟩) a c) = .returned v' ∧ Row w' v' (A ++ (V ++ D)) ∧ Moved w w' (.slice (some ⟨g, pr.length, none⟩) (A ++ (M ++ D)).length c) v' := fun w' a ha hr hg => by
    obtain ⟨sp', hr⟩ := hr
    refine ⟨_, rfl, ?_, .inl ⟨rfl, hg⟩⟩
    have := hr.row
    rwa [show (A ++ (V ++ D)).length = a by simp only [List.length_append]; omega] at this
  by_cases hD : D = []
  · subst hD
    simp only [List.append_nil] at hR fin ⊢
    by_cases hle : V.length < M.length
    · rw [show (A ++ M).length = A.length + M.length by simp]
      refine (replace_end_less g pr c vV A M V sp w hR hV' hle (A.length + M.length) rfl).mono ?_
      rintro e w' ⟨rfl, hr, hg⟩
      have := fin w' (A.length + V.length) (by simp) hr hg
      rwa [show (A ++ M).length = A.length + M.length by simp] at this
    · rcases hV with ⟨rfl, rfl⟩ | ⟨hV0, vb, vc, rfl, hvb, hne, hsp⟩
      · have := List.length_pos_iff.2 hM; simp only [List.length_nil] at hle; omega
      · rw [show (A ++ M).length = A.length + M.length by simp]
        exact replace_end_more g pr c vb vc A M V sp w hR (Away.src (g := vb + 1) (vl := V.length) (vc := vc) ⟨by omega, rfl, hsp⟩) hM (by omega) (A.length + M.length) rfl (by simp only [List.length_nil] at hbytes; omega)
  · by_cases hle : V.length ≤ M.length
    · have := replace_less g pr c vV A M D V sp w hR hV' hD hM hle (A.length + M.length + D.length) (A.length + M.length) rfl rfl
      rw [hlen]
      refine this.mono ?_
      rintro e w' ⟨rfl, hr, hg⟩
      have := fin w' _ rfl hr hg
      rwa [hlen] at this
    · rcases hV with ⟨rfl, rfl⟩ | ⟨hV0, vb, vc, rfl, hvb, hne, hsp⟩
      · simp only [List.length_nil] at hle; omega
      have hA : Away w g vb V.length vc V := ⟨hne g rfl, rfl, hsp⟩
      by_cases hroom : A.length + V.length + D.length ≤ c
      · rw [hlen]
        refine (replace_room g pr c vb vc A M D V sp w hR hA hroom hD hM (by omega) (A.length + M.length + D.length) (A.length + M.length) rfl rfl).mono ?_
        rintro e w' ⟨rfl, hr, hg⟩
        have := fin w' _ rfl hr hg
        rwa [hlen] at this
      · rw [hlen]
        refine (replace_grow g pr c vb vc A M D V sp w hR hA hvb (by omega) (by omega) hD hM (A.length + M.length + D.length) (A.length + M.length) rfl rfl).mono ?_
        rintro e w' ⟨c', rfl, ⟨sp', hr⟩, hg, hlt⟩
        refine ⟨_, rfl, ?_, .inr ⟨rfl, hg, hlt⟩⟩
        have := hr.row
        rwa [show (A ++ (V ++ D)).length = A.length + V.length + D.length by simp only [List.length_append]; omega] at this

end Go.Proofs.YthihabjegpacaaaGreat.Pq
