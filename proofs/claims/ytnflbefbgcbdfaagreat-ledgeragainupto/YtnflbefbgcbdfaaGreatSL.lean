/- slices.Replace of spans: nothing behind; more than is taken out. -/
import Derived.Test.YtnflbefbgcbdfaaGreatSK
namespace Go.Proofs.YtnflbefbgcbdfaaGreat
set_option maxRecDepth 100000
open Go.RowKit
set_option linter.unusedVariables false
set_option maxHeartbeats 400000

theorem grown_step {w W : World} {g : Nat} (h : w.grownBy W (some g)) (cs : Array Value) : w.grownBy (W.setRow g cs) (some g) :=
  ⟨h.os, h.tape, h.output, by have := h.size; simp only [setRow_size]; exact this, fun k hk he => by rw [setRow_other W g k _ (fun e => he (by rw [e]))]; exact h.block k hk he⟩

/-- Nothing behind, and the row gets shorter: what append and clear make of it. -/
theorem end_steps (g c vl vc : Nat) (va : Option Addr) (A M V : List Sp) (sp : List Value) (w : World) (hR : RowAt w g c (A ++ M) sp) (hV : Vs w (.slice (some ⟨g, 0, none⟩) 0 0) (.slice va vl vc) V) (hle : V.length < M.length)
    (i u : Nat) (hi : A.length = i) (hu : M.length = u) :
    vl = V.length ∧ ∃ W1 W2, (∀ ty, (Builtin.append_ #[47, 47] ty #[.slice (some ⟨g, 0, none⟩) i c, .slice va vl vc]).run Tryz.prog w = .ok (.slice (some ⟨g, 0, none⟩) (i + vl) c) W1) ∧
      (∀ ty l cc, l = u - vl → (Builtin.clear_ #[47] ty #[.slice (some ⟨g, (i + vl) * 2, none⟩) l cc]).run Tryz.prog W1 = .ok (.tuple #[]) W2) ∧
      (∃ Z, RowAt W2 g c (A ++ V) Z) ∧ w.grownBy W2 (some g) := by
  obtain ⟨inf, hi0, hz0, hz1, hz2⟩ := info_parts Tryz.infoS
  subst hi hu
  have hsz := hR.2.1
  simp only [List.length_append] at hsz
  have hg0 : w.heap[g]? = some (.cells (cl A ++ (cl M ++ sp)).toArray 63 (0, 0)) := by rw [hR.1, cl_append]; simp
  obtain ⟨M', hvl, hM', hc1⟩ : ∃ M', vl = V.length ∧ M'.length + V.length * 2 = M.length * 2 ∧ ∀ ty,
      (Builtin.append_ #[47, 47] ty #[.slice (some ⟨g, 0, none⟩) A.length c, .slice va vl vc]).run Tryz.prog w = .ok (.slice (some ⟨g, 0, none⟩) (A.length + vl) c) (w.setRow g (cl A ++ (cl V ++ (M' ++ sp))).toArray) := by
    rcases hV with ⟨rfl, hv⟩ | ⟨hV0, vb, vc', hv, hvb, hne, hsp⟩
    · injection hv with e1 e2 e3
      subst e1 e2 e3
      refine ⟨cl M, rfl, by simp [cl_length], fun ty => ?_⟩
      rw [setRow_self w g _ _ _ (by simpa [cl] using hg0)]
      have hroom : A.length ≤ c := by omega
      simp [Builtin.append_, run_underlying Tryz.underlying47, sizeOf, typeInfo, hi0, Builtin.lenOf, Builtin.firstCells, hroom, storeCells]
    · injection hv with e1 e2 e3
      subst e1 e2 e3
      have hA : Away w g vb V.length vc V := ⟨hne g rfl, rfl, hsp⟩
      obtain ⟨X, C, Y, hXY, hXl, hCl⟩ := take3 (cl M) (V.length * 2) 0 (by rw [cl_length]; omega)
      refine ⟨C ++ Y, rfl, ?_, fun ty => ?_⟩
      · have := congrArg List.length hXY
        simp only [List.length_append, cl_length] at this ⊢
        omega
      · have hg' : w.heap[g]? = some (.cells (cl A ++ (X ++ ((C ++ Y) ++ sp))).toArray 63 (0, 0)) := by rw [hg0, hXY]; simp
        rw [run_append_room (P := Tryz.prog) w 47 ty 63 inf Tryz.underlying47 hi0 g A.length c _ hg' ⟨vb, 0, none⟩ V.length vc (cl V) (by rw [hz1]; exact cl_length V) hA.src (cl_one V) (by omega) (by simp only [hz1, List.size_toArray, List.length_append, cl_length]; omega)]
        have e := splice (cl A) X ((C ++ Y) ++ sp) (cl V) (A.length * inf.size) (by rw [hz1, cl_length]) (by rw [hXl, cl_length])
        rw [Nat.add_zero] at e
        rw [e]
  subst hvl
  refine ⟨rfl, ?_⟩
  obtain ⟨X, C, Y, hXY, hXl, hCl⟩ := take3 (M' ++ sp) 0 ((M.length - V.length) * 2) (by simp only [List.length_append]; omega)
  obtain rfl := List.length_eq_zero_iff.1 hXl
  rw [List.nil_append] at hXY
  have hYl := congrArg List.length hXY
  simp only [List.length_append] at hYl
  obtain ⟨W1, hW1⟩ : ∃ W1, W1 = w.setRow g (cl A ++ (cl V ++ (M' ++ sp))).toArray := ⟨_, rfl⟩
  rw [← hW1] at hc1
  have hg1 : W1.heap[g]? = some (.cells ((cl A ++ cl V) ++ (C ++ Y)).toArray 63 (0, 0)) := by rw [hW1, setRow_heap w g _ _ _ _ hg0, hXY]; simp
  obtain ⟨Z, hZ, hr⟩ := clear_sp W1 g ((A.length + V.length) * 2) (M.length - V.length) _ C Y _ hg1 (by simp only [List.length_append, cl_length]; omega) hCl
  refine ⟨W1, W1.setRow g ((cl A ++ cl V) ++ (Z ++ Y)).toArray, hc1, fun ty l cc hl => by subst hl; exact hr _ _, ⟨Z ++ Y, ?_, ?_, hR.2.2⟩, ?_⟩
  · rw [setRow_heap W1 g _ _ _ _ hg1]; simp [cl_append]
  · simp only [List.length_append]; omega
  · rw [hW1]; exact grown_step (grown_setRow w g _) _

set_option maxRecDepth 100000 in
theorem replace_end_less (g c : Nat) (vV : Value) (A M V : List Sp) (sp : List Value) (w : World) (hR : RowAt w g c (A ++ M) sp) (hV : Vs w (.slice (some ⟨g, 0, none⟩) 0 0) vV V) (hle : V.length < M.length) (n : Nat) (hn : A.length + M.length = n) :
    Calls Tryz.prog 70 #[.slice (some ⟨g, 0, none⟩) n c, .int .i64 A.length, .int .i64 n, vV] w fun e w' =>
      e = .returned (.slice (some ⟨g, 0, none⟩) (A.length + V.length) c) ∧ (∃ sp', RowAt w' g c (A ++ V) sp') ∧ w.grownBy w' (some g) := by
  have hcm := hR.2.2; unfold maxLen at hcm
  have hsz := hR.2.1
  simp only [List.length_append] at hsz
  obtain ⟨va, vc, rfl⟩ := hV.shape
  generalize hi : A.length = i at *
  generalize hm : V.length = m at *
  generalize hu : M.length = u at *
  have hz1 : ¬ ((i : Int) = (n : Int)) := by omega
  have hz3 : (i : Int) + (m : Int) < (n : Int) := by omega
  have hb0 : (i : Int) ≤ (n : Int) := by omega
  have hb2 : (n : Int) ≤ (c : Int) := by omega
  have hb2' : (i : Int) ≤ (c : Int) := by omega
  have hb3 : ¬ (c = i) := by omega
  have hb5 : ¬ (c = i + m) := by omega
  have htn : ((i : Int) + (m : Int)).toNat = i + m := by omega
  have hb6 : (0 : Int) ≤ (i : Int) + (m : Int) := by omega
  have hb8 : (i : Int) + (m : Int) ≤ (n : Int) := by omega
  obtain ⟨hvv, W1, W2, hc1, hc2, hZ, hG⟩ := end_steps g c m vc va A M V sp w hR hV (by omega) i u hi hu
  have hq2 := fun ty => hc2 ty (n - (i + m)) (c - (i + m)) (by omega)
  have hZG := hide (And.intro hZ hG)
  clear hvv hc2 hZ hG hR hV hi hm hu hn hsz hle
  go_enter Tryz.func70, Tryz.ntmps70
  go_wp2_with (at_builtin; first | refine wpList_append_run _ rfl _ _ 47 47 rfl _ _ rfl rfl (hc1 _) ?_ | refine wpList_clear_run _ rfl _ 47 rfl _ rfl (hq2 _) ?_)
  all_goals go_ret
  all_goals exact ⟨rfl, (unhide hZG).1, (unhide hZG).2⟩

set_option maxRecDepth 100000 in
theorem replace_end_more (g c vb vc : Nat) (A M V : List Sp) (sp : List Value) (w : World) (hR : RowAt w g c (A ++ M) sp) (hsrc : ∀ j u, (cl V)[j]? = some u → w.cell? (Addr.add ⟨vb, 0, none⟩ j) = some u) (hM : M ≠ []) (hle : M.length ≤ V.length) (n : Nat) (hn : A.length + M.length = n) (hbytes : (A.length + V.length) * 16 ≤ 140737488355328) :
    Calls Tryz.prog 70 #[.slice (some ⟨g, 0, none⟩) n c, .int .i64 A.length, .int .i64 n, .slice (some ⟨vb, 0, none⟩) V.length vc] w fun e w' =>
      ∃ v', e = .returned v' ∧ Row w' v' (A ++ V) ∧ Moved w w' (.slice (some ⟨g, 0, none⟩) n c) v' := by
  have hcm := hR.2.2; unfold maxLen at hcm
  have hMl : 0 < M.length := List.length_pos_iff.2 hM
  have hsz := hR.2.1
  simp only [List.length_append] at hsz
  have hrA : Row w (.slice (some ⟨g, 0, none⟩) A.length c) A := RowAt.row (sp := cl M ++ sp) ⟨by rw [hR.1, cl_append]; simp, by simp only [List.length_append, cl_length]; omega, hR.2.2⟩
  obtain ⟨v', w', hr, hro, hmo, hnn⟩ := app2 w _ A V 47 hrA ⟨vb, 0, none⟩ vc hsrc (fun h => by rw [h, List.length_nil] at hle; omega) hbytes
  obtain ⟨a', c', hv'⟩ : ∃ a' c', v' = .slice a' (A.length + V.length) c' := by
    rcases Row.at hro with ⟨h1, _⟩ | ⟨g', c', sp', h1, _⟩
    · exact absurd h1 hnn
    · exact ⟨_, c', by rw [h1, List.length_append]⟩
  have hmo' : Moved w w' (.slice (some ⟨g, 0, none⟩) n c) v' := hmo
  have hfin := hide (And.intro hro hmo')
  clear hro hmo hmo' hnn hrA
  subst hv'
  generalize hi : A.length = i at *
  generalize hm : V.length = m at *
  generalize hu : M.length = u at *
  have hz1 : ¬ ((i : Int) = (n : Int)) := by omega
  have hz3 : ¬ ((i : Int) + (m : Int) < (n : Int)) := by omega
  have hb0 : (i : Int) ≤ (n : Int) := by omega
  have hb2 : (n : Int) ≤ (c : Int) := by omega
  have hb2' : (i : Int) ≤ (c : Int) := by omega
  have hb3 : ¬ (c = i) := by omega
  clear hR hi hm hu hn hsz hle hsrc hM hMl hbytes
  go_enter Tryz.func70, Tryz.ntmps70
  go_wp2_with (at_builtin; refine wpList_append_run _ rfl _ _ 47 47 rfl _ _ rfl rfl hr ?_)
  all_goals go_ret
  all_goals exact ⟨_, rfl, (unhide hfin).1, (unhide hfin).2⟩
end Go.Proofs.YtnflbefbgcbdfaaGreat
