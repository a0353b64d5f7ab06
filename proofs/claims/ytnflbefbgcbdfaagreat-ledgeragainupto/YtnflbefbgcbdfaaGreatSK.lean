/- slices.Insert whole; slices.Replace of spans. -/
import Derived.Test.YtnflbefbgcbdfaaGreatSJ
namespace Go.Proofs.YtnflbefbgcbdfaaGreat
set_option maxRecDepth 100000
open Go.RowKit
set_option linter.unusedVariables false
set_option maxHeartbeats 400000

/-- Spans to be put in: none; or some, in a block other than the row's. -/
def Vs (w : World) (v vV : Value) (V : List Sp) : Prop :=
  (V = [] ∧ vV = .slice none 0 0) ∨ (V ≠ [] ∧ ∃ vb vc, vV = .slice (some ⟨vb, 0, none⟩) V.length vc ∧ vb < w.heap.size ∧ (∀ g, v.ownBlock = some g → vb ≠ g) ∧ ∃ sp, w.heap[vb]? = some (.cells (cl V ++ sp).toArray 63 (0, 0)))

theorem insert_any (v vV : Value) (A D V : List Sp) (w : World) (hrow : Row w v (A ++ D)) (hV : Vs w v vV V) (hbytes : (A.length + D.length + V.length) * 16 ≤ 140737488355328) :
    Calls Tryz.prog 94 #[v, .int .i64 A.length, vV] w fun e w' => ∃ v', e = .returned v' ∧ Row w' v' (A ++ (V ++ D)) ∧ Moved w w' v v' := by
  rcases hV with ⟨rfl, rfl⟩ | ⟨hV0, vb, vc, rfl, hvb, hne, hsp⟩
  · refine (insert_none v A D none 0 w hrow).mono ?_
    rintro e w' ⟨rfl, rfl⟩
    exact ⟨v, rfl, hrow, Moved.refl _ _⟩
  · by_cases hD : D = []
    · subst hD
      rw [List.append_nil] at hrow
      simp only [List.append_nil]
      refine insert_end v A V vb vc w hrow ?_ hV0 (by simpa using hbytes)
      exact Away.src (g := vb + 1) (vl := V.length) (vc := vc) ⟨by omega, rfl, hsp⟩
    · rcases Row.at hrow with ⟨rfl, h0⟩ | ⟨g, c, sp, rfl, hR⟩
      · exact absurd (List.append_eq_nil_iff.1 h0).2 hD
      · have hA : Away w g vb V.length vc V := ⟨hne g rfl, rfl, hsp⟩
        rw [List.length_append]
        by_cases hroom : A.length + D.length + V.length ≤ c
        · refine (insert_room g c vb vc A D V sp w hR hA hD hV0 hroom).mono ?_
          rintro e w' ⟨rfl, sp', hR', hg⟩
          refine ⟨_, rfl, ?_, .inl ⟨rfl, hg⟩⟩
          have := hR'.row
          rwa [show (A ++ (V ++ D)).length = A.length + D.length + V.length by simp only [List.length_append]; omega] at this
        · refine (insert_grow g c vb vc A D V sp w hR hA hvb hD hV0 (by omega) hbytes).mono ?_
          rintro e w' ⟨c', sp', rfl, hR', hg, hlt⟩
          refine ⟨_, rfl, ?_, .inr ⟨rfl, hg, hlt⟩⟩
          have := hR'.row
          rwa [show (A ++ (V ++ D)).length = A.length + D.length + V.length by simp only [List.length_append]; omega] at this

theorem zeroS (w : World) : (zeroValue 63).run Tryz.prog w = .ok (.agg #[.int .i64 0, .int .i64 0]) w := by rfl

theorem clear_sp (w : World) (g o n : Nat) (X C Y : List Value) (tt : TypeId) (hg : w.heap[g]? = some (.cells (X ++ (C ++ Y)).toArray tt (0, 0))) (ho : o = X.length) (hC : C.length = n * 2) :
    ∃ Z, Z.length = n * 2 ∧ ∀ ty c, (Builtin.clear_ #[47] ty #[.slice (some ⟨g, o, none⟩) n c]).run Tryz.prog w = .ok (.tuple #[]) (w.setRow g (X ++ (Z ++ Y)).toArray) :=
  run_clear2 w _ 63 _ Tryz.underlying47 zeroS rfl (by intro u hu; simp [Value.cells] at hu; subst hu; rfl) g o n X C Y tt hg ho hC

theorem clear_zero (w : World) (ty : TypeId) (a : Option Addr) (n c : Nat) (hn : n = 0) : (Builtin.clear_ #[47] ty #[.slice a n c]).run Tryz.prog w = .ok (.tuple #[]) w := by
  subst hn
  cases a <;> simp [Builtin.clear_, run_underlying Tryz.underlying47]

/-- What copy, copy and clear make of the row. -/
theorem less_steps (g c vl vc : Nat) (va : Option Addr) (A M D V : List Sp) (sp : List Value) (w : World) (hR : RowAt w g c (A ++ (M ++ D)) sp) (hV : Vs w (.slice (some ⟨g, 0, none⟩) 0 0) (.slice va vl vc) V) (hle : V.length ≤ M.length)
    (i d u j : Nat) (hi : A.length = i) (hd : D.length = d) (hu : M.length = u) (hj : i + u = j) :
    vl = V.length ∧ ∃ W1 W2 W3, (∀ ty dl dc, vl ≤ dl → ∃ q, (Builtin.copy_ #[47, 47] ty #[.slice (some ⟨g, i * 2, none⟩) dl dc, .slice va vl vc]).run Tryz.prog w = .ok q W1) ∧
      (∀ ty dl dc sl sc, d ≤ dl → sl = d → (Builtin.copy_ #[47, 47] ty #[.slice (some ⟨g, (i + vl) * 2, none⟩) dl dc, .slice (some ⟨g, j * 2, none⟩) sl sc]).run Tryz.prog W1.drew = .ok (goInt (Nat.min sl dl)) W2) ∧
      (∀ ty a l cc, (l = 0 ∨ a = some ⟨g, (i + vl + d) * 2, none⟩) → l = u - vl → (Builtin.clear_ #[47] ty #[.slice a l cc]).run Tryz.prog W2 = .ok (.tuple #[]) W3) ∧
      (∃ Z, RowAt W3 g c (A ++ (V ++ D)) Z) ∧ w.grownBy W3 (some g) := by
  subst hi hd hu hj
  have hsz := hR.2.1
  simp only [List.length_append] at hsz
  have hg0 : w.heap[g]? = some (.cells (cl A ++ (cl M ++ (cl D ++ sp))).toArray 63 (0, 0)) := by rw [hR.1, cl_append, cl_append]; simp
  -- the first copy
  obtain ⟨M', hvl, hM', hc1⟩ : ∃ M', vl = V.length ∧ M'.length + V.length * 2 = M.length * 2 ∧ ∀ ty dl dc, vl ≤ dl →
      ∃ q, (Builtin.copy_ #[47, 47] ty #[.slice (some ⟨g, A.length * 2, none⟩) dl dc, .slice va vl vc]).run Tryz.prog w = .ok q (w.setRow g (cl A ++ (cl V ++ (M' ++ (cl D ++ sp)))).toArray) := by
    rcases hV with ⟨rfl, hv⟩ | ⟨hV0, vb, vc', hv, hvb, hne, hsp⟩
    · injection hv with e1 e2 e3
      subst e1 e2 e3
      refine ⟨cl M, rfl, by simp [cl_length], fun ty dl dc _ => ⟨goInt 0, ?_⟩⟩
      rw [setRow_self w g _ _ _ (by simpa [cl] using hg0)]
      exact run_copy_nil (P := Tryz.prog) w _ _ ty 63 _ dl dc Tryz.underlying47 (by rw [Tryz.sizeS]; rfl)
    · injection hv with e1 e2 e3
      subst e1 e2 e3
      have hA : Away w g vb V.length vc V := ⟨hne g rfl, rfl, hsp⟩
      obtain ⟨X, C, Y, hXY, hXl, hCl⟩ := take3 (cl M) (V.length * 2) 0 (by rw [cl_length]; omega)
      refine ⟨C ++ Y, rfl, ?_, fun ty dl dc hdl => ⟨goInt (Nat.min V.length dl), ?_⟩⟩
      · have := congrArg List.length hXY
        simp only [List.length_append, cl_length] at this ⊢
        omega
      · exact copy_sp w g (A.length * 2) dl dc ⟨vb, 0, none⟩ V.length vc (cl A) X ((C ++ Y) ++ (cl D ++ sp)) V 63 ty (by rw [hg0, hXY]; simp) (cl_length A).symm hXl (min_l _ _ hdl).symm hA.src
  subst hvl
  refine ⟨rfl, ?_⟩
  obtain ⟨W1, hW1⟩ : ∃ W1, W1 = w.setRow g (cl A ++ (cl V ++ (M' ++ (cl D ++ sp)))).toArray := ⟨_, rfl⟩
  rw [← hW1] at hc1
  have hG1 : w.grownBy W1 (some g) := by rw [hW1]; exact grown_setRow w g _
  have hg1 : W1.heap[g]? = some (.cells (cl A ++ (cl V ++ (M' ++ (cl D ++ sp)))).toArray 63 (0, 0)) := by rw [hW1]; exact setRow_heap w g _ _ _ _ hg0
  clear hW1
  -- the second copy
  obtain ⟨X, C, Y, hXY, hXl, hCl⟩ := take3 (M' ++ (cl D ++ sp)) 0 (D.length * 2) (by simp only [List.length_append, cl_length]; omega)
  obtain rfl := List.length_eq_zero_iff.1 hXl
  rw [List.nil_append] at hXY
  have hYl : Y.length = M'.length + sp.length := by
    have := congrArg List.length hXY
    simp only [List.length_append, cl_length] at this
    omega
  have hc2 := fun ty dl dc sl sc (hdl : D.length ≤ dl) (hsl : sl = D.length) => copy_sp W1.drew g ((A.length + V.length) * 2) dl dc ⟨g, (A.length + M.length) * 2, none⟩ sl sc (cl A ++ cl V) C Y D 63 ty (by show W1.heap[g]? = _; rw [hg1, hXY]; simp) (by simp only [List.length_append, cl_length]; omega) hCl (by rw [hsl]; exact (min_l _ _ hdl).symm) (fun k v hk => by
    rw [Addr.add_lit]
    show W1.cell? _ = _
    unfold World.cell?
    simp only [hg1]
    have hkl := (List.getElem?_eq_some_iff.1 hk).1
    have e : cl A ++ (cl V ++ (M' ++ (cl D ++ sp))) = (cl A ++ cl V ++ M') ++ (cl D ++ sp) := by simp
    have hl : (cl A ++ cl V ++ M').length = (A.length + M.length) * 2 := by simp only [List.length_append, cl_length]; omega
    rw [e, List.getElem?_toArray, List.getElem?_append_right (by omega), hl, Nat.add_sub_cancel_left, List.getElem?_append_left hkl, hk]
    simp)
  simp only [List.append_assoc] at hc2
  obtain ⟨W2, hW2⟩ : ∃ W2, W2 = W1.drew.setRow g (cl A ++ (cl V ++ (cl D ++ Y))).toArray := ⟨_, rfl⟩
  rw [← hW2] at hc2
  have hG2 : w.grownBy W2 (some g) := by
    rw [hW2]
    exact ⟨hG1.os, hG1.tape, hG1.output, by have := hG1.size; simp only [setRow_size]; exact this, fun k hk he => by rw [setRow_other W1.drew g k _ (fun e => he (by rw [e]))]; exact hG1.block k hk he⟩
  have hg2 : W2.heap[g]? = some (.cells (cl A ++ (cl V ++ (cl D ++ Y))).toArray 63 (0, 0)) := by rw [hW2]; exact setRow_heap W1.drew g _ _ _ _ hg1
  clear hW2
  have hrow : ∀ (W : World) (Z : List Value), Z.length = Y.length → W.heap[g]? = some (.cells (cl A ++ (cl V ++ (cl D ++ Z))).toArray 63 (0, 0)) → RowAt W g c (A ++ (V ++ D)) Z := fun W Z hZ hW =>
    ⟨by rw [hW]; simp [cl_append], by simp only [List.length_append]; omega, hR.2.2⟩
  -- what is cleared
  by_cases h0 : M.length = V.length
  · exact ⟨W1, W2, W2, hc1, hc2, fun ty a l cc _ hl => clear_zero W2 ty a l cc (by omega), ⟨Y, hrow W2 Y rfl hg2⟩, hG2⟩
  · obtain ⟨X, C, Y0, hXY2, hXl2, hCl2⟩ := take3 Y 0 ((M.length - V.length) * 2) (by omega)
    obtain rfl := List.length_eq_zero_iff.1 hXl2
    rw [List.nil_append] at hXY2
    have hgg : W2.heap[g]? = some (.cells ((cl A ++ cl V ++ cl D) ++ (C ++ Y0)).toArray 63 (0, 0)) := by rw [hg2, hXY2]; simp
    have hlen : (cl A ++ cl V ++ cl D).length = (A.length + V.length + D.length) * 2 := by simp only [List.length_append, cl_length]; omega
    obtain ⟨Z, hZ, hr⟩ := clear_sp W2 g _ (M.length - V.length) _ C Y0 _ hgg hlen.symm hCl2
    refine ⟨W1, W2, W2.setRow g ((cl A ++ cl V ++ cl D) ++ (Z ++ Y0)).toArray, hc1, hc2, ?_, ⟨Z ++ Y0, hrow _ _ (by rw [hXY2]; simp only [List.length_append]; omega) ?_⟩, ?_⟩
    · intro ty a l cc h1 hl
      rcases h1 with h1 | rfl
      · omega
      · subst hl
        exact hr _ _
    · rw [setRow_heap W2 g _ _ _ _ hgg]; simp
    · exact ⟨hG2.os, hG2.tape, hG2.output, by have := hG2.size; simp only [setRow_size]; exact this, fun k hk he => by rw [setRow_other W2 g k _ (fun e => he (by rw [e]))]; exact hG2.block k hk he⟩

theorem grown_of_drewN {w W : World} {q : Nat} {r : Option Nat} (h : (w.drewN q).grownBy W r) : w.grownBy W r := ⟨h.os, h.tape, h.output, h.size, h.block⟩

theorem Vs.shape {w : World} {v vV : Value} {V : List Sp} (h : Vs w v vV V) : ∃ va vc, vV = .slice va V.length vc := by
  rcases h with ⟨rfl, rfl⟩ | ⟨_, vb, vc, rfl, _⟩
  · exact ⟨none, 0, rfl⟩
  · exact ⟨_, vc, rfl⟩

set_option maxRecDepth 100000 in
/-- Not more than is taken out, and something behind. -/
theorem replace_less (g c : Nat) (vV : Value) (A M D V : List Sp) (sp : List Value) (w : World) (hR : RowAt w g c (A ++ (M ++ D)) sp) (hV : Vs w (.slice (some ⟨g, 0, none⟩) 0 0) vV V) (hD : D ≠ []) (hM : M ≠ []) (hle : V.length ≤ M.length) (n j : Nat) (hj : A.length + M.length = j) (hn : j + D.length = n) :
    Calls Tryz.prog 70 #[.slice (some ⟨g, 0, none⟩) n c, .int .i64 A.length, .int .i64 j, vV] w fun e w' =>
      e = .returned (.slice (some ⟨g, 0, none⟩) (A.length + V.length + D.length) c) ∧ (∃ sp', RowAt w' g c (A ++ (V ++ D)) sp') ∧ w.grownBy w' (some g) := by
  have hcm := hR.2.2; unfold maxLen at hcm
  have hDl : 0 < D.length := List.length_pos_iff.2 hD
  have hMl : 0 < M.length := List.length_pos_iff.2 hM
  have hsz := hR.2.1
  simp only [List.length_append] at hsz
  obtain ⟨va, vc, rfl⟩ := hV.shape
  generalize hi : A.length = i at *
  generalize hd : D.length = d at *
  generalize hm : V.length = m at *
  generalize hu : M.length = u at *
  have hnj : n - j = d := by omega
  have hz1 : ¬ ((i : Int) = (j : Int)) := by omega
  have hz2 : ¬ ((j : Int) = (n : Int)) := by omega
  have hz3 : ¬ ((c : Int) < (i : Int) + (m : Int) + (d : Int)) := by omega
  have hw1 : IntKind.i64.wrap ((i : Int) + (m : Int)) = (i : Int) + (m : Int) := by rw [IntKind.wrap_i64]; omega
  have hw2 : IntKind.i64.wrap ((i : Int) + (m : Int) + (d : Int)) = (i : Int) + (m : Int) + (d : Int) := by rw [IntKind.wrap_i64]; omega
  have hz4 : (i : Int) + (m : Int) ≤ (j : Int) := by omega
  have hb0 : (i : Int) ≤ (j : Int) := by omega
  have hb1 : (j : Int) ≤ (n : Int) := by omega
  have hb2 : (n : Int) ≤ (c : Int) := by omega
  have hb3 : ¬ (c = i) := by omega
  have hb4 : ¬ (c = j) := by omega
  have hb5 : ¬ (c = i + m) := by omega
  have htn : ((i : Int) + (m : Int)).toNat = i + m := by omega
  have htn2 : ((i : Int) + (m : Int) + (d : Int)).toNat = i + m + d := by omega
  have hb6 : (0 : Int) ≤ (i : Int) + (m : Int) := by omega
  have hb7 : (0 : Int) ≤ (i : Int) + (m : Int) + (d : Int) := by omega
  have hb8 : (i : Int) + (m : Int) + (d : Int) ≤ (n : Int) := by omega
  have hb9 : (i : Int) + (m : Int) ≤ (i : Int) + (m : Int) + (d : Int) := by omega
  go_enter Tryz.func70, Tryz.ntmps70
  go_wp2
  go_quiet (fail)
  rename_i nq
  obtain ⟨hvv, W1, W2, W3, hc1, hc2, hc3, hZ, hG⟩ := less_steps g c m vc va A M D V sp (w.drewN nq) hR hV (by omega) i d u j hi hd hu hj
  obtain ⟨q1, hq1⟩ := hc1 3 (i + m + d - i) (c - i) (by omega)
  have hq2 := fun ty => hc2 ty (i + m + d - (i + m)) (c - (i + m)) d (c - j) (by omega) rfl
  have hl3 : n - (i + m + d) = u - m := by omega
  have hq3 : ∀ ty a cc, (c = i + m + d ∨ a = some ⟨g, (i + m + d) * 2, none⟩) → (Builtin.clear_ #[47] ty #[.slice a (n - (i + m + d)) cc]).run Tryz.prog W2 = .ok (.tuple #[]) W3 := fun ty a cc hh => hc3 ty a _ cc (hh.imp (fun h1 => by omega) id) hl3
  have hZG := hide (And.intro hZ hG)
  clear hvv hc1 hc2 hc3 hZ hG hR hV hi hd hm hu hj hn hsz hle hDl hMl hD hM hl3
  go_wp2_with (at_builtin; refine wpList_copy_run _ rfl _ _ 47 47 rfl _ _ rfl rfl hq1 ?_)
  go_region_law (refine step_copy_run rfl _ _ 47 47 rfl _ _ (by simp [Act.eval, Act.put]) (by simp [Act.eval, Act.put]) (hq2 _) ?_)
  go_wp2_with (at_builtin; refine wpList_clear_run _ rfl _ 47 rfl _ rfl (hq3 _ _ _ (by first | exact .inr rfl | exact .inl (by assumption))) ?_)
  all_goals go_ret
  all_goals (refine ⟨?_, (unhide hZG).1, grown_of_drewN (unhide hZG).2⟩; first | rfl | (subst_vars; rfl))
end Go.Proofs.YtnflbefbgcbdfaaGreat
