/- slices.Insert of spans. -/
import Derived.Test.YtnflbefbgcbdfaaGreatSB
namespace Go.Proofs.YtnflbefbgcbdfaaGreat
set_option maxRecDepth 100000
open Go.RowKit
set_option linter.unusedVariables false
set_option maxHeartbeats 400000

/-- Spans that lie elsewhere: plain memory, in a block other than the row's. -/
structure Away (w : World) (g : Nat) (vb : Nat) (vl vc : Nat) (V : List Sp) : Prop where
  ne : vb ≠ g
  len : V.length = vl
  row : ∃ sp, w.heap[vb]? = some (.cells (cl V ++ sp).toArray 63 (0, 0))

theorem Away.cell {w : World} {g vb vl vc : Nat} {V : List Sp} (h : Away w g vb vl vc V) (j : Nat) (v : Value) (hj : (cl V)[j]? = some v) : w.cell? ⟨vb, j, none⟩ = some v := by
  obtain ⟨sp, hr⟩ := h.row
  unfold World.cell?
  simp only [hr]
  have hlt := (List.getElem?_eq_some_iff.1 hj).1
  simp [List.getElem?_append_left hlt, hj]

theorem overlaps_no (w : World) (g vb vl vc o lb cb : Nat) (V : List Sp) (c : Nat) (L : List Sp) (sp : List Value) (hV : Away w g vb vl vc V) (hR : RowAt w g c L sp) (hc : 0 < c) :
    (callFunc 95 #[.slice (some ⟨vb, 0, none⟩) vl vc, .slice (some ⟨g, o, none⟩) lb cb]).run Tryz.prog w = .ok (.value (.bool false)) w := by
  obtain ⟨spv, hr⟩ := hV.row
  rw [run_callFunc_extern Tryz.func95 (by kernel_rfl) (by kernel_rfl) (by kernel_rfl) (e := Extern.SlicesOverlaps.overlaps #[47, 47] #[4]) (by kernel_rfl),
    Lib.run_overlaps_apart w 47 4 63 Tryz.underlying47 2 (fun w => by rfl) ⟨vb, 0, none⟩ ⟨g, o, none⟩ vl vc lb cb hV.ne 63 63 (cl V ++ spv).length (c * 2) (by simp [World.shape?, hr]) (by simp [World.shape?, hR.1, cl_length]; have := hR.2.1; omega) (by omega) (by simp [World.frozen?, hr]) (by simp [World.frozen?, hr])]
  rfl

theorem take3 {α : Type} (T : List α) (a b : Nat) (h : a + b ≤ T.length) : ∃ X C Y, T = X ++ (C ++ Y) ∧ X.length = a ∧ C.length = b :=
  ⟨T.take a, (T.drop a).take b, (T.drop a).drop b, by rw [List.take_append_drop, List.take_append_drop], by simp; omega, by simp; omega⟩

theorem min_r (a b : Nat) (h : b ≤ a) : Nat.min a b = b := Nat.min_eq_right h
theorem min_l (a b : Nat) (h : a ≤ b) : Nat.min a b = a := Nat.min_eq_left h

/-- copy within the world at hand: the row g holds X, C, Y; the cells of S come in C's place. -/
theorem copy_sp (w : World) (g o dl dc : Nat) (a : Addr) (sl sc : Nat) (X C Y : List Value) (S : List Sp) (t : TypeId) (ty : TypeId)
    (hg : w.heap[g]? = some (.cells (X ++ (C ++ Y)).toArray t (0, 0))) (ho : o = X.length) (hC : C.length = S.length * 2) (hn : S.length = Nat.min sl dl) (hsrc : ∀ j v, (cl S)[j]? = some v → w.cell? (a.add j) = some v) :
    (Builtin.copy_ #[47, 47] ty #[.slice (some ⟨g, o, none⟩) dl dc, .slice (some a) sl sc]).run Tryz.prog w = .ok (goInt (Nat.min sl dl)) (w.setRow g (X ++ (cl S ++ Y)).toArray) :=
  run_copy2 w _ _ ty 63 g o dl dc a sl sc X C Y t (cl S) Tryz.underlying47 Tryz.sizeS hg ho (by rw [hC, cl_length]) (by rw [cl_length, hn]) hsrc (cl_one S)

set_option maxRecDepth 100000 in
/-- There is room, and something behind. -/
theorem insert_room (g c vb vc : Nat) (A D V : List Sp) (sp : List Value) (w : World) (hR : RowAt w g c (A ++ D) sp) (hV : Away w g vb V.length vc V) (hD : D ≠ []) (hV0 : V ≠ []) (hroom : A.length + D.length + V.length ≤ c) :
    Calls Tryz.prog 94 #[.slice (some ⟨g, 0, none⟩) (A.length + D.length) c, .int .i64 A.length, .slice (some ⟨vb, 0, none⟩) V.length vc] w fun e w' =>
      e = .returned (.slice (some ⟨g, 0, none⟩) (A.length + D.length + V.length) c) ∧ ∃ sp', RowAt w' g c (A ++ (V ++ D)) sp' ∧ w.grownBy w' (some g) := by
  have hcm := hR.2.2; unfold maxLen at hcm
  have hDl : 0 < D.length := List.length_pos_iff.2 hD
  have hVl : 0 < V.length := List.length_pos_iff.2 hV0
  have hov := fun o lb cb => overlaps_no w g vb V.length vc o lb cb V c (A ++ D) sp hV hR (by omega)
  have hsz := hR.2.1
  simp only [List.length_append] at hsz
  obtain ⟨X, C, Y, hXY, hXl, hCl⟩ := take3 (cl D ++ sp) (V.length * 2) (D.length * 2) (by simp only [List.length_append, cl_length]; omega)
  have hYl : Y.length + (A.length + D.length + V.length) * 2 = c * 2 := by
    have := congrArg List.length hXY
    simp only [List.length_append, cl_length, hXl, hCl] at this
    omega
  have hg0 : w.heap[g]? = some (.cells ((cl A ++ X) ++ (C ++ Y)).toArray 63 (0, 0)) := by rw [hR.1, cl_append, List.append_assoc, hXY, List.append_assoc]
  have hsrc1 : ∀ W : World, W.heap = w.heap → ∀ j v, (cl D)[j]? = some v → W.cell? (Addr.add ⟨g, A.length * 2, none⟩ j) = some v := fun W hW j v hj => by
    have := hR.cell (A.length * 2 + j) v (by rw [cl_append, List.getElem?_append_right (by rw [cl_length]; omega), cl_length, Nat.add_sub_cancel_left]; exact hj)
    rw [Addr.add_lit]
    unfold World.cell? at this ⊢
    rw [hW]; exact this
  have hcp1 : ∀ (W : World) ty o1 dl dc o2 sl sc, W.heap = w.heap → o1 = (A.length + V.length) * 2 → dl = D.length → o2 = A.length * 2 → D.length ≤ sl →
      (Builtin.copy_ #[47, 47] ty #[.slice (some ⟨g, o1, none⟩) dl dc, .slice (some ⟨g, o2, none⟩) sl sc]).run Tryz.prog W = .ok (goInt (Nat.min sl dl)) (W.setRow g (cl A ++ (X ++ (cl D ++ Y))).toArray) := fun W ty o1 dl dc o2 sl sc hW e1 e2 e3 e4 => by
    subst e1 e2 e3
    rw [← List.append_assoc (cl A)]
    exact copy_sp W g _ _ _ _ _ _ (cl A ++ X) C Y D _ ty (by rw [hW]; exact hg0) (by simp only [List.length_append, cl_length, hXl]; omega) hCl (min_r _ _ e4).symm (hsrc1 W hW)
  have hcp2 : ∀ (W W0 : World) ty o1 dl dc sl sc, W0.heap = w.heap → W.heap = (W0.setRow g (cl A ++ (X ++ (cl D ++ Y))).toArray).heap → o1 = A.length * 2 → V.length ≤ dl → sl = V.length →
      (Builtin.copy_ #[47, 47] ty #[.slice (some ⟨g, o1, none⟩) dl dc, .slice (some ⟨vb, 0, none⟩) sl sc]).run Tryz.prog W = .ok (goInt (Nat.min sl dl)) (W.setRow g (cl A ++ (cl V ++ (cl D ++ Y))).toArray) := fun W W0 ty o1 dl dc sl sc hW0 hW e1 e2 e3 => by
    subst e1 e3
    refine copy_sp W g _ _ _ _ _ _ (cl A) X (cl D ++ Y) V 63 ty ?_ (cl_length A).symm hXl (min_l _ _ e2).symm ?_
    · rw [hW, setRow_heap W0 g _ _ _ _ (by rw [hW0]; exact hg0)]
    · intro j v hj
      rw [Addr.add_lit, Nat.zero_add]
      have h2 := hV.cell j v hj
      unfold World.cell? at h2 ⊢
      rw [hW]
      simp only [setRow_other W0 g vb _ hV.ne, hW0]
      exact h2
  generalize hi : A.length = i at *
  generalize hd : D.length = d at *
  generalize hm : V.length = m at *
  have hz1 : ¬ ((m : Int) = 0) := by omega
  have hz2 : ¬ ((i : Int) = (i : Int) + (d : Int)) := by omega
  have hz3 : ¬ ((c : Int) < (i : Int) + (d : Int) + (m : Int)) := by omega
  have hw1 : IntKind.i64.wrap ((i : Int) + (m : Int)) = (i : Int) + (m : Int) := by rw [IntKind.wrap_i64]; omega
  have hw2 : IntKind.i64.wrap ((i : Int) + (d : Int) + (m : Int)) = (i : Int) + (d : Int) + (m : Int) := by rw [IntKind.wrap_i64]; omega
  have hb1 : (0 : Int) ≤ (i : Int) + (m : Int) := by omega
  have hb2 : (i : Int) ≤ (i : Int) + (d : Int) := by omega
  have hb3 : (i : Int) ≤ (i : Int) + (d : Int) + (m : Int) := by omega
  have htn : ((i : Int) + (m : Int)).toNat = i + m := by omega
  have hb4 : ¬ (c = i + m) := by omega
  have hb5 : ¬ (c = i) := by omega
  have hq1 := fun ty => hcp1 w.drew ty ((i + m) * 2) (i + d + m - (i + m)) (c - (i + m)) (i * 2) (i + d + m - i) (c - i) rfl rfl (by omega) rfl (by omega)
  have hq2 := fun ty => hcp2 _ w.drew ty (i * 2) (i + d + m - i) (c - i) m vc rfl rfl rfl (by omega) rfl
  go_enter Tryz.func94, Tryz.ntmps94
  go_wp2_with (simp only [hov])
  go_region_law (refine step_copy_run rfl _ _ 47 47 rfl _ _ (by simp [Act.eval, Act.put]) (by simp [Act.eval, Act.put]) (hq1 _) ?_)
  go_wp2_with (at_builtin; refine wpList_copy_run _ rfl _ _ 47 47 rfl _ _ rfl rfl (hq2 _) ?_)
  go_ret
  refine ⟨rfl, Y, ⟨?_, ?_, hR.2.2⟩, ?_⟩
  · rw [setRow_heap _ g _ _ 63 (0, 0) (setRow_heap w.drew g _ _ _ _ hg0)]
    simp [cl_append]
  · simp only [List.length_append, hi, hd, hm]; omega
  · rw [setRow_setRow]
    exact ⟨rfl, rfl, rfl, by simp, fun k _ hk => setRow_other w.drew g k _ (fun e => hk (by rw [e]))⟩

/-- append of spans to a row of one's own. -/
theorem app2 (w : World) (v : Value) (A V : List Sp) (ty : TypeId) (hrow : Row w v A) (ad : Addr) (c : Nat) (hsrc : ∀ j u, (cl V)[j]? = some u → w.cell? (ad.add j) = some u) (hm : V ≠ []) (hbytes : (A.length + V.length) * 16 ≤ 140737488355328) :
    ∃ v' w', (Builtin.append_ #[47, 47] ty #[v, .slice (some ad) V.length c]).run Tryz.prog w = .ok v' w' ∧ Row w' v' (A ++ V) ∧ Moved w w' v v' ∧ v' ≠ .slice none 0 0 := by
  obtain ⟨i, hi, hz0, hz1, hz2⟩ := info_parts Tryz.infoS
  have hVl : 0 < V.length := List.length_pos_iff.2 hm
  have h63 : A.length + V.length ≤ maxLen := by unfold maxLen; omega
  obtain ⟨v', w', hr, ho, hg, hnil⟩ := run_append_own (P := Tryz.prog) w 0 47 ty 63 i _ 2 16 Tryz.underlying47 hi hz0 hz1 hz2 rfl (by decide) v A.length (cl A) hrow ad V.length c (cl V) (cl_length V) hsrc (cl_one V) h63 hbytes (Nat.zero_le _)
  refine ⟨v', w', hr, ?_, ?_, fun h => by have := (hnil.1 h).2; omega⟩
  · unfold Row; rw [cl_append, List.length_append]; exact ho
  rcases Row.at hrow with ⟨rfl, rfl⟩ | ⟨g, cap, sp, rfl, hR⟩
  · have := run_append_nil (P := Tryz.prog) w 47 ty 63 i _ Tryz.underlying47 hi hz0 ad V.length c (cl V) (by rw [hz1]; exact cl_length V) hsrc hVl (by omega) (by rw [hz2]; simp only [List.length_nil, Nat.zero_add] at hbytes; omega)
    rw [this] at hr
    injection hr with e1 e2
    subst e1 e2
    exact .inr ⟨rfl, grown_drew_alloc w _⟩
  · have hsz := hR.2.1
    by_cases hroom : A.length + V.length ≤ cap
    · have := run_append_room (P := Tryz.prog) w 47 ty 63 i Tryz.underlying47 hi g A.length cap _ hR.1 ad V.length c (cl V) (by rw [hz1]; exact cl_length V) hsrc (cl_one V) hroom (by simp only [hz1, List.size_toArray, List.length_append, cl_length]; omega)
      rw [this] at hr
      injection hr with e1 e2
      subst e1
      exact .inl ⟨rfl, hg⟩
    · have := run_append_grow (P := Tryz.prog) w 47 ty 63 i _ Tryz.underlying47 hi hz0 ⟨g, 0, none⟩ A.length cap (cl A) (by rw [hz1]; exact cl_length A) (fun j u hj => by rw [Addr.add_lit, Nat.zero_add]; exact hR.cell j u hj) ad V.length c (cl V) (by rw [hz1]; exact cl_length V) hsrc (by omega) (by unfold maxLen at h63; omega) (growslice_fits (by omega) (by rw [hz2]; exact hbytes))
      rw [this] at hr
      injection hr with e1 e2
      subst e1 e2
      exact .inr ⟨rfl, grown_drew_alloc w _⟩

theorem Away.src {w : World} {g vb vl vc : Nat} {V : List Sp} (h : Away w g vb vl vc V) : ∀ j u, (cl V)[j]? = some u → w.cell? (Addr.add ⟨vb, 0, none⟩ j) = some u := fun j u hj => by rw [Addr.add_lit, Nat.zero_add]; exact h.cell j u hj

theorem grown_self (w : World) (row : Option Nat) : w.grownBy w row := ⟨rfl, rfl, rfl, Nat.le_refl _, fun _ _ _ => rfl⟩
theorem Moved.refl (w : World) (v : Value) : Moved w w v v := .inl ⟨rfl, grown_self w _⟩

/-- Nothing to insert. -/
theorem insert_none (v : Value) (A D : List Sp) (a : Option Addr) (c : Nat) (w : World) (hrow : Row w v (A ++ D)) :
    Calls Tryz.prog 94 #[v, .int .i64 A.length, .slice a 0 c] w fun e w' => e = .returned v ∧ w' = w := by
  rcases Row.at hrow with ⟨rfl, h0⟩ | ⟨g, cap, sp, rfl, hR⟩
  · obtain ⟨rfl, rfl⟩ := List.append_eq_nil_iff.1 h0
    go_enter Tryz.func94, Tryz.ntmps94
    go_wp2
    go_ret
    exact ⟨rfl, rfl⟩
  · have hcm := hR.2.2; unfold maxLen at hcm
    have hsz := hR.2.1
    simp only [List.length_append] at hsz ⊢
    generalize A.length = i at *
    generalize D.length = d at *
    go_enter Tryz.func94, Tryz.ntmps94
    go_wp2
    all_goals go_ret
    all_goals exact ⟨rfl, rfl⟩

/-- At the end. -/
theorem insert_end (v : Value) (A V : List Sp) (vb c : Nat) (w : World) (hrow : Row w v A) (hsrc : ∀ j u, (cl V)[j]? = some u → w.cell? (Addr.add ⟨vb, 0, none⟩ j) = some u) (hV0 : V ≠ []) (hbytes : (A.length + V.length) * 16 ≤ 140737488355328) :
    Calls Tryz.prog 94 #[v, .int .i64 A.length, .slice (some ⟨vb, 0, none⟩) V.length c] w fun e w' => ∃ v', e = .returned v' ∧ Row w' v' (A ++ V) ∧ Moved w w' v v' := by
  have hap := fun ty => app2 w v A V ty hrow ⟨vb, 0, none⟩ c hsrc hV0 hbytes
  have hVl : 0 < V.length := List.length_pos_iff.2 hV0
  have hz1 : ¬ ((V.length : Int) = 0) := by omega
  rcases Row.at hrow with ⟨rfl, rfl⟩ | ⟨g, cap, sp, rfl, hR⟩
  · generalize V.length = m at *
    go_enter Tryz.func94, Tryz.ntmps94
    obtain ⟨v', w', hr, hro, hmo, _⟩ := hap 47
    go_wp2_with (at_builtin; refine wpList_append_run _ rfl _ _ 47 47 rfl _ _ rfl rfl hr ?_)
    go_ret
    exact ⟨v', rfl, hro, hmo⟩
  · have hcm := hR.2.2; unfold maxLen at hcm
    have hsz := hR.2.1
    generalize A.length = i at *
    generalize V.length = m at *
    go_enter Tryz.func94, Tryz.ntmps94
    obtain ⟨v', w', hr, hro, hmo, _⟩ := hap 47
    go_wp2_with (at_builtin; refine wpList_append_run _ rfl _ _ 47 47 rfl _ _ rfl rfl hr ?_)
    all_goals go_ret
    all_goals exact ⟨v', rfl, hro, hmo⟩
end Go.Proofs.YtnflbefbgcbdfaaGreat
