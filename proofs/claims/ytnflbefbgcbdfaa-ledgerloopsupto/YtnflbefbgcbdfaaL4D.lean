/- Ledger: rows of packets while some are taken out. -/
import Derived.Test.YtnflbefbgcbdfaaL4C
namespace Go.Proofs.Ytnflbefbgcbdfaa
open Go.RowKit
set_option linter.unusedVariables false
set_option linter.unusedSimpArgs false
set_option maxRecDepth 100000
set_option maxHeartbeats 1000000

/-- The cells of packets. -/
def clp (ps : List (St × Value)) : List Value := (ps.map fun p => (p.1.cs p.2).toList).flatten
theorem clp_len (ps : List (St × Value)) : (clp ps).length = ps.length * 8 := by
  have := flat_len 8 (ps.map fun p => (p.1.cs p.2).toList) (fun c hc => by obtain ⟨p, -, rfl⟩ := List.mem_map.1 hc; rfl)
  rw [List.length_map] at this
  exact this
theorem clp_app (a b : List (St × Value)) : clp (a ++ b) = clp a ++ clp b := by simp [clp]
theorem clp_cons (p : St × Value) (b : List (St × Value)) : clp (p :: b) = (p.1.cs p.2).toList ++ clp b := by simp [clp]
theorem skl_clp (ks : List St) (fvs : List Value) : (skl ks fvs).flatten = clp (ks.zip fvs) := by
  unfold skl clp
  congr 1
  rw [List.zip, List.map_zipWith]

theorem run_clearN {P : Program} (sz : Nat) (hsz : 0 < sz) (w : World) (t e : TypeId) (z : Value) (ht : P.underlying t = some (.slice e)) (hv : ∀ w, (zeroValue e).run P w = .ok z w) (hz : z.cells.size = sz) (h1 : ∀ u ∈ z.cells.toList, u.oneCell' = true)
    (g o n : Nat) (X C Y : List Value) (tt : TypeId) (hg : w.heap[g]? = some (.cells (X ++ (C ++ Y)).toArray tt (0, 0))) (ho : o = X.length) (hC : C.length = n * sz) :
    ∃ Z, Z.length = n * sz ∧ ∀ ty c, (Builtin.clear_ #[t] ty #[.slice (some ⟨g, o, none⟩) n c]).run P w = .ok (.tuple #[]) (w.setRow g (X ++ (Z ++ Y)).toArray) := by
  cases n with
  | zero =>
    have : C = [] := List.length_eq_zero_iff.1 (by omega)
    subst this
    refine ⟨[], by simp, fun ty c => ?_⟩
    rw [setRow_self w g _ tt (0, 0) hg]
    simp [Builtin.clear_, run_underlying ht]
  | succ m =>
    have hlen : (Builtin.zeroCells z.cells (m + 1)).toList.length = (m + 1) * sz := by simp [Builtin.zeroCells, hz]
    have hst := run_storeCells_at P g o tt (Builtin.zeroCells z.cells (m + 1)).toList 0 _ w hg (by subst ho; rw [hlen]; simp; omega) (by
      intro v hv'
      simp only [Builtin.zeroCells, Array.toList_map, List.mem_map] at hv'
      obtain ⟨k, hk, rfl⟩ := hv'
      have : k % z.cells.size < z.cells.size := Nat.mod_lt _ (by omega)
      rw [getElem!_pos z.cells _ this]
      exact h1 _ (by simp))
    refine ⟨_, hlen, fun ty c => ?_⟩
    have e := splice X C Y (Builtin.zeroCells z.cells (m + 1)).toList o ho (by rw [hlen, hC])
    rw [e] at hst
    simp [Builtin.clear_, run_underlying ht, hv, hst]

/-- An element stored whole, into the midst of a row. -/
theorem wpList_store_mid {P : Program} {ops : Array Oper} {rest : List Oper} {o : Oper} {a : Act} {w : World} {Q : Exit → Act → World → Prop} (hgd : o.guard = none) (ty : TypeId) (x y : Operand) (ho : o.op = .store ty x y)
    (g off : Nat) (cells : Array Value) (hx : a.eval x = .pointer (some ⟨g, off, none⟩)) (hy : a.eval y = .agg cells)
    (t : TypeId) (X C Y : List Value) (hg : w.heap[g]? = some (.cells (X ++ (C ++ Y)).toArray t (0, 0))) (hoff : off = X.length) (hC : C.length = cells.size) (hi : (P.info? ty).map (·.size) = some cells.size) (h1 : ∀ v ∈ cells.toList, v.oneCell' = true)
    (h : wpList P ops Q rest (a.put o.dst undef) (w.setRow g (X ++ (cells.toList ++ Y)).toArray)) : wpList P ops Q (o :: rest) a w :=
  wpList_plain hgd fun K hK => by
    have hst := run_storeCells_at P g off t cells.toList 0 _ w hg (by subst hoff; simp; omega) h1
    have e := splice X C Y cells.toList off hoff (by simpa using hC)
    rw [e] at hst
    have hv : (storeVar ty ⟨g, off, none⟩ (.agg cells)).run P w = .ok () (w.setRow g (X ++ (cells.toList ++ Y)).toArray) := by
      cases hq : P.info? ty with
      | none => simp [hq] at hi
      | some i =>
        have hs : cells.size = i.size := by simp [hq] at hi; omega
        simp [storeVar, sizeOf, typeInfo, hq, Value.cells, hs, hst]
    unfold Oper.wp execOp
    simp only [ho, hx, hy, Instr.storeAt, Instr.sureAddr, Sem.run_bind, Sem.run_pure, Result.andThen_ok, hv]
    exact hK _ _ h

theorem cell_mid {W : World} {g : Nat} {t : TypeId} {X C Y : List Value} (hg : W.heap[g]? = some (.cells (X ++ (C ++ Y)).toArray t (0, 0))) (o : Nat) (ho : o = X.length) (j : Nat) (v : Value) (hv : C[j]? = some v) : W.cell? ⟨g, o + j, none⟩ = some v := by
  subst ho
  have hj := (List.getElem?_eq_some_iff.1 hv).1
  unfold World.cell?
  rw [hg]
  simp only [List.getElem?_toArray]
  rw [List.getElem?_append_right (by omega), Nat.add_sub_cancel_left, List.getElem?_append_left hj]
  exact hv

/-- While packets are taken out: j were looked at, K of them are left. -/
structure DI (R : Nat → Prop) (M : Int → Bool) (W : World) (g c : Nat) (ps : List (St × Value)) (j : Nat) (K : List (St × Value)) : Prop where
  hK : K = (ps.take j).filter (fun p => !M p.1.nu)
  blk : ∃ mid sp, Blk W g (clp K ++ (mid ++ (clp (ps.drop j) ++ sp))).toArray 36 ∧ K.length * 8 + mid.length = j * 8 ∧ ps.length * 8 + sp.length = c * 8
  fv : ∀ p ∈ ps, FvAt R W p.2 p.1.fs
  jl : j ≤ ps.length
section
variable {R : Nat → Prop} {M : Int → Bool} {W W' : World} {g c j : Nat} {ps K : List (St × Value)}
theorem DI.kl (h : DI R M W g c ps j K) : K.length ≤ j := by
  rw [h.hK]
  have := List.length_filter_le (fun p : St × Value => !M p.1.nu) (ps.take j)
  rw [List.length_take] at this
  omega
theorem DI.kept (h : DI R M W g c ps j K) (hg : W'.heap[g]? = W.heap[g]?) (hr : ∀ b, R b → W'.heap[b]? = W.heap[b]?) : DI R M W' g c ps j K := by
  obtain ⟨mid, sp, h1, h2, h3⟩ := h.blk
  exact ⟨h.hK, ⟨mid, sp, hg.trans h1, h2, h3⟩, fun p hp => (h.fv p hp).kept hr, h.jl⟩
theorem drop_at {α : Type} {l : List α} {j : Nat} {p : α} (h : l[j]? = some p) : l.drop j = p :: l.drop (j + 1) := by
  obtain ⟨h1, h2⟩ := List.getElem?_eq_some_iff.1 h
  rw [List.drop_eq_getElem_cons h1, h2]
theorem DI.get {p : St × Value} (h : DI R M W g c ps j K) (hp : ps[j]? = some p) : ∀ t v, (p.1.cs p.2)[t]? = some v → W.cell? ⟨g, j * 8 + t, none⟩ = some v := by
  intro t v hv
  obtain ⟨mid, sp, h1, h2, h3⟩ := h.blk
  rw [drop_at hp, clp_cons, ← List.append_assoc (clp K), List.append_assoc (p.1.cs p.2).toList] at h1
  exact cell_mid h1 (j * 8) (by rw [List.length_append, clp_len]; omega) t v (by simpa using hv)
theorem take_at {α : Type} {l : List α} {j : Nat} {p : α} (h : l[j]? = some p) : l.take (j + 1) = l.take j ++ [p] := by
  rw [List.take_add_one, h]; rfl
theorem DI.skip {p : St × Value} (h : DI R M W g c ps j K) (hp : ps[j]? = some p) (hm : M p.1.nu = true) : DI R M W g c ps (j + 1) K := by
  obtain ⟨mid, sp, h1, h2, h3⟩ := h.blk
  refine ⟨?_, ⟨mid ++ (p.1.cs p.2).toList, sp, ?_, ?_, h3⟩, h.fv, (List.getElem?_eq_some_iff.1 hp).1⟩
  · rw [take_at hp, List.filter_append, ← h.hK]; simp [hm]
  · rw [drop_at hp, clp_cons] at h1
    simpa [List.append_assoc] using h1
  · rw [List.length_append]; show _ + (_ + 8) = _; omega
/-- One that is left goes to its place. -/
theorem DI.put {p : St × Value} (h : DI R M W g c ps j K) (hp : ps[j]? = some p) (hm : M p.1.nu = false) (hr : ¬ R g) :
    ∃ X C Y : List Value, Blk W g (X ++ (C ++ Y)).toArray 36 ∧ K.length * 8 = X.length ∧ C.length = 8 ∧ DI R M (W.setRow g (X ++ ((p.1.cs p.2).toList ++ Y)).toArray) g c ps (j + 1) (K ++ [p]) := by
  obtain ⟨mid, sp, h1, h2, h3⟩ := h.blk
  have hd := drop_at hp
  rw [hd, clp_cons] at h1
  have hm8 : 8 ≤ (mid ++ (p.1.cs p.2).toList).length := by rw [List.length_append]; show _ ≤ _ + 8; omega
  have e : clp K ++ (mid ++ ((p.1.cs p.2).toList ++ clp (ps.drop (j + 1)) ++ sp)) = clp K ++ ((mid ++ (p.1.cs p.2).toList).take 8 ++ ((mid ++ (p.1.cs p.2).toList).drop 8 ++ (clp (ps.drop (j + 1)) ++ sp))) := by
    congr 1
    rw [← List.append_assoc (List.take _ _), List.take_append_drop]
    simp [List.append_assoc]
  rw [e] at h1
  refine ⟨clp K, (mid ++ (p.1.cs p.2).toList).take 8, (mid ++ (p.1.cs p.2).toList).drop 8 ++ (clp (ps.drop (j + 1)) ++ sp), h1, (clp_len K).symm, by rw [List.length_take]; omega, ?_, ⟨(mid ++ (p.1.cs p.2).toList).drop 8, sp, ?_, ?_, h3⟩, fun q hq => (h.fv q hq).kept fun b hb => setRow_other W g b _ (fun e => hr (e ▸ hb)), (List.getElem?_eq_some_iff.1 hp).1⟩
  · rw [take_at hp, List.filter_append, ← h.hK]; simp [hm]
  · have := h1.row (clp K ++ ((p.1.cs p.2).toList ++ ((mid ++ (p.1.cs p.2).toList).drop 8 ++ (clp (ps.drop (j + 1)) ++ sp)))).toArray
    rw [clp_app, clp_cons]
    simpa [clp, List.append_assoc] using this
  · rw [List.length_append, List.length_drop, List.length_append]
    show (_ + 1) * 8 + (_ + 8 - 8) = _
    omega
/-- The beginning. -/
theorem DI.start {ks : List St} {k : Nat} {s : St} (h : KvAt R W (.slice (some ⟨g, 0, none⟩) ks.length c) ks) (hs : ks[k]? = some s) (h1 : ∀ s ∈ ks.take k, M s.nu = false) (h2 : M s.nu = true) :
    ∃ ps K, ps.map Prod.fst = ks ∧ K.length = k ∧ DI R M W g c ps (k + 1) K := by
  obtain ⟨fvs, e1, e2, e3⟩ := h
  have hk := (List.getElem?_eq_some_iff.1 hs).1
  obtain ⟨fv, hf⟩ : ∃ fv, fvs[k]? = some fv := ⟨_, List.getElem?_eq_getElem (by omega)⟩
  have hz : (ks.zip fvs)[k]? = some (s, fv) := by rw [List.getElem?_zip_eq_some]; exact ⟨hs, hf⟩
  have hzl : (ks.zip fvs).length = ks.length := by simp [e1]
  refine ⟨ks.zip fvs, (ks.zip fvs).take k, List.map_fst_zip (by omega), by rw [List.length_take]; omega, ?_⟩
  have hD : DI R M W g c (ks.zip fvs) k ((ks.zip fvs).take k) := by
    refine ⟨?_, ?_, ?_, by omega⟩
    · rw [List.filter_eq_self.2]
      rintro ⟨x, y⟩ hx
      have : x ∈ ks.take k := by
        have h3 : x ∈ ((ks.zip fvs).take k).map Prod.fst := List.mem_map.2 ⟨_, hx, rfl⟩
        rw [List.map_take, List.map_fst_zip (by omega)] at h3
        exact h3
      simp [h1 x this]
    · rw [skl_clp] at e2
      rcases e2.2 with ⟨q, -⟩ | ⟨g', c', cur, q1, q2, q3, q4, q5, q6, q7⟩
      · cases q
      · injection q1 with q1 q1b q1c
        injection q1 with q1
        injection q1 with q1
        subst q1
        subst q1c
        refine ⟨[], cur.toList.drop (ks.length * 8), ?_, by rw [List.length_take]; simp; omega, by rw [List.length_drop, hzl]; simp; omega⟩
        rw [List.nil_append, ← List.append_assoc, ← clp_app, List.take_append_drop, ← q7, List.take_append_drop, Array.toArray_toList]
        exact q3
    · rintro ⟨x, y⟩ hx
      obtain ⟨i, hi⟩ := List.getElem?_of_mem hx
      rw [List.getElem?_zip_eq_some] at hi
      exact e3 i x y hi.1 hi.2
  exact hD.skip hz h2
/-- The end: what is behind was cleared. -/
theorem DI.ends {n : Nat} (h : DI R M W g c ps n K) (hn : n = ps.length) (hr : ¬ R g) (hc : c ≤ maxLen) :
    ∃ X C Y : List Value, Blk W g (X ++ (C ++ Y)).toArray 36 ∧ K.length * 8 = X.length ∧ C.length = (n - K.length) * 8 ∧ ∀ Z : List Value, Z.length = (n - K.length) * 8 → KvAt R (W.setRow g (X ++ (Z ++ Y)).toArray) (.slice (some ⟨g, 0, none⟩) K.length c) ((ps.map Prod.fst).filter (fun s => !M s.nu)) := by
  have hkl := h.kl
  obtain ⟨mid, sp, h1, h2, h3⟩ := h.blk
  rw [hn, List.drop_length] at h1
  have e : clp K ++ (mid ++ (clp [] ++ sp)) = clp K ++ (mid ++ sp) := rfl
  rw [e] at h1
  refine ⟨clp K, mid, sp, h1, (clp_len K).symm, by omega, fun Z hZ => ?_⟩
  have hks : (ps.map Prod.fst).filter (fun s => !M s.nu) = K.map Prod.fst := by
    rw [h.hK, hn, List.take_length, List.filter_map]
    rfl
  have hl : K.length = (K.map Prod.fst).length := by simp
  rw [hks]
  refine ⟨K.map Prod.snd, by simp, ?_, fun i s fv a b => ?_⟩
  · have ez : (K.map Prod.fst).zip (K.map Prod.snd) = K := by
      rw [List.zip_map']; simp
    rw [skl_clp, ez, ← hl]
    refine ⟨clp_len K, .inr ⟨g, c, (clp K ++ (Z ++ sp)).toArray, rfl, Nat.zero_le _, h1.row _, by omega, hc, ?_, ?_⟩⟩
    · simp only [List.size_toArray, List.length_append, clp_len]; omega
    · rw [← clp_len]; simp
  · rw [List.getElem?_map] at a b
    obtain ⟨p, hp, rfl⟩ := Option.map_eq_some_iff.1 a
    rw [hp] at b
    simp at b
    subst b
    have hpK : p ∈ K := List.mem_of_getElem? hp
    rw [h.hK] at hpK
    exact (h.fv p (List.mem_of_mem_take (List.mem_filter.1 hpK).1)).kept fun b hb => setRow_other W g b _ (fun e => hr (e ▸ hb))
end
end Go.Proofs.Ytnflbefbgcbdfaa
