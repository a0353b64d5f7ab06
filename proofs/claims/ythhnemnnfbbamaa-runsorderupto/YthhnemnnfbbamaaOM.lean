/- RunsOrder: rows that are made, copied into, written. -/
import Derived.Test.YthhnemnnfbbamaaLD0
import Derived.Test.YthhnemnnfbbamaaOA
namespace Go.Proofs.Ythhnemnnfbbamaa
open Go.RowKit Go.Shelf
set_option linter.unusedVariables false
set_option maxHeartbeats 400000
set_option maxRecDepth 100000

theorem cl_replicate (m : Nat) : cl (List.replicate m (0, 0)) = List.replicate (m * 2) (.int .i64 0) := by
  induction m with
  | zero => rfl
  | succ m ih =>
    rw [List.replicate_succ, show (m + 1) * 2 = m * 2 + 1 + 1 by omega, List.replicate_succ, List.replicate_succ, ← ih]
    rfl

theorem made_cl (m : Nat) : madeCells #[.int .i64 0, .int .i64 0] (m * 2) = (cl (List.replicate m (0, 0))).toArray := by
  rw [cl_replicate]
  apply Array.ext_getElem?
  intro j
  by_cases hj : j < m * 2
  · rcases Nat.mod_two_eq_zero_or_one j with h | h <;> simp [madeCells, hj, h]
  · simp [madeCells, hj]

theorem mk_spans (m : Nat) (h : m ≤ 400000000) (W : World) : (Instr.makeSlice 61 (.int .i64 (m : Int)) (.int .i64 (m : Int))).run Try.prog W = .ok (.slice (some ⟨W.heap.size, 0, none⟩) m m) (W.alloc (.cells (cl (List.replicate m (0, 0))).toArray 64)) := by
  obtain ⟨i, hi, hz, hs, hb⟩ := info_parts Try.infoS
  have := run_make (P := Try.prog) W 61 64 i _ Try.underlying61 hi hz .i64 .i64 m m (by omega) (by omega) (by rw [hb]; omega) (by omega)
  rw [this, hs]
  congr 3
  simp only [Int.toNat_natCast]
  exact made_cl m

theorem wpList_mkS {ops : Array Oper} {rest : List Oper} {o : Oper} {a : Act} {Q : Exit → Act → World → Prop} (m : Nat) (h : m ≤ 400000000) (w : World) (hg : o.guard = none) (l c : Operand) (hop : o.op = Op.makeSlice 61 l c)
    (hl : a.eval l = .int .i64 (m : Int)) (hc : a.eval c = .int .i64 (m : Int))
    (hK : wpList Try.prog ops Q rest (a.put o.dst (.slice (some ⟨w.heap.size, 0, none⟩) m m)) (w.alloc (.cells (cl (List.replicate m (0, 0))).toArray 64))) : wpList Try.prog ops Q (o :: rest) a w := by
  refine wpList_plain hg fun K hK' => ?_
  unfold Oper.wp
  simp [execOp, hop, hl, hc, mk_spans m h, Result.andThen]
  exact hK' _ _ hK

theorem made_row (m : Nat) (h : m ≤ 400000000) (w : World) : RowAt (w.alloc (.cells (cl (List.replicate m (0, 0))).toArray 64)) w.heap.size m (List.replicate m (0, 0)) [] :=
  ⟨by rw [List.append_nil]; exact heap_alloc_new w _, by simp, by unfold maxLen; omega⟩

/-- copy into the head of a row. -/
theorem copy_head {w : World} {g m n : Nat} {a : Option Addr} {c : Nat} {L Y : List Sp} (hr : RowAt w g m (List.replicate n (0, 0) ++ Y) []) (hL : L.length = n) (hm : m = n + Y.length) (hrd : RdS w a L) :
    ∃ w', (∀ ty, (Builtin.copy_ #[61, 61] ty #[.slice (some ⟨g, 0, none⟩) m m, .slice a n c]).run Try.prog w = .ok (goInt n) w') ∧ RowAt w' g m (L ++ Y) [] ∧ w.grownBy w' (some g) := by
  by_cases h0 : n = 0
  · subst h0
    obtain rfl := List.length_eq_zero_iff.1 hL
    refine ⟨w, fun ty => ?_, by simpa using hr, grown_self _ _⟩
    obtain ⟨inf, hi0, hz0, hz1, hz2⟩ := info_parts Try.infoS
    cases a with
    | none => simp [Builtin.copy_, run_underlying Try.underlying61, Builtin.lenOf, Builtin.firstCells, sizeOf, typeInfo, hi0, storeCells, goInt]
    | some p => simp [Builtin.copy_, run_underlying Try.underlying61, Builtin.lenOf, Builtin.firstCells, sizeOf, typeInfo, hi0, loadCells, loadCellsFrom, storeCells, goInt]
  · obtain ⟨b, off, rfl, hc⟩ := hrd (fun e => by rw [e] at hL; simp at hL; omega)
    have hb : w.heap[g]? = some (.cells ([] ++ (cl (List.replicate n (0, 0)) ++ cl Y)).toArray 64 (0, 0)) := by
      rw [hr.1, cl_append, List.append_nil, List.nil_append]
    have hmin : Nat.min n m = n := Nat.min_eq_left (by omega)
    have hrun := fun ty => run_copy2 (P := Try.prog) w 61 61 ty 64 g 0 m m ⟨b, off, none⟩ n c [] (cl (List.replicate n (0, 0))) (cl Y) _ (cl L) Try.underlying61 Try.sizeS hb rfl (by rw [cl_length, cl_length, List.length_replicate, hL]) (by rw [cl_length, hmin, hL]) (fun j v hj => by
        have hlt : j < L.length * 2 := by have := (List.getElem?_eq_some_iff.1 hj).1; rw [cl_length] at this; exact this
        rw [Addr.add_lit]
        rcases Nat.mod_two_eq_zero_or_one j with h | h
        · have h1 := (hc (j / 2) (by omega)).1
          have h2 := cl_lo L (j / 2) (by omega)
          rw [show j / 2 * 2 = j by omega] at h1 h2
          rw [h2] at hj
          rw [h1, ← hj]
        · have h1 := (hc (j / 2) (by omega)).2
          have h2 := cl_hi L (j / 2) (by omega)
          rw [show off + j / 2 * 2 + 1 = off + j by omega] at h1
          rw [show j / 2 * 2 + 1 = j by omega] at h2
          rw [h2] at hj
          rw [h1, ← hj]) (cl_one L)
    rw [hmin] at hrun
    refine ⟨_, hrun, ⟨?_, ?_, hr.2.2⟩, grown_setRow _ _ _⟩
    · rw [setRow_heap w g _ _ _ _ hb]
      rw [cl_append, List.append_nil, List.nil_append]
    · simp; omega

theorem heap_setCell_at {w : World} {g k : Nat} {c : Array Value} {t : TypeId} {fr : Nat × Nat} (h : w.heap[g]? = some (.cells c t fr)) (v : Value) : (w.setCell ⟨g, k, none⟩ v).heap[g]? = some (.cells (c.setIfInBounds k v) t fr) := by
  simp [World.setCell, Array.getElem?_modify, h]

theorem cl_set (L : List Sp) (i : Nat) (x y : Int) : ((cl L).set (i * 2) (.int .i64 x)).set (i * 2 + 1) (.int .i64 y) = cl (L.set i (x, y)) := by
  induction L generalizing i with
  | nil => simp [cl]
  | cons s L ih =>
    cases i with
    | zero => simp [cl]
    | succ i =>
      rw [show (i + 1) * 2 = i * 2 + 1 + 1 by omega]
      simp only [cl, List.set_cons_succ]
      rw [ih i]

/-- One span written over. -/
theorem RowAt.set {w : World} {g c : Nat} {L : List Sp} {sp : List Value} (h : RowAt w g c L sp) (i : Nat) (x y : Int) (hi : i < L.length) :
    RowAt ((w.setCell ⟨g, i * 2, none⟩ (.int .i64 x)).setCell ⟨g, i * 2 + 1, none⟩ (.int .i64 y)) g c (L.set i (x, y)) sp ∧ w.grownBy ((w.setCell ⟨g, i * 2, none⟩ (.int .i64 x)).setCell ⟨g, i * 2 + 1, none⟩ (.int .i64 y)) (some g) := by
  have h1 := heap_setCell_at (k := i * 2 + 1) (heap_setCell_at (k := i * 2) h.1 (.int .i64 x)) (.int .i64 y)
  have hl := cl_length L
  refine ⟨⟨?_, by rw [List.length_set]; exact h.2.1, h.2.2⟩, rfl, rfl, rfl, by simp [World.setCell], fun k hk hne => ?_⟩
  · rw [h1]
    congr 2
    rw [List.setIfInBounds_toArray, List.setIfInBounds_toArray, List.set_append_left _ _ (by omega), List.set_append_left _ _ (by rw [List.length_set]; omega), cl_set]
  · have hk' : k ≠ g := fun e => hne (by rw [e])
    rw [Below.heap_setCell _ _ _ _ hk', Below.heap_setCell _ _ _ _ hk']
end Go.Proofs.Ythhnemnnfbbamaa
