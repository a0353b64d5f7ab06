/- Rows of spans in memory, and what append, copy and clear make of them. -/
import Derived.WalkKit
import Derived.Below
import Derived.Laws.BitsAllLaws
import Derived.Laws.CopyRow
import Derived.Lib.SliceRun
import Derived.Lib.AppendZerosOnto
import Derived.Lib.Overlaps
import Derived.Deep.RegionLaw
import Derived.BigQuiet
import Derived.Test.YtnflbefbgcbdfaaGreatRM
import Derived.Test.YtnflbefbgcbdfaaGreatRows
namespace Go.Proofs.YtnflbefbgcbdfaaGreat
set_option maxRecDepth 100000
open Go.RowKit
set_option linter.unusedVariables false

theorem hide {p : Prop} (h : p) : Hid p := h
theorem unhide {p : Prop} (h : Hid p) : p := h

/-- Where the value lies now: in the row that it had; or in a new one. -/
def Moved (w w' : World) (v v' : Value) : Prop := (v'.ownBlock = v.ownBlock ∧ w.grownBy w' v.ownBlock) ∨ (v'.ownBlock = some w.heap.size ∧ w.grownBy w' none ∧ w.heap.size < w'.heap.size)

/-- The cells of spans. -/
def cl : List Sp → List Value
  | [] => []
  | s :: L => .int .i64 s.1 :: .int .i64 s.2 :: cl L

theorem cl_length (L : List Sp) : (cl L).length = L.length * 2 := by
  induction L with
  | nil => rfl
  | cons s L ih => simp only [cl, List.length_cons, ih]; omega
theorem cl_append (A B : List Sp) : cl (A ++ B) = cl A ++ cl B := by
  induction A with
  | nil => rfl
  | cons s A ih => simp [cl, ih]
theorem cl_one (L : List Sp) : ∀ u ∈ cl L, u.oneCell' = true := by
  induction L with
  | nil => intro u hu; cases hu
  | cons s L ih =>
    intro u hu
    simp only [cl, List.mem_cons] at hu
    rcases hu with rfl | rfl | hu
    · rfl
    · rfl
    · exact ih u hu
theorem cl_lo (L : List Sp) (j : Nat) (h : j < L.length) : (cl L)[j * 2]? = some (.int .i64 (L.getD j (0, 0)).1) := by
  induction L generalizing j with
  | nil => simp at h
  | cons s L ih =>
    cases j with
    | zero => rfl
    | succ j => rw [show (j + 1) * 2 = j * 2 + 1 + 1 by omega]; simpa [cl] using ih j (by simpa using h)
theorem cl_hi (L : List Sp) (j : Nat) (h : j < L.length) : (cl L)[j * 2 + 1]? = some (.int .i64 (L.getD j (0, 0)).2) := by
  induction L generalizing j with
  | nil => simp at h
  | cons s L ih =>
    cases j with
    | zero => rfl
    | succ j => rw [show (j + 1) * 2 + 1 = j * 2 + 1 + 1 + 1 by omega]; simpa [cl] using ih j (by simpa using h)

/-- A row of the call's own that holds these spans. -/
def Row (w : World) (v : Value) (L : List Sp) : Prop := w.ownsRow 0 63 2 v L.length (cl L)

/-- The same, the block with its number, its capacity and its spare cells. -/
def RowAt (w : World) (g c : Nat) (L : List Sp) (sp : List Value) : Prop := w.heap[g]? = some (.cells (cl L ++ sp).toArray 63 (0, 0)) ∧ L.length * 2 + sp.length = c * 2 ∧ c ≤ maxLen

theorem Row.at {w : World} {v : Value} {L : List Sp} (h : Row w v L) : (v = .slice none 0 0 ∧ L = []) ∨ ∃ g c sp, v = .slice (some ⟨g, 0, none⟩) L.length c ∧ RowAt w g c L sp := by
  rcases h.2 with ⟨rfl, h2⟩ | ⟨g, c, cur, rfl, _, hg, h1, h2, h3, h4⟩
  · exact .inl ⟨rfl, List.length_eq_zero_iff.1 h2⟩
  · refine .inr ⟨g, c, cur.toList.drop (L.length * 2), rfl, ?_, ?_, h2⟩
    · rw [← h4, List.take_append_drop]; exact hg
    · simp only [List.length_drop, Array.length_toList]; omega

theorem RowAt.row {w : World} {g c : Nat} {L : List Sp} {sp : List Value} (h : RowAt w g c L sp) : Row w (.slice (some ⟨g, 0, none⟩) L.length c) L := by
  refine ⟨cl_length L, .inr ⟨g, c, _, rfl, Nat.zero_le _, h.1, ?_, h.2.2, ?_, ?_⟩⟩
  · have := h.2.1; omega
  · simp only [List.size_toArray, List.length_append, cl_length]; exact h.2.1
  · rw [← cl_length]; simp

theorem RowAt.lt {w : World} {g c : Nat} {L : List Sp} {sp : List Value} (h : RowAt w g c L sp) : g < w.heap.size := by
  rcases Nat.lt_or_ge g w.heap.size with h1 | h1
  · exact h1
  · have := h.1; rw [Array.getElem?_eq_none h1] at this; cases this

theorem RowAt.cell {w : World} {g c : Nat} {L : List Sp} {sp : List Value} (h : RowAt w g c L sp) (j : Nat) (v : Value) (hj : (cl L)[j]? = some v) : w.cell? ⟨g, j, none⟩ = some v := by
  unfold World.cell?
  simp only [h.1]
  have hlt := (List.getElem?_eq_some_iff.1 hj).1
  simp [List.getElem?_append_left hlt, hj]

theorem splice {α : Type} (X C Y cs : List α) (o : Nat) (ho : o = X.length) (h : C.length = cs.length) : (X ++ (C ++ Y)).toArray.toList.take (o + 0) ++ cs ++ (X ++ (C ++ Y)).toArray.toList.drop (o + 0 + cs.length) = X ++ (cs ++ Y) := by
  subst ho
  have e1 : (X ++ (C ++ Y)).take X.length = X := by simp
  have e2 : (X ++ (C ++ Y)).drop (X.length + cs.length) = Y := by rw [← h, ← List.append_assoc]; exact List.drop_left' (by simp)
  simp only [Nat.add_zero, e1, e2, List.append_assoc]

section
variable {P : Program}
theorem grown_drew_alloc (w : World) (o : Obj) : w.grownBy (w.drew.alloc o) none ∧ w.heap.size < (w.drew.alloc o).heap.size :=
  ⟨⟨rfl, rfl, rfl, by simp, fun k hk _ => by have := World.grownBy_alloc w.drew o none; exact this.block k hk (by simp)⟩, by simp⟩

theorem grown_setRow (w : World) (g : Nat) (cs : Array Value) : w.grownBy (w.setRow g cs) (some g) :=
  ⟨rfl, rfl, rfl, by simp, fun k _ hk => setRow_other w g k cs (fun h => hk (by rw [h]))⟩

/-- copy of elements of two cells, into the midst of a row. -/
theorem run_copy2 (w : World) (dT sT ty elem : TypeId) (g o dLen dCap : Nat) (a : Addr) (sLen sCap : Nat) (X C Y : List Value) (t : TypeId) (cs : List Value)
    (hu : P.underlying dT = some (.slice elem)) (hs : (P.info? elem).map (·.size) = some 2)
    (hg : w.heap[g]? = some (.cells (X ++ (C ++ Y)).toArray t (0, 0))) (ho : o = X.length) (hC : C.length = cs.length) (hn : cs.length = Nat.min sLen dLen * 2)
    (hsrc : ∀ j v, cs[j]? = some v → w.cell? (a.add j) = some v) (h1 : ∀ v ∈ cs, v.oneCell' = true) :
    (Builtin.copy_ #[dT, sT] ty #[.slice (some ⟨g, o, none⟩) dLen dCap, .slice (some a) sLen sCap]).run P w = .ok (goInt (Nat.min sLen dLen)) (w.setRow g (X ++ (cs ++ Y)).toArray) := by
  have hl := run_loadCells_list (P := P) w a cs hsrc
  have hst := run_storeCells_at P g o t cs 0 _ w hg (by subst ho; simp; omega) h1
  have e := splice X C Y cs o ho hC
  rw [e] at hst
  cases hq : P.info? elem with
  | none => simp [hq] at hs
  | some i =>
    have hi : i.size = 2 := by simpa [hq] using hs
    simp [Builtin.copy_, run_underlying hu, Builtin.lenOf, Builtin.firstCells, sizeOf, typeInfo, hq, hi, ← hn, hl, hst]

/-- clear of elements of two cells. -/
theorem run_clear2 (w : World) (t e : TypeId) (z : Value) (ht : P.underlying t = some (.slice e)) (hv : ∀ w, (zeroValue e).run P w = .ok z w) (hz : z.cells.size = 2) (h1 : ∀ u ∈ z.cells.toList, u.oneCell' = true)
    (g o n : Nat) (X C Y : List Value) (tt : TypeId) (hg : w.heap[g]? = some (.cells (X ++ (C ++ Y)).toArray tt (0, 0))) (ho : o = X.length) (hC : C.length = n * 2) :
    ∃ Z, Z.length = n * 2 ∧ ∀ ty c, (Builtin.clear_ #[t] ty #[.slice (some ⟨g, o, none⟩) n c]).run P w = .ok (.tuple #[]) (w.setRow g (X ++ (Z ++ Y)).toArray) := by
  cases n with
  | zero =>
    have : C = [] := List.length_eq_zero_iff.1 (by omega)
    subst this
    refine ⟨[], rfl, fun ty c => ?_⟩
    rw [setRow_self w g _ tt (0, 0) hg]
    simp [Builtin.clear_, run_underlying ht]
  | succ m =>
    have hlen : (Builtin.zeroCells z.cells (m + 1)).toList.length = (m + 1) * 2 := by simp [Builtin.zeroCells, hz]
    have hst := run_storeCells_at P g o tt (Builtin.zeroCells z.cells (m + 1)).toList 0 _ w hg (by subst ho; rw [hlen]; simp; omega) (by
      intro v hv'
      simp only [Builtin.zeroCells, Array.toList_map, List.mem_map] at hv'
      obtain ⟨k, hk, rfl⟩ := hv'
      have : k % z.cells.size < z.cells.size := Nat.mod_lt _ (by omega)
      rw [getElem!_pos z.cells _ this]
      exact h1 _ (by simp))
    refine ⟨_, hlen, fun ty c => ?_⟩
    have e := splice X C Y (Builtin.zeroCells z.cells (m + 1)).toList o ho (by rw [hlen, hC])
    rw [e] at hst
    simp [Builtin.clear_, run_underlying ht, hv, hst]

theorem wpList_copy_run (w : World) {ops : Array Oper} {rest : List Oper} {o : Oper} {a : Act} {Q : Exit → Act → World → Prop} (hgd : o.guard = none) (d s : Operand) (t t' : TypeId)
    (ho : o.op = .call { callee := .builtin .copy, args := #[d, s], argTypes := #[t, t'] }) (v u : Value) (hd : a.eval d = v) (hs : a.eval s = u) {v' : Value} {w' : World}
    (hr : (Builtin.copy_ #[t, t'] o.type #[v, u]).run P w = .ok v' w') (h : wpList P ops Q rest (a.put o.dst v') w') : wpList P ops Q (o :: rest) a w :=
  wpList_plain hgd fun K hK => by
    unfold Oper.wp execOp
    simp only [ho, resolve, invoke, builtin, Sem.run_bind, Sem.run_pure, Result.andThen_ok, List.map_toArray, List.map_cons, List.map_nil, hd, hs, hr]
    exact hK _ _ h

theorem wpList_clear_run (w : World) {ops : Array Oper} {rest : List Oper} {o : Oper} {a : Act} {Q : Exit → Act → World → Prop} (hgd : o.guard = none) (s : Operand) (t : TypeId)
    (ho : o.op = .call { callee := .builtin .clear, args := #[s], argTypes := #[t] }) (u : Value) (hs : a.eval s = u) {v' : Value} {w' : World}
    (hr : (Builtin.clear_ #[t] o.type #[u]).run P w = .ok v' w') (h : wpList P ops Q rest (a.put o.dst v') w') : wpList P ops Q (o :: rest) a w :=
  wpList_plain hgd fun K hK => by
    unfold Oper.wp execOp
    simp only [ho, resolve, invoke, builtin, Sem.run_bind, Sem.run_pure, Result.andThen_ok, List.map_toArray, List.map_cons, List.map_nil, hs, hr]
    exact hK _ _ h

theorem wpList_append_run (w : World) {ops : Array Oper} {rest : List Oper} {o : Oper} {a : Act} {Q : Exit → Act → World → Prop} (hgd : o.guard = none) (d s : Operand) (t t' : TypeId)
    (ho : o.op = .call { callee := .builtin .append, args := #[d, s], argTypes := #[t, t'] }) (v u : Value) (hd : a.eval d = v) (hs : a.eval s = u) {v' : Value} {w' : World}
    (hr : (Builtin.append_ #[t, t'] o.type #[v, u]).run P w = .ok v' w') (h : wpList P ops Q rest (a.put o.dst v') w') : wpList P ops Q (o :: rest) a w :=
  wpList_plain hgd fun K hK => by
    unfold Oper.wp execOp
    simp only [ho, resolve, invoke, builtin, Sem.run_bind, Sem.run_pure, Result.andThen_ok, List.map_toArray, List.map_cons, List.map_nil, hd, hs, hr]
    exact hK _ _ h

theorem step_copy_run {ops : Array Oper} {o : Oper} {a : Act} {w : World} {K : Act → World → Prop} {Q : Exit → Act → World → Prop} {E : Prop}
    (hg : o.guard = none) (d x : Operand) (dT sT : TypeId) (hop : o.op = Op.call { callee := Callee.builtin Builtin.copy, args := #[d, x], argTypes := #[dT, sT] })
    (v u : Value) (hd : a.eval d = v) (hx : a.eval x = u) {v' : Value} {w' : World} (hr : (Builtin.copy_ #[dT, sT] o.type #[v, u]).run P w = .ok v' w') (hK : K (a.put o.dst v') w') :
    if Region.wanted o (yielded ops a.tmps) = true then Oper.wp P o a w K Q else E := by
  have hw : Region.wanted o (yielded ops a.tmps) = true := by simp [Region.wanted, hg]
  rw [if_pos hw]
  unfold Oper.wp
  simp [execOp, hop, resolve, invoke, builtin, hd, hx, hr, Result.andThen]
  exact hK

theorem step_append_run {ops : Array Oper} {o : Oper} {a : Act} {w : World} {K : Act → World → Prop} {Q : Exit → Act → World → Prop} {E : Prop}
    (hg : o.guard = none) (d x : Operand) (dT sT : TypeId) (hop : o.op = Op.call { callee := Callee.builtin Builtin.append, args := #[d, x], argTypes := #[dT, sT] })
    (v u : Value) (hd : a.eval d = v) (hx : a.eval x = u) {v' : Value} {w' : World} (hr : (Builtin.append_ #[dT, sT] o.type #[v, u]).run P w = .ok v' w') (hK : K (a.put o.dst v') w') :
    if Region.wanted o (yielded ops a.tmps) = true then Oper.wp P o a w K Q else E := by
  have hw : Region.wanted o (yielded ops a.tmps) = true := by simp [Region.wanted, hg]
  rw [if_pos hw]
  unfold Oper.wp
  simp [execOp, hop, resolve, invoke, builtin, hd, hx, hr, Result.andThen]
  exact hK
end

theorem Tryz.infoS : (Tryz.prog.info? 63).map (fun i => (i.zero, i.size, i.bytes)) = some (some (.agg #[.int .i64 0, .int .i64 0]), 2, 16) := by kernel_rfl
theorem Tryz.sizeS : (Tryz.prog.info? 63).map (·.size) = some 2 := by kernel_rfl
end Go.Proofs.YtnflbefbgcbdfaaGreat
