/- Ledger: cells that are read; list (a copy in new memory), at three kinds of elements. -/
import Derived.Test.YtnflbefbgcbdfaaS5B
import Derived.Laws.IdiomCopy
namespace Go.Proofs.Ytnflbefbgcbdfaa
open Go.RowKit
set_option linter.unusedVariables false
set_option maxRecDepth 100000
set_option maxHeartbeats 1000000

/-- Cells that are read, from a on. -/
def RdV (W : World) (a : Option Addr) (xs : List Value) : Prop := xs = [] ∨ ∃ b off, a = some ⟨b, off, none⟩ ∧ ∀ (j : Nat) v, xs[j]? = some v → W.cell? ⟨b, off + j, none⟩ = some v
theorem rdv_nil (W : World) (a : Option Addr) : RdV W a [] := .inl rfl
theorem RdV.grown {W W' : World} {a : Option Addr} {xs : List Value} (h : RdV W a xs) (g : W.grownBy W' none) : RdV W' a xs :=
  h.imp id fun ⟨b, off, e, hc⟩ => ⟨b, off, e, fun j v hj => cell_grown (hc j v hj) g⟩
theorem RdV.kept {W W' : World} {a : Option Addr} {xs : List Value} (h : RdV W a xs) (hk : xs ≠ [] → ∀ b off, a = some ⟨b, off, none⟩ → W'.heap[b]? = W.heap[b]?) : RdV W' a xs := by
  by_cases hx : xs = []
  · exact .inl hx
  · obtain ⟨b, off, e, hc⟩ := h.resolve_left hx
    exact .inr ⟨b, off, e, fun j v hj => by rw [World.cell?_of_block (hk hx b off e)]; exact hc j v hj⟩
theorem rdv_blk {W : World} {g : Nat} {xs : List Value} {t : TypeId} (h : Blk W g xs.toArray t) : RdV W (some ⟨g, 0, none⟩) xs := .inr ⟨g, 0, rfl, fun j v hj => by
  rw [Nat.zero_add]
  exact h.cell j v (by simpa using hj)⟩
theorem run_copyN {P : Program} (sz : Nat) (w : World) (dT sT ty elem : TypeId) (g o dLen dCap : Nat) (a : Addr) (sLen sCap : Nat) (X C Y : List Value) (t : TypeId) (cs : List Value)
    (hu : P.underlying dT = some (.slice elem)) (hs : (P.info? elem).map (·.size) = some sz)
    (hg : w.heap[g]? = some (.cells (X ++ (C ++ Y)).toArray t (0, 0))) (ho : o = X.length) (hC : C.length = cs.length) (hn : cs.length = Nat.min sLen dLen * sz)
    (hsrc : ∀ j v, cs[j]? = some v → w.cell? (a.add j) = some v) (h1 : ∀ v ∈ cs, v.oneCell' = true) :
    (Builtin.copy_ #[dT, sT] ty #[.slice (some ⟨g, o, none⟩) dLen dCap, .slice (some a) sLen sCap]).run P w = .ok (goInt (Nat.min sLen dLen)) (w.setRow g (X ++ (cs ++ Y)).toArray) := by
  have hl := run_loadCells_list (P := P) w a cs hsrc
  have hst := run_storeCells_at P g o t cs 0 _ w hg (by subst ho; simp; omega) h1
  have e := splice X C Y cs o ho hC
  rw [e] at hst
  cases hq : P.info? elem with
  | none => simp [hq] at hs
  | some i =>
    have hi : i.size = sz := by simpa [hq] using hs
    simp [Builtin.copy_, run_underlying hu, Builtin.lenOf, Builtin.firstCells, sizeOf, typeInfo, hq, hi, ← hn, hl, hst]
theorem wpList_make_run {ops : Array Oper} {rest : List Oper} {o : Oper} {a : Act} {Q : Exit → Act → World → Prop} (w : World) (hg : o.guard = none) (t : TypeId) (l c : Operand) (hop : o.op = Op.makeSlice t l c) (lv cv : Value)
    (hl : a.eval l = lv) (hc : a.eval c = cv) {v' : Value} {w' : World} (hr : (Instr.makeSlice t lv cv).run Try.prog w = .ok v' w') (hK : wpList Try.prog ops Q rest (a.put o.dst v') w') : wpList Try.prog ops Q (o :: rest) a w := by
  refine wpList_plain hg fun K hK' => ?_
  unfold Oper.wp
  simp [execOp, hop, hl, hc, hr, Result.andThen]
  exact hK' _ _ hK

/-- A new list of the same cells. -/
def NewL (X : World) (t : TypeId) (n : Nat) (xs : List Value) (v : Value) (Y : World) : Prop := ((n = 0 ∧ v = .slice none 0 0) ∨ (0 < n ∧ ∃ g, v = .slice (some ⟨g, 0, none⟩) n n ∧ X.heap.size ≤ g ∧ Blk Y g xs.toArray t)) ∧ X.grownBy Y none
/-- make and copy of so many elements. -/
theorem make_copy (sz : Nat) (dT elem : TypeId) (i : TypeInfo) (z : Value) (hu : Try.prog.underlying dT = some (.slice elem)) (hi : Try.prog.info? elem = some i) (hz : i.zero = some z) (hs : i.size = sz) (hb : i.bytes ≤ 1000) (X : World) (a : Option Addr) (n c : Nat) (xs : List Value) (hx : xs.length = n * sz) (hsz : 0 < sz) (rd : RdV X a xs) (h1 : ∀ v ∈ xs, v.oneCell' = true) (hn : 0 < n) (hnn : n ≤ 100000000) :
    ∃ W0 W1, (Instr.makeSlice dT (.int .i64 (n : Int)) (.int .i64 (n : Int))).run Try.prog X = .ok (.slice (some ⟨X.heap.size, 0, none⟩) n n) W0 ∧ (∀ ty, (Builtin.copy_ #[dT, dT] ty #[.slice (some ⟨X.heap.size, 0, none⟩) n n, .slice a n c]).run Try.prog W0 = .ok (goInt n) W1) ∧ Blk W1 X.heap.size xs.toArray elem ∧ X.grownBy W1 none := by
  have hbb : (i.bytes : Int) * (n : Int) ≤ 281474976710656 := by
    have h1 : i.bytes * n ≤ 1000 * 100000000 := Nat.mul_le_mul hb hnn
    have h2 : ((i.bytes * n : Nat) : Int) = (i.bytes : Int) * (n : Int) := Int.natCast_mul _ _
    omega
  have hmk := run_make (P := Try.prog) X dT elem i z hu hi hz .i64 .i64 n n (by omega) (by omega) hbb (by omega)
  rw [hs] at hmk
  simp only [Int.toNat_natCast] at hmk
  obtain ⟨W0, hW0⟩ : ∃ W0, W0 = X.alloc (.cells (madeCells z.cells (n * sz)) elem) := ⟨_, rfl⟩
  rw [← hW0] at hmk
  have g0 : X.grownBy W0 none := by rw [hW0]; exact grown_alloc _ _
  have b0 : Blk W0 X.heap.size (madeCells z.cells (n * sz)) elem := by rw [hW0]; exact Blk.new _ _ _
  have hne : xs ≠ [] := fun e => by
    rw [e] at hx
    have h2 : 0 < n * sz := Nat.mul_pos hn hsz
    simp only [List.length_nil] at hx
    omega
  obtain ⟨b, off, rfl, hc⟩ := (rd.grown g0).resolve_left hne
  have hmin : Nat.min n n = n := Nat.min_self n
  have cp := fun ty => run_copyN (P := Try.prog) sz W0 dT dT ty elem X.heap.size 0 n n ⟨b, off, none⟩ n c [] (madeCells z.cells (n * sz)).toList [] elem xs hu (by rw [hi]; simp [hs]) (by rw [List.nil_append, List.append_nil, Array.toArray_toList]; exact b0) rfl (by simp [size_madeCells, hx]) (by rw [hmin]; exact hx) (fun j v hj => by rw [Addr.add_lit]; exact hc j v hj) h1
  rw [hmin] at cp
  refine ⟨W0, _, hmk, cp, ?_, ?_⟩
  · have := b0.row (([] : List Value) ++ (xs ++ [])).toArray
    simpa using this
  · exact grown_row g0 _ _ (Nat.le_refl _)
end Go.Proofs.Ytnflbefbgcbdfaa
