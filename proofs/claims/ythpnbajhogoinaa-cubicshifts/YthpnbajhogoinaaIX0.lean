/- Rows of steps that a call makes; later. -/
import Derived.Test.YthpnbajhogoinaaIT
import Derived.Maps.AppendAt
import Derived.OwnWalkIn
namespace Go.Proofs.Ythpnbajhogoinaa
open Go.ChangeShapes Go.WideShapes Go.ChangeAt Go.RowKit Fl
set_option linter.unusedVariables false
set_option maxRecDepth 100000
set_option maxHeartbeats 4000000

section
variable {H : Type} {enc : TypeId × Value → H} {w : World} {base : Nat} {spare : Nat → Bool} {held : Bool}
theorem ops_size {a : Option Addr} {len cap fuel : Nat} {x : DataW H × List MemPlace} (hf : DataW.trod enc Try.prog w base spare held fuel 22 [.slice a len cap] = some x) {ts : List TypeId} {ds : List (DataW H)} {j : Nat} (hs : (DataW.weightsEach Try.prog ts ds).all (· ≤ reachBytes) = true) (ht : ts[j]? = some 22) (hd : ds[j]? = some x.1) : len * 48 ≤ 140737488355328 := by
  rcases Go.Deep.open_slice Try.underlying22 hf with ⟨hcs, _⟩ | ⟨ad, l, c, m, n, D, Pl, hcs, _, hl, hm, hmm, rfl, hx⟩
  · simp at hcs
    omega
  · simp at hcs
    obtain ⟨rfl, rfl, rfl⟩ := hcs
    have h := sized_slice hs ht hd Try.underlying22
    have hb : Try.prog.bytesOf 40 = 48 := by kernel_rfl
    rw [hb] at h
    simp only [List.length_map, List.length_range] at h
    unfold reachBytes at h
    omega
end

theorem grown_fresh {w w1 w' : World} {r : Option Nat} (hg : w.grownBy w1 none) (h : w1.grownBy w' r) (hr : ∀ k, r = some k → w.heap.size ≤ k) : w.grownBy w' none :=
  ⟨h.os.trans hg.os, h.tape.trans hg.tape, h.output.trans hg.output, Nat.le_trans hg.size h.size, fun k hk _ => by
    rw [h.block k (Nat.lt_of_lt_of_le hk hg.size) (fun e => by have := hr k e.symm; omega)]
    exact hg.block k hk (by simp)⟩
/-- The steps that were made, as they lie in memory. -/
def RO (B : Nat) (wr : World) (v : Value) (T : List OpE) : Prop := wr.ownsRow B 40 6 v T.length (T.flatMap OpE.cs)
theorem ro_nil (B : Nat) (wr : World) : RO B wr (.slice none 0 0) [] := ⟨rfl, .inl ⟨rfl, rfl⟩⟩
theorem flat_get (T : List OpE) : ∀ (i : Nat) (x : OpE) (j : Nat) (v : Value), T[i]? = some x → x.cs[j]? = some v → (T.flatMap OpE.cs)[i * 6 + j]? = some v := by
  induction T with
  | nil => intro i x j v h; simp at h
  | cons y T ih =>
    intro i x j v h hj
    have hl : y.cs.length = 6 := rfl
    rw [List.flatMap_cons]
    cases i with
    | zero =>
      simp at h
      subst h
      have : j < y.cs.length := (List.getElem?_eq_some_iff.1 hj).1
      rw [Nat.zero_mul, Nat.zero_add, List.getElem?_append_left this]
      exact hj
    | succ i =>
      rw [List.getElem?_append_right (by rw [hl]; omega), hl, show (i + 1) * 6 + j - 6 = i * 6 + j by omega]
      exact ih i x j v (by simpa using h) hj
theorem RO.at {B : Nat} {wr : World} {a : Option Addr} {n c : Nat} {T : List OpE} (h : RO B wr (.slice a n c) T) : n = T.length ∧ n ≤ c ∧ c ≤ maxLen ∧ (T = [] ∨ ∃ g, a = some ⟨g, 0, none⟩ ∧ B ≤ g ∧ ∀ i x, T[i]? = some x → ∀ j v, x.cs[j]? = some v → wr.cell? ⟨g, i * 6 + j, none⟩ = some v) := by
  rcases h.2 with ⟨e1, e2⟩ | ⟨g, c', cur, e1, q1, q2, q3, q4, q5, q6⟩
  · cases e1
    exact ⟨e2.symm, Nat.le_refl _, Nat.zero_le _, .inl (List.length_eq_zero_iff.1 e2)⟩
  · cases e1
    refine ⟨rfl, q3, q4, .inr ⟨g, rfl, q1, fun i x hi j v hj => ?_⟩⟩
    have hlt := (List.getElem?_eq_some_iff.1 hi).1
    have hj6 : j < 6 := (List.getElem?_eq_some_iff.1 hj).1
    unfold World.cell?
    rw [q2]
    have h1 : (cur.toList.take (T.length * 6))[i * 6 + j]? = (T.flatMap OpE.cs)[i * 6 + j]? := by rw [q6]
    rw [List.getElem?_take, if_pos (by omega), Array.getElem?_toList, flat_get T i x j v hi hj] at h1
    simp only
    exact h1
theorem RO.kept {B : Nat} {wr wr' : World} {v : Value} {T : List OpE} (h : RO B wr v T) (hk : ∀ (g : Nat) (c : Array Value), wr.heap[g]? = some (.cells c 40 (0, 0)) → wr'.heap[g]? = wr.heap[g]?) : RO B wr' v T := by
  refine ⟨h.1, ?_⟩
  rcases h.2 with h2 | ⟨g, c, cur, e1, q1, q2, q3⟩
  · exact .inl h2
  · exact .inr ⟨g, c, cur, e1, q1, (hk g cur q2).trans q2, q3⟩
theorem RO.grown {B : Nat} {wr wr' : World} {v : Value} {T : List OpE} (h : RO B wr v T) (g : wr.grownBy wr' none) : RO B wr' v T := h.kept (fun k c hk => g.block k (Array.getElem?_eq_some_iff.1 hk).1 (by simp))
theorem RO.far {B : Nat} {wr wr' : World} {v : Value} {T : List OpE} {b : Nat} {s : Cs} (h : RO B wr v T) (q : CB wr b s) (g : wr.grownBy wr' (some b)) : RO B wr' v T := h.kept (fun k c hk => g.block k (Array.getElem?_eq_some_iff.1 hk).1 (fun e => by
  cases e
  have := (show wr.heap[b]? = _ from q)
  rw [hk] at this
  simp at this))
theorem Try.infoO : (Try.prog.info? 40).map (fun i => (i.zero, i.size, i.bytes)) = some (some (.agg #[.int .i64 0, .int .i64 0, .int .i64 0, .int .i64 0, .int .i64 0, .bool false]), 6, 48) := by kernel_rfl
/-- One more is made. -/
theorem ro_app (W0 W : World) (v : Value) (T : List OpE) (x : OpE) (g : Nat) (c : Nat) (h : RO W0.heap.size W v T) (hg : W0.grownBy W none) (hc : Blk W g (opc x) 40) (hb : (T.length + 1) * 48 ≤ 140737488355328) :
    ∃ a' c' W', (Builtin.append_ #[22, 22] 22 #[v, .slice (some ⟨g, 0, none⟩) 1 c]).run Try.prog W = .ok (.slice a' (T.length + 1) c') W' ∧ RO W0.heap.size W' (.slice a' (T.length + 1) c') (T ++ [x]) ∧ W0.grownBy W' none := by
  obtain ⟨i, hi, hz0, hz1, hz2⟩ := info_parts Try.infoO
  obtain ⟨v', W', hr, ho, hgr, hnil⟩ := run_append_own (P := Try.prog) W W0.heap.size 22 22 40 i _ 6 48 Try.underlying22 hi hz0 hz1 hz2 rfl (by decide) v T.length (T.flatMap OpE.cs) h ⟨g, 0, none⟩ 1 c x.cs rfl (fun j u hj => by
    have hj6 : j < 6 := (List.getElem?_eq_some_iff.1 hj).1
    have := hc.cell j u (by
      match j, hj with
      | 0, hj => exact hj
      | 1, hj => exact hj
      | 2, hj => exact hj
      | 3, hj => exact hj
      | 4, hj => exact hj
      | 5, hj => exact hj)
    simpa only [Addr.add_lit, Nat.zero_add] using this) (by simp [OpE.cs, Value.oneCell']) (by unfold maxLen; omega) hb hg.size
  have e : T.flatMap OpE.cs ++ x.cs = (T ++ [x]).flatMap OpE.cs := by simp
  have e2 : (T ++ [x]).length = T.length + 1 := by simp
  rw [e] at ho
  have ho' : RO W0.heap.size W' v' (T ++ [x]) := by unfold RO; rw [e2]; exact ho
  obtain ⟨a', c', rfl⟩ : ∃ a' c', v' = .slice a' (T.length + 1) c' := by
    rcases ho.2 with ⟨e1, e2⟩ | ⟨g', c', cur, e1, -⟩
    · omega
    · exact ⟨_, _, e1⟩
  refine ⟨a', c', W', hr, ho', grown_fresh hg hgr (fun k ek => ?_)⟩
  rcases h.2 with ⟨rfl, -⟩ | ⟨g', c, cur, rfl, q1, q2, -⟩
  · cases ek
  · cases ek; exact q1

theorem wpList_append_run {P : Program} (w : World) {ops : Array Oper} {rest : List Oper} {o : Oper} {a : Act} {Q : Exit → Act → World → Prop} (hgd : o.guard = none) (d s : Operand) (t t' : TypeId)
    (ho : o.op = .call { callee := .builtin .append, args := #[d, s], argTypes := #[t, t'] }) (v u : Value) (hd : a.eval d = v) (hs : a.eval s = u) {v' : Value} {w' : World}
    (hr : (Builtin.append_ #[t, t'] o.type #[v, u]).run P w = .ok v' w') (h : wpList P ops Q rest (a.put o.dst v') w') : wpList P ops Q (o :: rest) a w :=
  wpList_plain hgd fun K hK => by
    unfold Oper.wp execOp
    simp only [ho, resolve, invoke, builtin, Sem.run_bind, Sem.run_pure, Result.andThen_ok, List.map_toArray, List.map_cons, List.map_nil, hd, hs, hr]
    exact hK _ _ h

end Go.Proofs.Ythpnbajhogoinaa
