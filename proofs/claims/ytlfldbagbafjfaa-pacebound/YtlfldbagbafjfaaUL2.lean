/- Numbers that a call keeps in a list, beside a pacer and a step's copy. -/
import Derived.Test.YtlfldbagbafjfaaUG
import Derived.Maps.AppendAt
import Derived.OwnWalkIn
namespace Go.Proofs.Ytlfldbagbafjfaa
open Go.RowKit
set_option linter.unusedVariables false
set_option maxRecDepth 100000
set_option maxHeartbeats 4000000

theorem grown_fresh {w w1 w' : World} {r : Option Nat} (hg : w.grownBy w1 none) (h : w1.grownBy w' r) (hr : ∀ k, r = some k → w.heap.size ≤ k) : w.grownBy w' none :=
  ⟨h.os.trans hg.os, h.tape.trans hg.tape, h.output.trans hg.output, Nat.le_trans hg.size h.size, fun k hk _ => by
    rw [h.block k (Nat.lt_of_lt_of_le hk hg.size) (fun e => by have := hr k e.symm; omega)]
    exact hg.block k hk (by simp)⟩
/-- Numbers, as they lie in memory. -/
def tc (T : List Int) : List Value := T.map fun x => .int .i64 x
def RI (w wr : World) (v : Value) (T : List Int) : Prop := wr.ownsRow w.heap.size 2 1 v T.length (tc T)
theorem ri_nil (w wr : World) : RI w wr (.slice none 0 0) [] := ⟨rfl, .inl ⟨rfl, rfl⟩⟩
theorem RI.at {w wr : World} {a : Option Addr} {n c : Nat} {T : List Int} (h : RI w wr (.slice a n c) T) : n = T.length ∧ n ≤ c ∧ c ≤ maxLen ∧ (T = [] ∨ ∃ g cur, a = some ⟨g, 0, none⟩ ∧ w.heap.size ≤ g ∧ Blk wr g cur 2 ∧ ∀ j x, T[j]? = some x → wr.cell? ⟨g, j, none⟩ = some (.int .i64 x)) := by
  rcases h.2 with ⟨e1, e2⟩ | ⟨g, c', cur, e1, q1, q2, q3, q4, q5, q6⟩
  · cases e1
    exact ⟨e2.symm, Nat.le_refl _, Nat.zero_le _, .inl (List.length_eq_zero_iff.1 e2)⟩
  · cases e1
    refine ⟨rfl, q3, q4, .inr ⟨g, cur, rfl, q1, q2, fun j x hj => ?_⟩⟩
    have hlt := (List.getElem?_eq_some_iff.1 hj).1
    unfold World.cell?
    rw [q2]
    have h1 : (cur.toList.take (T.length * 1))[j]? = (tc T)[j]? := by rw [q6]
    rw [List.getElem?_take, if_pos (by omega), Array.getElem?_toList] at h1
    simp only
    rw [h1]
    simp [tc, hj]
theorem RI.kept {w wr wr' : World} {v : Value} {T : List Int} (h : RI w wr v T) (hk : ∀ (g : Nat) (c : Array Value), wr.heap[g]? = some (.cells c 2 (0, 0)) → wr'.heap[g]? = wr.heap[g]?) : RI w wr' v T := by
  refine ⟨h.1, ?_⟩
  rcases h.2 with h2 | ⟨g, c, cur, e1, q1, q2, q3⟩
  · exact .inl h2
  · exact .inr ⟨g, c, cur, e1, q1, (hk g cur q2).trans q2, q3⟩
theorem Try.infoE : (Try.prog.info? 2).map (fun i => (i.zero, i.size, i.bytes)) = some (some (.int .i64 0), 1, 8) := by kernel_rfl
theorem RI.grown {w wr wr' : World} {v : Value} {T : List Int} (h : RI w wr v T) (g : wr.grownBy wr' none) : RI w wr' v T := h.kept (fun k c hk => g.block k (Array.getElem?_eq_some_iff.1 hk).1 (by simp))
theorem RI.far {w wr wr' : World} {v : Value} {T : List Int} {b : Nat} {cs : Array Value} {t : TypeId} (h : RI w wr v T) (q : Blk wr b cs t) (ht : t ≠ 2) (g : wr.grownBy wr' (some b)) : RI w wr' v T := h.kept (fun k c hk => g.block k (Array.getElem?_eq_some_iff.1 hk).1 (fun e => by
  cases e
  have := (show wr.heap[b]? = _ from q)
  rw [hk] at this
  simp at this
  exact ht this.2.symm))
theorem RI.set {w wr : World} {g n c : Nat} {T : List Int} (h : RI w wr (.slice (some ⟨g, 0, none⟩) n c) T) (j : Nat) (hj : j < T.length) (x : Int) : RI w (wr.setCell ⟨g, j, none⟩ (.int .i64 x)) (.slice (some ⟨g, 0, none⟩) n c) (T.set j x) := by
  rcases h.2 with ⟨e1, e2⟩ | ⟨g', c', cur, e1, q1, q2, q3, q4, q5, q6⟩
  · cases e1
  · cases e1
    have hb : Blk (wr.setCell ⟨g, j, none⟩ (.int .i64 x)) g (cur.setIfInBounds j (.int .i64 x)) 2 := Blk.setC (show Blk wr g cur 2 from q2) j _
    have el : (T.set j x).length = T.length := List.length_set
    refine ⟨?_, .inr ⟨g, c, cur.setIfInBounds j (.int .i64 x), by rw [el], q1, hb, by rw [el]; exact q3, q4, by rw [Array.size_setIfInBounds]; exact q5, ?_⟩⟩
    · rw [el]; simp [tc]
    · rw [el, Array.toList_setIfInBounds, List.take_set, q6]
      simp [tc, List.map_set]

/-- One more is taken. -/
theorem ri_app (w W : World) (v : Value) (T : List Int) (n : Int) (g : Nat) (c : Nat) (h : RI w W v T) (hg : w.grownBy W none) (hc : W.cell? ⟨g, 0, none⟩ = some (.int .i64 n)) (hb : (T.length + 1) * 8 ≤ 140737488355328) :
    ∃ a' c' W', (Builtin.append_ #[44, 44] 44 #[v, .slice (some ⟨g, 0, none⟩) 1 c]).run Try.prog W = .ok (.slice a' (T.length + 1) c') W' ∧ RI w W' (.slice a' (T.length + 1) c') (T ++ [n]) ∧ W.grownBy W' v.ownBlock := by
  obtain ⟨i, hi, hz0, hz1, hz2⟩ := info_parts Try.infoE
  obtain ⟨v', W', hr, ho, hgr, hnil⟩ := run_append_own (P := Try.prog) W w.heap.size 44 44 2 i _ 1 8 Try.underlying44 hi hz0 hz1 hz2 rfl (by decide) v T.length (tc T) h ⟨g, 0, none⟩ 1 c [.int .i64 n] rfl (fun j u hj => by
    match j, hj with
    | 0, hj => cases hj; exact hc) (by simp [Value.oneCell']) (by unfold maxLen; omega) hb hg.size
  have e : tc T ++ [.int .i64 n] = tc (T ++ [n]) := by simp [tc]
  have e2 : (T ++ [n]).length = T.length + 1 := by simp
  rw [e] at ho
  have ho' : RI w W' v' (T ++ [n]) := by unfold RI; rw [e2]; exact ho
  obtain ⟨a', c', rfl⟩ : ∃ a' c', v' = .slice a' (T.length + 1) c' := by
    rcases ho.2 with ⟨e1, e2⟩ | ⟨g', c', cur, e1, -⟩
    · omega
    · exact ⟨_, _, e1⟩
  exact ⟨a', c', W', hr, ho', hgr⟩
theorem RI.own {w wr : World} {v : Value} {T : List Int} (h : RI w wr v T) {g : Nat} (e : v.ownBlock = some g) : w.heap.size ≤ g ∧ ∃ c, Blk wr g c 2 := by
  rcases h.2 with ⟨rfl, -⟩ | ⟨g', c, cur, rfl, q1, q2, -⟩
  · cases e
  · cases e; exact ⟨q1, _, q2⟩
theorem Blk.neT {w : World} {g g' : Nat} {cs cs' : Array Value} {t t' : TypeId} (h : Blk w g cs t) (h' : Blk w g' cs' t') (ht : t ≠ t') : g ≠ g' := by
  rintro rfl
  have := (show w.heap[g]? = _ from h).symm.trans (show w.heap[g]? = _ from h')
  simp at this
  exact ht this.2
theorem wpList_append_run {P : Program} (w : World) {ops : Array Oper} {rest : List Oper} {o : Oper} {a : Act} {Q : Exit → Act → World → Prop} (hgd : o.guard = none) (d s : Operand) (t t' : TypeId)
    (ho : o.op = .call { callee := .builtin .append, args := #[d, s], argTypes := #[t, t'] }) (v u : Value) (hd : a.eval d = v) (hs : a.eval s = u) {v' : Value} {w' : World}
    (hr : (Builtin.append_ #[t, t'] o.type #[v, u]).run P w = .ok v' w') (h : wpList P ops Q rest (a.put o.dst v') w') : wpList P ops Q (o :: rest) a w :=
  wpList_plain hgd fun K hK => by
    unfold Oper.wp execOp
    simp only [ho, resolve, invoke, builtin, Sem.run_bind, Sem.run_pure, Result.andThen_ok, List.map_toArray, List.map_cons, List.map_nil, hd, hs, hr]
    exact hK _ _ h

/-- A pacer, a step's copy, a list of numbers. -/
structure BI (w wr : World) (b o : Nat) (s : Ps) (y : Array Value) (v : Value) (T : List Int) : Prop where
  q : QE w wr b s
  op : Blk wr o y 37
  no : w.heap.size ≤ o
  r : RI w wr v T
theorem BI.grown {w wr wr' : World} {b o : Nat} {s : Ps} {y : Array Value} {v : Value} {T : List Int} (h : BI w wr b o s y v T) (g : wr.grownBy wr' none) : BI w wr' b o s y v T := ⟨h.q.keep g, h.op.grown g, h.no, h.r.grown g⟩
theorem BI.call {w wr wr' : World} {b o : Nat} {s s' : Ps} {y : Array Value} {v : Value} {T : List Int} (h : BI w wr b o s y v T) (q : QE w wr' b s') (g : wr.grownBy wr' (some b)) : BI w wr' b o s' y v T :=
  ⟨q, h.op.far g (Blk.neT h.op h.q.at_ (by decide)), h.no, h.r.far h.q.at_ (by decide) g⟩
theorem BI.op_set {w wr : World} {b o : Nat} {s : Ps} {y : Array Value} {v : Value} {T : List Int} (h : BI w wr b o s y v T) (j : Nat) (x : Value) : BI w (wr.setCell ⟨o, j, none⟩ x) b o s (y.setIfInBounds j x) v T := by
  have g := grown_at (World.grownBy.refl wr (some o)) j x
  exact ⟨h.q.far g (Blk.neT h.op h.q.at_ (by decide)).symm h.no, Blk.setC h.op j x, h.no, h.r.far h.op (by decide) g⟩
theorem BI.set {w wr : World} {b o g n c : Nat} {s : Ps} {y : Array Value} {T : List Int} (h : BI w wr b o s y (.slice (some ⟨g, 0, none⟩) n c) T) (j : Nat) (hj : j < T.length) (x : Int) : BI w (wr.setCell ⟨g, j, none⟩ (.int .i64 x)) b o s y (.slice (some ⟨g, 0, none⟩) n c) (T.set j x) := by
  have gr := grown_at (World.grownBy.refl wr (some g)) j (.int .i64 x)
  obtain ⟨q1, cur, q2⟩ := h.r.own (g := g) rfl
  exact ⟨h.q.far gr (Blk.neT h.q.at_ q2 (by decide)) q1, h.op.far gr (Blk.neT h.op q2 (by decide)), h.no, h.r.set j hj x⟩
theorem BI.app {w wr wr' : World} {b o : Nat} {s : Ps} {y : Array Value} {v v' : Value} {T T' : List Int} (h : BI w wr b o s y v T) (g : wr.grownBy wr' v.ownBlock) (r : RI w wr' v' T') : BI w wr' b o s y v' T' := by
  cases hv : v.ownBlock with
  | none => rw [hv] at g; exact ⟨h.q.keep g, h.op.grown g, h.no, r⟩
  | some k =>
    rw [hv] at g
    obtain ⟨q1, cur, q2⟩ := h.r.own hv
    exact ⟨h.q.far g (Blk.neT h.q.at_ q2 (by decide)) q1, h.op.far g (Blk.neT h.op q2 (by decide)), h.no, r⟩
theorem BI.drop {w wr : World} {b o : Nat} {s : Ps} {y : Array Value} {v : Value} {T : List Int} (h : BI w wr b o s y v T) : QE w wr b s ∧ RI w wr v T := ⟨h.q, h.r⟩
/-- Partly turned. -/
def mixL (f : Int → Int) (j : Nat) (T : List Int) : List Int := (T.take j).map f ++ T.drop j
theorem mix_len (f : Int → Int) (j : Nat) (T : List Int) : (mixL f j T).length = T.length := by unfold mixL; simp; omega
theorem mix_zero (f : Int → Int) (T : List Int) : mixL f 0 T = T := by unfold mixL; simp
theorem mix_end (f : Int → Int) (T : List Int) : mixL f T.length T = T.map f := by unfold mixL; simp
theorem mix_at (f : Int → Int) (j : Nat) (T : List Int) (x : Int) (h : T[j]? = some x) : (mixL f j T)[j]? = some x := by
  unfold mixL
  have hj := (List.getElem?_eq_some_iff.1 h).1
  rw [List.getElem?_append_right (by simp; omega)]
  simp
  rw [Nat.min_eq_left (by omega), Nat.sub_self, Nat.add_zero]
  exact h
theorem mix_step (f : Int → Int) (j : Nat) (T : List Int) (x : Int) (h : T[j]? = some x) : (mixL f j T).set j (f x) = mixL f (j + 1) T := by
  have hj := (List.getElem?_eq_some_iff.1 h).1
  have e : T.drop j = x :: T.drop (j + 1) := by rw [List.drop_eq_getElem_cons hj]; congr 1; exact (List.getElem?_eq_some_iff.1 h).2
  have l : ((T.take j).map f).length = j := by simp; omega
  unfold mixL
  rw [List.set_append, if_neg (by omega), l, Nat.sub_self, e, List.set_cons_zero, List.take_add_one, h]
  simp
end Go.Proofs.Ytlfldbagbafjfaa
