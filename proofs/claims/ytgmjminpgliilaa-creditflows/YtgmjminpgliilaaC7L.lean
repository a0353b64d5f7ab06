/- CreditFlows: the limits that were told; what holds between two turns. -/
import Derived.Test.YtgmjminpgliilaaC7I
import Derived.Maps.AppendAt
import Derived.OwnWalkIn
namespace Go.Proofs.Ytgmjminpgliilaa
open Go.RowKit
set_option linter.unusedVariables false
set_option maxRecDepth 100000
set_option maxHeartbeats 4000000

theorem grown_fresh {w w1 w' : World} {r : Option Nat} (hg : w.grownBy w1 none) (h : w1.grownBy w' r) (hr : ∀ k, r = some k → w.heap.size ≤ k) : w.grownBy w' none :=
  ⟨h.os.trans hg.os, h.tape.trans hg.tape, h.output.trans hg.output, Nat.le_trans hg.size h.size, fun k hk _ => by
    rw [h.block k (Nat.lt_of_lt_of_le hk hg.size) (fun e => by have := hr k e.symm; omega)]
    exact hg.block k hk (by simp)⟩
/-- Numbers, as they lie in memory. -/
def tc (T : List Int) : List Value := T.map fun x => .int .i64 x
def RI (w wr : World) (v : Value) (T : List Int) : Prop := wr.ownsRow w.heap.size 2 1 v T.length (tc T)
theorem ri_nil (w wr : World) : RI w wr (.slice none 0 0) [] := ⟨rfl, .inl ⟨rfl, rfl⟩⟩
theorem RI.at {w wr : World} {a : Option Addr} {n c : Nat} {T : List Int} (h : RI w wr (.slice a n c) T) : n = T.length ∧ n ≤ c ∧ c ≤ maxLen ∧ (T = [] ∨ ∃ g cur, a = some ⟨g, 0, none⟩ ∧ w.heap.size ≤ g ∧ Blk wr g cur 2 ∧ ∀ j x, T[j]? = some x → wr.cell? ⟨g, j, none⟩ = some (.int .i64 x)) := by
  rcases h.2 with ⟨e1, e2⟩ | ⟨g, c', cur, e1, q1, q2, q3, q4, q5, q6⟩
  · cases e1
    exact ⟨e2.symm, Nat.le_refl _, Nat.zero_le _, .inl (List.length_eq_zero_iff.1 e2)⟩
  · cases e1
    refine ⟨rfl, q3, q4, .inr ⟨g, cur, rfl, q1, q2, fun j x hj => ?_⟩⟩
    have hlt := (List.getElem?_eq_some_iff.1 hj).1
    unfold World.cell?
    rw [q2]
    have h1 : (cur.toList.take (T.length * 1))[j]? = (tc T)[j]? := by rw [q6]
    rw [List.getElem?_take, if_pos (by omega), Array.getElem?_toList] at h1
    simp only
    rw [h1]
    simp [tc, hj]
theorem RI.kept {w wr wr' : World} {v : Value} {T : List Int} (h : RI w wr v T) (hk : ∀ (g : Nat) (c : Array Value), wr.heap[g]? = some (.cells c 2 (0, 0)) → wr'.heap[g]? = wr.heap[g]?) : RI w wr' v T := by
  refine ⟨h.1, ?_⟩
  rcases h.2 with h2 | ⟨g, c, cur, e1, q1, q2, q3⟩
  · exact .inl h2
  · exact .inr ⟨g, c, cur, e1, q1, (hk g cur q2).trans q2, q3⟩
theorem Try.infoE : (Try.prog.info? 2).map (fun i => (i.zero, i.size, i.bytes)) = some (some (.int .i64 0), 1, 8) := by kernel_rfl
theorem RI.grown {w wr wr' : World} {v : Value} {T : List Int} (h : RI w wr v T) (g : wr.grownBy wr' none) : RI w wr' v T := h.kept (fun k c hk => g.block k (Array.getElem?_eq_some_iff.1 hk).1 (by simp))
theorem RI.far {w wr wr' : World} {v : Value} {T : List Int} {b : Nat} {cs : Array Value} {t : TypeId} (h : RI w wr v T) (q : Blk wr b cs t) (ht : t ≠ 2) (g : wr.grownBy wr' (some b)) : RI w wr' v T := h.kept (fun k c hk => g.block k (Array.getElem?_eq_some_iff.1 hk).1 (fun e => by
  cases e
  have := (show wr.heap[b]? = _ from q)
  rw [hk] at this
  simp at this
  exact ht this.2.symm))
theorem RI.set {w wr : World} {g n c : Nat} {T : List Int} (h : RI w wr (.slice (some ⟨g, 0, none⟩) n c) T) (j : Nat) (hj : j < T.length) (x : Int) : RI w (wr.setCell ⟨g, j, none⟩ (.int .i64 x)) (.slice (some ⟨g, 0, none⟩) n c) (T.set j x) := by
  rcases h.2 with ⟨e1, e2⟩ | ⟨g', c', cur, e1, q1, q2, q3, q4, q5, q6⟩
  · cases e1
  · cases e1
    have hb : Blk (wr.setCell ⟨g, j, none⟩ (.int .i64 x)) g (cur.setIfInBounds j (.int .i64 x)) 2 := Blk.setC (show Blk wr g cur 2 from q2) j _
    have el : (T.set j x).length = T.length := List.length_set
    refine ⟨?_, .inr ⟨g, c, cur.setIfInBounds j (.int .i64 x), by rw [el], q1, hb, by rw [el]; exact q3, q4, by rw [Array.size_setIfInBounds]; exact q5, ?_⟩⟩
    · rw [el]; simp [tc]
    · rw [el, Array.toList_setIfInBounds, List.take_set, q6]
      simp [tc, List.map_set]

/-- One more is taken. -/
theorem ri_app (w W : World) (v : Value) (T : List Int) (n : Int) (g : Nat) (c : Nat) (h : RI w W v T) (hg : w.grownBy W none) (hc : W.cell? ⟨g, 0, none⟩ = some (.int .i64 n)) (hb : (T.length + 1) * 8 ≤ 140737488355328) :
    ∃ a' c' W', (Builtin.append_ #[43, 43] 43 #[v, .slice (some ⟨g, 0, none⟩) 1 c]).run Try.prog W = .ok (.slice a' (T.length + 1) c') W' ∧ RI w W' (.slice a' (T.length + 1) c') (T ++ [n]) ∧ W.grownBy W' v.ownBlock := by
  obtain ⟨i, hi, hz0, hz1, hz2⟩ := info_parts Try.infoE
  obtain ⟨v', W', hr, ho, hgr, hnil⟩ := run_append_own (P := Try.prog) W w.heap.size 43 43 2 i _ 1 8 Try.underlying43 hi hz0 hz1 hz2 rfl (by decide) v T.length (tc T) h ⟨g, 0, none⟩ 1 c [.int .i64 n] rfl (fun j u hj => by
    match j, hj with
    | 0, hj => cases hj; exact hc) (by simp [Value.oneCell']) (by unfold maxLen; omega) hb hg.size
  have e : tc T ++ [.int .i64 n] = tc (T ++ [n]) := by simp [tc]
  have e2 : (T ++ [n]).length = T.length + 1 := by simp
  rw [e] at ho
  have ho' : RI w W' v' (T ++ [n]) := by unfold RI; rw [e2]; exact ho
  obtain ⟨a', c', rfl⟩ : ∃ a' c', v' = .slice a' (T.length + 1) c' := by
    rcases ho.2 with ⟨e1, e2⟩ | ⟨g', c', cur, e1, -⟩
    · omega
    · exact ⟨_, _, e1⟩
  exact ⟨a', c', W', hr, ho', hgr⟩
theorem RI.own {w wr : World} {v : Value} {T : List Int} (h : RI w wr v T) {g : Nat} (e : v.ownBlock = some g) : w.heap.size ≤ g ∧ ∃ c, Blk wr g c 2 := by
  rcases h.2 with ⟨rfl, -⟩ | ⟨g', c, cur, rfl, q1, q2, -⟩
  · cases e
  · cases e; exact ⟨q1, _, q2⟩
theorem wpList_append_run {P : Program} (w : World) {ops : Array Oper} {rest : List Oper} {o : Oper} {a : Act} {Q : Exit → Act → World → Prop} (hgd : o.guard = none) (d s : Operand) (t t' : TypeId)
    (ho : o.op = .call { callee := .builtin .append, args := #[d, s], argTypes := #[t, t'] }) (v u : Value) (hd : a.eval d = v) (hs : a.eval s = u) {v' : Value} {w' : World}
    (hr : (Builtin.append_ #[t, t'] o.type #[v, u]).run P w = .ok v' w') (h : wpList P ops Q rest (a.put o.dst v') w') : wpList P ops Q (o :: rest) a w :=
  wpList_plain hgd fun K hK => by
    unfold Oper.wp execOp
    simp only [ho, resolve, invoke, builtin, Sem.run_bind, Sem.run_pure, Result.andThen_ok, List.map_toArray, List.map_cons, List.map_nil, hd, hs, hr]
    exact hK _ _ h


structure FI (w wr : World) (a b : Nat) (s : Ou) (t : Ind) (v : Value) (T : List Int) : Prop where
  q : OI w wr a b s t
  r : RI w wr v T
theorem FI.toA {w wr wr' : World} {a b : Nat} {s s' : Ou} {t : Ind} {v : Value} {T : List Int} (h : FI w wr a b s t v T) (c : OB 58 wr' a s') (ok : s'.Ok) (g : wr.grownBy wr' (some a)) : FI w wr' a b s' t v T := ⟨h.q.toA c ok g, h.r.far h.q.c (by decide) g⟩
theorem FI.toB {w wr wr' : World} {a b : Nat} {s : Ou} {t t' : Ind} {v : Value} {T : List Int} (h : FI w wr a b s t v T) (d : IB 64 wr' b t') (ok : t'.Ok) (g : wr.grownBy wr' (some b)) : FI w wr' a b s t' v T := ⟨h.q.toB d ok g, h.r.far h.q.d (by decide) g⟩
theorem FI.keep {w wr wr' : World} {a b : Nat} {s : Ou} {t : Ind} {v : Value} {T : List Int} (h : FI w wr a b s t v T) (g : wr.grownBy wr' none) : FI w wr' a b s t v T := ⟨h.q.keep g, h.r.grown g⟩
theorem FI.app {w wr wr' : World} {a b : Nat} {s : Ou} {t : Ind} {v v' : Value} {T T' : List Int} (h : FI w wr a b s t v T) (g : wr.grownBy wr' v.ownBlock) (r : RI w wr' v' T') : FI w wr' a b s t v' T' := by
  cases hv : v.ownBlock with
  | none => rw [hv] at g; exact ⟨h.q.keep g, r⟩
  | some k =>
    rw [hv] at g
    obtain ⟨q1, cur, q2⟩ := h.r.own hv
    exact ⟨⟨Blk.far h.q.c g (Blk.neT h.q.c q2 (by decide)), Blk.far h.q.d g (Blk.neT h.q.d q2 (by decide)), h.q.so, h.q.to, h.q.na, h.q.nb, grown_new h.q.g g q1⟩, r⟩
theorem fi_use {w wr : World} {a b : Nat} {s : Ou} {t : Ind} {v : Value} {T : List Int} (h : FI w wr a b s t v T) (n : Int) : Calls Try.prog 15 #[ptr a, .int .i64 n] wr fun e w' => e = .returned (.int .i64 (useE n s)) ∧ FI w w' a b (useF n s) t v T :=
  (use_any a s n wr h.q.c h.q.so).mono fun e w' ⟨he, c, g⟩ => ⟨he, h.toA c (use_ok h.q.so n) g⟩
theorem fi_raise {w wr : World} {a b : Nat} {s : Ou} {t : Ind} {v : Value} {T : List Int} (h : FI w wr a b s t v T) (n : Int) : Calls Try.prog 19 #[ptr a, .int .i64 n] wr fun e w' => e = .returned (.bool (raiseB n s)) ∧ FI w w' a b (raiseF n s) t v T :=
  (raise_any a s n wr h.q.c h.q.so).mono fun e w' ⟨he, c, g⟩ => ⟨he, h.toA c (raise_ok h.q.so n) g⟩
theorem fi_room {w wr : World} {a b : Nat} {s : Ou} {t : Ind} {v : Value} {T : List Int} (h : FI w wr a b s t v T) : Calls Try.prog 13 #[ptr a] wr fun e w' => e = .returned (.int .i64 (s.limit - s.used)) ∧ FI w w' a b s t v T :=
  (room_any a s wr h.q.c h.q.so).mono fun e w' ⟨he, q, hq⟩ => ⟨he, hq ▸ h.keep (drew_gr _ q)⟩
theorem fi_take {w wr : World} {a b : Nat} {s : Ou} {t : Ind} {v : Value} {T : List Int} (h : FI w wr a b s t v T) (n : Int) : Calls Try.prog 16 #[ptr b, .int .i64 n] wr fun e w' => e = .returned (.int .i64 (takeE n t)) ∧ FI w w' a b s (takeF n t) v T :=
  (take_any b t n wr h.q.d h.q.to).mono fun e w' ⟨he, c, g⟩ => ⟨he, h.toB c (take_ok h.q.to n) g⟩
theorem fi_cons {w wr : World} {a b : Nat} {s : Ou} {t : Ind} {v : Value} {T : List Int} (h : FI w wr a b s t v T) (n : Int) : Calls Try.prog 17 #[ptr b, .int .i64 n] wr fun e w' => e = .returned (.int .i64 (consE n t)) ∧ FI w w' a b s (consF n t) v T :=
  (cons_any b t n wr h.q.d h.q.to).mono fun e w' ⟨he, c, g⟩ => ⟨he, h.toB c (cons_ok h.q.to n) g⟩
theorem fi_upd {w wr : World} {a b : Nat} {s : Ou} {t : Ind} {v : Value} {T : List Int} (h : FI w wr a b s t v T) : Calls Try.prog 18 #[ptr b] wr fun e w' => e = .returned (.tuple #[.int .i64 (updN t), .bool (wantI t)]) ∧ FI w w' a b s (updF t) v T :=
  (upd_any b t wr h.q.d h.q.to).mono fun e w' ⟨he, c, g⟩ => ⟨he, h.toB c (upd_ok h.q.to) g⟩
theorem fi_agi {w wr : World} {a b : Nat} {s : Ou} {t : Ind} {v : Value} {T : List Int} (h : FI w wr a b s t v T) (n : Int) : Calls Try.prog 20 #[ptr b, .int .i64 n] wr fun e w' => e = .returned (.tuple #[]) ∧ FI w w' a b s (agI n t) v T :=
  (agi_any b t n wr h.q.d h.q.to).mono fun e w' ⟨he, c, g⟩ => ⟨he, h.toB c (agI_ok h.q.to n) g⟩
theorem fi_view {w wr : World} {a b : Nat} {s : Ou} {t : Ind} {v : Value} {T : List Int} (h : FI w wr a b s t v T) : Calls Try.prog 21 #[ptr b] wr fun e w' => e = .returned (.agg (ivc t)) ∧ FI w w' a b s t v T :=
  (iview_any b t wr h.q.d).mono fun e w' ⟨he, g⟩ => ⟨he, h.keep g⟩

/-- What holds between two turns. -/
structure FJ (D : Int) (s : Ou) (t : Ind) (way un : Int) (T : List Int) : Prop where
  so : s.Ok
  to : t.Ok
  win : t.window = D
  way0 : 0 ≤ way
  un0 : 0 ≤ un
  used : s.used = t.taken + way
  tak : t.taken = t.consumed + un
  lim : D ≤ s.limit ∧ s.limit ≤ t.limit
  all : ∀ x ∈ T, x ≤ t.limit
  last : (T = [] ∧ t.limit = D) ∨ T[T.length - 1]? = some t.limit
theorem FJ.b {D : Int} {s : Ou} {t : Ind} {way un : Int} {T : List Int} (h : FJ D s t way un T) : way ≤ 4611686018427387903 ∧ un ≤ 4611686018427387903 ∧ way + un ≤ 4611686018427387903 ∧ 0 ≤ s.limit - s.used ∧ s.limit - s.used ≤ 4611686018427387903 := by
  have := h.so.l; have := h.so.u; have := h.to.c; have := h.to.t; have := h.to.l; have := h.way0; have := h.un0; have := h.used; have := h.tak
  omega
theorem fj_start {D : Int} (h : fitsF D) : FJ D ⟨D, 0, -1⟩ ⟨D, D, 0, 0, false⟩ 0 0 [] := ⟨o0_ok h, i0_ok h, rfl, by decide, by decide, rfl, rfl, ⟨Int.le_refl _, Int.le_refl _⟩, by simp, .inl ⟨rfl, rfl⟩⟩
theorem fj_use {D : Int} {s : Ou} {t : Ind} {way un : Int} {T : List Int} (h : FJ D s t way un T) (n : Int) (h0 : 0 ≤ n) (h1 : n ≤ s.limit - s.used) : useE n s = 0 ∧ FJ D (useF n s) t (way + n) un T := by
  have hu := h.used
  have hw := h.way0
  have e : useF n s = { s with used := s.used + n } := by unfold useF; rw [if_neg (by omega)]
  have ok := use_ok h.so n
  rw [e] at ok ⊢
  exact ⟨by unfold useE; rw [if_neg (by omega), if_neg (by omega)], ok, h.to, h.win, by omega, h.un0, by show s.used + n = _; omega, h.tak, h.lim, h.all, h.last⟩
theorem fj_take {D : Int} {s : Ou} {t : Ind} {way un : Int} {T : List Int} (h : FJ D s t way un T) (n : Int) (h0 : 0 ≤ n) (h1 : n ≤ way) : takeE n t = 0 ∧ FJ D s (takeF n t) (way - n) (un + n) T := by
  have hu := h.used
  have hun := h.un0
  have hl := h.lim
  have hs := h.so.u
  have ht := h.tak
  have c : ¬ (n < 0 ∨ t.limit - t.taken < n) := by omega
  have e : takeF n t = { t with taken := t.taken + n } := by unfold takeF; rw [if_neg c]
  have ok := take_ok h.to n
  rw [e] at ok ⊢
  exact ⟨by unfold takeE; rw [if_neg (by omega), if_neg (by omega)], h.so, ok, h.win, by omega, by omega, by show _ = t.taken + n + _; omega, by show t.taken + n = t.consumed + (un + n); omega, h.lim, h.all, h.last⟩
theorem fj_cons {D : Int} {s : Ou} {t : Ind} {way un : Int} {T : List Int} (h : FJ D s t way un T) (n : Int) (h0 : 0 ≤ n) (h1 : n ≤ un) : consE n t = 0 ∧ FJ D s (consF n t) way (un - n) T := by
  have ht := h.tak
  have c : ¬ (n < 0 ∨ t.taken - t.consumed < n) := by omega
  have e : consF n t = { t with consumed := t.consumed + n } := by unfold consF; rw [if_neg c]
  have ok := cons_ok h.to n
  rw [e] at ok ⊢
  exact ⟨by unfold consE; rw [if_neg c], h.so, ok, h.win, h.way0, by omega, h.used, by show t.taken = t.consumed + n + (un - n); omega, h.lim, h.all, h.last⟩
theorem fj_upd {D : Int} {s : Ou} {t : Ind} {way un : Int} {T : List Int} (h : FJ D s t way un T) (hw : wantI t = true) : FJ D s (updF t) way un (T ++ [updN t]) := by
  obtain ⟨n1, n2, n3⟩ := next_b h.to
  have hl := h.lim
  have e : updF t = { t with limit := nextF t, again := false } := by unfold updF; rw [hw]; rfl
  have e2 : updN t = nextF t := by unfold updN; rw [hw]; rfl
  have ok := upd_ok h.to
  rw [e] at ok ⊢
  rw [e2]
  refine ⟨h.so, ok, h.win, h.way0, h.un0, h.used, h.tak, by show D ≤ s.limit ∧ s.limit ≤ nextF t; omega, ?_, .inr (by simp)⟩
  intro x hx
  rcases List.mem_append.1 hx with c | c
  · have := h.all x c; show x ≤ nextF t; omega
  · rw [List.mem_singleton] at c; subst c; exact Int.le_refl _
theorem upd_no {t : Ind} (h : wantI t = false) : updF t = t := by unfold updF; rw [h]; rfl
theorem upd_upd (t : Ind) : wantI (updF t) = false := by
  cases h : wantI t with
  | false => rw [upd_no h]; exact h
  | true =>
    have e : updF t = { t with limit := nextF t, again := false } := by unfold updF; rw [h]; rfl
    rw [e]
    unfold wantI
    rw [Bool.or_eq_false_iff]
    refine ⟨rfl, decide_eq_false ?_⟩
    show ¬ (0 < nextF t - nextF t ∧ _)
    intro c
    have := c.1
    omega
theorem fj_raise {D : Int} {s : Ou} {t : Ind} {way un : Int} {T : List Int} (h : FJ D s t way un T) (x : Int) (hx : x ∈ T) : FJ D (raiseF x s) t way un T := by
  have hl := h.lim
  have hm := h.all x hx
  have ok := raise_ok h.so x
  refine ⟨ok, h.to, h.win, h.way0, h.un0, ?_, h.tak, ?_, h.all, h.last⟩
  · rw [← h.used]; unfold raiseF; split <;> rfl
  · unfold raiseF; split
    · show D ≤ min x 4611686018427387903 ∧ min x 4611686018427387903 ≤ t.limit; omega
    · exact hl
theorem fj_agi {D : Int} {s : Ou} {t : Ind} {way un : Int} {T : List Int} (h : FJ D s t way un T) (x : Int) : FJ D s (agI x t) way un T := by
  have ok := agI_ok h.to x
  unfold agI at ok ⊢
  split
  · rename_i c; rw [if_pos c] at ok; exact ⟨h.so, ok, h.win, h.way0, h.un0, h.used, h.tak, h.lim, h.all, h.last⟩
  · exact h
/-- The end: the last limit has come. -/
theorem fj_end {D : Int} {s : Ou} {t : Ind} {T : List Int} (h : FJ D s t 0 0 T) (hw : wantI t = false) (hl : s.limit = t.limit) : t.taken = t.consumed ∧ 0 ≤ s.limit - s.used ∧ (t.consumed ≤ 4611686018427387903 - D → D ≠ 0 → D / 2 < s.limit - s.used) := by
  have ht := h.tak; have hu := h.used; have ho := h.so.u; have hwn := h.win; have hw0 := h.to.w
  refine ⟨by omega, by omega, fun hf hz => ?_⟩
  have e : nextF t = t.consumed + D := by unfold nextF; omega
  unfold wantI at hw
  rw [Bool.or_eq_false_iff] at hw
  have c := of_decide_eq_false hw.2
  rw [e, hwn] at c
  omega
theorem fj_last {D : Int} {s : Ou} {t : Ind} {way un : Int} {T : List Int} (h : FJ D s t way un T) (hl : T[T.length - 1]? = some t.limit) : FJ D (raiseF t.limit s) t way un T ∧ (raiseF t.limit s).limit = t.limit := by
  refine ⟨fj_raise h _ (List.mem_of_getElem? hl), ?_⟩
  have := h.lim; have := h.to.l
  unfold raiseF; split
  · show min t.limit 4611686018427387903 = _; omega
  · omega
theorem fj_none {D : Int} {s : Ou} {t : Ind} {way un : Int} (h : FJ D s t way un []) : s.limit = t.limit := by
  have := h.lim
  rcases h.last with ⟨-, e⟩ | e
  · omega
  · simp at e
theorem fj_some {D : Int} {s : Ou} {t : Ind} {way un : Int} {T : List Int} (h : FJ D s t way un T) (hT : T ≠ []) : T[T.length - 1]? = some t.limit := by
  rcases h.last with ⟨e, -⟩ | e
  · exact absurd e hT
  · exact e
end Go.Proofs.Ytgmjminpgliilaa
