/- What SeenOnce holds; the numbers that were taken, in memory. -/
import Derived.Test.YtielpjdjlmkejaaZW
import Derived.Test.YtielpjdjlmkejaaZR
namespace Go.Proofs.Ytielpjdjlmkejaa
open Go.RowKit
set_option linter.unusedVariables false
set_option maxRecDepth 100000
set_option maxHeartbeats 1000000

structure OI (s : Sn) (T : List Int) : Prop where
  ok : SOk s
  mem : ∀ x, memB x s.L = true ↔ x ∈ T ∧ s.floor < x
  nd : T.Nodup
  rng : ∀ x ∈ T, 0 ≤ x ∧ x ≤ 4611686018427387903

theorem oi0 {space delay : Int} (h : rightF space delay) : OI (sn0 space delay) [] := ⟨sok0 h, fun x => by simp [sn0, memB], List.nodup_nil, fun x h => by cases h⟩
theorem oi_ack {s : Sn} {T : List Int} (h : OI s T) (now : Int) : OI (ackF now s) T := by
  refine ⟨sok_ack h.ok now, ?_, h.nd, h.rng⟩
  unfold ackF
  split <;> exact h.mem
theorem oi_go {s : Sn} {T : List Int} (h : OI s T) (now : Int) : OI (goF now s) T := ⟨sok_go h.ok now, h.mem, h.nd, h.rng⟩

theorem oi_forget {s : Sn} {T : List Int} (h : OI s T) (n : Int) : OI (forgetF n s) T := by
  refine ⟨sok_forget h.ok n, ?_, h.nd, h.rng⟩
  have hf := h.ok.floor
  have key : ∀ x, memB x (raiseF (min n s.largest) s).L = true ↔ x ∈ T ∧ (raiseF (min n s.largest) s).floor < x := fun x => by
    show memB x (cutS 0 0 (min n s.largest) s.L) = true ↔ x ∈ T ∧ max s.floor (min n s.largest) < x
    rw [memB_cut h.ok.good (by omega), h.mem]
    constructor
    · rintro ⟨⟨h1, h2⟩, h3⟩
      exact ⟨h1, by omega⟩
    · rintro ⟨h1, h2⟩
      exact ⟨⟨h1, by omega⟩, by omega⟩
  unfold forgetF
  split
  · exact key
  · exact key

theorem fresh_new {s : Sn} {T : List Int} (h : OI s T) {n : Int} (hf : freshF s n = true) : n ∉ T ∧ 0 ≤ n ∧ n ≤ 4611686018427387903 := by
  obtain ⟨h1, h2, h3⟩ := fresh_iff.1 hf
  refine ⟨fun hn => ?_, by have := h.ok.floor; omega, h2⟩
  have := (h.mem n).2 ⟨hn, h1⟩
  rw [h3] at this
  cases this

theorem oi_took {s : Sn} {T : List Int} (h : OI s T) {n : Int} (hf : freshF s n = true) (el : Bool) (mark : Int) : OI (tookF n el mark s) (T ++ [n]) := by
  obtain ⟨n1, n2, n3⟩ := fresh_new h hf
  obtain ⟨h1, h2, h3⟩ := fresh_iff.1 hf
  refine ⟨sok_took h.ok hf el mark, ?_, ?_, ?_⟩
  · obtain ⟨X, hX⟩ : ∃ X, X = countF mark (topF n (w1F n el mark s)) := ⟨_, rfl⟩
    have xL : X.L = s.L := by rw [hX]; exact (topF_L n _).1.trans (w1F_L n el mark s).1
    have xf : X.floor = s.floor := by
      rw [hX]
      show (topF n (w1F n el mark s)).floor = s.floor
      have e1 : ∀ t : Sn, (topF n t).floor = t.floor := fun t => by unfold topF; split <;> rfl
      rw [e1]
      unfold w1F
      split <;> rfl
    have e : (tookF n el mark s).L = (keepF n X).L ∧ (tookF n el mark s).floor = (keepF n X).floor := by rw [hX]; exact ⟨rfl, rfl⟩
    rw [e.1, e.2]
    have ha : ∀ x, memB x (addS 0 n n X.L) = true ↔ (x ∈ T ∧ s.floor < x) ∨ x = n := fun x => by
      rw [xL, memB_addS h.ok.ok.good, h.mem]
      constructor
      · rintro (a | a)
        · exact .inl a
        · exact .inr (by omega)
      · rintro (a | a)
        · exact .inl a
        · exact .inr (by omega)
    intro x
    unfold keepF
    by_cases c : 32 < (addS 0 n n X.L).length
    · rw [if_pos c]
      have hg := addS_g (mx := 4611686018427387903) (h.ok.good.top h.ok.large) (n := n) (by omega) h2
      rw [← xL] at hg
      show memB x (cutS 0 0 ((addS 0 n n X.L).headD (0, 0)).2 (addS 0 n n X.L)) = true ↔ x ∈ T ++ [n] ∧ max X.floor ((addS 0 n n X.L).headD (0, 0)).2 < x
      rw [memB_cut hg.1 (by have := h.ok.floor; omega), ha, xf, List.mem_append, List.mem_singleton]
      constructor
      · rintro ⟨⟨a, b⟩ | a, c⟩
        · exact ⟨.inl a, by omega⟩
        · exact ⟨.inr a, by omega⟩
      · rintro ⟨a | a, c⟩
        · exact ⟨.inl ⟨a, by omega⟩, by omega⟩
        · exact ⟨.inr a, by omega⟩
    · rw [if_neg c]
      show memB x (addS 0 n n X.L) = true ↔ x ∈ T ++ [n] ∧ X.floor < x
      rw [ha, xf, List.mem_append, List.mem_singleton]
      constructor
      · rintro (⟨a, b⟩ | a)
        · exact ⟨.inl a, b⟩
        · exact ⟨.inr a, by omega⟩
      · rintro ⟨a | a, c⟩
        · exact .inl ⟨a, c⟩
        · exact .inr a
  · rw [List.nodup_append]
    exact ⟨h.nd, by simp, fun a ha b hb e => by rw [List.mem_singleton] at hb; subst hb; subst e; exact n1 ha⟩
  · intro x hx
    rcases List.mem_append.1 hx with a | a
    · exact h.rng x a
    · rw [List.mem_singleton] at a; subst a; exact ⟨n2, n3⟩

/-- Behind a Take the number isn't fresh. -/
theorem again_not {s : Sn} {T : List Int} (h : OI s T) (now n : Int) (el : Bool) (mark : Int) : freshF (takeF now n el mark s) n = false := by
  unfold takeF
  cases hf : freshF (goF now s) n with
  | false => exact hf
  | true =>
    rw [if_pos rfl]
    have o := oi_took (oi_go h now) hf el mark
    cases hq : freshF (tookF n el mark (goF now s)) n with
    | false => rfl
    | true => exact absurd (by simp : n ∈ T ++ [n]) (fresh_new o hq).1

theorem Row.kept2 {w w' : World} {v : Value} {L : List Sp} (h : Row w v L) (g : w.grownBy w' none) : Row w' v L := row_kept h (fun k e => g.block k (row_lt h k e) (by simp))

/-- The blocks of another make lie as they lay. -/
def Far (w w' : World) : Prop := w.heap.size ≤ w'.heap.size ∧ ∀ (g : Nat) (c : Array Value) (t : TypeId) (f : Nat × Nat), w.heap[g]? = some (.cells c t f) → t ≠ 63 → t ≠ 83 → t ≠ 55 → w'.heap[g]? = w.heap[g]?
theorem Far.trans {a b c : World} (h : Far a b) (k : Far b c) : Far a c := ⟨Nat.le_trans h.1 k.1, fun g x t f hg h1 h2 h3 => (k.2 g x t f ((h.2 g x t f hg h1 h2 h3).trans hg) h1 h2 h3).trans (h.2 g x t f hg h1 h2 h3)⟩
theorem Far.grown {w w' : World} (h : w.grownBy w' none) : Far w w' := ⟨h.size, fun g c t f hg _ _ _ => h.block g (Array.getElem?_eq_some_iff.1 hg).1 (by simp)⟩
theorem far_to {w w' : World} {b bs : Nat} {v : Value} {s s' : Sn} (h : SN w b bs v s) (ht : To b bs v w s' w') : Far w w' := by
  obtain ⟨v', -, -, k⟩ := ht
  refine ⟨k.size, fun g c t f hg h1 h2 h3 => k.block g (Array.getElem?_eq_some_iff.1 hg).1 ?_⟩
  rintro (e | e | e)
  · subst e
    have := h.blk
    unfold Blk at this
    rw [hg] at this
    cases this
    exact h1 rfl
  · subst e
    have := h.set.blk
    rw [hg] at this
    cases this
    exact h2 rfl
  · exact h.set.row.ne_of hg h3 e
theorem Blk.far2 {w w' : World} {g : Nat} {cs : Array Value} {t : TypeId} (h : Blk w g cs t) (hf : Far w w') (h1 : t ≠ 63) (h2 : t ≠ 83) (h3 : t ≠ 55) : Blk w' g cs t := (hf.2 g cs t (0, 0) h h1 h2 h3).trans h

theorem of_take {w wr : World} {b : Nat} {s : Sn} (h : QS w wr b s) (ok : SOk s) {k : Nat} (hc : Cb k s) (hk : (k : Int) < 9223372036854775807) (now n : Int) (el : Bool) (mark : Int) :
    Calls Try.prog 13 #[ptr b, .int .i64 now, .int .i64 n, .bool el, .int .i64 mark] wr fun e wr' => e = .returned (.bool (freshF s n)) ∧ QS w wr' b (takeF now n el mark s) ∧ Far wr wr' := by
  obtain ⟨bs, v, h1, h2⟩ := h.at_
  cases hf : freshF (goF now s) n with
  | false =>
    have hf' : freshF s n = false := hf
    refine (stale_any b bs v s now n mark el wr h1 ok.ok hf).mono fun e wr' ⟨he, ht⟩ => ⟨by rw [he, hf'], ?_, far_to h1 ht⟩
    unfold takeF
    rw [hf]
    exact QS.to h.grown h2 ht
  | true =>
    have hf' : freshF s n = true := hf
    exact (take_any b bs v s now n mark el wr h1 (take_ok ok hc hk now n hf) ok.floor.1).mono fun e wr' ⟨he, ht⟩ => ⟨by rw [he, hf, hf'], QS.to h.grown h2 ht, far_to h1 ht⟩
theorem of_forget {w wr : World} {b : Nat} {s : Sn} (h : QS w wr b s) (ok : SOk s) (n : Int) :
    Calls Try.prog 18 #[ptr b, .int .i64 n] wr fun e wr' => e = .returned (.tuple #[]) ∧ QS w wr' b (forgetF n s) ∧ Far wr wr' := by
  obtain ⟨bs, v, h1, h2⟩ := h.at_
  exact (forget_any b bs v s n wr h1 ok.ok (by have := ok.large; omega)).mono fun e wr' ⟨he, ht⟩ => ⟨he, QS.to h.grown h2 ht, far_to h1 ht⟩
theorem of_ack {w wr : World} {b : Nat} {s : Sn} (h : QS w wr b s) (ok : SOk s) (now ex : Int) :
    Calls Try.prog 14 #[ptr b, .int .i64 now, .int .i64 ex] wr fun e wr' => ∃ cs, e = .returned (.tuple #[.agg cs, .bool (decide (s.L ≠ []))]) ∧ (cs.size = 17 ∧ cs.all (·.oneCell') = true) ∧ AckF s now ex wr wr' cs ∧ QS w wr' b (ackF now s) ∧ Far wr wr' := by
  obtain ⟨bs, v, h1, h2⟩ := h.at_
  have g := sok_go ok now
  unfold ackF
  by_cases hL : s.L = []
  · refine (ack_none b bs v s now ex wr h1 hL).mono ?_
    rintro e wr' ⟨rfl, ht⟩
    rw [if_pos hL]
    exact ⟨fr0, by simp [hL], fr0_one, .inl ⟨hL, rfl⟩, QS.to h.grown h2 ht, far_to h1 ht⟩
  · refine (ack_some b bs v s now ex wr h1 hL ok.ok ⟨ok.came.1, g.came.2, g.clock.2⟩).mono ?_
    rintro e wr' ⟨a, c, rfl, h3, h4, ht⟩
    rw [if_neg hL]
    exact ⟨_, by simp [hL], frA_one _ _ _ _ _ _ _, .inr ⟨hL, a, c, rfl, h3, h4⟩, QS.to h.grown h2 ht, far_to h1 ht⟩
theorem of_fresh {w wr : World} {b : Nat} {s : Sn} (h : QS w wr b s) (ok : SOk s) (n : Int) :
    Calls Try.prog 12 #[ptr b, .int .i64 n] wr fun e wr' => e = .returned (.bool (freshF s n)) ∧ wr.grownBy wr' none := by
  obtain ⟨bs, v, h1, h2⟩ := h.at_
  exact fresh_any b bs v s n wr h1 ok.ok

theorem ack_cb2 {s : Sn} {k : Nat} (h : Cb k s) (now : Int) : Cb (k + 1) (ackF now s) := by
  unfold ackF
  split <;> exact cb_mono (show Cb k _ from h) (Nat.le_succ k)
theorem forget_cb2 {s : Sn} {k : Nat} (h : Cb k s) (n : Int) : Cb (k + 1) (forgetF n s) := by
  unfold forgetF
  split <;> exact cb_mono (show Cb k _ from h) (Nat.le_succ k)

/-- The numbers that were taken, as they lie in memory. -/
def tc (T : List Int) : List Value := T.map fun x => .int .i64 x
def RT (w wr : World) (v : Value) (T : List Int) : Prop := wr.ownsRow w.heap.size 2 1 v T.length (tc T)
theorem rt_nil (w wr : World) : RT w wr (.slice none 0 0) [] := ⟨rfl, .inl ⟨rfl, rfl⟩⟩
theorem RT.at {w wr : World} {a : Option Addr} {n c : Nat} {T : List Int} (h : RT w wr (.slice a n c) T) : n = T.length ∧ n ≤ c ∧ c ≤ maxLen ∧ (T = [] ∨ ∃ g cur, a = some ⟨g, 0, none⟩ ∧ w.heap.size ≤ g ∧ wr.heap[g]? = some (.cells cur 2 (0, 0)) ∧ ∀ j x, T[j]? = some x → wr.cell? ⟨g, j, none⟩ = some (.int .i64 x)) := by
  rcases h.2 with ⟨e1, e2⟩ | ⟨g, c', cur, e1, q1, q2, q3, q4, q5, q6⟩
  · cases e1
    exact ⟨e2.symm, Nat.le_refl _, Nat.zero_le _, .inl (List.length_eq_zero_iff.1 e2)⟩
  · cases e1
    refine ⟨rfl, q3, q4, .inr ⟨g, cur, rfl, q1, q2, fun j x hj => ?_⟩⟩
    have hlt := (List.getElem?_eq_some_iff.1 hj).1
    unfold World.cell?
    rw [q2]
    have h1 : (cur.toList.take (T.length * 1))[j]? = (tc T)[j]? := by rw [q6]
    rw [List.getElem?_take, if_pos (by omega), Array.getElem?_toList] at h1
    simp only
    rw [h1]
    simp [tc, hj]
theorem RT.kept {w wr wr' : World} {v : Value} {T : List Int} (h : RT w wr v T) (hk : ∀ (g : Nat) (c : Array Value), wr.heap[g]? = some (.cells c 2 (0, 0)) → wr'.heap[g]? = wr.heap[g]?) : RT w wr' v T := by
  refine ⟨h.1, ?_⟩
  rcases h.2 with h2 | ⟨g, c, cur, e1, q1, q2, q3⟩
  · exact .inl h2
  · exact .inr ⟨g, c, cur, e1, q1, (hk g cur q2).trans q2, q3⟩
theorem RT.far {w wr wr' : World} {v : Value} {T : List Int} (h : RT w wr v T) (hf : Far wr wr') : RT w wr' v T := h.kept (fun g c hg => hf.2 g c 2 (0, 0) hg (by decide) (by decide) (by decide))
theorem Try.infoE : (Try.prog.info? 2).map (fun i => (i.zero, i.size, i.bytes)) = some (some (.int .i64 0), 1, 8) := by kernel_rfl

/-- One more is taken. -/
theorem rt_app (w W : World) (v : Value) (T : List Int) (n : Int) (g : Nat) (c : Nat) (h : RT w W v T) (hg : w.grownBy W none) (hc : W.cell? ⟨g, 0, none⟩ = some (.int .i64 n)) (hb : (T.length + 1) * 8 ≤ 140737488355328) :
    ∃ a' c' W', (Builtin.append_ #[41, 41] 41 #[v, .slice (some ⟨g, 0, none⟩) 1 c]).run Try.prog W = .ok (.slice a' (T.length + 1) c') W' ∧ RT w W' (.slice a' (T.length + 1) c') (T ++ [n]) ∧ W.grownBy W' v.ownBlock := by
  obtain ⟨i, hi, hz0, hz1, hz2⟩ := info_parts Try.infoE
  obtain ⟨v', W', hr, ho, hgr, hnil⟩ := run_append_own (P := Try.prog) W w.heap.size 41 41 2 i _ 1 8 Try.underlying41 hi hz0 hz1 hz2 rfl (by decide) v T.length (tc T) h ⟨g, 0, none⟩ 1 c [.int .i64 n] rfl (fun j u hj => by
    match j, hj with
    | 0, hj => cases hj; exact hc) (by simp [Value.oneCell']) (by unfold maxLen; omega) hb hg.size
  have e : tc T ++ [.int .i64 n] = tc (T ++ [n]) := by simp [tc]
  have e2 : (T ++ [n]).length = T.length + 1 := by simp
  rw [e] at ho
  have ho' : RT w W' v' (T ++ [n]) := by unfold RT; rw [e2]; exact ho
  obtain ⟨a', c', rfl⟩ : ∃ a' c', v' = .slice a' (T.length + 1) c' := by
    rcases ho.2 with ⟨e1, e2⟩ | ⟨g', c', cur, e1, -⟩
    · omega
    · exact ⟨_, _, e1⟩
  exact ⟨a', c', W', hr, ho', hgr⟩

/-- What an append does to the row alone leaves a Seen as it is. -/
theorem QS.app {w W W' : World} {b : Nat} {s : Sn} {v : Value} {T : List Int} (h : QS w W b s) (ht : RT w W v T) (hg : W.grownBy W' v.ownBlock) : QS w W' b s := by
  obtain ⟨bs, u, h1, h2⟩ := h.at_
  have hv : ∀ g, v.ownBlock = some g → w.heap.size ≤ g ∧ ∃ c, W.heap[g]? = some (.cells c 2 (0, 0)) := fun g e => by
    rcases ht.2 with ⟨rfl, -⟩ | ⟨g', c, cur, rfl, q1, q2, -⟩
    · cases e
    · cases e; exact ⟨q1, _, q2⟩
  refine ⟨⟨bs, u, h1.kept (fun g hm => hg.block g (h1.mine_lt g hm) (fun e => ?_)), h2⟩, ?_⟩
  · obtain ⟨-, c, hc⟩ := hv g e.symm
    rcases hm with rfl | rfl | hm
    · have := h1.blk
      unfold Blk at this
      rw [hc] at this
      cases this
    · have := h1.set.blk
      rw [hc] at this
      cases this
    · exact h1.set.row.ne_of hc (by decide) hm
  · exact grown_fresh h.grown hg (fun k e => (hv k e).1)
end Go.Proofs.Ytielpjdjlmkejaa
