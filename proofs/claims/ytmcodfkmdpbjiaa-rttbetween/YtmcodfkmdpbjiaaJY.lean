/- Numbers that a call collects; samples. -/
import Derived.Test.YtmcodfkmdpbjiaaJT
import Derived.Maps.AppendAt
namespace Go.Proofs.Ytmcodfkmdpbjiaa
open Go.RowKit
set_option linter.unusedVariables false
set_option maxRecDepth 100000
set_option maxHeartbeats 4000000

theorem grown_fresh {w w1 w' : World} {r : Option Nat} (hg : w.grownBy w1 none) (h : w1.grownBy w' r) (hr : ∀ k, r = some k → w.heap.size ≤ k) : w.grownBy w' none :=
  ⟨h.os.trans hg.os, h.tape.trans hg.tape, h.output.trans hg.output, Nat.le_trans hg.size h.size, fun k hk _ => by
    rw [h.block k (Nat.lt_of_lt_of_le hk hg.size) (fun e => by have := hr k e.symm; omega)]
    exact hg.block k hk (by simp)⟩
/-- The numbers that were taken, as they lie in memory. -/
def tc (T : List Int) : List Value := T.map fun x => .int .i64 x
def RT (w wr : World) (v : Value) (T : List Int) : Prop := wr.ownsRow w.heap.size 2 1 v T.length (tc T)
theorem rt_nil (w wr : World) : RT w wr (.slice none 0 0) [] := ⟨rfl, .inl ⟨rfl, rfl⟩⟩
theorem RT.at {w wr : World} {a : Option Addr} {n c : Nat} {T : List Int} (h : RT w wr (.slice a n c) T) : n = T.length ∧ n ≤ c ∧ c ≤ maxLen ∧ (T = [] ∨ ∃ g cur, a = some ⟨g, 0, none⟩ ∧ w.heap.size ≤ g ∧ wr.heap[g]? = some (.cells cur 2 (0, 0)) ∧ ∀ j x, T[j]? = some x → wr.cell? ⟨g, j, none⟩ = some (.int .i64 x)) := by
  rcases h.2 with ⟨e1, e2⟩ | ⟨g, c', cur, e1, q1, q2, q3, q4, q5, q6⟩
  · cases e1
    exact ⟨e2.symm, Nat.le_refl _, Nat.zero_le _, .inl (List.length_eq_zero_iff.1 e2)⟩
  · cases e1
    refine ⟨rfl, q3, q4, .inr ⟨g, cur, rfl, q1, q2, fun j x hj => ?_⟩⟩
    have hlt := (List.getElem?_eq_some_iff.1 hj).1
    unfold World.cell?
    rw [q2]
    have h1 : (cur.toList.take (T.length * 1))[j]? = (tc T)[j]? := by rw [q6]
    rw [List.getElem?_take, if_pos (by omega), Array.getElem?_toList] at h1
    simp only
    rw [h1]
    simp [tc, hj]
theorem RT.kept {w wr wr' : World} {v : Value} {T : List Int} (h : RT w wr v T) (hk : ∀ (g : Nat) (c : Array Value), wr.heap[g]? = some (.cells c 2 (0, 0)) → wr'.heap[g]? = wr.heap[g]?) : RT w wr' v T := by
  refine ⟨h.1, ?_⟩
  rcases h.2 with h2 | ⟨g, c, cur, e1, q1, q2, q3⟩
  · exact .inl h2
  · exact .inr ⟨g, c, cur, e1, q1, (hk g cur q2).trans q2, q3⟩
theorem Try.infoE : (Try.prog.info? 2).map (fun i => (i.zero, i.size, i.bytes)) = some (some (.int .i64 0), 1, 8) := by kernel_rfl

/-- One more is taken. -/
theorem rt_app (w W : World) (v : Value) (T : List Int) (n : Int) (g : Nat) (c : Nat) (h : RT w W v T) (hg : w.grownBy W none) (hc : W.cell? ⟨g, 0, none⟩ = some (.int .i64 n)) (hb : (T.length + 1) * 8 ≤ 140737488355328) :
    ∃ a' c' W', (Builtin.append_ #[45, 45] 45 #[v, .slice (some ⟨g, 0, none⟩) 1 c]).run Try.prog W = .ok (.slice a' (T.length + 1) c') W' ∧ RT w W' (.slice a' (T.length + 1) c') (T ++ [n]) ∧ W.grownBy W' v.ownBlock := by
  obtain ⟨i, hi, hz0, hz1, hz2⟩ := info_parts Try.infoE
  obtain ⟨v', W', hr, ho, hgr, hnil⟩ := run_append_own (P := Try.prog) W w.heap.size 45 45 2 i _ 1 8 Try.underlying45 hi hz0 hz1 hz2 rfl (by decide) v T.length (tc T) h ⟨g, 0, none⟩ 1 c [.int .i64 n] rfl (fun j u hj => by
    match j, hj with
    | 0, hj => cases hj; exact hc) (by simp [Value.oneCell']) (by unfold maxLen; omega) hb hg.size
  have e : tc T ++ [.int .i64 n] = tc (T ++ [n]) := by simp [tc]
  have e2 : (T ++ [n]).length = T.length + 1 := by simp
  rw [e] at ho
  have ho' : RT w W' v' (T ++ [n]) := by unfold RT; rw [e2]; exact ho
  obtain ⟨a', c', rfl⟩ : ∃ a' c', v' = .slice a' (T.length + 1) c' := by
    rcases ho.2 with ⟨e1, e2⟩ | ⟨g', c', cur, e1, -⟩
    · omega
    · exact ⟨_, _, e1⟩
  exact ⟨a', c', W', hr, ho', hgr⟩


theorem RT.grown {w wr wr' : World} {v : Value} {T : List Int} (h : RT w wr v T) (g : wr.grownBy wr' none) : RT w wr' v T := h.kept (fun k c hk => g.block k (Array.getElem?_eq_some_iff.1 hk).1 (by simp))
theorem RT.samp {w wr wr' : World} {v : Value} {T : List Int} {b : Nat} {s : Es} (h : RT w wr v T) (q : EB wr b s) (g : wr.grownBy wr' (some b)) : RT w wr' v T := h.kept (fun k c hk => g.block k (Array.getElem?_eq_some_iff.1 hk).1 (fun e => by
  cases e
  have := (show wr.heap[b]? = _ from q)
  rw [hk] at this
  simp at this))
theorem QE.app {w W W' : World} {b : Nat} {s : Es} {v : Value} {T : List Int} (h : QE w W b s) (ht : RT w W v T) (hg : W.grownBy W' v.ownBlock) : QE w W' b s := by
  have hv : ∀ g, v.ownBlock = some g → w.heap.size ≤ g ∧ ∃ c, W.heap[g]? = some (.cells c 2 (0, 0)) := fun g e => by
    rcases ht.2 with ⟨rfl, -⟩ | ⟨g', c, cur, rfl, q1, q2, -⟩
    · cases e
    · cases e; exact ⟨q1, _, q2⟩
  refine ⟨?_, h.new, grown_fresh h.grown hg (fun k e => (hv k e).1)⟩
  refine (hg.block b h.at_.lt (fun e => ?_)).trans h.at_
  obtain ⟨-, c, hc⟩ := hv b e.symm
  have := (show W.heap[b]? = _ from h.at_)
  rw [hc] at this
  simp at this

/-- What samples without a delay leave. -/
structure Bw (s : Es) (T : List Int) (lo hi hd : Int) : Prop where
  all : ∀ x ∈ T, lo ≤ x ∧ x ≤ hi
  lo_ : lo ∈ T
  hi_ : hi ∈ T
  hd_ : T[0]? = some hd
  last : T[T.length - 1]? = some s.latest
  has : s.has = true
  least : s.least = lo
  sm : lo ≤ s.smooth ∧ s.smooth ≤ hi
  va : 0 ≤ s.var ∧ s.var ≤ max (hd / 2) (hi - lo)
structure BI (s : Es) (T : List Int) : Prop where
  ok : s.Ok
  rs : s.restart = false
  none : T = [] → s.has = false
  some_ : T ≠ [] → ∃ lo hi hd, Bw s T lo hi hd
  rng : ∀ x ∈ T, inT x
theorem bi_step {s : Es} {T : List Int} (h : BI s T) (now x : Int) : BI (smpF now x 0 s) (T ++ [sp x]) := by
  have hx := sp_b x
  have z : sp 0 = 0 := by decide
  refine ⟨smp_ok h.ok _ _ _, smp_rs _ _ _ _, (fun e => by simp at e), (fun _ => ?_), fun y hy => ?_⟩
  case refine_2 =>
    rcases List.mem_append.1 hy with c | c
    · exact h.rng y c
    · rw [List.mem_singleton] at c; subst c; exact hx
  have e2 : ∀ m, adjF m (sp x) (sp 0) = sp x := fun m => by rw [z]; unfold adjF; split <;> omega
  have hl : (T ++ [sp x])[(T ++ [sp x]).length - 1]? = some (sp x) := by simp
  by_cases hT : T = []
  · subst hT
    have hh := h.none rfl
    refine ⟨sp x, sp x, sp x, by simp, by simp, by simp, by simp, ?_, ?_, ?_, ?_, ?_⟩
    · rw [(smp_has now x 0 s).2]; simp
    · exact (smp_has now x 0 s).1
    · simp [smpF, hh]
    · simp [smpF, hh]
    · simp only [smpF, hh]; simp; omega
  · obtain ⟨lo, hi, hd, B⟩ := h.some_ hT
    have l1 := B.all lo B.lo_
    have l2 := B.all hi B.hi_
    have hle : (smpF now x 0 s).least = min (sp x) lo := by
      simp only [smpF, B.has, h.rs, B.least, if_true, leastF]
      split <;> simp_all <;> omega
    have hsm : (smpF now x 0 s).smooth = (7 * s.smooth + sp x) / 8 := by simp [smpF, B.has, e2, smoF]
    have hva : (smpF now x 0 s).var = (3 * s.var + distF s.smooth (sp x)) / 4 := by simp [smpF, B.has, e2, varF]
    have hdi : distF s.smooth (sp x) = max s.smooth (sp x) - min s.smooth (sp x) := rfl
    obtain ⟨b1, b2⟩ := B.sm
    obtain ⟨b3, b4⟩ := B.va
    refine ⟨min (sp x) lo, max (sp x) hi, hd, ?_, ?_, ?_, ?_, ?_, ?_, hle, ?_, ?_⟩
    · intro y hy
      rcases List.mem_append.1 hy with c | c
      · have := B.all y c; omega
      · rw [List.mem_singleton] at c; subst c; omega
    · by_cases c : sp x ≤ lo
      · rw [show min (sp x) lo = sp x by omega]; simp
      · rw [show min (sp x) lo = lo by omega]; simp [B.lo_]
    · by_cases c : hi ≤ sp x
      · rw [show max (sp x) hi = sp x by omega]; simp
      · rw [show max (sp x) hi = hi by omega]; simp [B.hi_]
    · rw [List.getElem?_append_left (by have := (List.getElem?_eq_some_iff.1 B.hd_).1; omega)]
      exact B.hd_
    · rw [(smp_has now x 0 s).2]; simp
    · exact (smp_has now x 0 s).1
    · rw [hsm]; omega
    · rw [hva, hdi]; omega
end Go.Proofs.Ytmcodfkmdpbjiaa
