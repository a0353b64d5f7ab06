/- RunsAlgebra: the numbers that are looked at. -/
import Derived.Test.YtbcmeaebjngapaaSQ
import Derived.Maps.AppendAt
namespace Go.Proofs.Ytbcmeaebjngapaa
open Go.RowKit
set_option linter.unusedVariables false
set_option maxRecDepth 100000
set_option maxHeartbeats 1000000

def tc (T : List Int) : List Value := T.map fun x => .int .i64 x
/-- Numbers that the call collects: their row has come since w. -/
def RT (w wr : World) (v : Value) (T : List Int) : Prop := wr.ownsRow w.heap.size 2 1 v T.length (tc T)
theorem RT.at {w wr : World} {v : Value} {T : List Int} (h : RT w wr v T) : ∃ a c, v = .slice a T.length c ∧ T.length ≤ c ∧ c ≤ 9223372036854775807 ∧ (T = [] ∨ ∃ g, a = some ⟨g, 0, none⟩ ∧ ∀ j x, T[j]? = some x → wr.cell? ⟨g, j, none⟩ = some (.int .i64 x)) := by
  rcases h.2 with ⟨e1, e2⟩ | ⟨g, c', cur, e1, q1, q2, q3, q4, q5, q6⟩
  · exact ⟨none, 0, by rw [e1, e2], by omega, by omega, .inl (List.length_eq_zero_iff.1 e2)⟩
  · unfold maxLen at q4
    refine ⟨_, c', e1, q3, by omega, .inr ⟨g, rfl, fun j x hj => ?_⟩⟩
    have hlt := (List.getElem?_eq_some_iff.1 hj).1
    unfold World.cell?
    rw [q2]
    have h1 : (cur.toList.take (T.length * 1))[j]? = (tc T)[j]? := by rw [q6]
    rw [List.getElem?_take, if_pos (by omega), Array.getElem?_toList] at h1
    simp only
    rw [h1]
    simp [tc, hj]
theorem RT.keep {w wr wr' : World} {v : Value} {T : List Int} (h : RT w wr v T) (g : wr.grownBy wr' none) : RT w wr' v T := by
  refine ⟨h.1, ?_⟩
  rcases h.2 with h2 | ⟨b, c, cur, e1, q1, q2, q3⟩
  · exact .inl h2
  · exact .inr ⟨b, c, cur, e1, q1, (g.block b (Array.getElem?_eq_some_iff.1 q2).1 (by simp)).trans q2, q3⟩
theorem RT.own {w wr : World} {v : Value} {T : List Int} (h : RT w wr v T) : ∀ k, v.ownBlock = some k → w.heap.size ≤ k := fun k hk => by
  rcases h.2 with ⟨rfl, -⟩ | ⟨b, c, cur, rfl, q1, -⟩
  · cases hk
  · injection hk with hk; exact hk ▸ q1
theorem Try.infoE : (Try.prog.info? 2).map (fun i => (i.zero, i.size, i.bytes)) = some (some (.int .i64 0), 1, 8) := by kernel_rfl

/-- The first one. -/
theorem rt_one (w : World) (x : Int) : RT w (w.alloc (.cells #[.int .i64 x] 2)) (.slice (some ⟨w.heap.size, 0, none⟩) 1 1) [x] :=
  ⟨rfl, .inr ⟨w.heap.size, 1, _, rfl, Nat.le_refl _, heap_alloc_new w _, Nat.le_refl _, by unfold maxLen; omega, by simp, by simp [tc]⟩⟩

/-- Four more. -/
theorem rt_app4 {w W : World} {v : Value} {T : List Int} (x1 x2 x3 x4 : Int) (h : RT w W v T) (hg : w.grownBy W none) (hb : (T.length + 4) * 8 ≤ 140737488355328) :
    ∃ a' c' W', (∀ ty, (Builtin.append_ #[29, 29] ty #[v, .slice (some ⟨W.heap.size, 0, none⟩) 4 4]).run Try.prog (W.alloc (.cells #[.int .i64 x1, .int .i64 x2, .int .i64 x3, .int .i64 x4] 2)) = .ok (.slice a' (T.length + 4) c') W') ∧ RT w W' (.slice a' (T.length + 4) c') (T ++ [x1, x2, x3, x4]) ∧ w.grownBy W' none := by
  obtain ⟨i, hi, hz0, hz1, hz2⟩ := info_parts Try.infoE
  have hW := grown_alloc W (.cells #[.int .i64 x1, .int .i64 x2, .int .i64 x3, .int .i64 x4] 2)
  have hn := heap_alloc_new W (.cells #[.int .i64 x1, .int .i64 x2, .int .i64 x3, .int .i64 x4] 2)
  obtain ⟨v', W', hr, ho, hgr, hnil⟩ := run_append_own (P := Try.prog) (W.alloc (.cells #[.int .i64 x1, .int .i64 x2, .int .i64 x3, .int .i64 x4] 2)) w.heap.size 29 29 2 i _ 1 8 Try.underlying29 hi hz0 hz1 hz2 rfl (by decide) v T.length (tc T) (h.keep hW) ⟨W.heap.size, 0, none⟩ 4 4 [.int .i64 x1, .int .i64 x2, .int .i64 x3, .int .i64 x4] rfl (fun j u hj => by
    rw [Addr.add_lit, Nat.zero_add]
    unfold World.cell?
    rw [hn]
    simpa using hj) (by simp [Value.oneCell']) (by unfold maxLen; omega) hb (Nat.le_trans hg.size hW.size)
  have e : tc T ++ [.int .i64 x1, .int .i64 x2, .int .i64 x3, .int .i64 x4] = tc (T ++ [x1, x2, x3, x4]) := by simp [tc]
  have e2 : (T ++ [x1, x2, x3, x4]).length = T.length + 4 := by simp
  rw [e] at ho
  have ho' : RT w W' v' (T ++ [x1, x2, x3, x4]) := by unfold RT; rw [e2]; exact ho
  obtain ⟨a', c', rfl⟩ : ∃ a' c', v' = .slice a' (T.length + 4) c' := by
    rcases ho.2 with ⟨e1, e2⟩ | ⟨g', c', cur, e1, -⟩
    · omega
    · exact ⟨_, _, e1⟩
  exact ⟨a', c', W', fun _ => hr, ho', grown_fresh (grown_trans hg hW) hgr (h.own)⟩
end Go.Proofs.Ytbcmeaebjngapaa
