/- along: the nodes of a slot, one behind the other. -/
import Derived.Test.YtbdjlhkgpblebaaDoorHG
import Derived.RangeFuncNested
import Derived.RangeFuncBound
import Derived.RangeFuncCalls
import Derived.RangeFuncLeaves
import Derived.RangeFuncBox
import Derived.Shelf.Abstract
import Derived.WalkKit
import Derived.OwnWalkIn
import Derived.TacticsInMore
import Derived.LoopNIn
import Derived.LoopIn
namespace Go.Proofs.YtbdjlhkgpblebaaDoor
open Go.RowKit Go.Shelf
set_option linter.unusedVariables false
set_option maxHeartbeats 400000
set_option maxRecDepth 100000
attribute [local go_sem] Oper.semAt_some

abbrev NdIn (S : List Nd) := { n : Nd // n ∈ S }
abbrev encN {S : List Nd} (x : NdIn S) : Array Value := #[ptr x.1.g]

/-- How many nodes are left at a pointer. -/
def leftN (S : List Nd) : Value → Nat
  | .pointer (some a) => (S.dropWhile (fun n => n.g ≠ a.block)).length
  | _ => 0
theorem leftN_at {S pre rest : List Nd} (hnd : (S.map Nd.g).Nodup) (h : S = pre ++ rest) : leftN S (hdp nilp rest) = rest.length := by
  cases rest with
  | nil => rfl
  | cons n t =>
    show (S.dropWhile (fun m => m.g ≠ n.g)).length = _
    subst h
    have : ∀ pre : List Nd, ((pre ++ n :: t).map Nd.g).Nodup → (pre ++ n :: t).dropWhile (fun m => m.g ≠ n.g) = n :: t := by
      intro pre
      induction pre with
      | nil => intro _; simp
      | cons a r ih =>
        intro hd
        rw [List.cons_append, List.map_cons, List.nodup_cons] at hd
        have : a.g ≠ n.g := fun e => hd.1 (by rw [e]; simp)
        rw [List.cons_append, List.dropWhile_cons, if_pos (by simpa using this)]
        exact ih hd.2
    rw [this pre hnd]

theorem Seg.below {w W : World} {n₀ : Nat} {prev nxt : Value} {L : List Nd} (h : Seg w prev nxt L) (hb : Below n₀ w W) (hlt : ∀ n ∈ L, n.g < n₀) : Seg W prev nxt L := h.kept (fun n hn => hb.block n.g (hlt n hn))

theorem along1_in (n : Nat) (hn : 1 ≤ n) (l Bn n₀ : Nat) (S : List Nd) (hnd : (S.map Nd.g).Nodup) (J Jx : List (NdIn S) → World → Prop)
    (hY : ∀ pre x W, J pre W → pre.length < S.length → YieldAt Fence.wide (n - 1) Tryd.prog l (encN x) W fun e W' =>
      (e = .returned (.bool true) ∧ J (pre ++ [x]) W' ∧ Below n₀ W W') ∨ (e = .returned (.bool false) ∧ Jx (pre ++ [x]) W'))
    (W : World) (hBn : W.cell? ⟨Bn, 0, none⟩ = some (hdp nilp S)) (hL : Seg W nilp nilp S) (hlt : ∀ n ∈ S, n.g < n₀) (h0 : J [] W) :
    CallsIn Fence.wide n Tryd.prog 64 #[.func (.yield l) #[] #[], .pointer (some ⟨Bn, 0, none⟩)] W fun e W' => (∃ v, e = .returned v) ∧
      ((∃ ys : List (NdIn S), ys.map Subtype.val = S ∧ J ys W') ∨ (∃ pre : List (NdIn S), pre.map Subtype.val <+: S ∧ Jx pre W')) := by
  obtain ⟨q, hq⟩ : ∃ q, hdp nilp S = .pointer q := by cases S <;> exact ⟨_, rfl⟩
  rw [hq] at hBn
  have HQ := hide hq
  have HY := hide hY; have HL := hide hL; have HT := hide hlt; have H0 := hide h0; have HND := hide hnd
  clear hY hL hlt h0 hnd hq
  refine callsIn_of_wp Tryd.func64 rfl trivial ?_ rfl
  simp only [Tryd.ntmps64, List.size_toArray, List.length_cons, List.length_nil, Nat.reduceAdd, Nat.reduceSub, Array.replicate_succ, Array.replicate_zero, List.push_toArray, List.append_toArray, List.nil_append, List.cons_append]
  gi_wp2_with fail
  gi_loopw [3] (fun p wr => ∃ (pre : List (NdIn S)) (rest : List Nd) (prev : Value), p = hdp nilp rest ∧ Hid (S = pre.map Subtype.val ++ rest ∧ Seg wr prev nilp rest ∧ J pre wr)) (fun p _ => leftN S p)
  case atStart => exact ⟨[], S, nilp, (unhide HQ).symm, rfl, unhide HL, unhide H0⟩
  case round =>
    obtain ⟨pre, rest, prev, rfl, H⟩ := hrel
    cases rest with
    | nil =>
      obtain ⟨e1, -, e2⟩ := unhide H
      have E := hide (And.intro e1 e2)
      clear e1 e2 H
      simp only [hdp]
      gi_wp2_with fail
      go_end0
      exact ⟨⟨_, rfl⟩, .inl ⟨pre, by have := (unhide E).1; simpa using this.symm, (unhide E).2⟩⟩
    | cons m t =>
      obtain ⟨e1, e2, e3⟩ := unhide H
      have mS : m ∈ S := by rw [e1]; simp
      obtain ⟨fn, tmps, assign, body, hy, hRR⟩ := (unhide HY) pre ⟨m, mS⟩ wr e3 (by have := congrArg List.length e1; simp at this; omega)
      have HRR := hide hRR
      have c3 := e2.1.cell 3 (hdp nilp t) rfl
      have M := hide (show leftN S (hdp nilp t) < leftN S (ptr m.g) by
        have a1 := leftN_at (unhide HND) e1
        have a2 := leftN_at (pre := pre.map Subtype.val ++ [m]) (rest := t) (unhide HND) (e1.trans (by simp))
        rw [a2]
        simp only [hdp] at a1
        rw [a1]; simp)
      have E := hide (And.intro e1 e2)
      clear hRR e1 e2 e3 H
      simp only [hdp]
      gi_wp2_with fail
      refine (unhide HRR).mono ?_
      rintro e W3 (⟨rfl, hJ3, hk3⟩ | ⟨rfl, hJx3⟩)
      · have c3' := (hk3.cell (p := ⟨m.g, 3, none⟩) (unhide HT m mS)).trans c3
        have HK := hide (And.intro hJ3 hk3)
        clear hJ3 hk3
        gi_wp2_with fail
        go_roundw
        case rel =>
          refine ⟨pre ++ [⟨m, mS⟩], t, ptr m.g, rfl, ?_, ?_, (unhide HK).1⟩
          · exact (unhide E).1.trans (by simp)
          · exact (unhide E).2.2.below (unhide HK).2 (fun k hk => unhide HT k ((congrArg (fun X => k ∈ X) (unhide E).1).mpr (by simp [hk])))
        case measure => exact unhide M
      · have HJ3 := hide hJx3
        clear hJx3
        gi_wp2_with fail
        refine bodyPost_ret (results_none rfl _ _ _) rfl ?_
        refine ⟨⟨_, rfl⟩, .inr ⟨pre ++ [⟨m, mS⟩], ⟨t, ?_⟩, unhide HJ3⟩⟩
        exact Eq.trans (by simp) (unhide E).1.symm

theorem along_any (p : Value) (q : Option Addr) (hp : p = .pointer q) (w : World) :
    Calls Tryd.prog 52 #[p] w fun e w' => e = .returned (.func (.func 64) #[] #[.pointer (some ⟨w.heap.size, 0, none⟩)]) ∧ w' = w.alloc (.cells #[p] 67) := by
  subst hp
  go_enter Tryd.func52, Tryd.ntmps52
  go_wp2
  go_ret
  exact ⟨rfl, rfl⟩

theorem along_stops (n : Nat) (hn : 1 ≤ n) (Bn n₀ : Nat) (S : List Nd) (hnd : (S.map Nd.g).Nodup) (w : World) (hBn : w.cell? ⟨Bn, 0, none⟩ = some (hdp nilp S)) (hL : Seg w nilp nilp S) (hlt : ∀ n ∈ S, n.g < n₀) (h0 : n₀ ≤ w.heap.size) :
    SeqStopsK Fence.wide n Tryd.prog 64 #[.pointer (some ⟨Bn, 0, none⟩)] encN (Below n₀) (fun ys : List (NdIn S) => ys.map Subtype.val = S) (fun pre : List (NdIn S) => pre.map Subtype.val <+: S) S.length w := fun l J Jx W hW hJ _ hY hJ0 =>
  along1_in n hn l Bn n₀ S hnd J Jx hY W ((hW.cell (p := ⟨Bn, 0, none⟩) (World.block_lt_of_cell? w _ hBn)).trans hBn) (hL.below hW (fun m hm => Nat.lt_of_lt_of_le (hlt m hm) h0)) hlt hJ0
end Go.Proofs.YtbdjlhkgpblebaaDoor
