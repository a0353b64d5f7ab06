/- Up: the iterator's contract. -/
import Derived.Test.YtbcmeaebjngapaaSA
import Derived.RangeFuncNested
import Derived.RangeFuncBound
import Derived.RangeFuncCalls
import Derived.RangeFuncLeaves
import Derived.RangeFuncBox
import Derived.Shelf.Abstract
import Derived.WalkKit
import Derived.OwnWalkIn
import Derived.TacticsInMore
import Derived.LoopNIn
import Derived.LoopIn
namespace Go.Proofs.Ytbcmeaebjngapaa
open Go.RowKit Go.Shelf
set_option linter.unusedVariables false
set_option maxRecDepth 100000
set_option maxHeartbeats 400000
attribute [local go_sem] Oper.semAt_some

abbrev encC (x : Sp) : Array Value := #[.agg #[.int .i64 x.1, .int .i64 x.2]]

/-- The row that a boxed slice owns. -/
def own1 (W : World) (B : Nat) : Option Nat := (W.cell? ⟨B, 0, none⟩).bind Value.ownBlock

/-- What a round that collects into box B leaves as it lay. -/
structure KpB (B : Nat) (W W' : World) : Prop where
  size : W.heap.size ≤ W'.heap.size
  same : ∀ k o, W.heap[k]? = some o → o.isCells = true → k ≠ B → own1 W B ≠ some k → W'.heap[k]? = some o
  own : ∀ j, own1 W' B = some j → j < W.heap.size → own1 W B = some j

theorem KpB.trans {B : Nat} {W1 W2 W3 : World} (h : KpB B W1 W2) (k : KpB B W2 W3) : KpB B W1 W3 :=
  ⟨Nat.le_trans h.size k.size, fun j o hj hc hB ho => by
    have hlt : j < W1.heap.size := (Array.getElem?_eq_some_iff.1 hj).1
    exact k.same j o (h.same j o hj hc hB ho) hc hB (fun e => ho (h.own j e hlt)),
   fun j e hlt => h.own j (k.own j e (Nat.lt_of_lt_of_le hlt h.size)) hlt⟩

theorem own1_same {B : Nat} {W W' : World} (h : W'.heap[B]? = W.heap[B]?) : own1 W' B = own1 W B := by
  unfold own1
  rw [World.cell?_of_block (w := W) (w' := W') (a := ⟨B, 0, none⟩) h]

theorem KpB.grown {B : Nat} {W W' : World} (hB : B < W.heap.size) (hg : W.grownBy W' none) : KpB B W W' :=
  ⟨hg.size, fun k o hk _ _ _ => by rw [hg.block k (Array.getElem?_eq_some_iff.1 hk).1 (by simp)]; exact hk,
   fun j e _ => by rw [← own1_same (hg.block B hB (by simp))]; exact e⟩

theorem KpB.put {B : Nat} {W : World} {l : Nat} {o o' : Obj} (hl : W.heap[l]? = some o) (hc : o.isCells = false) (hne : l ≠ B) : KpB B W (W.putObj l o') := by
  have hg := grownBy_putObj' W l o'
  refine ⟨hg.size, fun k p hk hp _ _ => ?_, fun j e _ => ?_⟩
  · have hkl : k ≠ l := by
      intro e
      rw [e, hl] at hk
      cases hk
      rw [hc] at hp
      cases hp
    rw [hg.block k (Array.getElem?_eq_some_iff.1 hk).1 (by simpa using hkl)]
    exact hk
  · rw [← own1_same (W := W) (B := B) (W' := W.putObj l o')]
    · exact e
    · by_cases hB : B < W.heap.size
      · exact hg.block B hB (by simpa using hne.symm)
      · unfold World.putObj
        have hB2 : W.heap.size ≤ B := Nat.le_of_not_lt hB
        simp [hB2]

set_option maxRecDepth 100000 in
set_option maxHeartbeats 2000000 in
theorem up1_in (n : Nat) (hn : 1 ≤ n) (l Bs B : Nat) (p : Value) (L : List Sp) (J Jx : List Sp → World → Prop)
    (hY : ∀ pre x W, J pre W → pre.length < L.length → YieldAt Fence.wide (n - 1) Try.prog l (encC x) W fun e W' =>
      (e = .returned (.bool true) ∧ J (pre ++ [x]) W' ∧ KpB B W W') ∨ (e = .returned (.bool false) ∧ Jx (pre ++ [x]) W'))
    (hJg : ∀ pre W W', J pre W → W.grownBy W' none → J pre W')
    (W : World) (hBs : W.cell? ⟨Bs, 0, none⟩ = some p)
    (hR : Calls Try.prog 7 #[p] W fun e w' => ∃ v', e = .returned v' ∧ Row w' v' L ∧ Fresh W v' ∧ W.grownBy w' none)
    (hB : B < W.heap.size) (ho : ∀ j, own1 W B = some j → j < W.heap.size) (hlen : L.length * 16 ≤ 140737488355328) (h0 : J [] W) :
    CallsIn Fence.wide n Try.prog 25 #[.func (.yield l) #[] #[], .pointer (some ⟨Bs, 0, none⟩)] W fun e W' => (∃ v, e = .returned v) ∧
      ((∃ ys, ys = L ∧ J ys W') ∨ (∃ pre, pre <+: L ∧ Jx pre W')) := by
  have hwide : ∀ f, Fence.wide.fn f := fun _ => trivial
  have HY := hide hY; have HJG := hide hJg; have HO := hide ho; have H0 := hide h0
  clear hY hJg ho h0
  refine callsIn_of_wp Try.func25 rfl trivial ?_ rfl
  simp only [Try.ntmps25, List.size_toArray, List.length_cons, List.length_nil, Nat.reduceAdd, Nat.reduceSub, Array.replicate_succ, Array.replicate_zero, List.push_toArray, List.append_toArray, List.nil_append, List.cons_append]
  gi_wp2_with fail
  refine (callsIn_wide.2 hR).mono ?_
  rintro e Wc ⟨v, rfl, hrow, hfr, hg⟩
  have HJc := hide (unhide HJG _ _ _ (unhide H0) hg)
  have hBc : B < Wc.heap.size := Nat.lt_of_lt_of_le hB hg.size
  have HOc := hide (show own1 Wc B = own1 W B from own1_same (hg.block B hB (by simp)))
  obtain ⟨a, c, rfl, hcells, hcm, hnc⟩ := hrow.shape
  have HROW := hide hrow; have HFR := hide hfr
  unfold maxLen at hcm
  clear hrow hfr hcells hR hg H0
  generalize hN : L.length = N at *
  have HN := hide hN
  clear hN
  gi_wp2_with fail
  gi_loopw [8] (fun i wr => ∃ k : Nat, k ≤ N ∧ i = .int .i64 k ∧ J (L.take k) wr ∧ KpB B Wc wr) (fun i _ => N - (intOf i).toNat)
  case atStart => exact ⟨0, Nat.zero_le _, rfl, unhide HJc, KpB.grown hBc (grown_self _ _)⟩
  case round =>
    obtain ⟨k, hk, rfl, hJ, hK⟩ := hrel
    by_cases hlt : k < N
    · have hkL : k < L.length := by rw [unhide HN]; exact hlt
      obtain ⟨g, rfl, hR⟩ : ∃ g, a = some ⟨g, 0, none⟩ ∧ ∃ sp, RowAt wr g c L sp := by
        rcases Row.at (unhide HROW) with ⟨e1, e2⟩ | ⟨g, c', sp, e1, e2⟩
        · rw [e2] at hkL; simp at hkL
        · simp only [Value.slice.injEq] at e1
          obtain ⟨rfl, -, rfl⟩ := e1
          refine ⟨g, rfl, sp, ?_, e2.2⟩
          have hgW : W.heap.size ≤ g := unhide HFR g rfl
          exact hK.same g _ e2.1 rfl (by omega) (fun e => by rw [unhide HOc] at e; have := unhide HO g e; omega)
      obtain ⟨sp, hR⟩ := hR
      have c0 := hR.cell (k * 2) _ (cl_lo L k hkL)
      have c1 := hR.cell (k * 2 + 1) _ (cl_hi L k hkL)
      have hst : L.take (k + 1) = L.take k ++ [L.getD k (0, 0)] := by rw [List.take_add_one]; simp [List.getD, hkL]
      have HST := hide hst
      generalize L.getD k (0, 0) = x at *
      have hJ2 := unhide HJG _ _ _ hJ (grown_alloc wr (.cells #[.int .i64 x.1, .int .i64 x.2] 31))
      have hK2 := hide (hK.trans (KpB.grown (Nat.lt_of_lt_of_le hBc hK.size) (grown_alloc wr (.cells #[.int .i64 x.1, .int .i64 x.2] 31))))
      obtain ⟨fn, tmps, assign, body, hy, hRR⟩ := (unhide HY) _ x _ hJ2 (by rw [List.length_take]; have := unhide HN; omega)
      have HRR := hide hRR
      have hkn : (k : Int) < (N : Int) := by omega
      have HL := hide hlt
      clear hRR hst hJ hJ2 hK hR hlt hkL hk
      gi_wp2_with fail
      refine (unhide HRR).mono ?_
      rintro e W3 (⟨rfl, hJ3, hk3⟩ | ⟨rfl, hJx3⟩)
      · have HB3 := hide ((unhide hK2).trans hk3)
        rw [← unhide HST] at hJ3
        have HJ3 := hide hJ3
        clear hk3 hJ3
        gi_wp2_with fail
        go_roundw
        case rel => exact ⟨k + 1, unhide HL, by go_num, unhide HJ3, unhide HB3⟩
        case measure => have := unhide HL; simp [intOf]; omega
      · rw [← unhide HST] at hJx3
        have HJ3 := hide hJx3
        clear hJx3
        gi_wp2_with fail
        refine bodyPost_ret (results_none rfl _ _ _) rfl ?_
        exact ⟨⟨_, rfl⟩, .inr ⟨_, List.take_prefix _ _, unhide HJ3⟩⟩
    · obtain rfl : k = N := by omega
      have e : L.take k = L := by rw [← unhide HN]; simp
      rw [e] at hJ
      have HJ3 := hide hJ
      clear hJ
      have hno : ¬ (k : Int) < (k : Int) := by omega
      gi_wp2
      go_end0
      exact ⟨⟨_, rfl⟩, .inl (unhide HJ3)⟩

theorem upC_any (q : Option Addr) (w : World) :
    Calls Try.prog 14 #[.pointer q] w fun e w' => e = .returned (.func (.func 25) #[] #[.pointer (some ⟨w.heap.size, 0, none⟩)]) ∧ w' = w.alloc (.cells #[.pointer q] 24) := by
  go_enter Try.func14, Try.ntmps14
  go_wp2
  go_ret
  exact ⟨rfl, rfl⟩

/-- What Up hands back gives the runs: all; or the first of them, where a round has said no more. -/
theorem up_stops (n : Nat) (hn : 1 ≤ n) (Bs B : Nat) (p : Value) (L : List Sp) (w : World) (hBs : w.cell? ⟨Bs, 0, none⟩ = some p)
    (hR : ∀ W, Below w.heap.size w W → Calls Try.prog 7 #[p] W fun e w' => ∃ v', e = .returned v' ∧ Row w' v' L ∧ Fresh W v' ∧ W.grownBy w' none)
    (hB : B < w.heap.size) (ho : ∀ j, own1 w B = some j → j < w.heap.size) (hlen : L.length * 16 ≤ 140737488355328) :
    SeqStopsK Fence.wide n Try.prog 25 #[.pointer (some ⟨Bs, 0, none⟩)] encC (KpB B) (fun ys => ys = L) (fun pre => pre <+: L) L.length w := fun l J Jx W hW hJ _ hY h0 =>
  up1_in n hn l Bs B p L J Jx hY (fun pre W1 W2 h hg => hJ pre W1 W2 none h hg (fun r e => by cases e)) W ((hW.cell (p := ⟨Bs, 0, none⟩) (World.block_lt_of_cell? w _ hBs)).trans hBs) (hR W hW)
    (Nat.lt_of_lt_of_le hB hW.size) (fun j e => Nat.lt_of_lt_of_le (ho j (by rw [← own1_same (hW.block B hB)]; exact e)) hW.size) hlen h0

theorem runs_nil (w : World) :
    Calls Try.prog 7 #[.pointer none] w fun e w' => ∃ v', e = .returned v' ∧ Row w' v' [] ∧ Fresh w v' ∧ w.grownBy w' none := by
  have hl : Calls Try.prog 20 #[.pointer none] w fun e w' => e = .returned (.slice none 0 0) ∧ w' = w := by
    go_enter Try.func20, Try.ntmps20
    go_wp2
    go_ret
    exact ⟨rfl, rfl⟩
  have hc := clone_nil w 0 0
  go_enter Try.func7, Try.ntmps7
  go_wp2_with (first | (go_at_call 20; refine hl.mono ?_; rintro e w' ⟨rfl, hw'⟩; subst w') | (go_at_call 19; refine hc.mono ?_; rintro e w' ⟨rfl, hw'⟩; subst w'))
  all_goals go_ret
  all_goals exact ⟨_, rfl, row_nil _, fresh_nil _, grown_self _ _⟩
end Go.Proofs.Ytbcmeaebjngapaa
