/- L4K, L4L, L4M, L4N, L4O, one text. -/
import Derived.Test.YtnflbefbgcbdfaaGreatL8S
import Derived.RangeFuncNested
import Derived.RangeFuncBound
import Derived.RangeFuncCalls
import Derived.RangeFuncLeaves
import Derived.RangeFuncBox
import Derived.Shelf.Abstract
import Derived.WalkKit
import Derived.OwnWalkIn
import Derived.TacticsInMore
import Derived.LoopNIn
import Derived.LoopIn
import Derived.Maps.AppendAt
import Derived.Shelf.Lay
import Derived.Shelf.SortM.Plain
import Derived.Shelf.SortM.SortNone
import Derived.Ground.SlgmProg
namespace Go.Proofs.YtnflbefbgcbdfaaGreat
open Go.RowKit Go.Shelf
set_option linter.unusedVariables false
set_option maxHeartbeats 1000000
set_option maxRecDepth 100000
attribute [local go_sem] Oper.semAt_some

abbrev encI (x : Int) : Array Value := #[.int .i64 x]
theorem RdV.below {W W' : World} {n₀ : Nat} {a : Option Addr} {xs : List Value} (h : RdV W a xs) (hb : Below n₀ W W') (hlt : xs ≠ [] → ∀ b off, a = some ⟨b, off, none⟩ → b < n₀) : RdV W' a xs := h.kept fun hx b off e => hb.block b (hlt hx b off e)

theorem vals1_in (n : Nat) (hn : 1 ≤ n) (l Bn n₀ : Nat) (xs : List Int) (a : Option Addr) (c : Nat) (J Jx : List Int → World → Prop)
    (hY : ∀ pre x W, J pre W → pre.length < xs.length → YieldAt Fence.wide (n - 1) Tryz.prog l (encI x) W fun e W' =>
      (e = .returned (.bool true) ∧ J (pre ++ [x]) W' ∧ Below n₀ W W') ∨ (e = .returned (.bool false) ∧ Jx (pre ++ [x]) W'))
    (W : World) (hBn : W.cell? ⟨Bn, 0, none⟩ = some (.slice a xs.length c)) (hL : RdV W a (xs.map (Value.int .i64))) (hlt : xs.map (Value.int .i64) ≠ [] → ∀ b off, a = some ⟨b, off, none⟩ → b < n₀) (hlen : xs.length ≤ 100000000) (h0 : J [] W) :
    CallsIn Fence.wide n Tryz.prog 81 #[.func (.yield l) #[] #[], .pointer (some ⟨Bn, 0, none⟩)] W fun e W' => (∃ v, e = .returned v) ∧
      ((∃ ys : List Int, ys = xs ∧ J ys W') ∨ (∃ pre : List Int, pre <+: xs ∧ Jx pre W')) := by
  obtain ⟨N, hN⟩ : ∃ N, N = xs.length := ⟨_, rfl⟩
  rw [← hN] at hBn
  have HN := hide hN
  have HY := hide hY; have HL := hide hL; have HT := hide hlt; have H0 := hide h0
  have lenI : ¬ (9223372036854775807 : Int) < (N : Int) := by omega
  clear hY hL hlt h0 hN hlen
  refine callsIn_of_wp Tryz.func81 rfl trivial ?_ rfl
  simp only [Tryz.ntmps81, List.size_toArray, List.length_cons, List.length_nil, Nat.reduceAdd, Nat.reduceSub, Array.replicate_succ, Array.replicate_zero, List.push_toArray, List.append_toArray, List.nil_append, List.cons_append]
  gi_wp2_with fail
  gi_loopw [7] (fun iv wr => ∃ k : Nat, k ≤ N ∧ iv = .int .i64 k ∧ Hid (RdV wr a (xs.map (Value.int .i64)) ∧ J (xs.take k) wr)) (fun iv _ => N - (intOf iv).toNat)
  case atStart => exact ⟨0, Nat.zero_le _, rfl, unhide HL, unhide H0⟩
  case round =>
    obtain ⟨k, hk, rfl, H⟩ := hrel
    by_cases hlt : k < N
    · have hkI : (k : Int) < (N : Int) := by omega
      have hk0 : (0 : Int) ≤ (k : Int) := by omega
      obtain ⟨e2, e3⟩ := unhide H
      have hkl : k < xs.length := by rw [← unhide HN]; exact hlt
      obtain ⟨x, hx⟩ : ∃ x, xs[k]? = some x := ⟨_, List.getElem?_eq_getElem hkl⟩
      have hne : xs.map (Value.int .i64) ≠ [] := fun e => by have := congrArg List.length e; simp at this; rw [this] at hkl; simp at hkl
      obtain ⟨b, off, rfl, hcl⟩ := e2.resolve_left hne
      have c1 : wr.cell? ⟨b, off + k, none⟩ = some (.int .i64 x) := hcl k _ (by rw [List.getElem?_map, hx]; rfl)
      obtain ⟨fn, tmps, assign, body, hy, hRR⟩ := (unhide HY) (xs.take k) x wr e3 (by rw [List.length_take]; omega)
      have HRR := hide hRR
      have E := hide (And.intro e2 hx)
      clear hRR e2 e3 H hcl hne hx
      gi_wp2_with fail
      refine (unhide HRR).mono ?_
      rintro e W3 (⟨rfl, hJ3, hk3⟩ | ⟨rfl, hJx3⟩)
      · have HK := hide (And.intro hJ3 hk3)
        clear hJ3 hk3
        gi_wp2_with fail
        go_roundw
        case rel =>
          refine ⟨k + 1, hlt, by go_num, (unhide E).1.below (unhide HK).2 (unhide HT), ?_⟩
          rw [take_at (unhide E).2]
          exact (unhide HK).1
        case measure => simp [intOf]; omega
      · have HJ3 := hide hJx3
        clear hJx3
        gi_wp2_with fail
        refine bodyPost_ret (results_none rfl _ _ _) rfl ?_
        refine ⟨⟨_, rfl⟩, .inr ⟨xs.take k ++ [x], ?_, unhide HJ3⟩⟩
        rw [← take_at (unhide E).2]
        exact List.take_prefix _ _
    · obtain rfl : k = N := by omega
      have hkI : ¬ (k : Int) < (k : Int) := by omega
      obtain ⟨e2, e3⟩ := unhide H
      have E := hide e3
      clear e2 e3 H
      gi_wp2_with fail
      go_end0
      have hj := unhide E
      rw [unhide HN, List.take_length] at hj
      exact ⟨⟨_, rfl⟩, .inl (by first | exact hj | exact ⟨xs, rfl, hj⟩)⟩

theorem vals_stops (n : Nat) (hn : 1 ≤ n) (Bn n₀ : Nat) (xs : List Int) (a : Option Addr) (c : Nat) (w : World) (hBn : w.cell? ⟨Bn, 0, none⟩ = some (.slice a xs.length c)) (hL : RdV w a (xs.map (Value.int .i64))) (hlt : xs.map (Value.int .i64) ≠ [] → ∀ b off, a = some ⟨b, off, none⟩ → b < n₀) (hb : Bn < n₀) (hlen : xs.length ≤ 100000000) :
    SeqStopsK Fence.wide n Tryz.prog 81 #[.pointer (some ⟨Bn, 0, none⟩)] encI (Below n₀) (fun ys : List Int => ys = xs) (fun pre : List Int => pre <+: xs) xs.length w := fun l J Jx W hW hJ _ hY hJ0 =>
  vals1_in n hn l Bn n₀ xs a c J Jx hY W ((hW.cell (p := ⟨Bn, 0, none⟩) (World.block_lt_of_cell? w _ hBn)).trans hBn) (hL.kept fun hx b off e => hW.block b (hL.lt hx b off e)) hlt hlen hJ0
theorem Tryz.infoI64 : (Tryz.prog.info? 2).map (fun i => (i.zero, i.size, i.bytes)) = some (some (.int .i64 0), 1, 8) := by kernel_rfl
abbrev ints (L : List Int) : List Value := L.map (Value.int .i64)

theorem appendSeq_any (Bn : Nat) (xs : List Int) (a : Option Addr) (c : Nat) (hlen : xs.length ≤ 1100000) (w : World) (hBn : w.cell? ⟨Bn, 0, none⟩ = some (.slice a xs.length c)) (hL : RdV w a (ints xs)) :
    Calls Tryz.prog 105 #[.slice none 0 0, .func (.func 81) #[] #[.pointer (some ⟨Bn, 0, none⟩)]] w fun e W' =>
      ∃ v, e = .returned v ∧ W'.ownsRow w.heap.size 2 1 v xs.length (ints xs) ∧ Below w.heap.size w W' := by
  refine (callsIn_wide (n := 4)).1 ?_
  obtain ⟨i0, hi, hz0, hz1, hz2⟩ := info_parts Tryz.infoI64
  refine callsIn_of_wp_marks Tryz.func105 rfl trivial ?_ rfl
  simp only [Tryz.ntmps105, List.size_toArray, List.length_cons, List.length_nil, Nat.reduceAdd, Nat.reduceSub, Array.replicate_succ, Array.replicate_zero, List.push_toArray, List.append_toArray, List.nil_append, List.cons_append]
  gi_wp2_with fail
  have bO := Boxed.new w 48 (.slice none 0 0)
  have hB0 : Below w.heap.size w (w.alloc (.cells #[.slice none 0 0] 48)) := (Below.refl _ w).alloc (Nat.le_refl _) _
  have hBn' : (w.alloc (.cells #[.slice none 0 0] 48)).cell? ⟨Bn, 0, none⟩ = some (.slice a xs.length c) := (hB0.cell (p := ⟨Bn, 0, none⟩) (World.block_lt_of_cell? w _ hBn)).trans hBn
  refine wpIn_rangeFunc_ownG (F := Fence.wide) rfl (by decide) (gf := 81) (lb := #[.pointer (some ⟨Bn, 0, none⟩)]) rfl trivial (enters_of Tryz.func81 (by kernel_rfl) rfl)
    (vals_stops 3 (by decide) Bn w.heap.size xs a c _ hBn' (hL.kept fun hx b off e => hB0.block b (hL.lt hx b off e)) (fun hx b off e => hL.lt hx b off e) (World.block_lt_of_cell? w _ hBn) (by omega)) belowK_t (belowK_b (by simp)) (Below.refl _ _) (fun _ => rfl)
    (fun (pre : List Int) W => (∃ v, Boxed W w.heap.size 48 v ∧ W.ownsRow w.heap.size 2 1 v pre.length (pre.map (Value.int .i64)) ∧ True) ∧ Below w.heap.size w W)
    (fun _ _ _ => False)
    (OwnFrom.and (Own.from (holdsRow_own w.heap.size w.heap.size 48 2 1 (fun (pre : List Int) => pre.length) (fun (pre : List Int) => pre.map (Value.int .i64)) (fun pre v => True)) _) (ownFrom_below (Nat.le_refl _) (by simp)))
    (fun _ _ _ _ _ hs _ _ => hs)
    ⟨⟨_, bO, World.ownsRow_nil _ _ _ _, trivial⟩, hB0⟩
    (fun (x : Int) => { tmps := #[.slice none 0 0, .func (.func 81) #[] #[.pointer (some ⟨Bn, 0, none⟩)], .pointer (some ⟨w.heap.size, 0, none⟩), undef, .slice none 0 0, .int .i64 x, .func (.func 81) #[] #[.pointer (some ⟨Bn, 0, none⟩)], .int .i64 x, undef, undef, undef, undef, undef], defers := [] }) ?assign ?body ?done ?stop
  case assign =>
    intro l x W K hK
    gi_wp2
    exact hK
  case body =>
    rintro l pre x W ⟨⟨v, hv, hrow, -⟩, hB⟩ hlt'
    have hc := hv.cell
    gi_wp2_with (gi_at_builtin; refine wpListIn_append_own _ rfl _ _ 48 rfl w.heap.size 2 i0 (.int .i64 0) 1 8 Tryz.underlying48 hi hz0 hz1 hz2 rfl (by decide) _ _ _ rfl (hrow.alloc _) ⟨W.heap.size, 0, none⟩ 1 1 [.int .i64 x] rfl rfl (cell_one_new _ _ _) (by simp [Value.oneCell']) (by unfold maxLen; omega) (by omega) (by have := hB.size; simp; omega) ?_; intro v' w1 hown' hgrow _; obtain ⟨g', cap', rfl⟩ := ownsRow_succ hown'; obtain ⟨hv1, hv2, hr2, hk2, hb2⟩ := hv.appended (by decide) hrow hB.size (Nat.le_refl _) hown' hgrow; have hc1 := hv1.cell; have hf1 := hv1.frozen)
    exact ⟨hk2.from _, hb2, ⟨_, hv2, by simpa using hr2, trivial⟩, hB.trans hb2⟩
  case done =>
    rintro D ys W hD hys ⟨⟨v, hv, hrow, -⟩, hB⟩ hK
    have hc := hv.cell
    gi_wp2
    refine ⟨by simp, .inl ⟨_, _, rfl, run_takeDeferred hK, ?_⟩⟩
    refine ⟨_, results_tmp rfl _ _ _, v, rfl, ?_, hB.trans (belowK_b (w := w) (Nat.le_refl _) W D _ _ (by simp at hD; omega) hK rfl rfl)⟩
    have := ownsRow_putObj hrow (.deferred none) hK rfl
    rw [hys] at this
    exact this
  case stop =>
    rintro D c pre W _ _ h _
    exact h.elim

theorem collect_any (Bn : Nat) (xs : List Int) (a : Option Addr) (c : Nat) (hlen : xs.length ≤ 1100000) (w : World) (hBn : w.cell? ⟨Bn, 0, none⟩ = some (.slice a xs.length c)) (hL : RdV w a (ints xs)) :
    Calls Tryz.prog 79 #[.func (.func 81) #[] #[.pointer (some ⟨Bn, 0, none⟩)]] w fun e W' =>
      ∃ a c, e = .returned (.slice a xs.length c) ∧ W'.ownsRow w.heap.size 2 1 (.slice a xs.length c) xs.length (ints xs) ∧ w.grownBy W' none := by
  have hc := appendSeq_any Bn xs a c hlen w hBn hL
  clear hBn hL
  go_enter Tryz.func79, Tryz.ntmps79
  go_wp2_with fail
  refine hc.mono ?_
  rintro e W1 ⟨v, rfl, ho, hb⟩
  obtain ⟨a, c, rfl⟩ : ∃ a c, v = .slice a xs.length c := by
    rcases ho.2 with ⟨e1, e2⟩ | ⟨g, cap, cur, e1, -⟩
    · exact ⟨none, 0, by rw [e1, e2]⟩
    · exact ⟨_, _, e1⟩
  have HO := hide ho; have HB := hide (below_grown hb)
  clear ho hb hc
  go_wp2_with fail
  go_ret
  exact ⟨a, c, rfl, unhide HO, unhide HB⟩
theorem values_any (a : Option Addr) (n c : Nat) (w : World) :
    Calls Tryz.prog 46 #[.slice a n c] w fun e w' => e = .returned (.func (.func 81) #[] #[.pointer (some ⟨w.heap.size, 0, none⟩)]) ∧ w' = w.alloc (.cells #[.slice a n c] 48) := by
  go_enter Tryz.func46, Tryz.ntmps46
  go_wp2
  go_ret
  exact ⟨rfl, rfl⟩
end Go.Proofs.YtnflbefbgcbdfaaGreat

namespace Go.Proofs.YtnflbefbgcbdfaaGreat
open Go.RowKit
set_option linter.unusedVariables false
set_option maxHeartbeats 1000000
set_option maxRecDepth 100000

theorem nanC (x : Int) (w : World) : Calls Tryz.prog 102 #[.int .i64 x] w fun e w' => e = .returned (.bool false) ∧ w' = w := by
  go_enter Tryz.func102, Tryz.ntmps102
  go_wp2
  go_ret
  exact ⟨rfl, rfl⟩
theorem nanS (x : Int) (w : World) : Calls Tryz.prog 83 #[.int .i64 x] w fun e w' => e = .returned (.bool false) ∧ w' = w := by
  go_enter Tryz.func83, Tryz.ntmps83
  go_wp2
  go_ret
  exact ⟨rfl, rfl⟩
theorem less_any (x y : Int) (w : World) : Calls Tryz.prog 82 #[.int .i64 x, .int .i64 y] w fun e w' => e = .returned (.bool (decide (x < y))) ∧ w' = w := by
  go_enter Tryz.func82, Tryz.ntmps82
  go_wp2_with (go_at_call 102; refine (nanC _ _).mono ?_; rintro e w' ⟨rfl, hw'⟩; subst w')
  all_goals go_ret
  all_goals exact ⟨by simp, rfl⟩

theorem bs_any (b off c : Nat) (xs : List Int) (t : Int) (w : World) (hs : xs.Pairwise (· ≤ ·)) (hlen : xs.length ≤ 1100000) (hc : ∀ (j : Nat) (x : Int), xs[j]? = some x → w.cell? ⟨b, off + j, none⟩ = some (.int .i64 x)) :
    Calls Tryz.prog 48 #[.slice (some ⟨b, off, none⟩) xs.length c, .int .i64 t] w fun e w' => (∃ i, e = .returned (.tuple #[.int .i64 i, .bool (decide (t ∈ xs))])) ∧ w' = w := by
  have key : ∀ (j k : Nat) (x y : Int), j ≤ k → xs[j]? = some x → xs[k]? = some y → x ≤ y := by
    intro j k x y hjk hx hy
    rcases Nat.lt_or_ge j k with h | h
    · obtain ⟨h1, rfl⟩ := List.getElem?_eq_some_iff.1 hx
      obtain ⟨h2, rfl⟩ := List.getElem?_eq_some_iff.1 hy
      exact List.pairwise_iff_getElem.1 hs j k h1 h2 h
    · obtain rfl : j = k := by omega
      rw [hx] at hy; cases hy; exact Int.le_refl _
  obtain ⟨N, hN⟩ : ∃ N, N = xs.length := ⟨_, rfl⟩
  obtain ⟨r, hr⟩ : ∃ r, r = decide (t ∈ xs) := ⟨_, rfl⟩
  rw [← hr]
  have HR := hide hr
  clear hr
  have KEY := hide key
  have HC := hide hc
  have lenI : ¬ (9223372036854775807 : Int) < (N : Int) := by omega
  have hN6 : N ≤ 1100000 := by omega
  have HN := hide hN
  rw [← hN]
  clear key hc hs hlen hN
  go_enter Tryz.func48, Tryz.ntmps48
  go_wp2
  go_loopw [7, 8] (fun s7 s8 wr => ∃ (lo hi : Nat), s7 = .int .i64 lo ∧ s8 = .int .i64 hi ∧ lo ≤ hi ∧ hi ≤ N ∧ wr = w ∧ Hid ((∀ (k : Nat) (x : Int), k < lo → xs[k]? = some x → x < t) ∧ (∀ (k : Nat) (x : Int), hi ≤ k → xs[k]? = some x → t ≤ x))) (fun a b _ => (intOf b - intOf a).toNat)
  case atStart =>
    refine ⟨0, N, rfl, rfl, Nat.zero_le _, Nat.le_refl _, rfl, fun k x h => by omega, fun k x h hx => ?_⟩
    have := (List.getElem?_eq_some_iff.1 hx).1
    have := unhide HN
    omega
  case round =>
    obtain ⟨lo, hi, rfl, rfl, h1, h2, rfl, I⟩ := hrel
    by_cases hlt : lo < hi
    · obtain ⟨m, hm⟩ : ∃ m, m = (lo + hi) / 2 := ⟨_, rfl⟩
      have hmI : (m : Int) = ((lo : Int) + (hi : Int)) / 2 := by omega
      have hml : m < xs.length := by rw [← unhide HN]; omega
      obtain ⟨x, hx⟩ : ∃ x, xs[m]? = some x := ⟨_, List.getElem?_eq_getElem hml⟩
      have cx := unhide HC m x hx
      have hlz : (lo : Int) < (hi : Int) := by omega
      have hsm : (lo : Int) + (hi : Int) ≤ 2200000 := by omega
      have hl0 : (0 : Int) ≤ (lo : Int) := by omega
      have hmN : (m : Int) < (N : Int) := by omega
      have hm0 : (0 : Int) ≤ (m : Int) := by omega
      have H := hide (And.intro h1 (And.intro h2 (And.intro hlt (And.intro hm (And.intro hx hml)))))
      have HMI := hide hmI
      clear h1 h2 hlt hm hx hml
      go_upto_region 5 with fail
      rw [← hmI]
      clear hmI hsm
      by_cases hp : x < t
      · have hd : decide (x < t) = true := decide_eq_true hp
        have hL := less_any x t wr
        rw [hd] at hL
        have HP := hide hp
        clear hp hd
        go_wp2_with (go_at_call 82; refine hL.mono ?_; rintro e w' ⟨rfl, hw'⟩; subst w')
        go_roundw
        case rel =>
          obtain ⟨h1, h2, h3, h4, h5, h6⟩ := unhide H
          refine ⟨m + 1, hi, by go_num, rfl, by omega, h2, (by first | trivial | rfl), fun k y hk hy => ?_, (unhide I).2⟩
          have := unhide KEY k m y x (by omega) hy h5
          have := unhide HP
          omega
        case measure => obtain ⟨h1, h2, h3, h4, h5, h6⟩ := unhide H; simp [intOf]; omega
      · have hd : decide (x < t) = false := decide_eq_false hp
        have hL := less_any x t wr
        rw [hd] at hL
        have HP := hide hp
        clear hp hd
        go_wp2_with (go_at_call 82; refine hL.mono ?_; rintro e w' ⟨rfl, hw'⟩; subst w')
        go_roundw
        case rel =>
          obtain ⟨h1, h2, h3, h4, h5, h6⟩ := unhide H
          refine ⟨lo, m, rfl, rfl, by omega, by omega, (by first | trivial | rfl), (unhide I).1, fun k y hk hy => ?_⟩
          have := unhide KEY m k x y hk h5 hy
          have := unhide HP
          omega
        case measure => obtain ⟨h1, h2, h3, h4, h5, h6⟩ := unhide H; simp [intOf]; omega
    · obtain rfl : lo = hi := by omega
      have hno : ¬ (lo : Int) < (lo : Int) := by omega
      have FIN : Hid (decide (t ∈ xs) = true ↔ ∃ x, xs[lo]? = some x ∧ x = t) := by
        obtain ⟨i1, i2⟩ := unhide I
        show _ ↔ _
        rw [decide_eq_true_iff]
        constructor
        · intro hm
          obtain ⟨k, hk⟩ := List.getElem?_of_mem hm
          have hlk : lo ≤ k := by
            rcases Nat.lt_or_ge k lo with q | q
            · have := i1 k t q hk; omega
            · exact q
          have hkl := (List.getElem?_eq_some_iff.1 hk).1
          obtain ⟨x, hx⟩ : ∃ x, xs[lo]? = some x := ⟨_, List.getElem?_eq_getElem (by omega)⟩
          have q1 := unhide KEY lo k x t hlk hx hk
          have q2 := i2 lo x (Nat.le_refl _) hx
          exact ⟨x, hx, by omega⟩
        · rintro ⟨x, hx, rfl⟩
          exact List.mem_of_getElem? hx
      by_cases hlN : lo < N
      · have hloI : (lo : Int) < (N : Int) := by omega
        have hlo0 : (0 : Int) ≤ (lo : Int) := by omega
        obtain ⟨x, hx⟩ : ∃ x, xs[lo]? = some x := ⟨_, List.getElem?_eq_getElem (by rw [← unhide HN]; exact hlN)⟩
        have cx := unhide HC lo x hx
        have hnx := nanS x wr
        have F2 : Hid (decide (t ∈ xs) = decide (x = t)) := by
          have := unhide FIN
          rw [hx] at this
          show _ = _
          rw [Bool.eq_iff_iff, this, decide_eq_true_iff]
          simp
        have F4 : r = decide (x = t) := (unhide HR).trans (unhide F2)
        clear hx FIN I h1 h2 F2
        by_cases hq : x = t
        · rw [decide_eq_true hq] at F4
          subst F4
          go_wp2_with (go_at_call 83; refine hnx.mono ?_; rintro e w' ⟨rfl, hw'⟩; subst w')
          all_goals go_ret2
          all_goals exact ⟨⟨_, by first | rfl | (simp [hq]; done)⟩, rfl⟩
        · rw [decide_eq_false hq] at F4
          subst F4
          have hq2 : (x == t) = false := by simp [hq]
          go_wp2_with (go_at_call 83; refine hnx.mono ?_; rintro e w' ⟨rfl, hw'⟩; subst w')
          all_goals go_ret2
          all_goals exact ⟨⟨_, by first | rfl | (simp [hq]; done)⟩, rfl⟩
      · have hloI : ¬ (lo : Int) < (N : Int) := by omega
        have F2 : decide (t ∈ xs) = false := by
          have := unhide FIN
          rw [List.getElem?_eq_none (by rw [← unhide HN]; omega)] at this
          simp at this
          simpa using this
        have F4 : r = false := (unhide HR).trans F2
        subst F4
        clear FIN I F2
        go_wp2
        all_goals go_ret2
        all_goals exact ⟨⟨_, rfl⟩, rfl⟩
end Go.Proofs.YtnflbefbgcbdfaaGreat

namespace Go.Proofs.YtnflbefbgcbdfaaGreat
open Go.RowKit Go.Shelf Go.Lib Go.Sort
set_option linter.unusedVariables false
set_option maxHeartbeats 1000000
set_option maxRecDepth 100000

shelf_lay_g SlLaysM.n5 Slgm 5 at Tryz 80 as Tryz.sortI

theorem sortI_any (xs : List Int) (hlen : xs.length ≤ 1100000) (a : Option Addr) (c n₀ : Nat) (w : World) (ho : w.ownsRow n₀ 2 1 (.slice a xs.length c) xs.length (ints xs)) :
    Calls Tryz.prog 80 #[.slice a xs.length c] w fun e w' =>
      e = .returned (.tuple #[]) ∧ ∃ ys : List Int, ys.Perm xs ∧ ys.Pairwise (· ≤ ·) ∧ w'.ownsRow n₀ 2 1 (.slice a xs.length c) xs.length (ints ys) ∧ Kp (fun g => n₀ ≤ g) w w' := by
  rcases ho.2 with ⟨e1, e2⟩ | ⟨g, cap, cur, e1, q1, q2, q3, q4, q5, q6⟩
  · have hx : xs = [] := List.length_eq_zero_iff.1 e2
    subst hx
    refine (show Calls Tryz.prog 80 _ _ _ from AnyM.slices_Sort_int_none Tryz.sortI a c w).mono ?_
    rintro e w' ⟨rfl, rfl⟩
    exact ⟨rfl, [], List.Perm.refl _, List.Pairwise.nil, ho, Kp.refl _ _⟩
  · simp only [Value.slice.injEq, true_and] at e1
    obtain ⟨rfl, rfl⟩ := e1
    have hg : g < w.heap.size := (Array.getElem?_eq_some_iff.1 q2).1
    simp only [Nat.mul_one] at q5 q6
    have hH : Holds (Value.int .i64) w g 0 xs.toArray := by
      intro j hj
      have hj' : j < xs.length := by simpa using hj
      rw [Nat.zero_add]
      refine ⟨?_, by simp [World.frozen?, q2]⟩
      simp only [World.cell?, q2]
      have h1 : (cur.toList.take xs.length)[j]? = (xs.map (Value.int .i64))[j]? := by rw [q6]
      rw [List.getElem?_take, if_pos hj', Array.getElem?_toList] at h1
      rw [h1, getElem!_pos xs.toArray j hj]
      simp [hj']
    refine (show Calls Tryz.prog 80 _ _ _ from AnyM.slices_Sort_int Tryz.sortI g 0 c xs w hH hg (by omega)).mono ?_
    rintro e w' ⟨rfl, n, os, rfl⟩
    obtain ⟨ys, hys⟩ : ∃ ys, ys = xs.mergeSort fun x y => decide (x ≤ y) := ⟨_, rfl⟩
    have hp : ys.Perm xs := by rw [hys]; exact List.mergeSort_perm _ _
    have hs : ys.Pairwise (· ≤ ·) := by
      have := List.pairwise_mergeSort (le := fun x y : Int => decide (x ≤ y)) (by intro a b c; simp; omega) (by intro a b; simp; omega) xs
      rw [← hys] at this
      exact this.imp (by simp)
    rw [← hys]
    have hl : ys.toArray.size = xs.length := by simp [hp.length_eq]
    generalize hd : ys.toArray = d'
    rw [hd] at hl
    have hdl : ys = d'.toList := by rw [← hd]
    have hput : (putRow (Value.int .i64) (Sort.ahead w n) g 0 d').heap = w.heap.modify g (onCells (putCells (Value.int .i64) 0 d')) := rfl
    have hsz : (putRow (Value.int .i64) (Sort.ahead w n) g 0 d').heap.size = w.heap.size := by rw [hput]; simp
    refine ⟨rfl, ys, hp, hs, ⟨by simp [hp.length_eq], .inr ⟨g, c, putCells (Value.int .i64) 0 d' cur, rfl, q1, ?_, q3, q4, by simp [putCells, q5], ?_⟩⟩, ⟨rfl, rfl, rfl, ?_, ?_⟩⟩
    · rw [heap_grow_old _ _ (by rw [hsz]; exact hg), hput, Array.getElem?_modify, if_pos rfl, q2]
      rfl
    · apply List.ext_getElem?
      intro k
      simp only [Nat.mul_one]
      rw [List.getElem?_take]
      by_cases hk : k < xs.length
      · rw [if_pos hk, Array.getElem?_toList]
        simp only [putCells, Array.getElem?_mapIdx]
        rw [getElem?_pos cur k (by omega)]
        simp only [Option.map_some]
        rw [if_pos ⟨by omega, by omega⟩, Nat.sub_zero, getElem!_pos d' k (by omega), hdl]
        simp [ints, hl, hk]
      · rw [if_neg hk, List.getElem?_eq_none (by simp [hp.length_eq]; omega)]
    · unfold grow
      simp only [Array.size_append, hsz]
      omega
    · intro k hk hnk
      rw [heap_grow_old _ _ (by rw [hsz]; exact hk), hput, Array.getElem?_modify, if_neg (fun e : g = k => hnk (by omega))]

theorem sorted_any (Bn : Nat) (xs : List Int) (a : Option Addr) (c : Nat) (hlen : xs.length ≤ 1100000) (w : World) (hBn : w.cell? ⟨Bn, 0, none⟩ = some (.slice a xs.length c)) (hL : RdV w a (ints xs)) :
    Calls Tryz.prog 45 #[.func (.func 81) #[] #[.pointer (some ⟨Bn, 0, none⟩)]] w fun e W' =>
      ∃ a c, ∃ ys : List Int, e = .returned (.slice a xs.length c) ∧ ys.Perm xs ∧ ys.Pairwise (· ≤ ·) ∧ W'.ownsRow w.heap.size 2 1 (.slice a xs.length c) xs.length (ints ys) ∧ w.grownBy W' none := by
  have hc := collect_any Bn xs a c hlen w hBn hL
  clear hBn hL
  go_enter Tryz.func45, Tryz.ntmps45
  go_wp2_with fail
  refine hc.mono ?_
  rintro e W1 ⟨a, c, rfl, ho, hb⟩
  have hs := sortI_any xs hlen a c w.heap.size W1 ho
  have HB := hide hb
  clear ho hb hc
  go_wp2_with fail
  refine hs.mono ?_
  rintro e W2 ⟨rfl, P, p1, p2, p3, p4⟩
  have E := hide (And.intro p1 (And.intro p2 (And.intro p3 p4)))
  clear p1 p2 p3 p4 hs
  go_wp2_with fail
  go_ret
  obtain ⟨p1, p2, p3, p4⟩ := unhide E
  have hb := unhide HB
  refine ⟨a, c, P, rfl, p1, p2, p3, ⟨p4.os.trans hb.os, p4.tape.trans hb.tape, p4.output.trans hb.output, Nat.le_trans hb.size p4.size, fun i hi _ => ?_⟩⟩
  exact (p4.block i (Nat.lt_of_lt_of_le hi hb.size) (by omega)).trans (hb.block i hi (by simp))
end Go.Proofs.YtnflbefbgcbdfaaGreat

namespace Go.Proofs.YtnflbefbgcbdfaaGreat
open Go.RowKit
set_option linter.unusedVariables false
set_option maxHeartbeats 1000000
set_option maxRecDepth 100000

theorem bs_zero (a : Option Addr) (c : Nat) (t : Int) (w : World) :
    Calls Tryz.prog 48 #[.slice a 0 c, .int .i64 t] w fun e w' => e = .returned (.tuple #[.int .i64 0, .bool false]) ∧ w' = w := by
  go_enter Tryz.func48, Tryz.ntmps48
  go_wp2
  go_loopw [7, 8] (fun s7 s8 wr => s7 = .int .i64 0 ∧ s8 = .int .i64 0 ∧ wr = w) (fun _ _ _ => 0)
  case atStart => exact ⟨rfl, rfl, rfl⟩
  case round =>
    obtain ⟨rfl, rfl, rfl⟩ := hrel
    go_wp2
    all_goals go_ret2
    all_goals exact ⟨rfl, rfl⟩
theorem bs_rd (a : Option Addr) (c : Nat) (xs : List Int) (t : Int) (w : World) (hs : xs.Pairwise (· ≤ ·)) (hlen : xs.length ≤ 1100000) (hc : RdV w a (ints xs)) :
    Calls Tryz.prog 48 #[.slice a xs.length c, .int .i64 t] w fun e w' => (∃ i, e = .returned (.tuple #[.int .i64 i, .bool (decide (t ∈ xs))])) ∧ w' = w := by
  rcases hc with h0 | ⟨b, off, rfl, hc⟩
  · have hx : xs = [] := by simpa [ints] using h0
    subst hx
    refine (bs_zero a c t w).mono ?_
    rintro e w' ⟨rfl, rfl⟩
    exact ⟨⟨0, by simp⟩, rfl⟩
  · exact bs_any b off c xs t w hs hlen fun j x hx => hc j _ (by rw [List.getElem?_map, hx]; rfl)
theorem lose1_any (bx : Nat) (a : Option Addr) (c : Nat) (xs : List Int) (k : Int) (w : World) (hs : xs.Pairwise (· ≤ ·)) (hlen : xs.length ≤ 1100000) (hb : w.cell? ⟨bx, 0, none⟩ = some (.slice a xs.length c)) (hc : RdV w a (ints xs)) :
    Calls Tryz.prog 47 #[.int .i64 k, .pointer (some ⟨bx, 0, none⟩)] w fun e w' => e = .returned (.bool (decide (k ∈ xs))) ∧ w.grownBy w' none := by
  have h := bs_rd a c xs k w hs hlen hc
  generalize decide (k ∈ xs) = r at h ⊢
  clear hc hs
  generalize xs.length = n at *
  go_enter Tryz.func47, Tryz.ntmps47
  go_wp2_with fail
  refine h.mono ?_
  rintro e X ⟨⟨i, rfl⟩, rfl⟩
  clear h
  go_wp2_with fail
  go_ret
  exact ⟨rfl, grown_self _ _⟩

theorem lose_any (b q : Nat) (kv va : Value) (l : Lg) (R : Nat → Prop) (w : World) (xs : List Int) (na : Option Addr) (nc : Nat) (h : LgAt R w b q kv va l) (hn : l.ks.length ≤ 1100000) (hx : xs.length ≤ 1100000) (hL : RdV w na (ints xs)) :
    Calls Tryz.prog 17 #[.pointer (some ⟨b, 0, none⟩), .slice na xs.length nc] w fun e w' => TkP R w b q kv va l (fun k => decide (k ∈ xs)) e w' := by
  have hv := values_any na xs.length nc w
  obtain ⟨w1, hw1⟩ : ∃ w1, w1 = w.alloc (.cells #[.slice na xs.length nc] 48) := ⟨_, rfl⟩
  have g1 : w.grownBy w1 none := by rw [hw1]; exact grown_alloc _ _
  have b1 : Blk w1 w.heap.size #[.slice na xs.length nc] 48 := by rw [hw1]; exact Blk.new w _ _
  have hs := sorted_any w.heap.size xs na nc hx w1 (b1.cell 0 _ rfl) (hL.grown g1)
  rw [← hw1] at hv
  have T2 : Hid (∀ (w2 : World) (a : Option Addr) (c : Nat) (ys : List Int), ys.Perm xs → ys.Pairwise (· ≤ ·) → w2.ownsRow w1.heap.size 2 1 (.slice a xs.length c) xs.length (ints ys) → w1.grownBy w2 none → Calls Tryz.prog 42 #[.pointer (some ⟨b, 0, none⟩), .func (.func 47) #[] #[.pointer (some ⟨w2.heap.size, 0, none⟩)]] (w2.alloc (.cells #[.slice a xs.length c] 48)) fun e w' => TkP R w b q kv va l (fun k => decide (k ∈ xs)) e w') := by
    intro w2 a c ys hp hso ho g2
    obtain ⟨w3, hw3⟩ : ∃ w3, w3 = w2.alloc (.cells #[.slice a xs.length c] 48) := ⟨_, rfl⟩
    have g3 : w2.grownBy w3 none := by rw [hw3]; exact grown_alloc _ _
    have b3 : Blk w3 w2.heap.size #[.slice a xs.length c] 48 := by rw [hw3]; exact Blk.new w2 _ _
    have gg := grown_trans g1 (grown_trans g2 g3)
    rw [← hw3]
    have hl : ys.length = xs.length := hp.length_eq
    have hmem : ∀ k, decide (k ∈ xs) = decide (k ∈ ys) := fun k => by simp [hp.mem_iff]
    have s1 := g1.size
    have s2 := g2.size
    have s3 := g3.size
    have hM : Mn w3 kv.ownBlock 47 #[] #[.pointer (some ⟨w2.heap.size, 0, none⟩)] (fun k => decide (k ∈ xs)) := by
      refine ⟨Go.Proofs.enters_of Tryz.func47 (by kernel_rfl) rfl, fun Z k gZ => ?_⟩
      have hne : ∀ x, w.heap.size ≤ x → x < w3.heap.size → Z.heap[x]? = w3.heap[x]? := fun x hx1 hx2 => gZ.block x hx2 (fun e => by have := h.row.lt x e.symm; omega)
      have bZ : Blk Z w2.heap.size #[.slice a xs.length c] 48 := (hne _ (by omega) b3.lt).trans b3
      have rd2 : RdV w3 a (ints ys) := by
        rcases ho.2 with ⟨e1, e2⟩ | ⟨g, cap, cur, e1, q1, q2, q3, q4, q5, q6⟩
        · have : ys = [] := List.length_eq_zero_iff.1 (by omega)
          subst this
          exact rdv_nil _ _
        · simp only [Value.slice.injEq, true_and] at e1
          obtain ⟨rfl, rfl⟩ := e1
          refine RdV.grown (W := w2) (.inr ⟨g, 0, rfl, fun j v hj => ?_⟩) g3
          simp only [Nat.mul_one] at q6
          rw [← q6, List.getElem?_take] at hj
          split at hj
          · rw [Array.getElem?_toList] at hj
            unfold World.cell?
            rw [q2]
            simpa using hj
          · cases hj
      have rdZ : RdV Z a (ints ys) := rd2.kept fun hx0 x off e => hne x (by
        rcases ho.2 with ⟨e1, e2⟩ | ⟨g, cap, cur, e1, q1, -⟩
        · injection e1 with e1; rw [e1] at e; cases e
        · injection e1 with e1; rw [e1] at e; cases e; omega) (rd2.lt hx0 x off e)
      rw [hmem k]
      rw [← hl] at bZ
      exact lose1_any w2.heap.size a c ys k Z hso (by omega) (bZ.cell 0 _ rfl) rdZ
    exact (take_any b q kv va l R w3 _ _ _ _ hM (h.grown gg) hn).mono fun e w' hP => hP.from (Kp.grown gg _)
  clear h hn hL g1 b1
  replace hw1 := hide hw1
  generalize xs.length = n at *
  go_enter Tryz.func17, Tryz.ntmps17
  go_wp2_with fail
  refine hv.mono ?_
  rintro e X ⟨rfl, rfl⟩
  clear hv
  go_wp2_with fail
  refine hs.mono ?_
  rintro e w2 ⟨a, c, ys, rfl, p1, p2, p3, p4⟩
  have ht := unhide T2 w2 a c ys p1 p2 p3 p4
  clear hs T2 p1 p2 p3 p4
  go_wp2_with fail
  refine ht.mono ?_
  intro e w' hP
  obtain ⟨ov, Ro, kv', rfl, rest⟩ := hP
  have FIN := hide rest
  clear ht rest
  go_wp2_with fail
  go_ret
  exact ⟨ov, Ro, kv', rfl, unhide FIN⟩
end Go.Proofs.YtnflbefbgcbdfaaGreat

namespace Go.Proofs.YtnflbefbgcbdfaaGreat
open Go.RowKit
set_option linter.unusedVariables false
set_option linter.unusedSimpArgs false
set_option maxRecDepth 100000
set_option maxHeartbeats 1000000

/-- With a packet more. -/
def Lg.push (l : Lg) (s : St) : Lg := { l with ks := l.ks ++ [s] }
theorem LgAt.push {R : Nat → Prop} {W X Y : World} {b q : Nat} {kv va fv : Value} {l : Lg} {s : St} (h : LgAt R W b q kv va l) (gX : W.grownBy X none) (gY : X.grownBy Y none) (hf : FvAt (fun b => X.heap.size ≤ b) Y fv s.fs) (hl : l.ks.length ≤ 1100000) :
    ∃ g3 c3 W', (Builtin.append_ #[26, 26] 26 #[kv, .slice (some ⟨Y.heap.size, 0, none⟩) 1 1]).run Tryz.prog (Y.alloc (.cells (s.cs fv) 46)) = .ok (.slice (some ⟨g3, 0, none⟩) (l.ks.length + 1) c3) W' ∧ Blk W' b (l.cs kv q) 75 ∧
      ∃ R', LgAt R' (W'.setCell ⟨b, 6, none⟩ (.slice (some ⟨g3, 0, none⟩) (l.ks.length + 1) c3)) b q (.slice (some ⟨g3, 0, none⟩) (l.ks.length + 1) c3) va (l.push s) ∧ Kp (fun x => x = b ∨ kv.ownBlock = some x) W (W'.setCell ⟨b, 6, none⟩ (.slice (some ⟨g3, 0, none⟩) (l.ks.length + 1) c3)) ∧ (kv.ownBlock = some g3 ∨ W.heap.size ≤ g3) ∧ (∀ g, R' g → R g ∨ W.heap.size ≤ g) := by
  have s1 := gX.size
  have s2 := gY.size
  have gWY := grown_trans gX gY
  have hd := h.diff
  obtain ⟨Z, hZ⟩ : ∃ Z, Z = Y.alloc (.cells (s.cs fv) 46) := ⟨_, rfl⟩
  have sZ : Z.heap.size = Y.heap.size + 1 := by rw [hZ]; exact alloc_size _ _
  have gZ : Y.grownBy Z none := by rw [hZ]; exact grown_alloc _ _
  have bZ : Blk Z Y.heap.size (s.cs fv) 46 := by rw [hZ]; exact Blk.new _ _ _
  have gWZ := grown_trans gWY gZ
  have hbl := h.blk.lt
  have hq : Blk W q _ 116 := h.set.blk
  have row : KvAt (fun g => R g ∨ (X.heap.size ≤ g ∧ g < Y.heap.size)) Z kv l.ks := (h.row.grown gWZ).mono fun b hb => .inl hb
  have fz : FvAt (fun g => R g ∨ (X.heap.size ≤ g ∧ g < Y.heap.size)) Z fv s.fs := (hf.lo.grown gZ).mono fun b hb => .inr hb
  have hno : ∀ g, kv.ownBlock = some g → ¬ (R g ∨ (X.heap.size ≤ g ∧ g < Y.heap.size)) := fun g e q => by
    have h1 := h.row.lt g e
    rcases q with q | q
    · exact h.nk g e q
    · omega
  have hR : ∀ g, (R g ∨ (X.heap.size ≤ g ∧ g < Y.heap.size)) → g < Z.heap.size := fun g q => by
    rcases q with q | q
    · have := h.low g q; omega
    · omega
  obtain ⟨v', W', hrun, kv', gr, own⟩ := row.app s fv fz hno hl Y.heap.size 1 (fun j v hj => bZ.cell j v hj) hR 26
  rw [hZ] at hrun
  obtain ⟨g3, c3, rfl⟩ : ∃ g3 c3, v' = .slice (some ⟨g3, 0, none⟩) (l.ks.length + 1) c3 := by
    rcases kv'.sh with ⟨-, q⟩ | ⟨g, c, q, -⟩
    · exact absurd q (by simp)
    · exact ⟨g, c, by rw [q]; simp⟩
  have oB : kv.ownBlock = some g3 ∨ g3 = Z.heap.size := by
    rcases own with q | q
    · exact .inl q.symm
    · injection q with q; exact .inr q
  have bb : Blk W' b (l.cs kv q) 75 := (gr.block b (by omega) (fun e => (hd.kb b e.symm).1 rfl)).trans (h.blk.grown gWZ)
  have sW := gr.size
  have hgb : g3 ≠ b := by
    rcases oB with q | q
    · exact (hd.kb g3 q).1
    · omega
  have kp : Kp (fun x => x = b ∨ kv.ownBlock = some x) W (W'.setCell ⟨b, 6, none⟩ (.slice (some ⟨g3, 0, none⟩) (l.ks.length + 1) c3)) := Kp.set ((Kp.grown gWZ _).trans ⟨gr.os, gr.tape, gr.output, gr.size, fun g hg hn => gr.block g hg (fun e => hn (.inr e.symm))⟩) b 6 _ (fun _ => .inl rfl)
  have hne : ∀ x, x ≠ b → kv.ownBlock ≠ some x → x < W.heap.size → (W'.setCell ⟨b, 6, none⟩ (.slice (some ⟨g3, 0, none⟩) (l.ks.length + 1) c3)).heap[x]? = W.heap[x]? := fun x h1 h3 h4 => kp.block x h4 (fun e => e.elim h1 h3)
  refine ⟨g3, c3, W', hrun, bb, fun g => R g ∨ (X.heap.size ≤ g ∧ g < Y.heap.size), ⟨?_, ?_, ?_, ?_, ?_, ?_, ?_, ?_⟩, kp, ?_, ?_⟩
  · exact bb.setC 6 _
  · exact h.set.kept (hne q (Ne.symm hd.bq) (fun e => (hd.kb q e).2.1 rfl) hq.lt) (fun g e => hne g (hd.vb g e).1 (fun e2 => (hd.kb g e2).2.2 e) (row_lt h.set.row g e))
  · refine kv'.kept (fun x hbq => set_heap _ _ _ _ _ ?_) (fun g hg => set_heap _ _ _ _ _ ?_)
    · rintro rfl
      rcases hbq with q | q
      · exact h.nb q
      · omega
    · cases hg; exact hgb
  · intro g e
    rw [set_size]
    have := hR g e
    omega
  · rintro (q | q)
    · exact h.nb q
    · omega
  · rintro (e | e)
    · exact h.nq e
    · have := hq.lt; omega
  · intro g e
    have e : g3 = g := by injection e
    subst e
    rcases oB with q | q
    · exact hno _ q
    · intro e2; have := hR _ e2; omega
  · intro g e
    rintro (q | q)
    · exact h.na g e q
    · have := row_lt h.set.row g e; omega
  · rcases oB with q | q
    · exact .inl q
    · exact .inr (by omega)
  · rintro g (e | e)
    · exact .inl e
    · exact .inr (by omega)

/-- What Add makes of a ledger. -/
def Lg.added (l : Lg) (s : St) : Lg := { l with ne := s.nu + 1, ti := s.ti, ls := if s.el then s.ti else l.ls, ks := l.ks ++ [s] }
def St.zero : St := ⟨0, 0, 0, false, false, false, 0, []⟩
/-- Which one has to go. -/
def Lg.over (l : Lg) : Int → Bool := if l.ks.length ≤ 256 then fun _ => false else fun k => decide (k ∈ [((l.ks[0]?).getD St.zero).nu])
/-- What Add leaves. -/
def AdP (R : Nat → Prop) (w : World) (b q : Nat) (kv va : Value) (l : Lg) (s : St) (e : Ending) (w' : World) : Prop :=
  ∃ (ov : Value) (Ro : Nat → Prop) (kv' : Value) (R' : Nat → Prop), e = .returned (.tuple #[ov, .int .i64 0]) ∧ KvAt Ro w' ov ((l.added s).ks.filter (fun x => (l.added s).over x.nu)) ∧ (∀ g, Ro g → w.heap.size ≤ g ∧ g < w'.heap.size) ∧ (∀ g, ov.ownBlock = some g → w.heap.size ≤ g ∧ ¬ Ro g) ∧ LgAt R' w' b q kv' va ((l.added s).left (l.added s).over) ∧ (kv'.ownBlock = kv.ownBlock ∨ ∀ g, kv'.ownBlock = some g → w.heap.size ≤ g) ∧ (∀ g, R' g → R g ∨ w.heap.size ≤ g) ∧ Kp (fun x => x = b ∨ kv.ownBlock = some x) w w'
theorem may_zero2 {l : Lg} {s : St} (h : l.may s = 0) : s.nu = l.ne ∧ l.ne ≤ 4611686018427387903 := by
  unfold Lg.may at h
  by_cases h1 : l.next.2 ≠ 0
  · rw [if_pos h1] at h; exact absurd h h1
  · rw [if_neg h1] at h
    by_cases h2 : s.nu ≠ l.next.1
    · rw [if_pos h2] at h; simp at h
    · have h2 : s.nu = l.next.1 := by simpa using h2
      have h1 : l.next.2 = 0 := by simpa using h1
      unfold Lg.next at h1 h2
      cases hop : l.op
      · simp [hop] at h1
      · simp only [hop] at h1 h2
        by_cases h3 : l.ne > 4611686018427387903
        · simp [h3] at h1
        · simp only [if_neg h3] at h2
          exact ⟨by simpa using h2, by omega⟩

/-- Behind the packet was put in. -/
def APt (R : Nat → Prop) (V : World) (b q : Nat) (kv va : Value) (l2 : Lg) (wc : World) : Prop :=
  ∃ g3 c3 R', LgAt R' wc b q (.slice (some ⟨g3, 0, none⟩) l2.ks.length c3) va l2 ∧ Kp (fun x => x = b ∨ kv.ownBlock = some x) V wc ∧ (kv.ownBlock = some g3 ∨ V.heap.size ≤ g3) ∧ (∀ g, R' g → R g ∨ V.heap.size ≤ g)

theorem over_no {l : Lg} (h : l.ks.length ≤ 256) : l.over = fun _ => false := by unfold Lg.over; rw [if_pos h]
theorem over_yes {l : Lg} (h : ¬ l.ks.length ≤ 256) {s : St} (h0 : l.ks[0]? = some s) : l.over = fun k => decide (k ∈ [s.nu]) := by unfold Lg.over; rw [if_neg h, h0]; rfl

theorem add_more (b q : Nat) (kv va : Value) (l : Lg) (R R0 : Nat → Prop) (s : St) (fa : Option Addr) (fc : Nat) (w : World) (h : LgAt R w b q kv va l) (hf : FvAt R0 w (.slice fa s.fs.length fc) s.fs) (h0 : ¬ R0 b) (hm : l.may s = 0) (hco : s.co = true) (hne : 0 ≤ l.ne) (hn : l.ks.length ≤ 100000) :
    Calls Tryz.prog 18 #[.pointer (some ⟨b, 0, none⟩), .agg (s.cs (.slice fa s.fs.length fc))] w fun e w' => AdP R w b q kv va l s e w' := by
  obtain ⟨m1, m2⟩ := may_zero2 hm
  obtain ⟨W, hW⟩ : ∃ W, W = w.alloc (.cells (s.cs (.slice fa s.fs.length fc)) 46) := ⟨_, rfl⟩
  have gW : w.grownBy W none := by rw [hW]; exact grown_alloc _ _
  have hs : Blk W w.heap.size (s.cs (.slice fa s.fs.length fc)) 46 := by rw [hW]; exact Blk.new w _ _
  have ha := may_any b q kv l s (.slice fa s.fs.length fc) W (h.blk.grown gW)
  obtain ⟨bs, hbs⟩ : ∃ bs, bs = w.heap.size := ⟨_, rfl⟩
  rw [← hbs] at hs
  rw [hm] at ha
  clear hm
  have HWL := hide (h.grown gW)
  have HFW := hide (hf.grown gW)
  have LT := hide (And.intro h.blk.lt (And.intro h.row.lt hbs))
  have HKV := h.row.sh
  have HN := hide hn
  obtain ⟨ka, kn, kc, rfl⟩ : ∃ ka kn kc, kv = .slice ka kn kc := by
    rcases HKV with ⟨e1, e2⟩ | ⟨g, c, e1, e2⟩
    · exact ⟨_, _, _, e1⟩
    · exact ⟨_, _, _, e1⟩
  clear HKV
  have nu1 : 0 ≤ s.nu := by omega
  have nu2 : s.nu ≤ 4611686018427387903 := by omega
  clear m1 m2 hne
  have hcs : s.cs (.slice fa s.fs.length fc) = #[.int .i64 s.nu, .int .i64 s.ti, .int .i64 s.si, .bool s.el, .bool true, .bool s.pr, .int .i64 s.tl, .slice fa s.fs.length fc] := by rw [← hco]; rfl
  rw [hcs] at hW hs ha ⊢
  obtain ⟨y0, y1, y2, y3, y4, y5, y6, y7⟩ := cells8 hs
  have GW := hide gW
  have HS := hide hs
  clear gW hs h hf
  go_enter Tryz.func18, Tryz.ntmps18
  go_upto_region 1 with fail
  rw [← hW, ← hbs]
  replace hW := hide hW
  replace hbs := hide hbs
  go_wp2_with fail
  refine ha.mono ?_
  rintro e Y ⟨rfl, gY⟩
  have LY := (unhide HWL).grown gY
  have BY := LY.blk
  have SY := (unhide HS).grown gY
  have v2 : Y.cell? ⟨b, 2, none⟩ = some (.int .i64 l.ne) := BY.cell 2 _ rfl
  have v4 : Y.cell? ⟨b, 4, none⟩ = some (.int .i64 l.ti) := BY.cell 4 _ rfl
  have f2 := BY.thaw 2
  have f4 := BY.thaw 4
  have x0 := cell_grown y0 gY
  have x1 := cell_grown y1 gY
  have nb : bs ≠ b := by
    obtain ⟨h1, h2, h3⟩ := unhide LT
    omega
  have NK : Hid ((Value.slice ka kn kc).ownBlock ≠ some bs) := fun e => by
    obtain ⟨h1, h2, h3⟩ := unhide LT
    have := h2 bs e
    omega
  have FY := hide ((unhide HFW).grown gY)
  have GWY := hide (grown_trans (unhide GW) gY)
  have LYH := hide LY
  have SYH := hide SY
  clear gY ha BY SY LY y0 y1 y2 y3 y4 y5 y6 y7 HWL HFW HS GW
  go_upto_region 4 with fail
  go_cut [] (fun wc => Hid (LgAt R wc b q (.slice ka kn kc) va { l with ne := s.nu + 1, ti := s.ti } ∧ Kp (fun x => x = b) Y wc))
  case first =>
    go_region
    all_goals go_wp2_with fail
    all_goals go_meet
    all_goals
      refine ⟨?_, ?_⟩
      · first
          | exact (((unhide LYH).grown (grown_drew' (grown_self _ _))).set1 2 _ (l' := { l with ne := s.nu + 1 }) rfl rfl rfl).set1 4 _ rfl rfl rfl
          | exact (((unhide LYH).grown (grown_drew' (grown_self _ _))).set1 4 _ (l' := { l with ti := s.ti }) rfl rfl rfl).set1 2 _ rfl rfl rfl
      · have k := Kp.set (Kp.set (Kp.refl (fun x => x = b) Y) b 2 (.int .i64 (s.nu + 1)) (fun _ => rfl)) b 4 (.int .i64 s.ti) (fun _ => rfl)
        have k2 := Kp.set (Kp.set (Kp.refl (fun x => x = b) Y) b 4 (.int .i64 s.ti) (fun _ => rfl)) b 2 (.int .i64 (s.nu + 1)) (fun _ => rfl)
        first
          | exact ⟨k.os, k.tape, k.output, k.size, k.block⟩
          | exact ⟨k2.os, k2.tape, k2.output, k2.size, k2.block⟩
  case rest =>
    obtain ⟨l1, k1⟩ := unhide hcut
    have SC : Blk wc bs #[.int .i64 s.nu, .int .i64 s.ti, .int .i64 s.si, .bool s.el, .bool true, .bool s.pr, .int .i64 s.tl, .slice fa s.fs.length fc] 46 := (k1.block bs (unhide SYH).lt nb).trans (unhide SYH)
    have z1 : wc.cell? ⟨bs, 1, none⟩ = some (.int .i64 s.ti) := SC.cell 1 _ rfl
    have z3 : wc.cell? ⟨bs, 3, none⟩ = some (.bool s.el) := SC.cell 3 _ rfl
    have z5 : wc.cell? ⟨b, 5, none⟩ = some (.int .i64 l.ls) := l1.blk.cell 5 _ rfl
    have t5 := l1.blk.thaw 5
    have CUT := hide (And.intro l1 k1)
    clear l1 k1 SC hcut v2 v4 f2 f4 x0 x1
    go_upto_if 25 with fail
    go_cut [] (fun wv => Hid (LgAt R wv b q (.slice ka kn kc) va { l with ne := s.nu + 1, ti := s.ti, ls := if s.el then s.ti else l.ls } ∧ Kp (fun x => x = b) Y wv))
    case first =>
      go_wp2_with fail
      · rename_i hel
        go_meet
        obtain ⟨l1, k1⟩ := unhide CUT
        exact ⟨by rw [if_pos hel]; exact l1.set1 5 _ rfl rfl rfl, Kp.set k1 b 5 _ (fun _ => rfl)⟩
      · rename_i hel
        go_meet
        obtain ⟨l1, k1⟩ := unhide CUT
        exact ⟨by rw [if_neg (by simpa using hel)]; exact l1, k1⟩
    case rest =>
      obtain ⟨V, rfl⟩ : ∃ V, V = wc := ⟨_, rfl⟩
      obtain ⟨l2, k2⟩ := unhide hcut
      have SC : Blk V bs #[.int .i64 s.nu, .int .i64 s.ti, .int .i64 s.si, .bool s.el, .bool true, .bool s.pr, .int .i64 s.tl, .slice fa s.fs.length fc] 46 := (k2.block bs (unhide SYH).lt nb).trans (unhide SYH)
      have fV : FvAt R0 V (.slice fa s.fs.length fc) s.fs := ((unhide FY).lo.kept fun x hx => k2.block x hx.2 (fun e => h0 (e ▸ hx.1))).mono fun x hx => hx.1
      have z4 : V.cell? ⟨bs, 4, none⟩ = some (.bool true) := SC.cell 4 _ rfl
      have v6 : V.cell? ⟨b, 6, none⟩ = some (.slice ka kn kc) := l2.blk.cell 6 _ rfl
      have hcx := copied_fv s fa fc V.drew (fV.grown (grown_drew' (grown_self V none)))
      rw [hcs] at hcx
      have hcs2 : ∀ a c, s.cs (.slice a s.fs.length c) = #[.int .i64 s.nu, .int .i64 s.ti, .int .i64 s.si, .bool s.el, .bool true, .bool s.pr, .int .i64 s.tl, .slice a s.fs.length c] := fun a c => by rw [← hco]; rfl
      have PUSH := hide (fun Y2 a c (g2 : V.drew.grownBy Y2 none) (hf : FvAt (fun b => V.drew.heap.size ≤ b) Y2 (.slice a s.fs.length c) s.fs) => by
        have := l2.push (s := s) (grown_drew' (grown_self V none)) g2 hf (by have := unhide HN; show l.ks.length ≤ _; omega)
        rw [hcs2] at this
        exact this)
      have q0 := cells8 SC.drew
      have BX := hide SC
      have BOX := hide l2.blk
      have ALL := hide (And.intro l2 k2)
      have LTB := hide SC.lt
      clear l2 k2 SC fV hcut CUT z1 z3 z5 t5
      go_upto_region 9 with fail
      go_cut [] (fun wd => Hid (APt R V b q (.slice ka kn kc) va (l.added s) wd))
      case first =>
        refine wp_region_held_drew (S := fun Z => Z.cell? ⟨bs, 0, none⟩ = some (.int .i64 s.nu) ∧ Z.cell? ⟨bs, 1, none⟩ = some (.int .i64 s.ti) ∧ Z.cell? ⟨bs, 2, none⟩ = some (.int .i64 s.si) ∧ Z.cell? ⟨bs, 3, none⟩ = some (.bool s.el) ∧ Z.cell? ⟨bs, 4, none⟩ = some (.bool true) ∧ Z.cell? ⟨bs, 5, none⟩ = some (.bool s.pr) ∧ Z.cell? ⟨bs, 6, none⟩ = some (.int .i64 s.tl) ∧ Z.cell? ⟨bs, 7, none⟩ = some (.slice fa s.fs.length fc)) (by kernel_rfl) q0 (fun hHeld => ?_)
        refine wpAnyH_take (i := 0) (v := ?_) rfl (by as_aux_lemma => kernel_rfl) (by as_aux_lemma => kernel_rfl) (by as_aux_lemma => kernel_rfl) (fun _ _ _ h => h) (Or.inl ⟨by rfl, ?_⟩) (by assumption) ?_
        rotate_left
        · intro wH hSw
          try dsimp only at hSw
          obtain ⟨s0q, s1q, s2q, s3q, s4q, s5q, s6q, s7q⟩ := hSw
          go_simp
          try with_reducible rfl
        try simp only [Act.put, List.setIfInBounds_toArray, List.set_cons_zero, List.set_cons_succ]
        refine wpAnyH_take (i := 1) (v := ?_) rfl (by as_aux_lemma => kernel_rfl) (by as_aux_lemma => kernel_rfl) (by as_aux_lemma => kernel_rfl) (fun _ _ _ h => h) (Or.inl ⟨by rfl, ?_⟩) (by assumption) ?_
        rotate_left
        · intro wH hSw
          try dsimp only at hSw
          obtain ⟨s0q, s1q, s2q, s3q, s4q, s5q, s6q, s7q⟩ := hSw
          go_simp
          try with_reducible rfl
        try simp only [Act.put, List.setIfInBounds_toArray, List.set_cons_zero, List.set_cons_succ]
        refine wpAnyH_take (i := 2) (v := ?_) rfl (by as_aux_lemma => kernel_rfl) (by as_aux_lemma => kernel_rfl) (by as_aux_lemma => kernel_rfl) (fun _ _ _ h => h) (Or.inl ⟨by rfl, ?_⟩) (by assumption) ?_
        rotate_left
        · intro wH hSw
          try dsimp only at hSw
          obtain ⟨s0q, s1q, s2q, s3q, s4q, s5q, s6q, s7q⟩ := hSw
          go_simp
          try with_reducible rfl
        try simp only [Act.put, List.setIfInBounds_toArray, List.set_cons_zero, List.set_cons_succ]
        refine wpAnyH_take (i := 3) (v := ?_) rfl (by as_aux_lemma => kernel_rfl) (by as_aux_lemma => kernel_rfl) (by as_aux_lemma => kernel_rfl) (fun _ _ _ h => h) (Or.inl ⟨by rfl, ?_⟩) (by assumption) ?_
        rotate_left
        · intro wH hSw
          try dsimp only at hSw
          obtain ⟨s0q, s1q, s2q, s3q, s4q, s5q, s6q, s7q⟩ := hSw
          go_simp
          try with_reducible rfl
        try simp only [Act.put, List.setIfInBounds_toArray, List.set_cons_zero, List.set_cons_succ]
        refine wpAnyH_take (i := 5) (v := ?_) rfl (by as_aux_lemma => kernel_rfl) (by as_aux_lemma => kernel_rfl) (by as_aux_lemma => kernel_rfl) (fun _ _ _ h => h) (Or.inl ⟨by rfl, ?_⟩) (by assumption) ?_
        rotate_left
        · intro wH hSw
          try dsimp only at hSw
          obtain ⟨s0q, s1q, s2q, s3q, s4q, s5q, s6q, s7q⟩ := hSw
          go_simp
          try with_reducible rfl
        try simp only [Act.put, List.setIfInBounds_toArray, List.set_cons_zero, List.set_cons_succ]
        refine wpAnyH_ready (rs := [4, 6]) (by as_aux_lemma => kernel_rfl) (by simp) ?_
        refine AllReadyH.cons rfl (fun KH hKH => ?_) (AllReadyH.cons rfl (fun KH hKH => ?_) AllReadyH.nil)
        · go_simp
          refine hKH.out _ _ q0 (fun hHeld4 => ?_)
          clear hKH KH
          try simp only [Act.put, List.setIfInBounds_toArray, List.set_cons_zero, List.set_cons_succ]
          refine wpAnyH_ready (rs := [6]) (by as_aux_lemma => kernel_rfl) (by simp) ?_
          refine AllReadyH.cons rfl (fun KH hKH => ?_) AllReadyH.nil
          (refine step_call (by rfl) 50 #[.agg #[.int .i64 s.nu, .int .i64 s.ti, .int .i64 s.si, .bool s.el, .bool true, .bool s.pr, .int .i64 s.tl, .slice fa s.fs.length fc]] enters_copied #[Operand.tmp 39] #[46] (by rfl) (by simp [Act.eval]) hcx ?_; rintro e Y2 ⟨a2, c2, rfl, hf2, gY2⟩; refine ⟨_, rfl, ?_⟩; rw [hcs2]; obtain ⟨g3, c3, W2, hap, bo2, R2, t2, k2, o2, r2⟩ := unhide PUSH Y2 a2 c2 gY2 hf2; have bY := (unhide BX).drew.grown gY2; have qY := cells8 bY; have bZ := bY.alloc (.cells #[.int .i64 s.nu, .int .i64 s.ti, .int .i64 s.si, .bool s.el, .bool true, .bool s.pr, .int .i64 s.tl, .slice a2 s.fs.length c2] 46); have qZ := cells8 bZ; have oY : Y2.cell? ⟨b, 6, none⟩ = some (.slice ka kn kc) := ((unhide BOX).drew.grown gY2).cell 6 _ rfl; have oZ : (Y2.alloc (.cells #[.int .i64 s.nu, .int .i64 s.ti, .int .i64 s.si, .bool s.el, .bool true, .bool s.pr, .int .i64 s.tl, .slice a2 s.fs.length c2] 46)).cell? ⟨b, 6, none⟩ = some (.slice ka kn kc) := (((unhide BOX).drew.grown gY2).alloc _).cell 6 _ rfl; have bK := (k2.block bs (unhide LTB) (fun e => e.elim nb (unhide NK))); have bS : Blk (W2.setCell ⟨b, 6, none⟩ (.slice (some ⟨g3, 0, none⟩) (l.ks.length + 1) c3)) bs #[.int .i64 s.nu, .int .i64 s.ti, .int .i64 s.si, .bool s.el, .bool true, .bool s.pr, .int .i64 s.tl, .slice fa s.fs.length fc] 46 := bK.trans (unhide BX); have qS := cells8 bS; have qW := cells8 (show Blk W2 bs #[.int .i64 s.nu, .int .i64 s.ti, .int .i64 s.si, .bool s.el, .bool true, .bool s.pr, .int .i64 s.tl, .slice fa s.fs.length fc] 46 from (set_heap W2 b 6 _ bs nb).symm.trans bS); have o3 : W2.cell? ⟨b, 6, none⟩ = some (.slice ka kn kc) := bo2.cell 6 _ rfl; have f3 := bo2.thaw 6; have FIN := hide (And.intro t2 (And.intro k2 (And.intro o2 r2))); clear bY bZ bK bS t2 k2 o2 r2 hf2 gY2 bo2)
          refine hKH.out _ _ qY (fun hHeld6 => ?_)
          clear hKH KH
          try simp only [Act.put, List.setIfInBounds_toArray, List.set_cons_zero, List.set_cons_succ]
          refine wpAnyH_ready (rs := [7]) (by as_aux_lemma => kernel_rfl) (by simp) ?_
          refine AllReadyH.cons rfl (fun KH hKH => ?_) AllReadyH.nil
          go_simp
          refine hKH.out _ _ qZ (fun hHeld7 => ?_)
          clear hKH KH
          try simp only [Act.put, List.setIfInBounds_toArray, List.set_cons_zero, List.set_cons_succ]
          refine wpAnyH_ready (rs := [8]) (by as_aux_lemma => kernel_rfl) (by simp) ?_
          refine AllReadyH.cons rfl (fun KH hKH => ?_) AllReadyH.nil
          refine step_append_run rfl (Operand.tmp 38) (Operand.tmp 41) 26 26 rfl (.slice ka kn kc) (.slice (some ⟨Y2.heap.size, 0, none⟩) 1 1) rfl rfl hap ?_
          refine hKH.out _ _ qW (fun hHeld8 => ?_)
          clear hKH KH
          try simp only [Act.put, List.setIfInBounds_toArray, List.set_cons_zero, List.set_cons_succ]
          refine wpAnyH_ready (rs := [9]) (by as_aux_lemma => kernel_rfl) (by simp) ?_
          refine AllReadyH.cons rfl (fun KH hKH => ?_) AllReadyH.nil
          go_simp
          refine hKH.out _ _ qW (fun hHeld9 => ?_)
          clear hKH KH
          try simp only [Act.put, List.setIfInBounds_toArray, List.set_cons_zero, List.set_cons_succ]
          refine wpAnyH_ready (rs := [10]) (by as_aux_lemma => kernel_rfl) (by simp) ?_
          refine AllReadyH.cons rfl (fun KH hKH => ?_) AllReadyH.nil
          go_simp
          refine hKH.out _ _ qW (fun hHeld10 => ?_)
          clear hKH KH
          try simp only [Act.put, List.setIfInBounds_toArray, List.set_cons_zero, List.set_cons_succ]
          refine wpAnyH_ready (rs := [11]) (by as_aux_lemma => kernel_rfl) (by simp) ?_
          refine AllReadyH.cons rfl (fun KH hKH => ?_) AllReadyH.nil
          go_simp
          refine hKH.out _ _ qS (fun hHeld11 => ?_)
          clear hKH KH
          try simp only [Act.put, List.setIfInBounds_toArray, List.set_cons_zero, List.set_cons_succ]
          refine wpAnyH_done (by as_aux_lemma => kernel_rfl) ?_ _
          clear q0 qY qZ qW qS oY oZ o3 f3 hap hcx
          try go_wp2_with fail
          go_meet
          obtain ⟨t2, k2, o2, r2⟩ := unhide FIN
          have len1 : (l.added s).ks.length = l.ks.length + 1 := by simp [Lg.added]
          exact ⟨g3, c3, R2, by rw [len1]; exact t2, k2, o2, r2⟩
        · (refine step_call (by rfl) 50 #[.agg #[.int .i64 s.nu, .int .i64 s.ti, .int .i64 s.si, .bool s.el, .bool true, .bool s.pr, .int .i64 s.tl, .slice fa s.fs.length fc]] enters_copied #[Operand.tmp 39] #[46] (by rfl) (by simp [Act.eval]) hcx ?_; rintro e Y2 ⟨a2, c2, rfl, hf2, gY2⟩; refine ⟨_, rfl, ?_⟩; rw [hcs2]; obtain ⟨g3, c3, W2, hap, bo2, R2, t2, k2, o2, r2⟩ := unhide PUSH Y2 a2 c2 gY2 hf2; have bY := (unhide BX).drew.grown gY2; have qY := cells8 bY; have bZ := bY.alloc (.cells #[.int .i64 s.nu, .int .i64 s.ti, .int .i64 s.si, .bool s.el, .bool true, .bool s.pr, .int .i64 s.tl, .slice a2 s.fs.length c2] 46); have qZ := cells8 bZ; have oY : Y2.cell? ⟨b, 6, none⟩ = some (.slice ka kn kc) := ((unhide BOX).drew.grown gY2).cell 6 _ rfl; have oZ : (Y2.alloc (.cells #[.int .i64 s.nu, .int .i64 s.ti, .int .i64 s.si, .bool s.el, .bool true, .bool s.pr, .int .i64 s.tl, .slice a2 s.fs.length c2] 46)).cell? ⟨b, 6, none⟩ = some (.slice ka kn kc) := (((unhide BOX).drew.grown gY2).alloc _).cell 6 _ rfl; have bK := (k2.block bs (unhide LTB) (fun e => e.elim nb (unhide NK))); have bS : Blk (W2.setCell ⟨b, 6, none⟩ (.slice (some ⟨g3, 0, none⟩) (l.ks.length + 1) c3)) bs #[.int .i64 s.nu, .int .i64 s.ti, .int .i64 s.si, .bool s.el, .bool true, .bool s.pr, .int .i64 s.tl, .slice fa s.fs.length fc] 46 := bK.trans (unhide BX); have qS := cells8 bS; have qW := cells8 (show Blk W2 bs #[.int .i64 s.nu, .int .i64 s.ti, .int .i64 s.si, .bool s.el, .bool true, .bool s.pr, .int .i64 s.tl, .slice fa s.fs.length fc] 46 from (set_heap W2 b 6 _ bs nb).symm.trans bS); have o3 : W2.cell? ⟨b, 6, none⟩ = some (.slice ka kn kc) := bo2.cell 6 _ rfl; have f3 := bo2.thaw 6; have FIN := hide (And.intro t2 (And.intro k2 (And.intro o2 r2))); clear bY bZ bK bS t2 k2 o2 r2 hf2 gY2 bo2)
          refine hKH.out _ _ qY (fun hHeld6 => ?_)
          clear hKH KH
          try simp only [Act.put, List.setIfInBounds_toArray, List.set_cons_zero, List.set_cons_succ]
          refine wpAnyH_ready (rs := [4, 7]) (by as_aux_lemma => kernel_rfl) (by simp) ?_
          refine AllReadyH.cons rfl (fun KH hKH => ?_) (AllReadyH.cons rfl (fun KH hKH => ?_) AllReadyH.nil)
          · go_simp
            refine hKH.out _ _ qY (fun hHeld4 => ?_)
            clear hKH KH
            try simp only [Act.put, List.setIfInBounds_toArray, List.set_cons_zero, List.set_cons_succ]
            refine wpAnyH_ready (rs := [7]) (by as_aux_lemma => kernel_rfl) (by simp) ?_
            refine AllReadyH.cons rfl (fun KH hKH => ?_) AllReadyH.nil
            go_simp
            refine hKH.out _ _ qZ (fun hHeld7 => ?_)
            clear hKH KH
            try simp only [Act.put, List.setIfInBounds_toArray, List.set_cons_zero, List.set_cons_succ]
            refine wpAnyH_ready (rs := [8]) (by as_aux_lemma => kernel_rfl) (by simp) ?_
            refine AllReadyH.cons rfl (fun KH hKH => ?_) AllReadyH.nil
            refine step_append_run rfl (Operand.tmp 38) (Operand.tmp 41) 26 26 rfl (.slice ka kn kc) (.slice (some ⟨Y2.heap.size, 0, none⟩) 1 1) rfl rfl hap ?_
            refine hKH.out _ _ qW (fun hHeld8 => ?_)
            clear hKH KH
            try simp only [Act.put, List.setIfInBounds_toArray, List.set_cons_zero, List.set_cons_succ]
            refine wpAnyH_ready (rs := [9]) (by as_aux_lemma => kernel_rfl) (by simp) ?_
            refine AllReadyH.cons rfl (fun KH hKH => ?_) AllReadyH.nil
            go_simp
            refine hKH.out _ _ qW (fun hHeld9 => ?_)
            clear hKH KH
            try simp only [Act.put, List.setIfInBounds_toArray, List.set_cons_zero, List.set_cons_succ]
            refine wpAnyH_ready (rs := [10]) (by as_aux_lemma => kernel_rfl) (by simp) ?_
            refine AllReadyH.cons rfl (fun KH hKH => ?_) AllReadyH.nil
            go_simp
            refine hKH.out _ _ qW (fun hHeld10 => ?_)
            clear hKH KH
            try simp only [Act.put, List.setIfInBounds_toArray, List.set_cons_zero, List.set_cons_succ]
            refine wpAnyH_ready (rs := [11]) (by as_aux_lemma => kernel_rfl) (by simp) ?_
            refine AllReadyH.cons rfl (fun KH hKH => ?_) AllReadyH.nil
            go_simp
            refine hKH.out _ _ qS (fun hHeld11 => ?_)
            clear hKH KH
            try simp only [Act.put, List.setIfInBounds_toArray, List.set_cons_zero, List.set_cons_succ]
            refine wpAnyH_done (by as_aux_lemma => kernel_rfl) ?_ _
            clear q0 qY qZ qW qS oY oZ o3 f3 hap hcx
            try go_wp2_with fail
            go_meet
            obtain ⟨t2, k2, o2, r2⟩ := unhide FIN
            have len1 : (l.added s).ks.length = l.ks.length + 1 := by simp [Lg.added]
            exact ⟨g3, c3, R2, by rw [len1]; exact t2, k2, o2, r2⟩
          · go_simp
            refine hKH.out _ _ qZ (fun hHeld7 => ?_)
            clear hKH KH
            try simp only [Act.put, List.setIfInBounds_toArray, List.set_cons_zero, List.set_cons_succ]
            refine wpAnyH_ready (rs := [4]) (by as_aux_lemma => kernel_rfl) (by simp) ?_
            refine AllReadyH.cons rfl (fun KH hKH => ?_) AllReadyH.nil
            go_simp
            refine hKH.out _ _ qZ (fun hHeld4 => ?_)
            clear hKH KH
            try simp only [Act.put, List.setIfInBounds_toArray, List.set_cons_zero, List.set_cons_succ]
            refine wpAnyH_ready (rs := [8]) (by as_aux_lemma => kernel_rfl) (by simp) ?_
            refine AllReadyH.cons rfl (fun KH hKH => ?_) AllReadyH.nil
            refine step_append_run rfl (Operand.tmp 38) (Operand.tmp 41) 26 26 rfl (.slice ka kn kc) (.slice (some ⟨Y2.heap.size, 0, none⟩) 1 1) rfl rfl hap ?_
            refine hKH.out _ _ qW (fun hHeld8 => ?_)
            clear hKH KH
            try simp only [Act.put, List.setIfInBounds_toArray, List.set_cons_zero, List.set_cons_succ]
            refine wpAnyH_ready (rs := [9]) (by as_aux_lemma => kernel_rfl) (by simp) ?_
            refine AllReadyH.cons rfl (fun KH hKH => ?_) AllReadyH.nil
            go_simp
            refine hKH.out _ _ qW (fun hHeld9 => ?_)
            clear hKH KH
            try simp only [Act.put, List.setIfInBounds_toArray, List.set_cons_zero, List.set_cons_succ]
            refine wpAnyH_ready (rs := [10]) (by as_aux_lemma => kernel_rfl) (by simp) ?_
            refine AllReadyH.cons rfl (fun KH hKH => ?_) AllReadyH.nil
            go_simp
            refine hKH.out _ _ qW (fun hHeld10 => ?_)
            clear hKH KH
            try simp only [Act.put, List.setIfInBounds_toArray, List.set_cons_zero, List.set_cons_succ]
            refine wpAnyH_ready (rs := [11]) (by as_aux_lemma => kernel_rfl) (by simp) ?_
            refine AllReadyH.cons rfl (fun KH hKH => ?_) AllReadyH.nil
            go_simp
            refine hKH.out _ _ qS (fun hHeld11 => ?_)
            clear hKH KH
            try simp only [Act.put, List.setIfInBounds_toArray, List.set_cons_zero, List.set_cons_succ]
            refine wpAnyH_done (by as_aux_lemma => kernel_rfl) ?_ _
            clear q0 qY qZ qW qS oY oZ o3 f3 hap hcx
            try go_wp2_with fail
            go_meet
            obtain ⟨t2, k2, o2, r2⟩ := unhide FIN
            have len1 : (l.added s).ks.length = l.ks.length + 1 := by simp [Lg.added]
            exact ⟨g3, c3, R2, by rw [len1]; exact t2, k2, o2, r2⟩
      case rest =>
        obtain ⟨l2, k2⟩ := unhide ALL
        obtain ⟨g3, c3, R3, l3, k3, o3, r3⟩ := unhide hcut
        have u6 : wc.cell? ⟨b, 6, none⟩ = some (.slice (some ⟨g3, 0, none⟩) (l.added s).ks.length c3) := l3.blk.cell 6 _ rfl
        have len1 : (l.added s).ks.length = l.ks.length + 1 := by simp [Lg.added]
        have hlN := unhide HN
        have gwY := unhide GWY
        have K1 : Kp (fun x => x = b ∨ (Value.slice ka kn kc).ownBlock = some x) w wc := (Kp.grown gwY _).trans ((k2.mono fun x _ e => .inl e).trans k3)
        have sV : w.heap.size ≤ V.heap.size := Nat.le_trans gwY.size k2.size
        have o4 : (Value.slice ka kn kc).ownBlock = some g3 ∨ w.heap.size ≤ g3 := o3.imp id (fun q => Nat.le_trans sV q)
        have r4 : ∀ g, R3 g → R g ∨ w.heap.size ≤ g := fun g e => (r3 g e).imp id (fun q => Nat.le_trans sV q)
        have o5 : (Value.slice (some ⟨g3, 0, none⟩) (l.added s).ks.length c3).ownBlock = (Value.slice ka kn kc).ownBlock ∨ ∀ g, (Value.slice (some ⟨g3, 0, none⟩) (l.added s).ks.length c3).ownBlock = some g → w.heap.size ≤ g := by
          rcases o4 with q | q
          · exact .inl q.symm
          · refine .inr fun g e => ?_
            have e : g3 = g := by injection e
            omega
        have O5 := hide o5
        clear o5
        obtain ⟨M, hM⟩ : ∃ M, M = (l.added s).ks.length := ⟨_, rfl⟩
        have hM1 : M = l.ks.length + 1 := by rw [hM, len1]
        rw [← hM] at u6
        have MI : ¬ (9223372036854775807 : Int) < (M : Int) := by omega
        have ALL2 := hide (And.intro l3 (And.intro K1 (And.intro o4 r4)))
        have HM := hide (And.intro hM hM1)
        by_cases h256 : (M : Int) ≤ 256
        · clear l2 k2 l3 k3 o3 r3 K1 o4 r4 hlN gwY sV len1 hM hM1 hcut ALL
          go_wp2_with fail
          all_goals go_ret2
          all_goals
            obtain ⟨l3, K1, o4, r4⟩ := unhide ALL2
            have ho : (l.added s).over = fun _ => false := over_no (by have := (unhide HM).1; omega)
            unfold AdP
            rw [ho]
            have e1 : (l.added s).left (fun _ => false) = l.added s := by unfold Lg.left; rw [List.filter_eq_self.2 (fun x _ => by simp)]
            have e2 : (l.added s).ks.filter (fun x => (fun _ : Int => false) x.nu) = [] := by simp
            rw [e1, e2]
            exact ⟨.slice none 0 0, fun _ => False, _, R3, rfl, KvAt.nil _ _, fun g e => e.elim, fun g e => (by cases e), l3, unhide O5, r4, K1⟩
        · obtain ⟨f0, hf0⟩ : ∃ f0, (l.added s).ks[0]? = some f0 := ⟨_, List.getElem?_eq_getElem (by omega)⟩
          have row3 := l3.row
          obtain ⟨fv, hfv, hc⟩ := row3.get hf0
          have y0 : wc.cell? ⟨g3, 0, none⟩ = some (.int .i64 f0.nu) := by
            have hq := hc 0 (.int .i64 f0.nu) rfl
            simp only [Nat.zero_mul, Nat.zero_add] at hq
            exact hq
          obtain ⟨W4, hW4⟩ : ∃ W4, W4 = wc.alloc (.cells #[.int .i64 f0.nu] 2) := ⟨_, rfl⟩
          have g4 : wc.grownBy W4 none := by rw [hW4]; exact grown_alloc _ _
          have b4 : Blk W4 wc.heap.size #[.int .i64 f0.nu] 2 := by rw [hW4]; exact Blk.new wc _ _
          have hlo := lose_any b q _ va (l.added s) R3 W4 [f0.nu] (some ⟨wc.heap.size, 0, none⟩) 1 (l3.grown g4) (by omega) (by simp) (.inr ⟨wc.heap.size, 0, rfl, fun j v hj => by
            cases j with
            | zero => simp at hj; subst hj; exact b4.cell 0 _ rfl
            | succ j => simp at hj⟩)
          have ho : (l.added s).over = fun k => decide (k ∈ [f0.nu]) := over_yes (by omega) hf0
          have FIN : Hid (∀ ov w', TkP R3 W4 b q (.slice (some ⟨g3, 0, none⟩) (l.added s).ks.length c3) va (l.added s) (fun k => decide (k ∈ [f0.nu])) (.returned ov) w' → AdP R w b q (.slice ka kn kc) va l s (.returned (.tuple #[ov, .int .i64 0])) w') := by
            intro ov w' hP
            obtain ⟨ov', Ro, kv', e1, p2, p3, p4, p5, p6, p7⟩ := hP
            injection e1 with e1
            subst e1
            have s4 := g4.size
            have s1 := K1.size
            unfold AdP
            rw [ho]
            refine ⟨ov, Ro, kv', R3, rfl, p2, fun g e => ⟨by have := (p3 g e).1; omega, (p3 g e).2⟩, fun g e => ⟨by have := (p4 g e).1; omega, (p4 g e).2⟩, p5, ?_, r4, ?_⟩
            · rw [p6]
              exact unhide O5
            · refine ⟨p7.os.trans (g4.os.trans K1.os), p7.tape.trans (g4.tape.trans K1.tape), p7.output.trans (g4.output.trans K1.output), by have := p7.size; omega, fun x hx hn => (p7.block x (by omega) (fun e => ?_)).trans ((g4.block x (by omega) (by simp)).trans (K1.block x hx hn))⟩
              rcases e with e | e
              · exact hn (.inl e)
              · have e : g3 = x := by injection e
                subst e
                rcases o4 with q | q
                · exact hn (.inr q)
                · omega
          have M0 : (0 : Int) < (M : Int) := by omega
          have hlo2 := hlo
          simp only [List.length_cons, List.length_nil, Nat.zero_add] at hlo2
          clear l2 k2 l3 k3 o3 r3 K1 o4 r4 hlN gwY sV len1 hM hM1 hcut ALL ALL2 row3 hfv hc g4 b4 hlo hf0 ho
          go_wp2_with fail
          rw [← hW4]
          refine hlo2.mono ?_
          intro e w' hP
          obtain ⟨ov, hov⟩ : ∃ ov, e = .returned ov := by obtain ⟨ov, Ro, kv', e1, -⟩ := hP; exact ⟨ov, e1⟩
          subst hov
          have FIN2 := hide (unhide FIN ov w' hP)
          clear hP hlo2 FIN
          go_wp2_with fail
          go_ret2
          exact unhide FIN2
end Go.Proofs.YtnflbefbgcbdfaaGreat
