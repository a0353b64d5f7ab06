/- slices.Backward, Down, slices.AppendSeq, slices.Collect. -/
import Derived.Test.YtielpjdjlmkejaaZC
namespace Go.Proofs.Ytielpjdjlmkejaa
open Go.RowKit Go.Shelf
set_option linter.unusedVariables false
set_option maxHeartbeats 1000000
set_option maxRecDepth 100000
attribute [local go_sem] Oper.semAt_some

abbrev NS := Nat × Sp
abbrev encI (x : NS) : Array Value := #[.int .i64 (x.1 : Int), .agg #[.int .i64 x.2.1, .int .i64 x.2.2]]

/-- The last first, with their places. -/
def downI (L : List Sp) : List NS := (List.range L.length).reverse.map fun i => (i, L.getD i (0, 0))

theorem downI_length (L : List Sp) : (downI L).length = L.length := by simp [downI]
theorem downI_at (L : List Sp) (j : Nat) (h : j < L.length) : (downI L)[L.length - 1 - j]? = some (j, L.getD j (0, 0)) := by
  unfold downI
  rw [List.getElem?_map, List.getElem?_reverse (by simp; omega)]
  simp only [List.length_range]
  rw [List.getElem?_range (by omega)]
  have : L.length - 1 - (L.length - 1 - j) = j := by omega
  simp [this]
theorem downI_take (L : List Sp) (j : Nat) (h : j < L.length) : (downI L).take (L.length - j) = (downI L).take (L.length - 1 - j) ++ [(j, L.getD j (0, 0))] := by
  have e : L.length - j = L.length - 1 - j + 1 := by omega
  rw [e, List.take_add_one, downI_at L j h]
  rfl
theorem downI_map (L : List Sp) : (downI L).map Prod.snd = L.reverse := by
  unfold downI
  rw [List.map_map, List.map_reverse]
  congr 1
  apply List.ext_getElem?
  intro i
  by_cases h : i < L.length
  · simp [h]
  · rw [List.getElem?_eq_none (by simp; omega), List.getElem?_eq_none (by omega)]

theorem back1_in (n : Nat) (hn : 1 ≤ n) (l Bb B : Nat) (v : Value) (L : List Sp) (J Jx : List NS → World → Prop)
    (hY : ∀ pre x W, J pre W → pre.length < L.length → YieldAt Fence.wide (n - 1) Try.prog l (encI x) W fun e W' =>
      (e = .returned (.bool true) ∧ J (pre ++ [x]) W' ∧ KpB B W W') ∨ (e = .returned (.bool false) ∧ Jx (pre ++ [x]) W'))
    (W : World) (hBb : Boxed W Bb 33 v) (hrow : Row W v L) (hne : Bb ≠ B) (hB : B < W.heap.size) (ho : own1 W B ≠ some Bb) (ho2 : ∀ g, v.ownBlock = some g → g ≠ B ∧ own1 W B ≠ some g)
    (hlen : L.length * 16 ≤ 140737488355328) (h0 : J [] W) :
    CallsIn Fence.wide n Try.prog 71 #[.func (.yield l) #[] #[], .pointer (some ⟨Bb, 0, none⟩)] W fun e W' => (∃ v, e = .returned v) ∧
      ((∃ ys : List NS, ys.map Prod.snd = L.reverse ∧ J ys W') ∨ (∃ pre : List NS, True ∧ Jx pre W')) := by
  have hcb := hBb.cell
  have HY := hide hY; have HO := hide (And.intro hne (And.intro ho ho2)); have H0 := hide h0; have HBX := hide hBb
  obtain ⟨a, c, rfl, hcells, hcm, hnc⟩ := hrow.shape
  have HROW := hide hrow
  unfold maxLen at hcm
  clear hY h0 hrow hcells ho ho2 hne hBb
  generalize hN : L.length = N at *
  have HN := hide hN
  clear hN
  refine callsIn_of_wp Try.func71 rfl trivial ?_ rfl
  simp only [Try.ntmps71, List.size_toArray, List.length_cons, List.length_nil, Nat.reduceAdd, Nat.reduceSub, Array.replicate_succ, Array.replicate_zero, List.push_toArray, List.append_toArray, List.nil_append, List.cons_append]
  gi_wp2_with fail
  gi_loopw [3] (fun i wr => ∃ k : Nat, k ≤ N ∧ i = .int .i64 ((k : Int) - 1) ∧ J ((downI L).take (N - k)) wr ∧ KpB B W wr) (fun i _ => (intOf i + 1).toNat)
  case atStart => exact ⟨N, Nat.le_refl _, by go_num, by rw [Nat.sub_self]; exact unhide H0, KpB.grown hB (grown_self _ _)⟩
  case round =>
    clear H0
    obtain ⟨k, hk, rfl, hJ, hK⟩ := hrel
    cases k with
    | succ j =>
      have hj : j < N := by omega
      have hjL : j < L.length := by rw [unhide HN]; exact hj
      have bx : Boxed wr Bb 33 (.slice a N c) := hK.same Bb _ (unhide HBX) rfl (unhide HO).1 (unhide HO).2.1
      have cb := bx.cell
      obtain ⟨g, rfl, hR⟩ : ∃ g, a = some ⟨g, 0, none⟩ ∧ ∃ sp, RowAt wr g c L sp := by
        rcases Row.at (unhide HROW) with ⟨e1, e2⟩ | ⟨g, c', sp, e1, e2⟩
        · rw [e2] at hjL; simp at hjL
        · simp only [Value.slice.injEq] at e1
          obtain ⟨rfl, -, rfl⟩ := e1
          exact ⟨g, rfl, sp, hK.same g _ e2.1 rfl ((unhide HO).2.2 g rfl).1 ((unhide HO).2.2 g rfl).2, e2.2⟩
      obtain ⟨sp, hR⟩ := hR
      have c0 := hR.cell (j * 2) _ (cl_lo L j hjL)
      have c1 := hR.cell (j * 2 + 1) _ (cl_hi L j hjL)
      have hst := downI_take L j hjL
      rw [unhide HN] at hst
      have e1 : N - (j + 1) = N - 1 - j := by omega
      rw [e1] at hJ
      have HST := hide hst
      generalize hx : L.getD j (0, 0) = x at *
      obtain ⟨fn, tmps, assign, body, hy, hRR⟩ := (unhide HY) _ (j, x) _ hJ (by rw [List.length_take, downI_length, unhide HN]; omega)
      have HRR := hide hRR
      have hi : (((j + 1 : Nat) : Int) - 1) = (j : Int) := by omega
      rw [hi]
      have hjn : (j : Int) < (N : Int) := by omega
      have HKK := hide hK
      clear hRR hst hJ hK hR hk bx hx hjL
      gi_wp2_with fail
      refine (unhide HRR).mono ?_
      rintro e W3 (⟨rfl, hJ3, hk3⟩ | ⟨rfl, hJx3⟩)
      · have HB3 := hide ((unhide HKK).trans hk3)
        rw [← unhide HST] at hJ3
        have HJ3 := hide hJ3
        clear hk3 hJ3
        gi_wp2_with fail
        go_roundw
        case rel => exact ⟨j, by omega, by go_num, unhide HJ3, unhide HB3⟩
        case measure => simp [intOf]
      · rw [← unhide HST] at hJx3
        have HJ3 := hide hJx3
        clear hJx3
        gi_wp2_with fail
        refine bodyPost_ret (results_none rfl _ _ _) rfl ?_
        exact ⟨⟨_, rfl⟩, .inr ⟨_, trivial, unhide HJ3⟩⟩
    | zero =>
      have e : (downI L).take (N - 0) = downI L := by rw [← unhide HN]; exact List.take_of_length_le (by rw [downI_length]; omega)
      rw [e] at hJ
      have HJ3 := hide hJ
      clear hJ
      have hi : (((0 : Nat) : Int) - 1) = -1 := by omega
      rw [hi]
      gi_wp2_with fail
      go_end0
      exact ⟨⟨_, rfl⟩, .inl ⟨_, downI_map L, unhide HJ3⟩⟩

theorem back_any (a : Option Addr) (n c : Nat) (w : World) :
    Calls Try.prog 55 #[.slice a n c] w fun e w' => e = .returned (.func (.func 71) #[] #[.pointer (some ⟨w.heap.size, 0, none⟩)]) ∧ w' = w.alloc (.cells #[.slice a n c] 33) := by
  go_enter Try.func55, Try.ntmps55
  go_wp2
  go_ret
  exact ⟨rfl, rfl⟩

theorem down_any (q : Option Addr) (w : World) :
    Calls Try.prog 39 #[.pointer q] w fun e w' => e = .returned (.func (.func 54) #[] #[.pointer (some ⟨w.heap.size, 0, none⟩)]) ∧ w' = w.alloc (.cells #[.pointer q] 60) := by
  go_enter Try.func39, Try.ntmps39
  go_wp2
  go_ret
  exact ⟨rfl, rfl⟩
end Go.Proofs.Ytielpjdjlmkejaa
