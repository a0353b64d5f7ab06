/- The document's answers: Known, Most, Get, Put, Default, Check. -/
import Derived.Test.YtmfbbamaleagiaaDoorYB
namespace Go.Proofs.YtmfbbamaleagiaaDoor
open Go.RowKit
set_option linter.unusedVariables false
set_option maxRecDepth 100000
set_option maxHeartbeats 1000000

/-- Is it one of the table's numbers? -/
def knownB (n : Int) : Bool := decide (n = 1) || (decide (4 ≤ n) && decide (n ≤ 11))
/-- Its place in the table. -/
def ixF (k : Nat) : Nat := if k = 1 then 0 else k - 3
def mostR (k : Nat) : Int := if knownB k then mostT (ixF k) else 16383000
def getR (p : Ps) (k : Nat) : Int := if knownB k then p.l.getD (ixF k) 0 else p.a8

theorem known_any (n : Int) (w : World) (h0 : 0 ≤ n) : Calls Tryd.prog 30 #[.int .u64 n] w fun e w' => e = .returned (.bool (knownB n)) ∧ w' = w := by
  rw [show knownB n = (decide (n = 1) || (decide (4 ≤ n) && decide (n ≤ 11))) from rfl]
  generalize hR : (decide (n = 1) || (decide (4 ≤ n) && decide (n ≤ 11))) = R
  by_cases h1 : n = 1
  · subst h1
    obtain rfl : true = R := hR
    go_enter Tryd.func30, Tryd.ntmps30
    go_wp2
    go_ret
    exact ⟨rfl, rfl⟩
  · have e1 : (n == 1) = false := by simpa using h1
    by_cases h2 : 4 ≤ n
    · by_cases h3 : n ≤ 11
      · obtain rfl : true = R := by rw [← hR]; simp [h2, h3]
        clear h1 hR
        go_enter Tryd.func30, Tryd.ntmps30
        go_wp2
        go_ret
        exact ⟨rfl, rfl⟩
      · obtain rfl : false = R := by rw [← hR]; simp [h1, h3]
        clear h1 hR
        go_enter Tryd.func30, Tryd.ntmps30
        go_wp2
        go_ret
        exact ⟨rfl, rfl⟩
    · obtain rfl : false = R := by rw [← hR]; simp [h1, h2]
      clear h1 hR
      go_enter Tryd.func30, Tryd.ntmps30
      go_wp2
      go_ret
      exact ⟨rfl, rfl⟩

theorem most_any (k : Nat) (h : 1 ≤ k ∧ k ≤ 11) (w : World) : Calls Tryd.prog 32 #[.int .u64 k] w fun e w' => e = .returned (.int .i64 (mostR k)) ∧ w' = w := by
  obtain rfl | rfl | rfl | rfl | rfl | rfl | rfl | rfl | rfl | rfl | rfl : k = 1 ∨ k = 2 ∨ k = 3 ∨ k = 4 ∨ k = 5 ∨ k = 6 ∨ k = 7 ∨ k = 8 ∨ k = 9 ∨ k = 10 ∨ k = 11 := by omega
  all_goals
    go_enter Tryd.func32, Tryd.ntmps32
    go_wp2
    go_ret
    exact ⟨rfl, rfl⟩

theorem rget06_any (p : Ps) (k : Nat) (h : 1 ≤ k ∧ k ≤ 11) (w : World) : Calls Tryd.prog 31 #[.agg p.cs, .int .u64 k] w fun e w' => e = .returned (.int .i64 (getR p k)) ∧ w.grownBy w' none := by
  have n9 := (Blk.new w p.cs 23).nine
  have gr := hide (World.grownBy_alloc w (.cells p.cs 23) none)
  obtain ⟨n0, n1, n2, n3, n4, n5, n6, n7, n8⟩ := n9
  obtain rfl | rfl | rfl | rfl | rfl | rfl | rfl | rfl | rfl | rfl | rfl : k = 1 ∨ k = 2 ∨ k = 3 ∨ k = 4 ∨ k = 5 ∨ k = 6 ∨ k = 7 ∨ k = 8 ∨ k = 9 ∨ k = 10 ∨ k = 11 := by omega
  all_goals
    go_enter Tryd.func31, Tryd.ntmps31
    go_wp2
    go_ret
    exact ⟨rfl, unhide gr⟩

theorem rdefault_any (w : World) : Calls Tryd.prog 13 #[] w fun e w' => e = .returned (.agg dflt.cs) ∧ w.grownBy w' none := by
  go_enter Tryd.func13, Tryd.ntmps13
  go_wp2
  refine bodyPost_ret (results_cell_row rfl _ _ w.heap.size 23 dflt.cs (0, 0) _ rfl (Blk.new w dflt.cs _) Tryd.underlying23 rfl Tryd.sizePs) rfl ?_
  exact ⟨rfl, World.grownBy_alloc _ _ none⟩

theorem blk3b (w : World) (A B C : Array Value) (ta tb tc : TypeId) : Blk (((w.alloc (.cells A ta)).alloc (.cells B tb)).alloc (.cells C tc)) (w.heap.size + 1) B tb := by
  have := (Blk.new (w.alloc (.cells A ta)) B tb).alloc (.cells C tc)
  rw [size_alloc'] at this; exact this
theorem grown3 (w : World) (a b c : Obj) : w.grownBy (((w.alloc a).alloc b).alloc c) none := (grown2 w a b).trans (World.grownBy_alloc _ c none)

theorem rset_any (p : Ps) (k : Nat) (h : 1 ≤ k ∧ k ≤ 11) (hk : knownB k = true) (v : Int) (w : World) : Calls Tryd.prog 37 #[.agg p.cs, .int .u64 k, .int .i64 v] w fun e w' => e = .returned (.agg (p.set (ixF k) v).cs) ∧ w.grownBy w' none := by
  obtain rfl | rfl | rfl | rfl | rfl | rfl | rfl | rfl | rfl | rfl | rfl : k = 1 ∨ k = 2 ∨ k = 3 ∨ k = 4 ∨ k = 5 ∨ k = 6 ∨ k = 7 ∨ k = 8 ∨ k = 9 ∨ k = 10 ∨ k = 11 := by omega
  all_goals first
    | (exfalso; revert hk; decide)
    | skip
  all_goals
    obtain ⟨a0, a1, a2, a3, a4, a5, a6, a7, a8⟩ := p
    unfold Ps.cs
    simp only
    go_enter Tryd.func37, Tryd.ntmps37
    go_wp2
  all_goals
    refine bodyPost_ret (results_cell_row rfl _ _ (w.heap.size + 1) 23 _ (0, 0) _ rfl (blk3b w _ _ _ _ _ _) Tryd.underlying23 rfl Tryd.sizePs) rfl ?_
    exact ⟨rfl, grown3 _ _ _ _⟩

/-- Check by its numbers. -/
def checkId (l : List Int) : Nat → Nat → Int
  | 0, _ => 0
  | f + 1, k => if knownB k = true then (if 0 ≤ l.getD (ixF k) 0 ∧ l.getD (ixF k) 0 ≤ mostT (ixF k) then checkId l f (k + 1) else 62) else checkId l f (k + 1)
theorem checkId_is (l : List Int) : checkId l 11 1 = checkFrom l 9 0 := rfl

theorem rcheck_any (p : Ps) (w : World) : Calls Tryd.prog 12 #[.agg p.cs] w fun e w' => e = .returned (.int .i64 (checkF p)) ∧ w.grownBy w' none := by
  have B0 := Blk.new w p.cs 23
  have G0 := World.grownBy_alloc w (.cells p.cs 23) none
  go_enter Tryd.func12, Tryd.ntmps12
  go_wp2_with fail
  generalize w.alloc (.cells p.cs 23) = W0 at *
  go_loopw [3] (fun i wr => ∃ k : Nat, 1 ≤ k ∧ k ≤ 12 ∧ i = .int .u64 k ∧ checkF p = checkId p.l (12 - k) k ∧ Blk wr w.heap.size p.cs 23 ∧ w.grownBy wr none) (fun i _ => 12 - (intOf i).toNat)
  case atStart => exact ⟨1, by omega, by omega, rfl, (checkId_is p.l).symm, B0, G0⟩
  case round =>
    obtain ⟨k, hk1, hk, rfl, hp, B, gr⟩ := hrel
    clear B0 G0
    by_cases hk9 : k = 12
    · subst hk9
      have HP := hide hp
      clear hp
      go_wp2_with fail
      go_ret
      exact ⟨by rw [unhide HP]; rfl, gr⟩
    · have hlt : (k : Int) ≤ 11 := by omega
      have e9 : 12 - k = (12 - (k + 1)) + 1 := by omega
      rw [e9, checkId] at hp
      have kn := known_any k wr (by omega)
      have ge := rget06_any p k (by omega) wr
      have mo := fun W => most_any k (by omega) W
      unfold mostR getR at *
      have hwk : IntKind.u64.wrap ((k : Int) + 1) = (k : Int) + 1 := by rw [IntKind.wrap_u64]; omega
      cases hkn : knownB k with
      | false =>
        rw [hkn] at hp kn ge mo
        simp only [Bool.false_eq_true, if_false] at hp ge mo
        have HP := hide hp
        clear hp e9 hkn
        go_wp2_with (first
          | (go_at_call 30; refine kn.mono ?_; rintro e W1 ⟨rfl, hW⟩; subst hW; clear kn)
          | (refine wpList_load_row rfl _ _ rfl w.heap.size rfl 23 p.cs (0, 0) _ B Tryd.underlying23 rfl Tryd.sizePs ?_)
          | (go_at_call 31; refine ge.mono ?_; rintro e W2 ⟨rfl, g2⟩; have B2 := hide (B.grown g2); have G2 := hide (gr.trans g2); clear ge g2)
          | (go_at_call 32; refine (mo _).mono ?_; rintro e W3 ⟨rfl, hW⟩; subst hW; clear mo))
        exact ⟨⟨k + 1, by omega, by omega, rfl, unhide HP, unhide B2, unhide G2⟩, by simp [intOf]; omega⟩
      | true =>
        rw [hkn] at hp kn ge mo
        simp only [if_true] at hp ge mo
        generalize hv : p.l.getD (ixF k) 0 = v at *
        generalize hm : mostT (ixF k) = m at *
        by_cases h0 : v < 0
        · rw [if_neg (by omega)] at hp
          have HP := hide hp
          clear hp e9 hkn hm hv
          go_wp2_with (first
            | (go_at_call 30; refine kn.mono ?_; rintro e W1 ⟨rfl, hW⟩; subst hW; clear kn)
            | (refine wpList_load_row rfl _ _ rfl w.heap.size rfl 23 p.cs (0, 0) _ B Tryd.underlying23 rfl Tryd.sizePs ?_)
            | (go_at_call 31; refine ge.mono ?_; rintro e W2 ⟨rfl, g2⟩; have G2 := hide (gr.trans g2); clear ge g2)
            | (go_at_call 32; refine (mo _).mono ?_; rintro e W3 ⟨rfl, hW⟩; subst hW; clear mo))
          go_ret
          exact ⟨by rw [unhide HP]; rfl, unhide G2⟩
        by_cases h1 : v ≤ m
        · rw [if_pos (by omega)] at hp
          have HP := hide hp
          clear hp e9 hkn hm hv
          go_wp2_with (first
            | (go_at_call 30; refine kn.mono ?_; rintro e W1 ⟨rfl, hW⟩; subst hW; clear kn)
            | (refine wpList_load_row rfl _ _ rfl w.heap.size rfl 23 p.cs (0, 0) _ B Tryd.underlying23 rfl Tryd.sizePs ?_)
            | (go_at_call 31; refine ge.mono ?_; rintro e W2 ⟨rfl, g2⟩; have B2 := hide (B.grown g2); have G2 := hide (gr.trans g2); clear ge g2)
            | (go_at_call 32; refine (mo _).mono ?_; rintro e W3 ⟨rfl, hW⟩; subst hW; clear mo))
          exact ⟨⟨k + 1, by omega, by omega, rfl, unhide HP, unhide B2, unhide G2⟩, by simp [intOf]; omega⟩
        · rw [if_neg (by omega)] at hp
          have HP := hide hp
          clear hp e9 hkn hm hv
          go_wp2_with (first
            | (go_at_call 30; refine kn.mono ?_; rintro e W1 ⟨rfl, hW⟩; subst hW; clear kn)
            | (refine wpList_load_row rfl _ _ rfl w.heap.size rfl 23 p.cs (0, 0) _ B Tryd.underlying23 rfl Tryd.sizePs ?_)
            | (go_at_call 31; refine ge.mono ?_; rintro e W2 ⟨rfl, g2⟩; have G2 := hide (gr.trans g2); clear ge g2)
            | (go_at_call 32; refine (mo _).mono ?_; rintro e W3 ⟨rfl, hW⟩; subst hW; clear mo))
          go_ret
          exact ⟨by rw [unhide HP]; rfl, unhide G2⟩
end Go.Proofs.YtmfbbamaleagiaaDoor
