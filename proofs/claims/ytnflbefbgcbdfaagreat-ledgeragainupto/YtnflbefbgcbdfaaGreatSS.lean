/- total. -/
import Derived.Test.YtnflbefbgcbdfaaGreatSR
namespace Go.Proofs.YtnflbefbgcbdfaaGreat
set_option maxRecDepth 100000
open Go.RowKit
set_option linter.unusedVariables false
set_option maxHeartbeats 400000

/-- How many numbers, as it is told. -/
def toldF (L : List Sp) : Int := min (cnt L) 18446744073709551615

theorem cnt_take_succ (L : List Sp) (k : Nat) (h : k < L.length) : cnt (L.take (k + 1)) = cnt (L.take k) + ((L.getD k (0, 0)).2 - (L.getD k (0, 0)).1 + 1) := by
  rw [List.take_add_one, cnt_append, List.getD_eq_getElem?_getD, List.getElem?_eq_getElem h]
  simp [cnt]

theorem getD_mem (L : List Sp) (k : Nat) (h : k < L.length) : L.getD k (0, 0) ∈ L := by
  rw [List.getD_eq_getElem?_getD, List.getElem?_eq_getElem h]; simp

theorem cnt_take_le {mn mx : Int} {L : List Sp} (h : Good mn mx L) (k : Nat) : 0 ≤ cnt (L.take k) ∧ cnt (L.take k) ≤ cnt L := by
  have e : cnt (L.take k) + cnt (L.drop k) = cnt L := by rw [← cnt_append, List.take_append_drop]
  rw [← List.take_append_drop k L] at h
  have h1 := cnt_nonneg h.left
  have h2 := cnt_nonneg h.right
  omega

theorem total_room (v : Value) (L : List Sp) (w : World) (h : Row w v L) (hL : Good (-9223372036854775808) 9223372036854775807 L) (hc : cnt L ≤ 18446744073709551615) :
    Calls Tryz.prog 64 #[v] w fun e w' => e = .returned (.int .u64 (cnt L)) ∧ w.grownBy w' none := by
  obtain ⟨a, c, rfl, hcells, hcm, hnc⟩ := h.shape
  unfold maxLen at hcm
  have HC := hide hcells
  have hg := hide hL
  have hcc := hide hc
  clear h hL hcells hc
  generalize hn : L.length = n at *
  have HN := hide hn
  clear hn
  go_enter Tryz.func64, Tryz.ntmps64
  go_wp2
  go_loopw [3, 9] (fun u i wr => ∃ k : Nat, k ≤ n ∧ i = .int .i64 k ∧ u = .int .u64 (cnt (L.take k)) ∧ w.grownBy wr none) (fun _ i _ => n - (intOf i).toNat)
  case atStart => exact ⟨0, Nat.zero_le _, rfl, rfl, grown_self _ _⟩
  case round =>
    obtain ⟨k, hk, rfl, rfl, hgw⟩ := hrel
    by_cases hlt : k < n
    · have hkL : k < L.length := by rw [unhide HN]; exact hlt
      obtain ⟨g, rfl, hcs⟩ : ∃ g, a = some ⟨g, 0, none⟩ ∧ _ := (unhide HC).resolve_left (fun e => by rw [e] at hkL; simp at hkL)
      have c0 := cell_grown_none hgw (hcs k hlt).1
      have c1 := cell_grown_none hgw (hcs k hlt).2
      have hs := cnt_take_succ L k hkL
      have hm := (unhide hg).mem (getD_mem L k hkL)
      have ht1 := cnt_take_le (unhide hg) k
      have ht2 := cnt_take_le (unhide hg) (k + 1)
      have hcx := unhide hcc
      generalize L.getD k (0, 0) = s at *
      obtain ⟨lo, hi⟩ := s
      simp only at c0 c1 hs hm
      generalize hx : cnt (L.take k) = x at *
      have hst : IntKind.u64.wrap (IntKind.u64.wrap hi - IntKind.u64.wrap lo) = hi - lo := by rw [IntKind.wrap_u64, IntKind.wrap_u64, IntKind.wrap_u64]; omega
      have hz : ¬ (hi - lo = 18446744073709551615) := by omega
      have hw2 : IntKind.u64.wrap (hi - lo + 1) = hi - lo + 1 := by rw [IntKind.wrap_u64]; omega
      have hw3 : IntKind.u64.wrap (x + (hi - lo + 1)) = x + (hi - lo + 1) := by rw [IntKind.wrap_u64]; omega
      have hkn : (k : Int) < (n : Int) := by omega
      have HS := hide hs
      have HG := hide hgw
      clear hs hm ht1 ht2 hcx hx hcs hgw hkL
      go_wp2
      exact ⟨⟨k + 1, by omega, by go_num, by rw [unhide HS], grown_trans (unhide HG) (grown_alloc _ _)⟩, by simp [intOf]; omega⟩
    · obtain rfl : k = n := by omega
      go_wp2
      go_ret
      have e := unhide HN
      subst e
      refine ⟨?_, hgw⟩
      simp

theorem total_full (v : Value) (w : World) (h : Row w v [(-9223372036854775808, 9223372036854775807)]) :
    Calls Tryz.prog 64 #[v] w fun e w' => e = .returned (.int .u64 18446744073709551615) ∧ w.grownBy w' none := by
  obtain ⟨a, c, rfl, hcells, hcm, hnc⟩ := h.shape
  obtain ⟨g, rfl, hcs⟩ := hcells.resolve_left (by simp)
  have c0 : w.cell? ⟨g, 0, none⟩ = some (.int .i64 (-9223372036854775808)) := (hcs 0 (by simp)).1
  have c1 : w.cell? ⟨g, 1, none⟩ = some (.int .i64 9223372036854775807) := (hcs 0 (by simp)).2
  unfold maxLen at hcm
  clear h hcells hcs
  simp only [List.length_cons, List.length_nil, Nat.zero_add]
  go_enter Tryz.func64, Tryz.ntmps64
  go_wp2
  go_loopw [3, 9] (fun u i wr => i = .int .i64 0 ∧ u = .int .u64 0 ∧ wr = w) (fun _ _ _ => 0)
  case atStart => exact ⟨rfl, rfl, rfl⟩
  case round =>
    obtain ⟨rfl, rfl, rfl⟩ := hrel
    go_wp2
    all_goals go_ret
    all_goals exact ⟨rfl, grown_alloc _ _⟩

theorem total_any (v : Value) (L : List Sp) (w : World) (h : Row w v L) (hL : Good (-9223372036854775808) 9223372036854775807 L) :
    Calls Tryz.prog 64 #[v] w fun e w' => e = .returned (.int .u64 (toldF L)) ∧ w.grownBy w' none := by
  have h0 := cnt_nonneg hL
  have h1 : cnt L ≤ 18446744073709551615 ∨ L = [(-9223372036854775808, 9223372036854775807)] := by
    rcases cnt_le hL with rfl | h1 | ⟨_, h1⟩
    · left; simp [cnt]
    · left; omega
    · exact .inr h1
  rcases h1 with h1 | rfl
  · have e : toldF L = cnt L := by unfold toldF; omega
    rw [e]
    exact total_room v L w h hL h1
  · exact total_full v w h
end Go.Proofs.YtnflbefbgcbdfaaGreat
