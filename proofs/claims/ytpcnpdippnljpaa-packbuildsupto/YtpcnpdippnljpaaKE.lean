import Derived.Test.YtpcnpdippnljpaaKD
namespace Go.Proofs.Ytpcnpdippnljpaa
open Go.RowKit
set_option maxRecDepth 100000
set_option linter.unusedVariables false

theorem bts_set (w : World) (l : List Int) (k : Nat) (x : Int) : (w.alloc (bts l)).setCell ⟨w.heap.size, k, none⟩ (.int .u8 x) = w.alloc (bts (l.set k x)) := by
  unfold bts
  rw [alloc_set]
  congr 2
  apply Array.toList_inj.1
  simp [List.map_set]
theorem bts_cell (w : World) (l : List Int) (k : Nat) (h : k < l.length) : (w.alloc (bts l)).cell? ⟨w.heap.size, k, none⟩ = some (.int .u8 (l.getD k 0)) := by
  unfold World.cell?
  simp only [heap_alloc_new]
  simp [bts, List.getD, h]
theorem bts_frozen (w : World) (l : List Int) (k : Nat) : (w.alloc (bts l)).frozen? ⟨w.heap.size, k, none⟩ = false := by
  unfold World.frozen?
  simp only [heap_alloc_new]
  simp [bts]
theorem bts_zero (n : Nat) : (Obj.cells (Array.replicate n (.int .u8 0)) 5) = bts (List.replicate n 0) := by
  unfold bts
  congr 1
  apply Array.toList_inj.1
  simp
theorem big_step (v : Int) (j k : Nat) : (List.replicate (j + 1) (0 : Int) ++ dig v k).set j (v / 256 ^ k % 256) = List.replicate j 0 ++ dig v (k + 1) := by
  rw [List.replicate_succ', List.append_assoc, List.set_append_right _ _ (by simp)]
  simp [dig]

set_option maxHeartbeats 800000 in
theorem big_arg (v n : Int) (w : World) (h : n < 0 ∨ 8 < n) :
    Calls Try.prog 45 #[.int .u64 v, .int .i64 n] w fun e w' => e = .returned (.tuple #[.slice none 0 0, .int .i64 1]) ∧ w' = w := by
  by_cases h0 : n < 0
  · clear h
    go_enter Try.func45, Try.ntmps45
    go_wp2
    go_ret2
    exact ⟨rfl, rfl⟩
  · have h1 : 8 < n := by omega
    clear h
    go_enter Try.func45, Try.ntmps45
    go_wp2
    go_ret2
    exact ⟨rfl, rfl⟩

def bigR (x : Int) (g n : Nat) : Value := if x = 0 then .tuple #[.slice (some ⟨g, 0, none⟩) n n, .int .i64 0] else .tuple #[.slice none 0 0, .int .i64 10]

set_option maxHeartbeats 800000 in
theorem big_loop (v : Int) (n : Nat) (w : World) (v0 : 0 ≤ v) (v1 : v < 18446744073709551616) (hn : n ≤ 8) :
    Calls Try.prog 45 #[.int .u64 v, .int .i64 n] w fun e w' => e = .returned (bigR (v / 256 ^ n) w.heap.size n) ∧ w' = w.alloc (bts (dig v n)) := by
  have h0 : ¬ (n : Int) < 0 := by omega
  have h1 : ¬ (8 : Int) < n := by omega
  go_enter Try.func45, Try.ntmps45
  go_wp2_with (first | (at_make; refine wpList_mk n hn _ rfl _ _ rfl rfl rfl ?_; rw [bts_zero]) | go_in)
  go_loopw [0, 7] (fun u i wr => ∃ (k : Nat) (q : Int), k ≤ n ∧ q + 1 + k = n ∧ i = .int .i64 q ∧ u = .int .u64 (v / 256 ^ k) ∧ wr = w.alloc (bts (List.replicate (n - k) 0 ++ dig v k))) (fun _ i _ => (intOf i + 1).toNat)
  case atStart => exact ⟨0, n - 1, by omega, by omega, rfl, by simp, by simp [dig]⟩
  case round =>
    obtain ⟨k, q, hk, hq, rfl, rfl, rfl⟩ := hrel
    have u0 : 0 ≤ v / 256 ^ k := Int.ediv_nonneg v0 (Int.le_of_lt (Int.pow_pos (by decide)))
    have u1 : v / 256 ^ k < 18446744073709551616 := Int.lt_of_le_of_lt (Int.ediv_le_self _ v0) v1
    by_cases hlt : 0 ≤ q
    · obtain ⟨j, rfl⟩ := Int.eq_ofNat_of_zero_le hlt
      have hj : n - k = j + 1 := by omega
      have hc := bts_cell w (List.replicate (j + 1) 0 ++ dig v k) j (by simp; omega)
      have hf := bts_frozen w (List.replicate (j + 1) 0 ++ dig v k) j
      have hs := bts_set w (List.replicate (j + 1) 0 ++ dig v k) j (v / 256 ^ k % 256)
      rw [big_step] at hs
      have hjn : j < n := by omega
      have HS : Hid (v / 256 ^ (k + 1) = v / 256 ^ k / 256) := by rw [Int.pow_succ, Int.ediv_ediv_of_nonneg (Int.le_of_lt (Int.pow_pos (by decide)))]; exact rfl
      have HQ := hide hq
      rw [hj]
      clear hq
      go_wp2
      go_roundw
      case rel => exact ⟨k + 1, j - 1, by omega, by have := unhide HQ; omega, by go_num, by rw [HS.out], by rw [show n - (k + 1) = j by omega]⟩
      case measure => simp [intOf]
    · have hkn : k = n := by omega
      subst hkn
      have hq1 : q = -1 := by omega
      subst hq1
      clear hq hlt
      rw [Nat.sub_self]
      by_cases hz : v / 256 ^ k = 0
      · have hz' : (v / 256 ^ k != 0) = false := by simp [hz]
        have HZ := hide hz
        clear hz
        go_wp2
        go_ret2
        exact ⟨by unfold bigR; rw [if_pos (unhide HZ)]; rfl, by simp⟩
      · have hz' : (v / 256 ^ k != 0) = true := by simp [hz]
        have HZ := hide hz
        clear hz
        go_wp2
        go_ret2
        exact ⟨by unfold bigR; rw [if_neg (unhide HZ)]; rfl, by simp⟩

/-- Big that answers. -/
theorem big_ok (v : Int) (n : Nat) (w : World) (v0 : 0 ≤ v) (v1 : v < 18446744073709551616) (hn : n ≤ 8) (h : v / 256 ^ n = 0) :
    Calls Try.prog 45 #[.int .u64 v, .int .i64 n] w fun e w' => e = .returned (.tuple #[.slice (some ⟨w.heap.size, 0, none⟩) n n, .int .i64 0]) ∧ w' = w.alloc (bts (dig v n)) := by
  have := big_loop v n w v0 v1 hn
  unfold bigR at this
  rw [if_pos h] at this
  exact this
theorem big_no (v : Int) (n : Nat) (w : World) (v0 : 0 ≤ v) (v1 : v < 18446744073709551616) (hn : n ≤ 8) (h : v / 256 ^ n ≠ 0) :
    Calls Try.prog 45 #[.int .u64 v, .int .i64 n] w fun e w' => e = .returned (.tuple #[.slice none 0 0, .int .i64 10]) ∧ w' = w.alloc (bts (dig v n)) := by
  have := big_loop v n w v0 v1 hn
  unfold bigR at this
  rw [if_neg h] at this
  exact this
end Go.Proofs.Ytpcnpdippnljpaa
