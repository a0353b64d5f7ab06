import Derived.Test.YtpcnpdippnljpaaKB
namespace Go.Proofs.Ytpcnpdippnljpaa
open Go.RowKit
set_option maxRecDepth 100000
set_option linter.unusedVariables false

theorem pow256_le (n : Nat) (h : n ≤ 8) : (256 : Int) ^ n ≤ 18446744073709551616 := by
  have : n = 0 ∨ n = 1 ∨ n = 2 ∨ n = 3 ∨ n = 4 ∨ n = 5 ∨ n = 6 ∨ n = 7 ∨ n = 8 := by omega
  rcases this with rfl | rfl | rfl | rfl | rfl | rfl | rfl | rfl | rfl <;> decide
theorem rd_sub0 {w : World} {b off : Nat} {l : List Int} (hb : ∀ x ∈ l, IsB x) (hc : ∀ i, i < l.length → w.cell? ⟨b, off + i, none⟩ = some (.int .u8 (l.getD i 0))) (k m : Nat) (h : k + m ≤ l.length) (a : Option Addr) (ha : m ≠ 0 → a = some ⟨b, off + k, none⟩) :
    Rd w a ((l.drop k).take m) := rd_sub hb hc k m h a ha 0

theorem readF_arg (l : List Int) (i n : Int) (h : n < 0 ∨ 8 < n ∨ i < 0 ∨ (l.length : Int) < i) : readF l i n = (0, 0, 1) := by unfold readF; rw [if_pos h]
theorem readF_short (l : List Int) (i n : Int) (h : ¬ (n < 0 ∨ 8 < n ∨ i < 0 ∨ (l.length : Int) < i)) (h2 : (l.length : Int) - i < n) : readF l i n = (0, 0, 11) := by unfold readF; rw [if_neg h, if_pos h2]
theorem readF_in (l : List Int) (k n : Nat) (h : n ≤ 8) (h2 : k + n ≤ l.length) : readF l k n = (joinF 0 ((l.drop k).take n), (k : Int) + (n : Int), 0) := by
  unfold readF; rw [if_neg (by omega), if_neg (by omega)]; simp

set_option maxHeartbeats 800000 in
theorem read_arg (a : Option Addr) (l : List Int) (cap : Nat) (i n : Int) (w : World) (h : n < 0 ∨ 8 < n ∨ i < 0 ∨ (l.length : Int) < i) (hm : l.length ≤ maxLen) :
    Calls Try.prog 72 #[.slice a l.length cap, .int .i64 i, .int .i64 n] w fun e w' => e = .returned (tup3 (readF l i n)) ∧ w' = w := by
  rw [readF_arg l i n h]
  unfold maxLen at hm
  by_cases h0 : n < 0
  · clear h
    go_enter Try.func72, Try.ntmps72
    go_wp2
    go_ret3
    exact ⟨rfl, rfl⟩
  by_cases h1 : 8 < n
  · clear h
    go_enter Try.func72, Try.ntmps72
    go_wp2
    go_ret3
    exact ⟨rfl, rfl⟩
  by_cases h2 : i < 0
  · clear h
    go_enter Try.func72, Try.ntmps72
    go_wp2
    go_ret3
    exact ⟨rfl, rfl⟩
  · have h3 : (l.length : Int) < i := by omega
    clear h
    go_enter Try.func72, Try.ntmps72
    go_wp2
    go_ret3
    exact ⟨rfl, rfl⟩

set_option maxHeartbeats 800000 in
theorem read_short (a : Option Addr) (l : List Int) (cap : Nat) (i n : Int) (w : World) (h : ¬ (n < 0 ∨ 8 < n ∨ i < 0 ∨ (l.length : Int) < i)) (h2 : (l.length : Int) - i < n) (hm : l.length ≤ maxLen) :
    Calls Try.prog 72 #[.slice a l.length cap, .int .i64 i, .int .i64 n] w fun e w' => e = .returned (tup3 (readF l i n)) ∧ w' = w := by
  rw [readF_short l i n h h2]
  unfold maxLen at hm
  have h3 : ¬ n < 0 := by omega
  have h4 : ¬ 8 < n := by omega
  have h5 : ¬ i < 0 := by omega
  have h6 : ¬ (l.length : Int) < i := by omega
  clear h
  go_enter Try.func72, Try.ntmps72
  go_wp2
  go_ret3
  exact ⟨rfl, rfl⟩

set_option maxHeartbeats 800000 in
theorem read_in (b off : Nat) (l : List Int) (cap k n : Nat) (w : World) (hb : ∀ x ∈ l, IsB x) (hc : ∀ i, i < l.length → w.cell? ⟨b, off + i, none⟩ = some (.int .u8 (l.getD i 0))) (hn8 : n ≤ 8) (h2 : k + n ≤ l.length) (hm : l.length ≤ cap) (hm2 : cap ≤ maxLen) :
    Calls Try.prog 72 #[.slice (some ⟨b, off, none⟩) l.length cap, .int .i64 k, .int .i64 n] w fun e w' => e = .returned (tup3 (readF l k n)) ∧ ∃ n, w' = w.drewN n := by
  rw [readF_in l k n hn8 h2]
  have HC := hide hc
  have HB := hide hb
  clear hc hb
  unfold maxLen at hm2
  have h3 : ¬ (n : Int) < 0 := by omega
  have h4 : ¬ (8 : Int) < n := by omega
  have h5 : ¬ (k : Int) < 0 := by omega
  have h6 : ¬ (l.length : Int) < k := by omega
  have h7 : ¬ (l.length : Int) - k < n := by omega
  go_enter Try.func72, Try.ntmps72
  go_wp2_with (go_at_call 88; (refine (join_any 0 1 _ ((l.drop k).take n) n _ _ (sub_len l k n h2) (rd_sub0 (unhide HB) (unhide HC) k n h2 _ (by intro _; first | rfl | omega)) (by decide) (by decide) (by rw [sub_len l k n h2, Int.one_mul]; exact pow256_le n hn8) (by rw [sub_len l k n h2]; exact hn8)).mono ?_); rintro e w' ⟨rfl, rfl⟩)
  all_goals go_ret3
  all_goals exact ⟨rfl, 0, rfl⟩

set_option maxHeartbeats 800000 in
/-- Nothing stands there, and nothing is asked for. -/
theorem read_none (a : Option Addr) (cap : Nat) (w : World) (hm2 : cap ≤ maxLen) :
    Calls Try.prog 72 #[.slice a 0 cap, .int .i64 0, .int .i64 0] w fun e w' => e = .returned (tup3 (0, 0, 0)) ∧ w' = w := by
  unfold maxLen at hm2
  go_enter Try.func72, Try.ntmps72
  go_wp2_with (go_at_call 88; refine (join_any 0 1 _ [] 0 _ _ rfl ⟨by simp, by simp⟩ (by decide) (by decide) (by decide) (by decide)).mono ?_; rintro e w' ⟨rfl, rfl⟩)
  all_goals go_ret3
  all_goals exact ⟨rfl, rfl⟩

theorem read_any (a : Option Addr) (l : List Int) (cap : Nat) (i n : Int) (w : World) (hr : Rd w a l) (hm : l.length ≤ cap) (hm2 : cap ≤ maxLen) :
    Calls Try.prog 72 #[.slice a l.length cap, .int .i64 i, .int .i64 n] w fun e w' => e = .returned (tup3 (readF l i n)) ∧ ∃ n, w' = w.drewN n := by
  by_cases h1 : n < 0 ∨ 8 < n ∨ i < 0 ∨ (l.length : Int) < i
  · exact (read_arg a l cap i n w h1 (by omega)).mono fun e w' ⟨he, hw⟩ => ⟨he, 0, by rw [hw]; rfl⟩
  · by_cases h2 : (l.length : Int) - i < n
    · exact (read_short a l cap i n w h1 h2 (by omega)).mono fun e w' ⟨he, hw⟩ => ⟨he, 0, by rw [hw]; rfl⟩
    · obtain ⟨k, rfl⟩ := Int.eq_ofNat_of_zero_le (show 0 ≤ i by omega)
      obtain ⟨n, rfl⟩ := Int.eq_ofNat_of_zero_le (show 0 ≤ n by omega)
      obtain ⟨hb, hc⟩ := hr
      by_cases hl : l = []
      · subst hl
        simp only [List.length_nil] at h1 h2
        have hk : k = 0 := by omega
        have hn : n = 0 := by omega
        subst hk hn
        exact (read_none a cap w hm2).mono fun e w' ⟨he, hw⟩ => ⟨he, 0, by rw [hw]; rfl⟩
      · obtain ⟨b, off, rfl, hcc⟩ := hc hl
        exact read_in b off l cap k n w hb hcc (by omega) (by omega) hm hm2
end Go.Proofs.Ytpcnpdippnljpaa
