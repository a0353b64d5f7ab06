import Derived.Test.YtommpeibdohdjaaWH
namespace Go.Proofs.Ytommpeibdohdjaa
open Go.RowKit
set_option linter.unusedVariables false

theorem joinF_room (S : List Int) (hS : ∀ x ∈ S, IsB x) (u B : Int) (u0 : 0 ≤ u) (u1 : u < B) (hB : B * 256 ^ S.length ≤ 18446744073709551616) (k : Nat) (hk : k < S.length) :
    0 ≤ joinF u (S.take k) ∧ joinF u (S.take k) * 256 + 255 < 18446744073709551616 := by
  have h2 := joinF_lt (S.take k) (fun x hx => hS x (List.mem_of_mem_take hx)) u B u0 u1
  refine ⟨h2.1, ?_⟩
  rw [show (S.take k).length = k by simp; omega] at h2
  have h3 : B * 256 ^ k * 256 ≤ B * 256 ^ S.length := by
    have : (256 : Int) ^ (k + 1) ≤ 256 ^ S.length := by
      have := Int.ofNat_le.2 (Nat.pow_le_pow_right (n := 256) (by omega) (show k + 1 ≤ S.length from hk))
      rw [Int.natCast_pow, Int.natCast_pow] at this
      exact this
    rw [Int.mul_assoc, ← Int.pow_succ]
    exact Int.mul_le_mul_of_nonneg_left this (by omega)
  omega

theorem sub_get (l : List Int) (k n j : Nat) (hj : j < n) : ((l.drop k).take n).getD j 0 = l.getD (k + j) 0 := by
  simp [List.getD, hj]

/-! ReadBig -/
set_option maxHeartbeats 800000 in
theorem rread_arg (a : Option Addr) (l : List Int) (cap : Nat) (i n : Int) (w : World) (h : n < 0 ∨ 8 < n ∨ i < 0 ∨ (l.length : Int) < i) (hm : l.length ≤ maxLen) :
    Calls Try.prog 30 #[.slice a l.length cap, .int .i64 i, .int .i64 n] w fun e w' => e = .returned (tup3 (readF l i n)) ∧ w' = w := by
  rw [readF_arg l i n h]
  unfold maxLen at hm
  by_cases h0 : n < 0
  · clear h
    go_enter Try.func30, Try.ntmps30
    go_wp2
    go_ret3
    exact ⟨rfl, rfl⟩
  by_cases h1 : 8 < n
  · clear h
    go_enter Try.func30, Try.ntmps30
    go_wp2
    go_ret3
    exact ⟨rfl, rfl⟩
  by_cases h2 : i < 0
  · clear h
    go_enter Try.func30, Try.ntmps30
    go_wp2
    go_ret3
    exact ⟨rfl, rfl⟩
  · have h3 : (l.length : Int) < i := by omega
    clear h
    go_enter Try.func30, Try.ntmps30
    go_wp2
    go_ret3
    exact ⟨rfl, rfl⟩

set_option maxHeartbeats 800000 in
theorem rread_short (a : Option Addr) (l : List Int) (cap : Nat) (i n : Int) (w : World) (h : ¬ (n < 0 ∨ 8 < n ∨ i < 0 ∨ (l.length : Int) < i)) (h2 : (l.length : Int) - i < n) (hm : l.length ≤ maxLen) :
    Calls Try.prog 30 #[.slice a l.length cap, .int .i64 i, .int .i64 n] w fun e w' => e = .returned (tup3 (readF l i n)) ∧ w' = w := by
  rw [readF_short l i n h h2]
  unfold maxLen at hm
  have h3 : ¬ n < 0 := by omega
  have h4 : ¬ 8 < n := by omega
  have h5 : ¬ i < 0 := by omega
  have h6 : ¬ (l.length : Int) < i := by omega
  clear h
  go_enter Try.func30, Try.ntmps30
  go_wp2
  go_ret3
  exact ⟨rfl, rfl⟩

set_option maxHeartbeats 800000 in
theorem rread_in (a : Option Addr) (l : List Int) (cap k n : Nat) (w : World) (hr : Rd w a l) (hn8 : n ≤ 8) (h2 : k + n ≤ l.length) (hm : l.length ≤ maxLen) :
    Calls Try.prog 30 #[.slice a l.length cap, .int .i64 k, .int .i64 n] w fun e w' => e = .returned (tup3 (readF l k n)) ∧ w' = w := by
  rw [readF_in l k n hn8 h2]
  have hsl := sub_len l k n h2
  have hsb : ∀ x ∈ (l.drop k).take n, IsB x := fun x hx => hr.1 x (List.mem_of_mem_drop (List.mem_of_mem_take hx))
  have room := joinF_room _ hsb 0 1 (by decide) (by decide) (by rw [hsl, Int.one_mul]; exact pow256_le n hn8)
  have get : ∀ j, j < n → ((l.drop k).take n).getD j 0 = l.getD (k + j) 0 := fun j hj => sub_get l k n j hj
  rw [hsl] at room
  have ROOM := hide room; have GET := hide get; have HR := hide hr; have HSL := hide hsl; have HSB := hide hsb
  clear room get hr hsl hsb
  unfold maxLen at hm
  have h3 : ¬ (n : Int) < 0 := by omega
  have h4 : ¬ (8 : Int) < n := by omega
  have h5 : ¬ (k : Int) < 0 := by omega
  have h6 : ¬ (l.length : Int) < k := by omega
  have h7 : ¬ (l.length : Int) - k < n := by omega
  generalize (l.drop k).take n = S at *
  go_enter Try.func30, Try.ntmps30
  go_wp2
  go_loop [9, 10] (fun u i => ∃ j : Nat, j ≤ n ∧ i = .int .i64 j ∧ u = .int .u64 (joinF 0 (S.take j))) (fun _ i => n - (intOf i).toNat)
  case atStart => exact ⟨0, Nat.zero_le _, rfl, rfl⟩
  case round =>
    obtain ⟨j, hj, rfl, rfl⟩ := hrel
    by_cases hlt : j < n
    · obtain ⟨b, off, rfl, hcell⟩ := (unhide HR).2 (by intro e; rw [e] at h2; simp at h2; omega)
      have hck := hcell (k + j) (by omega)
      rw [← unhide GET j hlt] at hck
      obtain ⟨b0, b1⟩ := (unhide HSB) (S.getD j 0) (by have := unhide HSL; simp [List.getD, show j < S.length by omega])
      obtain ⟨j0, j1⟩ := (unhide ROOM) j hlt
      have HS : Hid (joinF 0 (S.take (j + 1)) = joinF 0 (S.take j) * 256 + S.getD j 0) := by rw [take_snoc S j (by have := unhide HSL; omega), joinF_snoc]; exact rfl
      generalize S.getD j 0 = x at hck b0 b1 HS
      clear hcell
      have hc2 : (256 : Int) * joinF 0 (S.take j) = joinF 0 (S.take j) * 256 := Int.mul_comm _ _
      generalize joinF 0 (S.take j) = J at j0 j1 HS hc2 ⊢
      have hkj : ((k : Int) + j).toNat = k + j := by omega
      go_wp2
      go_round
      case rel => exact ⟨j + 1, by omega, by go_num, by rw [HS.out]⟩
      case measure => simp [intOf]; omega
    · go_wp2
      go_ret3
      exact ⟨by rw [List.take_of_length_le (by have := unhide HSL; omega)]; rfl, rfl⟩

theorem rread_any (a : Option Addr) (l : List Int) (cap : Nat) (i n : Int) (w : World) (hr : Rd w a l) (hm : l.length ≤ maxLen) :
    Calls Try.prog 30 #[.slice a l.length cap, .int .i64 i, .int .i64 n] w fun e w' => e = .returned (tup3 (readF l i n)) ∧ w' = w := by
  by_cases h1 : n < 0 ∨ 8 < n ∨ i < 0 ∨ (l.length : Int) < i
  · exact rread_arg a l cap i n w h1 hm
  · by_cases h2 : (l.length : Int) - i < n
    · exact rread_short a l cap i n w h1 h2 hm
    · obtain ⟨k, rfl⟩ := Int.eq_ofNat_of_zero_le (show 0 ≤ i by omega)
      obtain ⟨n, rfl⟩ := Int.eq_ofNat_of_zero_le (show 0 ≤ n by omega)
      exact rread_in a l cap k n w hr (by omega) (by omega) hm
end Go.Proofs.Ytommpeibdohdjaa
