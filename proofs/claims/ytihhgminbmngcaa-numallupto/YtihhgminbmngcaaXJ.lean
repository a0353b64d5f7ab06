import Derived.Test.YtihhgminbmngcaaXH
namespace Go.Proofs.Ytihhgminbmngcaa
open Go.RowKit
set_option linter.unusedVariables false
set_option maxRecDepth 100000

theorem joinF_room (S : List Int) (hS : ∀ x ∈ S, IsB x) (u B : Int) (u0 : 0 ≤ u) (u1 : u < B) (hB : B * 256 ^ S.length ≤ 18446744073709551616) (k : Nat) (hk : k < S.length) :
    0 ≤ joinF u (S.take k) ∧ joinF u (S.take k) * 256 + 255 < 18446744073709551616 := by
  have h2 := joinF_lt (S.take k) (fun x hx => hS x (List.mem_of_mem_take hx)) u B u0 u1
  refine ⟨h2.1, ?_⟩
  rw [show (S.take k).length = k by simp; omega] at h2
  have h3 : B * 256 ^ k * 256 ≤ B * 256 ^ S.length := by
    have : (256 : Int) ^ (k + 1) ≤ 256 ^ S.length := by
      have := Int.ofNat_le.2 (Nat.pow_le_pow_right (n := 256) (by omega) (show k + 1 ≤ S.length from hk))
      rw [Int.natCast_pow, Int.natCast_pow] at this
      exact this
    rw [Int.mul_assoc, ← Int.pow_succ]
    exact Int.mul_le_mul_of_nonneg_left this (by omega)
  omega

theorem sub_get (l : List Int) (k n j : Nat) (hj : j < n) : ((l.drop k).take n).getD j 0 = l.getD (k + j) 0 := by
  simp [List.getD, hj]


set_option maxHeartbeats 800000 in
theorem rget_arg (a : Option Addr) (l : List Int) (cap : Nat) (i : Int) (w : World) (h : i < 0 ∨ (l.length : Int) < i) (hm : l.length ≤ maxLen) :
    Calls Try.prog 15 #[.slice a l.length cap, .int .i64 i] w fun e w' => e = .returned (tup3 (getF l i)) ∧ w' = w := by
  rw [getF_arg l i h]
  unfold maxLen at hm
  by_cases h0 : i < 0
  · clear h
    go_enter Try.func15, Try.ntmps15
    go_wp2
    go_ret3
    exact ⟨rfl, rfl⟩
  · have h1 : (l.length : Int) < i := by omega
    clear h
    go_enter Try.func15, Try.ntmps15
    go_wp2
    go_ret3
    exact ⟨rfl, rfl⟩

set_option maxHeartbeats 800000 in
theorem rget_end (a : Option Addr) (l : List Int) (cap : Nat) (w : World) (hm : l.length ≤ maxLen) :
    Calls Try.prog 15 #[.slice a l.length cap, .int .i64 l.length] w fun e w' => e = .returned (tup3 (getF l l.length)) ∧ w' = w := by
  rw [getF_end l]
  unfold maxLen at hm
  have h0 : ¬ (l.length : Int) < 0 := by omega
  go_enter Try.func15, Try.ntmps15
  go_wp2
  go_ret3
  exact ⟨rfl, rfl⟩

set_option maxHeartbeats 1600000 in
theorem rget_in (b off : Nat) (l : List Int) (cap k n q : Nat) (x : Int) (w : World) (hm : l.length ≤ maxLen) (hk : k < l.length) (hb : ∀ x ∈ l, IsB x) (hc : ∀ i, i < l.length → w.cell? ⟨b, off + i, none⟩ = some (.int .u8 (l.getD i 0)))
    (hxl : l.getD k 0 = x) (hq : x / 64 = q) (hqn : szA q = n) (hsz : sz x = n) (hq4 : q < 4) (n1 : 1 ≤ n) (n8 : n ≤ 8) (x0 : 0 ≤ x) (x1 : x ≤ 255) :
    Calls Try.prog 15 #[.slice (some ⟨b, off, none⟩) l.length cap, .int .i64 k] w fun e w' => e = .returned (tup3 (getF l k)) ∧ w' = w.alloc szs := by
  have hx : w.cell? ⟨b, off + k, none⟩ = some (.int .u8 x) := by rw [hc k hk, hxl]
  have hbl := World.block_lt_of_cell? w _ hx
  have hx' : (w.alloc szs).cell? ⟨b, off + k, none⟩ = some (.int .u8 x) := by rw [World.cell?_of_block (Below.heap_alloc w szs _ hbl)]; exact hx
  have hcq : (w.alloc szs).cell? ⟨w.heap.size, q, none⟩ = some (.int .i64 n) := by rw [szs_cell (heap_alloc_new w szs) q hq4, hqn]
  unfold maxLen at hm
  have h0 : ¬ (k : Int) < 0 := by omega
  have h1 : ¬ (l.length : Int) < k := by omega
  have h2 : ((k : Int) == l.length) = false := by simp; omega
  have q0 : (0 : Int) ≤ q := by omega
  have q4 : (q : Int) < 4 := by omega
  by_cases hs : k + n ≤ l.length
  · rw [getF_in l k n x hxl hsz hs hk]
    have h3 : ¬ (l.length : Int) - k < n := by omega
    have hsl := sub_len l (k + 1) (n - 1) (by omega)
    have hsb : ∀ x ∈ (l.drop (k + 1)).take (n - 1), IsB x := fun x hx => hb x (List.mem_of_mem_drop (List.mem_of_mem_take hx))
    have room := joinF_room _ hsb (x % 64) 64 (by omega) (by omega) (by
      rw [hsl]
      have : n = 1 ∨ n = 2 ∨ n = 3 ∨ n = 4 ∨ n = 5 ∨ n = 6 ∨ n = 7 ∨ n = 8 := by omega
      rcases this with rfl | rfl | rfl | rfl | rfl | rfl | rfl | rfl <;> decide)
    have cel : ∀ j, j < n - 1 → (w.alloc szs).cell? ⟨b, off + (k + (1 + j)), none⟩ = some (.int .u8 (((l.drop (k + 1)).take (n - 1)).getD j 0)) := fun j hj => by
      rw [World.cell?_of_block (a := ⟨b, off + (k + (1 + j)), none⟩) (Below.heap_alloc w szs _ hbl), sub_get l (k + 1) (n - 1) j hj, show k + (1 + j) = k + 1 + j by omega]
      exact hc _ (by omega)
    rw [hsl] at room
    have ROOM := hide room; have CEL := hide cel; have HSL := hide hsl; have HSB := hide hsb
    clear room cel hsl hsb hb hc hxl hqn hsz hx
    generalize (l.drop (k + 1)).take (n - 1) = S at *
    go_enter Try.func15, Try.ntmps15
    go_wp2_with (go_at_call 19; refine (sizes_any _).mono ?_; rintro e w' ⟨rfl, rfl⟩)
    go_loop [9, 10] (fun u i => ∃ j : Nat, j ≤ n - 1 ∧ i = .int .i64 (1 + (j : Int)) ∧ u = .int .u64 (joinF (x % 64) (S.take j))) (fun _ i => n - (intOf i).toNat)
    case atStart => exact ⟨0, Nat.zero_le _, rfl, rfl⟩
    case round =>
      obtain ⟨j, hj, rfl, rfl⟩ := hrel
      by_cases hlt : j < n - 1
      · have hck := (unhide CEL) j hlt
        obtain ⟨b0, b1⟩ := (unhide HSB) (S.getD j 0) (by have := unhide HSL; simp [List.getD, show j < S.length by omega])
        obtain ⟨j0, j1⟩ := (unhide ROOM) j hlt
        have HS : Hid (joinF (x % 64) (S.take (j + 1)) = joinF (x % 64) (S.take j) * 256 + S.getD j 0) := by rw [take_snoc S j (by have := unhide HSL; omega), joinF_snoc]; exact rfl
        generalize S.getD j 0 = y at hck b0 b1 HS
        have hc2 : (256 : Int) * joinF (x % 64) (S.take j) = joinF (x % 64) (S.take j) * 256 := Int.mul_comm _ _
        generalize joinF (x % 64) (S.take j) = J at j0 j1 HS hc2 ⊢
        have hlt' : (1 : Int) + j < n := by omega
        go_wp2_with fail
        go_round
        case rel => exact ⟨j + 1, by omega, by go_num, by rw [HS.out]⟩
        case measure => simp [intOf]; omega
      · have hlt' : ¬ (1 : Int) + j < n := by omega
        go_wp2_with fail
        go_ret3
        exact ⟨by rw [List.take_of_length_le (by have := unhide HSL; omega)]; rfl, rfl⟩
  · rw [getF_short l k n x hxl hsz hs hk]
    have h3 : (l.length : Int) - k < n := by omega
    clear hxl hsz hqn hb hc hx
    go_enter Try.func15, Try.ntmps15
    go_wp2_with (go_at_call 19; refine (sizes_any _).mono ?_; rintro e w' ⟨rfl, rfl⟩)
    go_ret3
    exact ⟨rfl, rfl⟩

theorem rget_any (a : Option Addr) (l : List Int) (cap : Nat) (i : Int) (w : World) (hr : Rd w a l) (hm : l.length ≤ maxLen) :
    Calls Try.prog 15 #[.slice a l.length cap, .int .i64 i] w fun e w' => e = .returned (tup3 (getF l i)) ∧ Below w.heap.size w w' := by
  by_cases h1 : i < 0 ∨ (l.length : Int) < i
  · exact (rget_arg a l cap i w h1 hm).mono fun e w' ⟨he, hw⟩ => ⟨he, by rw [hw]; exact Below.refl _ _⟩
  · by_cases h2 : i = l.length
    · subst h2
      exact (rget_end a l cap w hm).mono fun e w' ⟨he, hw⟩ => ⟨he, by rw [hw]; exact Below.refl _ _⟩
    · obtain ⟨k, rfl⟩ := Int.eq_ofNat_of_zero_le (show 0 ≤ i by omega)
      have hk : k < l.length := by omega
      obtain ⟨hb, hc⟩ := hr
      obtain ⟨b, off, rfl, hcc⟩ := hc (by intro e; simp [e] at hk)
      have hx := hb (l.getD k 0) (by simp [List.getD, hk])
      unfold IsB at hx
      have key : ∀ q n : Nat, l.getD k 0 / 64 = q → szA q = n → sz (l.getD k 0) = n → q < 4 → 1 ≤ n → n ≤ 8 → Calls Try.prog 15 #[.slice (some ⟨b, off, none⟩) l.length cap, .int .i64 k] w fun e w' => e = .returned (tup3 (getF l k)) ∧ Below w.heap.size w w' := fun q n g1 g2 g3 g4 g5 g6 =>
        (rget_in b off l cap k n q _ w hm hk hb hcc rfl g1 g2 g3 g4 g5 g6 hx.1 hx.2).mono fun e w' ⟨he, hw⟩ => ⟨he, by rw [hw]; exact (Below.refl _ _).alloc (Nat.le_refl _) _⟩
      have : l.getD k 0 / 64 = 0 ∨ l.getD k 0 / 64 = 1 ∨ l.getD k 0 / 64 = 2 ∨ l.getD k 0 / 64 = 3 := by omega
      rcases this with h | h | h | h
      · exact key 0 1 h rfl (by unfold sz; (repeat' split) <;> omega) (by omega) (by omega) (by omega)
      · exact key 1 2 h rfl (by unfold sz; (repeat' split) <;> omega) (by omega) (by omega) (by omega)
      · exact key 2 4 h rfl (by unfold sz; (repeat' split) <;> omega) (by omega) (by omega) (by omega)
      · exact key 3 8 h rfl (by unfold sz; (repeat' split) <;> omega) (by omega) (by omega) (by omega)
end Go.Proofs.Ytihhgminbmngcaa
