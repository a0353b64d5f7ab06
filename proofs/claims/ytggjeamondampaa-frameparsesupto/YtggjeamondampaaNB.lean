import Derived.Test.YtggjeamondampaaNA
import Derived.Deep.QuietTactic
import Derived.BigQuiet
namespace Go.Proofs.Ytggjeamondampaa
open Go.RowKit
set_option linter.unusedVariables false
set_option maxRecDepth 100000

set_option maxHeartbeats 400000 in
theorem join_any (v B : Int) (a : Option Addr) (l : List Int) (n cap : Nat) (w : World) (hn : l.length = n) (hr : Rd w a l) (h0 : 0 ≤ v) (h1 : v < B) (hB : B * 256 ^ l.length ≤ 18446744073709551616) (hlen : l.length ≤ 8) :
    Calls Try.prog 97 #[.int .u64 v, .slice a n cap] w fun e w' => e = .returned (.int .u64 (joinF v l)) ∧ w' = w := by
  subst hn
  obtain ⟨hb, hc⟩ := hr
  have hb' : ∀ k, k < l.length → 0 ≤ l.getD k 0 ∧ l.getD k 0 ≤ 255 := fun k hk => by
    have := hb (l.getD k 0) (by simp [List.getD, hk])
    exact this
  have hlt : ∀ k, k < l.length → 0 ≤ joinF v (l.take k) ∧ joinF v (l.take k) * 256 < 18446744073709551616 := fun k hk => by
    have h2 := joinF_lt (l.take k) (fun x hx => hb x (List.mem_of_mem_take hx)) v B h0 h1
    refine ⟨h2.1, ?_⟩
    have e : (l.take k).length = k := by simp; omega
    rw [e] at h2
    have h3 : B * 256 ^ k * 256 ≤ B * 256 ^ l.length := by
      have : (256 : Int) ^ (k + 1) ≤ 256 ^ l.length := by
        have := Int.ofNat_le.2 (Nat.pow_le_pow_right (n := 256) (by omega) (show k + 1 ≤ l.length from hk))
        rw [Int.natCast_pow, Int.natCast_pow] at this
        exact this
      rw [Int.mul_assoc, ← Int.pow_succ]
      exact Int.mul_le_mul_of_nonneg_left this (by omega)
    omega
  go_enter Try.func97, Try.ntmps97
  go_wp2
  go_loop [0, 9] (fun u i => ∃ k : Nat, k ≤ l.length ∧ i = .int .i64 k ∧ u = .int .u64 (joinF v (l.take k))) (fun _ i => l.length - (intOf i).toNat)
  case atStart => exact ⟨0, Nat.zero_le _, rfl, rfl⟩
  case round =>
    obtain ⟨k, hk, rfl, rfl⟩ := hrel
    by_cases hlt' : k < l.length
    · obtain ⟨b, off, rfl, hcell⟩ := hc (by intro e; simp [e] at hlt')
      have hck := hcell k hlt'
      obtain ⟨b0, b1⟩ := hb' k hlt'
      obtain ⟨j0, j1⟩ := hlt k hlt'
      have hor := or_low _ _ j0 j1 b0 b1
      have hsn := take_snoc l k hlt'
      have HS : Hid (joinF v (l.take (k + 1)) = joinF v (l.take k) * 256 + l.getD k 0) := by rw [hsn, joinF_snoc]; exact rfl
      clear hsn hcell hc hb hb' hlt
      generalize l.getD k 0 = x at hck b0 b1 hor HS
      go_wp2
      go_round
      case rel => exact ⟨k + 1, by omega, by go_num, by rw [HS.out]⟩
      case measure => simp [intOf]; omega
    · go_wp2
      go_ret
      exact ⟨ret_int (by rw [List.take_of_length_le (by omega)]), rfl⟩

abbrev tup3 (x : Int × Int × Int) : Value := .tuple #[.int .u64 x.1, .int .i64 x.2.1, .int .i64 x.2.2]

theorem getF_arg (l : List Int) (i : Int) (h : i < 0 ∨ (l.length : Int) < i) : getF l i = (0, 0, 1) := by unfold getF; rw [if_pos h]
theorem getF_end (l : List Int) : getF l l.length = (0, 0, 11) := by unfold getF; rw [if_neg (by omega), if_pos rfl]

set_option maxHeartbeats 400000 in
theorem get_arg (a : Option Addr) (l : List Int) (cap : Nat) (i : Int) (w : World) (h : i < 0 ∨ (l.length : Int) < i) (hm : l.length ≤ maxLen) :
    Calls Try.prog 89 #[.slice a l.length cap, .int .i64 i] w fun e w' => e = .returned (tup3 (getF l i)) ∧ w' = w := by
  rw [getF_arg l i h]
  unfold maxLen at hm
  by_cases h0 : i < 0
  · clear h
    go_enter Try.func89, Try.ntmps89
    go_wp2
    go_ret3
    exact ⟨rfl, rfl⟩
  · have h1 : (l.length : Int) < i := by omega
    clear h
    go_enter Try.func89, Try.ntmps89
    go_wp2
    go_ret3
    exact ⟨rfl, rfl⟩

set_option maxHeartbeats 400000 in
theorem get_end (a : Option Addr) (l : List Int) (cap : Nat) (w : World) (hm : l.length ≤ maxLen) :
    Calls Try.prog 89 #[.slice a l.length cap, .int .i64 l.length] w fun e w' => e = .returned (tup3 (getF l l.length)) ∧ w' = w := by
  rw [getF_end l]
  unfold maxLen at hm
  have h0 : ¬ (l.length : Int) < 0 := by omega
  go_enter Try.func89, Try.ntmps89
  go_wp2
  go_ret3
  exact ⟨rfl, rfl⟩

theorem sub_len (l : List Int) (k m : Nat) (h : k + m ≤ l.length) : ((l.drop k).take m).length = m := by simp; omega
theorem rd_sub {w : World} {b off : Nat} {l : List Int} (hb : ∀ x ∈ l, IsB x) (hc : ∀ i, i < l.length → w.cell? ⟨b, off + i, none⟩ = some (.int .u8 (l.getD i 0))) (k m : Nat) (h : k + m ≤ l.length) (a : Option Addr) (ha : m ≠ 0 → a = some ⟨b, off + k, none⟩) (q : Nat) :
    Rd (w.drewN q) a ((l.drop k).take m) := by
  refine ⟨fun x hx => hb x (List.mem_of_mem_drop (List.mem_of_mem_take hx)), fun hne => ⟨b, off + k, ha ?_, fun i hi => ?_⟩⟩
  · intro e; subst e; simp at hne
  · have hi' : i < m := by rw [sub_len l k m h] at hi; exact hi
    have := hc (k + i) (by omega)
    rw [World.cell?_drewN, Nat.add_assoc, this]
    congr 2
    simp [List.getD, hi']

theorem getF_in (l : List Int) (k n : Nat) (x : Int) (hx : l.getD k 0 = x) (hn : sz x = n) (h : k + n ≤ l.length) (hk : k < l.length) : getF l k = (joinF (x % 64) ((l.drop (k + 1)).take (n - 1)), (k : Int) + (n : Int), 0) := by
  unfold getF
  rw [if_neg (by omega), if_neg (by omega)]
  simp only [Int.toNat_natCast, hx, hn]
  rw [if_neg (by omega)]
theorem getF_short (l : List Int) (k n : Nat) (x : Int) (hx : l.getD k 0 = x) (hn : sz x = n) (h : ¬ k + n ≤ l.length) (hk : k < l.length) : getF l k = (0, 0, 11) := by
  unfold getF
  rw [if_neg (by omega), if_neg (by omega)]
  simp only [Int.toNat_natCast, hx, hn]
  rw [if_pos (by omega)]

set_option maxHeartbeats 400000 in
theorem get_in1 (b off : Nat) (l : List Int) (cap k : Nat) (x : Int) (w : World) (hm : l.length ≤ cap) (hm2 : cap ≤ maxLen) (hk : k < l.length) (hb : ∀ x ∈ l, IsB x) (hc : ∀ i, i < l.length → w.cell? ⟨b, off + i, none⟩ = some (.int .u8 (l.getD i 0)))
    (hxl : l.getD k 0 = x) (hq : x / 64 = 0) (x0 : 0 ≤ x) (x1 : x ≤ 255) :
    Calls Try.prog 89 #[.slice (some ⟨b, off, none⟩) l.length cap, .int .i64 k] w fun e w' => e = .returned (tup3 (getF l k)) ∧ ∃ n, w' = w.drewN n := by
  have hx : w.cell? ⟨b, off + k, none⟩ = some (.int .u8 x) := by rw [hc k hk, hxl]
  have HX := hide hxl
  have HC := hide hc
  have HB := hide hb
  clear hc hb
  have hsz : sz x = 1 := by unfold sz; (repeat' split) <;> omega
  unfold maxLen at hm2
  have h0 : ¬ (k : Int) < 0 := by omega
  have h1 : ¬ (l.length : Int) < k := by omega
  have h2 : ((k : Int) == l.length) = false := by simp; omega
  have ha := and_63 x x0 x1
  by_cases hs : k + 1 ≤ l.length
  · rw [getF_in l k 1 x hxl hsz hs hk]
    clear hxl hsz
    go_enter Try.func89, Try.ntmps89
    go_wp2
    go_quiet ((go_at_call 97; exact Calls.quiet_of_same (join_any (x % 64) 64 _ ((l.drop (k + 1)).take 0) 0 _ _ (sub_len l (k + 1) 0 (by omega)) (rd_sub (unhide HB) (unhide HC) (k + 1) 0 (by omega) _ (by intro _; first | rfl | omega) _) (by omega) (by omega) (by rw [sub_len l (k + 1) 0 (by omega)]; decide) (by rw [sub_len l (k + 1) 0 (by omega)]; decide))))
    all_goals go_wp2
    all_goals go_ret3
    all_goals exact ⟨rfl, _, rfl⟩
  · rw [getF_short l k 1 x hxl hsz hs hk]
    clear hxl hsz
    have h3 : (l.length : Int) - k < 1 := by omega
    go_enter Try.func89, Try.ntmps89
    go_wp2
    go_ret3
    exact ⟨rfl, 0, rfl⟩

set_option maxHeartbeats 400000 in
theorem get_in2 (b off : Nat) (l : List Int) (cap k : Nat) (x : Int) (w : World) (hm : l.length ≤ cap) (hm2 : cap ≤ maxLen) (hk : k < l.length) (hb : ∀ x ∈ l, IsB x) (hc : ∀ i, i < l.length → w.cell? ⟨b, off + i, none⟩ = some (.int .u8 (l.getD i 0)))
    (hxl : l.getD k 0 = x) (hq : x / 64 = 1) (x0 : 0 ≤ x) (x1 : x ≤ 255) :
    Calls Try.prog 89 #[.slice (some ⟨b, off, none⟩) l.length cap, .int .i64 k] w fun e w' => e = .returned (tup3 (getF l k)) ∧ ∃ n, w' = w.drewN n := by
  have hx : w.cell? ⟨b, off + k, none⟩ = some (.int .u8 x) := by rw [hc k hk, hxl]
  have HX := hide hxl
  have HC := hide hc
  have HB := hide hb
  clear hc hb
  have hsz : sz x = 2 := by unfold sz; (repeat' split) <;> omega
  unfold maxLen at hm2
  have h0 : ¬ (k : Int) < 0 := by omega
  have h1 : ¬ (l.length : Int) < k := by omega
  have h2 : ((k : Int) == l.length) = false := by simp; omega
  have ha := and_63 x x0 x1
  by_cases hs : k + 2 ≤ l.length
  · rw [getF_in l k 2 x hxl hsz hs hk]
    clear hxl hsz
    go_enter Try.func89, Try.ntmps89
    go_wp2
    go_quiet ((go_at_call 97; exact Calls.quiet_of_same (join_any (x % 64) 64 _ ((l.drop (k + 1)).take 1) 1 _ _ (sub_len l (k + 1) 1 (by omega)) (rd_sub (unhide HB) (unhide HC) (k + 1) 1 (by omega) _ (by intro _; first | rfl | omega) _) (by omega) (by omega) (by rw [sub_len l (k + 1) 1 (by omega)]; decide) (by rw [sub_len l (k + 1) 1 (by omega)]; decide))))
    all_goals go_wp2
    all_goals go_ret3
    all_goals exact ⟨rfl, _, rfl⟩
  · rw [getF_short l k 2 x hxl hsz hs hk]
    clear hxl hsz
    have h3 : (l.length : Int) - k < 2 := by omega
    go_enter Try.func89, Try.ntmps89
    go_wp2
    go_ret3
    exact ⟨rfl, 0, rfl⟩

set_option maxHeartbeats 400000 in
theorem get_in4 (b off : Nat) (l : List Int) (cap k : Nat) (x : Int) (w : World) (hm : l.length ≤ cap) (hm2 : cap ≤ maxLen) (hk : k < l.length) (hb : ∀ x ∈ l, IsB x) (hc : ∀ i, i < l.length → w.cell? ⟨b, off + i, none⟩ = some (.int .u8 (l.getD i 0)))
    (hxl : l.getD k 0 = x) (hq : x / 64 = 2) (x0 : 0 ≤ x) (x1 : x ≤ 255) :
    Calls Try.prog 89 #[.slice (some ⟨b, off, none⟩) l.length cap, .int .i64 k] w fun e w' => e = .returned (tup3 (getF l k)) ∧ ∃ n, w' = w.drewN n := by
  have hx : w.cell? ⟨b, off + k, none⟩ = some (.int .u8 x) := by rw [hc k hk, hxl]
  have HX := hide hxl
  have HC := hide hc
  have HB := hide hb
  clear hc hb
  have hsz : sz x = 4 := by unfold sz; (repeat' split) <;> omega
  unfold maxLen at hm2
  have h0 : ¬ (k : Int) < 0 := by omega
  have h1 : ¬ (l.length : Int) < k := by omega
  have h2 : ((k : Int) == l.length) = false := by simp; omega
  have ha := and_63 x x0 x1
  by_cases hs : k + 4 ≤ l.length
  · rw [getF_in l k 4 x hxl hsz hs hk]
    clear hxl hsz
    go_enter Try.func89, Try.ntmps89
    go_wp2
    go_quiet ((go_at_call 97; exact Calls.quiet_of_same (join_any (x % 64) 64 _ ((l.drop (k + 1)).take 3) 3 _ _ (sub_len l (k + 1) 3 (by omega)) (rd_sub (unhide HB) (unhide HC) (k + 1) 3 (by omega) _ (by intro _; first | rfl | omega) _) (by omega) (by omega) (by rw [sub_len l (k + 1) 3 (by omega)]; decide) (by rw [sub_len l (k + 1) 3 (by omega)]; decide))))
    all_goals go_wp2
    all_goals go_ret3
    all_goals exact ⟨rfl, _, rfl⟩
  · rw [getF_short l k 4 x hxl hsz hs hk]
    clear hxl hsz
    have h3 : (l.length : Int) - k < 4 := by omega
    go_enter Try.func89, Try.ntmps89
    go_wp2
    go_ret3
    exact ⟨rfl, 0, rfl⟩

set_option maxHeartbeats 400000 in
theorem get_in8 (b off : Nat) (l : List Int) (cap k : Nat) (x : Int) (w : World) (hm : l.length ≤ cap) (hm2 : cap ≤ maxLen) (hk : k < l.length) (hb : ∀ x ∈ l, IsB x) (hc : ∀ i, i < l.length → w.cell? ⟨b, off + i, none⟩ = some (.int .u8 (l.getD i 0)))
    (hxl : l.getD k 0 = x) (hq : x / 64 = 3) (x0 : 0 ≤ x) (x1 : x ≤ 255) :
    Calls Try.prog 89 #[.slice (some ⟨b, off, none⟩) l.length cap, .int .i64 k] w fun e w' => e = .returned (tup3 (getF l k)) ∧ ∃ n, w' = w.drewN n := by
  have hx : w.cell? ⟨b, off + k, none⟩ = some (.int .u8 x) := by rw [hc k hk, hxl]
  have HX := hide hxl
  have HC := hide hc
  have HB := hide hb
  clear hc hb
  have hsz : sz x = 8 := by unfold sz; (repeat' split) <;> omega
  unfold maxLen at hm2
  have h0 : ¬ (k : Int) < 0 := by omega
  have h1 : ¬ (l.length : Int) < k := by omega
  have h2 : ((k : Int) == l.length) = false := by simp; omega
  have ha := and_63 x x0 x1
  by_cases hs : k + 8 ≤ l.length
  · rw [getF_in l k 8 x hxl hsz hs hk]
    clear hxl hsz
    go_enter Try.func89, Try.ntmps89
    go_wp2
    go_quiet ((go_at_call 97; exact Calls.quiet_of_same (join_any (x % 64) 64 _ ((l.drop (k + 1)).take 7) 7 _ _ (sub_len l (k + 1) 7 (by omega)) (rd_sub (unhide HB) (unhide HC) (k + 1) 7 (by omega) _ (by intro _; first | rfl | omega) _) (by omega) (by omega) (by rw [sub_len l (k + 1) 7 (by omega)]; decide) (by rw [sub_len l (k + 1) 7 (by omega)]; decide))))
    all_goals go_wp2
    all_goals go_ret3
    all_goals exact ⟨rfl, _, rfl⟩
  · rw [getF_short l k 8 x hxl hsz hs hk]
    clear hxl hsz
    have h3 : (l.length : Int) - k < 8 := by omega
    go_enter Try.func89, Try.ntmps89
    go_wp2
    go_ret3
    exact ⟨rfl, 0, rfl⟩


theorem get_any (a : Option Addr) (l : List Int) (cap : Nat) (i : Int) (w : World) (hr : Rd w a l) (hm : l.length ≤ cap) (hm2 : cap ≤ maxLen) :
    Calls Try.prog 89 #[.slice a l.length cap, .int .i64 i] w fun e w' => e = .returned (tup3 (getF l i)) ∧ ∃ n, w' = w.drewN n := by
  by_cases h1 : i < 0 ∨ (l.length : Int) < i
  · exact (get_arg a l cap i w h1 (by omega)).mono fun e w' ⟨he, hw⟩ => ⟨he, 0, by rw [hw]; rfl⟩
  · by_cases h2 : i = l.length
    · subst h2
      exact (get_end a l cap w (by omega)).mono fun e w' ⟨he, hw⟩ => ⟨he, 0, by rw [hw]; rfl⟩
    · obtain ⟨k, rfl⟩ := Int.eq_ofNat_of_zero_le (show 0 ≤ i by omega)
      have hk : k < l.length := by omega
      obtain ⟨hb, hc⟩ := hr
      obtain ⟨b, off, rfl, hcc⟩ := hc (by intro e; simp [e] at hk)
      have hx := hb (l.getD k 0) (by simp [List.getD, hk])
      unfold IsB at hx
      have : l.getD k 0 / 64 = 0 ∨ l.getD k 0 / 64 = 1 ∨ l.getD k 0 / 64 = 2 ∨ l.getD k 0 / 64 = 3 := by omega
      rcases this with h | h | h | h
      · exact get_in1 b off l cap k _ w hm hm2 hk hb hcc rfl h hx.1 hx.2
      · exact get_in2 b off l cap k _ w hm hm2 hk hb hcc rfl h hx.1 hx.2
      · exact get_in4 b off l cap k _ w hm hm2 hk hb hcc rfl h hx.1 hx.2
      · exact get_in8 b off l cap k _ w hm hm2 hk hb hcc rfl h hx.1 hx.2
end Go.Proofs.Ytggjeamondampaa
