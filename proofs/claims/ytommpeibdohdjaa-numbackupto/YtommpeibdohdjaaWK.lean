import Derived.Test.YtommpeibdohdjaaWJ
namespace Go.Proofs.Ytommpeibdohdjaa
open Go.RowKit
set_option linter.unusedVariables false

/-! Same -/
set_option maxHeartbeats 800000 in
theorem same_ok (a b : Option Addr) (l : List Int) (c1 c2 : Nat) (w : World) (ha : Rd w a l) (hb : Rd w b l) (hm : l.length ≤ maxLen) :
    Calls Try.prog 15 #[.slice a l.length c1, .slice b l.length c2] w fun e w' => e = .returned (.bool true) ∧ ∃ n, w' = w.drewN n := by
  have HA := hide ha; have HB := hide hb
  clear ha hb
  unfold maxLen at hm
  go_enter Try.func15, Try.ntmps15
  go_wp2
  go_loopw [5] (fun i wr => ∃ (k q : Nat), k ≤ l.length ∧ i = .int .i64 k ∧ wr = w.drewN q) (fun i _ => l.length - (intOf i).toNat)
  case atStart => exact ⟨0, 0, Nat.zero_le _, rfl, rfl⟩
  case round =>
    obtain ⟨k, q, hk, rfl, rfl⟩ := hrel
    by_cases hlt : k < l.length
    · have hne : l ≠ [] := by intro e; simp [e] at hlt
      obtain ⟨b1, o1, rfl, h1⟩ := (unhide HA).2 hne
      obtain ⟨b2, o2, rfl, h2⟩ := (unhide HB).2 hne
      have k1 := h1 k hlt
      have k2 := h2 k hlt
      generalize l.getD k 0 = x at k1 k2
      clear h1 h2 hne
      go_wp2
      go_quiet (fail)
      all_goals go_wp2
      go_roundw
      case rel => exact ⟨k + 1, _, by omega, by go_num, rfl⟩
      case measure => simp [intOf]; omega
    · go_wp2
      go_ret
      exact ⟨rfl, _, rfl⟩

/-! Big, by definition -/
set_option maxHeartbeats 800000 in
theorem rbig_arg (v n : Int) (w : World) (h : n < 0 ∨ 8 < n) :
    Calls Try.prog 29 #[.int .u64 v, .int .i64 n] w fun e w' => e = .returned (.tuple #[.slice none 0 0, .int .i64 1]) ∧ w' = w := by
  by_cases h0 : n < 0
  · clear h
    go_enter Try.func29, Try.ntmps29
    go_wp2
    go_ret2
    exact ⟨rfl, rfl⟩
  · have h1 : 8 < n := by omega
    clear h
    go_enter Try.func29, Try.ntmps29
    go_wp2
    go_ret2
    exact ⟨rfl, rfl⟩

def rbigR (z : Bool) (s : Value) : Value := if z then .tuple #[s, .int .i64 0] else .tuple #[.slice none 0 0, .int .i64 10]

set_option maxHeartbeats 1600000 in
theorem rbig_any (v : Int) (n : Nat) (w : World) (v0 : 0 ≤ v) (v1 : v < 18446744073709551616) (hn : n ≤ 8) :
    Calls Try.prog 29 #[.int .u64 v, .int .i64 n] w fun e w' => ∃ s, e = .returned (rbigR (decide (v / 256 ^ n = 0)) s) ∧ w'.ownsRow w.heap.size 5 1 s n (vals (dig v n)) ∧ Below w.heap.size w w' := by
  have h0 : ¬ (n : Int) < 0 := by omega
  have h1 : ¬ (8 : Int) < n := by omega
  have hd := joinF_dig v n 0
  have hlen := dig_length v n
  have hby := dig_byte v n
  have room := joinF_room (dig v n) hby 0 1 (by decide) (by decide) (by rw [hlen, Int.one_mul]; exact pow256_le n hn)
  rw [hlen] at room
  rw [Int.zero_mul, Int.zero_add] at hd
  have HD := hide hd; have HLEN := hide hlen; have HBY := hide hby; have ROOM := hide room
  clear hd hlen hby room
  go_enter Try.func29, Try.ntmps29
  go_wp2_with (go_at_call 35; refine (digits_any v n _ v0 v1 hn).mono ?_; rintro e w1 ⟨s, rfl, hown, hbel⟩; have HO := hide hown; have HB := hide hbel; clear hown hbel)
  go_loop [7, 8] (fun u i => ∃ j : Nat, j ≤ n ∧ i = .int .i64 j ∧ u = .int .u64 (joinF 0 ((dig v n).take j))) (fun _ i => n - (intOf i).toNat)
  case atStart => exact ⟨0, Nat.zero_le _, rfl, rfl⟩
  case round =>
    obtain ⟨j, hj, rfl, rfl⟩ := hrel
    by_cases hlt : j < n
    · obtain ⟨g, cap, rfl, hg, hgl, hnc, hcm⟩ := ownsRow_open (unhide HO) (by omega)
      have hck := (unhide HO).cellAt j (by omega)
      rw [show (vals (dig v n))[j]? = some (.int .u8 ((dig v n).getD j 0)) by simp [vals, List.getD, show j < (dig v n).length by rw [unhide HLEN]; exact hlt]] at hck
      obtain ⟨b0, b1⟩ := (unhide HBY) ((dig v n).getD j 0) (by have := unhide HLEN; simp [List.getD, show j < (dig v n).length by omega])
      obtain ⟨j0, j1⟩ := (unhide ROOM) j hlt
      have HS : Hid (joinF 0 ((dig v n).take (j + 1)) = joinF 0 ((dig v n).take j) * 256 + (dig v n).getD j 0) := by rw [take_snoc _ j (by have := unhide HLEN; omega), joinF_snoc]; exact rfl
      generalize (dig v n).getD j 0 = y at hck b0 b1 HS
      have hc2 : (256 : Int) * joinF 0 ((dig v n).take j) = joinF 0 ((dig v n).take j) * 256 := Int.mul_comm _ _
      generalize joinF 0 ((dig v n).take j) = J at j0 j1 HS hc2 ⊢
      unfold maxLen at hcm
      go_wp2_with fail
      go_round
      case rel => exact ⟨j + 1, by omega, by go_num, by rw [HS.out]⟩
      case measure => simp [intOf]; omega
    · have hjn : j = n := by omega
      subst hjn
      rw [List.take_of_length_le (by rw [unhide HLEN]; exact Nat.le_refl _), unhide HD]
      have hp := pow_pos256 j
      have hme := Int.mul_ediv_add_emod v (256 ^ j)
      by_cases hz : v / 256 ^ j = 0
      · have he : v % 256 ^ j = v := by rw [hz, Int.mul_zero] at hme; omega
        rw [he]
        have HZ := hide hz
        have HHP := hide hp
        clear hz he hme hp
        go_wp2_with fail
        go_ret2
        exact ⟨s, by rw [unhide HZ]; rfl, unhide HO, unhide HB⟩
      · have he : (v % 256 ^ j != v) = true := by
          rw [bne_iff_ne]
          intro h
          have : 256 ^ j * (v / 256 ^ j) = 0 := by omega
          rcases Int.mul_eq_zero.1 this with h | h <;> omega
        have HZ := hide hz
        have HHP := hide hp
        clear hz hme hp
        go_wp2_with fail
        go_ret2
        exact ⟨s, by rw [decide_eq_false (unhide HZ)]; rfl, unhide HO, unhide HB⟩
end Go.Proofs.Ytommpeibdohdjaa
