import Derived.Test.YtmfbbamaleagiaaDoorXF
import Derived.Test.YtmfbbamaleagiaaDoorNP
namespace Go.Proofs.YtmfbbamaleagiaaDoor
open Go.RowKit
set_option linter.unusedVariables false
set_option maxRecDepth 100000

theorem dig_get (v : Int) : ∀ (n i : Nat), i < n → (dig v n).getD i 0 = v / 256 ^ (n - 1 - i) % 256
  | 0, i, h => by omega
  | n + 1, 0, h => by simp [dig]
  | n + 1, i + 1, h => by
    have := dig_get v n i (by omega)
    rw [show n + 1 - 1 - (i + 1) = n - 1 - i by omega, ← this]
    simp [dig]

def vals (l : List Int) : List Value := l.map (Value.int .u8)
theorem vals_length (l : List Int) : (vals l).length = l.length := by simp [vals]
theorem vals_snoc (l : List Int) (x : Int) : vals (l ++ [x]) = vals l ++ [.int .u8 x] := by simp [vals]

set_option maxHeartbeats 1600000 in
theorem digits_any (v : Int) (n : Nat) (w : World) (v0 : 0 ≤ v) (v1 : v < 18446744073709551616) (hn : n ≤ 8) :
    Calls Tryd.prog 52 #[.int .u64 v, .int .i64 n] w fun e w' => ∃ s, e = .returned s ∧ w'.ownsRow w.heap.size 5 1 s n (vals (dig v n)) ∧ Below w.heap.size w w' := by
  go_enter Tryd.func52, Tryd.ntmps52
  go_wp2
  go_loopw [5, 6] (fun b i wr => ∃ k : Nat, k ≤ n ∧ i = .int .i64 k ∧ wr.ownsRow w.heap.size 5 1 b k (vals ((dig v n).take k)) ∧ Below w.heap.size w wr) (fun _ i _ => n - (intOf i).toNat)
  case atStart => exact ⟨0, Nat.zero_le _, rfl, World.ownsRow_nil _ _ _ _, Below.refl _ _⟩
  case round =>
    obtain ⟨k, hk, rfl, hown, hbel⟩ := hrel
    by_cases hlt : k < n
    · go_wp2_with fail
      go_loop [7, 8] (fun d q => ∃ j : Nat, k + 1 + j ≤ n ∧ q = .int .i64 ((k : Int) + 1 + j) ∧ d = .int .u64 (v / 256 ^ j)) (fun _ q => n - (intOf q).toNat)
      case atStart => exact ⟨0, by omega, by go_num, by simp⟩
      case round =>
        obtain ⟨j, hj, rfl, rfl⟩ := hrel
        have u0 : 0 ≤ v / 256 ^ j := Int.ediv_nonneg v0 (Int.le_of_lt (Int.pow_pos (by decide)))
        have u1 : v / 256 ^ j < 18446744073709551616 := Int.lt_of_le_of_lt (Int.ediv_le_self _ v0) v1
        by_cases hlt2 : k + 1 + j < n
        · have HS : Hid (v / 256 ^ (j + 1) = v / 256 ^ j / 256) := by rw [Int.pow_succ, Int.ediv_ediv_of_nonneg (Int.le_of_lt (Int.pow_pos (by decide)))]; exact rfl
          go_wp2_with fail
          go_round
          case rel => exact ⟨j + 1, by omega, by go_num, by rw [HS.out]⟩
          case measure => simp [intOf]; omega
        · have hd := dig_get v n k hlt
          rw [show n - 1 - k = j by omega] at hd
          have HT : Hid ((dig v n).take (k + 1) = (dig v n).take k ++ [v / 256 ^ j % 256]) := by rw [take_snoc _ _ (by rw [dig_length]; exact hlt), hd]; exact rfl
          clear hd
          have hsz := hbel.size
          go_wp2_with (first
            | (at_builtin; (refine wpList_app1 wr rfl _ _ rfl w.heap.size _ k _ hown rfl (.int .u8 (v / 256 ^ j % 256)) rfl rfl (by omega) hsz ?_))
            | go_in)
          · intro v' w1 hown' hgrow _
            have bel1 := hgrow.below (hbel.alloc hsz (.cells #[.int .u8 (v / 256 ^ j % 256)] 5)) (by simp; omega) (fun q hq => ((hown.lt) q hq).1)
            clear hgrow hown hbel
            go_wp2_with fail
            go_roundw
            case rel => exact ⟨k + 1, by omega, by go_num, by rw [HT.out, vals_snoc]; exact hown', bel1⟩
            case measure => simp [intOf]; omega
    · go_wp2_with fail
      go_ret
      exact ⟨_, rfl, by have : k = n := by omega
                        subst this
                        rw [List.take_of_length_le (by rw [dig_length]; exact Nat.le_refl _)] at hown
                        exact hown, hbel⟩
end Go.Proofs.YtmfbbamaleagiaaDoor
