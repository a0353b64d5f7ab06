/- KWF, KWG, KWH, KWI, KWJ, KWK, one text. -/
import Derived.Test.YtpcnpdippnljpaaKP
import Derived.Test.YtpcnpdippnljpaaKAP
namespace Go.Proofs.Ytpcnpdippnljpaa
open Go.RowKit
set_option maxRecDepth 100000
set_option linter.unusedVariables false

/-- The least number that no longer stands in so many. -/
def firstF (n : Int) : Int := if n = 1 then 64 else if n = 2 then 16384 else if n = 4 then 1073741824 else if n = 8 then 4611686018427387904 else 0

set_option maxHeartbeats 400000 in
theorem first_any (n : Int) (w : World) : Calls Try.prog 64 #[.int .i64 n] w fun e w' => e = .returned (.int .u64 (firstF n)) ∧ w' = w := by
  by_cases h1 : n = 1
  · subst h1
    go_enter Try.func64, Try.ntmps64
    go_wp2
    go_ret
    exact ⟨rfl, rfl⟩
  by_cases h2 : n = 2
  · subst h2
    go_enter Try.func64, Try.ntmps64
    go_wp2
    go_ret
    exact ⟨rfl, rfl⟩
  by_cases h4 : n = 4
  · subst h4
    go_enter Try.func64, Try.ntmps64
    go_wp2
    go_ret
    exact ⟨rfl, rfl⟩
  by_cases h8 : n = 8
  · subst h8
    go_enter Try.func64, Try.ntmps64
    go_wp2
    go_ret
    exact ⟨rfl, rfl⟩
  · have e1 : (n == 1) = false := by simp; omega
    have e2 : (n == 2) = false := by simp; omega
    have e4 : (n == 4) = false := by simp; omega
    have e8 : (n == 8) = false := by simp; omega
    have hf : firstF n = 0 := by unfold firstF; rw [if_neg h1, if_neg h2, if_neg h4, if_neg h8]
    have HF := hide hf
    clear hf h1 h2 h4 h8
    go_enter Try.func64, Try.ntmps64
    go_wp2
    go_ret
    exact ⟨ret_int (unhide HF).symm, rfl⟩

/-- The block of the sizes. -/
def szs : Obj := .cells #[.int .i64 1, .int .i64 2, .int .i64 4, .int .i64 8] 3
def szA (k : Nat) : Int := [1, 2, 4, 8].getD k 0

theorem sizes_any (w : World) : Calls Try.prog 65 #[] w fun e w' => e = .returned (.slice (some ⟨w.heap.size, 0, none⟩) 4 4) ∧ w' = w.alloc szs := by
  go_enter Try.func65, Try.ntmps65
  go_wp2
  go_ret
  exact ⟨rfl, rfl⟩

theorem szs_cell {w : World} {g : Nat} (h : w.heap[g]? = some szs) (k : Nat) (hk : k < 4) : w.cell? ⟨g, k, none⟩ = some (.int .i64 (szA k)) := by
  unfold World.cell?
  rw [h]
  have : k = 0 ∨ k = 1 ∨ k = 2 ∨ k = 3 := by omega
  rcases this with rfl | rfl | rfl | rfl <;> rfl

end Go.Proofs.Ytpcnpdippnljpaa

namespace Go.Proofs.Ytpcnpdippnljpaa
open Go.RowKit
set_option maxRecDepth 100000
set_option linter.unusedVariables false

theorem dig_get (v : Int) : ∀ (n i : Nat), i < n → (dig v n).getD i 0 = v / 256 ^ (n - 1 - i) % 256
  | 0, i, h => by omega
  | n + 1, 0, h => by simp [dig]
  | n + 1, i + 1, h => by
    have := dig_get v n i (by omega)
    rw [show n + 1 - 1 - (i + 1) = n - 1 - i by omega, ← this]
    simp [dig]

def vals (l : List Int) : List Value := l.map (Value.int .u8)
theorem vals_length (l : List Int) : (vals l).length = l.length := by simp [vals]
theorem vals_snoc (l : List Int) (x : Int) : vals (l ++ [x]) = vals l ++ [.int .u8 x] := by simp [vals]

set_option maxHeartbeats 1600000 in
theorem digits_any (v : Int) (n : Nat) (w : World) (v0 : 0 ≤ v) (v1 : v < 18446744073709551616) (hn : n ≤ 8) :
    Calls Try.prog 63 #[.int .u64 v, .int .i64 n] w fun e w' => ∃ s, e = .returned s ∧ w'.ownsRow w.heap.size 5 1 s n (vals (dig v n)) ∧ Below w.heap.size w w' := by
  go_enter Try.func63, Try.ntmps63
  go_wp2
  go_loopw [5, 6] (fun b i wr => ∃ k : Nat, k ≤ n ∧ i = .int .i64 k ∧ wr.ownsRow w.heap.size 5 1 b k (vals ((dig v n).take k)) ∧ Below w.heap.size w wr) (fun _ i _ => n - (intOf i).toNat)
  case atStart => exact ⟨0, Nat.zero_le _, rfl, World.ownsRow_nil _ _ _ _, Below.refl _ _⟩
  case round =>
    obtain ⟨k, hk, rfl, hown, hbel⟩ := hrel
    by_cases hlt : k < n
    · go_wp2_with fail
      go_loop [7, 8] (fun d q => ∃ j : Nat, k + 1 + j ≤ n ∧ q = .int .i64 ((k : Int) + 1 + j) ∧ d = .int .u64 (v / 256 ^ j)) (fun _ q => n - (intOf q).toNat)
      case atStart => exact ⟨0, by omega, by go_num, by simp⟩
      case round =>
        obtain ⟨j, hj, rfl, rfl⟩ := hrel
        have u0 : 0 ≤ v / 256 ^ j := Int.ediv_nonneg v0 (Int.le_of_lt (Int.pow_pos (by decide)))
        have u1 : v / 256 ^ j < 18446744073709551616 := Int.lt_of_le_of_lt (Int.ediv_le_self _ v0) v1
        by_cases hlt2 : k + 1 + j < n
        · have HS : Hid (v / 256 ^ (j + 1) = v / 256 ^ j / 256) := by rw [Int.pow_succ, Int.ediv_ediv_of_nonneg (Int.le_of_lt (Int.pow_pos (by decide)))]; exact rfl
          go_wp2_with fail
          go_round
          case rel => exact ⟨j + 1, by omega, by go_num, by rw [HS.out]⟩
          case measure => simp [intOf]; omega
        · have hd := dig_get v n k hlt
          rw [show n - 1 - k = j by omega] at hd
          have HT : Hid ((dig v n).take (k + 1) = (dig v n).take k ++ [v / 256 ^ j % 256]) := by rw [take_snoc _ _ (by rw [dig_length]; exact hlt), hd]; exact rfl
          clear hd
          have hsz := hbel.size
          go_wp2_with (first
            | (at_builtin; (refine wpList_app1 wr rfl _ _ rfl w.heap.size _ k _ hown rfl (.int .u8 (v / 256 ^ j % 256)) rfl rfl (by omega) hsz ?_))
            | go_in)
          · intro v' w1 hown' hgrow _
            have bel1 := hgrow.below (hbel.alloc hsz (.cells #[.int .u8 (v / 256 ^ j % 256)] 5)) (by simp; omega) (fun q hq => ((hown.lt) q hq).1)
            clear hgrow hown hbel
            go_wp2_with fail
            go_roundw
            case rel => exact ⟨k + 1, by omega, by go_num, by rw [HT.out, vals_snoc]; exact hown', bel1⟩
            case measure => simp [intOf]; omega
    · go_wp2_with fail
      go_ret
      exact ⟨_, rfl, by have : k = n := by omega
                        subst this
                        rw [List.take_of_length_le (by rw [dig_length]; exact Nat.le_refl _)] at hown
                        exact hown, hbel⟩
end Go.Proofs.Ytpcnpdippnljpaa

namespace Go.Proofs.Ytpcnpdippnljpaa
open Go.RowKit
set_option maxRecDepth 100000
set_option linter.unusedVariables false

theorem ownsRow_open {w : World} {base : Nat} {e : TypeId} {v : Value} {n : Nat} {xs : List Value} (h : w.ownsRow base e 1 v n xs) (hn : n ≠ 0) : ∃ g cap, v = .slice (some ⟨g, 0, none⟩) n cap ∧ base ≤ g ∧ g < w.heap.size ∧ n ≤ cap ∧ cap ≤ maxLen := by
  have hl := h.lt
  rcases h.2 with ⟨_, h0⟩ | ⟨g, cap, cur, rfl, hb, hg, hnc, hm, _⟩
  · exact absurd h0 hn
  · exact ⟨g, cap, rfl, hb, (hl g rfl).2, hnc, hm⟩

theorem layF_cons (v : Int) (m : Nat) (c : Int) (hc : markF (m + 1) = c) : layF v (m + 1) = (v / 256 ^ m % 256 + c) :: dig v m := by
  simp only [layF, dig, hc]

set_option maxHeartbeats 1600000 in
theorem rputAs_ok (v : Int) (n m idx : Nat) (w : World) (v0 : 0 ≤ v) (hn : n = m + 1) (hn8 : n ≤ 8) (hf : Fits v n) (hi : idx < 4) (hid : szA idx = n) (hnot : ∀ k, k < 4 → k ≠ idx → szA k ≠ n) (hmk : markF n = 64 * (idx : Int)) (hfst : v < firstF n) (hd : v / 256 ^ m % 256 ≤ 63) :
    Calls Try.prog 49 #[.int .u64 v, .int .i64 n] w fun e w' => ∃ s, e = .returned (.tuple #[s, .int .i64 0]) ∧ w'.ownsRow w.heap.size 5 1 s n (vals (layF v n)) ∧ Below w.heap.size w w' := by
  have v1 : v < 18446744073709551616 := by rcases hf with ⟨_, h⟩ | ⟨_, h⟩ | ⟨_, h⟩ | ⟨_, h⟩ <;> omega
  have hne : (firstF n == 0) = false := by simp; omega
  have HID := hide hid; have HNOT := hide hnot; have HF := hide hf
  have HL : Hid (vals (layF v n) = .int .u8 (v / 256 ^ m % 256 + 64 * (idx : Int)) :: vals (dig v m)) := by
    show _ = _
    subst hn; rw [layF_cons v m _ hmk]; rfl
  have HD : Hid (vals (dig v n) = .int .u8 (v / 256 ^ m % 256) :: vals (dig v m)) := by
    show _ = _
    subst hn; rfl
  have d0 : 0 ≤ v / 256 ^ m % 256 := by omega
  have hn0 : n ≠ 0 := by omega
  clear hid hnot hf hmk hn
  go_enter Try.func49, Try.ntmps49
  go_wp2_with (first
    | (go_at_call 64; refine (first_any _ _).mono ?_; rintro e w' ⟨rfl, hw⟩; subst w')
    | (go_at_call 63; refine (digits_any v n _ v0 v1 hn8).mono ?_; rintro e w1 ⟨s, rfl, hown, hbel⟩))
  refine (sizes_any _).mono ?_
  rintro e w2 ⟨rfl, rfl⟩
  obtain ⟨g, cap, rfl, hg, hgl, hnc, hcm⟩ := ownsRow_open hown hn0
  have hs := heap_alloc_new w1 szs
  have hown1 := hown.alloc szs
  have hbel1 := hbel.alloc hbel.size szs
  have hgs : w1.heap.size < (w1.alloc szs).heap.size := by simp
  have HS := hide hs; have HO := hide hown1; have HB := hide hbel1
  generalize hsb : w1.heap.size = gs at HS hgs hgl ⊢
  generalize w1.alloc szs = W at HS HO HB hgs ⊢
  clear hs hown1 hbel1 hown hbel hsb w1
  unfold maxLen at hcm
  go_wp2_with fail
  go_loopw [9] (fun i wr => ∃ k : Nat, k ≤ 4 ∧ i = .int .i64 k ∧ wr.heap[gs]? = some szs ∧ (k ≤ idx → wr.ownsRow w.heap.size 5 1 (.slice (some ⟨g, 0, none⟩) n cap) n (vals (dig v n))) ∧ (idx < k → wr.ownsRow w.heap.size 5 1 (.slice (some ⟨g, 0, none⟩) n cap) n (vals (layF v n))) ∧ Below w.heap.size w wr) (fun i _ => 4 - (intOf i).toNat)
  case atStart => exact ⟨0, by omega, rfl, unhide HS, fun _ => unhide HO, fun h => by omega, unhide HB⟩
  case round =>
    obtain ⟨k, hk, rfl, hsz, hA, hB, hbel⟩ := hrel
    by_cases hlt : k < 4
    · have hc := szs_cell hsz k hlt
      by_cases hki : k = idx
      · have heq : (szA k == (n : Int)) = true := by rw [hki, beq_iff_eq]; exact unhide HID
        have own := hA (by omega)
        have hc0 : wr.cell? ⟨g, 0, none⟩ = some (.int .u8 (v / 256 ^ m % 256)) := by rw [own.cellAt 0 (by omega), unhide HD]; rfl
        have hf0 := own.frozenAt 0
        have hst := own.stored 0 (.int .u8 (v / 256 ^ m % 256 + 64 * (k : Int)))
        have HST := hide hst
        have HA := hide hA; have HB2 := hide hB; have HBEL := hide hbel; have HZ := hide hsz; have HKI := hide hki
        have hk3 : (k : Int) ≤ 3 := by omega
        have hgne : gs ≠ g := by omega
        clear hst hA hB hbel hsz own hki
        generalize v / 256 ^ m % 256 = D at *
        go_wp2_with fail
        go_roundw
        case rel =>
          refine ⟨k + 1, by omega, by go_num, ?_, fun h => by have := unhide HKI; omega, fun _ => ?_, ?_⟩
          · rw [(unhide HST).2.block gs (lt_of_block (unhide HZ)) (by simp; exact hgne)]; exact unhide HZ
          · have := (unhide HST).1
            rw [unhide HD] at this
            rw [unhide HL, ← unhide HKI]
            exact this
          · exact (unhide HBEL).grown (unhide HST).2 (unhide HBEL).size (fun q hq => by cases hq; exact hg)
        case measure => simp [intOf]; omega
      · have heq : (szA k == (n : Int)) = false := by rw [beq_eq_false_iff_ne]; exact unhide HNOT k hlt hki
        have HA := hide hA; have HB2 := hide hB; have HBEL := hide hbel; have HZ := hide hsz; have HKI := hide hki
        clear hA hB hbel hsz hki
        go_wp2_with fail
        go_roundw
        case rel => exact ⟨k + 1, by omega, by go_num, unhide HZ, fun h => unhide HA (by omega), fun h => unhide HB2 (by have := unhide HKI; omega), unhide HBEL⟩
        case measure => simp [intOf]; omega
    · have own := hB (by omega)
      clear hA hB
      go_wp2_with fail
      go_ret2
      exact ⟨_, rfl, own, hbel⟩
end Go.Proofs.Ytpcnpdippnljpaa

namespace Go.Proofs.Ytpcnpdippnljpaa
open Go.RowKit
set_option maxRecDepth 100000
set_option linter.unusedVariables false

theorem joinF_room (S : List Int) (hS : ∀ x ∈ S, IsB x) (u B : Int) (u0 : 0 ≤ u) (u1 : u < B) (hB : B * 256 ^ S.length ≤ 18446744073709551616) (k : Nat) (hk : k < S.length) :
    0 ≤ joinF u (S.take k) ∧ joinF u (S.take k) * 256 + 255 < 18446744073709551616 := by
  have h2 := joinF_lt (S.take k) (fun x hx => hS x (List.mem_of_mem_take hx)) u B u0 u1
  refine ⟨h2.1, ?_⟩
  rw [show (S.take k).length = k by simp; omega] at h2
  have h3 : B * 256 ^ k * 256 ≤ B * 256 ^ S.length := by
    have : (256 : Int) ^ (k + 1) ≤ 256 ^ S.length := by
      have := Int.ofNat_le.2 (Nat.pow_le_pow_right (n := 256) (by omega) (show k + 1 ≤ S.length from hk))
      rw [Int.natCast_pow, Int.natCast_pow] at this
      exact this
    rw [Int.mul_assoc, ← Int.pow_succ]
    exact Int.mul_le_mul_of_nonneg_left this (by omega)
  omega

theorem sub_get (l : List Int) (k n j : Nat) (hj : j < n) : ((l.drop k).take n).getD j 0 = l.getD (k + j) 0 := by
  simp [List.getD, hj]

/-! ReadBig -/
end Go.Proofs.Ytpcnpdippnljpaa

namespace Go.Proofs.Ytpcnpdippnljpaa
open Go.RowKit
set_option maxRecDepth 100000
set_option linter.unusedVariables false

end Go.Proofs.Ytpcnpdippnljpaa

namespace Go.Proofs.Ytpcnpdippnljpaa
open Go.RowKit
set_option maxRecDepth 100000
set_option linter.unusedVariables false

/-! Same -/
set_option maxHeartbeats 800000 in
theorem rbig_arg (v n : Int) (w : World) (h : n < 0 ∨ 8 < n) :
    Calls Try.prog 48 #[.int .u64 v, .int .i64 n] w fun e w' => e = .returned (.tuple #[.slice none 0 0, .int .i64 1]) ∧ w' = w := by
  by_cases h0 : n < 0
  · clear h
    go_enter Try.func48, Try.ntmps48
    go_wp2
    go_ret2
    exact ⟨rfl, rfl⟩
  · have h1 : 8 < n := by omega
    clear h
    go_enter Try.func48, Try.ntmps48
    go_wp2
    go_ret2
    exact ⟨rfl, rfl⟩

def rbigR (z : Bool) (s : Value) : Value := if z then .tuple #[s, .int .i64 0] else .tuple #[.slice none 0 0, .int .i64 10]

set_option maxHeartbeats 1600000 in
theorem rbig_any (v : Int) (n : Nat) (w : World) (v0 : 0 ≤ v) (v1 : v < 18446744073709551616) (hn : n ≤ 8) :
    Calls Try.prog 48 #[.int .u64 v, .int .i64 n] w fun e w' => ∃ s, e = .returned (rbigR (decide (v / 256 ^ n = 0)) s) ∧ w'.ownsRow w.heap.size 5 1 s n (vals (dig v n)) ∧ Below w.heap.size w w' := by
  have h0 : ¬ (n : Int) < 0 := by omega
  have h1 : ¬ (8 : Int) < n := by omega
  have hd := joinF_dig v n 0
  have hlen := dig_length v n
  have hby := dig_byte v n
  have room := joinF_room (dig v n) hby 0 1 (by decide) (by decide) (by rw [hlen, Int.one_mul]; exact pow256_le n hn)
  rw [hlen] at room
  rw [Int.zero_mul, Int.zero_add] at hd
  have HD := hide hd; have HLEN := hide hlen; have HBY := hide hby; have ROOM := hide room
  clear hd hlen hby room
  go_enter Try.func48, Try.ntmps48
  go_wp2_with (go_at_call 63; refine (digits_any v n _ v0 v1 hn).mono ?_; rintro e w1 ⟨s, rfl, hown, hbel⟩; have HO := hide hown; have HB := hide hbel; clear hown hbel)
  go_loop [7, 8] (fun u i => ∃ j : Nat, j ≤ n ∧ i = .int .i64 j ∧ u = .int .u64 (joinF 0 ((dig v n).take j))) (fun _ i => n - (intOf i).toNat)
  case atStart => exact ⟨0, Nat.zero_le _, rfl, rfl⟩
  case round =>
    obtain ⟨j, hj, rfl, rfl⟩ := hrel
    by_cases hlt : j < n
    · obtain ⟨g, cap, rfl, hg, hgl, hnc, hcm⟩ := ownsRow_open (unhide HO) (by omega)
      have hck := (unhide HO).cellAt j (by omega)
      rw [show (vals (dig v n))[j]? = some (.int .u8 ((dig v n).getD j 0)) by simp [vals, List.getD, show j < (dig v n).length by rw [unhide HLEN]; exact hlt]] at hck
      obtain ⟨b0, b1⟩ := (unhide HBY) ((dig v n).getD j 0) (by have := unhide HLEN; simp [List.getD, show j < (dig v n).length by omega])
      obtain ⟨j0, j1⟩ := (unhide ROOM) j hlt
      have HS : Hid (joinF 0 ((dig v n).take (j + 1)) = joinF 0 ((dig v n).take j) * 256 + (dig v n).getD j 0) := by rw [take_snoc _ j (by have := unhide HLEN; omega), joinF_snoc]; exact rfl
      generalize (dig v n).getD j 0 = y at hck b0 b1 HS
      have hc2 : (256 : Int) * joinF 0 ((dig v n).take j) = joinF 0 ((dig v n).take j) * 256 := Int.mul_comm _ _
      generalize joinF 0 ((dig v n).take j) = J at j0 j1 HS hc2 ⊢
      unfold maxLen at hcm
      go_wp2_with fail
      go_round
      case rel => exact ⟨j + 1, by omega, by go_num, by rw [HS.out]⟩
      case measure => simp [intOf]; omega
    · have hjn : j = n := by omega
      subst hjn
      rw [List.take_of_length_le (by rw [unhide HLEN]; exact Nat.le_refl _), unhide HD]
      have hp := pow_pos256 j
      have hme := Int.mul_ediv_add_emod v (256 ^ j)
      by_cases hz : v / 256 ^ j = 0
      · have he : v % 256 ^ j = v := by rw [hz, Int.mul_zero] at hme; omega
        rw [he]
        have HZ := hide hz
        have HHP := hide hp
        clear hz he hme hp
        go_wp2_with fail
        go_ret2
        exact ⟨s, by rw [unhide HZ]; rfl, unhide HO, unhide HB⟩
      · have he : (v % 256 ^ j != v) = true := by
          rw [bne_iff_ne]
          intro h
          have : 256 ^ j * (v / 256 ^ j) = 0 := by omega
          rcases Int.mul_eq_zero.1 this with h | h <;> omega
        have HZ := hide hz
        have HHP := hide hp
        clear hz hme hp
        go_wp2_with fail
        go_ret2
        exact ⟨s, by rw [decide_eq_false (unhide HZ)]; rfl, unhide HO, unhide HB⟩
end Go.Proofs.Ytpcnpdippnljpaa
