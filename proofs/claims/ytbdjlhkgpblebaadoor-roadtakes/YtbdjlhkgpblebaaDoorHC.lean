/- digit, parting, Len64, TrailingZeros64. -/
import Derived.Test.YtbdjlhkgpblebaaDoorHA
import Derived.Test.YtbdjlhkgpblebaaDoorHB
import Derived.Test.YtbdjlhkgpblebaaDoorHL
namespace Go.Proofs.YtbdjlhkgpblebaaDoor
open Go.RowKit
set_option linter.unusedVariables false
set_option maxRecDepth 100000

theorem i64_and (a b : Nat) (ha : a < 2 ^ 63) (hb : b < 2 ^ 63) : bits .and .i64 (a : Int) (b : Int) = ((a &&& b : Nat) : Int) := by
  have hx : a &&& b < 2 ^ 63 := Nat.and_lt_two_pow _ (by omega)
  show IntKind.i64.wrap ((BitVec.ofInt 64 (a : Int) &&& BitVec.ofInt 64 (b : Int)).toNat : Int) = _
  rw [BitVec.toNat_and, ofInt_u64 a (by omega), ofInt_u64 b (by omega), IntKind.wrap_i64]
  omega
theorem i64_xor (a b : Nat) (ha : a < 2 ^ 63) (hb : b < 2 ^ 63) : bits .xor .i64 (a : Int) (b : Int) = ((a ^^^ b : Nat) : Int) := by
  have hx : a ^^^ b < 2 ^ 63 := Nat.xor_lt_two_pow (by omega) (by omega)
  show IntKind.i64.wrap ((BitVec.ofInt 64 (a : Int) ^^^ BitVec.ofInt 64 (b : Int)).toNat : Int) = _
  rw [BitVec.toNat_xor, ofInt_u64 a (by omega), ofInt_u64 b (by omega), IntKind.wrap_i64]
  omega

theorem digit_any (t i : Nat) (ht : t < 2 ^ 62) (hi : i ≤ 10) (w : World) :
    Calls Tryd.prog 45 #[.int .i64 t, .int .i64 i] w fun e w' => e = .returned (.int .i64 (dg t i : Nat)) ∧ w' = w := by
  have e : bits .and .i64 ((t : Int) / 2 ^ (6 * i)) 63 = ((dg t i : Nat) : Int) := by
    have e1 : (t : Int) / 2 ^ (6 * i) = ((t / 2 ^ (6 * i) : Nat) : Int) := by simp
    have h2 : t / 2 ^ (6 * i) ≤ t := Nat.div_le_self _ _
    rw [e1, show (63 : Int) = ((63 : Nat) : Int) from rfl, i64_and _ _ (by omega) (by decide)]
    unfold dg
    rw [pow64, nat_mask6]
  have E := hide e
  clear e
  go_enter Tryd.func45, Tryd.ntmps45
  go_wp2_with fail
  go_ret
  refine ⟨?_, rfl⟩
  rw [← unhide E]
  rfl

theorem parting_any (a c : Nat) (ha : a < 2 ^ 62) (hc : c < 2 ^ 62) (w : World) :
    Calls Tryd.prog 43 #[.int .i64 a, .int .i64 c] w fun e w' => e = .returned (.int .i64 (pt a c : Nat)) ∧ w' = w := by
  have hx : a ^^^ c < 2 ^ 62 := Nat.xor_lt_two_pow ha hc
  have hlen := fun W => len64_any (a ^^^ c) (by omega) W
  have e : IntKind.u64.wrap (bits BinOp.xor IntKind.i64 (a : Int) (c : Int)) = ((a ^^^ c : Nat) : Int) := by
    rw [i64_xor a c (by omega) (by omega), IntKind.wrap_u64]; omega
  have hb := (bitLen_lt (a ^^^ c) 62 (by omega) (by decide)).2 hx
  have hp : pt a c = (Lib.bitLen (a ^^^ c) - 1) / 6 := rfl
  rw [hp]
  clear hp
  generalize Lib.bitLen (a ^^^ c) = n at *
  go_enter Tryd.func43, Tryd.ntmps43
  go_wp2_with fail
  refine (hlen _).mono ?_
  rintro e W ⟨rfl, rfl⟩
  go_wp2_with fail
  all_goals (go_ret; refine ⟨congrArg Ending.returned (congrArg (Value.int IntKind.i64) ?_), rfl⟩)
  all_goals omega

/-- The table of the de Bruijn sequence. -/
def deb : List Nat := [0, 1, 56, 2, 57, 49, 28, 3, 61, 58, 42, 50, 38, 29, 17, 4, 62, 47, 59, 36, 45, 43, 51, 22, 53, 39, 33, 30, 24, 18, 12, 5, 63, 55, 48, 27, 60, 41, 37, 16, 46, 35, 44, 21, 52, 32, 23, 11, 54, 26, 40, 15, 34, 20, 31, 10, 25, 14, 19, 9, 13, 8, 7, 6]
def debA : Array Value := (deb.map fun (n : Nat) => Value.int .u8 (n : Int)).toArray
/-- Where 2^k lies in it. -/
def ix (k : Nat) : Nat := 2 ^ k * 285870213051353865 % 18446744073709551616 / 288230376151711744
theorem ix_lt (k : Nat) (hk : k < 64) : ix k < 64 := by unfold ix; omega
theorem deb_ix : ∀ k : Fin 64, deb[ix k.val]? = some k.val := by decide +kernel

/-- The world holds the table in block 0. -/
def Tb (w : World) : Prop := ∃ t f, w.heap[0]? = some (.cells debA t f)
theorem Tb.lt {w : World} (h : Tb w) : 0 < w.heap.size := by
  obtain ⟨t, f, h⟩ := h
  by_cases c : 0 < w.heap.size
  · exact c
  · rw [Array.getElem?_eq_none (by omega)] at h; cases h
theorem Tb.kept {w W : World} (h : Tb w) (g : W.heap[0]? = w.heap[0]?) : Tb W := by
  obtain ⟨t, f, h⟩ := h
  exact ⟨t, f, g.trans h⟩
theorem Tb.grown {w W : World} (h : Tb w) (g : w.grownBy W none) : Tb W := h.kept (g.block 0 h.lt (by simp))
theorem Tb.cell {w : World} (h : Tb w) (k : Nat) (hk : k < 64) : w.cell? ⟨0, ix k, none⟩ = some (.int .u8 (k : Int)) := by
  obtain ⟨t, f, h⟩ := h
  simp only [World.cell?, h]
  have := deb_ix ⟨k, hk⟩
  simp only at this
  simp [debA, this]

/-- k is the lowest bit of x that is set; 64, if none is. -/
def Low (x k : Nat) : Prop := (x = 0 ∧ k = 64) ∨ (k < 64 ∧ x.testBit k = true ∧ ∀ j, j < k → x.testBit j = false)

theorem low_bit (x : Nat) (h0 : x ≠ 0) (hx : x < 18446744073709551616) : ∃ k, k < 64 ∧ x.testBit k = true ∧ (∀ j, j < k → x.testBit j = false) ∧ x &&& (18446744073709551616 - x) = 2 ^ k := by
  obtain ⟨k, hk, hl⟩ : ∃ k, x.testBit k = true ∧ ∀ j, j < k → x.testBit j = false := by
    have hex : ∃ k, x.testBit k = true := by
      apply Classical.byContradiction
      intro h
      apply h0
      apply Nat.eq_of_testBit_eq
      intro i
      rw [Nat.zero_testBit]
      cases hb : x.testBit i with
      | false => rfl
      | true => exact absurd ⟨i, hb⟩ h
    obtain ⟨k, hk⟩ := hex
    induction k using Nat.strongRecOn with
    | _ k ih =>
      by_cases c : ∃ j, j < k ∧ x.testBit j = true
      · obtain ⟨j, hj, hb⟩ := c
        exact ih j hj hb
      · refine ⟨k, hk, fun j hj => ?_⟩
        cases hb : x.testBit j with
        | false => rfl
        | true => exact absurd ⟨j, hj, hb⟩ c
  have hk64 : k < 64 := by
    by_cases c : k < 64
    · exact c
    · have : x.testBit k = false := Nat.testBit_lt_two_pow (Nat.lt_of_lt_of_le hx (by show 2 ^ 64 ≤ 2 ^ k; exact Nat.pow_le_pow_right (by decide) (by omega)))
      rw [this] at hk; cases hk
  refine ⟨k, hk64, hk, hl, ?_⟩
  -- x = (2 q + 1) 2^k
  have hmod : x % 2 ^ k = 0 := by
    apply Nat.eq_of_testBit_eq
    intro i
    rw [Nat.testBit_mod_two_pow, Nat.zero_testBit]
    by_cases c : i < k
    · simp [c, hl i c]
    · simp [c]
  have hbit : x / 2 ^ k % 2 = 1 := by
    have := hk
    rw [Nat.testBit_eq_decide_div_mod_eq] at this
    simpa using this
  obtain ⟨q, hq⟩ : ∃ q, x = 2 ^ k * (2 * q + 1) := by
    refine ⟨x / 2 ^ k / 2, ?_⟩
    have h1 := Nat.div_add_mod x (2 ^ k)
    rw [hmod] at h1
    have h2 : 2 * (x / 2 ^ k / 2) + 1 = x / 2 ^ k := by omega
    rw [h2]; omega
  have hP : (2 : Nat) ^ 64 = 2 ^ k * 2 ^ (64 - k) := by rw [← Nat.pow_add]; congr 1; omega
  have hneg : 18446744073709551616 - x = 2 ^ k * (2 ^ (64 - k) - (2 * q + 1)) := by
    rw [Nat.mul_sub, ← hP, ← hq]
  have hle : 2 * q + 1 < 2 ^ (64 - k) := by
    have : 2 ^ k * (2 * q + 1) < 2 ^ k * 2 ^ (64 - k) := by rw [← hP, ← hq]; exact hx
    exact Nat.lt_of_mul_lt_mul_left this
  obtain ⟨m, hm⟩ : ∃ m, 64 - k = m + 1 := ⟨63 - k, by omega⟩
  rw [hneg]
  conv => lhs; lhs; rw [hq]
  rw [Nat.mul_comm (2 ^ k) (2 * q + 1), Nat.mul_comm (2 ^ k) _, ← Nat.shiftLeft_eq, ← Nat.shiftLeft_eq, ← Nat.shiftLeft_and_distrib, Nat.shiftLeft_eq]
  have key : (2 * q + 1) &&& (2 ^ (64 - k) - (2 * q + 1)) = 1 := by
    rw [hm] at hle ⊢
    have e1 : 2 ^ (m + 1) - (2 * q + 1) = 2 * (2 ^ m - 1 - q) + 1 := by rw [Nat.pow_succ] at *; omega
    have hq2 : q < 2 ^ m := by rw [Nat.pow_succ] at hle; omega
    rw [e1]
    apply Nat.eq_of_testBit_eq
    intro i
    rw [Nat.testBit_and]
    cases i with
    | zero => simp
    | succ i =>
      rw [Nat.testBit_succ, Nat.testBit_succ, Nat.testBit_succ]
      have d1 : (2 * q + 1) / 2 = q := by omega
      have d2 : (2 * (2 ^ m - 1 - q) + 1) / 2 = 2 ^ m - 1 - q := by omega
      have d3 : 1 / 2 = 0 := rfl
      rw [d1, d2, d3, Nat.zero_testBit]
      have := Nat.testBit_two_pow_sub_succ hq2 i
      rw [show 2 ^ m - 1 - q = 2 ^ m - (q + 1) by omega, this]
      cases q.testBit i <;> simp
  rw [key, Nat.one_mul]

theorem tz_e1 (x k : Nat) (hx : x < 18446744073709551616) (h3 : x &&& (18446744073709551616 - x) = 2 ^ k) (h0 : x ≠ 0) : bits BinOp.and IntKind.u64 (x : Int) (IntKind.u64.wrap (-(x : Int))) = ((2 ^ k : Nat) : Int) := by
  have : IntKind.u64.wrap (-(x : Int)) = ((18446744073709551616 - x : Nat) : Int) := by rw [IntKind.wrap_u64]; omega
  rw [this, u64_and_nat x _ hx (by omega), h3]
theorem tz_e2 (x k : Nat) (h : bits BinOp.and IntKind.u64 (x : Int) (IntKind.u64.wrap (-(x : Int))) = ((2 ^ k : Nat) : Int)) : IntKind.u64.wrap (bits BinOp.and IntKind.u64 (x : Int) (IntKind.u64.wrap (-(x : Int))) * 285870213051353865) / 288230376151711744 = ((ix k : Nat) : Int) := by
  rw [h, IntKind.wrap_u64]
  unfold ix
  generalize 2 ^ k = y
  omega

theorem tz_walk (x i k : Nat) (h0 : x ≠ 0) (hi : i < 64) (hk : k < 64) (w : World) (hc : w.cell? ⟨0, i, none⟩ = some (.int .u8 (k : Int)))
    (e2 : IntKind.u64.wrap (bits BinOp.and IntKind.u64 (x : Int) (IntKind.u64.wrap (-(x : Int))) * 285870213051353865) / 288230376151711744 = ((i : Nat) : Int)) :
    Calls Tryd.prog 51 #[.int .u64 x] w fun e w' => e = .returned (.int .i64 (k : Int)) ∧ w' = w := by
  have hb : ((x : Int) == 0) = false := by simp; omega
  clear h0
  go_enter Tryd.func51, Tryd.ntmps51
  go_wp2_with fail
  go_ret
  exact ⟨rfl, rfl⟩

theorem tz_any (x : Nat) (hx : x < 18446744073709551616) (w : World) (ht : Tb w) :
    Calls Tryd.prog 51 #[.int .u64 x] w fun e w' => (∃ k : Nat, Low x k ∧ e = .returned (.int .i64 (k : Int))) ∧ w' = w := by
  by_cases h0 : x = 0
  · subst h0
    go_enter Tryd.func51, Tryd.ntmps51
    go_wp2_with fail
    go_ret
    exact ⟨⟨64, .inl ⟨rfl, rfl⟩, rfl⟩, rfl⟩
  · obtain ⟨k, hk, h1, h2, h3⟩ := low_bit x h0 hx
    refine (tz_walk x (ix k) k h0 (ix_lt k hk) hk w (ht.cell k hk) (tz_e2 x k (tz_e1 x k hx h3 h0))).mono ?_
    rintro e w' ⟨rfl, rfl⟩
    exact ⟨⟨k, .inr ⟨hk, h1, h2⟩, rfl⟩, rfl⟩
end Go.Proofs.YtbdjlhkgpblebaaDoor
