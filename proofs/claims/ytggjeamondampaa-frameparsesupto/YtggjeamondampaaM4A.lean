/- F1I, G4G, XF, XG, XH, XJ, XK, XL, XM, XP, XQ, XS, one text. -/
import Derived.Test.YtggjeamondampaaFH
import Derived.Laws.Tables
import Derived.Test.YtggjeamondampaaNC
import Derived.Test.YtggjeamondampaaNP
import Derived.BigRegion
import Derived.RegionTactic
namespace Go.Proofs.Ytggjeamondampaa
open Go.RowKit
set_option linter.unusedVariables false
set_option maxRecDepth 100000
/-- A whole frame is stored into the newest block. -/
theorem wpList_store_new {ops : Array Oper} {rest : List Oper} {o : Oper} {a : Act} {Q : Exit → Act → World → Prop} (W : World) (Z C : Array Value) (k : Nat) (hgd : o.guard = none) (t : TypeId) (p x : Operand) (ho : o.op = .store t p x)
    (hk : W.heap.size = k) (hp : a.eval p = .pointer (some ⟨k, 0, none⟩)) (hx : a.eval x = .agg C) (hi : (Try.prog.info? t).map (·.size) = some C.size) (hz : Z.size = C.size) (h1 : C.all (·.oneCell') = true)
    (h : wpList Try.prog ops Q rest (a.put o.dst undef) (W.alloc (.cells C t))) : wpList Try.prog ops Q (o :: rest) a (W.alloc (.cells Z t)) := by
  subst hk
  refine wpList_store_row hgd _ _ _ ho W.heap.size C hp hx t Z (Blk.new W Z t) hi hz h1 ?_
  rw [World.setRow_alloc_new]
  exact h

theorem Try.sizeF (f : Fr) (d r : Value) : (Try.prog.info? 26).map (·.size) = some (f.cs d r).size := Try.size26
abbrev Z17 : Array Value := #[.int .i64 0, .int .i64 0, .int .i64 0, .slice none 0 0, .int .i64 0, .bool false, .bool false, .int .i64 0, .bool false, .int .i64 0, .bool false, .int .i64 0, .slice none 0 0, .bool false, .int .i64 0, .int .i64 0, .int .i64 0]
end Go.Proofs.Ytggjeamondampaa

namespace Go.Proofs.Ytggjeamondampaa
open Go.RowKit
set_option linter.unusedVariables false
set_option maxRecDepth 100000
set_option maxHeartbeats 400000

def loanC (f : Fr) (d r d' r' ptr rs : Value) : Array Value := f.cs d r ++ f.cs d' r' ++ #[ptr, rs]
theorem Try.infoL : (Try.prog.info? 37).map (fun i => (i.zero, i.size, i.bytes)) = some (some (.agg (Z17 ++ Z17 ++ #[.pointer none, .slice none 0 0])), 36, 352) := by kernel_rfl
theorem built_loan (f : Fr) (d r d' r' : Value) (p : Option Addr) : Try.prog.built 37 [(0, .agg (f.cs d r)), (1, .agg (f.cs d' r')), (2, .pointer p)] = some (loanC f d r d' r' (.pointer p) (.slice none 0 0)) := by
  obtain ⟨i, hi, hz0, -, -⟩ := info_parts Try.infoL
  unfold Program.built
  rw [hi, Try.underlying37]
  simp only [hz0]
  rw [show (List.mapM _ _ : Option (List (Nat × Nat))) = some [(0, 17), (17, 17), (34, 1), (35, 1)] from by kernel_rfl]
  simp [Instr.fill, Value.cells, loanC]
theorem loanC_35 (f : Fr) (d r d' r' p v v4 : Value) : (loanC f d r d' r' p v).setIfInBounds 35 v4 = loanC f d r d' r' p v4 := by kernel_rfl
theorem loanC_3 (f : Fr) (d r d' r' p v v4 : Value) : (loanC f d r d' r' p v).setIfInBounds 3 v4 = loanC f v4 r d' r' p v := by kernel_rfl
theorem loanC_12 (f : Fr) (d r d' r' p v v4 : Value) : (loanC f d r d' r' p v).setIfInBounds 12 v4 = loanC f d v4 d' r' p v := by kernel_rfl
theorem loanC_g (f : Fr) (d r d' r' p v : Value) : (loanC f d r d' r' p v)[3]? = some d ∧ (loanC f d r d' r' p v)[12]? = some r ∧ (loanC f d r d' r' p v)[34]? = some p ∧ (loanC f d r d' r' p v)[35]? = some v := by refine ⟨?_, ?_, ?_, ?_⟩ <;> kernel_rfl
theorem loanC_lo (f : Fr) (d r d' r' p v : Value) (j : Nat) (u : Value) (h : (f.cs d r)[j]? = some u) : (loanC f d r d' r' p v)[0 + j]? = some u := by
  have hj : j < 17 := (Array.getElem?_eq_some_iff.1 h).1
  unfold loanC
  rw [Nat.zero_add, Array.getElem?_append_left (by simp; omega), Array.getElem?_append_left (by simp; omega)]
  exact h
theorem loanC_hi (f : Fr) (d r d' r' p v : Value) (j : Nat) (u : Value) (h : (f.cs d' r')[j]? = some u) : (loanC f d r d' r' p v)[17 + j]? = some u := by
  have hj : j < 17 := (Array.getElem?_eq_some_iff.1 h).1
  unfold loanC
  rw [Array.getElem?_append_left (by simp; omega), Array.getElem?_append_right (by simp)]
  simpa using h
end Go.Proofs.Ytggjeamondampaa

namespace Go.Proofs.Ytggjeamondampaa
open Go.RowKit
set_option linter.unusedVariables false
set_option maxRecDepth 100000

/-- The least number that no longer stands in so many. -/
def firstF (n : Int) : Int := if n = 1 then 64 else if n = 2 then 16384 else if n = 4 then 1073741824 else if n = 8 then 4611686018427387904 else 0

set_option maxHeartbeats 400000 in
theorem first_any (n : Int) (w : World) : Calls Try.prog 74 #[.int .i64 n] w fun e w' => e = .returned (.int .u64 (firstF n)) ∧ w' = w := by
  by_cases h1 : n = 1
  · subst h1
    go_enter Try.func74, Try.ntmps74
    go_wp2
    go_ret
    exact ⟨rfl, rfl⟩
  by_cases h2 : n = 2
  · subst h2
    go_enter Try.func74, Try.ntmps74
    go_wp2
    go_ret
    exact ⟨rfl, rfl⟩
  by_cases h4 : n = 4
  · subst h4
    go_enter Try.func74, Try.ntmps74
    go_wp2
    go_ret
    exact ⟨rfl, rfl⟩
  by_cases h8 : n = 8
  · subst h8
    go_enter Try.func74, Try.ntmps74
    go_wp2
    go_ret
    exact ⟨rfl, rfl⟩
  · have e1 : (n == 1) = false := by simp; omega
    have e2 : (n == 2) = false := by simp; omega
    have e4 : (n == 4) = false := by simp; omega
    have e8 : (n == 8) = false := by simp; omega
    have hf : firstF n = 0 := by unfold firstF; rw [if_neg h1, if_neg h2, if_neg h4, if_neg h8]
    have HF := hide hf
    clear hf h1 h2 h4 h8
    go_enter Try.func74, Try.ntmps74
    go_wp2
    go_ret
    exact ⟨ret_int (unhide HF).symm, rfl⟩

/-- The block of the sizes. -/
def szs : Obj := .cells #[.int .i64 1, .int .i64 2, .int .i64 4, .int .i64 8] 3
def szA (k : Nat) : Int := [1, 2, 4, 8].getD k 0

theorem sizes_any (w : World) : Calls Try.prog 73 #[] w fun e w' => e = .returned (.slice (some ⟨w.heap.size, 0, none⟩) 4 4) ∧ w' = w.alloc szs := by
  go_enter Try.func73, Try.ntmps73
  go_wp2
  go_ret
  exact ⟨rfl, rfl⟩

theorem szs_cell {w : World} {g : Nat} (h : w.heap[g]? = some szs) (k : Nat) (hk : k < 4) : w.cell? ⟨g, k, none⟩ = some (.int .i64 (szA k)) := by
  unfold World.cell?
  rw [h]
  have : k = 0 ∨ k = 1 ∨ k = 2 ∨ k = 3 := by omega
  rcases this with rfl | rfl | rfl | rfl <;> rfl

set_option maxHeartbeats 800000 in
theorem rsize_any (v : Int) (w : World) (v0 : 0 ≤ v) (v1 : v < 18446744073709551616) :
    Calls Try.prog 55 #[.int .u64 v] w fun e w' => e = .returned (.int .i64 (sizeF v)) ∧ w' = w.alloc szs := by
  have hc := szs_cell (heap_alloc_new w szs)
  have HC := hide hc
  clear hc
  go_enter Try.func55, Try.ntmps55
  go_wp2_with (go_at_call 73; refine (sizes_any _).mono ?_; rintro e w' ⟨rfl, rfl⟩)
  go_loop [4] (fun i => ∃ k : Nat, k ≤ 4 ∧ i = .int .i64 k ∧ (1 ≤ k → 64 ≤ v) ∧ (2 ≤ k → 16384 ≤ v) ∧ (3 ≤ k → 1073741824 ≤ v) ∧ (4 ≤ k → 4611686018427387904 ≤ v)) (fun i => 4 - (intOf i).toNat)
  case atStart => exact ⟨0, by omega, rfl, by omega, by omega, by omega, by omega⟩
  case round =>
    obtain ⟨k, hk, rfl, g1, g2, g3, g4⟩ := hrel
    have : k = 0 ∨ k = 1 ∨ k = 2 ∨ k = 3 ∨ k = 4 := by omega
    rcases this with rfl | rfl | rfl | rfl | rfl
    · have hc0 : (w.alloc szs).cell? ⟨w.heap.size, 0, none⟩ = some (.int .i64 1) := (unhide HC) 0 (by omega)
      by_cases hv : v < 64
      · go_wp2_with (go_at_call 74; refine (first_any _ _).mono ?_; rintro e w' ⟨rfl, rfl⟩; rw [show firstF 1 = 64 from rfl])
        go_ret
        exact ⟨ret_int (by unfold sizeF; rw [if_pos hv]; rfl), rfl⟩
      · go_wp2_with (go_at_call 74; refine (first_any _ _).mono ?_; rintro e w' ⟨rfl, rfl⟩; rw [show firstF 1 = 64 from rfl])
        go_round
        case rel => exact ⟨1, by omega, rfl, by omega, by omega, by omega, by omega⟩
        case measure => simp [intOf]
    · have hc0 : (w.alloc szs).cell? ⟨w.heap.size, 1, none⟩ = some (.int .i64 2) := (unhide HC) 1 (by omega)
      have g1' := g1 (by omega)
      clear g1 g2 g3 g4
      by_cases hv : v < 16384
      · go_wp2_with (go_at_call 74; refine (first_any _ _).mono ?_; rintro e w' ⟨rfl, rfl⟩; rw [show firstF 2 = 16384 from rfl])
        go_ret
        exact ⟨ret_int (by unfold sizeF; rw [if_neg (by omega), if_pos hv]; rfl), rfl⟩
      · go_wp2_with (go_at_call 74; refine (first_any _ _).mono ?_; rintro e w' ⟨rfl, rfl⟩; rw [show firstF 2 = 16384 from rfl])
        go_round
        case rel => exact ⟨2, by omega, rfl, by omega, by omega, by omega, by omega⟩
        case measure => simp [intOf]
    · have hc0 : (w.alloc szs).cell? ⟨w.heap.size, 2, none⟩ = some (.int .i64 4) := (unhide HC) 2 (by omega)
      have g1' := g2 (by omega)
      clear g1 g2 g3 g4
      by_cases hv : v < 1073741824
      · go_wp2_with (go_at_call 74; refine (first_any _ _).mono ?_; rintro e w' ⟨rfl, rfl⟩; rw [show firstF 4 = 1073741824 from rfl])
        go_ret
        exact ⟨ret_int (by unfold sizeF; rw [if_neg (by omega), if_neg (by omega), if_pos hv]; rfl), rfl⟩
      · go_wp2_with (go_at_call 74; refine (first_any _ _).mono ?_; rintro e w' ⟨rfl, rfl⟩; rw [show firstF 4 = 1073741824 from rfl])
        go_round
        case rel => exact ⟨3, by omega, rfl, by omega, by omega, by omega, by omega⟩
        case measure => simp [intOf]
    · have hc0 : (w.alloc szs).cell? ⟨w.heap.size, 3, none⟩ = some (.int .i64 8) := (unhide HC) 3 (by omega)
      have g1' := g3 (by omega)
      clear g1 g2 g3 g4
      by_cases hv : v < 4611686018427387904
      · go_wp2_with (go_at_call 74; refine (first_any _ _).mono ?_; rintro e w' ⟨rfl, rfl⟩; rw [show firstF 8 = 4611686018427387904 from rfl])
        go_ret
        exact ⟨ret_int (by unfold sizeF; rw [if_neg (by omega), if_neg (by omega), if_neg (by omega), if_pos (by omega)]; rfl), rfl⟩
      · go_wp2_with (go_at_call 74; refine (first_any _ _).mono ?_; rintro e w' ⟨rfl, rfl⟩; rw [show firstF 8 = 4611686018427387904 from rfl])
        go_round
        case rel => exact ⟨4, by omega, rfl, by omega, by omega, by omega, by omega⟩
        case measure => simp [intOf]
    · have g1' := g4 (by omega)
      clear g1 g2 g3 g4
      go_wp2
      go_ret
      exact ⟨ret_int (by unfold sizeF; rw [if_neg (by omega), if_neg (by omega), if_neg (by omega), if_neg (by omega)]; rfl), rfl⟩
end Go.Proofs.Ytggjeamondampaa

namespace Go.Proofs.Ytggjeamondampaa
open Go.RowKit
set_option linter.unusedVariables false
set_option maxRecDepth 100000

theorem dig_get (v : Int) : ∀ (n i : Nat), i < n → (dig v n).getD i 0 = v / 256 ^ (n - 1 - i) % 256
  | 0, i, h => by omega
  | n + 1, 0, h => by simp [dig]
  | n + 1, i + 1, h => by
    have := dig_get v n i (by omega)
    rw [show n + 1 - 1 - (i + 1) = n - 1 - i by omega, ← this]
    simp [dig]

def vals (l : List Int) : List Value := l.map (Value.int .u8)
theorem vals_length (l : List Int) : (vals l).length = l.length := by simp [vals]
theorem vals_snoc (l : List Int) (x : Int) : vals (l ++ [x]) = vals l ++ [.int .u8 x] := by simp [vals]

set_option maxHeartbeats 1600000 in
theorem digits_any (v : Int) (n : Nat) (w : World) (v0 : 0 ≤ v) (v1 : v < 18446744073709551616) (hn : n ≤ 8) :
    Calls Try.prog 94 #[.int .u64 v, .int .i64 n] w fun e w' => ∃ s, e = .returned s ∧ w'.ownsRow w.heap.size 5 1 s n (vals (dig v n)) ∧ Below w.heap.size w w' := by
  go_enter Try.func94, Try.ntmps94
  go_wp2
  go_loopw [5, 6] (fun b i wr => ∃ k : Nat, k ≤ n ∧ i = .int .i64 k ∧ wr.ownsRow w.heap.size 5 1 b k (vals ((dig v n).take k)) ∧ Below w.heap.size w wr) (fun _ i _ => n - (intOf i).toNat)
  case atStart => exact ⟨0, Nat.zero_le _, rfl, World.ownsRow_nil _ _ _ _, Below.refl _ _⟩
  case round =>
    obtain ⟨k, hk, rfl, hown, hbel⟩ := hrel
    by_cases hlt : k < n
    · go_wp2_with fail
      go_loop [7, 8] (fun d q => ∃ j : Nat, k + 1 + j ≤ n ∧ q = .int .i64 ((k : Int) + 1 + j) ∧ d = .int .u64 (v / 256 ^ j)) (fun _ q => n - (intOf q).toNat)
      case atStart => exact ⟨0, by omega, by go_num, by simp⟩
      case round =>
        obtain ⟨j, hj, rfl, rfl⟩ := hrel
        have u0 : 0 ≤ v / 256 ^ j := Int.ediv_nonneg v0 (Int.le_of_lt (Int.pow_pos (by decide)))
        have u1 : v / 256 ^ j < 18446744073709551616 := Int.lt_of_le_of_lt (Int.ediv_le_self _ v0) v1
        by_cases hlt2 : k + 1 + j < n
        · have HS : Hid (v / 256 ^ (j + 1) = v / 256 ^ j / 256) := by rw [Int.pow_succ, Int.ediv_ediv_of_nonneg (Int.le_of_lt (Int.pow_pos (by decide)))]; exact rfl
          go_wp2_with fail
          go_round
          case rel => exact ⟨j + 1, by omega, by go_num, by rw [HS.out]⟩
          case measure => simp [intOf]; omega
        · have hd := dig_get v n k hlt
          rw [show n - 1 - k = j by omega] at hd
          have HT : Hid ((dig v n).take (k + 1) = (dig v n).take k ++ [v / 256 ^ j % 256]) := by rw [take_snoc _ _ (by rw [dig_length]; exact hlt), hd]; exact rfl
          clear hd
          have hsz := hbel.size
          go_wp2_with (first
            | (at_builtin; (refine wpList_app1 wr rfl _ _ rfl w.heap.size _ k _ hown rfl (.int .u8 (v / 256 ^ j % 256)) rfl rfl (by omega) hsz ?_))
            | go_in)
          · intro v' w1 hown' hgrow _
            have bel1 := hgrow.below (hbel.alloc hsz (.cells #[.int .u8 (v / 256 ^ j % 256)] 5)) (by simp; omega) (fun q hq => ((hown.lt) q hq).1)
            clear hgrow hown hbel
            go_wp2_with fail
            go_roundw
            case rel => exact ⟨k + 1, by omega, by go_num, by rw [HT.out, vals_snoc]; exact hown', bel1⟩
            case measure => simp [intOf]; omega
    · go_wp2_with fail
      go_ret
      exact ⟨_, rfl, by have : k = n := by omega
                        subst this
                        rw [List.take_of_length_le (by rw [dig_length]; exact Nat.le_refl _)] at hown
                        exact hown, hbel⟩
end Go.Proofs.Ytggjeamondampaa

namespace Go.Proofs.Ytggjeamondampaa
open Go.RowKit
set_option linter.unusedVariables false
set_option maxRecDepth 100000

theorem ownsRow_open {w : World} {base : Nat} {e : TypeId} {v : Value} {n : Nat} {xs : List Value} (h : w.ownsRow base e 1 v n xs) (hn : n ≠ 0) : ∃ g cap, v = .slice (some ⟨g, 0, none⟩) n cap ∧ base ≤ g ∧ g < w.heap.size ∧ n ≤ cap ∧ cap ≤ maxLen := by
  have hl := h.lt
  rcases h.2 with ⟨_, h0⟩ | ⟨g, cap, cur, rfl, hb, hg, hnc, hm, _⟩
  · exact absurd h0 hn
  · exact ⟨g, cap, rfl, hb, (hl g rfl).2, hnc, hm⟩

theorem layF_cons (v : Int) (m : Nat) (c : Int) (hc : markF (m + 1) = c) : layF v (m + 1) = (v / 256 ^ m % 256 + c) :: dig v m := by
  simp only [layF, dig, hc]

set_option maxHeartbeats 1600000 in
theorem rputAs_ok (v : Int) (n m idx : Nat) (w : World) (v0 : 0 ≤ v) (hn : n = m + 1) (hn8 : n ≤ 8) (hf : Fits v n) (hi : idx < 4) (hid : szA idx = n) (hnot : ∀ k, k < 4 → k ≠ idx → szA k ≠ n) (hmk : markF n = 64 * (idx : Int)) (hfst : v < firstF n) (hd : v / 256 ^ m % 256 ≤ 63) :
    Calls Try.prog 83 #[.int .u64 v, .int .i64 n] w fun e w' => ∃ s, e = .returned (.tuple #[s, .int .i64 0]) ∧ w'.ownsRow w.heap.size 5 1 s n (vals (layF v n)) ∧ Below w.heap.size w w' := by
  have v1 : v < 18446744073709551616 := by rcases hf with ⟨_, h⟩ | ⟨_, h⟩ | ⟨_, h⟩ | ⟨_, h⟩ <;> omega
  have hne : (firstF n == 0) = false := by simp; omega
  have HID := hide hid; have HNOT := hide hnot; have HF := hide hf
  have HL : Hid (vals (layF v n) = .int .u8 (v / 256 ^ m % 256 + 64 * (idx : Int)) :: vals (dig v m)) := by
    show _ = _
    subst hn; rw [layF_cons v m _ hmk]; rfl
  have HD : Hid (vals (dig v n) = .int .u8 (v / 256 ^ m % 256) :: vals (dig v m)) := by
    show _ = _
    subst hn; rfl
  have d0 : 0 ≤ v / 256 ^ m % 256 := by omega
  have hn0 : n ≠ 0 := by omega
  clear hid hnot hf hmk hn
  go_enter Try.func83, Try.ntmps83
  go_wp2_with (first
    | (go_at_call 74; refine (first_any _ _).mono ?_; rintro e w' ⟨rfl, hw⟩; subst w')
    | (go_at_call 94; refine (digits_any v n _ v0 v1 hn8).mono ?_; rintro e w1 ⟨s, rfl, hown, hbel⟩))
  refine (sizes_any _).mono ?_
  rintro e w2 ⟨rfl, rfl⟩
  obtain ⟨g, cap, rfl, hg, hgl, hnc, hcm⟩ := ownsRow_open hown hn0
  have hs := heap_alloc_new w1 szs
  have hown1 := hown.alloc szs
  have hbel1 := hbel.alloc hbel.size szs
  have hgs : w1.heap.size < (w1.alloc szs).heap.size := by simp
  have HS := hide hs; have HO := hide hown1; have HB := hide hbel1
  generalize hsb : w1.heap.size = gs at HS hgs hgl ⊢
  generalize w1.alloc szs = W at HS HO HB hgs ⊢
  clear hs hown1 hbel1 hown hbel hsb w1
  unfold maxLen at hcm
  go_wp2_with fail
  go_loopw [9] (fun i wr => ∃ k : Nat, k ≤ 4 ∧ i = .int .i64 k ∧ wr.heap[gs]? = some szs ∧ (k ≤ idx → wr.ownsRow w.heap.size 5 1 (.slice (some ⟨g, 0, none⟩) n cap) n (vals (dig v n))) ∧ (idx < k → wr.ownsRow w.heap.size 5 1 (.slice (some ⟨g, 0, none⟩) n cap) n (vals (layF v n))) ∧ Below w.heap.size w wr) (fun i _ => 4 - (intOf i).toNat)
  case atStart => exact ⟨0, by omega, rfl, unhide HS, fun _ => unhide HO, fun h => by omega, unhide HB⟩
  case round =>
    obtain ⟨k, hk, rfl, hsz, hA, hB, hbel⟩ := hrel
    by_cases hlt : k < 4
    · have hc := szs_cell hsz k hlt
      by_cases hki : k = idx
      · have heq : (szA k == (n : Int)) = true := by rw [hki, beq_iff_eq]; exact unhide HID
        have own := hA (by omega)
        have hc0 : wr.cell? ⟨g, 0, none⟩ = some (.int .u8 (v / 256 ^ m % 256)) := by rw [own.cellAt 0 (by omega), unhide HD]; rfl
        have hf0 := own.frozenAt 0
        have hst := own.stored 0 (.int .u8 (v / 256 ^ m % 256 + 64 * (k : Int)))
        have HST := hide hst
        have HA := hide hA; have HB2 := hide hB; have HBEL := hide hbel; have HZ := hide hsz; have HKI := hide hki
        have hk3 : (k : Int) ≤ 3 := by omega
        have hgne : gs ≠ g := by omega
        clear hst hA hB hbel hsz own hki
        generalize v / 256 ^ m % 256 = D at *
        go_wp2_with fail
        go_roundw
        case rel =>
          refine ⟨k + 1, by omega, by go_num, ?_, fun h => by have := unhide HKI; omega, fun _ => ?_, ?_⟩
          · rw [(unhide HST).2.block gs (lt_of_block (unhide HZ)) (by simp; exact hgne)]; exact unhide HZ
          · have := (unhide HST).1
            rw [unhide HD] at this
            rw [unhide HL, ← unhide HKI]
            exact this
          · exact (unhide HBEL).grown (unhide HST).2 (unhide HBEL).size (fun q hq => by cases hq; exact hg)
        case measure => simp [intOf]; omega
      · have heq : (szA k == (n : Int)) = false := by rw [beq_eq_false_iff_ne]; exact unhide HNOT k hlt hki
        have HA := hide hA; have HB2 := hide hB; have HBEL := hide hbel; have HZ := hide hsz; have HKI := hide hki
        clear hA hB hbel hsz hki
        go_wp2_with fail
        go_roundw
        case rel => exact ⟨k + 1, by omega, by go_num, unhide HZ, fun h => unhide HA (by omega), fun h => unhide HB2 (by have := unhide HKI; omega), unhide HBEL⟩
        case measure => simp [intOf]; omega
    · have own := hB (by omega)
      clear hA hB
      go_wp2_with fail
      go_ret2
      exact ⟨_, rfl, own, hbel⟩
end Go.Proofs.Ytggjeamondampaa

namespace Go.Proofs.Ytggjeamondampaa
open Go.RowKit
set_option linter.unusedVariables false
set_option maxRecDepth 100000

theorem joinF_room (S : List Int) (hS : ∀ x ∈ S, IsB x) (u B : Int) (u0 : 0 ≤ u) (u1 : u < B) (hB : B * 256 ^ S.length ≤ 18446744073709551616) (k : Nat) (hk : k < S.length) :
    0 ≤ joinF u (S.take k) ∧ joinF u (S.take k) * 256 + 255 < 18446744073709551616 := by
  have h2 := joinF_lt (S.take k) (fun x hx => hS x (List.mem_of_mem_take hx)) u B u0 u1
  refine ⟨h2.1, ?_⟩
  rw [show (S.take k).length = k by simp; omega] at h2
  have h3 : B * 256 ^ k * 256 ≤ B * 256 ^ S.length := by
    have : (256 : Int) ^ (k + 1) ≤ 256 ^ S.length := by
      have := Int.ofNat_le.2 (Nat.pow_le_pow_right (n := 256) (by omega) (show k + 1 ≤ S.length from hk))
      rw [Int.natCast_pow, Int.natCast_pow] at this
      exact this
    rw [Int.mul_assoc, ← Int.pow_succ]
    exact Int.mul_le_mul_of_nonneg_left this (by omega)
  omega

theorem sub_get (l : List Int) (k n j : Nat) (hj : j < n) : ((l.drop k).take n).getD j 0 = l.getD (k + j) 0 := by
  simp [List.getD, hj]


set_option maxHeartbeats 800000 in
theorem rget_arg (a : Option Addr) (l : List Int) (cap : Nat) (i : Int) (w : World) (h : i < 0 ∨ (l.length : Int) < i) (hm : l.length ≤ maxLen) :
    Calls Try.prog 54 #[.slice a l.length cap, .int .i64 i] w fun e w' => e = .returned (tup3 (getF l i)) ∧ w' = w := by
  rw [getF_arg l i h]
  unfold maxLen at hm
  by_cases h0 : i < 0
  · clear h
    go_enter Try.func54, Try.ntmps54
    go_wp2
    go_ret3
    exact ⟨rfl, rfl⟩
  · have h1 : (l.length : Int) < i := by omega
    clear h
    go_enter Try.func54, Try.ntmps54
    go_wp2
    go_ret3
    exact ⟨rfl, rfl⟩

set_option maxHeartbeats 800000 in
theorem rget_end (a : Option Addr) (l : List Int) (cap : Nat) (w : World) (hm : l.length ≤ maxLen) :
    Calls Try.prog 54 #[.slice a l.length cap, .int .i64 l.length] w fun e w' => e = .returned (tup3 (getF l l.length)) ∧ w' = w := by
  rw [getF_end l]
  unfold maxLen at hm
  have h0 : ¬ (l.length : Int) < 0 := by omega
  go_enter Try.func54, Try.ntmps54
  go_wp2
  go_ret3
  exact ⟨rfl, rfl⟩

set_option maxHeartbeats 1600000 in
theorem rget_in (b off : Nat) (l : List Int) (cap k n q : Nat) (x : Int) (w : World) (hm : l.length ≤ maxLen) (hk : k < l.length) (hb : ∀ x ∈ l, IsB x) (hc : ∀ i, i < l.length → w.cell? ⟨b, off + i, none⟩ = some (.int .u8 (l.getD i 0)))
    (hxl : l.getD k 0 = x) (hq : x / 64 = q) (hqn : szA q = n) (hsz : sz x = n) (hq4 : q < 4) (n1 : 1 ≤ n) (n8 : n ≤ 8) (x0 : 0 ≤ x) (x1 : x ≤ 255) :
    Calls Try.prog 54 #[.slice (some ⟨b, off, none⟩) l.length cap, .int .i64 k] w fun e w' => e = .returned (tup3 (getF l k)) ∧ w' = w.alloc szs := by
  have hx : w.cell? ⟨b, off + k, none⟩ = some (.int .u8 x) := by rw [hc k hk, hxl]
  have hbl := World.block_lt_of_cell? w _ hx
  have hx' : (w.alloc szs).cell? ⟨b, off + k, none⟩ = some (.int .u8 x) := by rw [World.cell?_of_block (Below.heap_alloc w szs _ hbl)]; exact hx
  have hcq : (w.alloc szs).cell? ⟨w.heap.size, q, none⟩ = some (.int .i64 n) := by rw [szs_cell (heap_alloc_new w szs) q hq4, hqn]
  unfold maxLen at hm
  have h0 : ¬ (k : Int) < 0 := by omega
  have h1 : ¬ (l.length : Int) < k := by omega
  have h2 : ((k : Int) == l.length) = false := by simp; omega
  have q0 : (0 : Int) ≤ q := by omega
  have q4 : (q : Int) < 4 := by omega
  by_cases hs : k + n ≤ l.length
  · rw [getF_in l k n x hxl hsz hs hk]
    have h3 : ¬ (l.length : Int) - k < n := by omega
    have hsl := sub_len l (k + 1) (n - 1) (by omega)
    have hsb : ∀ x ∈ (l.drop (k + 1)).take (n - 1), IsB x := fun x hx => hb x (List.mem_of_mem_drop (List.mem_of_mem_take hx))
    have room := joinF_room _ hsb (x % 64) 64 (by omega) (by omega) (by
      rw [hsl]
      have : n = 1 ∨ n = 2 ∨ n = 3 ∨ n = 4 ∨ n = 5 ∨ n = 6 ∨ n = 7 ∨ n = 8 := by omega
      rcases this with rfl | rfl | rfl | rfl | rfl | rfl | rfl | rfl <;> decide)
    have cel : ∀ j, j < n - 1 → (w.alloc szs).cell? ⟨b, off + (k + (1 + j)), none⟩ = some (.int .u8 (((l.drop (k + 1)).take (n - 1)).getD j 0)) := fun j hj => by
      rw [World.cell?_of_block (a := ⟨b, off + (k + (1 + j)), none⟩) (Below.heap_alloc w szs _ hbl), sub_get l (k + 1) (n - 1) j hj, show k + (1 + j) = k + 1 + j by omega]
      exact hc _ (by omega)
    rw [hsl] at room
    have ROOM := hide room; have CEL := hide cel; have HSL := hide hsl; have HSB := hide hsb
    clear room cel hsl hsb hb hc hxl hqn hsz hx
    generalize (l.drop (k + 1)).take (n - 1) = S at *
    go_enter Try.func54, Try.ntmps54
    go_wp2_with (go_at_call 73; refine (sizes_any _).mono ?_; rintro e w' ⟨rfl, rfl⟩)
    go_loop [9, 10] (fun u i => ∃ j : Nat, j ≤ n - 1 ∧ i = .int .i64 (1 + (j : Int)) ∧ u = .int .u64 (joinF (x % 64) (S.take j))) (fun _ i => n - (intOf i).toNat)
    case atStart => exact ⟨0, Nat.zero_le _, rfl, rfl⟩
    case round =>
      obtain ⟨j, hj, rfl, rfl⟩ := hrel
      by_cases hlt : j < n - 1
      · have hck := (unhide CEL) j hlt
        obtain ⟨b0, b1⟩ := (unhide HSB) (S.getD j 0) (by have := unhide HSL; simp [List.getD, show j < S.length by omega])
        obtain ⟨j0, j1⟩ := (unhide ROOM) j hlt
        have HS : Hid (joinF (x % 64) (S.take (j + 1)) = joinF (x % 64) (S.take j) * 256 + S.getD j 0) := by rw [take_snoc S j (by have := unhide HSL; omega), joinF_snoc]; exact rfl
        generalize S.getD j 0 = y at hck b0 b1 HS
        have hc2 : (256 : Int) * joinF (x % 64) (S.take j) = joinF (x % 64) (S.take j) * 256 := Int.mul_comm _ _
        generalize joinF (x % 64) (S.take j) = J at j0 j1 HS hc2 ⊢
        have hlt' : (1 : Int) + j < n := by omega
        go_wp2_with fail
        go_round
        case rel => exact ⟨j + 1, by omega, by go_num, by rw [HS.out]⟩
        case measure => simp [intOf]; omega
      · have hlt' : ¬ (1 : Int) + j < n := by omega
        go_wp2_with fail
        go_ret3
        exact ⟨by rw [List.take_of_length_le (by have := unhide HSL; omega)]; rfl, rfl⟩
  · rw [getF_short l k n x hxl hsz hs hk]
    have h3 : (l.length : Int) - k < n := by omega
    clear hxl hsz hqn hb hc hx
    go_enter Try.func54, Try.ntmps54
    go_wp2_with (go_at_call 73; refine (sizes_any _).mono ?_; rintro e w' ⟨rfl, rfl⟩)
    go_ret3
    exact ⟨rfl, rfl⟩

theorem rget_any (a : Option Addr) (l : List Int) (cap : Nat) (i : Int) (w : World) (hr : Rd w a l) (hm : l.length ≤ maxLen) :
    Calls Try.prog 54 #[.slice a l.length cap, .int .i64 i] w fun e w' => e = .returned (tup3 (getF l i)) ∧ Below w.heap.size w w' := by
  by_cases h1 : i < 0 ∨ (l.length : Int) < i
  · exact (rget_arg a l cap i w h1 hm).mono fun e w' ⟨he, hw⟩ => ⟨he, by rw [hw]; exact Below.refl _ _⟩
  · by_cases h2 : i = l.length
    · subst h2
      exact (rget_end a l cap w hm).mono fun e w' ⟨he, hw⟩ => ⟨he, by rw [hw]; exact Below.refl _ _⟩
    · obtain ⟨k, rfl⟩ := Int.eq_ofNat_of_zero_le (show 0 ≤ i by omega)
      have hk : k < l.length := by omega
      obtain ⟨hb, hc⟩ := hr
      obtain ⟨b, off, rfl, hcc⟩ := hc (by intro e; simp [e] at hk)
      have hx := hb (l.getD k 0) (by simp [List.getD, hk])
      unfold IsB at hx
      have key : ∀ q n : Nat, l.getD k 0 / 64 = q → szA q = n → sz (l.getD k 0) = n → q < 4 → 1 ≤ n → n ≤ 8 → Calls Try.prog 54 #[.slice (some ⟨b, off, none⟩) l.length cap, .int .i64 k] w fun e w' => e = .returned (tup3 (getF l k)) ∧ Below w.heap.size w w' := fun q n g1 g2 g3 g4 g5 g6 =>
        (rget_in b off l cap k n q _ w hm hk hb hcc rfl g1 g2 g3 g4 g5 g6 hx.1 hx.2).mono fun e w' ⟨he, hw⟩ => ⟨he, by rw [hw]; exact (Below.refl _ _).alloc (Nat.le_refl _) _⟩
      have : l.getD k 0 / 64 = 0 ∨ l.getD k 0 / 64 = 1 ∨ l.getD k 0 / 64 = 2 ∨ l.getD k 0 / 64 = 3 := by omega
      rcases this with h | h | h | h
      · exact key 0 1 h rfl (by unfold sz; (repeat' split) <;> omega) (by omega) (by omega) (by omega)
      · exact key 1 2 h rfl (by unfold sz; (repeat' split) <;> omega) (by omega) (by omega) (by omega)
      · exact key 2 4 h rfl (by unfold sz; (repeat' split) <;> omega) (by omega) (by omega) (by omega)
      · exact key 3 8 h rfl (by unfold sz; (repeat' split) <;> omega) (by omega) (by omega) (by omega)
end Go.Proofs.Ytggjeamondampaa

namespace Go.Proofs.Ytggjeamondampaa
open Go.RowKit
set_option linter.unusedVariables false
set_option maxRecDepth 100000

/-! Same -/
set_option maxHeartbeats 800000 in
theorem same_ok (a b : Option Addr) (l : List Int) (c1 c2 : Nat) (w : World) (ha : Rd w a l) (hb : Rd w b l) (hm : l.length ≤ maxLen) :
    Calls Try.prog 14 #[.slice a l.length c1, .slice b l.length c2] w fun e w' => e = .returned (.bool true) ∧ ∃ n, w' = w.drewN n := by
  have HA := hide ha; have HB := hide hb
  clear ha hb
  unfold maxLen at hm
  go_enter Try.func14, Try.ntmps14
  go_wp2
  go_loopw [5] (fun i wr => ∃ (k q : Nat), k ≤ l.length ∧ i = .int .i64 k ∧ wr = w.drewN q) (fun i _ => l.length - (intOf i).toNat)
  case atStart => exact ⟨0, 0, Nat.zero_le _, rfl, rfl⟩
  case round =>
    obtain ⟨k, q, hk, rfl, rfl⟩ := hrel
    by_cases hlt : k < l.length
    · have hne : l ≠ [] := by intro e; simp [e] at hlt
      obtain ⟨b1, o1, rfl, h1⟩ := (unhide HA).2 hne
      obtain ⟨b2, o2, rfl, h2⟩ := (unhide HB).2 hne
      have k1 := h1 k hlt
      have k2 := h2 k hlt
      generalize l.getD k 0 = x at k1 k2
      clear h1 h2 hne
      go_wp2
      go_quiet (fail)
      all_goals go_wp2
      go_roundw
      case rel => exact ⟨k + 1, _, by omega, by go_num, rfl⟩
      case measure => simp [intOf]; omega
    · go_wp2
      go_ret
      exact ⟨rfl, _, rfl⟩

/-! Big, by definition -/
theorem bel_drewN {n : Nat} {w w' : World} (h : Below n w w') (q : Nat) : Below n w (w'.drewN q) := ⟨h.os, h.tape, h.output, h.size, h.block⟩
end Go.Proofs.Ytggjeamondampaa

namespace Go.Proofs.Ytggjeamondampaa
open Go.RowKit
set_option linter.unusedVariables false
set_option maxRecDepth 100000

/-- A lent copy under way: its two rows so far, apart. -/
structure LP (w0 : World) (B : Nat) (wr : World) (g : Nat) (n : Nat) (fv wv : Value) (kf kw : Nat) (F W : List Int) : Prop where
  blk : wr.heap[g]? = some (.cells #[fv, wv, .int .i64 n] 95 (0, 0))
  full : wr.ownsRow (g + 1) 5 1 fv kf (vals F)
  was : wr.ownsRow (g + 1) 5 1 wv kw (vals W)
  sep : fv.ownBlock = none ∨ fv.ownBlock ≠ wv.ownBlock
  bel : Below B w0 wr
  low : B ≤ g

theorem LP.lt {w0 : World} {B : Nat} {wr : World} {g n : Nat} {fv wv : Value} {kf kw : Nat} {F W : List Int} (h : LP w0 B wr g n fv wv kf kw F W) : g < wr.heap.size := lt_of_block h.blk

theorem LP.cells {w0 : World} {B : Nat} {wr : World} {g n : Nat} {fv wv : Value} {kf kw : Nat} {F W : List Int} (h : LP w0 B wr g n fv wv kf kw F W) :
    wr.cell? ⟨g, 0, none⟩ = some fv ∧ wr.cell? ⟨g, 1, none⟩ = some wv ∧ wr.cell? ⟨g, 2, none⟩ = some (.int .i64 n) ∧ wr.frozen? ⟨g, 0, none⟩ = false ∧ wr.frozen? ⟨g, 1, none⟩ = false := by
  simp [World.cell?, World.frozen?, h.blk]

theorem LP.app_full {w0 : World} {B : Nat} {wr : World} {g n : Nat} {fv wv : Value} {kf kw : Nat} {F W : List Int} (h : LP w0 B wr g n fv wv kf kw F W) (o : Obj) {W1 : World} {fv' : Value} {k' : Nat} {F' : List Int}
    (hm : Moved (wr.alloc o) W1 fv fv') (ho : W1.ownsRow (g + 1) 5 1 fv' k' (vals F')) :
    (W1.cell? ⟨g, 0, none⟩ = some fv ∧ W1.frozen? ⟨g, 0, none⟩ = false ∧ W1.cell? ⟨g, 1, none⟩ = some wv ∧ W1.frozen? ⟨g, 1, none⟩ = false) ∧ LP w0 B (W1.setCell ⟨g, 0, none⟩ fv') g n fv' wv k' kw F' W := by
  have hlt := h.lt
  have row : ∀ k, fv.ownBlock = some k → g + 1 ≤ k := fun k hk => (h.full.lt k hk).1
  have wlt : ∀ k, wv.ownBlock = some k → k < wr.heap.size := fun k hk => (h.was.lt k hk).2
  have hb : W1.heap[g]? = some (.cells #[fv, wv, .int .i64 n] 95 (0, 0)) := by
    rcases hm with ⟨_, hg⟩ | ⟨_, hg, _⟩
    · rw [hg.block g (by simp; omega) (by intro e; have := row g e.symm; omega), Below.heap_alloc _ _ _ hlt]; exact h.blk
    · rw [hg.block g (by simp; omega) (by simp), Below.heap_alloc _ _ _ hlt]; exact h.blk
  have hw : W1.ownsRow (g + 1) 5 1 wv kw (vals W) := by
    rcases hm with ⟨_, hg⟩ | ⟨_, hg, _⟩
    · refine (h.was.alloc o).kept hg ?_
      rcases h.sep with hs | hs
      · rw [hs]; cases wv.ownBlock <;> simp
      · exact .inr (Ne.symm hs)
    · exact (h.was.alloc o).kept hg (by cases wv.ownBlock <;> simp)
  refine ⟨by simp [World.cell?, World.frozen?, hb], ⟨?_, ownsRow_setCell_below ho (by simp) _, ownsRow_setCell_below hw (by simp) _, ?_, ?_, h.low⟩⟩
  · rw [heap_setCell_same W1 g 0 _ _ fv' hb]; rfl
  · rcases hm with ⟨e, _⟩ | ⟨e, _, _⟩
    · rw [e]; exact h.sep
    · right
      rw [e]
      intro hc
      have := wlt _ hc.symm
      simp at this
      omega
  · exact (hm.below (h.bel.alloc (by have := h.bel.size; have := h.low; omega) o) (by have := h.low; simp; omega) (fun k hk => by have := row k hk; have := h.low; omega)).setCell (by simpa using h.low) _

theorem LP.app_was {w0 : World} {B : Nat} {wr : World} {g n : Nat} {fv wv : Value} {kf kw : Nat} {F W : List Int} (h : LP w0 B wr g n fv wv kf kw F W) (o : Obj) {W1 : World} {wv' : Value} {k' : Nat} {W' : List Int}
    (hm : Moved (wr.alloc o) W1 wv wv') (ho : W1.ownsRow (g + 1) 5 1 wv' k' (vals W')) :
    (W1.cell? ⟨g, 1, none⟩ = some wv ∧ W1.frozen? ⟨g, 1, none⟩ = false) ∧ LP w0 B (W1.setCell ⟨g, 1, none⟩ wv') g n fv wv' kf k' F W' := by
  have hlt := h.lt
  have row : ∀ k, wv.ownBlock = some k → g + 1 ≤ k := fun k hk => (h.was.lt k hk).1
  have flt : ∀ k, fv.ownBlock = some k → k < wr.heap.size := fun k hk => (h.full.lt k hk).2
  have hb : W1.heap[g]? = some (.cells #[fv, wv, .int .i64 n] 95 (0, 0)) := by
    rcases hm with ⟨_, hg⟩ | ⟨_, hg, _⟩
    · rw [hg.block g (by simp; omega) (by intro e; have := row g e.symm; omega), Below.heap_alloc _ _ _ hlt]; exact h.blk
    · rw [hg.block g (by simp; omega) (by simp), Below.heap_alloc _ _ _ hlt]; exact h.blk
  have hw : W1.ownsRow (g + 1) 5 1 fv kf (vals F) := by
    rcases hm with ⟨_, hg⟩ | ⟨_, hg, _⟩
    · exact (h.full.alloc o).kept hg h.sep
    · exact (h.full.alloc o).kept hg (by cases fv.ownBlock <;> simp)
  refine ⟨by simp [World.cell?, World.frozen?, hb], ⟨?_, ownsRow_setCell_below hw (by simp) _, ownsRow_setCell_below ho (by simp) _, ?_, ?_, h.low⟩⟩
  · rw [heap_setCell_same W1 g 1 _ _ wv' hb]; rfl
  · rcases hm with ⟨e, _⟩ | ⟨e, _, _⟩
    · rw [e]; exact h.sep
    · right
      rw [e]
      intro hc
      have := flt _ hc
      simp at this
      omega
  · exact (hm.below (h.bel.alloc (by have := h.bel.size; have := h.low; omega) o) (by have := h.low; simp; omega) (fun k hk => by have := row k hk; have := h.low; omega)).setCell (by simpa using h.low) _

/-- Lent bytes, with what lies behind them. -/
def lentL (l : List Int) : List Int := l ++ List.replicate 80 225
theorem lentL_length (l : List Int) : (lentL l).length = l.length + 80 := by simp [lentL]
theorem lentL_byte (l : List Int) (h : ∀ x ∈ l, IsB x) : ∀ x ∈ lentL l, IsB x := by
  intro x hx
  simp only [lentL, List.mem_append, List.mem_replicate] at hx
  rcases hx with hx | ⟨_, rfl⟩
  · exact h x hx
  · exact ⟨by decide, by decide⟩
theorem vals_take_snoc (M : List Int) (k : Nat) (h : k < M.length) : vals (M.take k) ++ [.int .u8 (M.getD k 0)] = vals (M.take (k + 1)) := by rw [take_snoc M k h, vals_snoc]

set_option maxHeartbeats 3200000 in
theorem lend_any (a : Option Addr) (l : List Int) (cap : Nat) (w : World) (hr : Rd w a l) (hm : l.length + 80 ≤ 140737488355328) :
    Calls Try.prog 20 #[.slice a l.length cap] w fun e w' => ∃ fv wv, e = .returned (.pointer (some ⟨w.heap.size, 0, none⟩)) ∧ LP w w.heap.size w' w.heap.size l.length fv wv (l.length + 80) (l.length + 80) (lentL l) (lentL l) := by
  have HR := hide hr
  clear hr
  go_enter Try.func20, Try.ntmps20
  go_wp2
  go_loopw [4] (fun i wr => ∃ (k : Nat) (fv wv : Value), k ≤ l.length + 80 ∧ i = .int .i64 k ∧ LP w w.heap.size wr w.heap.size l.length fv wv k k ((lentL l).take k) ((lentL l).take k)) (fun i _ => l.length + 80 - (intOf i).toNat)
  case atStart =>
    refine ⟨0, .slice none 0 0, .slice none 0 0, Nat.zero_le _, rfl, ⟨?_, World.ownsRow_nil _ _ _ _, World.ownsRow_nil _ _ _ _, .inl rfl, (Below.refl _ _).alloc (Nat.le_refl _) _, Nat.le_refl _⟩⟩
    exact heap_alloc_new w _
  case round =>
    obtain ⟨k, fv, wv, hk, rfl, lp⟩ := hrel
    by_cases hlt : k < l.length + 80
    · obtain ⟨c0, c1, c2, f0, f1⟩ := lp.cells
      have hML : k < (lentL l).length := by rw [lentL_length]; exact hlt
      have LPH := hide lp
      have hbase := lp.lt
      by_cases hkl : k < l.length
      · obtain ⟨b, off, rfl, hcell⟩ := (unhide HR).2 (by intro e; simp [e] at hkl)
        have hck : wr.cell? ⟨b, off + k, none⟩ = some (.int .u8 ((lentL l).getD k 0)) := by
          rw [lp.bel.cell (p := ⟨b, off + k, none⟩) (World.block_lt_of_cell? w _ (hcell k hkl)), hcell k hkl]
          congr 2
          simp [lentL, List.getD, hkl, List.getElem?_append_left]
        have HV := hide (vals_take_snoc (lentL l) k hML)
        generalize (lentL l).getD k 0 = y at hck HV
        clear hcell lp
        go_wp2_with (first
          | (at_builtin; refine wpList_app1g _ rfl (.tmp 29) (.tmp 31) rfl (w.heap.size + 1) _ k _ (unhide LPH).full rfl (.int .u8 y) rfl _ rfl (by simp) (by omega) (by omega) ?_; intro fv' W1 ho hmv _; rw [unhide HV] at ho; obtain ⟨gf, cf, rfl, -, -, -, -⟩ := ownsRow_open ho (Nat.succ_ne_zero _); obtain ⟨⟨q0, q1, q2, q3⟩, lp1⟩ := (unhide LPH).app_full _ hmv ho; have LP1 := hide lp1; have q4 := lp1.lt; clear ho hmv lp1)
          | (at_builtin; refine wpList_app1g _ rfl (.tmp 39) (.tmp 41) rfl (w.heap.size + 1) _ k _ (unhide LP1).was rfl (.int .u8 y) rfl _ rfl (by simp) (by omega) (by simp at q4; simp; omega) ?_; intro wv' W2 ho hmv _; rw [unhide HV] at ho; obtain ⟨gw, cw, rfl, -, -, -, -⟩ := ownsRow_open ho (Nat.succ_ne_zero _); obtain ⟨⟨r0, r1⟩, lp2⟩ := (unhide LP1).app_was _ hmv ho; have LP2 := hide lp2; clear ho hmv lp2)
          | go_in)
        go_roundw
        case rel => exact ⟨k + 1, _, _, by omega, by go_num, unhide LP2⟩
        case measure => simp [intOf]; omega
      · have HV := hide (vals_take_snoc (lentL l) k hML)
        have hy : (lentL l).getD k 0 = 225 := by
          have : k - l.length < 80 := by omega
          rw [lentL, List.getD, List.getElem?_append_right (show l.length ≤ k by omega), List.getElem?_replicate, if_pos this]; rfl
        rw [hy] at HV
        clear hy lp
        go_wp2_with (first
          | (at_builtin; refine wpList_app1g _ rfl (.tmp 29) (.tmp 31) rfl (w.heap.size + 1) _ k _ (unhide LPH).full rfl (.int .u8 225) rfl _ rfl (by simp) (by omega) (by omega) ?_; intro fv' W1 ho hmv _; rw [unhide HV] at ho; obtain ⟨gf, cf, rfl, -, -, -, -⟩ := ownsRow_open ho (Nat.succ_ne_zero _); obtain ⟨⟨q0, q1, q2, q3⟩, lp1⟩ := (unhide LPH).app_full _ hmv ho; have LP1 := hide lp1; have q4 := lp1.lt; clear ho hmv lp1)
          | (at_builtin; refine wpList_app1g _ rfl (.tmp 39) (.tmp 41) rfl (w.heap.size + 1) _ k _ (unhide LP1).was rfl (.int .u8 225) rfl _ rfl (by simp) (by omega) (by simp at q4; simp; omega) ?_; intro wv' W2 ho hmv _; rw [unhide HV] at ho; obtain ⟨gw, cw, rfl, -, -, -, -⟩ := ownsRow_open ho (Nat.succ_ne_zero _); obtain ⟨⟨r0, r1⟩, lp2⟩ := (unhide LP1).app_was _ hmv ho; have LP2 := hide lp2; clear ho hmv lp2)
          | go_in)
        go_roundw
        case rel => exact ⟨k + 1, _, _, by omega, by go_num, unhide LP2⟩
        case measure => simp [intOf]; omega
    · have hkn : k = l.length + 80 := by omega
      have e := List.take_of_length_le (show (lentL l).length ≤ k by rw [lentL_length]; omega)
      rw [e] at lp
      subst hkn
      have LPH := hide lp
      clear lp e
      go_wp2_with fail
      go_ret
      exact ⟨fv, wv, rfl, unhide LPH⟩
end Go.Proofs.Ytggjeamondampaa

namespace Go.Proofs.Ytggjeamondampaa
open Go.RowKit
set_option linter.unusedVariables false
set_option maxRecDepth 100000

/-- Bytes that are lent: their two rows, whole. -/
abbrev Lent (w0 : World) (B : Nat) (wr : World) (g n gf cf gw cw : Nat) (F W : List Int) : Prop :=
  LP w0 B wr g n (.slice (some ⟨gf, 0, none⟩) (n + 80) cf) (.slice (some ⟨gw, 0, none⟩) (n + 80) cw) (n + 80) (n + 80) F W

theorem vals_set (l : List Int) (j : Nat) (x : Int) : vals (l.set j x) = (vals l).set j (.int .u8 x) := by simp [vals, List.map_set]
theorem vals_get (l : List Int) (j : Nat) (h : j < l.length) : (vals l)[j]? = some (.int .u8 (l.getD j 0)) := by simp [vals, List.getD, h]

section
variable {w0 wr : World} {B g n gf cf gw cw : Nat} {F W : List Int}

theorem Lent.flen (h : Lent w0 B wr g n gf cf gw cw F W) : F.length = n + 80 := by have := h.full.1; simpa [vals] using this
theorem Lent.wlen (h : Lent w0 B wr g n gf cf gw cw F W) : W.length = n + 80 := by have := h.was.1; simpa [vals] using this
theorem Lent.fcell (h : Lent w0 B wr g n gf cf gw cw F W) (j : Nat) (hj : j < n + 80) : wr.cell? ⟨gf, j, none⟩ = some (.int .u8 (F.getD j 0)) ∧ wr.frozen? ⟨gf, j, none⟩ = false :=
  ⟨by rw [h.full.cellAt j (by omega), vals_get F j (by rw [h.flen]; exact hj)], h.full.frozenAt j⟩
theorem Lent.wcell (h : Lent w0 B wr g n gf cf gw cw F W) (j : Nat) (hj : j < n + 80) : wr.cell? ⟨gw, j, none⟩ = some (.int .u8 (W.getD j 0)) ∧ wr.frozen? ⟨gw, j, none⟩ = false :=
  ⟨by rw [h.was.cellAt j (by omega), vals_get W j (by rw [h.wlen]; exact hj)], h.was.frozenAt j⟩
theorem Lent.ne (h : Lent w0 B wr g n gf cf gw cw F W) : gf ≠ gw ∧ g < gf ∧ g < gw ∧ n + 80 ≤ cf ∧ cf ≤ maxLen ∧ n + 80 ≤ cw ∧ cw ≤ maxLen := by
  refine ⟨?_, (h.full.lt gf rfl).1, (h.was.lt gw rfl).1, ?_⟩
  · intro e
    rcases h.sep with hs | hs
    · simp [Value.ownBlock] at hs
    · exact hs (by simp [Value.ownBlock, e])
  · obtain ⟨a, b, e, _, _, h1, h2⟩ := ownsRow_open h.full (by omega)
    obtain ⟨c, d, e', _, _, h3, h4⟩ := ownsRow_open h.was (by omega)
    simp at e e'
    omega

theorem Lent.setF (h : Lent w0 B wr g n gf cf gw cw F W) (j : Nat) (x : Int) : Lent w0 B (wr.setCell ⟨gf, j, none⟩ (.int .u8 x)) g n gf cf gw cw (F.set j x) W := by
  obtain ⟨hne, h1, h2, _⟩ := h.ne
  have st := h.full.stored j (.int .u8 x)
  refine ⟨?_, by rw [vals_set]; exact st.1, h.was.kept st.2 (.inr (by simp [Value.ownBlock]; omega)), h.sep, h.bel.setCell (by have := h.low; show B ≤ gf; omega) _, h.low⟩
  rw [heap_setCell_other _ _ _ _ (by show g ≠ gf; omega)]
  exact h.blk
theorem Lent.setW (h : Lent w0 B wr g n gf cf gw cw F W) (j : Nat) (x : Int) : Lent w0 B (wr.setCell ⟨gw, j, none⟩ (.int .u8 x)) g n gf cf gw cw F (W.set j x) := by
  obtain ⟨hne, h1, h2, _⟩ := h.ne
  have st := h.was.stored j (.int .u8 x)
  refine ⟨?_, h.full.kept st.2 (.inr (by simp [Value.ownBlock]; omega)), by rw [vals_set]; exact st.1, h.sep, h.bel.setCell (by have := h.low; show B ≤ gw; omega) _, h.low⟩
  rw [heap_setCell_other _ _ _ _ (by show g ≠ gw; omega)]
  exact h.blk
theorem Lent.drewN (h : Lent w0 B wr g n gf cf gw cw F W) (q : Nat) : Lent w0 B (wr.drewN q) g n gf cf gw cw F W := ⟨h.blk, h.full, h.was, h.sep, bel_drewN h.bel q, h.low⟩
/-- New blocks behind it turn nothing. -/
theorem Lent.below {w' : World} (h : Lent w0 B wr g n gf cf gw cw F W) (hb : Below wr.heap.size wr w') : Lent w0 B w' g n gf cf gw cw F W := by
  have l1 := h.lt
  have l2 := (h.full.lt gf rfl).2
  have l3 := (h.was.lt gw rfl).2
  have gr : wr.grownBy w' none := ⟨hb.os, hb.tape, hb.output, hb.size, fun k hk _ => hb.block k hk⟩
  exact ⟨by rw [hb.block g l1]; exact h.blk, h.full.kept gr (.inr (by simp [Value.ownBlock])), h.was.kept gr (.inr (by simp [Value.ownBlock])), h.sep, h.bel.trans (hb.mono (by have := h.low; omega)), h.low⟩
theorem Lent.rd (h : Lent w0 B wr g n gf cf gw cw F W) (hF : ∀ x ∈ F, IsB x) : Rd wr (some ⟨gf, 0, none⟩) (F.take n) := by
  refine ⟨fun x hx => hF x (List.mem_of_mem_take hx), fun _ => ⟨gf, 0, rfl, fun i hi => ?_⟩⟩
  have hi' : i < n := by simp at hi; omega
  rw [Nat.zero_add, (h.fcell i (by omega)).1]
  congr 2
  simp [List.getD, hi']
theorem Lent.tlen (h : Lent w0 B wr g n gf cf gw cw F W) : (F.take n).length = n := by have := h.flen; simp; omega
end

set_option maxHeartbeats 1600000 in
theorem bytes_any (w0 wr : World) (B g n gf cf gw cw : Nat) (F W : List Int) (h : Lent w0 B wr g n gf cf gw cw F W) :
    Calls Try.prog 22 #[.pointer (some ⟨g, 0, none⟩)] wr fun e w' => e = .returned (.slice (some ⟨gf, 0, none⟩) n cf) ∧ ∃ q, w' = wr.drewN q := by
  obtain ⟨c0, c1, c2, f0, f1⟩ := h.cells
  obtain ⟨_, _, _, h1, h2, _, _⟩ := h.ne
  unfold maxLen at h2
  clear h
  go_enter Try.func22, Try.ntmps22
  go_wp2
  go_quiet (fail)
  all_goals go_wp2
  all_goals go_ret
  all_goals exact ⟨rfl, _, rfl⟩

set_option maxHeartbeats 1600000 in
theorem kept_any (w0 wr : World) (B g n gf cf gw cw : Nat) (F : List Int) (h : Lent w0 B wr g n gf cf gw cw F F) :
    Calls Try.prog 24 #[.pointer (some ⟨g, 0, none⟩)] wr fun e w' => e = .returned (.bool true) ∧ ∃ q, w' = wr.drewN q := by
  obtain ⟨c0, c1, c2, f0, f1⟩ := h.cells
  obtain ⟨_, _, _, h1, h2, h3, h4⟩ := h.ne
  unfold maxLen at h2 h4
  have H := hide h
  clear h
  go_enter Try.func24, Try.ntmps24
  go_wp2
  go_loopw [3] (fun i w' => ∃ (k q : Nat), k ≤ n + 80 ∧ i = .int .i64 k ∧ w' = wr.drewN q) (fun i _ => n + 80 - (intOf i).toNat)
  case atStart => exact ⟨0, 0, Nat.zero_le _, rfl, rfl⟩
  case round =>
    obtain ⟨k, q, hk, rfl, rfl⟩ := hrel
    by_cases hlt : k < n + 80
    · have k1 := ((unhide H).fcell k hlt).1
      have k2 := ((unhide H).wcell k hlt).1
      generalize F.getD k 0 = x at k1 k2
      go_wp2
      go_quiet (fail)
      all_goals go_wp2
      go_roundw
      case rel => exact ⟨k + 1, _, by omega, by go_num, rfl⟩
      case measure => simp [intOf]; omega
    · go_wp2
      go_ret
      exact ⟨rfl, _, rfl⟩
end Go.Proofs.Ytggjeamondampaa

namespace Go.Proofs.Ytggjeamondampaa
open Go.RowKit
set_option linter.unusedVariables false
set_option maxRecDepth 100000

def mkA (i k : Nat) : Int := (3 + 7 * (i : Int) + 5 * (k : Int)) % 256
def cA (i : Nat) : Int := (131 + 11 * (i : Int)) % 256

/-- The lists that are held against one another: where each lies, how long it is, its room. -/
structure Held where
  m : Nat
  ad : Nat → Option Addr
  ns : Nat → Nat
  cp : Nat → Nat
  cb : Array Value
def Held.v (h : Held) (j : Nat) : Value := .slice (h.ad j) (h.ns j) (h.cp j)

structure Held.Fit (h : Held) : Prop where
  cell : ∀ j, j < h.m → h.cb[j]? = some (h.v j)
  sep : ∀ i j, i < h.m → j < h.m → i ≠ j → (h.v i).ownBlock = none ∨ (h.v i).ownBlock ≠ (h.v j).ownBlock
  small : ∀ j, j < h.m → h.ns j ≤ 140737488350000
  few : h.m ≤ 1000000

section
variable {H : Held} {w0 wr : World} {B b : Nat}

/-- The first phase: the first i lists are written full, of the next one k places. -/
structure A1 (H : Held) (w0 : World) (B b : Nat) (wr : World) (i k : Nat) : Prop where
  blk : wr.heap[b]? = some (.cells H.cb 22 (0, 0))
  own : ∀ j, j < H.m → ∃ xs, wr.ownsRow B 5 1 (H.v j) (H.ns j) xs ∧ ∀ q, q < H.ns j → (j < i ∨ (j = i ∧ q < k)) → xs[q]? = some (.int .u8 (mkA j q))
  bel : Below B w0 wr
  low : B ≤ b

theorem A1.next {i : Nat} (h : A1 H w0 B b wr i (H.ns i)) : A1 H w0 B b wr (i + 1) 0 :=
  ⟨h.blk, fun j hj => by
    obtain ⟨xs, h1, h2⟩ := h.own j hj
    refine ⟨xs, h1, fun q hq hd => h2 q hq ?_⟩
    by_cases e : j = i
    · subst e; exact .inr ⟨rfl, hq⟩
    · left; omega, h.bel, h.low⟩

theorem cellB (hb : wr.heap[b]? = some (.cells H.cb 22 (0, 0))) (hf : H.Fit) (j : Nat) (hj : j < H.m) : wr.cell? ⟨b, j, none⟩ = some (.slice (H.ad j) (H.ns j) (H.cp j)) := by
  simp only [World.cell?, hb]
  simpa [Held.v] using hf.cell j hj

theorem neB (hb : wr.heap[b]? = some (.cells H.cb 22 (0, 0))) {g : Nat} {c : Array Value} (hg : wr.heap[g]? = some (.cells c 5 (0, 0))) : b ≠ g := by
  intro e
  subst e
  rw [hb] at hg
  simp at hg

theorem ownsRow_block {w : World} {base : Nat} {e : TypeId} {v : Value} {n : Nat} {xs : List Value} (h : w.ownsRow base e 1 v n xs) : ∀ g, v.ownBlock = some g → ∃ c, w.heap[g]? = some (.cells c e (0, 0)) := by
  intro g hg
  rcases h.2 with ⟨rfl, _⟩ | ⟨g', cap, cur, rfl, _, hh, _⟩
  · simp [Value.ownBlock] at hg
  · simp [Value.ownBlock] at hg
    subst hg
    exact ⟨cur, hh⟩

theorem A1.step {i k : Nat} (h : A1 H w0 B b wr i k) (hf : H.Fit) (hi : i < H.m) (hk : k < H.ns i) :
    ∃ g y, H.ad i = some ⟨g, 0, none⟩ ∧ H.ns i ≤ H.cp i ∧ H.cp i ≤ maxLen ∧ wr.cell? ⟨g, k, none⟩ = some y ∧ wr.frozen? ⟨g, k, none⟩ = false ∧ A1 H w0 B b (wr.setCell ⟨g, k, none⟩ (.int .u8 (mkA i k))) i (k + 1) := by
  obtain ⟨xs, ho, hx⟩ := h.own i hi
  obtain ⟨g, cap, e, hg, hgl, hnc, hcm⟩ := ownsRow_open ho (by omega)
  have e' := e
  simp only [Held.v, Value.slice.injEq] at e'
  obtain ⟨ea, -, ec⟩ := e'
  rw [e] at ho
  have hc := ho.cellAt k (by omega)
  have hl := ho.1
  have st := ho.stored k (.int .u8 (mkA i k))
  obtain ⟨c, hcb⟩ := ownsRow_block ho g rfl
  refine ⟨g, xs[k]'(by omega), ea, by omega, by rw [ec]; exact hcm, by rw [hc, List.getElem?_eq_getElem], ho.frozenAt k, ⟨?_, fun j hj => ?_, h.bel.setCell hg _, h.low⟩⟩
  · rw [heap_setCell_other _ _ _ _ (by show b ≠ g; exact neB h.blk hcb)]; exact h.blk
  · by_cases eij : j = i
    · subst eij
      refine ⟨xs.set k (.int .u8 (mkA j k)), by rw [e]; exact st.1, fun q hq hd => ?_⟩
      by_cases eq : k = q
      · subst eq; rw [List.getElem?_set_self (by omega)]
      · rw [List.getElem?_set_ne eq]; exact hx q hq (by omega)
    · obtain ⟨ys, h1, h2⟩ := h.own j hj
      refine ⟨ys, h1.kept st.2 ?_, fun q hq hd => h2 q hq (by omega)⟩
      rcases hf.sep j i hj hi eij with hs | hs
      · exact .inl hs
      · right; rw [e] at hs; exact hs

theorem Moved.kept {w w' : World} {y y' v : Value} {e : TypeId} {n : Nat} {xs : List Value} (h : Moved w w' y y') (ho : w.ownsRow B e 1 v n xs) (hs : v.ownBlock = none ∨ v.ownBlock ≠ y.ownBlock) : w'.ownsRow B e 1 v n xs := by
  rcases h with ⟨_, hg⟩ | ⟨_, hg, _⟩
  · exact ho.kept hg hs
  · exact ho.kept hg (by cases v.ownBlock <;> simp)
theorem Moved.cell {w w' : World} {y y' : Value} (h : Moved w w' y y') {a : Addr} {v : Value} (hc : w.cell? a = some v) (hs : y.ownBlock ≠ some a.block) : w'.cell? a = some v := by
  rcases h with ⟨_, hg⟩ | ⟨_, hg, _⟩
  · exact hg.cell hc (Ne.symm hs)
  · exact hg.cell hc (by simp)
theorem Moved.block {w w' : World} {y y' : Value} (h : Moved w w' y y') {k : Nat} {o : Obj} (hc : w.heap[k]? = some o) (hs : y.ownBlock ≠ some k) : w'.heap[k]? = some o := by
  rcases h with ⟨_, hg⟩ | ⟨_, hg, _⟩
  · rw [hg.block k (lt_of_block hc) (Ne.symm hs)]; exact hc
  · rw [hg.block k (lt_of_block hc) (by simp)]; exact hc
theorem Moved.size {w w' : World} {y y' : Value} (h : Moved w w' y y') : w.heap.size ≤ w'.heap.size := by
  rcases h with ⟨_, hg⟩ | ⟨_, hg, _⟩ <;> exact hg.size
theorem cell_alloc {w : World} {a : Addr} {v : Value} (h : w.cell? a = some v) (o : Obj) : (w.alloc o).cell? a = some v := by
  rw [World.cell?_of_block (Below.heap_alloc w o _ (World.block_lt_of_cell? w _ h))]; exact h
theorem block_alloc {w : World} {k : Nat} {x : Obj} (h : w.heap[k]? = some x) (o : Obj) : (w.alloc o).heap[k]? = some x := by
  rw [Below.heap_alloc w o _ (lt_of_block h)]; exact h

/-- What holds of a list that was made longer. -/
def Long (H : Held) (B : Nat) (w : World) (j k : Nat) (u : Value) : Prop :=
  ∃ xs, w.ownsRow B 5 1 u (H.ns j + k) xs ∧ (∀ q, q < H.ns j → xs[q]? = some (.int .u8 (mkA j q))) ∧ ∀ q, H.ns j ≤ q → q < H.ns j + k → xs[q]? = some (.int .u8 (cA j))

/-- The second phase, between two lists. -/
structure A2 (H : Held) (w0 : World) (B b : Nat) (wr : World) (i : Nat) (lv : Value) (ys : List Value) : Prop where
  blk : wr.heap[b]? = some (.cells H.cb 22 (0, 0))
  rd : ∀ j, j < H.m → ∀ q, q < H.ns j → ∃ g, H.ad j = some ⟨g, 0, none⟩ ∧ wr.cell? ⟨g, q, none⟩ = some (.int .u8 (mkA j q))
  own : ∀ j, i ≤ j → j < H.m → Long H B wr j 0 (H.v j)
  typ : ∀ j, j < H.m → ∀ g, (H.v j).ownBlock = some g → ∃ c, wr.heap[g]? = some (.cells c 5 (0, 0))
  len : ys.length = i
  old : ∀ (j : Nat) (u : Value), ys[j]? = some u → Long H B wr j 80 u
  row : wr.ownsRow (b + 1) 22 1 lv i ys
  sep : ∀ (j : Nat) (u : Value), ys[j]? = some u → ∀ q, q < H.m → i ≤ q → u.ownBlock ≠ (H.v q).ownBlock
  bel : Below B w0 wr
  low : B ≤ b

/-- The second phase, within a list: y is made longer. -/
structure A2y (H : Held) (w0 : World) (B b : Nat) (wr : World) (i k : Nat) (y lv : Value) (ys : List Value) : Prop where
  blk : wr.heap[b]? = some (.cells H.cb 22 (0, 0))
  rd : ∀ j, j < H.m → ∀ q, q < H.ns j → ∃ g, H.ad j = some ⟨g, 0, none⟩ ∧ wr.cell? ⟨g, q, none⟩ = some (.int .u8 (mkA j q))
  own : ∀ j, i < j → j < H.m → Long H B wr j 0 (H.v j)
  cur : Long H B wr i k y
  typ : ∀ j, j < H.m → ∀ g, (H.v j).ownBlock = some g → ∃ c, wr.heap[g]? = some (.cells c 5 (0, 0))
  len : ys.length = i
  old : ∀ (j : Nat) (u : Value), ys[j]? = some u → Long H B wr j 80 u
  row : wr.ownsRow (b + 1) 22 1 lv i ys
  sepv : ∀ j, j < H.m → j ≠ i → y.ownBlock = none ∨ y.ownBlock ≠ (H.v j).ownBlock
  sepu : ∀ (j : Nat) (u : Value), ys[j]? = some u → y.ownBlock = none ∨ y.ownBlock ≠ u.ownBlock
  sep : ∀ (j : Nat) (u : Value), ys[j]? = some u → ∀ q, q < H.m → i < q → u.ownBlock ≠ (H.v q).ownBlock
  bel : Below B w0 wr
  low : B ≤ b

theorem A1.turn (h : A1 H w0 B b wr H.m 0) : A2 H w0 B b wr 0 (.slice none 0 0) [] := by
  have ow : ∀ j, j < H.m → Long H B wr j 0 (H.v j) := fun j hj => by
    obtain ⟨xs, h1, h2⟩ := h.own j hj
    exact ⟨xs, h1, fun q hq => h2 q hq (.inl hj), fun q h1 h2 => by omega⟩
  refine ⟨h.blk, fun j hj q hq => ?_, fun j _ hj => ow j hj, fun j hj g hg => ?_, rfl, fun j u hu => by simp at hu, World.ownsRow_nil _ _ _ _, fun j u hu => by simp at hu, h.bel, h.low⟩
  · obtain ⟨xs, h1, h2, _⟩ := ow j hj
    obtain ⟨g, cap, e, _⟩ := ownsRow_open h1 (by omega)
    have e' := e
    simp only [Held.v, Value.slice.injEq] at e'
    rw [e] at h1
    exact ⟨g, e'.1, by rw [h1.cellAt q (by omega)]; exact h2 q hq⟩
  · obtain ⟨xs, h1, h2, _⟩ := ow j hj
    exact ownsRow_block h1 g hg

theorem A2.enter {i : Nat} {lv : Value} {ys : List Value} (h : A2 H w0 B b wr i lv ys) (hf : H.Fit) (hi : i < H.m) : A2y H w0 B b wr i 0 (H.v i) lv ys :=
  ⟨h.blk, h.rd, fun j h1 h2 => h.own j (by omega) h2, h.own i (Nat.le_refl _) hi, h.typ, h.len, h.old, h.row, fun j hj hne => hf.sep i j hi hj (Ne.symm hne),
    fun j u hu => .inr (Ne.symm (h.sep j u hu i hi (Nat.le_refl _))), fun j u hu q hq hiq => h.sep j u hu q hq (by omega), h.bel, h.low⟩

theorem rows_apart {e e' : TypeId} {v v' : Value} {n n' : Nat} {xs xs' : List Value} {B' : Nat} (h : wr.ownsRow B e 1 v n xs) (h' : wr.ownsRow B' e' 1 v' n' xs') (hne : e ≠ e') : v.ownBlock = none ∨ v.ownBlock ≠ v'.ownBlock := by
  cases hv : v.ownBlock with
  | none => exact .inl rfl
  | some g =>
    right
    intro e1
    obtain ⟨c, h1⟩ := ownsRow_block h g hv
    obtain ⟨c', h2⟩ := ownsRow_block h' g e1.symm
    rw [h1] at h2
    simp at h2
    exact hne h2.2

theorem A2y.app {i k : Nat} {y lv : Value} {ys : List Value} (h : A2y H w0 B b wr i k y lv ys) (hi : i < H.m) (o : Obj) {W1 : World} {y' : Value} {xs : List Value} (hx : wr.ownsRow B 5 1 y (H.ns i + k) xs) (hm : Moved (wr.alloc o) W1 y y') (ho : W1.ownsRow B 5 1 y' (H.ns i + k + 1) (xs ++ [.int .u8 (cA i)])) :
    A2y H w0 B b W1 i (k + 1) y' lv ys := by
  have hsz := hm.size
  simp only [World.size_alloc] at hsz
  have yb : y.ownBlock ≠ some b := fun e => by
    obtain ⟨c, hc⟩ := ownsRow_block hx b e
    exact neB h.blk hc rfl
  have hl := hx.1
  obtain ⟨xs0, hx0, hx1, hx2⟩ := h.cur
  have exs : xs0 = xs := by
    rcases hx.2 with ⟨rfl, h0⟩ | ⟨g, cap, c, rfl, _, hg, _, _, _, ht⟩
    · have := hx0.1
      simp only [h0, Nat.zero_mul] at this hl
      rw [List.eq_nil_of_length_eq_zero this, List.eq_nil_of_length_eq_zero hl]
    · rcases hx0.2 with ⟨h', _⟩ | ⟨g', cap', c', h', _, hg', _, _, _, ht'⟩
      · simp at h'
      · simp only [Value.slice.injEq, Option.some.injEq, Addr.mk.injEq, and_true, true_and] at h'
        obtain ⟨rfl, rfl⟩ := h'
        rw [hg] at hg'
        simp only [Option.some.injEq, Obj.cells.injEq, and_true] at hg'
        subst hg'
        rw [← ht, ← ht']
  subst exs
  have cur' : Long H B W1 i (k + 1) y' := by
    refine ⟨xs0 ++ [.int .u8 (cA i)], by rw [← Nat.add_assoc]; exact ho, fun q hq => ?_, fun q h1 h2 => ?_⟩
    · rw [List.getElem?_append_left (by omega)]; exact hx1 q hq
    · by_cases e : q < H.ns i + k
      · rw [List.getElem?_append_left (by omega)]; exact hx2 q h1 e
      · have : q = xs0.length := by omega
        subst this
        simp
  have nb : ∀ g, y'.ownBlock = some g → y.ownBlock = some g ∨ g = wr.heap.size + 1 := fun g hg => by
    rcases hm with ⟨e, _⟩ | ⟨e, _, _⟩
    · left; rw [← e]; exact hg
    · right; rw [e] at hg; simpa using hg.symm
  refine ⟨hm.block (block_alloc h.blk o) yb, fun j hj q hq => ?_, fun j h1 h2 => ?_, cur', fun j hj g hg => ?_, h.len, fun j u hu => ?_, ?_, fun j hj hne => ?_, fun j u hu => ?_, h.sep, ?_, h.low⟩
  · obtain ⟨g, hg, hc⟩ := h.rd j hj q hq
    refine ⟨g, hg, ?_⟩
    by_cases e : y.ownBlock = some g
    · have eji : j = i := by
        by_cases e2 : j = i
        · exact e2
        · rcases h.sepv j hj e2 with hs | hs
          · rw [hs] at e; cases e
          · exact absurd (by rw [e, Held.v, hg]; rfl) hs
      subst eji
      rcases hm with ⟨e3, hgr⟩ | ⟨e3, hgr, _⟩
      · obtain ⟨g2, cap, e4, _⟩ := ownsRow_open ho (by omega)
        rw [e4] at e3 ho
        rw [e] at e3
        simp only [Value.ownBlock, Option.some.injEq] at e3
        subst e3
        rw [ho.cellAt q (by omega), List.getElem?_append_left (by omega)]
        exact hx1 q hq
      · exact hgr.cell (cell_alloc hc o) (by simp)
    · exact hm.cell (cell_alloc hc o) e
  · obtain ⟨zs, z1, z2, z3⟩ := h.own j h1 h2
    refine ⟨zs, hm.kept (z1.alloc o) ?_, z2, z3⟩
    rcases h.sepv j h2 (by omega) with hs | hs
    · rw [hs]; cases (H.v j).ownBlock <;> simp
    · exact .inr (Ne.symm hs)
  · obtain ⟨c, hc⟩ := h.typ j hj g hg
    by_cases e : y.ownBlock = some g
    · rcases hm with ⟨e3, hgr⟩ | ⟨e3, hgr, _⟩
      · exact ownsRow_block ho g (by rw [e3]; exact e)
      · exact ⟨c, by rw [hgr.block g (by have := lt_of_block hc; simp; omega) (by simp)]; exact block_alloc hc o⟩
    · exact ⟨c, hm.block (block_alloc hc o) e⟩
  · obtain ⟨zs, z1, z2, z3⟩ := h.old j u hu
    refine ⟨zs, hm.kept (z1.alloc o) ?_, z2, z3⟩
    rcases h.sepu j u hu with hs | hs
    · rw [hs]; cases u.ownBlock <;> simp
    · exact .inr (Ne.symm hs)
  · exact hm.kept (h.row.alloc o) (rows_apart (h.row.alloc o) (hx.alloc o) (by decide))
  · cases hy : y'.ownBlock with
    | none => exact .inl rfl
    | some g =>
      right
      intro e
      rcases nb g hy with h1 | h1
      · rcases h.sepv j hj hne with hs | hs
        · rw [hs] at h1; cases h1
        · exact hs (by rw [h1]; exact e)
      · obtain ⟨c, hc⟩ := h.typ j hj g e.symm
        have := lt_of_block hc
        omega
  · cases hy : y'.ownBlock with
    | none => exact .inl rfl
    | some g =>
      right
      intro e
      rcases nb g hy with h1 | h1
      · rcases h.sepu j u hu with hs | hs
        · rw [hs] at h1; cases h1
        · exact hs (by rw [h1]; exact e)
      · obtain ⟨zs, z1, _⟩ := h.old j u hu
        have := (z1.lt g e.symm).2
        omega
  · exact hm.below (h.bel.alloc (by have := h.bel.size; have := lt_of_block h.blk; have := h.low; omega) o) (by have := lt_of_block h.blk; have := h.low; simp; omega) (fun g hg => (hx.lt g hg).1)

theorem A2y.leave {i : Nat} {y lv : Value} {ys : List Value} (h : A2y H w0 B b wr i 80 y lv ys) (hi : i < H.m) (o : Obj) {W1 : World} {lv' : Value} (hm : Moved (wr.alloc o) W1 lv lv') (ho : W1.ownsRow (b + 1) 22 1 lv' (i + 1) (ys ++ [y])) :
    A2 H w0 B b W1 (i + 1) lv' (ys ++ [y]) := by
  have hsz := hm.size
  simp only [World.size_alloc] at hsz
  have hb : lv.ownBlock ≠ some b := fun e => by have := (h.row.lt b e).1; omega
  have keep : ∀ j k u, Long H B wr j k u → Long H B W1 j k u := fun j k u ⟨xs, h1, h2, h3⟩ =>
    ⟨xs, hm.kept (h1.alloc o) (rows_apart (h1.alloc o) (h.row.alloc o) (by decide)), h2, h3⟩
  have ge : ∀ (j : Nat) (u : Value), (ys ++ [y])[j]? = some u → (ys[j]? = some u) ∨ (j = i ∧ u = y) := fun j u hu => by
    by_cases e : j < ys.length
    · rw [List.getElem?_append_left e] at hu; exact .inl hu
    · rw [List.getElem?_append_right (by omega)] at hu
      have hl := h.len
      match hj : j - ys.length, hu with
      | 0, hu => right; simp at hu; exact ⟨by omega, hu.symm⟩
      | q + 1, hu => simp at hu
  refine ⟨hm.block (block_alloc h.blk o) hb, fun j hj q hq => ?_, fun j h1 h2 => keep j 0 _ (h.own j (by omega) h2), fun j hj g hg => ?_, by simp [h.len], fun j u hu => ?_, ho, fun j u hu q hq hiq => ?_, ?_, h.low⟩
  · obtain ⟨g, hg, hc⟩ := h.rd j hj q hq
    refine ⟨g, hg, hm.cell (cell_alloc hc o) (fun e => ?_)⟩
    obtain ⟨c, h1⟩ := ownsRow_block h.row g e
    obtain ⟨c', h2⟩ := h.typ j hj g (by rw [Held.v, hg]; rfl)
    rw [h1] at h2
    simp at h2
  · obtain ⟨c, hc⟩ := h.typ j hj g hg
    refine ⟨c, hm.block (block_alloc hc o) (fun e => ?_)⟩
    obtain ⟨c', h1⟩ := ownsRow_block h.row g e
    rw [hc] at h1
    simp at h1
  · rcases ge j u hu with h1 | ⟨rfl, rfl⟩
    · exact keep j 80 u (h.old j u h1)
    · exact keep _ 80 _ h.cur
  · rcases ge j u hu with h1 | ⟨rfl, rfl⟩
    · exact h.sep j u h1 q hq (by omega)
    · rcases h.sepv q hq (by omega) with hs | hs
      · obtain ⟨xs, z1, _⟩ := h.cur
        obtain ⟨g, cap, e, _⟩ := ownsRow_open z1 (by omega)
        rw [e] at hs
        simp [Value.ownBlock] at hs
      · exact hs
  · exact hm.below (h.bel.alloc (by have := h.bel.size; have := lt_of_block h.blk; have := h.low; omega) o) (by have := lt_of_block h.blk; have := h.low; simp; omega) (fun g hg => by have := (h.row.lt g hg).1; have := h.low; omega)
end
end Go.Proofs.Ytggjeamondampaa

namespace Go.Proofs.Ytggjeamondampaa
open Go.RowKit
set_option linter.unusedVariables false
set_option maxRecDepth 100000

theorem Try.infoS : (Try.prog.info? 22).map (fun i => (i.zero, i.size, i.bytes)) = some (some (.slice none 0 0), 1, 24) := by kernel_rfl

/-- One list more. -/
theorem wpList_appS {ops : Array Oper} {rest : List Oper} {o : Oper} {a : Act} {Q : Exit → Act → World → Prop} (w : World) (hgd : o.guard = none) (s x : Operand)
    (ho : o.op = .call { callee := .builtin .append, args := #[s, x], argTypes := #[44, 44] }) (base : Nat) (v : Value) (n : Nat) (xs : List Value) (hown : w.ownsRow base 22 1 v n xs) (hs : a.eval s = v) (b : Value) (hb : b.oneCell' = true)
    (gs : Nat) (hx : a.eval x = .slice (some ⟨gs, 0, none⟩) 1 1) (hgs : w.heap.size = gs) (hn : n + 1 ≤ 1000000000) (hbase : base ≤ w.heap.size)
    (h : ∀ v' w', w'.ownsRow base 22 1 v' (n + 1) (xs ++ [b]) → Moved (w.alloc (.cells #[b] 22)) w' v v' → v' ≠ .slice none 0 0 → wpList Try.prog ops Q rest (a.put o.dst v') w') : wpList Try.prog ops Q (o :: rest) a (w.alloc (.cells #[b] 22)) := by
  subst hgs
  obtain ⟨i, hi, hz0, hz1, hz2⟩ := info_parts Try.infoS
  refine wpList_app _ hgd s x 44 ho base 22 i (.slice none 0 0) 24 Try.underlying44 hi hz0 hz1 hz2 rfl v n xs hs (hown.alloc _) ⟨w.heap.size, 0, none⟩ 1 1 [b] hx rfl ?_ ?_ (by decide) (by unfold maxLen; omega) (by omega) (by simp; omega) h
  · intro j u hj
    match j, hj with
    | 0, hj =>
      simp at hj; subst hj
      rw [show (⟨w.heap.size, 0, none⟩ : Addr).add 0 = ⟨w.heap.size, 0, none⟩ by simp [Addr.add]]
      unfold World.cell?
      simp only [heap_alloc_new]
      rfl
  · intro u hu
    simp at hu; subst hu; exact hb

theorem Long.cells {H : Held} {B : Nat} {w : World} {j : Nat} {u : Value} (h : Long H B w j 80 u) : ∃ g cap, u = .slice (some ⟨g, 0, none⟩) (H.ns j + 80) cap ∧ H.ns j + 80 ≤ cap ∧ cap ≤ maxLen ∧ (∀ q, q < H.ns j → w.cell? ⟨g, q, none⟩ = some (.int .u8 (mkA j q))) ∧ ∀ q, H.ns j ≤ q → q < H.ns j + 80 → w.cell? ⟨g, q, none⟩ = some (.int .u8 (cA j)) := by
  obtain ⟨xs, h1, h2, h3⟩ := h
  obtain ⟨g, cap, rfl, _, _, hc, hm⟩ := ownsRow_open h1 (by omega)
  exact ⟨g, cap, rfl, hc, hm, fun q hq => by rw [h1.cellAt q (by omega)]; exact h2 q hq, fun q hq hq2 => by rw [h1.cellAt q (by omega)]; exact h3 q hq hq2⟩

set_option maxHeartbeats 6400000 in
theorem apart_any (H : Held) (w0 wr : World) (B b c : Nat) (hf : H.Fit) (ha : A1 H w0 B b wr 0 0) :
    Calls Try.prog 19 #[.slice (some ⟨b, 0, none⟩) H.m c] wr fun e w' => e = .returned (.bool true) ∧ Below B w0 w' := by
  have few := hf.few
  have HF := hide hf; have HA := hide ha
  clear hf ha
  go_enter Try.func19, Try.ntmps19
  go_wp2
  go_loopw [3] (fun i w => ∃ j : Nat, j ≤ H.m ∧ i = .int .i64 j ∧ A1 H w0 B b w j 0) (fun i _ => H.m - (intOf i).toNat)
  case atStart => exact ⟨0, Nat.zero_le _, rfl, unhide HA⟩
  case round =>
    clear HA
    obtain ⟨i, hi, rfl, h1⟩ := hrel
    by_cases hlt : i < H.m
    · have small := (unhide HF).small i hlt
      have A0 := hide h1
      clear h1
      go_wp2
      go_loopw [4] (fun q w => ∃ k : Nat, k ≤ H.ns i ∧ q = .int .i64 k ∧ A1 H w0 B b w i k) (fun q _ => H.ns i - (intOf q).toNat)
      case atStart => exact ⟨0, Nat.zero_le _, rfl, unhide A0⟩
      case round =>
        clear A0
        obtain ⟨k, hk, rfl, h1⟩ := hrel
        have cb := cellB h1.blk (unhide HF) i hlt
        by_cases hlk : k < H.ns i
        · obtain ⟨g, y, e1, e2, e3, e4, e5, h2⟩ := h1.step (unhide HF) hlt hlk
          unfold maxLen at e3
          have A2 := hide h2
          unfold mkA at A2
          clear h1 h2
          go_wp2
          go_roundw
          case rel => exact ⟨k + 1, by omega, by go_num, unhide A2⟩
          case measure => simp [intOf]; omega
        · have ek : k = H.ns i := by omega
          subst ek
          have A2 := hide h1.next
          clear h1
          go_wp2
          go_roundw
          case rel => exact ⟨i + 1, by omega, by go_num, unhide A2⟩
          case measure => simp [intOf]; omega
    · have ei : i = H.m := by omega
      subst ei
      have A0 := hide h1.turn
      clear h1 hlt
      go_wp2
      go_loopw [5, 6] (fun lv i w => ∃ (j : Nat) (ys : List Value), j ≤ H.m ∧ i = .int .i64 j ∧ A2 H w0 B b w j lv ys) (fun _ i _ => H.m - (intOf i).toNat)
      case atStart => exact ⟨0, [], Nat.zero_le _, rfl, unhide A0⟩
      case round =>
        clear A0
        obtain ⟨i, ys, hi, rfl, h1⟩ := hrel
        by_cases hlt : i < H.m
        · have small := (unhide HF).small i hlt
          have cb := cellB h1.blk (unhide HF) i hlt
          have A0 := hide (h1.enter (unhide HF) hlt)
          unfold Held.v at A0
          clear h1
          go_wp2
          go_loopw [7, 8] (fun y q w => ∃ k : Nat, k ≤ 80 ∧ q = .int .i64 k ∧ A2y H w0 B b w i k y u5 ys) (fun _ q _ => 80 - (intOf q).toNat)
          case atStart => exact ⟨0, by omega, rfl, unhide A0⟩
          case round =>
            clear A0 cb
            obtain ⟨k, hk, rfl, h1⟩ := hrel
            have hB : B ≤ wr.heap.size := by have := lt_of_block h1.blk; have := h1.low; omega
            have hb1 : b + 1 ≤ wr.heap.size := lt_of_block h1.blk
            by_cases hlk : k < 80
            · obtain ⟨xs, hx, -⟩ := h1.cur
              have HX := hide hx; have HY := hide h1
              clear hx h1
              go_wp2_with (first
                | (at_builtin; refine wpList_app1g _ rfl (.tmp 54) (.tmp 59) rfl B _ (H.ns i + k) xs (unhide HX) rfl (.int .u8 ((131 + 11 * (i : Int)) % 256)) rfl _ rfl (by simp) (by omega) hB ?_; intro y' W1 ho hmv _; have HN := hide ((unhide HY).app hlt _ (unhide HX) hmv ho); clear ho hmv)
                | go_in)
              go_roundw
              case rel => exact ⟨k + 1, by omega, by go_num, unhide HN⟩
              case measure => simp [intOf]; omega
            · have ek : k = 80 := by omega
              subst ek
              obtain ⟨xs, hx, -⟩ := h1.cur
              obtain ⟨g, cap, rfl, -⟩ := ownsRow_open hx (by omega)
              have HY := hide h1
              clear hx h1
              go_wp2_with (first
                | (at_builtin; refine wpList_appS _ rfl (.tmp 61) (.tmp 63) rfl (b + 1) _ i ys (unhide HY).row rfl (.slice (some ⟨g, 0, none⟩) (H.ns i + 80) cap) rfl _ rfl (by simp) (by omega) hb1 ?_; intro lv' W1 ho hmv _; have HN := hide ((unhide HY).leave hlt _ hmv ho); clear ho hmv)
                | go_in)
              go_roundw
              case rel => exact ⟨i + 1, _, by omega, by go_num, unhide HN⟩
              case measure => simp [intOf]; omega
        · have ei : i = H.m := by omega
          subst ei
          have A0 := hide h1
          clear h1 hlt hi
          go_wp2
          go_loop [9] (fun i => ∃ j : Nat, j ≤ H.m ∧ i = .int .i64 j) (fun i => H.m - (intOf i).toNat)
          case atStart => exact ⟨0, Nat.zero_le _, rfl⟩
          case round =>
            obtain ⟨i, hi, rfl⟩ := hrel
            by_cases hlt : i < H.m
            · have small := (unhide HF).small i hlt
              have cb := cellB (unhide A0).blk (unhide HF) i hlt
              have hlen := (unhide A0).len
              obtain ⟨gl, cl, el, -, -, ncl, mcl⟩ := ownsRow_open (unhide A0).row (by omega)
              subst el
              have hu := (unhide A0).row.cellAt i (by omega)
              rw [List.getElem?_eq_getElem (by omega)] at hu
              have lg := (unhide A0).old i _ (List.getElem?_eq_getElem (by omega))
              generalize ys[i] = u at hu lg
              obtain ⟨gu, cu, rfl, ncu, mcu, cu1, cu2⟩ := lg.cells
              have RD := hide ((unhide A0).rd i hlt); have CU1 := hide cu1; have CU2 := hide cu2
              unfold maxLen at mcl mcu
              clear lg cu1 cu2 hlen
              go_wp2
              go_loop [10] (fun q => ∃ k : Nat, k ≤ H.ns i + 80 ∧ q = .int .i64 k) (fun q => H.ns i + 80 - (intOf q).toNat)
              case atStart => exact ⟨0, Nat.zero_le _, rfl⟩
              case round =>
                obtain ⟨k, hk, rfl⟩ := hrel
                by_cases hlk : k < H.ns i
                · obtain ⟨g, eg, cg⟩ := (unhide RD) k hlk
                  have cu := (unhide CU1) k hlk
                  unfold mkA at cg cu
                  go_wp2
                  go_round
                  case rel => exact ⟨k + 1, by omega, by go_num⟩
                  case measure => simp [intOf]; omega
                · by_cases hl2 : k < H.ns i + 80
                  · have cu := (unhide CU2) k (by omega) hl2
                    unfold cA at cu
                    go_wp2
                    go_round
                    case rel => exact ⟨k + 1, by omega, by go_num⟩
                    case measure => simp [intOf]; omega
                  · go_wp2
                    go_round
                    case rel => exact ⟨i + 1, by omega, by go_num⟩
                    case measure => simp [intOf]; omega
            · go_wp2
              go_ret
              exact ⟨rfl, (unhide A0).bel⟩
end Go.Proofs.Ytggjeamondampaa

namespace Go.Proofs.Ytggjeamondampaa
open Go.RowKit
set_option linter.unusedVariables false
set_option maxRecDepth 100000

def vad : Value → Option Addr | .slice a _ _ => a | _ => none
def vns : Value → Nat | .slice _ n _ => n | _ => 0
def vcp : Value → Nat | .slice _ _ c => c | _ => 0

/-- The lists of a literal. -/
def heldOf (vs : List Value) : Held := ⟨vs.length, fun j => vad (vs.getD j (.slice none 0 0)), fun j => vns (vs.getD j (.slice none 0 0)), fun j => vcp (vs.getD j (.slice none 0 0)), vs.toArray⟩

theorem ownsRow_shape {w : World} {base : Nat} {e : TypeId} {v : Value} {n : Nat} {xs : List Value} (h : w.ownsRow base e 1 v n xs) : v = .slice (vad v) (vns v) (vcp v) ∧ vns v = n := by
  rcases h.2 with ⟨rfl, rfl⟩ | ⟨g, cap, cur, rfl, _⟩ <;> exact ⟨rfl, rfl⟩

theorem apart_list (vs : List Value) (w0 wr : World) (B b c : Nat) (hB : B ≤ b) (hb : wr.heap[b]? = some (.cells vs.toArray 22 (0, 0))) (hown : ∀ v ∈ vs, ∃ n xs, wr.ownsRow B 5 1 v n xs ∧ n ≤ 140737488350000)
    (hsep : vs.Pairwise fun u v => u.ownBlock = none ∨ u.ownBlock ≠ v.ownBlock) (few : vs.length ≤ 1000000) (bel : Below B w0 wr) :
    Calls Try.prog 19 #[.slice (some ⟨b, 0, none⟩) vs.length c] wr fun e w' => e = .returned (.bool true) ∧ Below B w0 w' := by
  have get : ∀ j, j < vs.length → vs[j]? = some (vs.getD j (.slice none 0 0)) := fun j hj => by simp [List.getD, hj]
  have mem : ∀ j, j < vs.length → vs.getD j (.slice none 0 0) ∈ vs := fun j hj => List.mem_of_getElem? (get j hj)
  have hv : ∀ j, j < vs.length → (heldOf vs).v j = vs.getD j (.slice none 0 0) := fun j hj => by
    obtain ⟨n, xs, ho, _⟩ := hown _ (mem j hj)
    exact (ownsRow_shape ho).1.symm
  have fit : (heldOf vs).Fit := by
    refine ⟨fun j hj => ?_, fun i j hi hj hne => ?_, fun j hj => ?_, few⟩
    · rw [hv j hj]; simpa [heldOf] using get j hj
    · rw [hv i hi, hv j hj]
      rw [List.pairwise_iff_getElem] at hsep
      have hi' : i < vs.length := hi
      have hj' : j < vs.length := hj
      have e1 : vs.getD i (.slice none 0 0) = vs[i] := by simp [List.getD, hi']
      have e2 : vs.getD j (.slice none 0 0) = vs[j] := by simp [List.getD, hj']
      rw [e1, e2]
      rcases Nat.lt_or_gt_of_ne hne with h | h
      · exact hsep i j hi' hj' h
      · rcases hsep j i hj' hi' h with h1 | h1
        · rw [h1]; cases vs[i].ownBlock <;> simp
        · exact .inr (Ne.symm h1)
    · obtain ⟨n, xs, ho, hn⟩ := hown _ (mem j hj)
      show vns _ ≤ _
      rw [(ownsRow_shape ho).2]; exact hn
  exact apart_any (heldOf vs) w0 wr B b c fit ⟨hb, fun j hj => by
    obtain ⟨n, xs, ho, _⟩ := hown _ (mem j hj)
    refine ⟨xs, ?_, fun q _ h => by omega⟩
    rw [hv j hj]
    show wr.ownsRow B 5 1 _ (vns _) xs
    rw [(ownsRow_shape ho).2]; exact ho, bel, hB⟩

theorem bts_own {w : World} {g : Nat} {l : List Int} (base : Nat) (h : w.heap[g]? = some (bts l)) (hb : base ≤ g) (hl : l.length ≤ maxLen) : w.ownsRow base 5 1 (.slice (some ⟨g, 0, none⟩) l.length l.length) l.length (vals l) :=
  ⟨by simp [vals], .inr ⟨g, l.length, _, rfl, hb, h, Nat.le_refl _, hl, by simp, by rw [Nat.mul_one, List.take_of_length_le (by simp)]; rfl⟩⟩

theorem own_rd {w : World} {base : Nat} {s : Value} {n : Nat} {l : List Int} (h : w.ownsRow base 5 1 s n (vals l)) (hl : ∀ x ∈ l, IsB x) : l.length = n ∧ ∃ a c, s = .slice a n c ∧ Rd w a l := by
  have hn : l.length = n := by have := h.1; simpa [vals] using this
  refine ⟨hn, ?_⟩
  by_cases h0 : n = 0
  · obtain ⟨e1, e2⟩ := ownsRow_shape h
    refine ⟨vad s, vcp s, by rw [e2] at e1; exact e1, hl, fun hne => absurd (List.eq_nil_of_length_eq_zero (by omega)) hne⟩
  · obtain ⟨g, c, rfl, _⟩ := ownsRow_open h h0
    refine ⟨_, _, rfl, hl, fun _ => ⟨g, 0, rfl, fun i hi => ?_⟩⟩
    rw [Nat.zero_add, h.cellAt i (by omega), vals_get l i hi]
end Go.Proofs.Ytggjeamondampaa
