/- sort.Search; apart; the closures; reach. -/
import Derived.Test.YtnflbefbgcbdfaaGreatSN
namespace Go.Proofs.YtnflbefbgcbdfaaGreat
set_option maxRecDepth 100000
open Go.RowKit
set_option linter.unusedVariables false
set_option maxHeartbeats 400000

/-- sort.Search, by the place where the answer turns. -/
theorem search_any (g : Nat) (cb : Array Value) (n K : Nat) (w : World) (hK : K ≤ n) (eg : ∀ args w, (callFunc g args).run Tryz.prog w = .ok (.enter g args) w) (hsz : n < 4611686018427387904)
    (hf : ∀ (q i : Nat), i < n → Calls Tryz.prog g (#[.int .i64 i] ++ cb) (w.drewN q) fun e w' => e = .returned (.bool (decide (K ≤ i))) ∧ ∃ q', w' = (w.drewN q).drewN q') :
    Calls Tryz.prog 66 #[.int .i64 n, .func (.func g) #[] cb] w fun e w' => e = .returned (.int .i64 K) ∧ ∃ q, w' = w.drewN q := by
  have HF := hide hf
  clear hf
  go_enter Tryz.func66, Tryz.ntmps66
  go_wp2
  go_loopw [5, 6] (fun s5 s6 wr => ∃ (lo hi q : Nat), s5 = .int .i64 lo ∧ s6 = .int .i64 hi ∧ lo ≤ K ∧ K ≤ hi ∧ hi ≤ n ∧ wr = w.drewN q) (fun a b _ => (intOf b - intOf a).toNat)
  case atStart => exact ⟨0, n, 0, rfl, rfl, by omega, hK, Nat.le_refl _, rfl⟩
  case round =>
    obtain ⟨lo, hi, q, rfl, rfl, h1, h2, h3, rfl⟩ := hrel
    by_cases hlt : lo < hi
    · have hc := unhide HF q ((lo + hi) / 2) (by omega)
      rw [show (((lo + hi) / 2 : Nat) : Int) = ((lo : Int) + (hi : Int)) / 2 by omega] at hc
      have hlz : (lo : Int) < (hi : Int) := by omega
      have hsm : (lo : Int) + (hi : Int) < 9223372036854775808 := by omega
      have H := hide (And.intro h1 (And.intro h2 (And.intro h3 hlt)))
      clear h1 h2 h3 hlt HF hK hsz
      by_cases hp : K ≤ (lo + hi) / 2
      · rw [decide_eq_true hp] at hc
        have HP := hide hp
        clear hp
        go_wp2_with (refine hc.mono ?_; rintro e w' ⟨rfl, nq, rfl⟩)
        go_roundw
        case rel =>
          obtain ⟨h1, h2, h3, hlt⟩ := unhide H
          exact ⟨lo, (lo + hi) / 2, q + nq, rfl, by rw [show ((lo : Int) + (hi : Int)) / 2 = (((lo + hi) / 2 : Nat) : Int) by omega], h1, unhide HP, by omega, rfl⟩
        case measure => simp [intOf]; omega
      · rw [decide_eq_false hp] at hc
        have HP := hide hp
        clear hp
        go_wp2_with (refine hc.mono ?_; rintro e w' ⟨rfl, nq, rfl⟩)
        go_roundw
        case rel =>
          obtain ⟨h1, h2, h3, hlt⟩ := unhide H
          have hp := unhide HP
          exact ⟨(lo + hi) / 2 + 1, hi, q + nq, by rw [show ((lo : Int) + (hi : Int)) / 2 + 1 = (((lo + hi) / 2 + 1 : Nat) : Int) by omega], rfl, by omega, h2, h3, rfl⟩
        case measure => simp [intOf]; omega
    · obtain rfl : hi = lo := by omega
      obtain rfl : hi = K := by omega
      go_wp2
      go_ret
      exact ⟨rfl, q, rfl⟩

/-- At least one number between. -/
theorem apart_any (x y : Int) (w : World) (h1 : -9223372036854775808 ≤ x ∧ x ≤ 9223372036854775807) (h2 : -9223372036854775808 ≤ y ∧ y ≤ 9223372036854775807) :
    Calls Tryz.prog 68 #[.int .i64 x, .int .i64 y] w fun e w' => e = .returned (.bool (decide (x + 1 < y))) ∧ w' = w := by
  by_cases hlt : x < y
  · have hw : IntKind.i64.wrap (x + 1) = x + 1 := by rw [IntKind.wrap_i64]; omega
    have hd : decide (x < y) = true := decide_eq_true hlt
    go_enter Tryz.func68, Tryz.ntmps68
    go_wp2
    all_goals go_ret
    all_goals exact ⟨rfl, rfl⟩
  · have hd : decide (x < y) = false := decide_eq_false hlt
    have hd2 : decide (x + 1 < y) = false := decide_eq_false (by omega)
    rw [hd2]
    go_enter Tryz.func68, Tryz.ntmps68
    go_wp2
    all_goals go_ret
    all_goals exact ⟨rfl, rfl⟩

/-- A set in memory: its bound, its row. -/
structure SetAt (w : World) (b : Nat) (most : Int) (v : Value) (L : List Sp) : Prop where
  blk : w.heap[b]? = some (.cells #[.int .i64 most, v] 116 (0, 0))
  row : Row w v L

theorem SetAt.c0 {w : World} {b : Nat} {most : Int} {v : Value} {L : List Sp} (h : SetAt w b most v L) : w.cell? ⟨b, 0, none⟩ = some (.int .i64 most) := by simp [World.cell?, h.blk]
theorem SetAt.c1 {w : World} {b : Nat} {most : Int} {v : Value} {L : List Sp} (h : SetAt w b most v L) : w.cell? ⟨b, 1, none⟩ = some v := by simp [World.cell?, h.blk]
theorem SetAt.f1 {w : World} {b : Nat} {most : Int} {v : Value} {L : List Sp} (h : SetAt w b most v L) : w.frozen? ⟨b, 1, none⟩ = false := by simp [World.frozen?, h.blk]
theorem SetAt.ne {w : World} {b : Nat} {most : Int} {v : Value} {L : List Sp} (h : SetAt w b most v L) : v.ownBlock ≠ some b := fun e => by
  rcases Row.at h.row with ⟨rfl, _⟩ | ⟨g, c, sp, rfl, hR⟩
  · cases e
  · injection e with e
    have h1 := hR.1
    have h2 := h.blk
    have e' : g = b := e
    rw [e'] at h1
    rw [h1] at h2
    injection h2 with h2
    injection h2 with _ h2
    exact absurd h2 (by decide)

theorem list_any (b : Nat) (most : Int) (v : Value) (L : List Sp) (w : World) (h0 : SetAt w b most v L) :
    Calls Tryz.prog 87 #[.pointer (some ⟨b, 0, none⟩)] w fun e w' => e = .returned v ∧ w' = w := by
  have hc := h0.c1
  go_enter Tryz.func87, Tryz.ntmps87
  go_wp2
  all_goals go_ret
  all_goals exact ⟨rfl, rfl⟩

theorem list_nil (w : World) :
    Calls Tryz.prog 87 #[.pointer none] w fun e w' => e = .returned (.slice none 0 0) ∧ w' = w := by
  go_enter Tryz.func87, Tryz.ntmps87
  go_wp2
  all_goals go_ret
  all_goals exact ⟨rfl, rfl⟩

theorem reach1 (ba bx g c n i : Nat) (x hi : Int) (w : World) (hn : i < n) (ha : w.cell? ⟨ba, 0, none⟩ = some (.slice (some ⟨g, 0, none⟩) n c)) (hx : w.cell? ⟨bx, 0, none⟩ = some (.int .i64 x)) (hc : w.cell? ⟨g, i * 2 + 1, none⟩ = some (.int .i64 hi)) :
    Calls Tryz.prog 103 (#[.int .i64 i] ++ #[.pointer (some ⟨ba, 0, none⟩), .pointer (some ⟨bx, 0, none⟩)]) w fun e w' => e = .returned (.bool (decide (x ≤ hi))) ∧ ∃ q, w' = w.drewN q := by
  have hiz : (i : Int) < (n : Int) := by omega
  go_enter Tryz.func103, Tryz.ntmps103
  go_wp2
  go_quiet (fail)
  all_goals go_wp2
  all_goals go_ret
  all_goals exact ⟨rfl, _, rfl⟩

theorem reach2 (ba bx g c n i : Nat) (x lo : Int) (w : World) (hn : i < n) (ha : w.cell? ⟨ba, 0, none⟩ = some (.slice (some ⟨g, 0, none⟩) n c)) (hx : w.cell? ⟨bx, 0, none⟩ = some (.int .i64 x)) (hc : w.cell? ⟨g, i * 2, none⟩ = some (.int .i64 lo)) :
    Calls Tryz.prog 104 (#[.int .i64 i] ++ #[.pointer (some ⟨ba, 0, none⟩), .pointer (some ⟨bx, 0, none⟩)]) w fun e w' => e = .returned (.bool (decide (x < lo))) ∧ ∃ q, w' = w.drewN q := by
  have hiz : (i : Int) < (n : Int) := by omega
  go_enter Tryz.func104, Tryz.ntmps104
  go_wp2
  go_quiet (fail)
  all_goals go_wp2
  all_goals go_ret
  all_goals exact ⟨rfl, _, rfl⟩
end Go.Proofs.YtnflbefbgcbdfaaGreat
