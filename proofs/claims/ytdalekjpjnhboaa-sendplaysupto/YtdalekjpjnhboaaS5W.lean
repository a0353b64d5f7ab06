/- runs, alike, pick. -/
import Derived.Test.YtdalekjpjnhboaaS5V0
import Derived.Laws.StructEq
namespace Go.Proofs.Ytdalekjpjnhboaa
open Go.RowKit
set_option linter.unusedVariables false
set_option maxHeartbeats 1000000
set_option maxRecDepth 100000

theorem cell_drewN {w : World} {a : Addr} {v : Value} (h : w.cell? a = some v) (q : Nat) : (w.drewN q).cell? a = some v := h

/-- Alike, or not told to be. -/
def SameP (E : Prop) (w : World) (e : Ending) (w' : World) : Prop := ∃ r, e = .returned (.bool r) ∧ (E → r = true) ∧ w.grownBy w' none

theorem runs15 {w : World} {v v' : Value} {A B : List Sp} (h1 : Row w v A) (h2 : Row w v' B) (hA : A.length ≤ 1000000) (hB : B.length ≤ 1000000) :
    Calls Try.prog 51 #[v, v'] w (SameP (A = B) w) := by
  obtain ⟨a, c, rfl, k1, k2, k3⟩ := h1.shape
  obtain ⟨a', c', rfl, j1, j2, j3⟩ := h2.shape
  unfold maxLen at k2 j2
  by_cases hl : A.length = B.length
  · have hl' : ((A.length : Int) == (B.length : Int)) = true := by simp [hl]
    have hl'' : ((A.length : Int) != (B.length : Int)) = false := by simp [hl]
    have K1 := hide k1; have J1 := hide j1
    obtain ⟨n, hn⟩ : ∃ n, n = A.length := ⟨_, rfl⟩
    have HN := hide hn
    have hnB : B.length = n := by rw [hn, hl]
    have HNB := hide hnB
    rw [← hn] at hl' hl'' k3 hA hl ⊢
    rw [hnB] at hl' hl'' j3 hB ⊢
    clear k1 j1 h1 h2 hn hl hnB
    go_enter Try.func51, Try.ntmps51
    go_wp2
    go_loopw [5] (fun i wr => ∃ k q : Nat, k ≤ n ∧ i = .int .i64 k ∧ wr = w.drewN q) (fun i _ => n - (intOf i).toNat)
    case atStart => exact ⟨0, 0, Nat.zero_le _, rfl, rfl⟩
    case round =>
      obtain ⟨k, q, hk, rfl, rfl⟩ := hrel
      by_cases hlt : k < n
      · have hkA : k < A.length := by rw [← unhide HN]; exact hlt
        have hkB : k < B.length := by rw [unhide HNB]; exact hlt
        obtain ⟨g, rfl, hx⟩ : ∃ g, a = some ⟨g, 0, none⟩ ∧ ∀ i, i < A.length → w.cell? ⟨g, i * 2, none⟩ = some (.int .i64 (A.getD i (0, 0)).1) ∧ w.cell? ⟨g, i * 2 + 1, none⟩ = some (.int .i64 (A.getD i (0, 0)).2) := by
          rcases unhide K1 with e | e
          · rw [e] at hkA; simp at hkA
          · exact e
        obtain ⟨g', rfl, hx'⟩ : ∃ g, a' = some ⟨g, 0, none⟩ ∧ ∀ i, i < B.length → w.cell? ⟨g, i * 2, none⟩ = some (.int .i64 (B.getD i (0, 0)).1) ∧ w.cell? ⟨g, i * 2 + 1, none⟩ = some (.int .i64 (B.getD i (0, 0)).2) := by
          rcases unhide J1 with e | e
          · rw [e] at hkB; simp at hkB
          · exact e
        have c0 := (hx k hkA).1
        have c1 := (hx k hkA).2
        have d0 := (hx' k hkB).1
        have d1 := (hx' k hkB).2
        have EQ : Hid (A = B → (A.getD k (0, 0)).1 = (B.getD k (0, 0)).1 ∧ (A.getD k (0, 0)).2 = (B.getD k (0, 0)).2) := fun e => by rw [e]; exact ⟨rfl, rfl⟩
        generalize (A.getD k (0, 0)).1 = x at *
        generalize (A.getD k (0, 0)).2 = y at *
        generalize (B.getD k (0, 0)).1 = x' at *
        generalize (B.getD k (0, 0)).2 = y' at *
        have hkn : (k : Int) < (n : Int) := by omega
        have hkd : decide ((k : Int) < (n : Int)) = true := decide_eq_true hkn
        have HL := hide hlt
        clear hx hx' hkA hkB hlt hk
        by_cases hxx : x = x'
        · have hx1 := beq_yes hxx
          have hx2 : (x != x') = false := by simp [hxx]
          by_cases hyy : y = y'
          · have hy1 := beq_yes hyy
            have hy2 : (y != y') = false := by simp [hyy]
            clear hxx hyy EQ
            go_wp2
            go_quiet (fail)
            go_wp2
            exact ⟨⟨k + 1, _, unhide HL, by go_num, rfl⟩, by simp [intOf]; have := unhide HL; omega⟩
          · have hy1 := beq_no hyy
            have hy2 : (y != y') = true := by simp [hyy]
            have HY := hide hyy
            clear hxx hyy
            go_wp2
            go_quiet (fail)
            go_wp2
            go_ret
            exact ⟨_, rfl, fun e => absurd (unhide EQ e).2 (unhide HY), grown_trans (grown_drewN _ _) (grown_drewN _ _)⟩
        · have hx1 := beq_no hxx
          have hx2 : (x != x') = true := by simp [hxx]
          have HX := hide hxx
          clear hxx
          go_wp2
          go_quiet (fail)
          go_wp2
          go_ret
          exact ⟨_, rfl, fun e => absurd (unhide EQ e).1 (unhide HX), grown_trans (grown_drewN _ _) (grown_drewN _ _)⟩
      · obtain rfl : k = n := by omega
        have hno : ¬ (k : Int) < (k : Int) := by omega
        have hnd : decide ((k : Int) < (k : Int)) = false := decide_eq_false hno
        go_wp2
        go_ret
        exact ⟨_, rfl, fun _ => rfl, grown_drewN _ _⟩
  · have hl' : ((A.length : Int) == (B.length : Int)) = false := by simp; omega
    have hl'' : ((A.length : Int) != (B.length : Int)) = true := by simp; omega
    have HL : Hid (A ≠ B) := fun e => hl (by rw [e])
    clear k1 j1 h1 h2 hl
    generalize A.length = n at *
    generalize B.length = m at *
    go_enter Try.func51, Try.ntmps51
    go_wp2
    all_goals go_ret
    all_goals exact ⟨_, rfl, fun e => absurd e (unhide HL), grown_self _ _⟩

def PickP (w : World) (e : Ending) (w' : World) : Prop := ∃ k : Nat, e = .returned (.int .i64 (k : Int)) ∧ k < 8 ∧ w' = w

theorem pick8 (c : Int) (w : World) (hc : -9223372036854775808 ≤ c ∧ c ≤ 9223372036854775807) : Calls Try.prog 13 #[.int .i64 c, .int .i64 8] w (PickP w) := by
  by_cases h : c < 0
  · have d : decide (c < 0) = true := decide_eq_true h
    have w1 : IntKind.i64.wrap (c + 1) = c + 1 := by rw [IntKind.wrap_i64]; omega
    have w2 : IntKind.i64.wrap (-(c + 1)) = -(c + 1) := by rw [IntKind.wrap_i64]; omega
    obtain ⟨m, hm⟩ : ∃ m : Nat, -(c + 1) = (m : Int) := ⟨(-(c + 1)).toNat, by omega⟩
    have ht : Int.tmod (-(c + 1)) 8 = ((m % 8 : Nat) : Int) := by rw [hm, show (8 : Int) = ((8 : Nat) : Int) from rfl, ← Int.ofNat_tmod]
    have HM := hide hm
    clear hm
    have hk : m % 8 < 8 := Nat.mod_lt _ (by omega)
    generalize m % 8 = k at *
    go_enter Try.func13, Try.ntmps13
    go_wp2
    all_goals go_ret
    all_goals exact ⟨k, by simp [*], hk, rfl⟩
  · have d : decide (c < 0) = false := decide_eq_false h
    obtain ⟨m, hm⟩ : ∃ m : Nat, c = (m : Int) := ⟨c.toNat, by omega⟩
    have ht : Int.tmod c 8 = ((m % 8 : Nat) : Int) := by rw [hm, show (8 : Int) = ((8 : Nat) : Int) from rfl, ← Int.ofNat_tmod]
    have HM := hide hm
    clear hm
    have hk : m % 8 < 8 := Nat.mod_lt _ (by omega)
    generalize m % 8 = k at *
    go_enter Try.func13, Try.ntmps13
    go_wp2
    all_goals go_ret
    all_goals exact ⟨k, by simp [*], hk, rfl⟩
end Go.Proofs.Ytdalekjpjnhboaa
