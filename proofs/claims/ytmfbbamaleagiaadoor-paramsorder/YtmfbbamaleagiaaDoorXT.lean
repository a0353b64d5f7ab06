import Derived.Test.YtmfbbamaleagiaaDoorXS
namespace Go.Proofs.YtmfbbamaleagiaaDoor
open Go.RowKit
set_option linter.unusedVariables false
set_option maxRecDepth 100000

/-- Put and PutAs, as the document has them: the bytes and the error's number. -/
def putF (v : Int) : List Int × Int := if v ≤ 4611686018427387903 then (layF v (sizeF v), 0) else ([], 10)
def putAsF (v n : Int) : List Int × Int := if n = 1 ∨ n = 2 ∨ n = 4 ∨ n = 8 then (if v ≤ 4611686018427387903 ∧ (sizeF v : Int) ≤ n then (layF v n.toNat, 0) else ([], 10)) else ([], 1)

/-- An answer of bytes: its owner's, of new memory. -/
def Own (w w' : World) (s : Value) (l : List Int) : Prop := w'.ownsRow w.heap.size 5 1 s l.length (vals l) ∧ Below w.heap.size w w'

theorem own_nil (w : World) : Own w w (.slice none 0 0) [] := ⟨World.ownsRow_nil _ _ _ _, Below.refl _ _⟩
theorem own_bts (w : World) (l : List Int) (n : Nat) (hn : l.length = n) (h : l.length ≤ maxLen) : Own w (w.alloc (bts l)) (.slice (some ⟨w.heap.size, 0, none⟩) n n) l := by
  subst hn
  exact ⟨bts_own _ (heap_alloc_new w _) (Nat.le_refl _) h, (Below.refl _ _).alloc (Nat.le_refl _) _⟩
theorem Own.alloc {w w' : World} {s : Value} {l : List Int} {o : Obj} (h : Own (w.alloc o) w' s l) : Own w w' s l := by
  refine ⟨?_, ((Below.refl _ _).alloc (Nat.le_refl _) o).trans (h.2.mono (by simp))⟩
  refine ⟨h.1.1, ?_⟩
  rcases h.1.2 with h2 | ⟨g, cap, cur, hv, hg, r⟩
  · exact .inl h2
  · exact .inr ⟨g, cap, cur, hv, by simp at hg; omega, r⟩

theorem layF_small (v : Int) (n : Nat) (h : Fits v n) : (layF v n).length ≤ maxLen := by
  rw [layF_length]; unfold maxLen; rcases h with h | h | h | h <;> omega

theorem put_own (v : Int) (w : World) (v0 : 0 ≤ v) (v1 : v < 18446744073709551616) :
    Calls Tryd.prog 26 #[.int .u64 v] w fun e w' => ∃ s, e = .returned (.tuple #[s, .int .i64 (putF v).2]) ∧ Own w w' s (putF v).1 := by
  unfold putF
  by_cases h : v ≤ 4611686018427387903
  · rw [if_pos h]
    exact (put_ok v w v0 h).mono fun e w' ⟨he, hw⟩ => ⟨_, he, by subst hw; exact own_bts w _ _ (layF_length _ _) (layF_small v _ (fits_size v h))⟩
  · rw [if_neg h]
    exact (put_no v w (by omega) v1).mono fun e w' ⟨he, hw⟩ => ⟨_, he, by subst hw; exact own_nil _⟩

/-! the document's answer -/
set_option maxHeartbeats 800000 in
theorem rputAs_arg (v n : Int) (w : World) (h : firstF n = 0) :
    Calls Tryd.prog 44 #[.int .u64 v, .int .i64 n] w fun e w' => e = .returned (.tuple #[.slice none 0 0, .int .i64 1]) ∧ w' = w := by
  go_enter Tryd.func44, Tryd.ntmps44
  go_wp2_with (go_at_call 51; refine (first_any _ _).mono ?_; rintro e w' ⟨rfl, hw⟩; subst w')
  go_ret2
  exact ⟨rfl, rfl⟩
set_option maxHeartbeats 800000 in
theorem rputAs_no (v n : Int) (w : World) (h : firstF n ≠ 0) (h2 : firstF n ≤ v) :
    Calls Tryd.prog 44 #[.int .u64 v, .int .i64 n] w fun e w' => e = .returned (.tuple #[.slice none 0 0, .int .i64 10]) ∧ w' = w := by
  have hne : (firstF n == 0) = false := by simp [h]
  clear h
  go_enter Tryd.func44, Tryd.ntmps44
  go_wp2_with (go_at_call 51; refine (first_any _ _).mono ?_; rintro e w' ⟨rfl, hw⟩; subst w')
  go_ret2
  exact ⟨rfl, rfl⟩

theorem rputAs_own (v n : Int) (w : World) (v0 : 0 ≤ v) (v1 : v < 18446744073709551616) :
    Calls Tryd.prog 44 #[.int .u64 v, .int .i64 n] w fun e w' => ∃ s, e = .returned (.tuple #[s, .int .i64 (putAsF v n).2]) ∧ Own w w' s (putAsF v n).1 := by
  unfold putAsF
  by_cases hs : n = 1 ∨ n = 2 ∨ n = 4 ∨ n = 8
  · rw [if_pos hs]
    have hf : firstF n ≠ 0 := by unfold firstF; rcases hs with rfl | rfl | rfl | rfl <;> decide
    have hcmp : (v ≤ 4611686018427387903 ∧ (sizeF v : Int) ≤ n) ↔ v < firstF n := by
      unfold firstF sizeF
      rcases hs with rfl | rfl | rfl | rfl <;> (repeat' split) <;> omega
    by_cases h : v ≤ 4611686018427387903 ∧ (sizeF v : Int) ≤ n
    · rw [if_pos h]
      have hfit := fits_of v n hs h.2 h.1
      have key : ∀ (k m idx : Nat), n = k → k = m + 1 → k ≤ 8 → idx < 4 → szA idx = k → (∀ q, q < 4 → q ≠ idx → szA q ≠ k) → markF k = 64 * (idx : Int) → v / 256 ^ m % 256 ≤ 63 → Calls Tryd.prog 44 #[.int .u64 v, .int .i64 n] w fun e w' => ∃ s, e = .returned (.tuple #[s, .int .i64 0]) ∧ Own w w' s (layF v n.toNat) := fun k m idx e1 e2 e3 e4 e5 e6 e7 e8 => by
        subst e1
        rw [Int.toNat_natCast] at hfit ⊢
        exact (rputAs_ok v k m idx w v0 e2 e3 hfit e4 e5 e6 e7 (hcmp.1 h) e8).mono fun e w' ⟨s, he, ho, hb⟩ => ⟨s, he, by rw [Own, layF_length]; exact ⟨ho, hb⟩⟩
      have h4 : ∀ (k idx : Nat), (∀ q, q < 4 → q ≠ idx → szA q ≠ (k : Int)) ↔ ((0 ≠ idx → (1 : Int) ≠ k) ∧ (1 ≠ idx → (2 : Int) ≠ k) ∧ (2 ≠ idx → (4 : Int) ≠ k) ∧ (3 ≠ idx → (8 : Int) ≠ k)) := fun k idx => by
        constructor
        · intro hh; exact ⟨hh 0 (by omega), hh 1 (by omega), hh 2 (by omega), hh 3 (by omega)⟩
        · rintro ⟨a0, a1, a2, a3⟩ q hq
          have : q = 0 ∨ q = 1 ∨ q = 2 ∨ q = 3 := by omega
          rcases this with rfl | rfl | rfl | rfl
          · exact a0
          · exact a1
          · exact a2
          · exact a3
      rcases hs with rfl | rfl | rfl | rfl
      · exact key 1 0 0 rfl rfl (by omega) (by omega) rfl ((h4 1 0).2 (by omega)) rfl (by rcases hfit with h | h | h | h <;> simp <;> omega)
      · exact key 2 1 1 rfl rfl (by omega) (by omega) rfl ((h4 2 1).2 (by omega)) rfl (by rcases hfit with h | h | h | h <;> simp <;> omega)
      · exact key 4 3 2 rfl rfl (by omega) (by omega) rfl ((h4 4 2).2 (by omega)) rfl (by rcases hfit with h | h | h | h <;> simp <;> omega)
      · exact key 8 7 3 rfl rfl (by omega) (by omega) rfl ((h4 8 3).2 (by omega)) rfl (by rcases hfit with h | h | h | h <;> simp <;> omega)
    · rw [if_neg h]
      exact (rputAs_no v n w hf (by rw [hcmp] at h; omega)).mono fun e w' ⟨he, hw⟩ => ⟨_, he, by subst hw; exact own_nil _⟩
  · rw [if_neg hs]
    exact (rputAs_arg v n w (by unfold firstF; (repeat' split) <;> omega)).mono fun e w' ⟨he, hw⟩ => ⟨_, he, by subst hw; exact own_nil _⟩

set_option maxHeartbeats 800000 in
theorem rput_own (v : Int) (w : World) (v0 : 0 ≤ v) (v1 : v < 18446744073709551616) :
    Calls Tryd.prog 33 #[.int .u64 v] w fun e w' => ∃ s, e = .returned (.tuple #[s, .int .i64 (putF v).2]) ∧ Own w w' s (putF v).1 := by
  by_cases h : v ≤ 4611686018427387903
  · have hne := size_ne v h
    have hp : putAsF v (sizeF v) = putF v := by
      unfold putAsF putF
      rw [if_pos h, if_pos (by unfold sizeF; (repeat' split) <;> simp <;> omega), if_pos ⟨h, Int.le_refl _⟩]
      simp
    have HP := hide hp
    clear hp
    go_enter Tryd.func33, Tryd.ntmps33
    go_wp2_with (first
      | (go_at_call 43; refine (rsize_any _ _ v0 v1).mono ?_; rintro e w' ⟨rfl, rfl⟩)
      | (go_at_call 44; refine (rputAs_own v (sizeF v) _ v0 v1).mono ?_; rw [unhide HP]; rintro e w' ⟨s, rfl, ho⟩; have HO := hide ho; clear ho))
    go_ret2
    exact ⟨_, rfl, (unhide HO).alloc⟩
  · have hz := size_zero v (by omega)
    have hp : putF v = ([], 10) := by unfold putF; rw [if_neg h]
    rw [hp]
    clear hp
    go_enter Tryd.func33, Tryd.ntmps33
    go_wp2_with (go_at_call 43; refine (rsize_any _ _ v0 v1).mono ?_; rintro e w' ⟨rfl, rfl⟩)
    go_ret2
    exact ⟨_, rfl, World.ownsRow_nil _ _ _ _, (Below.refl _ _).alloc (Nat.le_refl _) _⟩
end Go.Proofs.YtmfbbamaleagiaaDoor
