/- Add, Cut, Runs, Count of a set that is the call's own. -/
import Derived.Test.YtbcmeaebjngapaaSX2
import Derived.Test.YtbcmeaebjngapaaSZ
namespace Go.Proofs.Ytbcmeaebjngapaa
open Go.RowKit
set_option linter.unusedVariables false
set_option maxRecDepth 100000
set_option maxHeartbeats 400000

/-- What Add makes of runs (no bound). -/
def addF (lo hi : Int) (L : List Sp) : List Sp :=
  L.filter (fun s => decide (s.2 < lo - 1)) ++ ([grownF lo hi (L.filter (fun s => decide (lo - 1 ≤ s.2) && decide (s.1 ≤ hi + 1)))] ++ L.filter (fun s => decide (hi + 1 < s.1)))
/-- What Cut makes of runs (no bound). -/
def cutF (lo hi : Int) (L : List Sp) : List Sp :=
  L.filter (fun s => decide (s.2 < lo)) ++ (restF lo hi (L.filter (fun s => decide (lo ≤ s.2) && decide (s.1 ≤ hi))) ++ L.filter (fun s => decide (hi < s.1)))

def addS (most lo hi : Int) (L : List Sp) : List Sp := if hi < lo then L else boundF most (addF lo hi L)
def cutS (most lo hi : Int) (L : List Sp) : List Sp := if hi < lo then L else boundF most (cutF lo hi L)
def addN (lo hi : Int) (L : List Sp) : Int := if hi < lo then 0 else toldF (holesF lo hi L)
def cutN (lo hi : Int) (L : List Sp) : Int := if hi < lo then 0 else toldF (withinF lo hi L)

theorem filter3 {p q r : Sp → Bool} {A M D : List Sp} (hA : ∀ s ∈ A, p s = true ∧ q s = false ∧ r s = false) (hM : ∀ s ∈ M, p s = false ∧ q s = true ∧ r s = false) (hD : ∀ s ∈ D, p s = false ∧ q s = false ∧ r s = true) :
    (A ++ (M ++ D)).filter p = A ∧ (A ++ (M ++ D)).filter q = M ∧ (A ++ (M ++ D)).filter r = D := by
  have hno : ∀ {f : Sp → Bool} {X : List Sp}, (∀ s ∈ X, f s = false) → X.filter f = [] := fun h => List.filter_eq_nil_iff.2 fun s hs => by simp [h s hs]
  have hall : ∀ {f : Sp → Bool} {X : List Sp}, (∀ s ∈ X, f s = true) → X.filter f = X := fun h => List.filter_eq_self.2 h
  simp only [List.filter_append]
  rw [hall fun s hs => (hA s hs).1, hno fun s hs => (hM s hs).1, hno fun s hs => (hD s hs).1, hno fun s hs => (hA s hs).2.1, hall fun s hs => (hM s hs).2.1, hno fun s hs => (hD s hs).2.1, hno fun s hs => (hA s hs).2.2, hno fun s hs => (hM s hs).2.2, hall fun s hs => (hD s hs).2.2]
  simp

theorem addF_split {mn mx lo hi : Int} {A M D : List Sp} (h : Good mn mx (A ++ (M ++ D))) (hlh : lo ≤ hi) (hA : ∀ s ∈ A, s.2 < lo - 1) (hM : ∀ s ∈ M, lo - 1 ≤ s.2 ∧ s.1 ≤ hi + 1) (hD : ∀ s ∈ D, hi + 1 < s.1 ∧ lo - 1 ≤ s.2) : addF lo hi (A ++ (M ++ D)) = A ++ ([grownF lo hi M] ++ D) := by
  obtain ⟨e1, e2, e3⟩ := filter3 (p := fun s => decide (s.2 < lo - 1)) (q := fun s => decide (lo - 1 ≤ s.2) && decide (s.1 ≤ hi + 1)) (r := fun s => decide (hi + 1 < s.1)) (A := A) (M := M) (D := D)
    (fun s hs => by have := hA s hs; have := h.left.mem hs; simp; omega) (fun s hs => by have := hM s hs; simp; omega) (fun s hs => by have := hD s hs; simp; omega)
  unfold addF
  rw [e1, e2, e3]

theorem cutF_split {mn mx lo hi : Int} {A M D : List Sp} (h : Good mn mx (A ++ (M ++ D))) (hlh : lo ≤ hi) (hA : ∀ s ∈ A, s.2 < lo) (hM : ∀ s ∈ M, lo ≤ s.2 ∧ s.1 ≤ hi) (hD : ∀ s ∈ D, hi < s.1 ∧ lo ≤ s.2) : cutF lo hi (A ++ (M ++ D)) = A ++ (restF lo hi M ++ D) := by
  obtain ⟨e1, e2, e3⟩ := filter3 (p := fun s => decide (s.2 < lo)) (q := fun s => decide (lo ≤ s.2) && decide (s.1 ≤ hi)) (r := fun s => decide (hi < s.1)) (A := A) (M := M) (D := D)
    (fun s hs => by have := hA s hs; have := h.left.mem hs; simp; omega) (fun s hs => by have := hM s hs; simp; omega) (fun s hs => by have := hD s hs; simp; omega)
  unfold cutF
  rw [e1, e2, e3]

/-- What is kept: apart; how many numbers; not many runs more. -/
theorem addF_good {L : List Sp} {lo hi : Int} (h : Good (-9223372036854775808) 9223372036854775807 L) (hlh : lo ≤ hi) (hlo : -9223372036854775808 ≤ lo) (hhi : hi ≤ 9223372036854775807) :
    Good (-9223372036854775808) 9223372036854775807 (addF lo hi L) ∧ cnt (addF lo hi L) = cnt L + cnt (holesF lo hi L) ∧ (addF lo hi L).length ≤ L.length + 1 := by
  obtain ⟨A, M, D, rfl, hA, hM, hD⟩ := split3 (lo - 1) (hi + 1) h (by omega)
  rw [addF_split h hlh hA hM hD]
  have := add_good h hlh hlo hhi hA hM hD
  exact ⟨this.1, this.2, by simp only [List.length_append, List.length_cons, List.length_nil]; omega⟩

theorem restF_length (lo hi : Int) (M : List Sp) : (restF lo hi M).length ≤ M.length + 1 := by
  cases M with
  | nil => simp [restF]
  | cons m M =>
    simp only [restF, List.length_append, List.length_cons]
    have h1 : (if m.1 < lo then [(m.1, lo - 1)] else []).length ≤ 1 := by split <;> simp
    have h2 : (if hi < (M.getLastD m).2 then [(hi + 1, (M.getLastD m).2)] else []).length ≤ 1 := by split <;> simp
    omega

theorem cutF_good {L : List Sp} {lo hi : Int} (h : Good (-9223372036854775808) 9223372036854775807 L) (hlh : lo ≤ hi) :
    Good (-9223372036854775808) 9223372036854775807 (cutF lo hi L) ∧ cnt (cutF lo hi L) = cnt L - cnt (withinF lo hi L) ∧ (cutF lo hi L).length ≤ L.length + 1 := by
  obtain ⟨A, M, D, rfl, hA, hM, hD⟩ := split3 lo hi h (by omega)
  rw [cutF_split h hlh hA hM hD]
  have := cut_good h hlh hA hM hD
  have hl := restF_length lo hi M
  exact ⟨this.1, this.2, by simp only [List.length_append]; omega⟩

theorem boundF_good {mn mx most : Int} {L : List Sp} (h : Good mn mx L) : Good mn mx (boundF most L) ∧ (boundF most L).length ≤ L.length := by
  unfold boundF
  split
  · rw [← List.take_append_drop (L.length - most.toNat) L] at h
    exact ⟨h.right, by simp⟩
  · exact ⟨h, Nat.le_refl _⟩

/-- A set that the call has made since w0. -/
structure LS (w0 w : World) (b : Nat) (most : Int) (L : List Sp) : Prop where
  at_ : ∃ v, SetAt w b most v L ∧ Fresh w0 v
  new : w0.heap.size ≤ b
  grown : w0.grownBy w none

theorem LS.keep {w0 w w' : World} {b : Nat} {most : Int} {L : List Sp} (h : LS w0 w b most L) (hg : w.grownBy w' none) : LS w0 w' b most L := by
  obtain ⟨v, hv, hf⟩ := h.at_
  exact ⟨⟨v, hv.keep hg, hf⟩, h.new, grown_trans h.grown hg⟩

theorem LS.post {w0 w w' : World} {b : Nat} {most n : Int} {v : Value} {L L' : List Sp} {e : Ending} (h : LS w0 w b most L) (hf : Fresh w0 v) (hp : AddPost b most v w n L' e w') : e = .returned (.int .u64 n) ∧ LS w0 w' b most L' := by
  obtain ⟨he, ⟨v', hs, ho⟩, ht⟩ := hp
  refine ⟨he, ⟨⟨v', hs, ?_⟩, h.new, ⟨ht.os.trans h.grown.os, ht.tape.trans h.grown.tape, ht.output.trans h.grown.output, Nat.le_trans h.grown.size ht.size, fun k hk _ => ?_⟩⟩⟩
  · rcases ho with ho | ho
    · exact fun k hk => hf k (by rw [← ho]; exact hk)
    · exact fun k hk => Nat.le_trans h.grown.size (ho k hk)
  · rw [ht.block k (Nat.lt_of_lt_of_le hk h.grown.size) (by have := h.new; omega) (fun e => by have := hf k e.symm; omega)]
    exact h.grown.block k hk (by simp)

theorem add_gt (b : Nat) (lo hi : Int) (w : World) (hlh : hi < lo) :
    Calls Try.prog 17 #[.pointer (some ⟨b, 0, none⟩), .int .i64 lo, .int .i64 hi] w fun e w' => e = .returned (.int .u64 0) ∧ w.grownBy w' none := by
  have hd1 : decide (hi < lo) = true := decide_eq_true hlh
  go_enter Try.func17, Try.ntmps17
  go_wp2
  all_goals go_ret
  all_goals exact ⟨rfl, grown_trans (grown_trans (grown_alloc _ _) (grown_alloc _ _)) (grown_alloc _ _)⟩

theorem cut_gt (b : Nat) (lo hi : Int) (w : World) (hlh : hi < lo) :
    Calls Try.prog 16 #[.pointer (some ⟨b, 0, none⟩), .int .i64 lo, .int .i64 hi] w fun e w' => e = .returned (.int .u64 0) ∧ w' = w := by
  have hd1 : decide (hi < lo) = true := decide_eq_true hlh
  go_enter Try.func16, Try.ntmps16
  go_wp2
  all_goals go_ret
  all_goals exact ⟨rfl, rfl⟩

/-- Add. -/
theorem add_ls {w0 w : World} {b : Nat} {most : Int} {L : List Sp} (h : LS w0 w b most L) (hL : Ok L) (lo hi : Int) (hlo : -9223372036854775808 ≤ lo) (hhi : hi ≤ 9223372036854775807) :
    Calls Try.prog 17 #[.pointer (some ⟨b, 0, none⟩), .int .i64 lo, .int .i64 hi] w fun e w' => e = .returned (.int .u64 (addN lo hi L)) ∧ LS w0 w' b most (addS most lo hi L) := by
  obtain ⟨v, hv, hf⟩ := h.at_
  by_cases hlh : hi < lo
  · refine (add_gt b lo hi w hlh).mono ?_
    rintro e w' ⟨rfl, hg⟩
    unfold addN addS
    rw [if_pos hlh, if_pos hlh]
    exact ⟨rfl, h.keep hg⟩
  · unfold addN addS
    rw [if_neg hlh, if_neg hlh]
    obtain ⟨A, M, D, rfl, hA, hM, hD⟩ := split3 (lo - 1) (hi + 1) hL.good (by omega)
    rw [addF_split hL.good (by omega) hA hM hD]
    exact (add_walk b most lo hi v A M D w hv hL (by omega) hlo hhi hA hM hD).mono fun e w' hp => h.post hf hp

/-- Cut. -/
theorem cut_ls {w0 w : World} {b : Nat} {most : Int} {L : List Sp} (h : LS w0 w b most L) (hL : Ok L) (lo hi : Int) (hlo : -9223372036854775808 ≤ lo) (hhi : hi ≤ 9223372036854775807) :
    Calls Try.prog 16 #[.pointer (some ⟨b, 0, none⟩), .int .i64 lo, .int .i64 hi] w fun e w' => e = .returned (.int .u64 (cutN lo hi L)) ∧ LS w0 w' b most (cutS most lo hi L) := by
  obtain ⟨v, hv, hf⟩ := h.at_
  by_cases hlh : hi < lo
  · refine (cut_gt b lo hi w hlh).mono ?_
    rintro e w' ⟨rfl, hw⟩
    subst hw
    unfold cutN cutS
    rw [if_pos hlh, if_pos hlh]
    exact ⟨rfl, h⟩
  · unfold cutN cutS
    rw [if_neg hlh, if_neg hlh]
    obtain ⟨A, M, D, rfl, hA, hM, hD⟩ := split3 lo hi hL.good (by omega)
    rw [cutF_split hL.good (by omega) hA hM hD]
    by_cases hne : M = []
    · subst hne
      exact (cut_none b most lo hi v A D w hv hL (by omega) hlo hhi hA hD).mono fun e w' hp => h.post hf hp
    · exact (cut_meet b most lo hi v A M D w hv hL (by omega) hlo hhi hA hM hD hne).mono fun e w' hp => h.post hf hp

theorem new_ls (w0 w : World) (most : Int) (hm : 0 ≤ most) (hg : w0.grownBy w none) :
    Calls Try.prog 18 #[.int .i64 most] w fun e w' => e = .returned (.tuple #[.pointer (some ⟨w.heap.size, 0, none⟩), .int .i64 0]) ∧ LS w0 w' w.heap.size most [] :=
  (new_any most w hm).mono fun e w' ⟨he, hs, hg'⟩ => ⟨he, ⟨⟨_, hs, fresh_nil _⟩, hg.size, grown_trans hg hg'⟩⟩

theorem runs_ls {w0 w : World} {b : Nat} {most : Int} {L : List Sp} (h : LS w0 w b most L) (hL : Ok L) :
    Calls Try.prog 7 #[.pointer (some ⟨b, 0, none⟩)] w fun e w' => ∃ v', e = .returned v' ∧ Row w' v' L ∧ Fresh w v' ∧ LS w0 w' b most L := by
  obtain ⟨v, hv, hf⟩ := h.at_
  exact (runs_any b most v L w hv (by have := hL.size; omega)).mono fun e w' ⟨v', he, hr, hf', hg⟩ => ⟨v', he, hr, hf', h.keep hg⟩
end Go.Proofs.Ytbcmeaebjngapaa
