/- Add, Cut, Runs, Count of a set that is the call's own. -/
import Derived.Test.YtnflbefbgcbdfaaGreatSX2
import Derived.Test.YtnflbefbgcbdfaaGreatSA0
import Derived.Test.YtnflbefbgcbdfaaGreatSZ
namespace Go.Proofs.YtnflbefbgcbdfaaGreat
set_option maxRecDepth 100000
open Go.RowKit
set_option linter.unusedVariables false
set_option maxHeartbeats 400000

/-- A set that the call has made since w0. -/
structure LS (w0 w : World) (b : Nat) (most : Int) (L : List Sp) : Prop where
  at_ : ∃ v, SetAt w b most v L ∧ Fresh w0 v
  new : w0.heap.size ≤ b
  grown : w0.grownBy w none

theorem LS.keep {w0 w w' : World} {b : Nat} {most : Int} {L : List Sp} (h : LS w0 w b most L) (hg : w.grownBy w' none) : LS w0 w' b most L := by
  obtain ⟨v, hv, hf⟩ := h.at_
  exact ⟨⟨v, hv.keep hg, hf⟩, h.new, grown_trans h.grown hg⟩

theorem LS.post {w0 w w' : World} {b : Nat} {most n : Int} {v : Value} {L L' : List Sp} {e : Ending} (h : LS w0 w b most L) (hf : Fresh w0 v) (hp : AddPost b most v w n L' e w') : e = .returned (.int .u64 n) ∧ LS w0 w' b most L' := by
  obtain ⟨he, ⟨v', hs, ho⟩, ht⟩ := hp
  refine ⟨he, ⟨⟨v', hs, ?_⟩, h.new, ⟨ht.os.trans h.grown.os, ht.tape.trans h.grown.tape, ht.output.trans h.grown.output, Nat.le_trans h.grown.size ht.size, fun k hk _ => ?_⟩⟩⟩
  · rcases ho with ho | ho
    · exact fun k hk => hf k (by rw [← ho]; exact hk)
    · exact fun k hk => Nat.le_trans h.grown.size (ho k hk)
  · rw [ht.block k (Nat.lt_of_lt_of_le hk h.grown.size) (by have := h.new; omega) (fun e => by have := hf k e.symm; omega)]
    exact h.grown.block k hk (by simp)

theorem add_gt (b : Nat) (lo hi : Int) (w : World) (hlh : hi < lo) :
    Calls Tryz.prog 41 #[.pointer (some ⟨b, 0, none⟩), .int .i64 lo, .int .i64 hi] w fun e w' => e = .returned (.int .u64 0) ∧ w.grownBy w' none := by
  have hd1 : decide (hi < lo) = true := decide_eq_true hlh
  go_enter Tryz.func41, Tryz.ntmps41
  go_wp2
  all_goals go_ret
  all_goals exact ⟨rfl, grown_trans (grown_trans (grown_alloc _ _) (grown_alloc _ _)) (grown_alloc _ _)⟩

/-- Add. -/
theorem add_ls {w0 w : World} {b : Nat} {most : Int} {L : List Sp} (h : LS w0 w b most L) (hL : Ok L) (lo hi : Int) (hlo : -9223372036854775808 ≤ lo) (hhi : hi ≤ 9223372036854775807) :
    Calls Tryz.prog 41 #[.pointer (some ⟨b, 0, none⟩), .int .i64 lo, .int .i64 hi] w fun e w' => e = .returned (.int .u64 (addN lo hi L)) ∧ LS w0 w' b most (addS most lo hi L) := by
  obtain ⟨v, hv, hf⟩ := h.at_
  by_cases hlh : hi < lo
  · refine (add_gt b lo hi w hlh).mono ?_
    rintro e w' ⟨rfl, hg⟩
    unfold addN addS
    rw [if_pos hlh, if_pos hlh]
    exact ⟨rfl, h.keep hg⟩
  · unfold addN addS
    rw [if_neg hlh, if_neg hlh]
    obtain ⟨A, M, D, rfl, hA, hM, hD⟩ := split3 (lo - 1) (hi + 1) hL.good (by omega)
    rw [addF_split hL.good (by omega) hA hM hD]
    exact (add_walk b most lo hi v A M D w hv hL (by omega) hlo hhi hA hM hD).mono fun e w' hp => h.post hf hp

theorem new_ls (w0 w : World) (most : Int) (hm : 0 ≤ most) (hg : w0.grownBy w none) :
    Calls Tryz.prog 20 #[.int .i64 most] w fun e w' => e = .returned (.tuple #[.pointer (some ⟨w.heap.size, 0, none⟩), .int .i64 0]) ∧ LS w0 w' w.heap.size most [] :=
  (new_any most w hm).mono fun e w' ⟨he, hs, hg'⟩ => ⟨he, ⟨⟨_, hs, fresh_nil _⟩, hg.size, grown_trans hg hg'⟩⟩

end Go.Proofs.YtnflbefbgcbdfaaGreat
