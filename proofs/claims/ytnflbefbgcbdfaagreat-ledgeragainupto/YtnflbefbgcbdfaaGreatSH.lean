/- Has, Len. -/
import Derived.Test.YtnflbefbgcbdfaaGreatSA
import Derived.Test.YtnflbefbgcbdfaaGreatRA
namespace Go.Proofs.YtnflbefbgcbdfaaGreat
set_option maxRecDepth 100000
open Go.RowKit
set_option linter.unusedVariables false
set_option maxHeartbeats 400000

theorem has_any (b : Nat) (most x : Int) (v : Value) (L : List Sp) (w : World) (h0 : SetAt w b most v L) (hL : Ok L) :
    Calls Tryz.prog 44 #[.pointer (some ⟨b, 0, none⟩), .int .i64 x] w fun e w' => e = .returned (.bool (memB x L)) ∧ w.grownBy w' none := by
  obtain ⟨A, M, D, rfl, hA, hM, hD⟩ := split3 x x hL.good (by omega)
  rw [memB_split hA hM hD]
  have hre := reach_walk b most x x v A M D w h0 hA hM hD (fun s hs => by have := hL.good.left.mem hs; have := hA s hs; omega) (by have := hL.size; omega)
  clear h0 hA hM hD hL
  generalize A.length = i at *
  generalize M.length = m at *
  go_enter Tryz.func44, Tryz.ntmps44
  go_wp2_with (go_at_call 78; refine hre.mono ?_; rintro e W ⟨rfl, hg⟩)
  all_goals go_ret
  all_goals exact ⟨by simp; omega, hg⟩

theorem has_ls {w0 w : World} {b : Nat} {most : Int} {L : List Sp} (h : LS w0 w b most L) (hL : Ok L) (x : Int) :
    Calls Tryz.prog 44 #[.pointer (some ⟨b, 0, none⟩), .int .i64 x] w fun e w' => e = .returned (.bool (memB x L)) ∧ LS w0 w' b most L := by
  obtain ⟨v, hv, hf⟩ := h.at_
  exact (has_any b most x v L w hv hL).mono fun e w' ⟨he, hg⟩ => ⟨he, h.keep hg⟩

theorem within_ls {w0 w : World} {b : Nat} {most : Int} {L : List Sp} (h : LS w0 w b most L) (hL : Ok L) (lo hi : Int) :
    Calls Tryz.prog 51 #[.pointer (some ⟨b, 0, none⟩), .int .i64 lo, .int .i64 hi] w fun e w' => ∃ v', e = .returned v' ∧ Row w' v' (if hi < lo then [] else withinF lo hi L) ∧ Fresh w v' ∧ LS w0 w' b most L := by
  obtain ⟨v, hv, hf⟩ := h.at_
  by_cases hlh : hi < lo
  · rw [if_pos hlh]
    refine (within_gt b lo hi w hlh).mono ?_
    rintro e w' ⟨rfl, hw⟩
    subst hw
    exact ⟨_, rfl, row_nil _, fresh_nil _, h⟩
  · rw [if_neg hlh]
    exact (within_any b most lo hi v L w hv hL (by omega)).mono fun e w' ⟨v', he, hr, hf', hg⟩ => ⟨v', he, hr, hf', h.keep hg⟩

theorem holes_ls {w0 w : World} {b : Nat} {most : Int} {L : List Sp} (h : LS w0 w b most L) (hL : Ok L) (lo hi : Int) (hlo : -9223372036854775808 ≤ lo) (hhi : hi ≤ 9223372036854775807) :
    Calls Tryz.prog 65 #[.pointer (some ⟨b, 0, none⟩), .int .i64 lo, .int .i64 hi] w fun e w' => ∃ v', e = .returned v' ∧ Row w' v' (if hi < lo then [] else holesF lo hi L) ∧ Fresh w v' ∧ LS w0 w' b most L := by
  obtain ⟨v, hv, hf⟩ := h.at_
  by_cases hlh : hi < lo
  · rw [if_pos hlh]
    refine (holes_gt b lo hi w hlh).mono ?_
    rintro e w' ⟨rfl, hw⟩
    subst hw
    exact ⟨_, rfl, row_nil _, fresh_nil _, h⟩
  · rw [if_neg hlh]
    exact (holes_any b most lo hi v L w hv hL (by omega) hlo hhi).mono fun e w' ⟨v', he, hr, hf', hg⟩ => ⟨v', he, hr, hf', h.keep hg⟩
end Go.Proofs.YtnflbefbgcbdfaaGreat
