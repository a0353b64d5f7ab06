/- Cut. -/
import Derived.Test.YtdalekjpjnhboaaSX0
namespace Go.Proofs.Ytdalekjpjnhboaa
open Go.RowKit
set_option linter.unusedVariables false
set_option maxRecDepth 100000
set_option maxHeartbeats 400000

set_option maxRecDepth 100000 in
theorem cut_none (b : Nat) (most lo hi : Int) (v : Value) (A D : List Sp) (w : World) (h0 : SetAt w b most v (A ++ ([] ++ D))) (hL : Ok (A ++ ([] ++ D))) (hlh : lo ≤ hi) (hlo : -9223372036854775808 ≤ lo) (hhi : hi ≤ 9223372036854775807)
    (hA : ∀ s ∈ A, s.2 < lo) (hD : ∀ s ∈ D, hi < s.1 ∧ lo ≤ s.2) :
    Calls Try.prog 48 #[.pointer (some ⟨b, 0, none⟩), .int .i64 lo, .int .i64 hi] w (AddPost b most v w (toldF (withinF lo hi (A ++ ([] ++ D)))) (boundF most (A ++ ([] ++ D)))) := by
  have hA1 : ∀ s ∈ A, s.1 ≤ hi := fun s hs => by have := hL.good.left.mem hs; have := hA s hs; omega
  have hsz := hL.size
  have hwi := within_any b most lo hi v _ w h0 hL hlh
  have hto := fun v1 W (hr : Row W v1 (withinF lo hi (A ++ ([] ++ D)))) => total_any v1 _ W hr (hL.within hlh hlo hhi).good
  have hre := fun W (hW : w.grownBy W none) => reach_walk b most lo hi v A [] D W (h0.keep hW) hA (by simp) hD hA1 (by omega)
  have hrp := fun W (hW : w.grownBy W none) => cut_replace W b most v (.slice none 0 0) A [] D [] (h0.keep hW) hL (by simp) (row_nil W) (fun _ => rfl) (fun k hk => by cases hk)
  have hd1 : decide (hi < lo) = false := decide_eq_false (by omega)
  obtain ⟨a, c, rfl, -, hcm, hnc⟩ := h0.row.shape
  have hc1 := fun U (hU : w.grownBy U none) => (h0.keep hU).c1
  have HC1 := hide hc1
  have HRE := hide hre
  have HRP := hide hrp
  clear hc1 hre hrp h0 hL hA hD hA1 hcm hnc hlh hlo hhi hsz
  generalize hnn : (A ++ ([] ++ D)).length = n at *
  generalize withinF lo hi (A ++ ([] ++ D)) = HL at *
  go_enter Try.func48, Try.ntmps48
  go_wp2_with (first | (go_at_call 61; refine hwi.mono ?_; rintro e W1 ⟨v1, rfl, p1, p2, p3⟩) | (go_at_call 62; refine (hto _ _ p1).mono ?_; rintro e W2 ⟨rfl, p5⟩; have hU := grown_trans p3 p5) | (go_at_call 72; refine (unhide HRE _ hU).mono ?_; rintro e U ⟨rfl, p6⟩; have hUU := grown_trans hU p6; have u1 := unhide HC1 _ hUU) | (go_at_call 67; refine (unhide HRP _ hUU).mono ?_; rintro e w' ⟨v', rfl, hpo⟩; obtain ⟨a', n', c', rfl⟩ := hpo.shape; have y3 := hpo.c1; have y4 := hpo.f1) | (go_at_call 68; refine (keep_any _ _ _ _ _ hpo.set).mono ?_; rintro e w2 ⟨rfl, ⟨v2, z1, z2⟩, z3⟩))
  all_goals go_ret
  all_goals exact post_end hUU hpo.own hpo.touch z1 z2 z3
end Go.Proofs.Ytdalekjpjnhboaa
