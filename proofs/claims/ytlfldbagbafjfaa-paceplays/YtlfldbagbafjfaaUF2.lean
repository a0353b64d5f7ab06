/- The document's functions: Spend. -/
import Derived.Test.YtlfldbagbafjfaaUF
namespace Go.Proofs.Ytlfldbagbafjfaa
open Go.RowKit
set_option linter.unusedVariables false
set_option maxRecDepth 100000
set_option maxHeartbeats 4000000

theorem rspend_any (b o p : Nat) (s S : Ps) (x z : Int) (w : World) (h : RB w b o p s S) (hs : Sep o p) (ok : s.Ok) : Calls Try.prog 18 #[ptrO b o, .int .i64 x, .int .i64 z] w fun e w' => e = .returned (.tuple #[]) ∧ RT w w' b o p (spendF x z s) S := by
  have hf := rfill_any b o p s S x w h hs ok
  have fk := fill_ok ok x
  have fb := fill_burst x s
  unfold spendF
  rw [← fb]
  clear h ok fb
  generalize fillF x s = f at *
  have bb := fk.b
  have bl := fk.l
  obtain ⟨a1, a2⟩ := win_b (x := z) (show (0 : Int) ≤ f.burst by omega)
  have k1 : IntKind.i64.wrap (f.left - win z 0 f.burst) = f.left - win z 0 f.burst := by rw [IntKind.wrap_i64]; omega
  have k2 : IntKind.i64.wrap (-f.burst) = -f.burst := by rw [IntKind.wrap_i64]; omega
  generalize hS : ({ f with left := max (f.left - win z 0 f.burst) (-f.burst) } : Ps) = S'
  go_enter Try.func18, Try.ntmps18
  go_wp2_with fail
  refine hf.mono ?_
  rintro e W ⟨rfl, h1⟩
  obtain ⟨t, c0, c1, -⟩ := h1.at_.full
  have ha := rsize_any b o p f S z W h1.at_ (by omega)
  have ha' := rsize_any b o p f S z W.drew h1.at_.drew (by omega)
  have F : Hid (∀ v : Int, ∀ q : Nat, { f with left := v } = S' → RT w (((W.setCell ⟨b, o + 1, none⟩ (.int .i64 v)).drew).drewN q) b o p S' S ∧ RT w ((W.setCell ⟨b, o + 1, none⟩ (.int .i64 v)).drewN q) b o p S' S) := by
    rintro v q rfl
    exact ⟨((h1.left hs v).drew).draw q, (h1.left hs v).draw q⟩
  have F2 : Hid (∀ u v : Int, ∀ q : Nat, { f with left := v } = S' → RT w ((((W.setCell ⟨b, o + 1, none⟩ (.int .i64 u)).drew).drewN q).setCell ⟨b, o + 1, none⟩ (.int .i64 v)) b o p S' S ∧ RT w (((W.setCell ⟨b, o + 1, none⟩ (.int .i64 u)).drewN q).setCell ⟨b, o + 1, none⟩ (.int .i64 v)) b o p S' S) := by
    rintro u v q rfl
    exact ⟨(((h1.left hs u).drew).draw q).left hs v, ((h1.left hs u).draw q).left hs v⟩
  clear h1 hf
  generalize win z 0 f.burst = Z at *
  by_cases hlt : f.left - Z < -f.burst
  · have E : max (f.left - Z) (-f.burst) = -f.burst := by omega
    rw [E] at hS
    go_wp2_with fail
    go_region_with (go_at_call 27; (first | refine ha.mono ?_ | refine ha'.mono ?_); rintro e W ⟨rfl, rfl⟩)
    all_goals go_wp2_with fail
    all_goals go_quiet (fail)
    all_goals go_wp2_with fail
    all_goals refine bodyPost_end (results_none rfl _ _ _) rfl ?_
    all_goals first | exact ⟨rfl, (unhide F2 _ _ _ hS).1⟩ | exact ⟨rfl, (unhide F2 _ _ _ hS).2⟩
  · have E : max (f.left - Z) (-f.burst) = f.left - Z := by omega
    rw [E] at hS
    go_wp2_with fail
    go_region_with (go_at_call 27; (first | refine ha.mono ?_ | refine ha'.mono ?_); rintro e W ⟨rfl, rfl⟩)
    all_goals go_wp2_with fail
    all_goals go_quiet (fail)
    all_goals go_wp2_with fail
    all_goals refine bodyPost_end (results_none rfl _ _ _) rfl ?_
    all_goals first | exact ⟨rfl, (unhide F _ _ hS).1⟩ | exact ⟨rfl, (unhide F _ _ hS).2⟩
end Go.Proofs.Ytlfldbagbafjfaa
