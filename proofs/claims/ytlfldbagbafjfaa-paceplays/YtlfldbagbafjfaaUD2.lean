/- The program's functions: Spend. -/
import Derived.Test.YtlfldbagbafjfaaUC
namespace Go.Proofs.Ytlfldbagbafjfaa
open Go.RowKit
set_option linter.unusedVariables false
set_option maxRecDepth 100000
set_option maxHeartbeats 2000000

theorem spend_any (b : Nat) (s : Ps) (x z : Int) (w : World) (h : PB w b s) (ok : s.Ok) : Calls Try.prog 17 #[ptr b, .int .i64 x, .int .i64 z] w fun e w' => e = .returned (.tuple #[]) ∧ PB w' b (spendF x z s) ∧ w.grownBy w' (some b) := by
  have hf := fill_any b s x w h ok
  have fk := fill_ok ok x
  have fb := fill_burst x s
  unfold spendF
  rw [← fb]
  clear h ok fb
  generalize fillF x s = f at *
  have bb := fk.b
  have bl := fk.l
  obtain ⟨a1, a2⟩ := win_b (x := z) (show (0 : Int) ≤ f.burst by omega)
  have k1 : IntKind.i64.wrap (f.left - win z 0 f.burst) = f.left - win z 0 f.burst := by rw [IntKind.wrap_i64]; omega
  have k2 : IntKind.i64.wrap (-f.burst) = -f.burst := by rw [IntKind.wrap_i64]; omega
  generalize hS : ({ f with left := max (f.left - win z 0 f.burst) (-f.burst) } : Ps) = S
  go_enter Try.func17, Try.ntmps17
  go_wp2_with fail
  refine hf.mono ?_
  rintro e W ⟨rfl, h1, g1⟩
  obtain ⟨t, c0, -, c2, -, -, -⟩ := h1.full
  have ha := amount_any b f z W h1
  have F : Hid (PB ((W.setCell ⟨b, 2, none⟩ (.int .i64 (max (f.left - win z 0 f.burst) (-f.burst)))).drew) b S ∧ w.grownBy ((W.setCell ⟨b, 2, none⟩ (.int .i64 (max (f.left - win z 0 f.burst) (-f.burst)))).drew) (some b)) :=
    ⟨hS ▸ (Blk.setC h1 2 _).drew, drewS (grown_at g1 2 _)⟩
  have ha' : Calls Try.prog 26 #[ptr b, .int .i64 z] W.drew fun e w' => e = .returned (.int .i64 (win z 0 f.burst)) ∧ w' = W.drew := amount_any b f z W.drew h1.drew
  clear h1 g1 hf hS
  generalize win z 0 f.burst = Z at *
  by_cases hlt : f.left - Z < -f.burst
  · have E : max (f.left - Z) (-f.burst) = -f.burst := by omega
    rw [E] at F
    go_wp2_with fail
    go_region_with (go_at_call 26; (first | refine ha.mono ?_ | refine ha'.mono ?_); rintro e W ⟨rfl, rfl⟩)
    all_goals go_wp2_with fail
    all_goals refine bodyPost_end (results_none rfl _ _ _) rfl ?_
    all_goals exact ⟨rfl, unhide F⟩
  · have E : max (f.left - Z) (-f.burst) = f.left - Z := by omega
    rw [E] at F
    go_wp2_with fail
    go_region_with (go_at_call 26; (first | refine ha.mono ?_ | refine ha'.mono ?_); rintro e W ⟨rfl, rfl⟩)
    all_goals go_wp2_with fail
    all_goals refine bodyPost_end (results_none rfl _ _ _) rfl ?_
    all_goals exact ⟨rfl, unhide F⟩

end Go.Proofs.Ytlfldbagbafjfaa
