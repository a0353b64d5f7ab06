/- Ack. -/
import Derived.Test.YtielpjdjlmkejaaZN1
import Derived.Test.YtielpjdjlmkejaaZN2
import Derived.Test.YtielpjdjlmkejaaZN3
namespace Go.Proofs.Ytielpjdjlmkejaa
open Go.RowKit Go.Shelf
set_option linter.unusedVariables false
set_option maxRecDepth 100000

theorem ack_some (b bs : Nat) (v : Value) (s : Sn) (now ex : Int) (w : World) (h : SN w b bs v s) (hL : s.L ≠ []) (hok : Ok s.L) (hcm : 0 ≤ s.came ∧ s.came ≤ (goF now s).clock ∧ (goF now s).clock ≤ 1125899906842624) :
    Calls Try.prog 14 #[ptr b, .int .i64 now, .int .i64 ex] w fun e w' => ∃ a c, e = .returned (.tuple #[.agg (frA (.slice a s.L.length c) (dlyF ((goF now s).clock - s.came) ex) (mrkF s.c0 s.c2) s.c0 s.c2), .bool true]) ∧ Row w' (.slice a s.L.length c) s.L.reverse ∧ Fresh w (.slice a s.L.length c) ∧ To b bs v w (ackS now s) w' := by
  by_cases h1 : ex < 0
  · exact ack_1 b bs v s now ex h1 w h hL hok hcm
  · by_cases h2 : ex ≤ 20
    · exact ack_2 b bs v s now ex (by omega) h2 w h hL hok hcm
    · exact ack_3 b bs v s now ex (by omega) (by omega) w h hL hok hcm
end Go.Proofs.Ytielpjdjlmkejaa
