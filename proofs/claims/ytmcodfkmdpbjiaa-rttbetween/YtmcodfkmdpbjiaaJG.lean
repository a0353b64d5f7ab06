/- The document's example. -/
import Derived.Test.YtmcodfkmdpbjiaaJF
namespace Go.Proofs.Ytmcodfkmdpbjiaa
open Go.RowKit
set_option linter.unusedVariables false
set_option maxRecDepth 100000
set_option maxHeartbeats 4000000

theorem es0_ok {i g : Int} (h : fitsF i g) : (es0 i g).Ok := by
  obtain ⟨⟨i1, i2⟩, g1, g2⟩ := h
  refine ⟨⟨g1, g2⟩, ?_, ?_, ?_, ?_, ?_⟩ <;> simp only [es0, inT] <;> omega
theorem smp_ok {s : Es} (h : s.Ok) (now latest delay : Int) : (smpF now latest delay s).Ok := by
  have hl := sp_b latest
  have hd := sp_b delay
  have hn := sp_b now
  have hm := least_in (rs := s.restart) hl h.m
  have ha := adj_in hm hl hd
  unfold smpF
  split
  · exact ⟨h.g, hl, hm, var_in h.v h.s ha, h.f, smo_in h.s ha⟩
  · exact ⟨h.g, hl, hl, by show 0 ≤ sp latest / 2 ∧ sp latest / 2 ≤ 1125899906842624; omega, hn, hl⟩
theorem restart_ok {s : Es} (h : s.Ok) : ({ s with restart := true } : Es).Ok := ⟨h.g, h.l, h.m, h.v, h.f, h.s⟩

/-- PTO at the example's numbers. -/
theorem pto_shown (w : World) : Calls Try.prog 17 #[.int .i64 300000, .int .i64 25000, .int .i64 3, .int .i64 1000000000] w fun e w' => e = .returned (.int .i64 2600000) ∧ w' = w := by
  go_enter Try.func17, Try.ntmps17
  go_wp2
  go_ret
  exact ⟨rfl, rfl⟩

theorem drewN_grown (w : World) (q : Nat) : w.grownBy (w.drewN q) none := ⟨rfl, rfl, rfl, Nat.le_refl _, fun _ _ _ => rfl⟩
end Go.Proofs.Ytmcodfkmdpbjiaa
