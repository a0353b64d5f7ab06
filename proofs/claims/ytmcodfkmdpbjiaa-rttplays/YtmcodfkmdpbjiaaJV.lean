/- RttRestart. -/
import Derived.Test.YtmcodfkmdpbjiaaJU
namespace Go.Proofs.Ytmcodfkmdpbjiaa
open Go.RowKit
set_option linter.unusedVariables false
set_option maxRecDepth 100000
set_option maxHeartbeats 4000000

theorem tq_la {w wr : World} {a b : Nat} {s t : Es} (h : TQ w wr a b s t) : Calls Try.prog 22 #[ptr a] wr fun e w' => e = .returned (.int .i64 (lossF s)) ∧ TQ w w' a b s t ∧ wr.grownBy w' none :=
  (qe_loss h.qa h.oka).mono fun e w' ⟨he, _, g⟩ => ⟨he, h.keep g, g⟩
theorem tq_lb {w wr : World} {a b : Nat} {s t : Es} (h : TQ w wr a b s t) : Calls Try.prog 22 #[ptr b] wr fun e w' => e = .returned (.int .i64 (lossF t)) ∧ TQ w w' a b s t ∧ wr.grownBy w' none :=
  (qe_loss h.qb h.okb).mono fun e w' ⟨he, _, g⟩ => ⟨he, h.keep g, g⟩

theorem restart_eq {s : Es} (ok : s.Ok) (hr : s.restart = false) (now latest delay : Int) :
    (smpF now latest delay { s with restart := true }).least = sp latest ∧ (smpF now latest delay { s with restart := true }).smooth = (smpF now latest 0 s).smooth ∧ (smpF now latest delay { s with restart := true }).var = (smpF now latest 0 s).var ∧ (smpF now latest delay { s with restart := true }).first = (smpF now latest 0 s).first ∧ (smpF now latest 0 (smpF now latest delay { s with restart := true })).least = sp latest := by
  have hl := sp_b latest
  have hd := sp_b delay
  have z : sp 0 = 0 := by decide
  have e1 : adjF (sp latest) (sp latest) (sp delay) = sp latest := by unfold adjF; split <;> omega
  have e2 : ∀ m, adjF m (sp latest) (sp 0) = sp latest := fun m => by rw [z]; unfold adjF; split <;> omega
  have e3 : leastF true (sp latest) s.least = sp latest := by unfold leastF; rw [if_pos (.inl rfl)]
  have e4 : leastF false (sp latest) (sp latest) = sp latest := by unfold leastF; split <;> rfl
  cases hh : s.has with
  | false => simp [smpF, hh, e4]
  | true => simp [smpF, hh, e1, e2, e3, e4]

/-- What RttRestart holds between rounds. -/
structure FI (s : Es) (fi cl : Int) : Prop where
  rs : s.restart = false
  no : s.has = false → fi = -1 ∧ cl = 0
  yes : s.has = true → fi = s.first
  cl : inT cl
theorem fi_step {s : Es} (ok : s.Ok) {fi cl : Int} (h : FI s fi cl) (now latest delay : Int) : FI (smpF now latest delay s) (if fi < 0 then max cl (sp now) else fi) (max cl (sp now)) := by
  have hn := sp_b now
  have hc := h.cl
  refine ⟨smp_rs _ _ _ _, (fun c => by rw [(smp_has now latest delay s).1] at c; exact absurd c (by decide)), (fun _ => ?_), by show 0 ≤ _ ∧ _ ≤ (1125899906842624 : Int); omega⟩
  unfold smpF
  cases hh : s.has with
  | false =>
    obtain ⟨h1, h2⟩ := h.no hh
    subst h1 h2
    rw [if_pos (by decide)]
    show max 0 (sp now) = sp now
    omega
  | true =>
    have h1 := h.yes hh
    have h2 := ok.f
    rw [if_neg (by omega)]
    exact h1
end Go.Proofs.Ytmcodfkmdpbjiaa
