/- The two estimators beside one another: what they tell is alike; looks. -/
import Derived.Test.YtmcodfkmdpbjiaaJV
import Derived.Test.YtmcodfkmdpbjiaaJE3
import Derived.Test.YtmcodfkmdpbjiaaJE4
import Derived.Test.YtmcodfkmdpbjiaaJE5
namespace Go.Proofs.Ytmcodfkmdpbjiaa
open Go.RowKit
set_option linter.unusedVariables false
set_option maxRecDepth 100000
set_option maxHeartbeats 4000000

theorem rsample_any (b : Nat) (s : Rs) (now latest delay : Int) (w : World) (h : RB w b s) (ok : s.Ok) :
    Calls Try.prog 15 #[ptr b, .int .i64 now, .int .i64 latest, .int .i64 delay] w fun e w' => e = .returned (.tuple #[]) ∧ RB w' b (rsmpF now latest delay s) ∧ w.grownBy w' (some b) := by
  cases hh : s.has with
  | false => exact rsample_no b s now latest delay w h ok hh
  | true =>
    cases ha : s.anew with
    | true => exact rsample_anew b s now latest delay w h ok hh ha
    | false =>
      by_cases hlt : sp latest < s.least
      · exact rsample_lt b s now latest delay w h ok hh ha hlt
      · exact rsample_ge b s now latest delay w h ok hh ha hlt

/-- The document's estimator for the code's. -/
def lkF (i c : Int) (s : Es) : Rs :=
  if s.has then ⟨i, s.gran, c, s.restart, true, s.latest, s.least, s.smooth, s.var, s.first⟩ else ⟨i, s.gran, c, s.restart, false, 0, 0, 0, 0, 0⟩
/-- What links the two. -/
structure Lk (i c : Int) (s : Es) : Prop where
  ok : s.Ok
  hi : 1 ≤ i ∧ i ≤ 60000000
  hc : inT c
  no : s.has = false → s.smooth = i ∧ s.var = i / 2 ∧ s.latest = 0 ∧ c = 0
theorem lk_ok {i c : Int} {s : Es} (h : Lk i c s) : (lkF i c s).Ok := by
  have z : inT 0 := by decide
  unfold lkF
  split
  · exact ⟨h.ok.g, h.hi, h.hc, h.ok.l, h.ok.m, h.ok.v, h.ok.f, h.ok.s⟩
  · exact ⟨h.ok.g, h.hi, h.hc, z, z, z, z, z⟩
theorem lk_start {i g : Int} (h : fitsF i g) : Lk i 0 (es0 i g) := ⟨es0_ok h, h.1, by decide, fun _ => ⟨rfl, rfl, rfl, rfl⟩⟩
theorem lk_smp {i c : Int} {s : Es} (h : Lk i c s) (now l d : Int) : Lk i (max c (sp now)) (smpF now l d s) ∧ rsmpF now l d (lkF i c s) = lkF i (max c (sp now)) (smpF now l d s) := by
  have hn := sp_b now
  have hc := h.hc
  refine ⟨⟨smp_ok h.ok now l d, h.hi, by show 0 ≤ _ ∧ _ ≤ (1125899906842624 : Int); omega, fun c => ?_⟩, ?_⟩
  · rw [(smp_has now l d s).1] at c
    exact absurd c (by decide)
  · cases hh : s.has with
    | true => simp [rsmpF, lkF, smpF, hh]
    | false =>
      have hcz := (h.no hh).2.2.2
      have : max c (sp now) = sp now := by omega
      simp [rsmpF, lkF, smpF, hh, this]
theorem lk_restart {i c : Int} {s : Es} (h : Lk i c s) : Lk i c { s with restart := true } ∧ ({ lkF i c s with anew := true } : Rs) = lkF i c { s with restart := true } := by
  refine ⟨⟨restart_ok h.ok, h.hi, h.hc, h.no⟩, ?_⟩
  cases hh : s.has with
  | true => simp [lkF, hh]
  | false => simp [lkF, hh]
theorem lk_base {i c : Int} {s : Es} (h : Lk i c s) : rbaseF (lkF i c s) = baseF s := by
  cases hh : s.has with
  | true => simp [rbaseF, baseF, lkF, hh]
  | false =>
    obtain ⟨h1, h2, h3, h4⟩ := h.no hh
    simp [rbaseF, baseF, lkF, hh, h1, h2]
theorem lk_loss {i c : Int} {s : Es} (h : Lk i c s) : rlossF (lkF i c s) = lossF s := by
  have hi := h.hi
  cases hh : s.has with
  | true => simp [rlossF, lossF, lkF, hh]
  | false =>
    obtain ⟨h1, h2, h3, h4⟩ := h.no hh
    have : max i 0 = i := by omega
    simp [rlossF, lossF, lkF, hh, h1, h3, this]

theorem RB.grown {w W : World} {b : Nat} {s : Rs} (h : RB w b s) (g : w.grownBy W none) : RB W b s := Blk.grown h g

theorem looks_any (a r : Nat) (i c : Int) (s : Es) (w : World) (ha : EB w a s) (hr : RB w r (lkF i c s)) (lk : Lk i c s) :
    Calls Try.prog 16 #[ptr a, ptr r] w fun e w' => e = .returned (.bool true) ∧ w.grownBy w' none := by
  have V := view_any a s w ha
  have B1 := fun X (g : w.grownBy X none) => base_any a s X (ha.grown g) lk.ok
  have L1 := fun X (g : w.grownBy X none) => loss_any a s X (ha.grown g) lk.ok
  have B2 := fun X (g : w.grownBy X none) => rbase_any r (lkF i c s) X (hr.grown g) (lk_ok lk)
  have L2 := fun X (g : w.grownBy X none) => rloss_any r (lkF i c s) X (hr.grown g) (lk_ok lk)
  rw [lk_base lk] at B2
  rw [lk_loss lk] at L2
  generalize baseF s = BA at *
  generalize lossF s = LO at *
  obtain ⟨h0, l0, m0, s0, v0, f0, hv, hk⟩ : ∃ h l m x v f, viewF s = rtc h l m x v f ∧ ∀ X, RB X r (lkF i c s) → X.cell? ⟨r, 4, none⟩ = some (.bool h) ∧ X.cell? ⟨r, 5, none⟩ = some (.int .i64 l) ∧ X.cell? ⟨r, 6, none⟩ = some (.int .i64 m) ∧ X.cell? ⟨r, 7, none⟩ = some (.int .i64 x) ∧ X.cell? ⟨r, 8, none⟩ = some (.int .i64 v) ∧ X.cell? ⟨r, 9, none⟩ = some (.int .i64 f) := by
    unfold viewF lkF
    split
    · exact ⟨_, _, _, _, _, _, rfl, fun X hX => ⟨hX.cell 4 _ rfl, hX.cell 5 _ rfl, hX.cell 6 _ rfl, hX.cell 7 _ rfl, hX.cell 8 _ rfl, hX.cell 9 _ rfl⟩⟩
    · exact ⟨false, 0, 0, 0, 0, 0, rfl, fun X hX => ⟨hX.cell 4 _ rfl, hX.cell 5 _ rfl, hX.cell 6 _ rfl, hX.cell 7 _ rfl, hX.cell 8 _ rfl, hX.cell 9 _ rfl⟩⟩
  rw [hv] at V
  unfold rtc at V
  go_enter Try.func16, Try.ntmps16
  go_wp2_with fail
  refine V.mono ?_
  rintro e W1 ⟨rfl, g1⟩
  have g2 := g1.trans (World.grownBy_alloc W1 (.cells #[.bool h0, .int .i64 l0, .int .i64 m0, .int .i64 s0, .int .i64 v0, .int .i64 f0] 30) none)
  obtain ⟨y0, y1, y2, y3, y4, y5⟩ := hk _ (hr.grown g2)
  have D := Blk.new W1 #[.bool h0, .int .i64 l0, .int .i64 m0, .int .i64 s0, .int .i64 v0, .int .i64 f0] 30
  obtain ⟨z0, z1, z2, z3, z4, z5⟩ := D.sixes
  have q1 := fun n => B1 _ (grown_drewN (q := n) g2)
  have q2 := fun n => B2 _ (grown_drewN (q := n) g2)
  have q3 := fun n => L1 _ (grown_drewN (q := n) g2)
  have q4 := fun n => L2 _ (grown_drewN (q := n) g2)
  have G := hide g2
  clear V B1 B2 L1 L2 g1 g2 D hk hv ha hr
  go_wp2_with fail
  generalize W1.heap.size = d at *
  generalize W1.alloc _ = W2 at *
  go_quiet (first | exact Calls.quiet_of (q1 _) | exact Calls.quiet_of (q2 _) | exact Calls.quiet_of (q3 _) | exact Calls.quiet_of (q4 _))
  go_wp2_with fail
  go_ret
  exact ⟨rfl, grown_drewN (unhide G)⟩
end Go.Proofs.Ytmcodfkmdpbjiaa
