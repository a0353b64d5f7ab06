/- Two estimators beside one another. -/
import Derived.Test.YtmcodfkmdpbjiaaJI
import Derived.LoopIn
namespace Go.Proofs.Ytmcodfkmdpbjiaa
open Go.RowKit
set_option linter.unusedVariables false
set_option maxRecDepth 100000
set_option maxHeartbeats 4000000

structure TQ (w wr : World) (a b : Nat) (s t : Es) : Prop where
  qa : QE w wr a s
  qb : QE w wr b t
  oka : s.Ok
  okb : t.Ok
  ne : a ≠ b
theorem TQ.keep {w wr wr' : World} {a b : Nat} {s t : Es} (h : TQ w wr a b s t) (g : wr.grownBy wr' none) : TQ w wr' a b s t := ⟨h.qa.keep g, h.qb.keep g, h.oka, h.okb, h.ne⟩
theorem QE.far {w wr wr' : World} {b c : Nat} {s : Es} (h : QE w wr b s) (g : wr.grownBy wr' (some c)) (hn : b ≠ c) (hc : w.heap.size ≤ c) : QE w wr' b s := ⟨Blk.far h.at_ g hn, h.new, grown_new h.grown g hc⟩
theorem TQ.far {w wr wr' : World} {a b c : Nat} {s t : Es} (h : TQ w wr a b s t) (g : wr.grownBy wr' (some c)) (ha : a ≠ c) (hb : b ≠ c) (hc : w.heap.size ≤ c) : TQ w wr' a b s t := ⟨h.qa.far g ha hc, h.qb.far g hb hc, h.oka, h.okb, h.ne⟩
theorem tq_a {w wr : World} {a b : Nat} {s t : Es} (h : TQ w wr a b s t) (now latest delay : Int) : Calls Try.prog 14 #[ptr a, .int .i64 now, .int .i64 latest, .int .i64 delay] wr fun e w' => e = .returned (.tuple #[]) ∧ TQ w w' a b (smpF now latest delay s) t ∧ wr.grownBy w' (some a) :=
  (qe_sample h.qa h.oka now latest delay).mono fun e w' ⟨he, h1, g1⟩ => ⟨he, ⟨h1, h.qb.far g1 h.ne.symm h.qa.new, smp_ok h.oka now latest delay, h.okb, h.ne⟩, g1⟩
theorem tq_b {w wr : World} {a b : Nat} {s t : Es} (h : TQ w wr a b s t) (now latest delay : Int) : Calls Try.prog 14 #[ptr b, .int .i64 now, .int .i64 latest, .int .i64 delay] wr fun e w' => e = .returned (.tuple #[]) ∧ TQ w w' a b s (smpF now latest delay t) ∧ wr.grownBy w' (some b) :=
  (qe_sample h.qb h.okb now latest delay).mono fun e w' ⟨he, h1, g1⟩ => ⟨he, ⟨h.qa.far g1 h.ne h.qb.new, h1, h.oka, smp_ok h.okb now latest delay, h.ne⟩, g1⟩
theorem tq_ra {w wr : World} {a b : Nat} {s t : Es} (h : TQ w wr a b s t) : Calls Try.prog 13 #[ptr a] wr fun e w' => e = .returned (.tuple #[]) ∧ TQ w w' a b { s with restart := true } t ∧ wr.grownBy w' (some a) :=
  (qe_restart h.qa).mono fun e w' ⟨he, h1, g1⟩ => ⟨he, ⟨h1, h.qb.far g1 h.ne.symm h.qa.new, restart_ok h.oka, h.okb, h.ne⟩, g1⟩
theorem tq_rb {w wr : World} {a b : Nat} {s t : Es} (h : TQ w wr a b s t) : Calls Try.prog 13 #[ptr b] wr fun e w' => e = .returned (.tuple #[]) ∧ TQ w w' a b s { t with restart := true } ∧ wr.grownBy w' (some b) :=
  (qe_restart h.qb).mono fun e w' ⟨he, h1, g1⟩ => ⟨he, ⟨h.qa.far g1 h.ne h.qb.new, h1, h.oka, restart_ok h.okb, h.ne⟩, g1⟩
theorem tq_va {w wr : World} {a b : Nat} {s t : Es} (h : TQ w wr a b s t) : Calls Try.prog 20 #[ptr a] wr fun e w' => e = .returned (.agg (viewF s)) ∧ TQ w w' a b s t ∧ wr.grownBy w' none :=
  (qe_view h.qa).mono fun e w' ⟨he, _, g⟩ => ⟨he, h.keep g, g⟩
theorem tq_vb {w wr : World} {a b : Nat} {s t : Es} (h : TQ w wr a b s t) : Calls Try.prog 20 #[ptr b] wr fun e w' => e = .returned (.agg (viewF t)) ∧ TQ w w' a b s t ∧ wr.grownBy w' none :=
  (qe_view h.qb).mono fun e w' ⟨he, _, g⟩ => ⟨he, h.keep g, g⟩
theorem tq_ba {w wr : World} {a b : Nat} {s t : Es} (h : TQ w wr a b s t) : Calls Try.prog 23 #[ptr a] wr fun e w' => e = .returned (.int .i64 (baseF s)) ∧ TQ w w' a b s t ∧ wr.grownBy w' none :=
  (qe_base h.qa h.oka).mono fun e w' ⟨he, _, g⟩ => ⟨he, h.keep g, g⟩
theorem tq_bb {w wr : World} {a b : Nat} {s t : Es} (h : TQ w wr a b s t) : Calls Try.prog 23 #[ptr b] wr fun e w' => e = .returned (.int .i64 (baseF t)) ∧ TQ w w' a b s t ∧ wr.grownBy w' none :=
  (qe_base h.qb h.okb).mono fun e w' ⟨he, _, g⟩ => ⟨he, h.keep g, g⟩

theorem smp_rs (now l d : Int) (s : Es) : (smpF now l d s).restart = false := by unfold smpF; split <;> rfl
theorem smp_has (now l d : Int) (s : Es) : (smpF now l d s).has = true ∧ (smpF now l d s).latest = sp l := by unfold smpF; split <;> exact ⟨rfl, rfl⟩

theorem Blk.sixes {W : World} {g : Nat} {t : TypeId} {v0 v1 v2 v3 v4 v5 : Value} (h : Blk W g #[v0, v1, v2, v3, v4, v5] t) : W.cell? ⟨g, 0, none⟩ = some v0 ∧ W.cell? ⟨g, 1, none⟩ = some v1 ∧ W.cell? ⟨g, 2, none⟩ = some v2 ∧ W.cell? ⟨g, 3, none⟩ = some v3 ∧ W.cell? ⟨g, 4, none⟩ = some v4 ∧ W.cell? ⟨g, 5, none⟩ = some v5 := ⟨h.cell 0 _ rfl, h.cell 1 _ rfl, h.cell 2 _ rfl, h.cell 3 _ rfl, h.cell 4 _ rfl, h.cell 5 _ rfl⟩
theorem grown_six {w W : World} {b : Nat} (g : w.grownBy W (some b)) (v0 v1 v2 v3 v4 v5 : Value) :
    w.grownBy ((((((W.setCell ⟨b, 0, none⟩ v0).setCell ⟨b, 1, none⟩ v1).setCell ⟨b, 2, none⟩ v2).setCell ⟨b, 3, none⟩ v3).setCell ⟨b, 4, none⟩ v4).setCell ⟨b, 5, none⟩ v5) (some b) := grown_at (grown_at (grown_at (grown_at (grown_at (grown_at g 0 v0) 1 v1) 2 v2) 3 v3) 4 v4) 5 v5
end Go.Proofs.Ytmcodfkmdpbjiaa
