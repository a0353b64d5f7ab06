/- The document's estimator in memory. -/
import Derived.Test.YtmcodfkmdpbjiaaJC
namespace Go.Proofs.Ytmcodfkmdpbjiaa
open Go.RowKit
set_option linter.unusedVariables false
set_option maxRecDepth 100000
set_option maxHeartbeats 4000000

structure Rs where
  init : Int
  gran : Int
  clock : Int
  anew : Bool
  has : Bool
  latest : Int
  least : Int
  smooth : Int
  var : Int
  first : Int
def rsc (s : Rs) : Array Value := #[.int .i64 s.init, .int .i64 s.gran, .int .i64 s.clock, .bool s.anew, .bool s.has, .int .i64 s.latest, .int .i64 s.least, .int .i64 s.smooth, .int .i64 s.var, .int .i64 s.first]
def RB (w : World) (b : Nat) (s : Rs) : Prop := Blk w b (rsc s) 32
theorem RB.full {w : World} {b : Nat} {s : Rs} (h : RB w b s) : (∀ j, w.frozen? ⟨b, j, none⟩ = false) ∧ w.cell? ⟨b, 0, none⟩ = some (.int .i64 s.init) ∧ w.cell? ⟨b, 1, none⟩ = some (.int .i64 s.gran) ∧ w.cell? ⟨b, 2, none⟩ = some (.int .i64 s.clock) ∧ w.cell? ⟨b, 3, none⟩ = some (.bool s.anew) ∧ w.cell? ⟨b, 4, none⟩ = some (.bool s.has) ∧ w.cell? ⟨b, 5, none⟩ = some (.int .i64 s.latest) ∧ w.cell? ⟨b, 6, none⟩ = some (.int .i64 s.least) ∧ w.cell? ⟨b, 7, none⟩ = some (.int .i64 s.smooth) ∧ w.cell? ⟨b, 8, none⟩ = some (.int .i64 s.var) ∧ w.cell? ⟨b, 9, none⟩ = some (.int .i64 s.first) :=
  ⟨fun j => h.thaw j, h.cell 0 _ rfl, h.cell 1 _ rfl, h.cell 2 _ rfl, h.cell 3 _ rfl, h.cell 4 _ rfl, h.cell 5 _ rfl, h.cell 6 _ rfl, h.cell 7 _ rfl, h.cell 8 _ rfl, h.cell 9 _ rfl⟩

structure Rs.Ok (s : Rs) : Prop where
  g : 1 ≤ s.gran ∧ s.gran ≤ 1000000
  i : 1 ≤ s.init ∧ s.init ≤ 60000000
  c : inT s.clock
  l : inT s.latest
  m : inT s.least
  v : inT s.var
  f : inT s.first
  s : inT s.smooth

def rbaseF (s : Rs) : Int := (if s.has then s.smooth else s.init) + max (4 * (if s.has then s.var else s.init / 2)) s.gran
def rlossF (s : Rs) : Int := max (9 * (if s.has then max s.smooth s.latest else s.init) / 8) s.gran

theorem rbase_any (b : Nat) (s : Rs) (w : World) (h : RB w b s) (ok : s.Ok) : Calls Try.prog 27 #[ptr b] w fun e w' => e = .returned (.int .i64 (rbaseF s)) ∧ ∃ q, w' = w.drewN q := by
  obtain ⟨t, c0, c1, c2, c3, c4, c5, c6, c7, c8, c9⟩ := h.full
  obtain ⟨g1, g2⟩ := ok.g
  obtain ⟨i1, i2⟩ := ok.i
  obtain ⟨s1, s2⟩ := ok.s
  obtain ⟨v1, v2⟩ := ok.v
  cases hh : s.has with
  | false =>
    have E : Hid (∀ y, y = s.init + max (4 * (s.init / 2)) s.gran → rbaseF s = y) := by rintro y rfl; show _ = _; unfold rbaseF; simp only [hh]; rfl
    rw [hh] at c4
    clear h ok hh
    generalize s.gran = g at *
    generalize s.init = i at *
    go_enter Try.func27, Try.ntmps27
    go_wp2
    all_goals go_ret
    all_goals exact ⟨ret_eq (E _ (by omega)), 0, rfl⟩
  | true =>
    have E : Hid (∀ y, y = s.smooth + max (4 * s.var) s.gran → rbaseF s = y) := by rintro y rfl; show _ = _; unfold rbaseF; simp only [hh]; rfl
    rw [hh] at c4
    clear h ok hh
    generalize s.gran = g at *
    generalize s.smooth = i at *
    generalize s.var = v at *
    go_enter Try.func27, Try.ntmps27
    go_wp2
    all_goals go_ret
    all_goals exact ⟨ret_eq (E _ (by omega)), 0, rfl⟩

theorem rloss_any (b : Nat) (s : Rs) (w : World) (h : RB w b s) (ok : s.Ok) : Calls Try.prog 28 #[ptr b] w fun e w' => e = .returned (.int .i64 (rlossF s)) ∧ ∃ q, w' = w.drewN q := by
  obtain ⟨t, c0, c1, c2, c3, c4, c5, c6, c7, c8, c9⟩ := h.full
  obtain ⟨g1, g2⟩ := ok.g
  obtain ⟨i1, i2⟩ := ok.i
  obtain ⟨s1, s2⟩ := ok.s
  obtain ⟨l1, l2⟩ := ok.l
  cases hh : s.has with
  | false =>
    have E : Hid (∀ y, y = max (9 * s.init / 8) s.gran → rlossF s = y) := by rintro y rfl; show _ = _; unfold rlossF; simp only [hh]; rfl
    rw [hh] at c4
    clear h ok hh
    generalize s.gran = g at *
    generalize s.init = i at *
    generalize s.smooth = sm at *
    generalize s.latest = l at *
    go_enter Try.func28, Try.ntmps28
    go_wp2
    go_quiet (fail)
    all_goals go_wp2
    all_goals go_ret
    all_goals exact ⟨ret_eq (E _ (by omega)), _, rfl⟩
  | true =>
    have E : Hid (∀ y, y = max (9 * max s.smooth s.latest / 8) s.gran → rlossF s = y) := by rintro y rfl; show _ = _; unfold rlossF; simp only [hh]; rfl
    rw [hh] at c4
    clear h ok hh
    generalize s.gran = g at *
    generalize s.smooth = sm at *
    generalize s.latest = l at *
    go_enter Try.func28, Try.ntmps28
    go_wp2
    go_quiet (fail)
    all_goals go_wp2
    all_goals go_ret
    all_goals exact ⟨ret_eq (E _ (by omega)), _, rfl⟩
end Go.Proofs.Ytmcodfkmdpbjiaa
