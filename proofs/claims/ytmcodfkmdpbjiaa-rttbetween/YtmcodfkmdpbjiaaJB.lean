/- An estimator in memory: View, Base, LossDelay, Restart, first, New. -/
import Derived.Test.YtmcodfkmdpbjiaaJA
namespace Go.Proofs.Ytmcodfkmdpbjiaa
open Go.RowKit
set_option linter.unusedVariables false
set_option maxRecDepth 100000
set_option maxHeartbeats 1000000

/-- What an estimator knows. -/
structure Es where
  gran : Int
  has : Bool
  latest : Int
  least : Int
  smooth : Int
  var : Int
  first : Int
  restart : Bool
def esc (s : Es) : Array Value := #[.int .i64 s.gran, .bool s.has, .int .i64 s.latest, .int .i64 s.least, .int .i64 s.smooth, .int .i64 s.var, .int .i64 s.first, .bool s.restart]
def rtc (h : Bool) (l m s v f : Int) : Array Value := #[.bool h, .int .i64 l, .int .i64 m, .int .i64 s, .int .i64 v, .int .i64 f]
abbrev zrt : Array Value := #[.bool false, .int .i64 0, .int .i64 0, .int .i64 0, .int .i64 0, .int .i64 0]
def EB (w : World) (b : Nat) (s : Es) : Prop := Blk w b (esc s) 54
/-- What View tells. -/
def viewF (s : Es) : Array Value := if s.has then rtc true s.latest s.least s.smooth s.var s.first else zrt

structure Es.Ok (s : Es) : Prop where
  g : 1 ≤ s.gran ∧ s.gran ≤ 1000000
  l : inT s.latest
  m : inT s.least
  v : inT s.var
  f : inT s.first
  s : inT s.smooth

theorem Try.sizeR : (Try.prog.info? 30).map (·.size) = some 6 := by kernel_rfl
theorem Try.sizeE : (Try.prog.info? 54).map (·.size) = some 8 := by kernel_rfl

theorem EB.cells {w : World} {b : Nat} {s : Es} (h : EB w b s) : w.cell? ⟨b, 0, none⟩ = some (.int .i64 s.gran) ∧ w.cell? ⟨b, 1, none⟩ = some (.bool s.has) ∧ w.cell? ⟨b, 2, none⟩ = some (.int .i64 s.latest) ∧ w.cell? ⟨b, 3, none⟩ = some (.int .i64 s.least) ∧ w.cell? ⟨b, 4, none⟩ = some (.int .i64 s.smooth) ∧ w.cell? ⟨b, 5, none⟩ = some (.int .i64 s.var) ∧ w.cell? ⟨b, 6, none⟩ = some (.int .i64 s.first) ∧ w.cell? ⟨b, 7, none⟩ = some (.bool s.restart) :=
  ⟨h.cell 0 _ rfl, h.cell 1 _ rfl, h.cell 2 _ rfl, h.cell 3 _ rfl, h.cell 4 _ rfl, h.cell 5 _ rfl, h.cell 6 _ rfl, h.cell 7 _ rfl⟩
theorem EB.thaws {w : World} {b : Nat} {s : Es} (h : EB w b s) : ∀ j, w.frozen? ⟨b, j, none⟩ = false := fun j => h.thaw j

theorem Blk.set6 {w : World} {b : Nat} {t : TypeId} {o0 o1 o2 o3 o4 o5 : Value} (h : Blk w b #[o0, o1, o2, o3, o4, o5] t) (v0 v1 v2 v3 v4 v5 : Value) :
    Blk ((((((w.setCell ⟨b, 0, none⟩ v0).setCell ⟨b, 1, none⟩ v1).setCell ⟨b, 2, none⟩ v2).setCell ⟨b, 3, none⟩ v3).setCell ⟨b, 4, none⟩ v4).setCell ⟨b, 5, none⟩ v5) b #[v0, v1, v2, v3, v4, v5] t := (((((h.setC 0 v0).setC 1 v1).setC 2 v2).setC 3 v3).setC 4 v4).setC 5 v5
theorem grown_set6 {w W : World} (g : w.grownBy W none) (b : Nat) (hb : w.heap.size ≤ b) (v0 v1 v2 v3 v4 v5 : Value) :
    w.grownBy ((((((W.setCell ⟨b, 0, none⟩ v0).setCell ⟨b, 1, none⟩ v1).setCell ⟨b, 2, none⟩ v2).setCell ⟨b, 3, none⟩ v3).setCell ⟨b, 4, none⟩ v4).setCell ⟨b, 5, none⟩ v5) none := grown_set (grown_set (grown_set (grown_set (grown_set (grown_set g b 0 v0 hb) b 1 v1 hb) b 2 v2 hb) b 3 v3 hb) b 4 v4 hb) b 5 v5 hb

theorem restart_any (b : Nat) (s : Es) (w : World) (h : EB w b s) : Calls Try.prog 13 #[ptr b] w fun e w' => e = .returned (.tuple #[]) ∧ EB w' b { s with restart := true } ∧ w.grownBy w' (some b) := by
  have c7 := h.cells.2.2.2.2.2.2.2
  have t := h.thaws
  have F := hide (And.intro (show EB (w.setCell ⟨b, 7, none⟩ (.bool true)) b { s with restart := true } from h.setC 7 (.bool true)) (grown_at (World.grownBy.refl w (some b)) 7 (.bool true)))
  clear h
  go_enter Try.func13, Try.ntmps13
  go_wp2
  refine bodyPost_end (results_none rfl _ _ _) rfl ?_
  exact ⟨rfl, (unhide F).1, (unhide F).2⟩

theorem view_any (b : Nat) (s : Es) (w : World) (h : EB w b s) : Calls Try.prog 20 #[ptr b] w fun e w' => e = .returned (.agg (viewF s)) ∧ w.grownBy w' none := by
  have ga := World.grownBy_alloc w (.cells zrt 30) none
  have h0 : EB (w.alloc (.cells zrt 30)) b s := h.alloc _
  obtain ⟨-, c1, c2, c3, c4, c5, c6, -⟩ := h0.cells
  cases hh : s.has with
  | false =>
    have E : Hid (viewF s = zrt) := by show _ = _; unfold viewF; rw [hh]; rfl
    have F := hide (And.intro (Blk.new w zrt 30) ga)
    rw [hh] at c1
    clear h h0 ga hh
    go_enter Try.func20, Try.ntmps20
    go_wp2
    refine bodyPost_ret (results_cell_row rfl _ _ w.heap.size 30 _ (0, 0) _ rfl (unhide F).1 Try.underlying30 rfl Try.sizeR) rfl ?_
    exact ⟨by rw [unhide E], (unhide F).2⟩
  | true =>
    have E : Hid (viewF s = rtc true s.latest s.least s.smooth s.var s.first) := by show _ = _; unfold viewF; rw [hh]; rfl
    have F := hide (And.intro (Blk.new w (rtc true s.latest s.least s.smooth s.var s.first) 30) (World.grownBy_alloc w (.cells (rtc true s.latest s.least s.smooth s.var s.first) 30) none))
    rw [hh] at c1
    clear h h0 ga hh
    generalize s.latest = l at *
    generalize s.least = m at *
    generalize s.smooth = sm at *
    generalize s.var = v at *
    generalize s.first = f at *
    go_enter Try.func20, Try.ntmps20
    go_wp2
    refine bodyPost_ret (results_cell_row rfl _ _ w.heap.size 30 _ (0, 0) _ rfl (unhide F).1 Try.underlying30 rfl Try.sizeR) rfl ?_
    exact ⟨by rw [unhide E], (unhide F).2⟩

def baseF (s : Es) : Int := s.smooth + max (4 * s.var) s.gran
def lossF (s : Es) : Int := max (9 * max s.smooth s.latest / 8) s.gran

theorem base_any (b : Nat) (s : Es) (w : World) (h : EB w b s) (ok : s.Ok) : Calls Try.prog 23 #[ptr b] w fun e w' => e = .returned (.int .i64 (baseF s)) ∧ ∃ q, w' = w.drewN q := by
  obtain ⟨c0, -, -, -, c4, c5, -, -⟩ := h.cells
  obtain ⟨g1, g2⟩ := ok.g
  obtain ⟨s1, s2⟩ := ok.s
  obtain ⟨v1, v2⟩ := ok.v
  have E : Hid (∀ y, y = s.smooth + max (4 * s.var) s.gran → baseF s = y) := by rintro y rfl; rfl
  clear h ok
  generalize s.gran = g at *
  generalize s.smooth = sm at *
  generalize s.var = v at *
  go_enter Try.func23, Try.ntmps23
  go_wp2
  go_quiet (fail)
  all_goals go_wp2
  all_goals go_ret
  all_goals exact ⟨ret_eq (E _ (by omega)), _, rfl⟩

theorem loss_any (b : Nat) (s : Es) (w : World) (h : EB w b s) (ok : s.Ok) : Calls Try.prog 22 #[ptr b] w fun e w' => e = .returned (.int .i64 (lossF s)) ∧ ∃ q, w' = w.drewN q := by
  obtain ⟨c0, -, c2, -, c4, -, -, -⟩ := h.cells
  obtain ⟨g1, g2⟩ := ok.g
  obtain ⟨s1, s2⟩ := ok.s
  obtain ⟨l1, l2⟩ := ok.l
  have E : Hid (∀ y, y = max (9 * max s.smooth s.latest / 8) s.gran → lossF s = y) := by rintro y rfl; rfl
  clear h ok
  generalize s.gran = g at *
  generalize s.smooth = sm at *
  generalize s.latest = l at *
  go_enter Try.func22, Try.ntmps22
  go_wp2
  go_quiet (fail)
  all_goals go_wp2
  all_goals go_ret
  all_goals exact ⟨ret_eq (E _ (by omega)), _, rfl⟩
end Go.Proofs.Ytmcodfkmdpbjiaa
