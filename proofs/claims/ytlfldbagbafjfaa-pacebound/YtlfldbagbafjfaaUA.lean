/- A pacer: what it knows, how it fills; a pacer in memory. -/
import Derived.Test.YtlfldbagbafjfaaUW
namespace Go.Proofs.Ytlfldbagbafjfaa
open Go.RowKit
set_option linter.unusedVariables false
set_option maxRecDepth 100000
set_option maxHeartbeats 1000000

abbrev ptr (b : Nat) : Value := .pointer (some ⟨b, 0, none⟩)
abbrev inT (x : Int) : Prop := 0 ≤ x ∧ x ≤ 1125899906842624
/-- A number, taken into its bounds. -/
def win (x a b : Int) : Int := min (max x a) b
theorem win_b {x a b : Int} (h : a ≤ b) : a ≤ win x a b ∧ win x a b ≤ b := by unfold win; omega

theorem ret_eq {x y : Int} (h : Hid (x = y)) : Ending.returned (.int .i64 y) = Ending.returned (.int .i64 x) := by rw [unhide h]
theorem ret_beq' {x y : Bool} (h : Hid (x = y)) : Ending.returned (.bool y) = Ending.returned (.bool x) := by rw [unhide h]

/-- What a pacer knows. -/
structure Ps where
  burst : Int
  clock : Int
  left : Int
  rest : Int
  rise : Int
  span : Int
def pcc (s : Ps) : Array Value := #[.int .i64 s.burst, .int .i64 s.clock, .int .i64 s.left, .int .i64 s.rest, .int .i64 s.rise, .int .i64 s.span]
/-- The document's. -/
def rcc (s : Ps) : Array Value := #[.int .i64 s.burst, .int .i64 s.left, .int .i64 s.rest, .int .i64 s.rise, .int .i64 s.span, .int .i64 s.clock]
/-- The program's, in memory. -/
def PB (w : World) (b : Nat) (s : Ps) : Prop := Blk w b (pcc s) 48

structure Ps.Ok (s : Ps) : Prop where
  b : 2400 ≤ s.burst ∧ s.burst ≤ 1048576
  c : inT s.clock
  l : -s.burst ≤ s.left ∧ s.left ≤ s.burst
  r : 0 ≤ s.rest ∧ s.rest < s.span
  f : s.left = s.burst → s.rest = 0
  e : 0 ≤ s.rise ∧ s.rise ≤ 5497558138880
  p : 1 ≤ s.span ∧ s.span ≤ 274877906944

theorem PB.full {w : World} {b : Nat} {s : Ps} (h : PB w b s) : (∀ j, w.frozen? ⟨b, j, none⟩ = false) ∧ w.cell? ⟨b, 0, none⟩ = some (.int .i64 s.burst) ∧ w.cell? ⟨b, 1, none⟩ = some (.int .i64 s.clock) ∧ w.cell? ⟨b, 2, none⟩ = some (.int .i64 s.left) ∧ w.cell? ⟨b, 3, none⟩ = some (.int .i64 s.rest) ∧ w.cell? ⟨b, 4, none⟩ = some (.int .i64 s.rise) ∧ w.cell? ⟨b, 5, none⟩ = some (.int .i64 s.span) :=
  ⟨fun j => h.thaw j, h.cell 0 _ rfl, h.cell 1 _ rfl, h.cell 2 _ rfl, h.cell 3 _ rfl, h.cell 4 _ rfl, h.cell 5 _ rfl⟩
theorem PB.grown {w W : World} {b : Nat} {s : Ps} (h : PB w b s) (g : w.grownBy W none) : PB W b s := Blk.grown h g

/-- The clock, moved. -/
def tmF (now : Int) (s : Ps) : Int := win now s.clock 1125899906842624
/-- What lies there beside whole bytes, and what has flowed in. -/
def parts (now : Int) (s : Ps) : Int := s.rest + (tmF now s - s.clock) * s.rise
def fillF (now : Int) (s : Ps) : Ps :=
  if s.burst - s.left ≤ parts now s / s.span then { s with clock := tmF now s, left := s.burst, rest := 0 }
  else { s with clock := tmF now s, left := s.left + parts now s / s.span, rest := parts now s % s.span }
def setF (now x z : Int) (s : Ps) : Ps := { fillF now s with rise := 5 * win x 0 1099511627776, span := 4 * win z 1 68719476736, rest := 0 }
def spendF (now x : Int) (s : Ps) : Ps := { fillF now s with left := max ((fillF now s).left - win x 0 s.burst) (-s.burst) }
/-- What When answers of one that is filled. -/
def whenG (x : Int) (s : Ps) : Int :=
  if win x 0 s.burst ≤ s.left then s.clock else if s.rise = 0 then 4611686018427387904 else s.clock + ((win x 0 s.burst - s.left) * s.span - s.rest + s.rise - 1) / s.rise
def whenF (now x : Int) (s : Ps) : Int := whenG x (fillF now s)

theorem tm_b {s : Ps} (h : s.Ok) (now : Int) : s.clock ≤ tmF now s ∧ tmF now s ≤ 1125899906842624 := win_b h.c.2
theorem parts_b {s : Ps} (h : s.Ok) (now : Int) : s.rest ≤ parts now s := by
  have a := (tm_b h now).1
  have := Int.mul_nonneg (show 0 ≤ tmF now s - s.clock by omega) h.e.1
  unfold parts
  omega
theorem fill_ok {s : Ps} (h : s.Ok) (now : Int) : (fillF now s).Ok := by
  have t := tm_b h now
  have c := h.c
  have p := h.p
  have l := h.l
  have q0 : 0 ≤ parts now s / s.span := Int.ediv_nonneg (by have := parts_b h now; have := h.r; omega) (by omega)
  unfold fillF
  split
  · exact ⟨h.b, by show inT (tmF now s); omega, by have := h.b; show -s.burst ≤ s.burst ∧ s.burst ≤ s.burst; omega, by show 0 ≤ (0 : Int) ∧ 0 < s.span; omega, fun _ => rfl, h.e, h.p⟩
  · rename_i c1
    exact ⟨h.b, by show inT (tmF now s); omega, by show -s.burst ≤ s.left + parts now s / s.span ∧ s.left + parts now s / s.span ≤ s.burst; omega, ⟨Int.emod_nonneg _ (by omega), Int.emod_lt_of_pos _ (by omega)⟩, fun e => absurd e (by show s.left + parts now s / s.span ≠ s.burst; omega), h.e, h.p⟩
theorem fill_burst (now : Int) (s : Ps) : (fillF now s).burst = s.burst := by unfold fillF; split <;> rfl
theorem fill_rise (now : Int) (s : Ps) : (fillF now s).rise = s.rise := by unfold fillF; split <;> rfl
theorem fill_span (now : Int) (s : Ps) : (fillF now s).span = s.span := by unfold fillF; split <;> rfl
theorem fill_clock (now : Int) (s : Ps) : (fillF now s).clock = tmF now s := by unfold fillF; split <;> rfl
theorem set_ok {s : Ps} (h : s.Ok) (now x z : Int) : (setF now x z s).Ok := by
  have f := fill_ok h now
  have a := win_b (x := x) (show (0 : Int) ≤ 1099511627776 by decide)
  have b := win_b (x := z) (show (1 : Int) ≤ 68719476736 by decide)
  exact ⟨f.b, f.c, f.l, by show 0 ≤ (0 : Int) ∧ 0 < 4 * win z 1 68719476736; omega, fun _ => rfl, by show 0 ≤ 5 * win x 0 1099511627776 ∧ 5 * win x 0 1099511627776 ≤ 5497558138880; omega, by show 1 ≤ 4 * win z 1 68719476736 ∧ 4 * win z 1 68719476736 ≤ 274877906944; omega⟩
theorem spend_ok {s : Ps} (h : s.Ok) (now x : Int) : (spendF now x s).Ok := by
  have f := fill_ok h now
  have hb := h.b
  have a := win_b (x := x) (show (0 : Int) ≤ s.burst by omega)
  have l := f.l
  have ff := f.f
  rw [fill_burst] at l ff
  refine ⟨f.b, f.c, ?_, f.r, ?_, f.e, f.p⟩
  · show -(fillF now s).burst ≤ max ((fillF now s).left - win x 0 s.burst) (-s.burst) ∧ max ((fillF now s).left - win x 0 s.burst) (-s.burst) ≤ (fillF now s).burst
    rw [fill_burst]
    omega
  · show max ((fillF now s).left - win x 0 s.burst) (-s.burst) = (fillF now s).burst → (fillF now s).rest = 0
    rw [fill_burst]
    intro e
    exact ff (by omega)

/-- One that is new. -/
def ps0 (b : Int) : Ps := ⟨b, 0, b, 0, 0, 1⟩
theorem ps0_ok {b : Int} (h : 2400 ≤ b ∧ b ≤ 1048576) : (ps0 b).Ok := ⟨h, by show inT 0; omega, by show -b ≤ b ∧ b ≤ b; omega, by show 0 ≤ (0 : Int) ∧ (0 : Int) < 1; omega, fun _ => rfl, by show 0 ≤ (0 : Int) ∧ (0 : Int) ≤ _; omega, by show 1 ≤ (1 : Int) ∧ (1 : Int) ≤ _; omega⟩
end Go.Proofs.Ytlfldbagbafjfaa
