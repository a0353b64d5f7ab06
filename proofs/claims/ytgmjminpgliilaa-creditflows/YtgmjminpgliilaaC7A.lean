/- Limits, given and used: what an Out and an In know; both in memory. -/
import Derived.Test.YtgmjminpgliilaaHA
namespace Go.Proofs.Ytgmjminpgliilaa
open Go.RowKit
set_option linter.unusedVariables false
set_option maxRecDepth 100000
set_option maxHeartbeats 1000000

abbrev ptr (b : Nat) : Value := .pointer (some ⟨b, 0, none⟩)
theorem gtrans {w1 w2 w3 : World} {r : Option Nat} (g : w1.grownBy w2 r) (h : w2.grownBy w3 r) : w1.grownBy w3 r := g.trans h
theorem drewSN {w W : World} {b : Nat} (g : w.grownBy W (some b)) (q : Nat) : w.grownBy (W.drewN q) (some b) := ⟨g.os, g.tape, g.output, g.size, g.block⟩
theorem ret_eq {x y : Int} (h : Hid (x = y)) : Ending.returned (.int .i64 y) = Ending.returned (.int .i64 x) := by rw [unhide h]
theorem ret_beq' {x y : Bool} (h : Hid (x = y)) : Ending.returned (.bool y) = Ending.returned (.bool x) := by rw [unhide h]
theorem ret_two {x y : Int} {p q : Bool} (h : Hid (x = y)) (g : Hid (p = q)) : Ending.returned (.tuple #[.int .i64 y, .bool q]) = Ending.returned (.tuple #[.int .i64 x, .bool p]) := by rw [unhide h, unhide g]

/-- What an Out knows. -/
structure Ou where
  limit : Int
  used : Int
  told : Int
def oc (s : Ou) : Array Value := #[.int .i64 s.limit, .int .i64 s.used, .int .i64 s.told]
structure Ou.Ok (s : Ou) : Prop where
  l : 0 ≤ s.limit ∧ s.limit ≤ 4611686018427387903
  u : 0 ≤ s.used ∧ s.used ≤ s.limit
  t : -1 ≤ s.told ∧ s.told ≤ 4611686018427387903
def useE (n : Int) (s : Ou) : Int := if n < 0 then 1 else if s.limit - s.used < n then 170 else 0
def useF (n : Int) (s : Ou) : Ou := if n < 0 ∨ s.limit - s.used < n then s else { s with used := s.used + n }
def raiseF (n : Int) (s : Ou) : Ou := if s.limit < min n 4611686018427387903 then { s with limit := min n 4611686018427387903 } else s
def raiseB (n : Int) (s : Ou) : Bool := decide (s.limit < min n 4611686018427387903)
def wantB (s : Ou) : Bool := decide (s.limit - s.used = 0 ∧ s.limit ≠ s.told)
def blkN (s : Ou) : Int := if wantB s then s.limit else 0
def blkF (s : Ou) : Ou := if wantB s then { s with told := s.limit } else s
def agF (n : Int) (s : Ou) : Ou := if n = s.told then { s with told := -1 } else s
theorem use_ok {s : Ou} (h : s.Ok) (n : Int) : (useF n s).Ok := by
  have := h.l; have := h.u
  unfold useF
  split
  · exact h
  · exact ⟨h.l, by show 0 ≤ s.used + n ∧ s.used + n ≤ s.limit; omega, h.t⟩
theorem raise_ok {s : Ou} (h : s.Ok) (n : Int) : (raiseF n s).Ok := by
  have := h.l; have := h.u
  unfold raiseF
  split
  · exact ⟨by show 0 ≤ min n 4611686018427387903 ∧ min n 4611686018427387903 ≤ 4611686018427387903; omega, by show 0 ≤ s.used ∧ s.used ≤ min n 4611686018427387903; omega, h.t⟩
  · exact h
theorem blk_ok {s : Ou} (h : s.Ok) : (blkF s).Ok := by
  have := h.l; have := h.u
  unfold blkF
  split
  · exact ⟨h.l, h.u, by show -1 ≤ s.limit ∧ s.limit ≤ 4611686018427387903; omega⟩
  · exact h
theorem ag_ok {s : Ou} (h : s.Ok) (n : Int) : (agF n s).Ok := by
  unfold agF
  split
  · exact ⟨h.l, h.u, by show -1 ≤ (-1 : Int) ∧ (-1 : Int) ≤ 4611686018427387903; omega⟩
  · exact h

/-- What an In knows. -/
structure Ind where
  window : Int
  limit : Int
  taken : Int
  consumed : Int
  again : Bool
def ic (s : Ind) : Array Value := #[.int .i64 s.window, .int .i64 s.limit, .int .i64 s.taken, .int .i64 s.consumed, .bool s.again]
structure Ind.Ok (s : Ind) : Prop where
  w : 0 ≤ s.window ∧ s.window ≤ 4611686018427387903
  l : s.window ≤ s.limit ∧ s.limit ≤ 4611686018427387903
  n : s.limit ≤ s.consumed + s.window
  t : s.taken ≤ s.limit
  c : 0 ≤ s.consumed ∧ s.consumed ≤ s.taken
def takeE (n : Int) (s : Ind) : Int := if n < 0 then 1 else if s.limit - s.taken < n then 170 else 0
def takeF (n : Int) (s : Ind) : Ind := if n < 0 ∨ s.limit - s.taken < n then s else { s with taken := s.taken + n }
def consE (n : Int) (s : Ind) : Int := if n < 0 ∨ s.taken - s.consumed < n then 1 else 0
def consF (n : Int) (s : Ind) : Ind := if n < 0 ∨ s.taken - s.consumed < n then s else { s with consumed := s.consumed + n }
def nextF (s : Ind) : Int := min (s.consumed + s.window) 4611686018427387903
def wantI (s : Ind) : Bool := s.again || decide (0 < nextF s - s.limit ∧ s.window - s.window / 2 ≤ nextF s - s.limit)
def updN (s : Ind) : Int := if wantI s then nextF s else 0
def updF (s : Ind) : Ind := if wantI s then { s with limit := nextF s, again := false } else s
def agI (n : Int) (s : Ind) : Ind := if n = s.limit ∧ n ≠ s.window then { s with again := true } else s
theorem take_ok {s : Ind} (h : s.Ok) (n : Int) : (takeF n s).Ok := by
  have := h.c; have := h.t
  unfold takeF
  split
  · exact h
  · exact ⟨h.w, h.l, h.n, by show s.taken + n ≤ s.limit; omega, by show 0 ≤ s.consumed ∧ s.consumed ≤ s.taken + n; omega⟩
theorem cons_ok {s : Ind} (h : s.Ok) (n : Int) : (consF n s).Ok := by
  have := h.c; have := h.n
  unfold consF
  split
  · exact h
  · exact ⟨h.w, h.l, by show s.limit ≤ s.consumed + n + s.window; omega, h.t, by show 0 ≤ s.consumed + n ∧ s.consumed + n ≤ s.taken; omega⟩
theorem next_b {s : Ind} (h : s.Ok) : s.limit ≤ nextF s ∧ nextF s ≤ 4611686018427387903 ∧ nextF s ≤ s.consumed + s.window := by
  have := h.l; have := h.n
  unfold nextF; omega
theorem upd_ok {s : Ind} (h : s.Ok) : (updF s).Ok := by
  obtain ⟨n1, n2, n3⟩ := next_b h
  have := h.l; have := h.t
  unfold updF
  split
  · exact ⟨h.w, by show s.window ≤ nextF s ∧ nextF s ≤ _; omega, n3, by show s.taken ≤ nextF s; omega, h.c⟩
  · exact h
theorem agI_ok {s : Ind} (h : s.Ok) (n : Int) : (agI n s).Ok := by
  unfold agI
  split
  · exact ⟨h.w, h.l, h.n, h.t, h.c⟩
  · exact h

/-- In memory: T the type. -/
def OB (T : TypeId) (w : World) (b : Nat) (s : Ou) : Prop := Blk w b (oc s) T
def IB (T : TypeId) (w : World) (b : Nat) (s : Ind) : Prop := Blk w b (ic s) T
theorem OB.full {T : TypeId} {w : World} {b : Nat} {s : Ou} (h : OB T w b s) : (∀ j, w.frozen? ⟨b, j, none⟩ = false) ∧ w.cell? ⟨b, 0, none⟩ = some (.int .i64 s.limit) ∧ w.cell? ⟨b, 1, none⟩ = some (.int .i64 s.used) ∧ w.cell? ⟨b, 2, none⟩ = some (.int .i64 s.told) :=
  ⟨fun j => h.thaw j, h.cell 0 _ rfl, h.cell 1 _ rfl, h.cell 2 _ rfl⟩
theorem IB.full {T : TypeId} {w : World} {b : Nat} {s : Ind} (h : IB T w b s) : (∀ j, w.frozen? ⟨b, j, none⟩ = false) ∧ w.cell? ⟨b, 0, none⟩ = some (.int .i64 s.window) ∧ w.cell? ⟨b, 1, none⟩ = some (.int .i64 s.limit) ∧ w.cell? ⟨b, 2, none⟩ = some (.int .i64 s.taken) ∧ w.cell? ⟨b, 3, none⟩ = some (.int .i64 s.consumed) ∧ w.cell? ⟨b, 4, none⟩ = some (.bool s.again) :=
  ⟨fun j => h.thaw j, h.cell 0 _ rfl, h.cell 1 _ rfl, h.cell 2 _ rfl, h.cell 3 _ rfl, h.cell 4 _ rfl⟩
theorem OB.grown {T : TypeId} {w W : World} {b : Nat} {s : Ou} (h : OB T w b s) (g : w.grownBy W none) : OB T W b s := Blk.grown h g
theorem IB.grown {T : TypeId} {w W : World} {b : Nat} {s : Ind} (h : IB T w b s) (g : w.grownBy W none) : IB T W b s := Blk.grown h g
theorem OB.drewN {T : TypeId} {w : World} {b : Nat} {s : Ou} (h : OB T w b s) (q : Nat) : OB T (w.drewN q) b s := h
theorem IB.drewN {T : TypeId} {w : World} {b : Nat} {s : Ind} (h : IB T w b s) (q : Nat) : IB T (w.drewN q) b s := h
end Go.Proofs.Ytgmjminpgliilaa
