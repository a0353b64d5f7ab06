/- Lent bytes as one thing. -/
import Derived.Test.YtdmjejfnohhpiaaKWL
import Derived.Test.YtdmjejfnohhpiaaKG
namespace Go.Proofs.Ytdmjejfnohhpiaa
open Go.RowKit
set_option linter.unusedVariables false
set_option maxRecDepth 100000
set_option maxHeartbeats 2000000

structure LT where
  g : Nat
  n : Nat
  gf : Nat
  cf : Nat
  gw : Nat
  cw : Nat
  F : List Int
abbrev LT.v (t : LT) : Value := .slice (some ⟨t.gf, 0, none⟩) t.n t.cf
def LT.l (t : LT) : List Int := t.F.take t.n
structure LT.ok (t : LT) (w0 : World) (B : Nat) (wr : World) : Prop where
  lent : Lent w0 B wr t.g t.n t.gf t.cf t.gw t.cw t.F t.F
  byte : ∀ x ∈ t.F, IsB x

theorem grown_bel {w W : World} (h : w.grownBy W none) : Below w.heap.size w W := ⟨h.os, h.tape, h.output, h.size, fun i hi => h.block i hi (by simp)⟩

section
variable {t : LT} {w0 wr : World} {B : Nat}
theorem LT.ok.len (h : t.ok w0 B wr) : t.l.length = t.n := h.lent.tlen
theorem LT.ok.bytes (h : t.ok w0 B wr) : ∀ x ∈ t.l, IsB x := fun x hx => h.byte x (List.mem_of_mem_take hx)
theorem LT.ok.grown {w' : World} (h : t.ok w0 B wr) (g : wr.grownBy w' none) : t.ok w0 B w' := ⟨h.lent.below (grown_bel g), h.byte⟩
theorem LT.ok.drewN (h : t.ok w0 B wr) (q : Nat) : t.ok w0 B (wr.drewN q) := ⟨h.lent.drewN q, h.byte⟩
theorem LT.ok.inB (h : t.ok w0 B wr) : InB wr t.v t.l := by
  have hl := h.len
  obtain ⟨-, -, -, h1, h2, -, -⟩ := h.lent.ne
  refine ⟨some ⟨t.gf, 0, none⟩, t.cf, by rw [hl], h.lent.rd h.byte, by rw [hl]; omega, h2, fun x e _ => ?_⟩
  cases e
  have := (h.lent.full.lt t.gf rfl).2
  exact ⟨this, Nat.ne_of_lt this, _, _, rfl⟩
theorem LT.ok.lts (h : t.ok w0 B wr) : B ≤ t.g ∧ t.g < t.gf ∧ t.g < t.gw ∧ t.gf ≠ t.gw ∧ t.gf < wr.heap.size ∧ t.gw < wr.heap.size := by
  obtain ⟨h1, h2, h3, -⟩ := h.lent.ne
  exact ⟨h.lent.low, h2, h3, h1, (h.lent.full.lt t.gf rfl).2, (h.lent.was.lt t.gw rfl).2⟩
/-- Others were written. -/
theorem LT.ok.only {w' : World} {a b : Nat} (h : t.ok w0 B wr) (o : Only wr w' a b) (hb : Below B w0 w') (n1 : t.g ≠ a ∧ t.g ≠ b) (n2 : t.gf ≠ a ∧ t.gf ≠ b) (n3 : t.gw ≠ a ∧ t.gw ≠ b) : t.ok w0 B w' := by
  have e1 := o.2 t.g n1.1 n1.2
  have e2 := o.2 t.gf n2.1 n2.2
  have e3 := o.2 t.gw n3.1 n3.2
  refine ⟨⟨by rw [e1]; exact h.lent.blk, ?_, ?_, h.lent.sep, hb, h.lent.low⟩, h.byte⟩
  · refine ⟨h.lent.full.1, ?_⟩
    rcases h.lent.full.2 with ⟨e, -⟩ | ⟨g, cap, cur, e, q1, q2, q3⟩
    · cases e
    · simp only [Value.slice.injEq, Option.some.injEq, Addr.mk.injEq, and_true, true_and] at e
      obtain ⟨rfl, rfl⟩ := e
      exact .inr ⟨_, _, cur, rfl, q1, by rw [e2]; exact q2, q3⟩
  · refine ⟨h.lent.was.1, ?_⟩
    rcases h.lent.was.2 with ⟨e, -⟩ | ⟨g, cap, cur, e, q1, q2, q3⟩
    · cases e
    · simp only [Value.slice.injEq, Option.some.injEq, Addr.mk.injEq, and_true, true_and] at e
      obtain ⟨rfl, rfl⟩ := e
      exact .inr ⟨_, _, cur, rfl, q1, by rw [e3]; exact q2, q3⟩
end

theorem lend_lt (w0 : World) (B : Nat) (v : Value) (l : List Int) (W : World) (h : InB W v l) (hm : l.length ≤ 140737488351232) (hb : Below B w0 W) (hB : B ≤ W.heap.size) :
    Calls Try.prog 21 #[v] W fun e w' => ∃ t : LT, e = .returned (.pointer (some ⟨t.g, 0, none⟩)) ∧ t.ok w0 B w' ∧ t.l = l ∧ t.n = l.length ∧ W.heap.size ≤ t.g ∧ W.grownBy w' none := by
  obtain ⟨a, c, rfl, hr, -⟩ := h
  refine (lend_any a l c W hr (by omega)).mono fun e w' ⟨fv, wv, he, lp⟩ => ?_
  obtain ⟨gf, cf, rfl, -⟩ := ownsRow_open lp.full (by omega)
  obtain ⟨gw, cw, rfl, -⟩ := ownsRow_open lp.was (by omega)
  refine ⟨⟨W.heap.size, l.length, gf, cf, gw, cw, lentL l⟩, he, ⟨⟨lp.blk, lp.full, lp.was, lp.sep, hb.trans (lp.bel.mono hB), hB⟩, lentL_byte l hr.1⟩, ?_, rfl, Nat.le_refl _, below_grown lp.bel⟩
  show (lentL l).take l.length = l
  unfold lentL; rw [List.take_left]

theorem bytes_lt (t : LT) (w0 wr : World) (B : Nat) (h : t.ok w0 B wr) :
    Calls Try.prog 23 #[.pointer (some ⟨t.g, 0, none⟩)] wr fun e w' => e = .returned t.v ∧ ∃ q, w' = wr.drewN q :=
  bytes_any w0 wr B t.g t.n t.gf t.cf t.gw t.cw t.F t.F h.lent
theorem kept_lt (t : LT) (w0 wr : World) (B : Nat) (h : t.ok w0 B wr) :
    Calls Try.prog 25 #[.pointer (some ⟨t.g, 0, none⟩)] wr fun e w' => e = .returned (.bool true) ∧ ∃ q, w' = wr.drewN q :=
  kept_any w0 wr B t.g t.n t.gf t.cf t.gw t.cw t.F h.lent
theorem turn_lt (t : LT) (w0 wr : World) (B : Nat) (k : Int) (h : t.ok w0 B wr) (hk : 0 < k) (hk2 : k < 9223372036854775807) :
    Calls Try.prog 27 #[.pointer (some ⟨t.g, 0, none⟩), .int .i64 k] wr fun e w' => e = .returned (.tuple #[]) ∧ ∃ F', LT.ok { t with F := F' } w0 B w' ∧ Only wr w' t.gf t.gw :=
  (turn_only w0 wr B t.g t.n t.gf t.cf t.gw t.cw k t.F h.lent h.byte hk hk2).mono fun e w' ⟨he, F', h1, h2, h3⟩ => ⟨he, F', ⟨h1, h2⟩, h3⟩

end Go.Proofs.Ytdmjejfnohhpiaa
