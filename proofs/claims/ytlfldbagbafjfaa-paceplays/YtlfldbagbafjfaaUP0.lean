/- Two pacers and the document's two; which of them a step is for. -/
import Derived.Test.YtlfldbagbafjfaaUF2
import Derived.Test.YtlfldbagbafjfaaUJ
namespace Go.Proofs.Ytlfldbagbafjfaa
open Go.RowKit
set_option linter.unusedVariables false
set_option maxRecDepth 100000
set_option maxHeartbeats 4000000

theorem and_one_i64 (n : Int) : bits .and .i64 n 1 = n % 2 := by
  have h1 : (BitVec.ofInt 64 1).toNat = 2 ^ 1 - 1 := by decide
  have key : (BitVec.ofInt 64 n &&& BitVec.ofInt 64 1).toNat = (n % ((2 ^ 64 : Nat) : Int)).toNat % 2 ^ 1 := by
    rw [BitVec.toNat_and, BitVec.toNat_ofInt, h1, Nat.and_two_pow_sub_one_eq_mod]
  show IntKind.i64.wrap ((BitVec.ofInt 64 n &&& BitVec.ofInt 64 1).toNat : Nat) = n % 2
  rw [key, IntKind.wrap_i64]
  omega
theorem Blk.neT {w : World} {g g' : Nat} {cs cs' : Array Value} {t t' : TypeId} (h : Blk w g cs t) (h' : Blk w g' cs' t') (ht : t ≠ t') : g ≠ g' := by
  rintro rfl
  have := (show w.heap[g]? = _ from h).symm.trans (show w.heap[g]? = _ from h')
  simp at this
  exact ht this.2
theorem RB.neT {w : World} {g g' o p : Nat} {R S : Ps} {cs : Array Value} {t : TypeId} (h : RB w g o p R S) (h' : Blk w g' cs t) (ht : 35 ≠ t) : g ≠ g' := by
  obtain ⟨c, h1, -⟩ := h
  exact Blk.neT h1 h' ht

/-- The program's two, the row that names them, the document's two: the i-th is looked at. -/
structure AQ (w wr : World) (a b cb rr i j : Nat) (cs : Array Value) (s t R S : Ps) : Prop where
  T : TQ w wr a b s t
  row : Blk wr cb cs 30
  at_ : cs[i]? = some (ptr a)
  two : RB wr rr (i * 6) (j * 6) R S
  ij : Sep (i * 6) (j * 6)
  nc : w.heap.size ≤ cb
  nr : w.heap.size ≤ rr
theorem AQ.keep {w wr wr' : World} {a b cb rr i j : Nat} {cs : Array Value} {s t R S : Ps} (h : AQ w wr a b cb rr i j cs s t R S) (g : wr.grownBy wr' none) : AQ w wr' a b cb rr i j cs s t R S := ⟨h.T.keep g, h.row.grown g, h.at_, h.two.grown g, h.ij, h.nc, h.nr⟩
theorem AQ.drew {w wr : World} {a b cb rr i j : Nat} {cs : Array Value} {s t R S : Ps} (h : AQ w wr a b cb rr i j cs s t R S) : AQ w wr.drew a b cb rr i j cs s t R S := h.keep ⟨rfl, rfl, rfl, Nat.le_refl _, fun _ _ _ => rfl⟩
theorem AQ.callA {w wr wr' : World} {a b cb rr i j : Nat} {cs : Array Value} {s t R S s' : Ps} (h : AQ w wr a b cb rr i j cs s t R S) (q : QE w wr' a s') (g : wr.grownBy wr' (some a)) : AQ w wr' a b cb rr i j cs s' t R S :=
  ⟨h.T.toA q g, h.row.far g (Blk.neT h.row h.T.qa.at_ (by decide)), h.at_, h.two.far g (RB.neT h.two h.T.qa.at_ (by decide)), h.ij, h.nc, h.nr⟩
theorem AQ.callR {w wr wr' : World} {a b cb rr i j : Nat} {cs : Array Value} {s t R S R' : Ps} (h : AQ w wr a b cb rr i j cs s t R S) (q : RT wr wr' rr (i * 6) (j * 6) R' S) : AQ w wr' a b cb rr i j cs s t R' S := by
  have na := RB.neT h.two h.T.qa.at_ (by decide)
  have nb := RB.neT h.two h.T.qb.at_ (by decide)
  have nc := RB.neT h.two h.row (by decide)
  exact ⟨⟨h.T.qa.far q.grown na.symm h.nr, h.T.qb.far q.grown nb.symm h.nr, h.T.ne⟩, h.row.far q.grown nc.symm, h.at_, q.at_, h.ij, h.nc, h.nr⟩
theorem AQ.cell {w wr : World} {a b cb rr i j : Nat} {cs : Array Value} {s t R S : Ps} (h : AQ w wr a b cb rr i j cs s t R S) : wr.cell? ⟨cb, i, none⟩ = some (ptr a) := h.row.cell i _ h.at_
theorem AQ.swap {w wr : World} {a b cb rr i j : Nat} {cs : Array Value} {s t R S : Ps} (h : AQ w wr a b cb rr i j cs s t R S) (hb : cs[j]? = some (ptr b)) (hs : Sep (j * 6) (i * 6)) : AQ w wr b a cb rr j i cs t s S R := ⟨h.T.swap, h.row, hb, h.two.swap, hs, h.nc, h.nr⟩

/-- And a step's copy. -/
structure AO (w wr : World) (a b cb rr i j : Nat) (cs : Array Value) (o : Nat) (y : OpE) (s t R S : Ps) : Prop where
  q : AQ w wr a b cb rr i j cs s t R S
  op : Blk wr o #[.int .i64 y.kind, .int .i64 y.h, .int .i64 y.now, .int .i64 y.size, .int .i64 y.smooth] 37
theorem AO.drew {w wr : World} {a b cb rr i j : Nat} {cs : Array Value} {o : Nat} {y : OpE} {s t R S : Ps} (h : AO w wr a b cb rr i j cs o y s t R S) : AO w wr.drew a b cb rr i j cs o y s t R S := ⟨h.q.drew, h.op.drew⟩
theorem AO.callA {w wr wr' : World} {a b cb rr i j : Nat} {cs : Array Value} {o : Nat} {y : OpE} {s t R S s' : Ps} (h : AO w wr a b cb rr i j cs o y s t R S) (q : QE w wr' a s') (g : wr.grownBy wr' (some a)) : AO w wr' a b cb rr i j cs o y s' t R S :=
  ⟨h.q.callA q g, h.op.far g (Blk.neT h.op h.q.T.qa.at_ (by decide))⟩
theorem AO.callR {w wr wr' : World} {a b cb rr i j : Nat} {cs : Array Value} {o : Nat} {y : OpE} {s t R S R' : Ps} (h : AO w wr a b cb rr i j cs o y s t R S) (q : RT wr wr' rr (i * 6) (j * 6) R' S) : AO w wr' a b cb rr i j cs o y s t R' S :=
  ⟨h.q.callR q, h.op.far q.grown (RB.neT h.q.two h.op (by decide)).symm⟩
theorem AO.cells {w wr : World} {a b cb rr i j : Nat} {cs : Array Value} {o : Nat} {y : OpE} {s t R S : Ps} (h : AO w wr a b cb rr i j cs o y s t R S) : wr.cell? ⟨cb, i, none⟩ = some (ptr a) ∧ wr.cell? ⟨o, 0, none⟩ = some (.int .i64 y.kind) ∧ wr.cell? ⟨o, 1, none⟩ = some (.int .i64 y.h) ∧ wr.cell? ⟨o, 2, none⟩ = some (.int .i64 y.now) ∧ wr.cell? ⟨o, 3, none⟩ = some (.int .i64 y.size) ∧ wr.cell? ⟨o, 4, none⟩ = some (.int .i64 y.smooth) :=
  ⟨h.q.cell, h.op.cell 0 _ rfl, h.op.cell 1 _ rfl, h.op.cell 2 _ rfl, h.op.cell 3 _ rfl, h.op.cell 4 _ rfl⟩
section
variable {w wr : World} {a b cb rr i j : Nat} {cs : Array Value} {o : Nat} {y : OpE} {s t R S : Ps}
theorem ao_set (h : AO w wr a b cb rr i j cs o y s t R S) (x z u : Int) : Calls Try.prog 13 #[ptr a, .int .i64 x, .int .i64 z, .int .i64 u] wr fun e w' => e = .returned (.tuple #[]) ∧ AO w w' a b cb rr i j cs o y (setF x z u s) t R S :=
  (qe_set h.q.T.qa x z u).mono fun e w' ⟨he, q, g⟩ => ⟨he, h.callA q g⟩
theorem ao_when (h : AO w wr a b cb rr i j cs o y s t R S) (x z : Int) : Calls Try.prog 15 #[ptr a, .int .i64 x, .int .i64 z] wr fun e w' => e = .returned (.int .i64 (whenF x z s)) ∧ AO w w' a b cb rr i j cs o y (fillF x s) t R S :=
  (qe_when h.q.T.qa x z).mono fun e w' ⟨he, q, g⟩ => ⟨he, h.callA q g⟩
theorem ao_spend (h : AO w wr a b cb rr i j cs o y s t R S) (x z : Int) : Calls Try.prog 17 #[ptr a, .int .i64 x, .int .i64 z] wr fun e w' => e = .returned (.tuple #[]) ∧ AO w w' a b cb rr i j cs o y (spendF x z s) t R S :=
  (qe_spend h.q.T.qa x z).mono fun e w' ⟨he, q, g⟩ => ⟨he, h.callA q g⟩
theorem ao_left (h : AO w wr a b cb rr i j cs o y s t R S) (x : Int) : Calls Try.prog 19 #[ptr a, .int .i64 x] wr fun e w' => e = .returned (.int .i64 (fillF x s).left) ∧ AO w w' a b cb rr i j cs o y (fillF x s) t R S :=
  (qe_left h.q.T.qa x).mono fun e w' ⟨he, q, g⟩ => ⟨he, h.callA q g⟩
theorem ao_rset (h : AO w wr a b cb rr i j cs o y s t R S) (ok : R.Ok) (x z u : Int) : Calls Try.prog 14 #[ptrO rr (i * 6), .int .i64 x, .int .i64 z, .int .i64 u] wr fun e w' => e = .returned (.tuple #[]) ∧ AO w w' a b cb rr i j cs o y s t (setF x z u R) S :=
  (rset_any rr (i * 6) (j * 6) R S x z u wr h.q.two h.q.ij ok).mono fun e w' ⟨he, q⟩ => ⟨he, h.callR q⟩
theorem ao_rwhen (h : AO w wr a b cb rr i j cs o y s t R S) (ok : R.Ok) (x z : Int) : Calls Try.prog 16 #[ptrO rr (i * 6), .int .i64 x, .int .i64 z] wr fun e w' => e = .returned (.int .i64 (whenF x z R)) ∧ AO w w' a b cb rr i j cs o y s t (fillF x R) S :=
  (rwhen_any rr (i * 6) (j * 6) R S x z wr h.q.two h.q.ij ok).mono fun e w' ⟨he, q⟩ => ⟨he, h.callR q⟩
theorem ao_rspend (h : AO w wr a b cb rr i j cs o y s t R S) (ok : R.Ok) (x z : Int) : Calls Try.prog 18 #[ptrO rr (i * 6), .int .i64 x, .int .i64 z] wr fun e w' => e = .returned (.tuple #[]) ∧ AO w w' a b cb rr i j cs o y s t (spendF x z R) S :=
  (rspend_any rr (i * 6) (j * 6) R S x z wr h.q.two h.q.ij ok).mono fun e w' ⟨he, q⟩ => ⟨he, h.callR q⟩
theorem ao_rasked (h : AO w wr a b cb rr i j cs o y s t R S) (ok : R.Ok) (x : Int) : Calls Try.prog 20 #[ptrO rr (i * 6), .int .i64 x] wr fun e w' => e = .returned (.int .i64 (fillF x R).left) ∧ AO w w' a b cb rr i j cs o y s t (fillF x R) S :=
  (rasked_any rr (i * 6) (j * 6) R S x wr h.q.two h.q.ij ok).mono fun e w' ⟨he, q⟩ => ⟨he, h.callR q⟩
end
end Go.Proofs.Ytlfldbagbafjfaa
