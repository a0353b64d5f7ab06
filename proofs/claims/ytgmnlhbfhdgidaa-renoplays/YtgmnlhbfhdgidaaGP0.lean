/- Two pairs of controllers. -/
import Derived.Test.YtgmnlhbfhdgidaaGM
import Derived.Test.YtgmnlhbfhdgidaaGT
import Derived.Test.YtgmnlhbfhdgidaaGU
import Derived.Laws.Bits128
namespace Go.Proofs.Ytgmnlhbfhdgidaa
open Go.RowKit
set_option linter.unusedVariables false
set_option maxRecDepth 100000
set_option maxHeartbeats 4000000

theorem and_one_i64 (n : Int) : bits .and .i64 n 1 = n % 2 := by
  have h1 : (BitVec.ofInt 64 1).toNat = 2 ^ 1 - 1 := by decide
  have key : (BitVec.ofInt 64 n &&& BitVec.ofInt 64 1).toNat = (n % ((2 ^ 64 : Nat) : Int)).toNat % 2 ^ 1 := by
    rw [BitVec.toNat_and, BitVec.toNat_ofInt, h1, Nat.and_two_pow_sub_one_eq_mod]
  show IntKind.i64.wrap ((BitVec.ofInt 64 n &&& BitVec.ofInt 64 1).toNat : Nat) = n % 2
  rw [key, IntKind.wrap_i64]
  omega

theorem Blk.neT {w : World} {g g' : Nat} {cs cs' : Array Value} {t t' : TypeId} (h : Blk w g cs t) (h' : Blk w g' cs' t') (ht : t ≠ t') : g ≠ g' := by
  rintro rfl
  have := (show w.heap[g]? = _ from h).symm.trans (show w.heap[g]? = _ from h')
  simp at this
  exact ht this.2

/-- What RenoPlays holds between rounds: the program's two, the row that names them, the document's two. -/
structure PQ (w wr : World) (a b cb rr n : Nat) (s t R S : Cs) : Prop where
  T : TQ w wr a b n s t
  row : Blk wr cb #[ptr a, ptr b] 30
  two : RB wr rr R S
  nc : w.heap.size ≤ cb
  nr : w.heap.size ≤ rr
theorem PQ.keep {w wr wr' : World} {a b cb rr n : Nat} {s t R S : Cs} (h : PQ w wr a b cb rr n s t R S) (g : wr.grownBy wr' none) : PQ w wr' a b cb rr n s t R S := ⟨h.T.keep g, h.row.grown g, h.two.grown g, h.nc, h.nr⟩
theorem PQ.na {w wr : World} {a b cb rr n : Nat} {s t R S : Cs} (h : PQ w wr a b cb rr n s t R S) : cb ≠ a ∧ cb ≠ b ∧ rr ≠ a ∧ rr ≠ b ∧ cb ≠ rr := ⟨Blk.neT h.row h.T.qa.at_ (by decide), Blk.neT h.row h.T.qb.at_ (by decide), Blk.neT h.two h.T.qa.at_ (by decide), Blk.neT h.two h.T.qb.at_ (by decide), Blk.neT h.row h.two (by decide)⟩
theorem pq_da {w wr : World} {a b cb rr n : Nat} {s t R S : Cs} (h : PQ w wr a b cb rr n s t R S) (hn : n ≤ 100000) (y : OpE) : Calls Try.prog 15 #[ptr a, .agg (opc y)] wr fun e w' => e = .returned (.bool (cutF y s)) ∧ PQ w w' a b cb rr (n + 1) (doesF y s) t R S ∧ wr.grownBy w' (some a) :=
  (tq_da h.T hn y).mono fun e w' ⟨he, T, g⟩ => ⟨he, ⟨T, h.row.far g h.na.1, Blk.far h.two g h.na.2.2.1, h.nc, h.nr⟩, g⟩
theorem pq_db {w wr : World} {a b cb rr n : Nat} {s t R S : Cs} (h : PQ w wr a b cb rr n s t R S) (hn : n ≤ 100000) (y : OpE) : Calls Try.prog 15 #[ptr b, .agg (opc y)] wr fun e w' => e = .returned (.bool (cutF y t)) ∧ PQ w w' a b cb rr (n + 1) s (doesF y t) R S ∧ wr.grownBy w' (some b) :=
  (tq_db h.T hn y).mono fun e w' ⟨he, T, g⟩ => ⟨he, ⟨T, h.row.far g h.na.2.1, Blk.far h.two g h.na.2.2.2.1, h.nc, h.nr⟩, g⟩
theorem TQ.far {w wr wr' : World} {a b c n : Nat} {s t : Cs} (h : TQ w wr a b n s t) (g : wr.grownBy wr' (some c)) (ha : a ≠ c) (hb : b ≠ c) (hc : w.heap.size ≤ c) : TQ w wr' a b n s t := ⟨h.qa.far g ha hc, h.qb.far g hb hc, h.ne⟩
theorem PQ.farR {w wr wr' : World} {a b cb rr n : Nat} {s t R S R' S' : Cs} (h : PQ w wr a b cb rr n s t R S) (g : wr.grownBy wr' (some rr)) (h2 : RB wr' rr R' S') : PQ w wr' a b cb rr n s t R' S' :=
  ⟨h.T.far g h.na.2.2.1.symm h.na.2.2.2.1.symm h.nr, h.row.far g h.na.2.2.2.2, h2, h.nc, h.nr⟩
theorem pq_sa {w wr : World} {a b cb rr n : Nat} {s t R S : Cs} (h : PQ w wr a b cb rr n s t R S) (hi : inB R) (y : OpE) : Calls Try.prog 16 #[ptrO rr 0, .agg (opc y)] wr fun e w' => e = .returned (.bool (cutF y R)) ∧ PQ w w' a b cb rr n s t (doesF y R) S ∧ wr.grownBy w' (some rr) :=
  (should_0 rr R S y wr h.two hi).mono fun e w' ⟨he, h1, g⟩ => ⟨he, h.farR g h1, g⟩
theorem pq_sb {w wr : World} {a b cb rr n : Nat} {s t R S : Cs} (h : PQ w wr a b cb rr n s t R S) (hi : inB S) (y : OpE) : Calls Try.prog 16 #[ptrO rr 7, .agg (opc y)] wr fun e w' => e = .returned (.bool (cutF y S)) ∧ PQ w w' a b cb rr n s t R (doesF y S) ∧ wr.grownBy w' (some rr) :=
  (should_7 rr S R y wr h.two hi).mono fun e w' ⟨he, h1, g⟩ => ⟨he, h.farR g h1, g⟩
theorem pq_ma {w wr : World} {a b cb rr n : Nat} {s t R S : Cs} (h : PQ w wr a b cb rr n s t R S) (hn : n ≤ 100000) (x : Int) : Calls Try.prog 17 #[ptr a, .int .i64 x] wr fun e w' => e = .returned (.bool (mayF x s)) ∧ PQ w w' a b cb rr n s t R S ∧ wr.grownBy w' none :=
  (qe_may h.T.qa hn x).mono fun e w' ⟨he, _, g⟩ => ⟨he, h.keep g, g⟩
theorem pq_mb {w wr : World} {a b cb rr n : Nat} {s t R S : Cs} (h : PQ w wr a b cb rr n s t R S) (hn : n ≤ 100000) (x : Int) : Calls Try.prog 17 #[ptr b, .int .i64 x] wr fun e w' => e = .returned (.bool (mayF x t)) ∧ PQ w w' a b cb rr n s t R S ∧ wr.grownBy w' none :=
  (qe_may h.T.qb hn x).mono fun e w' ⟨he, _, g⟩ => ⟨he, h.keep g, g⟩
theorem pq_ra {w wr : World} {a b cb rr n : Nat} {s t R S : Cs} (h : PQ w wr a b cb rr n s t R S) (hi : inB R) (x : Int) : Calls Try.prog 18 #[ptrO rr 0, .int .i64 x] wr fun e w' => e = .returned (.bool (mayF x R)) ∧ PQ w w' a b cb rr n s t R S ∧ wr.grownBy w' none :=
  (rmay_0 rr R S x wr h.two hi.2.1).mono fun e w' ⟨he, g⟩ => ⟨he, h.keep g, g⟩
theorem pq_rb {w wr : World} {a b cb rr n : Nat} {s t R S : Cs} (h : PQ w wr a b cb rr n s t R S) (hi : inB S) (x : Int) : Calls Try.prog 18 #[ptrO rr 7, .int .i64 x] wr fun e w' => e = .returned (.bool (mayF x S)) ∧ PQ w w' a b cb rr n s t R S ∧ wr.grownBy w' none :=
  (rmay_7 rr S R x wr h.two hi.2.1).mono fun e w' ⟨he, g⟩ => ⟨he, h.keep g, g⟩
theorem pq_va {w wr : World} {a b cb rr n : Nat} {s t R S : Cs} (h : PQ w wr a b cb rr n s t R S) : Calls Try.prog 19 #[ptr a] wr fun e w' => e = .returned (.agg (vwc s)) ∧ PQ w w' a b cb rr n s t R S ∧ wr.grownBy w' none :=
  (qe_view h.T.qa).mono fun e w' ⟨he, _, g⟩ => ⟨he, h.keep g, g⟩
theorem pq_vb {w wr : World} {a b cb rr n : Nat} {s t R S : Cs} (h : PQ w wr a b cb rr n s t R S) : Calls Try.prog 19 #[ptr b] wr fun e w' => e = .returned (.agg (vwc t)) ∧ PQ w w' a b cb rr n s t R S ∧ wr.grownBy w' none :=
  (qe_view h.T.qb).mono fun e w' ⟨he, _, g⟩ => ⟨he, h.keep g, g⟩
end Go.Proofs.Ytgmnlhbfhdgidaa
