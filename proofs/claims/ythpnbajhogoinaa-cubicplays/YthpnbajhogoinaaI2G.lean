/- The document's New; two pairs of controllers. -/
import Derived.Test.YthpnbajhogoinaaI2F
import Derived.Laws.Bits128
namespace Go.Proofs.Ythpnbajhogoinaa
open Go.RowKit Fl
set_option linter.unusedVariables false
set_option maxRecDepth 100000
set_option maxHeartbeats 4000000
attribute [local go_sem] run_store_float

theorem and_one_i64 (n : Int) : bits .and .i64 n 1 = n % 2 := by
  have h1 : (BitVec.ofInt 64 1).toNat = 2 ^ 1 - 1 := by decide
  have key : (BitVec.ofInt 64 n &&& BitVec.ofInt 64 1).toNat = (n % ((2 ^ 64 : Nat) : Int)).toNat % 2 ^ 1 := by
    rw [BitVec.toNat_and, BitVec.toNat_ofInt, h1, Nat.and_two_pow_sub_one_eq_mod]
  show IntKind.i64.wrap ((BitVec.ofInt 64 n &&& BitVec.ofInt 64 1).toNat : Nat) = n % 2
  rw [key, IntKind.wrap_i64]
  omega

theorem Blk.neT {w : World} {g g' : Nat} {cs cs' : Array Value} {t t' : TypeId} (h : Blk w g cs t) (h' : Blk w g' cs' t') (ht : t ≠ t') : g ≠ g' := by
  rintro rfl
  have := (show w.heap[g]? = _ from h).symm.trans (show w.heap[g]? = _ from h')
  simp at this
  exact ht this.2

/-- Two controllers beside one another. -/
structure TQ (w wr : World) (a b n : Nat) (s t : Cs) : Prop where
  qa : QE w wr a n s
  qb : QE w wr b n t
  ne : a ≠ b
theorem TQ.keep {w wr wr' : World} {a b n : Nat} {s t : Cs} (h : TQ w wr a b n s t) (g : wr.grownBy wr' none) : TQ w wr' a b n s t := ⟨h.qa.keep g, h.qb.keep g, h.ne⟩
theorem TQ.up {w wr : World} {a b n k : Nat} {s t : Cs} (h : TQ w wr a b n s t) (hk : n ≤ k) : TQ w wr a b k s t := ⟨h.qa.up hk, h.qb.up hk, h.ne⟩
theorem tq_da {w wr : World} {a b n : Nat} {s t : Cs} (h : TQ w wr a b n s t) (hn : n ≤ 9999) (y : OpE) : Calls Try.prog 15 #[ptr a, .agg (opc y)] wr fun e w' => e = .returned (.bool (didF y s)) ∧ TQ w w' a b (n + 1) (doesF y s) t ∧ wr.grownBy w' (some a) :=
  (qe_does h.qa hn y).mono fun e w' ⟨he, h1, g⟩ => ⟨he, ⟨h1, (h.qb.far g h.ne.symm h.qa.new).up (Nat.le_succ n), h.ne⟩, g⟩
theorem tq_db {w wr : World} {a b n : Nat} {s t : Cs} (h : TQ w wr a b n s t) (hn : n ≤ 9999) (y : OpE) : Calls Try.prog 15 #[ptr b, .agg (opc y)] wr fun e w' => e = .returned (.bool (didF y t)) ∧ TQ w w' a b (n + 1) s (doesF y t) ∧ wr.grownBy w' (some b) :=
  (qe_does h.qb hn y).mono fun e w' ⟨he, h1, g⟩ => ⟨he, ⟨(h.qa.far g h.ne h.qb.new).up (Nat.le_succ n), h1, h.ne⟩, g⟩
theorem tq_va {w wr : World} {a b n : Nat} {s t : Cs} (h : TQ w wr a b n s t) : Calls Try.prog 19 #[ptr a] wr fun e w' => e = .returned (.agg (vwc s)) ∧ TQ w w' a b n s t ∧ wr.grownBy w' none :=
  (qe_view h.qa).mono fun e w' ⟨he, _, g⟩ => ⟨he, h.keep g, g⟩
theorem tq_vb {w wr : World} {a b n : Nat} {s t : Cs} (h : TQ w wr a b n s t) : Calls Try.prog 19 #[ptr b] wr fun e w' => e = .returned (.agg (vwc t)) ∧ TQ w w' a b n s t ∧ wr.grownBy w' none :=
  (qe_view h.qb).mono fun e w' ⟨he, _, g⟩ => ⟨he, h.keep g, g⟩

theorem grown_rowN {w W : World} (g : w.grownBy W none) (b : Nat) (cs : Array Value) (hb : w.heap.size ≤ b) : w.grownBy (W.setRow b cs) none := by
  refine ⟨g.os, g.tape, g.output, ?_, ?_⟩
  · show w.heap.size ≤ (W.heap.modify b _).size
    rw [Array.size_modify]; exact g.size
  · intro i hi hn
    have e : (W.setRow b cs).heap[i]? = W.heap[i]? := by
      simp only [World.setRow, Array.getElem?_modify]
      rw [if_neg (by omega)]
    rw [e]; exact g.block i hi hn
theorem Try.sizeR10 : (Try.prog.info? 65).map (·.size) = some 7 := by kernel_rfl
theorem Try.sizeR11 : (Try.prog.info? 35).map (·.size) = some 12 := by kernel_rfl
abbrev r10c (m : Int) : Array Value := #[.int .i64 m, .int .i64 0, .int .i64 0, .int .i64 (firstF m), .int .i64 4611686018427387903, .int .i64 0, .int .i64 (-1)]
theorem rnew10_any (m : Int) (h : fitsF m) (w : World) : Calls Try.prog 29 #[.int .i64 m] w fun e w' => e = .returned (.agg (r10c m)) ∧ w.grownBy w' none := by
  obtain ⟨m1, m2⟩ := h
  have hC : (10 * m ≤ 14720 ∧ firstF m = 10 * m) ∨ (14720 < 10 * m ∧ 2 * m ≤ 14720 ∧ firstF m = 14720) ∨ (14720 < 2 * m ∧ firstF m = 2 * m) := by unfold firstF; omega
  have F := hide (And.intro (Blk.new w (r10c m) 65) (World.grownBy_alloc w (.cells (r10c m) 65) none))
  unfold r10c at *
  generalize firstF m = S at *
  rcases hC with ⟨h1, h2⟩ | ⟨h1, h3, h2⟩ | ⟨h1, h2⟩
  all_goals
    subst h2
    go_enter Try.func29, Try.ntmps29
    go_wp2
    refine bodyPost_ret (results_cell_row rfl _ _ w.heap.size 65 _ (0, 0) _ rfl (unhide F).1 Try.underlying65 rfl Try.sizeR10) rfl ?_
    exact ⟨rfl, (unhide F).2⟩
theorem rnew_any (m : Int) (h : fitsF m) (w : World) : Calls Try.prog 13 #[.int .i64 m] w fun e w' => e = .returned (.agg (rcc (cs0 m))) ∧ w.grownBy w' none := by
  have N := fun W => rnew10_any m h W
  have E : Hid (rcc (cs0 m) = #[.int .i64 m, .int .i64 0, .int .i64 (-1), .int .i64 0, fv 0, fv 0, fv 0, fv 0, .int .i64 (firstF m), .int .i64 4611686018427387903, .int .i64 0, .int .i64 (-1)]) := rfl
  clear h
  unfold r10c at N
  generalize rcc (cs0 m) = A at *
  generalize firstF m = S at *
  go_enter Try.func13, Try.ntmps13
  go_wp2_with fail
  refine (N _).mono ?_
  rintro e W ⟨rfl, g⟩
  clear N
  have B0 := Blk.new w #[.int .i64 0, .int .i64 0, .int .i64 0, .int .i64 0, fv 0, fv 0, fv 0, fv 0, .int .i64 0, .int .i64 0, .int .i64 0, .int .i64 0] 35
  have bN := (B0.grown g).grown (World.grownBy_alloc W (.cells #[.int .i64 m, .int .i64 0, .int .i64 0, .int .i64 S, .int .i64 4611686018427387903, .int .i64 0, .int .i64 (-1)] 65) none)
  have gN := ((World.grownBy_alloc w _ none).trans g).trans (World.grownBy_alloc W (.cells #[.int .i64 m, .int .i64 0, .int .i64 0, .int .i64 S, .int .i64 4611686018427387903, .int .i64 0, .int .i64 (-1)] 65) none)
  have hb0 : w.heap.size ≤ w.heap.size := Nat.le_refl _
  obtain ⟨b0, eb0⟩ : ∃ b0, b0 = w.heap.size := ⟨_, rfl⟩
  rw [← eb0] at bN
  have hb0 : w.heap.size ≤ b0 := by omega
  have F := hide (And.intro (Blk.row bN #[.int .i64 m, .int .i64 0, .int .i64 (-1), .int .i64 0, fv 0, fv 0, fv 0, fv 0, .int .i64 S, .int .i64 4611686018427387903, .int .i64 0, .int .i64 (-1)]) (grown_rowN gN b0 #[.int .i64 m, .int .i64 0, .int .i64 (-1), .int .i64 0, fv 0, fv 0, fv 0, fv 0, .int .i64 S, .int .i64 4611686018427387903, .int .i64 0, .int .i64 (-1)] hb0))
  have BN := hide bN
  rw [← eb0]
  clear B0 g bN gN eb0 hb0
  go_wp2_with (refine wpList_store_row rfl _ _ _ rfl b0 #[.int .i64 m, .int .i64 0, .int .i64 (-1), .int .i64 0, fv 0, fv 0, fv 0, fv 0, .int .i64 S, .int .i64 4611686018427387903, .int .i64 0, .int .i64 (-1)] rfl rfl 35 _ (unhide BN) Try.sizeR11 rfl (by simp [Value.oneCell']) ?_)
  refine bodyPost_ret (results_cell_row rfl _ _ b0 35 _ (0, 0) _ rfl (unhide F).1 Try.underlying35 rfl Try.sizeR11) rfl ?_
  exact ⟨by rw [unhide E], (unhide F).2⟩
/-- What CubicPlays holds between rounds: the program's two, the row that names them, the document's two. -/
structure PQ (w wr : World) (a b cb rr n : Nat) (s t R S : Cs) : Prop where
  T : TQ w wr a b n s t
  row : Blk wr cb #[ptr a, ptr b] 30
  two : RB wr rr 0 12 R S
  nc : w.heap.size ≤ cb
  nr : w.heap.size ≤ rr
theorem RB.neT {w : World} {g g' o p : Nat} {R S : Cs} {cs : Array Value} {t : TypeId} (h : RB w g o p R S) (h' : Blk w g' cs t) (ht : 38 ≠ t) : g ≠ g' := by
  obtain ⟨c, h1, -⟩ := h
  exact Blk.neT h1 h' ht
theorem PQ.keep {w wr wr' : World} {a b cb rr n : Nat} {s t R S : Cs} (h : PQ w wr a b cb rr n s t R S) (g : wr.grownBy wr' none) : PQ w wr' a b cb rr n s t R S := ⟨h.T.keep g, h.row.grown g, h.two.grown g, h.nc, h.nr⟩
theorem PQ.na {w wr : World} {a b cb rr n : Nat} {s t R S : Cs} (h : PQ w wr a b cb rr n s t R S) : cb ≠ a ∧ cb ≠ b ∧ rr ≠ a ∧ rr ≠ b ∧ cb ≠ rr := ⟨Blk.neT h.row h.T.qa.at_ (by decide), Blk.neT h.row h.T.qb.at_ (by decide), RB.neT h.two h.T.qa.at_ (by decide), RB.neT h.two h.T.qb.at_ (by decide), (RB.neT h.two h.row (by decide)).symm⟩
theorem pq_da {w wr : World} {a b cb rr n : Nat} {s t R S : Cs} (h : PQ w wr a b cb rr n s t R S) (hn : n ≤ 9999) (y : OpE) : Calls Try.prog 15 #[ptr a, .agg (opc y)] wr fun e w' => e = .returned (.bool (didF y s)) ∧ PQ w w' a b cb rr (n + 1) (doesF y s) t R S ∧ wr.grownBy w' (some a) :=
  (tq_da h.T hn y).mono fun e w' ⟨he, T, g⟩ => ⟨he, ⟨T, h.row.far g h.na.1, h.two.far g h.na.2.2.1, h.nc, h.nr⟩, g⟩
theorem pq_db {w wr : World} {a b cb rr n : Nat} {s t R S : Cs} (h : PQ w wr a b cb rr n s t R S) (hn : n ≤ 9999) (y : OpE) : Calls Try.prog 15 #[ptr b, .agg (opc y)] wr fun e w' => e = .returned (.bool (didF y t)) ∧ PQ w w' a b cb rr (n + 1) s (doesF y t) R S ∧ wr.grownBy w' (some b) :=
  (tq_db h.T hn y).mono fun e w' ⟨he, T, g⟩ => ⟨he, ⟨T, h.row.far g h.na.2.1, h.two.far g h.na.2.2.2.1, h.nc, h.nr⟩, g⟩
theorem TQ.far {w wr wr' : World} {a b c n : Nat} {s t : Cs} (h : TQ w wr a b n s t) (g : wr.grownBy wr' (some c)) (ha : a ≠ c) (hb : b ≠ c) (hc : w.heap.size ≤ c) : TQ w wr' a b n s t := ⟨h.qa.far g ha hc, h.qb.far g hb hc, h.ne⟩
theorem PQ.farR {w wr wr' : World} {a b cb rr n : Nat} {s t R S R' S' : Cs} (h : PQ w wr a b cb rr n s t R S) (g : wr.grownBy wr' (some rr)) (h2 : RB wr' rr 0 12 R' S') : PQ w wr' a b cb rr n s t R' S' :=
  ⟨h.T.far g h.na.2.2.1.symm h.na.2.2.2.1.symm h.nr, h.row.far g h.na.2.2.2.2, h2, h.nc, h.nr⟩
theorem pq_sa {w wr : World} {a b cb rr n : Nat} {s t R S : Cs} (h : PQ w wr a b cb rr n s t R S) (m : Nat) (ok : R.Ok m) (hn : m ≤ 9999) (y : OpE) : Calls Try.prog 16 #[ptrO rr 0, .agg (opc y)] wr fun e w' => e = .returned (.bool (didF y R)) ∧ PQ w w' a b cb rr n s t (rdoesF y R) S ∧ wr.grownBy w' (some rr) :=
  (should_any rr 0 12 R S y wr h.two ⟨.inl (by decide), by decide⟩ m ok hn).mono fun e w' ⟨he, h1, g⟩ => ⟨he, h.farR g h1, g⟩
theorem pq_sb {w wr : World} {a b cb rr n : Nat} {s t R S : Cs} (h : PQ w wr a b cb rr n s t R S) (m : Nat) (ok : S.Ok m) (hn : m ≤ 9999) (y : OpE) : Calls Try.prog 16 #[ptrO rr 12, .agg (opc y)] wr fun e w' => e = .returned (.bool (didF y S)) ∧ PQ w w' a b cb rr n s t R (rdoesF y S) ∧ wr.grownBy w' (some rr) :=
  (should_any rr 12 0 S R y wr h.two.swap ⟨.inr (by decide), by decide⟩ m ok hn).mono fun e w' ⟨he, h1, g⟩ => ⟨he, h.farR g h1.swap, g⟩
theorem pq_ma {w wr : World} {a b cb rr n : Nat} {s t R S : Cs} (h : PQ w wr a b cb rr n s t R S) (hn : n ≤ 9999) (x : Int) : Calls Try.prog 17 #[ptr a, .int .i64 x] wr fun e w' => e = .returned (.bool (mayF x s)) ∧ PQ w w' a b cb rr n s t R S ∧ wr.grownBy w' none :=
  (qe_may h.T.qa hn x).mono fun e w' ⟨he, _, g⟩ => ⟨he, h.keep g, g⟩
theorem pq_mb {w wr : World} {a b cb rr n : Nat} {s t R S : Cs} (h : PQ w wr a b cb rr n s t R S) (hn : n ≤ 9999) (x : Int) : Calls Try.prog 17 #[ptr b, .int .i64 x] wr fun e w' => e = .returned (.bool (mayF x t)) ∧ PQ w w' a b cb rr n s t R S ∧ wr.grownBy w' none :=
  (qe_may h.T.qb hn x).mono fun e w' ⟨he, _, g⟩ => ⟨he, h.keep g, g⟩
theorem pq_ra {w wr : World} {a b cb rr n : Nat} {s t R S : Cs} (h : PQ w wr a b cb rr n s t R S) (hf : 0 ≤ R.flight ∧ R.flight ≤ 1000000000000) (x : Int) : Calls Try.prog 18 #[ptrO rr 0, .int .i64 x] wr fun e w' => e = .returned (.bool (mayF x R)) ∧ PQ w w' a b cb rr n s t R S ∧ wr.grownBy w' none :=
  (rmay_any rr 0 12 R S x wr h.two hf).mono fun e w' ⟨he, g⟩ => ⟨he, h.keep g, g⟩
theorem pq_rb {w wr : World} {a b cb rr n : Nat} {s t R S : Cs} (h : PQ w wr a b cb rr n s t R S) (hf : 0 ≤ S.flight ∧ S.flight ≤ 1000000000000) (x : Int) : Calls Try.prog 18 #[ptrO rr 12, .int .i64 x] wr fun e w' => e = .returned (.bool (mayF x S)) ∧ PQ w w' a b cb rr n s t R S ∧ wr.grownBy w' none :=
  (rmay_any rr 12 0 S R x wr h.two.swap hf).mono fun e w' ⟨he, g⟩ => ⟨he, h.keep g, g⟩
theorem pq_va {w wr : World} {a b cb rr n : Nat} {s t R S : Cs} (h : PQ w wr a b cb rr n s t R S) : Calls Try.prog 19 #[ptr a] wr fun e w' => e = .returned (.agg (vwc s)) ∧ PQ w w' a b cb rr n s t R S ∧ wr.grownBy w' none :=
  (qe_view h.T.qa).mono fun e w' ⟨he, _, g⟩ => ⟨he, h.keep g, g⟩
theorem pq_vb {w wr : World} {a b cb rr n : Nat} {s t R S : Cs} (h : PQ w wr a b cb rr n s t R S) : Calls Try.prog 19 #[ptr b] wr fun e w' => e = .returned (.agg (vwc t)) ∧ PQ w w' a b cb rr n s t R S ∧ wr.grownBy w' none :=
  (qe_view h.T.qb).mono fun e w' ⟨he, _, g⟩ => ⟨he, h.keep g, g⟩
/-- The document's windows, cell by cell. -/
theorem RB.wins {w : World} {b : Nat} {R S : Cs} (h : RB w b 0 12 R S) : w.cell? ⟨b, 8, none⟩ = some (.int .i64 R.size) ∧ w.cell? ⟨b, 9, none⟩ = some (.int .i64 R.thr) ∧ w.cell? ⟨b, 10, none⟩ = some (.int .i64 R.flight) ∧ w.cell? ⟨b, 11, none⟩ = some (.int .i64 R.began) ∧ w.cell? ⟨b, 20, none⟩ = some (.int .i64 S.size) ∧ w.cell? ⟨b, 21, none⟩ = some (.int .i64 S.thr) ∧ w.cell? ⟨b, 22, none⟩ = some (.int .i64 S.flight) ∧ w.cell? ⟨b, 23, none⟩ = some (.int .i64 S.began) := by
  obtain ⟨-, -, -, h1, h2, h3, h4⟩ := h.full
  obtain ⟨-, -, -, k1, k2, k3, k4⟩ := h.swap.full
  exact ⟨h1, h2, h3, h4, k1, k2, k3, k4⟩
end Go.Proofs.Ythpnbajhogoinaa
