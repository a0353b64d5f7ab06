/- Two pairs of estimators. -/
import Derived.Test.YtmcodfkmdpbjiaaJL
namespace Go.Proofs.Ytmcodfkmdpbjiaa
open Go.RowKit
set_option linter.unusedVariables false
set_option maxRecDepth 100000
set_option maxHeartbeats 4000000

theorem Blk.neT {w : World} {g g' : Nat} {cs cs' : Array Value} {t t' : TypeId} (h : Blk w g cs t) (h' : Blk w g' cs' t') (ht : t ≠ t') : g ≠ g' := by
  rintro rfl
  have := (show w.heap[g]? = _ from h).symm.trans (show w.heap[g]? = _ from h')
  simp at this
  exact ht this.2

structure PQ (w wr : World) (a b ra rb : Nat) (s t : Es) (R S : Rs) : Prop where
  T : TQ w wr a b s t
  A : RB wr ra R
  B : RB wr rb S
  ne : ra ≠ rb
  na : w.heap.size ≤ ra
  nb : w.heap.size ≤ rb
theorem PQ.keep {w wr wr' : World} {a b ra rb : Nat} {s t : Es} {R S : Rs} (h : PQ w wr a b ra rb s t R S) (g : wr.grownBy wr' none) : PQ w wr' a b ra rb s t R S := ⟨h.T.keep g, h.A.grown g, h.B.grown g, h.ne, h.na, h.nb⟩
theorem PQ.n1 {w wr : World} {a b ra rb : Nat} {s t : Es} {R S : Rs} (h : PQ w wr a b ra rb s t R S) : ra ≠ a ∧ ra ≠ b ∧ rb ≠ a ∧ rb ≠ b := ⟨Blk.neT h.A h.T.qa.at_ (by decide), Blk.neT h.A h.T.qb.at_ (by decide), Blk.neT h.B h.T.qa.at_ (by decide), Blk.neT h.B h.T.qb.at_ (by decide)⟩
theorem pq_sa {w wr : World} {a b ra rb : Nat} {s t : Es} {R S : Rs} (h : PQ w wr a b ra rb s t R S) (now l d : Int) : Calls Try.prog 14 #[ptr a, .int .i64 now, .int .i64 l, .int .i64 d] wr fun e w' => e = .returned (.tuple #[]) ∧ PQ w w' a b ra rb (smpF now l d s) t R S ∧ wr.grownBy w' (some a) :=
  (tq_a h.T now l d).mono fun e w' ⟨he, T, g⟩ => ⟨he, ⟨T, Blk.far h.A g h.n1.1, Blk.far h.B g h.n1.2.2.1, h.ne, h.na, h.nb⟩, g⟩
theorem pq_sb {w wr : World} {a b ra rb : Nat} {s t : Es} {R S : Rs} (h : PQ w wr a b ra rb s t R S) (now l d : Int) : Calls Try.prog 14 #[ptr b, .int .i64 now, .int .i64 l, .int .i64 d] wr fun e w' => e = .returned (.tuple #[]) ∧ PQ w w' a b ra rb s (smpF now l d t) R S ∧ wr.grownBy w' (some b) :=
  (tq_b h.T now l d).mono fun e w' ⟨he, T, g⟩ => ⟨he, ⟨T, Blk.far h.A g h.n1.2.1, Blk.far h.B g h.n1.2.2.2, h.ne, h.na, h.nb⟩, g⟩
theorem pq_ra {w wr : World} {a b ra rb : Nat} {s t : Es} {R S : Rs} (h : PQ w wr a b ra rb s t R S) : Calls Try.prog 13 #[ptr a] wr fun e w' => e = .returned (.tuple #[]) ∧ PQ w w' a b ra rb { s with restart := true } t R S ∧ wr.grownBy w' (some a) :=
  (tq_ra h.T).mono fun e w' ⟨he, T, g⟩ => ⟨he, ⟨T, Blk.far h.A g h.n1.1, Blk.far h.B g h.n1.2.2.1, h.ne, h.na, h.nb⟩, g⟩
theorem pq_rb {w wr : World} {a b ra rb : Nat} {s t : Es} {R S : Rs} (h : PQ w wr a b ra rb s t R S) : Calls Try.prog 13 #[ptr b] wr fun e w' => e = .returned (.tuple #[]) ∧ PQ w w' a b ra rb s { t with restart := true } R S ∧ wr.grownBy w' (some b) :=
  (tq_rb h.T).mono fun e w' ⟨he, T, g⟩ => ⟨he, ⟨T, Blk.far h.A g h.n1.2.1, Blk.far h.B g h.n1.2.2.2, h.ne, h.na, h.nb⟩, g⟩
theorem PQ.farA {w wr wr' : World} {a b ra rb : Nat} {s t : Es} {R R' S : Rs} (h : PQ w wr a b ra rb s t R S) (g : wr.grownBy wr' (some ra)) (hR : RB wr' ra R') : PQ w wr' a b ra rb s t R' S :=
  ⟨h.T.far g h.n1.1.symm h.n1.2.1.symm h.na, hR, Blk.far h.B g h.ne.symm, h.ne, h.na, h.nb⟩
theorem PQ.farB {w wr wr' : World} {a b ra rb : Nat} {s t : Es} {R S S' : Rs} (h : PQ w wr a b ra rb s t R S) (g : wr.grownBy wr' (some rb)) (hR : RB wr' rb S') : PQ w wr' a b ra rb s t R S' :=
  ⟨h.T.far g h.n1.2.2.1.symm h.n1.2.2.2.symm h.nb, Blk.far h.A g h.ne, hR, h.ne, h.na, h.nb⟩
theorem pq_xa {w wr : World} {a b ra rb : Nat} {s t : Es} {R S : Rs} (h : PQ w wr a b ra rb s t R S) (ok : R.Ok) (now l d : Int) : Calls Try.prog 15 #[ptr ra, .int .i64 now, .int .i64 l, .int .i64 d] wr fun e w' => e = .returned (.tuple #[]) ∧ PQ w w' a b ra rb s t (rsmpF now l d R) S ∧ wr.grownBy w' (some ra) :=
  (rsample_any ra R now l d wr h.A ok).mono fun e w' ⟨he, hR, g⟩ => ⟨he, h.farA g hR, g⟩
theorem pq_xb {w wr : World} {a b ra rb : Nat} {s t : Es} {R S : Rs} (h : PQ w wr a b ra rb s t R S) (ok : S.Ok) (now l d : Int) : Calls Try.prog 15 #[ptr rb, .int .i64 now, .int .i64 l, .int .i64 d] wr fun e w' => e = .returned (.tuple #[]) ∧ PQ w w' a b ra rb s t R (rsmpF now l d S) ∧ wr.grownBy w' (some rb) :=
  (rsample_any rb S now l d wr h.B ok).mono fun e w' ⟨he, hR, g⟩ => ⟨he, h.farB g hR, g⟩
theorem pq_la {w wr : World} {a b ra rb : Nat} {s t : Es} {i c : Int} {S : Rs} (h : PQ w wr a b ra rb s t (lkF i c s) S) (lk : Lk i c s) : Calls Try.prog 16 #[ptr a, ptr ra] wr fun e w' => e = .returned (.bool true) ∧ PQ w w' a b ra rb s t (lkF i c s) S ∧ wr.grownBy w' none :=
  (looks_any a ra i c s wr h.T.qa.at_ h.A lk).mono fun e w' ⟨he, g⟩ => ⟨he, h.keep g, g⟩
theorem pq_lb {w wr : World} {a b ra rb : Nat} {s t : Es} {i c : Int} {R : Rs} (h : PQ w wr a b ra rb s t R (lkF i c t)) (lk : Lk i c t) : Calls Try.prog 16 #[ptr b, ptr rb] wr fun e w' => e = .returned (.bool true) ∧ PQ w w' a b ra rb s t R (lkF i c t) ∧ wr.grownBy w' none :=
  (looks_any b rb i c t wr h.T.qb.at_ h.B lk).mono fun e w' ⟨he, g⟩ => ⟨he, h.keep g, g⟩

/-- What RttPlays holds between rounds. -/
def PI (w wr : World) (a b ra rb : Nat) (i j : Int) (c d : Int) (s t : Es) : Prop := PQ w wr a b ra rb s t (lkF i c s) (lkF j d t) ∧ Lk i c s ∧ Lk j d t

theorem pi_start {w w1 w2 w3 : World} {I G I' G' : Int} (fits : fitsF I G) (fits' : fitsF I' G') (g1 : w.grownBy w1 none) (h2 : w2 = (w1.alloc (.cells (rsc (rs0 I G)) 32)).alloc (.cells (esc (es0 I G)) 54)) (h3 : w3 = ((w2.alloc (.cells (rsc (rs0 I G)) 32)).alloc (.cells (rsc (rs0 I' G')) 32)).alloc (.cells (esc (es0 I' G')) 54)) :
    PI w (w3.alloc (.cells (rsc (rs0 I' G')) 32)) (w1.heap.size + 1) (w2.heap.size + 1 + 1) w2.heap.size w3.heap.size I I' 0 0 (es0 I G) (es0 I' G') := by
  have T := two_start fits fits' g1 h2 h3
  have z := alloc_size w2 (.cells (rsc (rs0 I G)) 32)
  have X := Blk.two (w2.alloc (.cells (rsc (rs0 I G)) 32)) (rsc (rs0 I' G')) (esc (es0 I' G')) 32 54
  rw [← h3] at X
  have ga := World.grownBy_alloc w3 (.cells (rsc (rs0 I' G')) 32) none
  have g12 : w1.grownBy w2 none := by rw [h2]; exact (Blk.two w1 _ _ _ _).2.2
  have s1 := g1.size
  have s2 := g12.size
  have s3 := X.2.2.size
  have A : RB (w3.alloc (.cells (rsc (rs0 I' G')) 32)) w2.heap.size (rs0 I G) := (Blk.grown (Blk.new w2 (rsc (rs0 I G)) 32) X.2.2).grown ga
  exact ⟨⟨T, A, Blk.new _ _ _, by omega, by omega, by omega⟩, lk_start fits, lk_start fits'⟩
end Go.Proofs.Ytmcodfkmdpbjiaa
