/- The reader's part: what it holds. -/
import Derived.Test.YtggjeamondampaaFX6
import Derived.Test.YtggjeamondampaaFK
namespace Go.Proofs.Ytggjeamondampaa
open Go.RowKit
set_option linter.unusedVariables false
set_option maxRecDepth 100000
set_option maxHeartbeats 4000000

/-- The bytes that came in. -/
structure RB (w0 : World) (a : Option Addr) (l : List Int) (c : Nat) : Prop where
  rd0 : Rd w0 a l
  cap : l.length ≤ c
  max : c ≤ maxLen
  inb : ∀ x, a = some x → x.block < w0.heap.size
  pl : ∀ x, a = some x → ∃ b o, x = ⟨b, o, none⟩
  len : l.length ≤ 4000000000000
theorem grown_add {w w1 w' : World} {g : Nat} {r : Option Nat} (hg : w.grownBy w1 (some g)) (h : w1.grownBy w' r) (hr : ∀ k, r = some k → w.heap.size ≤ k ∨ k = g) : w.grownBy w' (some g) :=
  ⟨h.os.trans hg.os, h.tape.trans hg.tape, h.output.trans hg.output, Nat.le_trans hg.size h.size, fun k hk hn => by
    rw [h.block k (Nat.lt_of_lt_of_le hk hg.size) (fun e => (hr k e.symm).elim (fun h1 => by omega) (fun h1 => hn (congrArg some h1)))]
    exact hg.block k hk hn⟩
theorem grown_kept {w w1 w' : World} {r : Option Nat} (hg : w.grownBy w1 r) (h : w1.grownBy w' none) : w.grownBy w' r :=
  ⟨h.os.trans hg.os, h.tape.trans hg.tape, h.output.trans hg.output, Nat.le_trans hg.size h.size, fun k hk hn => by
    rw [h.block k (Nat.lt_of_lt_of_le hk hg.size) (by simp)]
    exact hg.block k hk hn⟩
/-- A reader at k, and a frame's block b, both made since w0. -/
structure PI (w0 W : World) (g b : Nat) (a : Option Addr) (l : List Int) (c k : Nat) (y : Int) (f : Fr) (d r : Value) : Prop where
  st : RB w0 a l c
  rb : Blk W g (rdr (.slice a l.length c) k y) 105
  at_ : k ≤ l.length
  blk : Blk W b (f.cs d r) 26
  own : OwnB w0.heap.size W d f.data
  runs : OwnR w0.heap.size W r f.runs
  ne : b ≠ g
  ng : ∀ x, a = some x → x.block ≠ g
  gb : w0.heap.size ≤ b
  gr : w0.grownBy W (some g)
  off : 0 ≤ f.offset ∧ f.offset ≤ MAXN
  lar : ∀ s ∈ f.runs, s.2 ≤ MAXN
section
variable {w0 W W' : World} {g b : Nat} {a : Option Addr} {l : List Int} {c k : Nat} {y : Int} {f : Fr} {d r : Value}
theorem PI.rdg (h : PI w0 W g b a l c k y f d r) : Rdg W g a l c k y :=
  ⟨h.rb, h.st.rd0.far h.gr (fun x hx => ⟨h.ng x hx, h.st.inb x hx⟩), h.st.cap, h.st.max, h.at_, fun x hx => ⟨h.ng x hx, Nat.lt_of_lt_of_le (h.st.inb x hx) h.gr.size⟩, h.st.pl⟩
theorem OwnB.neBlk {base : Nat} {cs : Array Value} {t : TypeId} {v : Value} {T : List Int} (h : OwnB base W v T) (hb : Blk W g cs t) (ht : t ≠ 5) : v.ownBlock ≠ some g := fun e => by
  rcases h.2 with ⟨rfl, -⟩ | ⟨b', c', cur, rfl, q1, q2, -⟩
  · cases e
  · injection e with e
    have hb' : W.heap[g]? = some (.cells cs t (0, 0)) := hb
    rw [← e, q2] at hb'
    injection hb' with hb'
    injection hb' with _ h2
    exact ht h2.symm
theorem OwnR.neBlk {base : Nat} {cs : Array Value} {t : TypeId} {v : Value} {T : List (Int × Int)} (h : OwnR base W v T) (hb : Blk W g cs t) (ht : t ≠ 81) : v.ownBlock ≠ some g := fun e => by
  rcases h.2 with ⟨rfl, -⟩ | ⟨b', c', cur, rfl, q1, q2, -⟩
  · cases e
  · injection e with e
    have hb' : W.heap[g]? = some (.cells cs t (0, 0)) := hb
    rw [← e, q2] at hb'
    injection hb' with hb'
    injection hb' with _ h2
    exact ht h2.symm
theorem OwnR.mono {base base' : Nat} {w : World} {v : Value} {T : List (Int × Int)} (h : OwnR base w v T) (hb : base' ≤ base) : OwnR base' w v T := by
  refine ⟨h.1, h.2.imp id ?_⟩
  rintro ⟨g, c, cur, e1, q1, q2⟩
  exact ⟨g, c, cur, e1, Nat.le_trans hb q1, q2⟩
/-- The reader has gone on. -/
theorem PI.step {k' : Nat} (h : PI w0 W g b a l c k y f d r) (R : Rdg W' g a l c k' y) (hg : W.grownBy W' (some g)) : PI w0 W' g b a l c k' y f d r :=
  ⟨h.st, R.blk, R.at_, h.blk.far hg h.ne, World.ownsRow.kept h.own hg (.inr (h.own.neBlk h.rb (by decide))), World.ownsRow.kept h.runs hg (.inr (h.runs.neBlk h.rb (by decide))), h.ne, h.ng, h.gb, grown_add h.gr hg (fun k e => by cases e; exact .inr rfl), h.off, h.lar⟩
theorem PI.gave (h : PI w0 W g b a l c k y f d r) {why : Int} {v : Value} {e : Ending} (hv : Gave g (.slice a l.length c) why W e W') : (∃ v : Int, e = .panicked [{ v := .iface 32 (.int .i64 v), recovered := false }]) ∧ (∃ at_ : Int, Blk W' g (rdr (.slice a l.length c) at_ why) 105) ∧ w0.grownBy W' (some g) :=
  ⟨hv.1, hv.2.1, grown_add h.gr hv.2.2 (fun k e => by cases e; exact .inr rfl)⟩
/-- A cell of the frame is written. -/
theorem PI.set {f' : Fr} {d' r' : Value} (h : PI w0 W g b a l c k y f d r) (j : Nat) (v : Value) (hc : (f.cs d r).setIfInBounds j v = f'.cs d' r') (ho : OwnB w0.heap.size W d' f'.data) (hr : OwnR w0.heap.size W r' f'.runs) (off : 0 ≤ f'.offset ∧ f'.offset ≤ MAXN) (lar : ∀ s ∈ f'.runs, s.2 ≤ MAXN) : PI w0 (W.setCell ⟨b, j, none⟩ v) g b a l c k y f' d' r' := by
  have hg : W.grownBy (W.setCell ⟨b, j, none⟩ v) (some b) := grown_at (World.grownBy.refl W _) j v
  refine ⟨h.st, h.rb.setO b j v h.ne, h.at_, by have := h.blk.setC j v; rw [hc] at this; exact this, World.ownsRow.kept ho hg (.inr (ho.neBlk h.blk (by decide))), World.ownsRow.kept hr hg (.inr (hr.neBlk h.blk (by decide))), h.ne, h.ng, h.gb, grown_add h.gr hg (fun k e => by cases e; exact .inl h.gb), off, lar⟩
theorem PI.alloc (h : PI w0 W g b a l c k y f d r) (o : Obj) : PI w0 (W.alloc o) g b a l c k y f d r := by
  have gA := World.grownBy_alloc W o none
  exact ⟨h.st, h.rb.alloc o, h.at_, h.blk.alloc o, World.ownsRow.kept h.own gA (by cases d.ownBlock <;> simp), World.ownsRow.kept h.runs gA (by cases r.ownBlock <;> simp), h.ne, h.ng, h.gb, grown_kept h.gr gA, h.off, h.lar⟩
end
/-- What part answers. -/
def PartPost (w0 : World) (g b : Nat) (a : Option Addr) (l : List Int) (c k : Nat) (y : Int) (f : Fr) (q : Nat) (e : Ending) (w' : World) : Prop :=
  (∃ f' l1 d' r', readP q f (l.drop k) = .inl (f', l1) ∧ e = .returned (.tuple #[]) ∧ l1 = l.drop (l.length - l1.length) ∧ PI w0 w' g b a l c (l.length - l1.length) y f' d' r') ∨
  (∃ e', readP q f (l.drop k) = .inr e' ∧ (∃ v : Int, e = .panicked [{ v := .iface 32 (.int .i64 v), recovered := false }]) ∧ (∃ at_ : Int, Blk w' g (rdr (.slice a l.length c) at_ e') 105) ∧ w0.grownBy w' (some g))
end Go.Proofs.Ytggjeamondampaa
