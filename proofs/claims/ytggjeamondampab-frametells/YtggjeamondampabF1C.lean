/- Keep. -/
import Derived.Test.YtggjeamondampabF1D
import Derived.Test.YtggjeamondampabFM
import Derived.Test.YtggjeamondampabFY5
namespace Go.Proofs.Ytggjeamondampab
open Go.RowKit
set_option linter.unusedVariables false
set_option maxRecDepth 100000
set_option maxHeartbeats 4000000

def keepS (k : Int) : Nat := if k = 6 ∨ k = 8 then 2 else if k = 4 ∨ k = 5 ∨ k = 16 ∨ k = 17 ∨ k = 18 ∨ k = 20 ∨ k = 21 ∨ k = 22 ∨ k = 30 then 1 else 0
/-- What is kept of a frame. -/
def keepF (f : Fr) : Fr := if keepS f.kind = 2 then { f with size := (f.data.length : Int), data := [], tail := false } else if keepS f.kind = 1 then f else Fr.zero

def KeepPost (f : Fr) (w : World) (e : Ending) (w' : World) : Prop :=
  ∃ d' r', e = .returned (.tuple #[(keepF f).val d' r', .bool (decide (0 < keepS f.kind))]) ∧ OwnB w.heap.size w' d' (keepF f).data ∧ OwnR w.heap.size w' r' (keepF f).runs ∧ w.grownBy w' none

theorem keep_zero (f : Fr) (d r : Value) (w : World) (h : keepS f.kind = 0) : Calls Try.prog 20 #[f.val d r] w (KeepPost f w) := by
  have hk : f.kind ≠ 6 ∧ f.kind ≠ 8 ∧ f.kind ≠ 4 ∧ f.kind ≠ 5 ∧ f.kind ≠ 16 ∧ f.kind ≠ 17 ∧ f.kind ≠ 18 ∧ f.kind ≠ 20 ∧ f.kind ≠ 21 ∧ f.kind ≠ 22 ∧ f.kind ≠ 30 := by
    unfold keepS at h
    split at h
    · cases h
    · split at h
      · cases h
      · omega
  have e : keepF f = Fr.zero := by unfold keepF; rw [h]; rfl
  have FIN : Hid (∀ W, w.grownBy W none → KeepPost f w (.returned (.tuple #[Fr.zero.val nilS nilS, .bool false])) W) := fun W g => ⟨nilS, nilS, by rw [e, h]; rfl, by rw [e]; exact World.ownsRow_nil _ _ _ _, by rw [e]; exact World.ownsRow_nil _ _ _ _, g⟩
  obtain ⟨q0, q1, q2, q3, q4, q5, q6, q7, q8, q9, q10⟩ := hk
  have t0 := beq_no q0; have t1 := beq_no q1; have t2 := beq_no q2; have t3 := beq_no q3; have t4 := beq_no q4; have t5 := beq_no q5
  have t6 := beq_no q6; have t7 := beq_no q7; have t8 := beq_no q8; have t9 := beq_no q9; have t10 := beq_no q10
  clear e h q0 q1 q2 q3 q4 q5 q6 q7 q8 q9 q10
  obtain ⟨B1, B2, g2⟩ := Blk.two w (f.cs d r) (Fr.zero.cs nilS nilS) 26 26
  have HB := hide (And.intro B2 g2)
  clear B1 B2 g2
  go_enter Try.func20, Try.ntmps20
  go_wp2
  refine bodyPost_ret (results_ct (p := 2) (u := 3) (tp := 26) Try.results20 _ _ (w.heap.size + 1) (Fr.zero.cs nilS nilS) _ rfl (unhide HB).1 Try.underlying26 rfl Try.size26) rfl ?_
  exact unhide FIN _ (unhide HB).2

theorem own_nilB (b : Nat) (W : World) : OwnB b W nilS [] := World.ownsRow_nil _ _ _ _
theorem own_nilR (b : Nat) (W : World) : OwnR b W nilS [] := World.ownsRow_nil _ _ _ _

/-- A row that a call made is kept where a cell of another block is written. -/
theorem OwnB.cell {base b j : Nat} {W : World} {v u : Value} {T : List Int} {cs : Array Value} (h : OwnB base W v T) (hb : Blk W b cs 26) : OwnB base (W.setCell ⟨b, j, none⟩ u) v T :=
  World.ownsRow.kept h (grown_at (World.grownBy.refl W _) j u) (.inr (h.neBlk hb (by decide)))
theorem OwnR.cell {base b j : Nat} {W : World} {v u : Value} {T : List (Int × Int)} {cs : Array Value} (h : OwnR base W v T) (hb : Blk W b cs 26) : OwnR base (W.setCell ⟨b, j, none⟩ u) v T :=
  World.ownsRow.kept h (grown_at (World.grownBy.refl W _) j u) (.inr (h.neBlk hb (by decide)))
theorem OwnB.row {base b : Nat} {W : World} {v : Value} {T : List Int} {cs C : Array Value} (h : OwnB base W v T) (hb : Blk W b cs 26) : OwnB base (W.setRow b C) v T :=
  World.ownsRow.kept h (grown_rowS W b C) (.inr (h.neBlk hb (by decide)))
theorem OwnR.row {base b : Nat} {W : World} {v : Value} {T : List (Int × Int)} {cs C : Array Value} (h : OwnR base W v T) (hb : Blk W b cs 26) : OwnR base (W.setRow b C) v T :=
  World.ownsRow.kept h (grown_rowS W b C) (.inr (h.neBlk hb (by decide)))

/-- Behind the switch: the runs are made anew, and all is told. -/
theorem keep_end (f : Fr) (w W : World) (b0 b1 : Nat) (p : Option Addr) (q : Nat) (v3 r0 : Value) (C0 : Array Value) (hb0 : w.heap.size ≤ b0) (hb1 : w.heap.size ≤ b1) (hne : b0 ≠ b1) (g : w.grownBy W none)
    (B1 : Blk W b0 (f.cs v3 r0) 26) (B2 : Blk W b1 C0 26) (oB : OwnB w.heap.size W v3 f.data) (hr : RdR w p f.runs) (hrl : f.runs.length * 16 ≤ 140737488351232) :
    ∃ ra rc W5, (∀ ty, (Builtin.append_ #[23, 23] ty #[.slice none 0 0, .slice p f.runs.length q]).run Try.prog W = .ok (.slice ra f.runs.length rc) W5) ∧ W.grownBy W5 none ∧ Blk W5 b0 (f.cs v3 r0) 26 ∧
      Blk (W5.setCell ⟨b0, 12, none⟩ (.slice ra f.runs.length rc)) b0 (f.cs v3 (.slice ra f.runs.length rc)) 26 ∧ Blk (W5.setCell ⟨b0, 12, none⟩ (.slice ra f.runs.length rc)) b1 C0 26 ∧
      Blk ((W5.setCell ⟨b0, 12, none⟩ (.slice ra f.runs.length rc)).setRow b1 (f.cs v3 (.slice ra f.runs.length rc))) b1 (f.cs v3 (.slice ra f.runs.length rc)) 26 ∧
      OwnB w.heap.size ((W5.setCell ⟨b0, 12, none⟩ (.slice ra f.runs.length rc)).setRow b1 (f.cs v3 (.slice ra f.runs.length rc))) v3 f.data ∧
      OwnR w.heap.size ((W5.setCell ⟨b0, 12, none⟩ (.slice ra f.runs.length rc)).setRow b1 (f.cs v3 (.slice ra f.runs.length rc))) (.slice ra f.runs.length rc) f.runs ∧
      w.grownBy ((W5.setCell ⟨b0, 12, none⟩ (.slice ra f.runs.length rc)).setRow b1 (f.cs v3 (.slice ra f.runs.length rc))) none := by
  obtain ⟨ra, rc, W5, hap, oR, g5⟩ := app_rdR (w0 := W) q (own_nilR W.heap.size W) (World.grownBy.refl W none) (hr.grow g) (by simp; omega)
  simp only [List.length_nil, Nat.zero_add, List.nil_append] at hap oR
  have B5 := B1.grown g5
  have B6 : Blk (W5.setCell ⟨b0, 12, none⟩ (.slice ra f.runs.length rc)) b0 (f.cs v3 (.slice ra f.runs.length rc)) 26 := B5.setC 12 _
  have B7 := (B2.grown g5).setO b0 12 (.slice ra f.runs.length rc) hne
  have oR' : OwnR w.heap.size W5 (.slice ra f.runs.length rc) f.runs := oR.mono g.size
  exact ⟨ra, rc, W5, hap, g5, B5, B6, B7, B7.row _, ((oB.keepN g5).cell B5).row B7, (oR'.cell B5).row B7, grown_row (grown_set (g.trans g5) b0 12 _ hb0) b1 _ hb1⟩
end Go.Proofs.Ytggjeamondampab
