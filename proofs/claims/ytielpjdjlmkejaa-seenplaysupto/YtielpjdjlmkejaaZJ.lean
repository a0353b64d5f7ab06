/- What a collecting round keeps (the first part of TC). -/
import Derived.Test.YtielpjdjlmkejaaSX0
import Derived.RangeFuncNested
import Derived.RangeFuncBound
import Derived.RangeFuncCalls
import Derived.RangeFuncLeaves
import Derived.RangeFuncBox
import Derived.Shelf.Abstract
import Derived.WalkKit
import Derived.Maps.AppendAt
import Derived.OwnWalkIn
import Derived.TacticsInMore
import Derived.LoopNIn
import Derived.LoopIn
namespace Go.Proofs.Ytielpjdjlmkejaa
open Go.RowKit Go.Shelf
set_option linter.unusedVariables false
set_option maxRecDepth 100000
set_option maxHeartbeats 400000
attribute [local go_sem] Oper.semAt_some

abbrev encA (x : Sp) : Array Value := #[.agg #[.int .i64 x.1, .int .i64 x.2]]

/-- The row that a boxed slice owns. -/
def own1 (W : World) (B : Nat) : Option Nat := (W.cell? ⟨B, 0, none⟩).bind Value.ownBlock

/-- What a round that collects into box B leaves as it lay. -/
structure KpB (B : Nat) (W W' : World) : Prop where
  size : W.heap.size ≤ W'.heap.size
  same : ∀ k o, W.heap[k]? = some o → o.isCells = true → k ≠ B → own1 W B ≠ some k → W'.heap[k]? = some o
  own : ∀ j, own1 W' B = some j → j < W.heap.size → own1 W B = some j

theorem KpB.trans {B : Nat} {W1 W2 W3 : World} (h : KpB B W1 W2) (k : KpB B W2 W3) : KpB B W1 W3 :=
  ⟨Nat.le_trans h.size k.size, fun j o hj hc hB ho => by
    have hlt : j < W1.heap.size := (Array.getElem?_eq_some_iff.1 hj).1
    exact k.same j o (h.same j o hj hc hB ho) hc hB (fun e => ho (h.own j e hlt)),
   fun j e hlt => h.own j (k.own j e (Nat.lt_of_lt_of_le hlt h.size)) hlt⟩

theorem own1_same {B : Nat} {W W' : World} (h : W'.heap[B]? = W.heap[B]?) : own1 W' B = own1 W B := by
  unfold own1
  rw [World.cell?_of_block (w := W) (w' := W') (a := ⟨B, 0, none⟩) h]

theorem KpB.grown {B : Nat} {W W' : World} (hB : B < W.heap.size) (hg : W.grownBy W' none) : KpB B W W' :=
  ⟨hg.size, fun k o hk _ _ _ => by rw [hg.block k (Array.getElem?_eq_some_iff.1 hk).1 (by simp)]; exact hk,
   fun j e _ => by rw [← own1_same (hg.block B hB (by simp))]; exact e⟩

theorem KpB.put {B : Nat} {W : World} {l : Nat} {o o' : Obj} (hl : W.heap[l]? = some o) (hc : o.isCells = false) (hne : l ≠ B) : KpB B W (W.putObj l o') := by
  have hg := grownBy_putObj' W l o'
  refine ⟨hg.size, fun k p hk hp _ _ => ?_, fun j e _ => ?_⟩
  · have hkl : k ≠ l := by
      intro e
      rw [e, hl] at hk
      cases hk
      rw [hc] at hp
      cases hp
    rw [hg.block k (Array.getElem?_eq_some_iff.1 hk).1 (by simpa using hkl)]
    exact hk
  · rw [← own1_same (W := W) (B := B) (W' := W.putObj l o')]
    · exact e
    · by_cases hB : B < W.heap.size
      · exact hg.block B hB (by simpa using hne.symm)
      · unfold World.putObj
        have hB2 : W.heap.size ≤ B := Nat.le_of_not_lt hB
        simp [hB2]

theorem wpListIn_append_run {F : Fence} {n : Nat} (w : World) {ops : Array Oper} {rest : List Oper} {o : Oper} {a : Act} {Q : Exit → Act → World → Prop} (hgd : o.guard = none) (d s : Operand) (t t' : TypeId)
    (ho : o.op = .call { callee := .builtin .append, args := #[d, s], argTypes := #[t, t'] }) (v u : Value) (hd : a.eval d = v) (hs : a.eval s = u) {v' : Value} {w' : World}
    (hr : (Builtin.append_ #[t, t'] o.type #[v, u]).run Try.prog w = .ok v' w') (h : wpListIn F n Try.prog ops Q rest (a.put o.dst v') w') : wpListIn F n Try.prog ops Q (o :: rest) a w :=
  wpListIn_plain hgd fun K hK => by
    unfold Oper.wpIn
    refine ⟨?_, ?_⟩
    · simp [Oper.about, ho, resolve, Target.leads, Sem.run_pure]
    · rw [Oper.semAt_plain F _ _ (by rw [ho]; intro c hc'; cases hc')]
      simp [execOp, ho, resolve, invoke, builtin, hd, hs, hr, Result.andThen]
      exact hK _ _ h

/-- What the collecting loop keeps. -/
structure CI (w : World) (B : Nat) (W : World) (v : Value) (L : List Sp) : Prop where
  bx : Boxed W B 33 v
  row : Row W v L
  fr : Fresh w v
  grown : w.grownBy W none
  nb : w.heap.size ≤ B

theorem Row.block {W : World} {v : Value} {L : List Sp} (h : Row W v L) : ∀ g, v.ownBlock = some g → ∃ c, W.heap[g]? = some (.cells c 55 (0, 0)) := by
  intro g hg
  rcases Row.at h with ⟨rfl, _⟩ | ⟨g', c, sp, rfl, hR⟩
  · simp [Value.ownBlock] at hg
  · simp [Value.ownBlock] at hg
    subst hg
    exact ⟨_, hR.1⟩

theorem CI.own {w : World} {B : Nat} {W : World} {v : Value} {L : List Sp} (h : CI w B W v L) : own1 W B = v.ownBlock := by
  unfold own1
  rw [h.bx.cell]
  rfl

theorem CI.ne {w : World} {B : Nat} {W : World} {v : Value} {L : List Sp} (h : CI w B W v L) : v.ownBlock ≠ some B := by
  intro e
  obtain ⟨c, h1⟩ := h.row.block B e
  have h2 := h.bx
  unfold Boxed at h2
  rw [h2] at h1
  simp at h1

theorem CI.lt {w : World} {B : Nat} {W : World} {v : Value} {L : List Sp} (h : CI w B W v L) : ∀ j, own1 W B = some j → j < W.heap.size := by
  intro j e
  rw [h.own] at e
  obtain ⟨c, h1⟩ := h.row.block j e
  exact (Array.getElem?_eq_some_iff.1 h1).1

theorem CI.kept {w : World} {B : Nat} {W W' : World} {v : Value} {L : List Sp} {row : Option Nat} (h : CI w B W v L) (hg : W.grownBy W' row) (hr : ∀ r, row = some r → w.heap.size ≤ r ∧ ∃ o : Obj, W.heap[r]? = some o ∧ o.isCells = false) : CI w B W' v L := by
  refine ⟨?_, ?_, h.fr, grown_fresh h.grown hg (fun k e => (hr k e).1), h.nb⟩
  · refine h.bx.kept hg (fun e1 => ?_)
    obtain ⟨_, o, h1, h2⟩ := hr B e1.symm
    have h3 := h.bx
    unfold Boxed at h3
    rw [h3] at h1
    cases h1
    cases h2
  · refine World.ownsRow.kept h.row hg ?_
    cases hv : v.ownBlock with
    | none => exact .inl rfl
    | some g =>
      right
      intro e1
      obtain ⟨_, o, h1, h2⟩ := hr g e1.symm
      obtain ⟨c, h3⟩ := h.row.block g hv
      rw [h1] at h3
      cases h3
      cases h2

/-- One more behind the others. -/
theorem CI.app {w : World} {B : Nat} {W W1 : World} {v v' : Value} {L L' : List Sp} (h : CI w B W v L) (o : Obj) (hm : Moved (W.alloc o) W1 v v') (hr : Row W1 v' L') :
    (W1.cell? ⟨B, 0, none⟩ = some v ∧ W1.frozen? ⟨B, 0, none⟩ = false) ∧ CI w B (W1.setCell ⟨B, 0, none⟩ v') v' L' ∧ KeepsOthers W (W1.setCell ⟨B, 0, none⟩ v') ∧ KpB B W (W1.setCell ⟨B, 0, none⟩ v') := by
  have hB : B < W.heap.size := h.bx.lt
  have h1 : CI w B (W.alloc o) v L := h.kept (World.grownBy_alloc W o none) (fun r e => by cases e)
  obtain ⟨hg1, hfr⟩ := hm.fresh h1.grown h1.fr
  have hgr : ∃ row, (W.alloc o).grownBy W1 row ∧ (∀ r, row = some r → v.ownBlock = some r) := by
    rcases hm with ⟨_, hg⟩ | ⟨_, hg, _⟩
    · exact ⟨_, hg, fun r e => e⟩
    · exact ⟨none, hg, fun r e => by cases e⟩
  obtain ⟨row, hg, hrow⟩ := hgr
  have b1 : Boxed W1 B 33 v := h1.bx.kept hg (fun e => h.ne (hrow B e.symm))
  have hne' : v'.ownBlock ≠ some B := by
    intro e
    obtain ⟨c, h3⟩ := hr.block B e
    unfold Boxed at b1
    rw [b1] at h3
    simp at h3
  have hother : ∀ k, k ≠ B → (W1.setCell ⟨B, 0, none⟩ v').heap[k]? = W1.heap[k]? := fun k hk => Below.heap_setCell _ _ _ _ hk
  refine ⟨⟨b1.cell, b1.frozen⟩, ⟨b1.set v', ?_, hfr, ?_, h.nb⟩, ?_, ?_, ?_, ?_⟩
  · exact World.ownsRow.kept hr (grownBy_setCell' W1 B v') (.inr hne')
  · exact grown_fresh hg1 (grownBy_setCell' W1 B v') (fun k e => by cases e; exact h.nb)
  · refine ((KeepsOthers.alloc W o).trans (KeepsOthers.of_grownBy hg fun j p ej hj => ?_)).trans (KeepsOthers.setCell _ _ _)
    obtain ⟨c, h3⟩ := h1.row.block j (hrow j ej)
    rw [h3] at hj
    cases hj
    rfl
  · exact Nat.le_trans (Nat.le_trans (by simp) hg.size) (grownBy_setCell' W1 B v').size
  · intro k p hk _ hkB ho
    rw [h.own] at ho
    rw [hother k hkB, hg.block k (by have := (Array.getElem?_eq_some_iff.1 hk).1; simp; omega) (fun e => ho (hrow k e.symm)), Below.heap_alloc _ _ _ (Array.getElem?_eq_some_iff.1 hk).1]
    exact hk
  · intro j e hj
    have e2 : v'.ownBlock = some j := by
      unfold own1 at e
      rw [(b1.set v').cell] at e
      exact e
    rw [h.own]
    rcases hm with ⟨h5, _⟩ | ⟨h5, _, _⟩
    · rw [← h5]; exact e2
    · rw [h5] at e2
      injection e2 with e2
      simp at e2
      omega

/-- The temporaries behind the assignment to the boxed loop variable. -/
abbrev put2 (a : Act) (t1 d1 : Nat) (x : Sp) (Bx : Nat) : Act := { tmps := (a.tmps.setIfInBounds t1 (.agg #[.int .i64 x.1, .int .i64 x.2])).setIfInBounds d1 (.pointer (some ⟨Bx, 0, none⟩)), defers := [] }

def AxJ (a : Act) (t1 d1 : Nat) (x : Sp) (a' : Act) (W : World) : Prop := ∃ Bx, W.heap[Bx]? = some (.cells #[.int .i64 x.1, .int .i64 x.2] 55 (0, 0)) ∧ a' = put2 a t1 d1 x Bx

theorem axJ_own (a : Act) (t1 d1 B : Nat) (x : Sp) (a' : Act) : OwnFrom B (fun (_ : Unit) W => AxJ a t1 d1 x a' W) := by
  rintro s W W' row ⟨Bx, h1, h2⟩ hg hr
  refine ⟨Bx, ?_, h2⟩
  rw [hg.block Bx (Array.getElem?_eq_some_iff.1 h1).1 (fun e => by
    obtain ⟨_, o, h3, h4⟩ := hr Bx e.symm
    rw [h1] at h3
    cases h3
    cases h4)]
  exact h1

end Go.Proofs.Ytielpjdjlmkejaa
