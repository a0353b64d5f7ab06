/- What a round keeps whose body changes a set: all but the set's row. -/
import Derived.Test.YtbcmeaebjngapaaKX
namespace Go.Proofs.Ytbcmeaebjngapaa
open Go.RowKit Go.Shelf
set_option linter.unusedVariables false
set_option maxHeartbeats 1000000
set_option maxRecDepth 100000

/-- The block of a set's row. -/
def ownS (X : World) (b : Nat) : Option Nat := (X.cell? ⟨b, 1, none⟩).bind Value.ownBlock
theorem ownS_same {X X' : World} {b : Nat} (h : X'.heap[b]? = X.heap[b]?) : ownS X' b = ownS X b := by unfold ownS; simp only [World.cell?, h]
structure KS (b n : Nat) (X X' : World) : Prop where
  size : X.heap.size ≤ X'.heap.size
  same : ∀ (g : Nat) (o : Obj), n ≤ g → X.heap[g]? = some o → o.isCells = true → ownS X b ≠ some g → X'.heap[g]? = some o
  own : ∀ j, ownS X' b = some j → j < X.heap.size → ownS X b = some j
theorem KS.refl (b n : Nat) (X : World) : KS b n X X := ⟨Nat.le_refl _, fun _ _ _ h _ _ => h, fun _ h _ => h⟩
theorem KS.trans {b n : Nat} {X Y Z : World} (h : KS b n X Y) (k : KS b n Y Z) : KS b n X Z :=
  ⟨Nat.le_trans h.size k.size, fun g o hg h1 h2 h3 => k.same g o hg (h.same g o hg h1 h2 h3) h2 (fun e => h3 (h.own g e (Array.getElem?_eq_some_iff.1 h1).1)), fun j e hj => h.own j (k.own j e (Nat.lt_of_lt_of_le hj h.size)) hj⟩
theorem KS.grown {b n : Nat} {X X' : World} (hb : b < X.heap.size) (g : X.grownBy X' none) : KS b n X X' :=
  ⟨g.size, fun x o _ h1 _ _ => (g.block x (Array.getElem?_eq_some_iff.1 h1).1 (by simp)).trans h1, fun j e _ => by rw [← ownS_same (g.block b hb (by simp))]; exact e⟩
theorem KS.put {b n : Nat} (X : World) (l : Nat) (o o' : Obj) (hl : X.heap[l]? = some o) (ho : o.isCells = false) (hb : l ≠ b) : KS b n X (X.putObj l o') :=
  ⟨by simp, fun g ob hg h1 h2 _ => (World.putObj_heap_other (fun e => by subst e; rw [hl] at h1; cases h1; rw [ho] at h2; cases h2)).trans h1, fun j e _ => by rw [← ownS_same (World.putObj_heap_other (Ne.symm hb))]; exact e⟩
theorem KS.of {b n : Nat} {S : Nat → Prop} {X X' : World} (k : Kp S X X') (hS : ∀ g, S g → g < n) (hb : ¬ S b) (hbl : b < X.heap.size) : KS b n X X' :=
  ⟨k.size, fun g o hg h1 _ _ => (k.block g (Array.getElem?_eq_some_iff.1 h1).1 (fun hu => by have := hS g hu; omega)).trans h1, fun j e _ => by rw [← ownS_same (k.block b hbl hb)]; exact e⟩
theorem KS.rcd {b n B : Nat} {w X Y : World} {row : Option Nat} (h : KS b n w X) (g : X.grownBy Y row) (hr : Rec B X row) (hb : b < B) (hbl : b < X.heap.size) : KS b n w Y := by
  refine h.trans ⟨g.size, fun j o hj h1 h2 _ => ?_, fun j e _ => ?_⟩
  · refine (g.block j (Array.getElem?_eq_some_iff.1 h1).1 (fun e => ?_)).trans h1
    obtain ⟨-, o', h4, h5⟩ := hr j e.symm
    rw [h1] at h4; cases h4; rw [h2] at h5; cases h5
  · rw [← ownS_same (g.block b hbl (fun e => by have := (hr b e.symm).1; omega))]; exact e
end Go.Proofs.Ytbcmeaebjngapaa
