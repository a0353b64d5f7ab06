/- A set that changes: what is kept. -/
import Derived.Test.YtbcmeaebjngapaaT2A
import Derived.Test.YtbcmeaebjngapaaT2H
import Derived.Laws.EntriesVeiled
namespace Go.Proofs.Ytbcmeaebjngapaa
open Go.RowKit Go.Shelf
set_option linter.unusedVariables false
set_option maxHeartbeats 1000000
set_option maxRecDepth 100000

theorem SetAt.ownS {w : World} {b : Nat} {most : Int} {v : Value} {L : List Sp} (h : SetAt w b most v L) : ownS w b = v.ownBlock := by
  unfold Go.Proofs.Ytbcmeaebjngapaa.ownS; rw [h.c1]; rfl
theorem SetAt.rowlt {w : World} {b : Nat} {most : Int} {v : Value} {L : List Sp} (h : SetAt w b most v L) {g : Nat} (hg : v.ownBlock = some g) : ∃ cs t, w.heap[g]? = some (.cells cs t (0, 0)) := by
  rcases Row.at h.row with ⟨rfl, -⟩ | ⟨g', c, sp, rfl, hR⟩
  · cases hg
  · cases hg; exact ⟨_, _, hR.1⟩
theorem SetAt.kpt {S : Nat → Prop} {w w' : World} {b : Nat} {most : Int} {v : Value} {L : List Sp} (h : SetAt w b most v L) (k : Kp S w w') (hb : ¬ S b) (hv : ∀ g, v.ownBlock = some g → ¬ S g) : SetAt w' b most v L := by
  refine ⟨(k.block b (Array.getElem?_eq_some_iff.1 h.blk).1 hb).trans h.blk, ?_⟩
  have r := h.row
  refine ⟨r.1, r.2.imp id ?_⟩
  rintro ⟨g, cap, cur, e, q1, q2, q3⟩
  subst e
  exact ⟨g, cap, cur, rfl, q1, (k.block g (Array.getElem?_eq_some_iff.1 q2).1 (hv g rfl)).trans q2, q3⟩
theorem SetAt.own {w w' : World} {b B : Nat} {most : Int} {v : Value} {L : List Sp} {row : Option Nat} (h : SetAt w b most v L) (g : w.grownBy w' row) (hr : Rec B w row) : SetAt w' b most v L := by
  have k : Kp (fun x => row = some x) w w' := ⟨g.os, g.tape, g.output, g.size, fun x hx hn => g.block x hx (fun e => hn e.symm)⟩
  refine h.kpt k (fun e => hr.ne_blk h.blk e.symm) (fun x hx e => ?_)
  obtain ⟨cs, t, hb⟩ := h.rowlt hx
  exact hr.ne_blk hb e.symm

theorem Kp.gr {S : Nat → Prop} {w0 X X' : World} (k : Kp S X X') (hS : ∀ g, S g → w0.heap.size ≤ g) (h : w0.grownBy X none) : w0.grownBy X' none :=
  ⟨k.os.trans h.os, k.tape.trans h.tape, k.output.trans h.output, Nat.le_trans h.size k.size, fun g hg _ => (k.block g (Nat.lt_of_lt_of_le hg h.size) (fun e => by have := hS g e; omega)).trans (h.block g hg (by simp))⟩
theorem Kp.others {S : Nat → Prop} {X X' : World} (k : Kp S X X') (hS : ∀ g, S g → ∃ cs t, X.heap[g]? = some (.cells cs t (0, 0))) : KeepsOthers X X' :=
  ⟨k.size, fun j o hj ho => (k.block j (Array.getElem?_eq_some_iff.1 hj).1 (fun hs => by obtain ⟨cs, t, e⟩ := hS j hs; rw [e] at hj; cases hj; cases ho)).trans hj⟩
theorem grown_own {A X X' : World} {B : Nat} {row : Option Nat} (h : A.grownBy X none) (g : X.grownBy X' row) (hr : Rec B X row) (hB : A.heap.size ≤ B) : A.grownBy X' none :=
  ⟨g.os.trans h.os, g.tape.trans h.tape, g.output.trans h.output, Nat.le_trans h.size g.size, fun k hk _ => (g.block k (Nat.lt_of_lt_of_le hk h.size) (fun e => by have := (hr k e.symm).1; omega)).trans (h.block k hk (by simp))⟩
theorem chg_ks {X X' : World} {b n : Nat} {v v' : Value} {L L' : List Sp} (h : SetAt X b 0 v L) (s' : SetAt X' b 0 v' L') (ho : v'.ownBlock = v.ownBlock ∨ Fresh X v') (k : Kp (fun g => g = b ∨ v.ownBlock = some g) X X') (hbn : b < n) : KS b n X X' := by
  refine ⟨k.size, fun g o hgn h1 h2 h3 => ?_, fun j hj hlt => ?_⟩
  · refine (k.block g (Array.getElem?_eq_some_iff.1 h1).1 (fun hh => ?_)).trans h1
    rcases hh with e1 | e1
    · omega
    · exact h3 (by rw [h.ownS]; exact e1)
  · rw [s'.ownS] at hj
    rw [h.ownS]
    rcases ho with e1 | e1
    · rw [← e1]; exact hj
    · have := e1 j hj; omega
end Go.Proofs.Ytbcmeaebjngapaa
