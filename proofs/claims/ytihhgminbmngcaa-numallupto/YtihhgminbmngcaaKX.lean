/- What lies where, in general: blocks kept; records of loops; regions that only read within a round. -/
import Derived.WalkKit
import Derived.Below
import Derived.RangeFuncNested
import Derived.RangeFuncLeaves
import Derived.RangeFuncBound
import Derived.Sort.CutIn
import Derived.Sort.QuietIn
import Derived.Shelf.RegionOpen
import Derived.OwnWalkIn
import Derived.Test.YtihhgminbmngcaaRows
namespace Go.Proofs.Ytihhgminbmngcaa
open Go.RowKit Go.Shelf
set_option linter.unusedVariables false
set_option maxHeartbeats 1000000
set_option maxRecDepth 100000
attribute [local go_sem] Oper.semAt_some

/-- All blocks of w but those of S are as they were. -/
structure Kp (S : Nat → Prop) (w w' : World) : Prop where
  os : w'.os = w.os
  tape : w'.tape = w.tape
  output : w'.output = w.output
  size : w.heap.size ≤ w'.heap.size
  block : ∀ g, g < w.heap.size → ¬ S g → w'.heap[g]? = w.heap[g]?

theorem Kp.refl (S : Nat → Prop) (w : World) : Kp S w w := ⟨rfl, rfl, rfl, Nat.le_refl _, fun _ _ _ => rfl⟩
theorem Kp.trans {S : Nat → Prop} {w1 w2 w3 : World} (h : Kp S w1 w2) (k : Kp S w2 w3) : Kp S w1 w3 :=
  ⟨k.os.trans h.os, k.tape.trans h.tape, k.output.trans h.output, Nat.le_trans h.size k.size, fun g hg hn => (k.block g (Nat.lt_of_lt_of_le hg h.size) hn).trans (h.block g hg hn)⟩
theorem Kp.mono {S T : Nat → Prop} {w1 w2 : World} (h : Kp S w1 w2) (hs : ∀ g, g < w1.heap.size → S g → T g) : Kp T w1 w2 := ⟨h.os, h.tape, h.output, h.size, fun g hg hn => h.block g hg (fun hS => hn (hs g hg hS))⟩
theorem Kp.grown {w w' : World} (h : w.grownBy w' none) (S : Nat → Prop) : Kp S w w' := ⟨h.os, h.tape, h.output, h.size, fun g hg _ => h.block g hg (by simp)⟩
theorem Kp.grownS {w w' : World} {b : Nat} (h : w.grownBy w' (some b)) {S : Nat → Prop} (hb : S b) : Kp S w w' := ⟨h.os, h.tape, h.output, h.size, fun g hg hn => h.block g hg (fun e => hn (by cases e; exact hb))⟩
theorem Kp.set {S : Nat → Prop} {w w' : World} (h : Kp S w w') (b j : Nat) (v : Value) (hb : b < w.heap.size → S b) : Kp S w (w'.setCell ⟨b, j, none⟩ v) := by
  refine ⟨h.os, h.tape, h.output, ?_, fun g hg hn => ?_⟩
  · show w.heap.size ≤ (w'.heap.modify b _).size
    rw [Array.size_modify]; exact h.size
  · have e : (w'.setCell ⟨b, j, none⟩ v).heap[g]? = w'.heap[g]? := by
      simp only [World.setCell, Array.getElem?_modify]
      rw [if_neg (fun e : b = g => hn (e ▸ hb (by omega)))]
    rw [e]; exact h.block g hg hn
theorem Kp.drewN {S : Nat → Prop} {w w' : World} (h : Kp S w w') (q : Nat) : Kp S w (w'.drewN q) := ⟨h.os, h.tape, h.output, h.size, h.block⟩

/-- A block of no cells from M on. -/
def Rec (M : Nat) (w : World) (row : Option Nat) : Prop := ∀ r, row = some r → M ≤ r ∧ ∃ o : Obj, w.heap[r]? = some o ∧ o.isCells = false
theorem Rec.ne_blk {M : Nat} {w : World} {row : Option Nat} (h : Rec M w row) {g : Nat} {cs : Array Value} {t : TypeId} (hb : w.heap[g]? = some (.cells cs t (0, 0))) : some g ≠ row := fun e => by
  obtain ⟨-, o, h1, h2⟩ := h g e.symm
  rw [hb] at h1
  cases h1; cases h2
theorem Rec.ne_cell {M : Nat} {w : World} {row : Option Nat} (h : Rec M w row) {a : Addr} {v : Value} (hc : w.cell? a = some v) : some a.block ≠ row := fun e => by
  obtain ⟨-, o, h1, h2⟩ := h _ e.symm
  obtain ⟨o', h3, h4⟩ := cells_of_cell hc
  rw [h1] at h3; cases h3; rw [h2] at h4; cases h4

/-- Blocks of cells from n on are kept. -/
structure KC (n : Nat) (W W' : World) : Prop where
  size : W.heap.size ≤ W'.heap.size
  same : ∀ (g : Nat) (o : Obj), n ≤ g → W.heap[g]? = some o → o.isCells = true → W'.heap[g]? = some o
theorem KC.refl (n : Nat) (W : World) : KC n W W := ⟨Nat.le_refl _, fun _ _ _ h _ => h⟩
theorem KC.trans {n : Nat} {A B C : World} (h : KC n A B) (k : KC n B C) : KC n A C := ⟨Nat.le_trans h.size k.size, fun g o hg h1 h2 => k.same g o hg (h.same g o hg h1 h2) h2⟩
theorem KC.put {n : Nat} (W : World) (l : Nat) (o o' : Obj) (hl : W.heap[l]? = some o) (ho : o.isCells = false) : KC n W (W.putObj l o') :=
  ⟨by simp, fun g ob hg h1 h2 => (World.putObj_heap_other (fun e => by subst e; rw [hl] at h1; cases h1; rw [ho] at h2; cases h2)).trans h1⟩
theorem KC.of {n : Nat} {U : Nat → Prop} {W W' : World} (k : Kp U W W') (hU : ∀ g, U g → g < n) : KC n W W' :=
  ⟨k.size, fun g o hg h1 _ => (k.block g (Array.getElem?_eq_some_iff.1 h1).1 (fun hu => by have := hU g hu; omega)).trans h1⟩

theorem Kp.own {S : Nat → Prop} {w1 X X' : World} {row : Option Nat} (h : Kp S w1 X) (g : X.grownBy X' row) (hr : Rec w1.heap.size X row) : Kp S w1 X' :=
  ⟨g.os.trans h.os, g.tape.trans h.tape, g.output.trans h.output, Nat.le_trans h.size g.size, fun x hx hn => (g.block x (Nat.lt_of_lt_of_le hx h.size) (fun e => by have := (hr x e.symm).1; omega)).trans (h.block x hx hn)⟩
theorem bxOwn {X X' : World} {b M : Nat} {t : TypeId} {v : Value} {row : Option Nat} (h : Boxed X b t v) (g : X.grownBy X' row) (hr : Rec M X row) : Boxed X' b t v := h.kept g (hr.ne_blk (show X.heap[b]? = some (.cells #[v] t (0, 0)) from h))
theorem bxKp {S : Nat → Prop} {X X' : World} {b : Nat} {t : TypeId} {v : Value} (h : Boxed X b t v) (k : Kp S X X') (hn : ¬ S b) : Boxed X' b t v := (k.block b h.lt hn).trans h
theorem Kp.then {S S' : Nat → Prop} {A B C : World} (h : Kp S A B) (k : Kp S' B C) (hs : ∀ g, g < A.heap.size → S' g → S g) : Kp S A C :=
  ⟨k.os.trans h.os, k.tape.trans h.tape, k.output.trans h.output, Nat.le_trans h.size k.size, fun g hg hn => (k.block g (Nat.lt_of_lt_of_le hg h.size) (fun hS => hn (hs g hg hS))).trans (h.block g hg hn)⟩
theorem Kp.kf {S : Nat → Prop} {A B : World} {n : Nat} (k : Kp S A B) (hs : ∀ g, S g → g < n) : KeepsFrom n A B :=
  ⟨k.size, fun g o hg h1 _ => (k.block g (Array.getElem?_eq_some_iff.1 h1).1 (fun hS => by have := hs g hS; omega)).trans h1⟩

theorem kp_drew {S : Nat → Prop} {A B : World} (k : Kp S A.drew B) : Kp S A B := ⟨k.os, k.tape, k.output, k.size, k.block⟩
theorem drew_grown (A : World) : A.grownBy A.drew none := ⟨rfl, rfl, rfl, Nat.le_refl _, fun _ _ _ => rfl⟩
/-- An append within a region that draws, in a round. -/
theorem stepIn_app {F : Fence} {n : Nat} {P : Program} {ops : Array Oper} {o : Oper} {a : Act} {w : World} {K : Act → World → Prop} {Q : Exit → Act → World → Prop} {E : Prop} (hgd : o.guard = none) (d s : Operand) (t : TypeId)
    (hop : o.op = Op.call { callee := Callee.builtin Builtin.append, args := #[d, s], argTypes := #[t, t] }) (vd vs : Value) (hd : a.eval d = vd) (hs : a.eval s = vs) {v' : Value} {w' : World} (hrun : (Builtin.append_ #[t, t] o.type #[vd, vs]).run P w = .ok v' w') (hK : K (a.put o.dst v') w') :
    if Region.wanted o (yielded ops a.tmps) = true then Oper.wpIn F n P o a w K Q else E := by
  rw [if_pos (by simp [Region.wanted, hgd])]
  unfold Oper.wpIn
  refine ⟨?_, ?_⟩
  · simp [Oper.about, hop, resolve, Target.leads, Sem.run_pure]
  · rw [Oper.semAt_plain F _ _ (by rw [hop]; intro c hc'; cases hc')]
    simp [execOp, hop, resolve, invoke, builtin, hd, hs, hrun, Result.andThen]
    exact hK

def noDefer (o : Oper) : Bool := match o.op with | .defer _ => false | _ => true
theorem noDefer_ne {o : Oper} (h : noDefer o = true) : ∀ c, o.op ≠ .defer c := fun c e => by
  unfold noDefer at h; rw [e] at h; cases h

theorem wpOpIn_round {F : Fence} {n : Nat} {P : Program} {ops : Array Oper} {Q : Exit → Act → World → Prop} {i : Nat} {K : Act → World → Prop} {a : Act} {w : World} (l : Nat) (hnd : ∀ o, ops[i]? = some o → noDefer o = true) (h : wpOpIn F n P ops Q i K a w) : wpOpIn (F.inRound l) n P ops Q i K a w := by
  unfold wpOpIn at *
  cases ho : ops[i]? with
  | none => rw [ho] at h; exact h
  | some o =>
    rw [ho] at h
    have hd := noDefer_ne (hnd o ho)
    simp only at h ⊢
    by_cases hw : Region.wanted o (yielded ops a.tmps) = true
    · rw [if_pos hw] at h ⊢
      unfold Oper.wpIn at h ⊢
      refine ⟨h.1, ?_⟩
      rw [Oper.semAt_plain (F.inRound l) _ _ hd]
      have h2 := h.2
      rw [Oper.semAt_plain F _ _ hd] at h2
      exact h2
    · rw [if_neg hw] at h ⊢
      exact h

theorem wpAnyIn_round {F : Fence} {n : Nat} {P : Program} {md : Region.Mode} {ops : Array Oper} {Q : Exit → Act → World → Prop} (l : Nat) (hnd : ∀ (i : Nat) o, ops[i]? = some o → noDefer o = true) : ∀ (fuel : Nat) (listed : Array Bool) (a : Act) (w : World), wpAnyIn F n P md ops Q fuel listed a w → wpAnyIn (F.inRound l) n P md ops Q fuel listed a w
  | 0, _, _, _, h => h
  | fuel + 1, listed, a, w, h => ⟨h.1, fun i hi => wpOpIn_round l (hnd i) (wpOpIn_mono (fun a' w' hh => wpAnyIn_round l hnd fuel _ a' w' hh) (h.2 i hi))⟩

theorem region_quiet_round {F : Fence} {n : Nat} {P : Program} {id l : Nat} {Q : Exit → Act → World → Prop} {a : Act} {w : World} {ls : List Oper} (hro : F.round = none) (hm : P.follows .mixedOrders = true) (hB : Region.lexB .any ls.toArray = true) (hnd : ls.all noDefer = true)
    (h : wpQuietIn F n P ls.toArray (fun w' => ∃ n, w' = w.drewN n) (fun a' => ∀ w', (∃ n, w' = w.drewN n) → Q .normal a' w') ls a) : (Code.region id ls.toArray true).wpIn (F.inRound l) n P Q a w := by
  refine wpIn_region_any hm (wpAnyIn_round l (fun i o ho => ?_) _ _ _ _ ?_)
  · have : o ∈ ls := by
      have h2 : ls[i]? = some o := by simpa using ho
      exact List.mem_of_getElem? h2
    exact List.all_eq_true.1 hnd o this
  · simp only [Region.lexB, Bool.and_eq_true] at hB
    refine wpAnyIn_of_quiet (C := fun w' => ∃ n, w' = w.drewN n) (Q := fun a' => ∀ w', (∃ n, w' = w.drewN n) → Q .normal a' w') hro (fun _ w' hw' h => h w' hw') _ _ _ _ ⟨1, rfl⟩ ?_
    have := wpAnyQIn_lex (F := F) (n := n) (C := fun w' => ∃ n, w' = w.drewN n) (md := .any) hB.1 ls.toArray.toList 0 (Array.replicate ls.toArray.size false) a (by simp) (by simpa using hB.2) (by simpa using h)
    simpa using this

end Go.Proofs.Ytihhgminbmngcaa
