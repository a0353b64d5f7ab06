/- KX, F2L, one text. -/
import Derived.WalkKit
import Derived.Below
import Derived.RangeFuncNested
import Derived.RangeFuncLeaves
import Derived.RangeFuncBound
import Derived.Sort.CutIn
import Derived.Sort.QuietIn
import Derived.Shelf.RegionOpen
import Derived.OwnWalkIn
import Derived.Test.YtggjeamondampabRows
namespace Go.Proofs.Ytggjeamondampab
open Go.RowKit Go.Shelf
set_option linter.unusedVariables false
set_option maxHeartbeats 1000000
set_option maxRecDepth 100000
attribute [local go_sem] Oper.semAt_some

/-- All blocks of w but those of S are as they were. -/
structure Kp (S : Nat → Prop) (w w' : World) : Prop where
  os : w'.os = w.os
  tape : w'.tape = w.tape
  output : w'.output = w.output
  size : w.heap.size ≤ w'.heap.size
  block : ∀ g, g < w.heap.size → ¬ S g → w'.heap[g]? = w.heap[g]?

theorem Kp.refl (S : Nat → Prop) (w : World) : Kp S w w := ⟨rfl, rfl, rfl, Nat.le_refl _, fun _ _ _ => rfl⟩
theorem Kp.trans {S : Nat → Prop} {w1 w2 w3 : World} (h : Kp S w1 w2) (k : Kp S w2 w3) : Kp S w1 w3 :=
  ⟨k.os.trans h.os, k.tape.trans h.tape, k.output.trans h.output, Nat.le_trans h.size k.size, fun g hg hn => (k.block g (Nat.lt_of_lt_of_le hg h.size) hn).trans (h.block g hg hn)⟩
theorem Kp.mono {S T : Nat → Prop} {w1 w2 : World} (h : Kp S w1 w2) (hs : ∀ g, g < w1.heap.size → S g → T g) : Kp T w1 w2 := ⟨h.os, h.tape, h.output, h.size, fun g hg hn => h.block g hg (fun hS => hn (hs g hg hS))⟩
theorem Kp.grown {w w' : World} (h : w.grownBy w' none) (S : Nat → Prop) : Kp S w w' := ⟨h.os, h.tape, h.output, h.size, fun g hg _ => h.block g hg (by simp)⟩
theorem Kp.grownS {w w' : World} {b : Nat} (h : w.grownBy w' (some b)) {S : Nat → Prop} (hb : S b) : Kp S w w' := ⟨h.os, h.tape, h.output, h.size, fun g hg hn => h.block g hg (fun e => hn (by cases e; exact hb))⟩
theorem Kp.set {S : Nat → Prop} {w w' : World} (h : Kp S w w') (b j : Nat) (v : Value) (hb : b < w.heap.size → S b) : Kp S w (w'.setCell ⟨b, j, none⟩ v) := by
  refine ⟨h.os, h.tape, h.output, ?_, fun g hg hn => ?_⟩
  · show w.heap.size ≤ (w'.heap.modify b _).size
    rw [Array.size_modify]; exact h.size
  · have e : (w'.setCell ⟨b, j, none⟩ v).heap[g]? = w'.heap[g]? := by
      simp only [World.setCell, Array.getElem?_modify]
      rw [if_neg (fun e : b = g => hn (e ▸ hb (by omega)))]
    rw [e]; exact h.block g hg hn
theorem Kp.drewN {S : Nat → Prop} {w w' : World} (h : Kp S w w') (q : Nat) : Kp S w (w'.drewN q) := ⟨h.os, h.tape, h.output, h.size, h.block⟩

/-- A block of no cells from M on. -/
def Rec (M : Nat) (w : World) (row : Option Nat) : Prop := ∀ r, row = some r → M ≤ r ∧ ∃ o : Obj, w.heap[r]? = some o ∧ o.isCells = false
theorem Rec.ne_blk {M : Nat} {w : World} {row : Option Nat} (h : Rec M w row) {g : Nat} {cs : Array Value} {t : TypeId} (hb : w.heap[g]? = some (.cells cs t (0, 0))) : some g ≠ row := fun e => by
  obtain ⟨-, o, h1, h2⟩ := h g e.symm
  rw [hb] at h1
  cases h1; cases h2
theorem Rec.ne_cell {M : Nat} {w : World} {row : Option Nat} (h : Rec M w row) {a : Addr} {v : Value} (hc : w.cell? a = some v) : some a.block ≠ row := fun e => by
  obtain ⟨-, o, h1, h2⟩ := h _ e.symm
  obtain ⟨o', h3, h4⟩ := cells_of_cell hc
  rw [h1] at h3; cases h3; rw [h2] at h4; cases h4

/-- Blocks of cells from n on are kept. -/
structure KC (n : Nat) (W W' : World) : Prop where
  size : W.heap.size ≤ W'.heap.size
  same : ∀ (g : Nat) (o : Obj), n ≤ g → W.heap[g]? = some o → o.isCells = true → W'.heap[g]? = some o
theorem KC.refl (n : Nat) (W : World) : KC n W W := ⟨Nat.le_refl _, fun _ _ _ h _ => h⟩
theorem KC.trans {n : Nat} {A B C : World} (h : KC n A B) (k : KC n B C) : KC n A C := ⟨Nat.le_trans h.size k.size, fun g o hg h1 h2 => k.same g o hg (h.same g o hg h1 h2) h2⟩
theorem KC.put {n : Nat} (W : World) (l : Nat) (o o' : Obj) (hl : W.heap[l]? = some o) (ho : o.isCells = false) : KC n W (W.putObj l o') :=
  ⟨by simp, fun g ob hg h1 h2 => (World.putObj_heap_other (fun e => by subst e; rw [hl] at h1; cases h1; rw [ho] at h2; cases h2)).trans h1⟩
theorem KC.of {n : Nat} {U : Nat → Prop} {W W' : World} (k : Kp U W W') (hU : ∀ g, U g → g < n) : KC n W W' :=
  ⟨k.size, fun g o hg h1 _ => (k.block g (Array.getElem?_eq_some_iff.1 h1).1 (fun hu => by have := hU g hu; omega)).trans h1⟩

theorem Kp.own {S : Nat → Prop} {w1 X X' : World} {row : Option Nat} (h : Kp S w1 X) (g : X.grownBy X' row) (hr : Rec w1.heap.size X row) : Kp S w1 X' :=
  ⟨g.os.trans h.os, g.tape.trans h.tape, g.output.trans h.output, Nat.le_trans h.size g.size, fun x hx hn => (g.block x (Nat.lt_of_lt_of_le hx h.size) (fun e => by have := (hr x e.symm).1; omega)).trans (h.block x hx hn)⟩
theorem bxOwn {X X' : World} {b M : Nat} {t : TypeId} {v : Value} {row : Option Nat} (h : Boxed X b t v) (g : X.grownBy X' row) (hr : Rec M X row) : Boxed X' b t v := h.kept g (hr.ne_blk (show X.heap[b]? = some (.cells #[v] t (0, 0)) from h))
theorem bxKp {S : Nat → Prop} {X X' : World} {b : Nat} {t : TypeId} {v : Value} (h : Boxed X b t v) (k : Kp S X X') (hn : ¬ S b) : Boxed X' b t v := (k.block b h.lt hn).trans h
theorem Kp.then {S S' : Nat → Prop} {A B C : World} (h : Kp S A B) (k : Kp S' B C) (hs : ∀ g, g < A.heap.size → S' g → S g) : Kp S A C :=
  ⟨k.os.trans h.os, k.tape.trans h.tape, k.output.trans h.output, Nat.le_trans h.size k.size, fun g hg hn => (k.block g (Nat.lt_of_lt_of_le hg h.size) (fun hS => hn (hs g hg hS))).trans (h.block g hg hn)⟩
theorem Kp.kf {S : Nat → Prop} {A B : World} {n : Nat} (k : Kp S A B) (hs : ∀ g, S g → g < n) : KeepsFrom n A B :=
  ⟨k.size, fun g o hg h1 _ => (k.block g (Array.getElem?_eq_some_iff.1 h1).1 (fun hS => by have := hs g hS; omega)).trans h1⟩

theorem kp_drew {S : Nat → Prop} {A B : World} (k : Kp S A.drew B) : Kp S A B := ⟨k.os, k.tape, k.output, k.size, k.block⟩
theorem drew_grown (A : World) : A.grownBy A.drew none := ⟨rfl, rfl, rfl, Nat.le_refl _, fun _ _ _ => rfl⟩
/-- An append within a region that draws, in a round. -/
theorem stepIn_app {F : Fence} {n : Nat} {P : Program} {ops : Array Oper} {o : Oper} {a : Act} {w : World} {K : Act → World → Prop} {Q : Exit → Act → World → Prop} {E : Prop} (hgd : o.guard = none) (d s : Operand) (t : TypeId)
    (hop : o.op = Op.call { callee := Callee.builtin Builtin.append, args := #[d, s], argTypes := #[t, t] }) (vd vs : Value) (hd : a.eval d = vd) (hs : a.eval s = vs) {v' : Value} {w' : World} (hrun : (Builtin.append_ #[t, t] o.type #[vd, vs]).run P w = .ok v' w') (hK : K (a.put o.dst v') w') :
    if Region.wanted o (yielded ops a.tmps) = true then Oper.wpIn F n P o a w K Q else E := by
  rw [if_pos (by simp [Region.wanted, hgd])]
  unfold Oper.wpIn
  refine ⟨?_, ?_⟩
  · simp [Oper.about, hop, resolve, Target.leads, Sem.run_pure]
  · rw [Oper.semAt_plain F _ _ (by rw [hop]; intro c hc'; cases hc')]
    simp [execOp, hop, resolve, invoke, builtin, hd, hs, hrun, Result.andThen]
    exact hK

def noDefer (o : Oper) : Bool := match o.op with | .defer _ => false | _ => true
theorem noDefer_ne {o : Oper} (h : noDefer o = true) : ∀ c, o.op ≠ .defer c := fun c e => by
  unfold noDefer at h; rw [e] at h; cases h

theorem wpOpIn_round {F : Fence} {n : Nat} {P : Program} {ops : Array Oper} {Q : Exit → Act → World → Prop} {i : Nat} {K : Act → World → Prop} {a : Act} {w : World} (l : Nat) (hnd : ∀ o, ops[i]? = some o → noDefer o = true) (h : wpOpIn F n P ops Q i K a w) : wpOpIn (F.inRound l) n P ops Q i K a w := by
  unfold wpOpIn at *
  cases ho : ops[i]? with
  | none => rw [ho] at h; exact h
  | some o =>
    rw [ho] at h
    have hd := noDefer_ne (hnd o ho)
    simp only at h ⊢
    by_cases hw : Region.wanted o (yielded ops a.tmps) = true
    · rw [if_pos hw] at h ⊢
      unfold Oper.wpIn at h ⊢
      refine ⟨h.1, ?_⟩
      rw [Oper.semAt_plain (F.inRound l) _ _ hd]
      have h2 := h.2
      rw [Oper.semAt_plain F _ _ hd] at h2
      exact h2
    · rw [if_neg hw] at h ⊢
      exact h

theorem wpAnyIn_round {F : Fence} {n : Nat} {P : Program} {md : Region.Mode} {ops : Array Oper} {Q : Exit → Act → World → Prop} (l : Nat) (hnd : ∀ (i : Nat) o, ops[i]? = some o → noDefer o = true) : ∀ (fuel : Nat) (listed : Array Bool) (a : Act) (w : World), wpAnyIn F n P md ops Q fuel listed a w → wpAnyIn (F.inRound l) n P md ops Q fuel listed a w
  | 0, _, _, _, h => h
  | fuel + 1, listed, a, w, h => ⟨h.1, fun i hi => wpOpIn_round l (hnd i) (wpOpIn_mono (fun a' w' hh => wpAnyIn_round l hnd fuel _ a' w' hh) (h.2 i hi))⟩

theorem region_quiet_round {F : Fence} {n : Nat} {P : Program} {id l : Nat} {Q : Exit → Act → World → Prop} {a : Act} {w : World} {ls : List Oper} (hro : F.round = none) (hm : P.follows .mixedOrders = true) (hB : Region.lexB .any ls.toArray = true) (hnd : ls.all noDefer = true)
    (h : wpQuietIn F n P ls.toArray (fun w' => ∃ n, w' = w.drewN n) (fun a' => ∀ w', (∃ n, w' = w.drewN n) → Q .normal a' w') ls a) : (Code.region id ls.toArray true).wpIn (F.inRound l) n P Q a w := by
  refine wpIn_region_any hm (wpAnyIn_round l (fun i o ho => ?_) _ _ _ _ ?_)
  · have : o ∈ ls := by
      have h2 : ls[i]? = some o := by simpa using ho
      exact List.mem_of_getElem? h2
    exact List.all_eq_true.1 hnd o this
  · simp only [Region.lexB, Bool.and_eq_true] at hB
    refine wpAnyIn_of_quiet (C := fun w' => ∃ n, w' = w.drewN n) (Q := fun a' => ∀ w', (∃ n, w' = w.drewN n) → Q .normal a' w') hro (fun _ w' hw' h => h w' hw') _ _ _ _ ⟨1, rfl⟩ ?_
    have := wpAnyQIn_lex (F := F) (n := n) (C := fun w' => ∃ n, w' = w.drewN n) (md := .any) hB.1 ls.toArray.toList 0 (Array.replicate ls.toArray.size false) a (by simp) (by simpa using hB.2) (by simpa using h)
    simpa using this

end Go.Proofs.Ytggjeamondampab

namespace Go.Proofs.Ytggjeamondampab
open Go.RowKit Go.Shelf
set_option linter.unusedVariables false
set_option maxHeartbeats 1000000
set_option maxRecDepth 100000
attribute [local go_sem] Oper.semAt_some

/-- Whatever hands things on one by one; what is kept from round to round abides the turn of what is no cells and new. -/
def SeqO {α : Type} (g : Nat) (lb : Array Value) (encs : α → Array Value) (Kx : World → World → Prop) (Gd : α → World → Prop) (S Sp : List α → Prop) (w : World) : Prop :=
  ∀ (l : Nat) (J Jx : List α → World → Prop) (W : World), Below w.heap.size w W → OwnFrom W.heap.size J → OwnFrom W.heap.size Jx →
    (∀ (m : Nat) (pre : List α) (x : α) (X : World), J pre X → Sp (pre ++ [x]) → Gd x X → YieldAt Fence.wide m Try.prog l (encs x) X fun e X' =>
      (e = .returned (.bool true) ∧ J (pre ++ [x]) X' ∧ Kx X X' ∧ KeepsFrom W.heap.size X X') ∨ (e = .returned (.bool false) ∧ Jx (pre ++ [x]) X' ∧ KeepsFrom W.heap.size X X')) →
    J [] W → Calls Try.prog g (#[.func (.yield l) #[] #[]] ++ lb) W fun e W' => (∃ v, e = .returned v) ∧ ((∃ xs, S xs ∧ J xs W') ∨ (∃ pre, Sp pre ∧ Jx pre W'))

/-- The marks that lie where they lay. -/
def DX (d : Option Nat) (X : World) : Prop := ∀ D, d = some D → X.heap[D]? = some (.deferred (some []))

theorem round_own {α : Type} {fn : FuncId} {B0 B1 l dfr : Nat} {d : Option Nat} {ps : Array Tmp} {assign body : Code} {a : Act} {encs : α → Array Value} {Kx : World → World → Prop} {I : List α → World → Prop} {Ix : Code → List α → World → Prop} {Ax : α → Act → World → Prop} {Gd : α → World → Prop} {Sp : List α → Prop}
    (rec : LoopState → Option Code → Loop) (hrec : rec = fun st pe => { state := st, pending := pe, fn := fn, tmps := a.tmps, params := ps, assign := assign, body := body, defers := dfr })
    (hl0 : B0 ≤ l) (hl1 : l < B1) (hd : ∀ D, d = some D → B0 ≤ D ∧ D ≠ l)
    (hKt : ∀ {A B C : World}, Kx A B → Kx B C → Kx A C) (hKb : ∀ (W : World) (j : Nat) (o o' : Obj), B0 ≤ j → W.heap[j]? = some o → o.isCells = false → Kx W (W.putObj j o')) (hps : ∀ x, (encs x).size = ps.size)
    (hI : OwnFrom B0 I) (hIx : ∀ c, OwnFrom B0 (Ix c)) (hAx : ∀ x a', OwnFrom B0 (fun (_ : Unit) W => Ax x a' W)) (hB : B0 ≤ B1)
    (hassign : ∀ (m : Nat) (pre : List α) (x : α) (W : World) (K : Act → World → Prop), I pre W → Gd x W → (∀ a' W', KeepsFrom B0 W W' → Kx W W' → I pre W' → Ax x a' W' → K a' W') →
      assign.wpIn (Fence.wide.inRound l) m Try.prog (Exit.then K (fun _ _ _ => False)) { tmps := (ps.zip (encs x)).foldl (fun t (p, v) => t.setIfInBounds p v) a.tmps, defers := [] } W)
    (hbody : ∀ (m : Nat) (pre : List α) (x : α) (a' : Act) (W : World), (∃ r, W.heap[l]? = some (.loop r)) → I pre W → Ax x a' W → Sp (pre ++ [x]) → body.wpIn (Fence.wide.inRound l) m Try.prog (ownPostG B0 Kx I Ix (pre ++ [x]) W) a' W) :
    ∀ (m : Nat) (pre : List α) (x : α) (X : World), (I pre X ∧ X.heap[l]? = some (.loop (rec .ready none)) ∧ DX d X) → Sp (pre ++ [x]) → Gd x X → YieldAt Fence.wide m Try.prog l (encs x) X fun e X' =>
      (e = .returned (.bool true) ∧ (I (pre ++ [x]) X' ∧ X'.heap[l]? = some (.loop (rec .ready none)) ∧ DX d X') ∧ Kx X X' ∧ KeepsFrom B1 X X') ∨
      (e = .returned (.bool false) ∧ (∃ c, Ix c (pre ++ [x]) X' ∧ X'.heap[l]? = some (.loop (rec .done (some c))) ∧ DX d X') ∧ KeepsFrom B1 X X') := by
  rintro m pre x X ⟨hi, hl, hdx⟩ hp hgd
  have hy := run_yield (P := Try.prog) (args := encs x) hl (by rw [hrec]; exact hps x)
  have e0 : (rec .ready none).fn = fn ∧ (rec .ready none).params = ps ∧ (rec .ready none).tmps = a.tmps ∧ (rec .ready none).assign = assign ∧ (rec .ready none).body = body := by rw [hrec]; exact ⟨rfl, rfl, rfl, rfl, rfl⟩
  rw [e0.1, e0.2.1, e0.2.2.1, e0.2.2.2.1, e0.2.2.2.2] at hy
  refine ⟨fn, _, assign, body, hy, roundIn_of_wpIn trivial (hassign m pre x X _ hi hgd ?_)⟩
  clear hy
  intro a' X1 k1 q1 i1 ax
  have l1 := k1.same l _ hl0 hl rfl
  have lt1 : l < X1.heap.size := (Array.getElem?_eq_some_iff.1 l1).1
  have d1 : DX d X1 := fun D e => k1.same D _ (hd D e).1 (hdx D e) rfl
  have busy : { rec .ready none with state := .busy } = rec .busy none := by rw [hrec]
  have bg := run_beginRound (P := Try.prog) l1 (by rw [hrec])
  rw [busy] at bg
  refine ⟨_, bg, ?_⟩
  have l2 : (X1.putObj l (.loop (rec .busy none))).heap[l]? = some (.loop (rec .busy none)) := World.putObj_heap_same lt1
  have d2 : DX d (X1.putObj l (.loop (rec .busy none))) := fun D e => (World.putObj_heap_other (hd D e).2).trans (d1 D e)
  have q2 : Kx X1 (X1.putObj l (.loop (rec .busy none))) := hKb _ _ _ _ hl0 l1 rfl
  have z2 : X1.heap.size ≤ (X1.putObj l (.loop (rec .busy none))).heap.size := by simp
  refine wpIn_mono (hbody m pre x a' _ ⟨_, l2⟩ (hI.putObj _ i1 hl0 l1 rfl) ((hAx x a').putObj (s := ()) _ ax hl0 l1 rfl) hp) ?_
  -- how a round ends
  have fin : ∀ (jump : Option Code) (X3 : World), KeepsFrom B0 (X1.putObj l (.loop (rec .busy none))) X3 →
      (Instr.endRound l jump).run Try.prog X3 = .ok (.bool jump.isNone) (X3.putObj l (.loop (rec (if jump.isNone then .ready else .done) jump))) ∧ X3.heap[l]? = some (.loop (rec .busy none)) ∧
      (X3.putObj l (.loop (rec (if jump.isNone then .ready else .done) jump))).heap[l]? = some (.loop (rec (if jump.isNone then .ready else .done) jump)) ∧ DX d (X3.putObj l (.loop (rec (if jump.isNone then .ready else .done) jump))) ∧
      KeepsFrom B1 X (X3.putObj l (.loop (rec (if jump.isNone then .ready else .done) jump))) := fun jump X3 k3 => by
    have l3 := k3.same l _ hl0 l2 rfl
    have er := run_endRound (P := Try.prog) jump l3
    have e1 : { rec .busy none with state := if jump.isNone then .ready else .done, pending := jump } = rec (if jump.isNone then .ready else .done) jump := by rw [hrec]
    rw [e1] at er
    refine ⟨er, l3, World.putObj_heap_same (Array.getElem?_eq_some_iff.1 l3).1, fun D e => (World.putObj_heap_other (hd D e).2).trans (k3.same D _ (hd D e).1 (d2 D e) rfl), ?_, fun j o hj ho hc => ?_⟩
    · have := k1.size; have := k3.size; simp; omega
    · have nj : j ≠ l := by omega
      refine (World.putObj_heap_other nj).trans (k3.same j o (by omega) ((World.putObj_heap_other nj).trans (k1.same j o (by omega) ho hc)) hc)
  rintro e a3 X3 hpost
  have one : ∀ (jump : Option Code) (cd : Code), jump = some cd → KeepsFrom B0 (X1.putObj l (.loop (rec .busy none))) X3 → Ix cd (pre ++ [x]) X3 → ∃ v X4, (Instr.endRound l jump).run Try.prog X3 = .ok v X4 ∧ ((Ending.returned v = .returned (.bool true) ∧ (I (pre ++ [x]) X4 ∧ X4.heap[l]? = some (.loop (rec .ready none)) ∧ DX d X4) ∧ Kx X X4 ∧ KeepsFrom B1 X X4) ∨ (Ending.returned v = .returned (.bool false) ∧ (∃ c, Ix c (pre ++ [x]) X4 ∧ X4.heap[l]? = some (.loop (rec .done (some c))) ∧ DX d X4) ∧ KeepsFrom B1 X X4)) := fun jump cd ej k3 i3 => by
    subst ej
    obtain ⟨hr, l3, l4, d4, k4⟩ := fin (some cd) X3 k3
    exact ⟨_, _, hr, .inr ⟨rfl, ⟨cd, (hIx cd).putObj _ i3 hl0 l3 rfl, l4, d4⟩, k4⟩⟩
  cases e with
  | normal =>
    obtain ⟨k3, q3, i3⟩ := hpost
    obtain ⟨hr, l3, l4, d4, k4⟩ := fin none X3 k3
    exact ⟨_, _, hr, .inl ⟨rfl, ⟨hI.putObj _ i3 hl0 l3 rfl, l4, d4⟩, hKt (hKt (hKt q1 q2) q3) (hKb _ _ _ _ hl0 l3 rfl), k4⟩⟩
  | ret => exact one _ _ rfl hpost.1 hpost.2
  | exit id => exact one _ _ rfl hpost.1 hpost.2
  | goto t => exact one _ _ rfl hpost.1 hpost.2
  | panic ch => exact hpost.elim
  | outgrown => exact hpost.elim

theorem range_own {α : Type} {g : Operand} {ps : Array Tmp} {assign body : Code} {Q : Exit → Act → World → Prop} {a : Act} {w : World} (n : Nat) {gf : Nat} {lb : Array Value} (hg : a.eval g = .func (.func gf) #[] lb) (eg : ∀ args w, (callFunc gf args).run Try.prog w = .ok (.enter gf args) w)
    {encs : α → Array Value} {Kx : World → World → Prop} {Gd : α → World → Prop} {S Sp : List α → Prop} (hseq : SeqO gf lb encs Kx Gd S Sp w)
    (hKt : ∀ {A B C : World}, Kx A B → Kx B C → Kx A C) (hKb : ∀ (W : World) (j : Nat) (o o' : Obj), w.heap.size ≤ j → W.heap[j]? = some o → o.isCells = false → Kx W (W.putObj j o')) (hps : ∀ x, (encs x).size = ps.size)
    (I : List α → World → Prop) (Ix : Code → List α → World → Prop) (hI : OwnFrom w.heap.size I) (hIx : ∀ c, OwnFrom w.heap.size (Ix c)) (h0 : I [] w) (Ax : α → Act → World → Prop) (hAx : ∀ x a', OwnFrom w.heap.size (fun (_ : Unit) W => Ax x a' W))
    (hassign : ∀ (l m : Nat) (pre : List α) (x : α) (W : World) (K : Act → World → Prop), I pre W → Gd x W → (∀ a' W', KeepsFrom w.heap.size W W' → Kx W W' → I pre W' → Ax x a' W' → K a' W') →
      assign.wpIn (Fence.wide.inRound l) m Try.prog (Exit.then K (fun _ _ _ => False)) { tmps := (ps.zip (encs x)).foldl (fun t (p, v) => t.setIfInBounds p v) a.tmps, defers := [] } W)
    (hbody : ∀ (l m : Nat) (pre : List α) (x : α) (a' : Act) (W : World), w.heap.size ≤ l → (∃ r, W.heap[l]? = some (.loop r)) → I pre W → Ax x a' W → Sp (pre ++ [x]) → body.wpIn (Fence.wide.inRound l) m Try.prog (ownPostG w.heap.size Kx I Ix (pre ++ [x]) W) a' W)
    (hdone : ∀ (D : Nat) (xs : List α) (W : World), w.heap.size ≤ D → S xs → I xs W → W.heap[D]? = some (.deferred (some [])) → Q .normal { a with defers := { target := .collected D, args := #[] } :: a.defers } W)
    (hstop : ∀ (D : Nat) (c : Code) (pre : List α) (W : World), w.heap.size ≤ D → Sp pre → Ix c pre W → W.heap[D]? = some (.deferred (some [])) → c.wpIn Fence.wide n Try.prog Q { a with defers := { target := .collected D, args := #[] } :: a.defers } W) :
    (Code.rangeFunc g ps assign body).wpIn Fence.wide n Try.prog Q a w := by
  refine wpIn_rangeFunc fun fn hfn => ?_
  obtain ⟨rec, hrec⟩ : ∃ rec : LoopState → Option Code → Loop, rec = fun st pe => { state := st, pending := pe, fn := fn, tmps := a.tmps, params := ps, assign := assign, body := body, defers := w.heap.size } := ⟨_, rfl⟩
  obtain ⟨W1, hW1⟩ : ∃ W1, W1 = (w.alloc (.deferred (some []))).alloc (.loop (rec .ready none)) := ⟨_, rfl⟩
  have s1 : W1.heap.size = w.heap.size + 2 := by rw [hW1]; simp
  have rl : W1.heap[w.heap.size + 1]? = some (.loop (rec .ready none)) := by
    have := World.alloc_heap_new (w.alloc (.deferred (some []))) (.loop (rec .ready none))
    rw [World.size_alloc] at this
    rw [hW1]; exact this
  have rd : W1.heap[w.heap.size]? = some (.deferred (some [])) := by
    rw [hW1, Below.heap_alloc _ _ _ (by simp)]
    exact World.alloc_heap_new w _
  have bel : Below w.heap.size w W1 := by rw [hW1]; exact ((Below.refl _ w).alloc (Nat.le_refl _) _).alloc (by simp) _
  have i1 : I [] W1 := by rw [hW1]; exact hI.alloc _ (hI.alloc _ h0)
  have far : ∀ {X Y : World} {row : Option Nat}, X.grownBy Y row → (∀ r, row = some r → W1.heap.size ≤ r ∧ ∃ o : Obj, X.heap[r]? = some o ∧ o.isCells = false) → ∀ k, k < W1.heap.size → ∀ o, X.heap[k]? = some o → Y.heap[k]? = some o := fun {X Y row} hgr hr k hk o ho => by
    rw [hgr.block k (Array.getElem?_eq_some_iff.1 ho).1 (fun e => by have := (hr k e.symm).1; omega)]
    exact ho
  have dx : ∀ X : World, X.heap[w.heap.size]? = some (.deferred (some [])) ↔ DX (some w.heap.size) X := fun X => ⟨fun h D e => by cases e; exact h, fun h => h _ rfl⟩
  have hr := round_own (B0 := w.heap.size) (B1 := W1.heap.size) (l := w.heap.size + 1) (d := some w.heap.size) (Kx := Kx) (Gd := Gd) (Sp := Sp) (I := I) (Ix := Ix) (Ax := Ax) (encs := encs) rec hrec (by omega) (by omega) (fun D e => by cases e; omega) (fun h k => hKt h k) hKb hps hI hIx hAx (by omega) (fun m => hassign _ m) (fun m pre x a' W => hbody (w.heap.size + 1) m pre x a' W (by omega))
  refine ⟨w.heap.size + 1, [{ target := .collected w.heap.size, args := #[] }], W1, { target := .fn (.func gf) lb, args := #[.func (.yield (w.heap.size + 1)) #[] #[]] }, W1, gf, #[.func (.yield (w.heap.size + 1)) #[] #[]] ++ lb, W1, ?_, ?_, fun _ _ => trivial, ?_, fun h => (by cases h), ?_⟩
  · rw [hW1, hrec]; exact run_enterLoop_outer _ _ _ _ _
  · simp only [resolve, hg]
    simp [go_sem]
  · simp [invoke, go_sem, eg]
  · refine callsIn_wide.2 (Calls.mono (hseq (w.heap.size + 1) (fun pre X => I pre X ∧ X.heap[w.heap.size + 1]? = some (.loop (rec .ready none)) ∧ DX (some w.heap.size) X) (fun pre X => ∃ c, Ix c pre X ∧ X.heap[w.heap.size + 1]? = some (.loop (rec .done (some c))) ∧ DX (some w.heap.size) X) W1 bel ?_ ?_ hr ⟨i1, rl, (dx _).1 rd⟩) ?_)
    · rintro pre X Y row ⟨hi, hl, hd⟩ hgr hr'
      exact ⟨hI pre X Y row hi hgr (fun r e => ⟨by have := (hr' r e).1; omega, (hr' r e).2⟩), far hgr hr' _ (by omega) _ hl, (dx _).1 (far hgr hr' _ (by omega) _ ((dx _).2 hd))⟩
    · rintro pre X Y row ⟨c, hi, hl, hd⟩ hgr hr'
      exact ⟨c, hIx c pre X Y row hi hgr (fun r e => ⟨by have := (hr' r e).1; omega, (hr' r e).2⟩), far hgr hr' _ (by omega) _ hl, (dx _).1 (far hgr hr' _ (by omega) _ ((dx _).2 hd))⟩
    · rintro e W2 ⟨⟨v, rfl⟩, ⟨xs, hS, hi, hl, hd⟩ | ⟨pre, hSp, c, hi, hl, hd⟩⟩
      · have el := run_endLoop (P := Try.prog) hl (by rw [hrec]; simp)
        refine ⟨none, _, by rw [hrec] at el; exact el, hdone w.heap.size xs _ (Nat.le_refl _) hS (hI.putObj _ hi (by omega) hl rfl) ((World.putObj_heap_other (by omega)).trans ((dx _).2 hd))⟩
      · have el := run_endLoop (P := Try.prog) hl (by rw [hrec]; simp)
        refine ⟨some c, _, by rw [hrec] at el; exact el, hstop w.heap.size c pre _ (Nat.le_refl _) hSp ((hIx c).putObj _ hi (by omega) hl rfl) ((World.putObj_heap_other (by omega)).trans ((dx _).2 hd))⟩

end Go.Proofs.Ytggjeamondampab
