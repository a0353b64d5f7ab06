/- A range over an iterator that itself ranges over one: it may be left early, and stand within a round. -/
import Derived.Test.YtihhgminbmngcaaKX
namespace Go.Proofs.Ytihhgminbmngcaa
open Go.RowKit Go.Shelf
set_option linter.unusedVariables false
set_option maxHeartbeats 1000000
set_option maxRecDepth 100000
attribute [local go_sem] Oper.semAt_some

/-- Whatever hands things on one by one; what is kept from round to round abides the turn of what is no cells and new. -/
def SeqO {α : Type} (g : Nat) (lb : Array Value) (encs : α → Array Value) (Kx : World → World → Prop) (S Sp : List α → Prop) (w : World) : Prop :=
  ∀ (l : Nat) (J Jx : List α → World → Prop) (W : World), Below w.heap.size w W → OwnFrom W.heap.size J → OwnFrom W.heap.size Jx →
    (∀ (m : Nat) (pre : List α) (x : α) (X : World), J pre X → Sp (pre ++ [x]) → YieldAt Fence.wide m Try.prog l (encs x) X fun e X' =>
      (e = .returned (.bool true) ∧ J (pre ++ [x]) X' ∧ Kx X X' ∧ KeepsFrom W.heap.size X X') ∨ (e = .returned (.bool false) ∧ Jx (pre ++ [x]) X' ∧ KeepsFrom W.heap.size X X')) →
    J [] W → Calls Try.prog g (#[.func (.yield l) #[] #[]] ++ lb) W fun e W' => (∃ v, e = .returned v) ∧ ((∃ xs, S xs ∧ J xs W') ∨ (∃ pre, Sp pre ∧ Jx pre W'))

/-- The marks that lie where they lay. -/
def DX (d : Option Nat) (X : World) : Prop := ∀ D, d = some D → X.heap[D]? = some (.deferred (some []))

theorem round_own {α : Type} {fn : FuncId} {B0 B1 l dfr : Nat} {d : Option Nat} {ps : Array Tmp} {assign body : Code} {a : Act} {encs : α → Array Value} {Kx : World → World → Prop} {I : List α → World → Prop} {Ix : Code → List α → World → Prop} {Ax : α → Act → World → Prop} {Sp : List α → Prop}
    (rec : LoopState → Option Code → Loop) (hrec : rec = fun st pe => { state := st, pending := pe, fn := fn, tmps := a.tmps, params := ps, assign := assign, body := body, defers := dfr })
    (hl0 : B0 ≤ l) (hl1 : l < B1) (hd : ∀ D, d = some D → B0 ≤ D ∧ D ≠ l)
    (hKt : ∀ {A B C : World}, Kx A B → Kx B C → Kx A C) (hKb : ∀ (W : World) (j : Nat) (o o' : Obj), B0 ≤ j → W.heap[j]? = some o → o.isCells = false → Kx W (W.putObj j o')) (hps : ∀ x, (encs x).size = ps.size)
    (hI : OwnFrom B0 I) (hIx : ∀ c, OwnFrom B0 (Ix c)) (hAx : ∀ x a', OwnFrom B0 (fun (_ : Unit) W => Ax x a' W)) (hB : B0 ≤ B1)
    (hassign : ∀ (m : Nat) (pre : List α) (x : α) (W : World) (K : Act → World → Prop), I pre W → (∀ a' W', KeepsFrom B0 W W' → Kx W W' → I pre W' → Ax x a' W' → K a' W') →
      assign.wpIn (Fence.wide.inRound l) m Try.prog (Exit.then K (fun _ _ _ => False)) { tmps := (ps.zip (encs x)).foldl (fun t (p, v) => t.setIfInBounds p v) a.tmps, defers := [] } W)
    (hbody : ∀ (m : Nat) (pre : List α) (x : α) (a' : Act) (W : World), (∃ r, W.heap[l]? = some (.loop r)) → I pre W → Ax x a' W → Sp (pre ++ [x]) → body.wpIn (Fence.wide.inRound l) m Try.prog (ownPostG B0 Kx I Ix (pre ++ [x]) W) a' W) :
    ∀ (m : Nat) (pre : List α) (x : α) (X : World), (I pre X ∧ X.heap[l]? = some (.loop (rec .ready none)) ∧ DX d X) → Sp (pre ++ [x]) → YieldAt Fence.wide m Try.prog l (encs x) X fun e X' =>
      (e = .returned (.bool true) ∧ (I (pre ++ [x]) X' ∧ X'.heap[l]? = some (.loop (rec .ready none)) ∧ DX d X') ∧ Kx X X' ∧ KeepsFrom B1 X X') ∨
      (e = .returned (.bool false) ∧ (∃ c, Ix c (pre ++ [x]) X' ∧ X'.heap[l]? = some (.loop (rec .done (some c))) ∧ DX d X') ∧ KeepsFrom B1 X X') := by
  rintro m pre x X ⟨hi, hl, hdx⟩ hp
  have hy := run_yield (P := Try.prog) (args := encs x) hl (by rw [hrec]; exact hps x)
  have e0 : (rec .ready none).fn = fn ∧ (rec .ready none).params = ps ∧ (rec .ready none).tmps = a.tmps ∧ (rec .ready none).assign = assign ∧ (rec .ready none).body = body := by rw [hrec]; exact ⟨rfl, rfl, rfl, rfl, rfl⟩
  rw [e0.1, e0.2.1, e0.2.2.1, e0.2.2.2.1, e0.2.2.2.2] at hy
  refine ⟨fn, _, assign, body, hy, roundIn_of_wpIn trivial (hassign m pre x X _ hi ?_)⟩
  clear hy
  intro a' X1 k1 q1 i1 ax
  have l1 := k1.same l _ hl0 hl rfl
  have lt1 : l < X1.heap.size := (Array.getElem?_eq_some_iff.1 l1).1
  have d1 : DX d X1 := fun D e => k1.same D _ (hd D e).1 (hdx D e) rfl
  have busy : { rec .ready none with state := .busy } = rec .busy none := by rw [hrec]
  have bg := run_beginRound (P := Try.prog) l1 (by rw [hrec])
  rw [busy] at bg
  refine ⟨_, bg, ?_⟩
  have l2 : (X1.putObj l (.loop (rec .busy none))).heap[l]? = some (.loop (rec .busy none)) := World.putObj_heap_same lt1
  have d2 : DX d (X1.putObj l (.loop (rec .busy none))) := fun D e => (World.putObj_heap_other (hd D e).2).trans (d1 D e)
  have q2 : Kx X1 (X1.putObj l (.loop (rec .busy none))) := hKb _ _ _ _ hl0 l1 rfl
  have z2 : X1.heap.size ≤ (X1.putObj l (.loop (rec .busy none))).heap.size := by simp
  refine wpIn_mono (hbody m pre x a' _ ⟨_, l2⟩ (hI.putObj _ i1 hl0 l1 rfl) ((hAx x a').putObj (s := ()) _ ax hl0 l1 rfl) hp) ?_
  -- how a round ends
  have fin : ∀ (jump : Option Code) (X3 : World), KeepsFrom B0 (X1.putObj l (.loop (rec .busy none))) X3 →
      (Instr.endRound l jump).run Try.prog X3 = .ok (.bool jump.isNone) (X3.putObj l (.loop (rec (if jump.isNone then .ready else .done) jump))) ∧ X3.heap[l]? = some (.loop (rec .busy none)) ∧
      (X3.putObj l (.loop (rec (if jump.isNone then .ready else .done) jump))).heap[l]? = some (.loop (rec (if jump.isNone then .ready else .done) jump)) ∧ DX d (X3.putObj l (.loop (rec (if jump.isNone then .ready else .done) jump))) ∧
      KeepsFrom B1 X (X3.putObj l (.loop (rec (if jump.isNone then .ready else .done) jump))) := fun jump X3 k3 => by
    have l3 := k3.same l _ hl0 l2 rfl
    have er := run_endRound (P := Try.prog) jump l3
    have e1 : { rec .busy none with state := if jump.isNone then .ready else .done, pending := jump } = rec (if jump.isNone then .ready else .done) jump := by rw [hrec]
    rw [e1] at er
    refine ⟨er, l3, World.putObj_heap_same (Array.getElem?_eq_some_iff.1 l3).1, fun D e => (World.putObj_heap_other (hd D e).2).trans (k3.same D _ (hd D e).1 (d2 D e) rfl), ?_, fun j o hj ho hc => ?_⟩
    · have := k1.size; have := k3.size; simp; omega
    · have nj : j ≠ l := by omega
      refine (World.putObj_heap_other nj).trans (k3.same j o (by omega) ((World.putObj_heap_other nj).trans (k1.same j o (by omega) ho hc)) hc)
  rintro e a3 X3 hpost
  have one : ∀ (jump : Option Code) (cd : Code), jump = some cd → KeepsFrom B0 (X1.putObj l (.loop (rec .busy none))) X3 → Ix cd (pre ++ [x]) X3 → ∃ v X4, (Instr.endRound l jump).run Try.prog X3 = .ok v X4 ∧ ((Ending.returned v = .returned (.bool true) ∧ (I (pre ++ [x]) X4 ∧ X4.heap[l]? = some (.loop (rec .ready none)) ∧ DX d X4) ∧ Kx X X4 ∧ KeepsFrom B1 X X4) ∨ (Ending.returned v = .returned (.bool false) ∧ (∃ c, Ix c (pre ++ [x]) X4 ∧ X4.heap[l]? = some (.loop (rec .done (some c))) ∧ DX d X4) ∧ KeepsFrom B1 X X4)) := fun jump cd ej k3 i3 => by
    subst ej
    obtain ⟨hr, l3, l4, d4, k4⟩ := fin (some cd) X3 k3
    exact ⟨_, _, hr, .inr ⟨rfl, ⟨cd, (hIx cd).putObj _ i3 hl0 l3 rfl, l4, d4⟩, k4⟩⟩
  cases e with
  | normal =>
    obtain ⟨k3, q3, i3⟩ := hpost
    obtain ⟨hr, l3, l4, d4, k4⟩ := fin none X3 k3
    exact ⟨_, _, hr, .inl ⟨rfl, ⟨hI.putObj _ i3 hl0 l3 rfl, l4, d4⟩, hKt (hKt (hKt q1 q2) q3) (hKb _ _ _ _ hl0 l3 rfl), k4⟩⟩
  | ret => exact one _ _ rfl hpost.1 hpost.2
  | exit id => exact one _ _ rfl hpost.1 hpost.2
  | goto t => exact one _ _ rfl hpost.1 hpost.2
  | panic ch => exact hpost.elim
  | outgrown => exact hpost.elim

theorem range_own {α : Type} {g : Operand} {ps : Array Tmp} {assign body : Code} {Q : Exit → Act → World → Prop} {a : Act} {w : World} (n : Nat) {gf : Nat} {lb : Array Value} (hg : a.eval g = .func (.func gf) #[] lb) (eg : ∀ args w, (callFunc gf args).run Try.prog w = .ok (.enter gf args) w)
    {encs : α → Array Value} {Kx : World → World → Prop} {S Sp : List α → Prop} (hseq : SeqO gf lb encs Kx S Sp w)
    (hKt : ∀ {A B C : World}, Kx A B → Kx B C → Kx A C) (hKb : ∀ (W : World) (j : Nat) (o o' : Obj), w.heap.size ≤ j → W.heap[j]? = some o → o.isCells = false → Kx W (W.putObj j o')) (hps : ∀ x, (encs x).size = ps.size)
    (I : List α → World → Prop) (Ix : Code → List α → World → Prop) (hI : OwnFrom w.heap.size I) (hIx : ∀ c, OwnFrom w.heap.size (Ix c)) (h0 : I [] w) (Ax : α → Act → World → Prop) (hAx : ∀ x a', OwnFrom w.heap.size (fun (_ : Unit) W => Ax x a' W))
    (hassign : ∀ (l m : Nat) (pre : List α) (x : α) (W : World) (K : Act → World → Prop), I pre W → (∀ a' W', KeepsFrom w.heap.size W W' → Kx W W' → I pre W' → Ax x a' W' → K a' W') →
      assign.wpIn (Fence.wide.inRound l) m Try.prog (Exit.then K (fun _ _ _ => False)) { tmps := (ps.zip (encs x)).foldl (fun t (p, v) => t.setIfInBounds p v) a.tmps, defers := [] } W)
    (hbody : ∀ (l m : Nat) (pre : List α) (x : α) (a' : Act) (W : World), w.heap.size ≤ l → (∃ r, W.heap[l]? = some (.loop r)) → I pre W → Ax x a' W → Sp (pre ++ [x]) → body.wpIn (Fence.wide.inRound l) m Try.prog (ownPostG w.heap.size Kx I Ix (pre ++ [x]) W) a' W)
    (hdone : ∀ (D : Nat) (xs : List α) (W : World), w.heap.size ≤ D → S xs → I xs W → W.heap[D]? = some (.deferred (some [])) → Q .normal { a with defers := { target := .collected D, args := #[] } :: a.defers } W)
    (hstop : ∀ (D : Nat) (c : Code) (pre : List α) (W : World), w.heap.size ≤ D → Sp pre → Ix c pre W → W.heap[D]? = some (.deferred (some [])) → c.wpIn Fence.wide n Try.prog Q { a with defers := { target := .collected D, args := #[] } :: a.defers } W) :
    (Code.rangeFunc g ps assign body).wpIn Fence.wide n Try.prog Q a w := by
  refine wpIn_rangeFunc fun fn hfn => ?_
  obtain ⟨rec, hrec⟩ : ∃ rec : LoopState → Option Code → Loop, rec = fun st pe => { state := st, pending := pe, fn := fn, tmps := a.tmps, params := ps, assign := assign, body := body, defers := w.heap.size } := ⟨_, rfl⟩
  obtain ⟨W1, hW1⟩ : ∃ W1, W1 = (w.alloc (.deferred (some []))).alloc (.loop (rec .ready none)) := ⟨_, rfl⟩
  have s1 : W1.heap.size = w.heap.size + 2 := by rw [hW1]; simp
  have rl : W1.heap[w.heap.size + 1]? = some (.loop (rec .ready none)) := by
    have := World.alloc_heap_new (w.alloc (.deferred (some []))) (.loop (rec .ready none))
    rw [World.size_alloc] at this
    rw [hW1]; exact this
  have rd : W1.heap[w.heap.size]? = some (.deferred (some [])) := by
    rw [hW1, Below.heap_alloc _ _ _ (by simp)]
    exact World.alloc_heap_new w _
  have bel : Below w.heap.size w W1 := by rw [hW1]; exact ((Below.refl _ w).alloc (Nat.le_refl _) _).alloc (by simp) _
  have i1 : I [] W1 := by rw [hW1]; exact hI.alloc _ (hI.alloc _ h0)
  have far : ∀ {X Y : World} {row : Option Nat}, X.grownBy Y row → (∀ r, row = some r → W1.heap.size ≤ r ∧ ∃ o : Obj, X.heap[r]? = some o ∧ o.isCells = false) → ∀ k, k < W1.heap.size → ∀ o, X.heap[k]? = some o → Y.heap[k]? = some o := fun {X Y row} hgr hr k hk o ho => by
    rw [hgr.block k (Array.getElem?_eq_some_iff.1 ho).1 (fun e => by have := (hr k e.symm).1; omega)]
    exact ho
  have dx : ∀ X : World, X.heap[w.heap.size]? = some (.deferred (some [])) ↔ DX (some w.heap.size) X := fun X => ⟨fun h D e => by cases e; exact h, fun h => h _ rfl⟩
  have hr := round_own (B0 := w.heap.size) (B1 := W1.heap.size) (l := w.heap.size + 1) (d := some w.heap.size) (Kx := Kx) (Sp := Sp) (I := I) (Ix := Ix) (Ax := Ax) (encs := encs) rec hrec (by omega) (by omega) (fun D e => by cases e; omega) (fun h k => hKt h k) hKb hps hI hIx hAx (by omega) (fun m => hassign _ m) (fun m pre x a' W => hbody (w.heap.size + 1) m pre x a' W (by omega))
  refine ⟨w.heap.size + 1, [{ target := .collected w.heap.size, args := #[] }], W1, { target := .fn (.func gf) lb, args := #[.func (.yield (w.heap.size + 1)) #[] #[]] }, W1, gf, #[.func (.yield (w.heap.size + 1)) #[] #[]] ++ lb, W1, ?_, ?_, fun _ _ => trivial, ?_, fun h => (by cases h), ?_⟩
  · rw [hW1, hrec]; exact run_enterLoop_outer _ _ _ _ _
  · simp only [resolve, hg]
    simp [go_sem]
  · simp [invoke, go_sem, eg]
  · refine callsIn_wide.2 (Calls.mono (hseq (w.heap.size + 1) (fun pre X => I pre X ∧ X.heap[w.heap.size + 1]? = some (.loop (rec .ready none)) ∧ DX (some w.heap.size) X) (fun pre X => ∃ c, Ix c pre X ∧ X.heap[w.heap.size + 1]? = some (.loop (rec .done (some c))) ∧ DX (some w.heap.size) X) W1 bel ?_ ?_ hr ⟨i1, rl, (dx _).1 rd⟩) ?_)
    · rintro pre X Y row ⟨hi, hl, hd⟩ hgr hr'
      exact ⟨hI pre X Y row hi hgr (fun r e => ⟨by have := (hr' r e).1; omega, (hr' r e).2⟩), far hgr hr' _ (by omega) _ hl, (dx _).1 (far hgr hr' _ (by omega) _ ((dx _).2 hd))⟩
    · rintro pre X Y row ⟨c, hi, hl, hd⟩ hgr hr'
      exact ⟨c, hIx c pre X Y row hi hgr (fun r e => ⟨by have := (hr' r e).1; omega, (hr' r e).2⟩), far hgr hr' _ (by omega) _ hl, (dx _).1 (far hgr hr' _ (by omega) _ ((dx _).2 hd))⟩
    · rintro e W2 ⟨⟨v, rfl⟩, ⟨xs, hS, hi, hl, hd⟩ | ⟨pre, hSp, c, hi, hl, hd⟩⟩
      · have el := run_endLoop (P := Try.prog) hl (by rw [hrec]; simp)
        refine ⟨none, _, by rw [hrec] at el; exact el, hdone w.heap.size xs _ (Nat.le_refl _) hS (hI.putObj _ hi (by omega) hl rfl) ((World.putObj_heap_other (by omega)).trans ((dx _).2 hd))⟩
      · have el := run_endLoop (P := Try.prog) hl (by rw [hrec]; simp)
        refine ⟨some c, _, by rw [hrec] at el; exact el, hstop w.heap.size c pre _ (Nat.le_refl _) hSp ((hIx c).putObj _ hi (by omega) hl rfl) ((World.putObj_heap_other (by omega)).trans ((dx _).2 hd))⟩

theorem range_in {α : Type} {g : Operand} {ps : Array Tmp} {assign body : Code} {Q : Exit → Act → World → Prop} {a : Act} {w : World} (n : Nat) {l₀ : Nat} {r₀ : Loop} (hl₀ : w.heap[l₀]? = some (.loop r₀)) {gf : Nat} {lb : Array Value} (hg : a.eval g = .func (.func gf) #[] lb) (eg : ∀ args w, (callFunc gf args).run Try.prog w = .ok (.enter gf args) w)
    {encs : α → Array Value} {Kx : World → World → Prop} {S Sp : List α → Prop} (hseq : SeqO gf lb encs Kx S Sp w)
    (hKt : ∀ {A B C : World}, Kx A B → Kx B C → Kx A C) (hKb : ∀ (W : World) (j : Nat) (o o' : Obj), w.heap.size ≤ j → W.heap[j]? = some o → o.isCells = false → Kx W (W.putObj j o')) (hps : ∀ x, (encs x).size = ps.size)
    (I : List α → World → Prop) (Ix : Code → List α → World → Prop) (hI : OwnFrom w.heap.size I) (hIx : ∀ c, OwnFrom w.heap.size (Ix c)) (h0 : I [] w) (Ax : α → Act → World → Prop) (hAx : ∀ x a', OwnFrom w.heap.size (fun (_ : Unit) W => Ax x a' W))
    (hassign : ∀ (l m : Nat) (pre : List α) (x : α) (W : World) (K : Act → World → Prop), I pre W → (∀ a' W', KeepsFrom w.heap.size W W' → Kx W W' → I pre W' → Ax x a' W' → K a' W') →
      assign.wpIn (Fence.wide.inRound l) m Try.prog (Exit.then K (fun _ _ _ => False)) { tmps := (ps.zip (encs x)).foldl (fun t (p, v) => t.setIfInBounds p v) a.tmps, defers := [] } W)
    (hbody : ∀ (l m : Nat) (pre : List α) (x : α) (a' : Act) (W : World), w.heap.size ≤ l → (∃ r, W.heap[l]? = some (.loop r)) → I pre W → Ax x a' W → Sp (pre ++ [x]) → body.wpIn (Fence.wide.inRound l) m Try.prog (ownPostG w.heap.size Kx I Ix (pre ++ [x]) W) a' W)
    (hdone : ∀ (xs : List α) (W : World), S xs → I xs W → Q .normal a W)
    (hstop : ∀ (c : Code) (pre : List α) (W : World), Sp pre → Ix c pre W → c.wpIn (Fence.wide.inRound l₀) n Try.prog Q a W) :
    (Code.rangeFunc g ps assign body).wpIn (Fence.wide.inRound l₀) n Try.prog Q a w := by
  refine wpIn_rangeFunc fun fn hfn => ?_
  obtain ⟨rec, hrec⟩ : ∃ rec : LoopState → Option Code → Loop, rec = fun st pe => { state := st, pending := pe, fn := fn, tmps := a.tmps, params := ps, assign := assign, body := body, defers := r₀.defers } := ⟨_, rfl⟩
  obtain ⟨W1, hW1⟩ : ∃ W1, W1 = w.alloc (.loop (rec .ready none)) := ⟨_, rfl⟩
  have s1 : W1.heap.size = w.heap.size + 1 := by rw [hW1]; simp
  have rl : W1.heap[w.heap.size]? = some (.loop (rec .ready none)) := by rw [hW1]; exact World.alloc_heap_new w _
  have bel : Below w.heap.size w W1 := by rw [hW1]; exact (Below.refl _ w).alloc (Nat.le_refl _) _
  have i1 : I [] W1 := by rw [hW1]; exact hI.alloc _ h0
  have far : ∀ {X Y : World} {row : Option Nat}, X.grownBy Y row → (∀ r, row = some r → W1.heap.size ≤ r ∧ ∃ o : Obj, X.heap[r]? = some o ∧ o.isCells = false) → ∀ k, k < W1.heap.size → ∀ o, X.heap[k]? = some o → Y.heap[k]? = some o := fun {X Y row} hgr hr k hk o ho => by
    rw [hgr.block k (Array.getElem?_eq_some_iff.1 ho).1 (fun e => by have := (hr k e.symm).1; omega)]
    exact ho
  have nd : ∀ X : World, DX none X := fun X D e => by cases e
  have hr := round_own (B0 := w.heap.size) (B1 := W1.heap.size) (l := w.heap.size) (d := none) (Kx := Kx) (Sp := Sp) (I := I) (Ix := Ix) (Ax := Ax) (encs := encs) rec hrec (Nat.le_refl _) (by omega) (fun D e => by cases e) (fun h k => hKt h k) hKb hps hI hIx hAx (by omega) (fun m => hassign _ m) (fun m pre x a' W => hbody _ m pre x a' W (Nat.le_refl _))
  refine ⟨w.heap.size, [], W1, { target := .fn (.func gf) lb, args := #[.func (.yield w.heap.size) #[] #[]] }, W1, gf, #[.func (.yield w.heap.size) #[] #[]] ++ lb, W1, ?_, ?_, fun _ _ => trivial, ?_, fun h => (by cases h), ?_⟩
  · rw [hW1, hrec]; exact run_enterLoop_inner hl₀ _ _ _ _ _
  · simp only [resolve, hg]
    simp [go_sem]
  · simp [invoke, go_sem, eg]
  · refine CallsIn.inRound l₀ (callsIn_wide.2 (Calls.mono (hseq w.heap.size (fun pre X => I pre X ∧ X.heap[w.heap.size]? = some (.loop (rec .ready none)) ∧ DX none X) (fun pre X => ∃ c, Ix c pre X ∧ X.heap[w.heap.size]? = some (.loop (rec .done (some c))) ∧ DX none X) W1 bel ?_ ?_ hr ⟨i1, rl, nd _⟩) ?_))
    · rintro pre X Y row ⟨hi, hl, hd⟩ hgr hr'
      exact ⟨hI pre X Y row hi hgr (fun r e => ⟨by have := (hr' r e).1; omega, (hr' r e).2⟩), far hgr hr' _ (by omega) _ hl, nd _⟩
    · rintro pre X Y row ⟨c, hi, hl, hd⟩ hgr hr'
      exact ⟨c, hIx c pre X Y row hi hgr (fun r e => ⟨by have := (hr' r e).1; omega, (hr' r e).2⟩), far hgr hr' _ (by omega) _ hl, nd _⟩
    · rintro e W2 ⟨⟨v, rfl⟩, ⟨xs, hS, hi, hl, hd⟩ | ⟨pre, hSp, c, hi, hl, hd⟩⟩
      · have el := run_endLoop (P := Try.prog) hl (by rw [hrec]; simp)
        refine ⟨none, _, by rw [hrec] at el; exact el, hdone xs _ hS (hI.putObj _ hi (Nat.le_refl _) hl rfl)⟩
      · have el := run_endLoop (P := Try.prog) hl (by rw [hrec]; simp)
        refine ⟨some c, _, by rw [hrec] at el; exact el, hstop c pre _ hSp ((hIx c).putObj _ hi (Nat.le_refl _) hl rfl)⟩

end Go.Proofs.Ytihhgminbmngcaa
