/- A range over pairs whose body collects both in boxes. -/
import Derived.Test.YtihhgminbmngcaaNVC
namespace Go.Proofs.Ytihhgminbmngcaa
open Go.RowKit Go.Shelf
set_option linter.unusedVariables false
set_option maxRecDepth 100000

/-- The two boxes of a collecting loop. -/
structure TB (n₀ : Nat) (w3 : World) (Bp Bm : Nat) (W : World) (pv mv : Value) (lp lm : List Int) : Prop where
  bp : Boxed W Bp 30 pv
  rp : IRow W n₀ 3 .i64 pv lp
  bm : Boxed W Bm 31 mv
  rm : IRow W n₀ 35 .u64 mv lm
  bel : Below n₀ w3 W
  hp : n₀ ≤ Bp
  hm : n₀ ≤ Bm

section
variable {n₀ Bp Bm : Nat} {w3 W W1 : World} {pv mv pv' mv' : Value} {lp lm lp' lm' : List Int}
theorem TB.ne (h : TB n₀ w3 Bp Bm W pv mv lp lm) : Bp ≠ Bm := by
  intro e
  have h1 := h.bp
  have h2 := h.bm
  unfold Boxed at h1 h2
  rw [e, h2] at h1
  simp at h1
theorem TB.low (h : TB n₀ w3 Bp Bm W pv mv lp lm) : n₀ ≤ W.heap.size := by have := h.bp.lt; have := h.hp; omega

theorem moved_boxed {B t : Nat} {u : Value} {y y' : Value} {e : TypeId} {k : IntKind} {l : List Int} {b0 : Nat} (hm : Moved W W1 y y') (hb : Boxed W B t u) (hr : IRow W b0 e k y l) (hne : t ≠ e) : Boxed W1 B t u := moved_block hm hr hb hne

theorem moved_others {y y' : Value} {e : TypeId} {k : IntKind} {l : List Int} {b0 : Nat} (hm : Moved W W1 y y') (hr : IRow W b0 e k y l) : KeepsOthers W W1 := by
  rcases hm with ⟨_, hg⟩ | ⟨_, hg, _⟩
  · exact KeepsOthers.of_grownBy hg fun j o ej hj => by
      obtain ⟨c, h1⟩ := hr.block j ej
      rw [h1] at hj
      cases hj
      rfl
  · exact KeepsOthers.of_grownBy hg fun j o ej _ => by cases ej

theorem irow_set {B : Nat} {t e : TypeId} {u : Value} {k : IntKind} {v : Value} {l : List Int} (h : IRow W n₀ e k v l) (hb : Boxed W B t u) (hne : t ≠ e) (x : Value) : IRow (W.setCell ⟨B, 0, none⟩ x) n₀ e k v l := by
  refine ownsRow_setCell_other h (fun e1 => ?_) x
  obtain ⟨c, h1⟩ := h.block B e1
  unfold Boxed at hb
  rw [hb] at h1
  simp at h1
  exact hne h1.2

theorem TB.app_p (h : TB n₀ w3 Bp Bm W pv mv lp lm) (o : Obj) (hm : Moved (W.alloc o) W1 pv pv') (hr : IRow W1 n₀ 3 .i64 pv' lp') :
    (W1.cell? ⟨Bp, 0, none⟩ = some pv ∧ W1.frozen? ⟨Bp, 0, none⟩ = false) ∧ TB n₀ w3 Bp Bm (W1.setCell ⟨Bp, 0, none⟩ pv') pv' mv lp' lm ∧ KeepsOthers W (W1.setCell ⟨Bp, 0, none⟩ pv') ∧ Below n₀ W (W1.setCell ⟨Bp, 0, none⟩ pv') := by
  have rp := h.rp.alloc o
  have b1 := moved_boxed hm (h.bp.alloc o) rp (by decide)
  have b2 := moved_boxed hm (h.bm.alloc o) rp (by decide)
  have r2 := (h.rm.alloc o).moved hm rp (by decide)
  have bl : Below n₀ W (W1.setCell ⟨Bp, 0, none⟩ pv') := (rp.bel hm ((Below.refl n₀ W).alloc h.low o) (by have := h.low; simp; omega)).setCell (p := ⟨Bp, 0, none⟩) h.hp _
  refine ⟨⟨b1.cell, b1.frozen⟩, ⟨b1.set pv', irow_set hr b1 (by decide) _, ?_, irow_set r2 b1 (by decide) _, h.bel.trans bl, h.hp, h.hm⟩, ((KeepsOthers.alloc W o).trans (moved_others hm rp)).trans (KeepsOthers.setCell _ _ _), bl⟩
  unfold Boxed
  rw [heap_setCell_other _ _ _ _ (by show Bm ≠ Bp; exact h.ne.symm)]
  exact b2
theorem TB.app_m (h : TB n₀ w3 Bp Bm W pv mv lp lm) (o : Obj) (hm : Moved (W.alloc o) W1 mv mv') (hr : IRow W1 n₀ 35 .u64 mv' lm') :
    (W1.cell? ⟨Bm, 0, none⟩ = some mv ∧ W1.frozen? ⟨Bm, 0, none⟩ = false) ∧ TB n₀ w3 Bp Bm (W1.setCell ⟨Bm, 0, none⟩ mv') pv mv' lp lm' ∧ KeepsOthers W (W1.setCell ⟨Bm, 0, none⟩ mv') ∧ Below n₀ W (W1.setCell ⟨Bm, 0, none⟩ mv') := by
  have rm := h.rm.alloc o
  have b1 := moved_boxed hm (h.bm.alloc o) rm (by decide)
  have b2 := moved_boxed hm (h.bp.alloc o) rm (by decide)
  have r2 := (h.rp.alloc o).moved hm rm (by decide)
  have bl : Below n₀ W (W1.setCell ⟨Bm, 0, none⟩ mv') := (rm.bel hm ((Below.refl n₀ W).alloc h.low o) (by have := h.low; simp; omega)).setCell (p := ⟨Bm, 0, none⟩) h.hm _
  refine ⟨⟨b1.cell, b1.frozen⟩, ⟨?_, irow_set r2 b1 (by decide) _, b1.set mv', irow_set hr b1 (by decide) _, h.bel.trans bl, h.hp, h.hm⟩, ((KeepsOthers.alloc W o).trans (moved_others hm rm)).trans (KeepsOthers.setCell _ _ _), bl⟩
  unfold Boxed
  rw [heap_setCell_other _ _ _ _ (by show Bp ≠ Bm; exact h.ne)]
  exact b2
end

/-- What holds between two rounds. -/
def TI2 (n₀ : Nat) (w3 : World) (Bp Bm : Nat) (pre : List Pair) (W : World) : Prop := ∃ pv mv, TB n₀ w3 Bp Bm W pv mv (pre.map Prod.fst) (pre.map Prod.snd)

theorem irow_own {W W' : World} {row : Option Nat} {n₀ : Nat} {e : TypeId} {k : IntKind} {v : Value} {l : List Int} (h : IRow W n₀ e k v l) (hg : W.grownBy W' row) (hr : ∀ r, row = some r → ∃ o : Obj, W.heap[r]? = some o ∧ o.isCells = false) : IRow W' n₀ e k v l := by
  refine World.ownsRow.kept h hg ?_
  cases hv : v.ownBlock with
  | none => exact .inl rfl
  | some g =>
    right
    intro e1
    obtain ⟨o, h1, h2⟩ := hr g e1.symm
    obtain ⟨c, h3⟩ := h.block g hv
    rw [h1] at h3
    cases h3
    cases h2
theorem boxed_own2 {W W' : World} {row : Option Nat} {B : Nat} {t : TypeId} {v : Value} (h : Boxed W B t v) (hg : W.grownBy W' row) (hr : ∀ r, row = some r → ∃ o : Obj, W.heap[r]? = some o ∧ o.isCells = false) : Boxed W' B t v := by
  refine h.kept hg (fun e1 => ?_)
  obtain ⟨o, h1, h2⟩ := hr B e1.symm
  unfold Boxed at h
  rw [h] at h1
  cases h1
  cases h2
theorem TI2.own {n₀ B : Nat} {w3 : World} {Bp Bm : Nat} (hn : n₀ ≤ w3.heap.size) (hB : n₀ ≤ B) : OwnFrom B (TI2 n₀ w3 Bp Bm) := by
  rintro s W W' row ⟨pv, mv, h⟩ hg hr
  have hr2 : ∀ r, row = some r → ∃ o : Obj, W.heap[r]? = some o ∧ o.isCells = false := fun r e => (hr r e).2
  exact ⟨pv, mv, boxed_own2 h.bp hg hr2, irow_own h.rp hg hr2, boxed_own2 h.bm hg hr2, irow_own h.rm hg hr2, h.bel.grown hg h.low (fun k e => Nat.le_trans hB (hr k e).1), h.hp, h.hm⟩

/-- The temporaries behind the assignment to the two loop variables. -/
abbrev put4 (a : Act) (t1 t2 d1 d2 : Nat) (x : Pair) : Act := { tmps := (((a.tmps.setIfInBounds t1 (.int .i64 x.1)).setIfInBounds t2 (.int .u64 x.2)).setIfInBounds d1 (.int .i64 x.1)).setIfInBounds d2 (.int .u64 x.2), defers := [] }

theorem rangeG {F : Fence} {n : Nat} {P : Program} {g : Operand} {t1 t2 : Nat} {assign body : Code} {Q : Exit → Act → World → Prop} {a : Act} {w : World} (d1 d2 : Nat)
    (hro : F.round = none) (h1 : 1 ≤ n) {gf : Nat} {lb : Array Value} (hg : a.eval g = .func (.func gf) #[] lb) (hFg : F.fn gf) (eg : ∀ args w, (callFunc gf args).run P w = .ok (.enter gf args) w)
    {Kp : World → World → Prop} {S Sp : List Pair → Prop} {N : Nat} {w0 : World} (hseq : SeqStopsK F (n - 1) P gf lb encP Kp S Sp N w0)
    (hKt : ∀ {A B C : World}, Kp A B → Kp B C → Kp A C) (hKb : ∀ (W : World) (l : Nat) (o o' : Obj), w.heap.size ≤ l → W.heap[l]? = some o → o.isCells = false → o.isWalk = false → Kp W (W.putObj l o')) (hb0 : Below w0.heap.size w0 w)
    (I : List Pair → World → Prop) (Ix : Code → List Pair → World → Prop) (hI : OwnFrom w.heap.size I) (hIx : ∀ c, OwnFrom w.heap.size (Ix c)) (h0 : I [] w)
    (hassign : ∀ (l : Nat) (x : Pair) (W : World) (K : Act → World → Prop), K (put4 a t1 t2 d1 d2 x) W →
      assign.wpIn (F.inRound l) (n - 1 - 1) P (Exit.then K (fun _ _ _ => False)) { tmps := (#[t1, t2].zip (encP x)).foldl (fun t (p, v) => t.setIfInBounds p v) a.tmps, defers := [] } W)
    (hbody : ∀ (l : Nat) (pre : List Pair) (x : Pair) (W : World), I pre W → pre.length < N → body.wpIn (F.inRound l) (n - 1 - 1) P (ownPostG w.heap.size Kp I Ix (pre ++ [x]) W) (put4 a t1 t2 d1 d2 x) W)
    (hdone : ∀ (D : Nat) (xs : List Pair) (W : World), w.heap.size ≤ D → S xs → I xs W → W.heap[D]? = some (.deferred (some [])) → Q .normal { a with defers := { target := .collected D, args := #[] } :: a.defers } W)
    (hstop : ∀ (D : Nat) (c : Code) (pre : List Pair) (W : World), w.heap.size ≤ D → Sp pre → Ix c pre W → W.heap[D]? = some (.deferred (some [])) → c.wpIn F n P Q { a with defers := { target := .collected D, args := #[] } :: a.defers } W) :
    (Code.rangeFunc g #[t1, t2] assign body).wpIn F n P Q a w :=
  wpIn_rangeFunc_ownG hro h1 hg hFg eg hseq hKt hKb hb0 (fun _ => rfl) I Ix hI hIx h0 (put4 a t1 t2 d1 d2) hassign hbody hdone hstop
end Go.Proofs.Ytihhgminbmngcaa
