/- NumAll: what holds between its rounds. -/
import Derived.Test.YtihhgminbmngcaaNSQ
namespace Go.Proofs.Ytihhgminbmngcaa
open Go.RowKit Go.Shelf
set_option linter.unusedVariables false
set_option maxHeartbeats 1000000
set_option maxRecDepth 100000

/-- A range, whatever way it is left. -/
theorem range_two {α : Type} {g : Operand} {ps : Array Tmp} {assign body : Code} {Q : Exit → Act → World → Prop} {a : Act} {w : World} (n id : Nat) {gf : Nat} {lb : Array Value} (hg : a.eval g = .func (.func gf) #[] lb) (eg : ∀ args w, (callFunc gf args).run Try.prog w = .ok (.enter gf args) w)
    {encs : α → Array Value} {Kx : World → World → Prop} {S Sp : List α → Prop} (hseq : SeqO gf lb encs Kx S Sp w)
    (hKt : ∀ {A B C : World}, Kx A B → Kx B C → Kx A C) (hKb : ∀ (W : World) (j : Nat) (o o' : Obj), w.heap.size ≤ j → W.heap[j]? = some o → o.isCells = false → Kx W (W.putObj j o')) (hps : ∀ x, (encs x).size = ps.size)
    (I : List α → World → Prop) (Ix : List α → World → Prop) (hI : OwnFrom w.heap.size I) (hIx : OwnFrom w.heap.size Ix) (h0 : I [] w) (Ax : α → Act → World → Prop) (hAx : ∀ x a', OwnFrom w.heap.size (fun (_ : Unit) W => Ax x a' W))
    (G : Nat → World → Prop) (hG1 : ∀ D xs W, S xs → I xs W → W.heap[D]? = some (.deferred (some [])) → G D W) (hG2 : ∀ D pre W, Sp pre → Ix pre W → W.heap[D]? = some (.deferred (some [])) → G D W) (hQ : ∀ a' W, Q .normal a' W → Q (.exit id) a' W)
    (hassign : ∀ (l m : Nat) (pre : List α) (x : α) (W : World) (K : Act → World → Prop), I pre W → (∀ a' W', KeepsFrom w.heap.size W W' → Kx W W' → I pre W' → Ax x a' W' → K a' W') →
      assign.wpIn (Fence.wide.inRound l) m Try.prog (Exit.then K (fun _ _ _ => False)) { tmps := (ps.zip (encs x)).foldl (fun t (p, v) => t.setIfInBounds p v) a.tmps, defers := [] } W)
    (hbody : ∀ (l m : Nat) (pre : List α) (x : α) (a' : Act) (W : World), w.heap.size ≤ l → (∃ r, W.heap[l]? = some (.loop r)) → I pre W → Ax x a' W → Sp (pre ++ [x]) → body.wpIn (Fence.wide.inRound l) m Try.prog (ownPostG w.heap.size Kx I (fun c xs W => c = .exit id ∧ Ix xs W) (pre ++ [x]) W) a' W)
    (hrest : ∀ (D : Nat) (W : World), w.heap.size ≤ D → G D W → Q .normal { a with defers := { target := .collected D, args := #[] } :: a.defers } W) :
    (Code.rangeFunc g ps assign body).wpIn Fence.wide n Try.prog Q a w := by
  refine range_own n hg eg hseq (fun h k => hKt h k) hKb hps I (fun c xs W => c = .exit id ∧ Ix xs W) hI (fun c pre X Y row h g hr => ⟨h.1, hIx pre X Y row h.2 g hr⟩) h0 Ax hAx hassign hbody ?_ ?_
  · intro D xs W hD hS hi hd
    exact hrest D W hD (hG1 D xs W hS hi hd)
  · rintro D c pre W hD hSp ⟨rfl, hi⟩ hd
    exact wpIn_exit (hQ _ _ (hrest D W hD (hG2 D pre W hSp hi hd)))

theorem bx_below {W W' : World} {B t : Nat} {v : Value} (h : Boxed W B t v) (hb : Below W.heap.size W W') : Boxed W' B t v := (hb.block B h.lt).trans h
theorem irow_low {w : World} {B B' : Nat} {e : TypeId} {k : IntKind} {v : Value} {l : List Int} (h : IRow w B e k v l) (hb : B' ≤ B) : IRow w B' e k v l := by
  refine ⟨h.1, ?_⟩
  rcases h.2 with h2 | ⟨g, c, cur, e1, q1, q2⟩
  · exact .inl h2
  · exact .inr ⟨g, c, cur, e1, Nat.le_trans hb q1, q2⟩
/-- Where things lie. -/
structure Ps where
  r : Nat
  g : Nat
  n : Nat
  gf : Nat
  cf : Nat
  gw : Nat
  cw : Nat
  Ba : Nat
  Bb : Nat
  s : Nat
  m : Nat
  p : Nat
  l : Nat
  at_ : Int
  most : Int
abbrev seqV (Ba Bb : Nat) : Value := .func (.func 14) #[] #[.pointer (some ⟨Ba, 0, none⟩), .pointer (some ⟨Bb, 0, none⟩)]
structure NB (w w0 : World) (B : Nat) (q : Ps) (F : List Int) (pv mv : Value) (W : World) : Prop where
  lent : Lent w0 B W q.g q.n q.gf q.cf q.gw q.cw F F
  fb : ∀ x ∈ F, IsB x
  br : Boxed W q.r 4 (.bool false)
  ba : Boxed W q.Ba 3 (.int .i64 q.at_)
  bb : Boxed W q.Bb 22 (.slice (some ⟨q.gf, 0, none⟩) q.n q.cf)
  bs : Boxed W q.s 27 (seqV q.Ba q.Bb)
  bm : Boxed W q.m 3 (.int .i64 q.most)
  bp : Boxed W q.p 30 pv
  bl : Boxed W q.l 31 mv
  be : Below w.heap.size w W
  lo : w.heap.size ≤ q.r ∧ w.heap.size ≤ q.p ∧ w.heap.size ≤ q.l ∧ w.heap.size ≤ B
  loB : B ≤ q.p ∧ B ≤ q.l
  most1 : 1 ≤ q.most
  small : q.n ≤ 1048576
structure NS (w w0 : World) (B : Nat) (q : Ps) (F : List Int) (pv mv : Value) (W : World) : Prop where
  nb : NB w w0 B q F pv mv W
  rp : IRow W B 3 .i64 pv ((allG (F.take q.n) q.at_).map Prod.fst)
  rm : IRow W B 35 .u64 mv ((allG (F.take q.n) q.at_).map Prod.snd)
section
variable {w w0 W W' : World} {B : Nat} {q : Ps} {F : List Int} {pv mv : Value}
theorem NB.below (h : NB w w0 B q F pv mv W) (hb : Below W.heap.size W W') : NB w w0 B q F pv mv W' :=
  ⟨h.lent.below hb, h.fb, bx_below h.br hb, bx_below h.ba hb, bx_below h.bb hb, bx_below h.bs hb, bx_below h.bm hb, bx_below h.bp hb, bx_below h.bl hb, h.be.trans (hb.mono h.be.size), h.lo, h.loB, h.most1, h.small⟩
theorem NS.below (h : NS w w0 B q F pv mv W) (hb : Below W.heap.size W W') : NS w w0 B q F pv mv W' := ⟨h.nb.below hb, h.rp.below hb, h.rm.below hb⟩
/-- A box is none of the lent bytes' blocks. -/
theorem NB.far (h : NB w w0 B q F pv mv W) {k t : Nat} {v : Value} (hk : Boxed W k t v) (ht : t ≠ 5) : k ≠ q.gf ∧ k ≠ q.gw := by
  have aux : ∀ {g c n : Nat} {X : List Value}, W.ownsRow (q.g + 1) 5 1 (.slice (some ⟨g, 0, none⟩) n c) n X → k ≠ g := fun {g c n X} hr e => by
    rcases hr.2 with ⟨e1, _⟩ | ⟨g', c', cur, e1, _, e2, _⟩
    · cases e1
    · cases e1
      subst e
      unfold Boxed at hk
      rw [e2] at hk
      simp at hk
      exact ht hk.2.symm
  exact ⟨aux h.lent.full, aux h.lent.was⟩
theorem NB.turn (h : NB w w0 B q F pv mv W) {F' : List Int} (hl : Lent w0 B W' q.g q.n q.gf q.cf q.gw q.cw F' F') (hf : ∀ x ∈ F', IsB x) (o : Tu.Only W W' q.gf q.gw) : NB w w0 B q F' pv mv W' := by
  have kp : ∀ {k t : Nat} {v : Value}, Boxed W k t v → t ≠ 5 → Boxed W' k t v := fun {k t v} hk ht => (o.2 k (h.far hk ht).1 (h.far hk ht).2).trans hk
  refine ⟨hl, hf, kp h.br (by decide), kp h.ba (by decide), kp h.bb (by decide), kp h.bs (by decide), kp h.bm (by decide), kp h.bp (by decide), kp h.bl (by decide), ?_, h.lo, h.loB, h.most1, h.small⟩
  have lo := h.lo
  have lw := hl.low
  exact ⟨by rw [hl.bel.os, ← h.lent.bel.os]; exact h.be.os, by rw [hl.bel.tape, ← h.lent.bel.tape]; exact h.be.tape, by rw [hl.bel.output, ← h.lent.bel.output]; exact h.be.output, by rw [o.1]; exact h.be.size, fun k hk => (o.2 k (fun e => by have := (h.lent.full.lt q.gf rfl).1; omega) (fun e => by have := (h.lent.was.lt q.gw rfl).1; omega)).trans (h.be.block k hk)⟩
/-- What is no bytes lies where it lay. -/
theorem NB.kept (h : NB w w0 B q F pv mv W) (o : Tu.Only W W' q.gf q.gw) {k : Nat} {ob : Obj} (hk : W.heap[k]? = some ob) (hn : ∀ c, ob ≠ .cells c 5 (0, 0)) : W'.heap[k]? = some ob := by
  have aux : ∀ {g c n : Nat} {X : List Value}, W.ownsRow (q.g + 1) 5 1 (.slice (some ⟨g, 0, none⟩) n c) n X → k ≠ g := fun {g c n X} hr e => by
    rcases hr.2 with ⟨e1, _⟩ | ⟨g', c', cur, e1, _, e2, _⟩
    · cases e1
    · cases e1
      subst e
      rw [e2] at hk
      cases hk
      exact hn cur rfl
  exact (o.2 k (aux h.lent.full) (aux h.lent.was)).trans hk
/-- All is called once more, and its rows are laid into the two boxes. -/
theorem NB.laid (h : NB w w0 B q F pv mv W) {pv' mv' : Value} (hB : B ≤ W.heap.size) (a : AR W W' pv' mv' ((allG (F.take q.n) q.at_).map Prod.fst) ((allG (F.take q.n) q.at_).map Prod.snd)) :
    Boxed W' q.p 30 pv ∧ Boxed (W'.setCell ⟨q.p, 0, none⟩ pv') q.l 31 mv ∧ NS w w0 B q F pv' mv' ((W'.setCell ⟨q.p, 0, none⟩ pv').setCell ⟨q.l, 0, none⟩ mv') := by
  have h' := h.below a.bel
  have b1 := h'.bp
  have b2 := h'.bl
  have npl : q.p ≠ q.l := fun e => by
    have h1 := b1
    have h2 := b2
    unfold Boxed at h1 h2
    rw [e, h2] at h1
    simp at h1
  have s1 : Boxed (W'.setCell ⟨q.p, 0, none⟩ pv') q.l 31 mv := by
    unfold Boxed
    rw [heap_setCell_other _ _ _ _ (by show q.l ≠ q.p; exact npl.symm)]
    exact b2
  have oth : ∀ {k t : Nat} {v : Value}, Boxed W' k t v → t ≠ 30 → t ≠ 31 → Boxed ((W'.setCell ⟨q.p, 0, none⟩ pv').setCell ⟨q.l, 0, none⟩ mv') k t v := fun {k t v} hk h1 h2 => by
    have n1 : k ≠ q.p := fun e => by
      have hk' := hk
      have hb := b1
      unfold Boxed at hk' hb
      rw [e, hb] at hk'
      simp at hk'
      exact h1 hk'.2.symm
    have n2 : k ≠ q.l := fun e => by
      have hk' := hk
      have hb := b2
      unfold Boxed at hk' hb
      rw [e, hb] at hk'
      simp at hk'
      exact h2 hk'.2.symm
    unfold Boxed
    rw [heap_setCell_other _ _ _ _ (by show k ≠ q.l; exact n2), heap_setCell_other _ _ _ _ (by show k ≠ q.p; exact n1)]
    exact hk
  have row : ∀ {e : TypeId} {kk : IntKind} {v : Value} {l : List Int}, IRow W' W.heap.size e kk v l → e ≠ 30 → e ≠ 31 → IRow ((W'.setCell ⟨q.p, 0, none⟩ pv').setCell ⟨q.l, 0, none⟩ mv') B e kk v l := fun {e kk v l} hr h1 h2 => irow_low (irow_set (irow_set hr b1 (Ne.symm h1) pv') s1 (Ne.symm h2) mv') hB
  have bl1 : Boxed ((W'.setCell ⟨q.p, 0, none⟩ pv').setCell ⟨q.l, 0, none⟩ mv') q.p 30 pv' := by
    unfold Boxed
    rw [heap_setCell_other _ _ _ _ (by show q.p ≠ q.l; exact npl)]
    exact b1.set pv'
  have lo := h.lo
  have lt : Lent w0 B ((W'.setCell ⟨q.p, 0, none⟩ pv').setCell ⟨q.l, 0, none⟩ mv') q.g q.n q.gf q.cf q.gw q.cw F F := by
    have L := h'.lent
    have f1 := h'.far b1 (by decide)
    have f2 := h'.far b2 (by decide)
    have ng : q.g ≠ q.p ∧ q.g ≠ q.l := by
      have hk := L.blk
      constructor
      · intro e
        have hb := b1
        unfold Boxed at hb
        rw [e, hb] at hk
        simp at hk
      · intro e
        have hb := b2
        unfold Boxed at hb
        rw [e, hb] at hk
        simp at hk
    have g1 := (ownsRow_setCell_other (ownsRow_setCell_other L.full (a := ⟨q.p, 0, none⟩) (fun e => f1.1 (by simpa [Value.ownBlock] using e.symm)) pv') (a := ⟨q.l, 0, none⟩) (fun e => f2.1 (by simpa [Value.ownBlock] using e.symm)) mv')
    have g2 := (ownsRow_setCell_other (ownsRow_setCell_other L.was (a := ⟨q.p, 0, none⟩) (fun e => f1.2 (by simpa [Value.ownBlock] using e.symm)) pv') (a := ⟨q.l, 0, none⟩) (fun e => f2.2 (by simpa [Value.ownBlock] using e.symm)) mv')
    refine ⟨?_, g1, g2, L.sep, (L.bel.setCell (p := ⟨q.p, 0, none⟩) h.loB.1 _).setCell (p := ⟨q.l, 0, none⟩) h.loB.2 _, L.low⟩
    rw [heap_setCell_other _ _ _ _ (by show q.g ≠ q.l; exact ng.2), heap_setCell_other _ _ _ _ (by show q.g ≠ q.p; exact ng.1)]
    exact L.blk
  exact ⟨b1, s1, ⟨lt, h.fb, oth h'.br (by decide) (by decide), oth h'.ba (by decide) (by decide), oth h'.bb (by decide) (by decide), oth h'.bs (by decide) (by decide), oth h'.bm (by decide) (by decide), bl1, s1.set mv', (h'.be.setCell (p := ⟨q.p, 0, none⟩) lo.2.1 _).setCell (p := ⟨q.l, 0, none⟩) lo.2.2.1 _, h.lo, h.loB, h.most1, h.small⟩, row a.rp (by decide) (by decide), row a.rm (by decide) (by decide)⟩
end
end Go.Proofs.Ytihhgminbmngcaa
