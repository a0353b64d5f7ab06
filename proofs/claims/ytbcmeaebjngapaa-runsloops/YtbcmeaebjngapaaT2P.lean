/- RunsLoops: what holds between its rounds. -/
import Derived.Test.YtbcmeaebjngapaaT2N
import Derived.Test.YtbcmeaebjngapaaT2H
namespace Go.Proofs.Ytbcmeaebjngapaa
open Go.RowKit Go.Shelf
set_option linter.unusedVariables false
set_option maxHeartbeats 1000000
set_option maxRecDepth 100000

/-- The boxes, the set, the list, what came in, and the marks that lie. -/
structure LI (w0 : World) (p : Pl) (m : Value) (lv : Int) (v : Value) (L : List Sp) (a : Option Addr) (c : Nat) (M : List Sp) (iv : Int) (Ds : List Nat) (X : World) : Prop where
  fa : FA p m lv v L a c M iv X
  gr : w0.grownBy X none
  nN : w0.heap.size ≤ p.N
  nb : w0.heap.size ≤ p.b
  nv : ∀ g, v.ownBlock = some g → w0.heap.size ≤ g
  ds : ∀ D ∈ Ds, X.heap[D]? = some (.deferred (some []))
section
variable {w0 : World} {p : Pl} {m : Value} {lv : Int} {v : Value} {L : List Sp} {a : Option Addr} {c : Nat} {M : List Sp} {iv : Int} {Ds : List Nat} {X X' : World}
theorem LI.own {B : Nat} {row : Option Nat} (h : LI w0 p m lv v L a c M iv Ds X) (g : X.grownBy X' row) (hr : Rec B X row) (hB : w0.heap.size ≤ B) (hD : ∀ D ∈ Ds, D < B) : LI w0 p m lv v L a c M iv Ds X' := by
  refine ⟨h.fa.own g hr, ⟨g.os.trans h.gr.os, g.tape.trans h.gr.tape, g.output.trans h.gr.output, Nat.le_trans h.gr.size g.size, fun k hk _ => ?_⟩, h.nN, h.nb, h.nv, fun D hDs => ?_⟩
  · exact (g.block k (Nat.lt_of_lt_of_le hk h.gr.size) (fun e => by have := (hr k e.symm).1; omega)).trans (h.gr.block k hk (by simp))
  · have hd := h.ds D hDs
    exact (g.block D (Array.getElem?_eq_some_iff.1 hd).1 (fun e => by have := (hr D e.symm).1; have := hD D hDs; omega)).trans hd
theorem LI.grown (h : LI w0 p m lv v L a c M iv Ds X) (g : X.grownBy X' none) : LI w0 p m lv v L a c M iv Ds X' :=
  ⟨h.fa.grown g, grown_trans h.gr g, h.nN, h.nb, h.nv, fun D hD => (g.block D (Array.getElem?_eq_some_iff.1 (h.ds D hD)).1 (by simp)).trans (h.ds D hD)⟩
theorem LI.drewN (h : LI w0 p m lv v L a c M iv Ds X) (q : Nat) : LI w0 p m lv v L a c M iv Ds (X.drewN q) := h.grown (grown_drewN _ q)
theorem Kp.ds {S : Nat → Prop} (k : Kp S X X') (hS : ∀ g, S g → ∃ cs t, X.heap[g]? = some (.cells cs t (0, 0))) (h : ∀ D ∈ Ds, X.heap[D]? = some (.deferred (some []))) : ∀ D ∈ Ds, X'.heap[D]? = some (.deferred (some [])) := fun D hD => by
  refine (k.block D (Array.getElem?_eq_some_iff.1 (h D hD)).1 (fun hs => ?_)).trans (h D hD)
  obtain ⟨cs, t, e⟩ := hS D hs
  rw [h D hD] at e; cases e
theorem Kp.gr {S : Nat → Prop} (k : Kp S X X') (hS : ∀ g, S g → w0.heap.size ≤ g) (h : w0.grownBy X none) : w0.grownBy X' none :=
  ⟨k.os.trans h.os, k.tape.trans h.tape, k.output.trans h.output, Nat.le_trans h.size k.size, fun g hg _ => (k.block g (Nat.lt_of_lt_of_le hg h.size) (fun e => by have := hS g e; omega)).trans (h.block g hg (by simp))⟩
theorem Kp.others {S : Nat → Prop} (k : Kp S X X') (hS : ∀ g, S g → ∃ cs t, X.heap[g]? = some (.cells cs t (0, 0))) : KeepsOthers X X' :=
  ⟨k.size, fun j o hj ho => (k.block j (Array.getElem?_eq_some_iff.1 hj).1 (fun hs => by obtain ⟨cs, t, e⟩ := hS j hs; rw [e] at hj; cases hj; cases ho)).trans hj⟩
/-- The count is written. -/
theorem LI.seti (ok : p.Ok) (h : LI w0 p m lv v L a c M iv Ds X) (jv : Int) : LI w0 p m lv v L a c M jv Ds (X.setCell ⟨p.q + 1, 0, none⟩ (.int .i64 jv)) ∧ Kp (fun g => g = p.q + 1) X (X.setCell ⟨p.q + 1, 0, none⟩ (.int .i64 jv)) := by
  obtain ⟨f, k⟩ := h.fa.seti ok jv
  have := h.nN
  obtain ⟨h1, h2, h3, h4, h5⟩ := ok
  exact ⟨⟨f, k.gr (fun g e => by omega) h.gr, h.nN, h.nb, h.nv, k.ds (fun g e => by subst e; exact ⟨_, _, h.fa.bi⟩) h.ds⟩, k⟩
/-- The set has changed. -/
theorem LI.chg {v' : Value} {L' : List Sp} (h : LI w0 p m lv v L a c M iv Ds X) (k : Kp (fun g => g = p.b ∨ v.ownBlock = some g) X X') (s : SetAt X' p.b 0 v' L') (ho : v'.ownBlock = v.ownBlock ∨ Fresh X v') (hg : Good (-9223372036854775808) 9223372036854775807 L') : LI w0 p m lv v' L' a c M iv Ds X' := by
  refine ⟨h.fa.chg k s ho hg, k.gr (fun g e => e.elim (fun e => by rw [e]; exact h.nb) (h.nv g)) h.gr, h.nN, h.nb, fun g e => ?_, k.ds (fun g e => e.elim (fun e => by rw [e]; exact ⟨_, _, h.fa.st.blk⟩) (fun e => h.fa.st.rowlt e)) h.ds⟩
  rcases ho with e2 | e2
  · exact h.nv g (by rw [← e2]; exact e)
  · exact Nat.le_trans h.gr.size (e2 g e)
/-- Another list is held against the set. -/
theorem LI.setq (ok : p.Ok) {a' : Option Addr} {c' : Nat} {M' : List Sp} (h : LI w0 p m lv v L a c M iv Ds X) (rd : RdK X p.b 0 a' c' M') (ls : ∀ g, a' = some ⟨g, 0, none⟩ → M' ≠ [] → ¬ p.Bx g ∧ g ≠ p.b) : LI w0 p m lv v L a' c' M' iv Ds (X.setCell ⟨p.q, 0, none⟩ (.slice a' M'.length c')) := by
  have k : Kp (fun g => g = p.q) X (X.setCell ⟨p.q, 0, none⟩ (.slice a' M'.length c')) := (Kp.refl _ X).set _ _ _ (fun _ => rfl)
  have f := h.fa
  have := h.nN
  obtain ⟨h1, h2, h3, h4, h5⟩ := ok
  have sb : ∀ g, g = p.b ∨ v.ownBlock = some g → g ≠ p.q := fun g hg e => f.sep g hg (by unfold Pl.Bx; omega)
  exact ⟨⟨bxKp f.bm k (by omega), bxKp f.bl k (by omega), bxKp f.br k (by omega), bxKp f.bs k (by omega), bxKp f.bu k (by omega), bxKp f.bd k (by omega), bxKp f.bt k (by omega), Boxed.set _ f.bq, bxKp f.bi k (by omega), f.st.kpt k (sb _ (.inl rfl)) (fun g hg => sb g (.inr hg)), f.good, f.sep, rd.kpt k f.blt (sb _ (.inl rfl)) (fun g e hM e2 => (ls g e hM).1 (by unfold Pl.Bx; omega)), ls⟩, k.gr (fun g e => by omega) h.gr, h.nN, h.nb, h.nv, k.ds (fun g e => by subst e; exact ⟨_, _, f.bq⟩) h.ds⟩
theorem LI.bxlt (h : LI w0 p m lv v L a c M iv Ds X) {x : Nat} (hx : p.Bx x) : x < X.heap.size := by
  rcases hx with e | e | e | e | e | e | e | e | e
  · rw [e]; exact h.fa.bm.lt
  · rw [e]; exact h.fa.bl.lt
  · rw [e]; exact h.fa.br.lt
  · rw [e]; exact h.fa.bs.lt
  · rw [e]; exact h.fa.bu.lt
  · rw [e]; exact h.fa.bd.lt
  · rw [e]; exact h.fa.bt.lt
  · rw [e]; exact h.fa.bq.lt
  · rw [e]; exact h.fa.bi.lt
theorem LI.blt (h : LI w0 p m lv v L a c M iv Ds X) : p.b < X.heap.size := h.fa.blt
theorem LI.hob (h : LI w0 p m lv v L a c M iv Ds X) : ∀ j, ownS X p.b = some j → j < X.heap.size := fun j e => by
  rw [h.fa.st.ownS] at e
  obtain ⟨cs, t, hb⟩ := h.fa.st.rowlt e
  exact (Array.getElem?_eq_some_iff.1 hb).1
theorem LI.dlt (h : LI w0 p m lv v L a c M iv Ds X) : ∀ D ∈ Ds, D < X.heap.size := fun D hD => (Array.getElem?_eq_some_iff.1 (h.ds D hD)).1
theorem LI.mark {D : Nat} (h : LI w0 p m lv v L a c M iv Ds X) (hD : X.heap[D]? = some (.deferred (some []))) : LI w0 p m lv v L a c M iv (D :: Ds) X :=
  ⟨h.fa, h.gr, h.nN, h.nb, h.nv, fun E hE => by rcases List.mem_cons.1 hE with e | e; rw [e]; exact hD; exact h.ds E e⟩
/-- What the list holds at a place. -/
theorem RdK.look {b n : Nat} (h : RdK X b n a c M) {i : Nat} {x : Sp} (hx : M[i]? = some x) : ∃ g, a = some ⟨g, 0, none⟩ ∧ X.cell? ⟨g, i * 2, none⟩ = some (.int .i64 x.1) ∧ X.cell? ⟨g, i * 2 + 1, none⟩ = some (.int .i64 x.2) := by
  obtain ⟨g, e, -, -, -, -, -, hc⟩ := h.at_.resolve_left (fun e => by subst e; simp at hx)
  exact ⟨g, e, hc i x hx⟩
end
/-- A list that Runs has just made. -/
theorem rd_new {W w' : World} {b : Nat} {v : Value} {p : Pl} {L : List Sp} (hb : b < W.heap.size) (hob : ∀ j, ownS W b = some j → j < W.heap.size) (row : Row w' v L) (fr : Fresh W v) (g : W.grownBy w' none) : ∃ a c, v = .slice a L.length c ∧ RdK w' b 0 a c L ∧ ∀ x, a = some ⟨x, 0, none⟩ → L ≠ [] → W.heap.size ≤ x := by
  obtain ⟨a, c, rfl, rd⟩ := rdK_row (b := b) (n := W.heap.size) row fr (fun k hk e => by rw [ownS_same (g.block b hb (by simp))] at e; have := hob k e; have := fr k hk; omega)
  refine ⟨a, c, rfl, rd.mono (Nat.zero_le _), fun x e hL => ?_⟩
  obtain ⟨g', e', hn, -⟩ := rd.at_.resolve_left hL
  rw [e] at e'; cases e'; exact hn

def AxA (a1 : Sp → Nat → Act) (x : Sp) (a' : Act) (W : World) : Prop := ∃ Bx, W.heap[Bx]? = some (.cells #[.int .i64 x.1, .int .i64 x.2] 31 (0, 0)) ∧ a' = a1 x Bx
theorem axA_own (a1 : Sp → Nat → Act) (B : Nat) (x : Sp) (a' : Act) : OwnFrom B (fun (_ : Unit) W => AxA a1 x a' W) := by
  rintro s W W' row ⟨Bx, h1, h2⟩ hg hr
  refine ⟨Bx, (hg.block Bx (Array.getElem?_eq_some_iff.1 h1).1 (fun e => ?_)).trans h1, h2⟩
  obtain ⟨_, o, h3, h4⟩ := hr Bx e.symm
  rw [h1] at h3; cases h3; cases h4
theorem at_prefix {pre L : List Sp} {x : Sp} (h : pre ++ [x] <+: L) : L[pre.length]? = some x := by
  obtain ⟨t, rfl⟩ := h
  simp
theorem at_prefix_rev {pre L : List Sp} {x : Sp} {j : Nat} (h : pre ++ [x] <+: L.reverse) (hj : L.length = pre.length + 1 + j) : L[j]? = some x := by
  have := at_prefix h
  rw [List.getElem?_reverse (by omega)] at this
  rw [← this]; congr 1; omega
theorem grown_own {A X X' : World} {B : Nat} {row : Option Nat} (h : A.grownBy X none) (g : X.grownBy X' row) (hr : Rec B X row) (hB : A.heap.size ≤ B) : A.grownBy X' none :=
  ⟨g.os.trans h.os, g.tape.trans h.tape, g.output.trans h.output, Nat.le_trans h.size g.size, fun k hk _ => (g.block k (Nat.lt_of_lt_of_le hk h.size) (fun e => by have := (hr k e.symm).1; omega)).trans (h.block k hk (by simp))⟩
theorem grown_set {A X : World} (h : A.grownBy X none) (b j : Nat) (v : Value) (hb : A.heap.size ≤ b) : A.grownBy (X.setCell ⟨b, j, none⟩ v) none := by
  have k : Kp (fun g => g = b) X (X.setCell ⟨b, j, none⟩ v) := (Kp.refl _ X).set _ _ _ (fun _ => rfl)
  exact k.gr (fun g e => by omega) h
theorem _root_.Go.World.grownBy.kfrom {A B : World} (g : A.grownBy B none) (n : Nat) : KeepsFrom n A B := ⟨g.size, fun j o _ h _ => (g.block j (Array.getElem?_eq_some_iff.1 h).1 (by simp)).trans h⟩
theorem kf_trans {A B C : World} {n : Nat} (h : KeepsFrom n A B) (k : KeepsFrom n B C) : KeepsFrom n A C := ⟨Nat.le_trans h.size k.size, fun j o hj h1 h2 => k.same j o hj (h.same j o hj h1 h2) h2⟩
theorem chg_ks {X X' : World} {b n : Nat} {v v' : Value} {L L' : List Sp} (h : SetAt X b 0 v L) (s' : SetAt X' b 0 v' L') (ho : v'.ownBlock = v.ownBlock ∨ Fresh X v') (k : Kp (fun g => g = b ∨ v.ownBlock = some g) X X') (hbn : b < n) : KS b n X X' := by
  refine ⟨k.size, fun g o hgn h1 h2 h3 => ?_, fun j hj hlt => ?_⟩
  · refine (k.block g (Array.getElem?_eq_some_iff.1 h1).1 (fun hh => ?_)).trans h1
    rcases hh with e1 | e1
    · omega
    · exact h3 (by rw [h.ownS]; exact e1)
  · rw [s'.ownS] at hj
    rw [h.ownS]
    rcases ho with e1 | e1
    · rw [← e1]; exact hj
    · have := e1 j hj; omega
/-- What a round of the nested range keeps. -/
structure IN (X1 : World) (kb : Nat) (L : List Sp) (pre : List Sp) (Z : World) : Prop where
  gr : X1.grownBy Z none
  bk : Boxed Z kb 3 (.int .i64 ((L.length - pre.length : Nat) : Int))
  pf : pre <+: L.reverse
theorem in_own (X1 : World) (kb : Nat) (L : List Sp) (B : Nat) (hB : X1.heap.size ≤ B) : OwnFrom B (IN X1 kb L) := fun pre X Y row h g hr => ⟨grown_own h.gr g hr hB, bxOwn h.bk g hr, h.pf⟩
/-- The end: the answer is laid, and the marks are taken. -/
theorem ends_four {w0 : World} {p : Pl} {m : Value} {lv : Int} {v : Value} {L : List Sp} {a : Option Addr} {c : Nat} {M : List Sp} {iv : Int} {D1 D2 D3 D4 : Nat} {X : World} (h : LI w0 p m lv v L a c M iv [D3, D2, D1] X) (hd4 : X.heap[D4]? = some (.deferred (some []))) (n3 : D3 < D4) (n2 : D2 < D3) (n1 : D1 < D2) (lo : w0.heap.size ≤ D1) :
    (X.setCell ⟨p.N + 1 + 1, 0, none⟩ (.bool true)).heap[D4]? = some (.deferred (some [])) ∧ ((X.setCell ⟨p.N + 1 + 1, 0, none⟩ (.bool true)).putObj D4 (.deferred none)).heap[D3]? = some (.deferred (some [])) ∧
    (((X.setCell ⟨p.N + 1 + 1, 0, none⟩ (.bool true)).putObj D4 (.deferred none)).putObj D3 (.deferred none)).heap[D2]? = some (.deferred (some [])) ∧
    ((((X.setCell ⟨p.N + 1 + 1, 0, none⟩ (.bool true)).putObj D4 (.deferred none)).putObj D3 (.deferred none)).putObj D2 (.deferred none)).heap[D1]? = some (.deferred (some [])) ∧
    (((((X.setCell ⟨p.N + 1 + 1, 0, none⟩ (.bool true)).putObj D4 (.deferred none)).putObj D3 (.deferred none)).putObj D2 (.deferred none)).putObj D1 (.deferred none)).cell? ⟨p.N + 1 + 1, 0, none⟩ = some (.bool true) ∧
    w0.grownBy (((((X.setCell ⟨p.N + 1 + 1, 0, none⟩ (.bool true)).putObj D4 (.deferred none)).putObj D3 (.deferred none)).putObj D2 (.deferred none)).putObj D1 (.deferred none)) none := by
  have k1 : Kp (fun g => g = p.N + 1 + 1) X (X.setCell ⟨p.N + 1 + 1, 0, none⟩ (.bool true)) := (Kp.refl _ X).set _ _ _ (fun _ => rfl)
  have bx : Boxed (X.setCell ⟨p.N + 1 + 1, 0, none⟩ (.bool true)) (p.N + 1 + 1) 4 (.bool true) := Boxed.set _ h.fa.br
  have ds := k1.ds (fun g e => by subst e; exact ⟨_, _, h.fa.br⟩) (h.mark hd4).ds
  have gr := k1.gr (fun g e => by have := h.nN; have e' : g = p.N + 1 + 1 := e; omega) h.gr
  generalize X.setCell ⟨p.N + 1 + 1, 0, none⟩ (.bool true) = X1 at *
  have e4 := ds D4 (by simp)
  have e3 := ds D3 (by simp)
  have e2 := ds D2 (by simp)
  have e1 := ds D1 (by simp)
  have nr : ∀ {D : Nat}, X1.heap[D]? = some (.deferred (some [])) → p.N + 1 + 1 ≠ D := fun {D} e e' => by
    have b : X1.heap[p.N + 1 + 1]? = some (.cells #[.bool true] 4 (0, 0)) := bx
    rw [e', e] at b; cases b
  have f3 : (X1.putObj D4 (.deferred none)).heap[D3]? = some (.deferred (some [])) := (World.putObj_heap_other (by omega)).trans e3
  have f2 : ((X1.putObj D4 (.deferred none)).putObj D3 (.deferred none)).heap[D2]? = some (.deferred (some [])) := (World.putObj_heap_other (by omega)).trans ((World.putObj_heap_other (by omega)).trans e2)
  have f1 : (((X1.putObj D4 (.deferred none)).putObj D3 (.deferred none)).putObj D2 (.deferred none)).heap[D1]? = some (.deferred (some [])) := (World.putObj_heap_other (by omega)).trans ((World.putObj_heap_other (by omega)).trans ((World.putObj_heap_other (by omega)).trans e1))
  have pg : ∀ (A : World) (D : Nat) (o : Obj), w0.heap.size ≤ D → w0.grownBy A none → w0.grownBy (A.putObj D o) none := fun A D o hD g => ⟨g.os, g.tape, g.output, by have := g.size; simpa using this, fun k hk _ => (World.putObj_heap_other (by omega)).trans (g.block k hk (by simp))⟩
  refine ⟨e4, f3, f2, f1, ?_, pg _ _ _ (by omega) (pg _ _ _ (by omega) (pg _ _ _ (by omega) (pg _ _ _ (by omega) gr)))⟩
  have bb : Boxed ((((X1.putObj D4 (.deferred none)).putObj D3 (.deferred none)).putObj D2 (.deferred none)).putObj D1 (.deferred none)) (p.N + 1 + 1) 4 (.bool true) :=
    (World.putObj_heap_other (nr e1)).trans ((World.putObj_heap_other (nr e2)).trans ((World.putObj_heap_other (nr e3)).trans ((World.putObj_heap_other (nr e4)).trans bx)))
  exact bb.cell
/-- A range, whatever way it is left. -/
theorem range_two {α : Type} {g : Operand} {ps : Array Tmp} {assign body : Code} {Q : Exit → Act → World → Prop} {a : Act} {w : World} (n id : Nat) {gf : Nat} {lb : Array Value} (hg : a.eval g = .func (.func gf) #[] lb) (eg : ∀ args w, (callFunc gf args).run Try.prog w = .ok (.enter gf args) w)
    {encs : α → Array Value} {Kx : World → World → Prop} {S Sp : List α → Prop} (hseq : SeqO gf lb encs Kx S Sp w)
    (hKt : ∀ {A B C : World}, Kx A B → Kx B C → Kx A C) (hKb : ∀ (W : World) (j : Nat) (o o' : Obj), w.heap.size ≤ j → W.heap[j]? = some o → o.isCells = false → Kx W (W.putObj j o')) (hps : ∀ x, (encs x).size = ps.size)
    (I : List α → World → Prop) (Ix : List α → World → Prop) (hI : OwnFrom w.heap.size I) (hIx : OwnFrom w.heap.size Ix) (h0 : I [] w) (Ax : α → Act → World → Prop) (hAx : ∀ x a', OwnFrom w.heap.size (fun (_ : Unit) W => Ax x a' W))
    (G : Nat → World → Prop) (hG1 : ∀ D xs W, S xs → I xs W → W.heap[D]? = some (.deferred (some [])) → G D W) (hG2 : ∀ D pre W, Sp pre → Ix pre W → W.heap[D]? = some (.deferred (some [])) → G D W) (hQ : ∀ a' W, Q .normal a' W → Q (.exit id) a' W)
    (hassign : ∀ (l m : Nat) (pre : List α) (x : α) (W : World) (K : Act → World → Prop), I pre W → (∀ a' W', KeepsFrom w.heap.size W W' → Kx W W' → I pre W' → Ax x a' W' → K a' W') →
      assign.wpIn (Fence.wide.inRound l) m Try.prog (Exit.then K (fun _ _ _ => False)) { tmps := (ps.zip (encs x)).foldl (fun t (p, v) => t.setIfInBounds p v) a.tmps, defers := [] } W)
    (hbody : ∀ (l m : Nat) (pre : List α) (x : α) (a' : Act) (W : World), w.heap.size ≤ l → (∃ r, W.heap[l]? = some (.loop r)) → I pre W → Ax x a' W → Sp (pre ++ [x]) → body.wpIn (Fence.wide.inRound l) m Try.prog (ownPostG w.heap.size Kx I (fun c xs W => c = .exit id ∧ Ix xs W) (pre ++ [x]) W) a' W)
    (hrest : ∀ (D : Nat) (W : World), w.heap.size ≤ D → G D W → Q .normal { a with defers := { target := .collected D, args := #[] } :: a.defers } W) :
    (Code.rangeFunc g ps assign body).wpIn Fence.wide n Try.prog Q a w := by
  refine range_own n hg eg hseq (fun h k => hKt h k) hKb hps I (fun c xs W => c = .exit id ∧ Ix xs W) hI (fun c pre X Y row h g hr => ⟨h.1, hIx pre X Y row h.2 g hr⟩) h0 Ax hAx hassign hbody ?_ ?_
  · intro D xs W hD hS hi hd
    exact hrest D W hD (hG1 D xs W hS hi hd)
  · rintro D c pre W hD hSp ⟨rfl, hi⟩ hd
    exact wpIn_exit (hQ _ _ (hrest D W hD (hG2 D pre W hSp hi hd)))
end Go.Proofs.Ytbcmeaebjngapaa
