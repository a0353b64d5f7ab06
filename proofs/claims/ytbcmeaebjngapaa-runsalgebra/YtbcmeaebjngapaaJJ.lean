/- Join: two ranges that collect, then Of. -/
import Derived.Test.YtbcmeaebjngapaaJC
import Derived.Test.YtbcmeaebjngapaaTB0
import Derived.Maps.AppendAt
namespace Go.Proofs.Ytbcmeaebjngapaa
open Go.RowKit Go.Shelf
set_option linter.unusedVariables false
set_option maxRecDepth 100000
set_option maxHeartbeats 400000
attribute [local go_sem] Oper.semAt_some

/-- What a set tells as its runs, from this world on. -/
def HasRuns (w : World) (p : Value) (L : List Sp) : Prop := ∀ W, Below w.heap.size w W → Calls Try.prog 7 #[p] W fun e w' => ∃ v', e = .returned v' ∧ Row w' v' L ∧ Fresh W v' ∧ W.grownBy w' none

theorem HasRuns.below {w w1 : World} {p : Value} {L : List Sp} (h : HasRuns w p L) (hb : Below w.heap.size w w1) : HasRuns w1 p L := fun W hW => h W (hb.trans (hW.mono hb.size))
theorem hasRuns_nil (w : World) : HasRuns w (.pointer none) [] := fun W _ => runs_nil W
theorem hasRuns_ls {w0 w : World} {b : Nat} {most : Int} {L : List Sp} (h : LS w0 w b most L) (hlen : L.length * 16 ≤ 140737488355328) : HasRuns w (.pointer (some ⟨b, 0, none⟩)) L := fun W hW => by
  obtain ⟨v, hv, hf⟩ := h.at_
  have hb : b < w.heap.size := (Array.getElem?_eq_some_iff.1 hv.blk).1
  refine runs_any b most v L W ⟨(hW.block b hb).trans hv.blk, ?_⟩ hlen
  exact World.ownsRow.kept (row := none) hv.row ⟨hW.os, hW.tape, hW.output, hW.size, fun k hk _ => hW.block k hk⟩ (by cases v.ownBlock <;> simp)

theorem wpListIn_append_run {F : Fence} {n : Nat} (w : World) {ops : Array Oper} {rest : List Oper} {o : Oper} {a : Act} {Q : Exit → Act → World → Prop} (hgd : o.guard = none) (d s : Operand) (t t' : TypeId)
    (ho : o.op = .call { callee := .builtin .append, args := #[d, s], argTypes := #[t, t'] }) (v u : Value) (hd : a.eval d = v) (hs : a.eval s = u) {v' : Value} {w' : World}
    (hr : (Builtin.append_ #[t, t'] o.type #[v, u]).run Try.prog w = .ok v' w') (h : wpListIn F n Try.prog ops Q rest (a.put o.dst v') w') : wpListIn F n Try.prog ops Q (o :: rest) a w :=
  wpListIn_plain hgd fun K hK => by
    unfold Oper.wpIn
    refine ⟨?_, ?_⟩
    · simp [Oper.about, ho, resolve, Target.leads, Sem.run_pure]
    · rw [Oper.semAt_plain F _ _ (by rw [ho]; intro c hc'; cases hc')]
      simp [execOp, ho, resolve, invoke, builtin, hd, hs, hr, Result.andThen]
      exact hK _ _ h

/-- What the collecting loop keeps. -/
structure CI (w : World) (B : Nat) (W : World) (v : Value) (L : List Sp) : Prop where
  bx : Boxed W B 26 v
  row : Row W v L
  fr : Fresh w v
  grown : w.grownBy W none
  nb : w.heap.size ≤ B

theorem Row.block {W : World} {v : Value} {L : List Sp} (h : Row W v L) : ∀ g, v.ownBlock = some g → ∃ c, W.heap[g]? = some (.cells c 31 (0, 0)) := by
  intro g hg
  rcases Row.at h with ⟨rfl, _⟩ | ⟨g', c, sp, rfl, hR⟩
  · simp [Value.ownBlock] at hg
  · simp [Value.ownBlock] at hg
    subst hg
    exact ⟨_, hR.1⟩

theorem CI.own {w : World} {B : Nat} {W : World} {v : Value} {L : List Sp} (h : CI w B W v L) : own1 W B = v.ownBlock := by
  unfold own1
  rw [h.bx.cell]
  rfl

theorem CI.ne {w : World} {B : Nat} {W : World} {v : Value} {L : List Sp} (h : CI w B W v L) : v.ownBlock ≠ some B := by
  intro e
  obtain ⟨c, h1⟩ := h.row.block B e
  have h2 := h.bx
  unfold Boxed at h2
  rw [h2] at h1
  simp at h1

theorem CI.lt {w : World} {B : Nat} {W : World} {v : Value} {L : List Sp} (h : CI w B W v L) : ∀ j, own1 W B = some j → j < W.heap.size := by
  intro j e
  rw [h.own] at e
  obtain ⟨c, h1⟩ := h.row.block j e
  exact (Array.getElem?_eq_some_iff.1 h1).1

theorem CI.kept {w : World} {B : Nat} {W W' : World} {v : Value} {L : List Sp} {row : Option Nat} (h : CI w B W v L) (hg : W.grownBy W' row) (hr : ∀ r, row = some r → w.heap.size ≤ r ∧ ∃ o : Obj, W.heap[r]? = some o ∧ o.isCells = false) : CI w B W' v L := by
  refine ⟨?_, ?_, h.fr, grown_fresh h.grown hg (fun k e => (hr k e).1), h.nb⟩
  · refine h.bx.kept hg (fun e1 => ?_)
    obtain ⟨_, o, h1, h2⟩ := hr B e1.symm
    have h3 := h.bx
    unfold Boxed at h3
    rw [h3] at h1
    cases h1
    cases h2
  · refine World.ownsRow.kept h.row hg ?_
    cases hv : v.ownBlock with
    | none => exact .inl rfl
    | some g =>
      right
      intro e1
      obtain ⟨_, o, h1, h2⟩ := hr g e1.symm
      obtain ⟨c, h3⟩ := h.row.block g hv
      rw [h1] at h3
      cases h3
      cases h2

/-- One more behind the others. -/
theorem CI.app {w : World} {B : Nat} {W W1 : World} {v v' : Value} {L L' : List Sp} (h : CI w B W v L) (o : Obj) (hm : Moved (W.alloc o) W1 v v') (hr : Row W1 v' L') :
    (W1.cell? ⟨B, 0, none⟩ = some v ∧ W1.frozen? ⟨B, 0, none⟩ = false) ∧ CI w B (W1.setCell ⟨B, 0, none⟩ v') v' L' ∧ KeepsOthers W (W1.setCell ⟨B, 0, none⟩ v') ∧ KpB B W (W1.setCell ⟨B, 0, none⟩ v') := by
  have hB : B < W.heap.size := h.bx.lt
  have h1 : CI w B (W.alloc o) v L := h.kept (World.grownBy_alloc W o none) (fun r e => by cases e)
  obtain ⟨hg1, hfr⟩ := hm.fresh h1.grown h1.fr
  have hgr : ∃ row, (W.alloc o).grownBy W1 row ∧ (∀ r, row = some r → v.ownBlock = some r) := by
    rcases hm with ⟨_, hg⟩ | ⟨_, hg, _⟩
    · exact ⟨_, hg, fun r e => e⟩
    · exact ⟨none, hg, fun r e => by cases e⟩
  obtain ⟨row, hg, hrow⟩ := hgr
  have b1 : Boxed W1 B 26 v := h1.bx.kept hg (fun e => h.ne (hrow B e.symm))
  have hne' : v'.ownBlock ≠ some B := by
    intro e
    obtain ⟨c, h3⟩ := hr.block B e
    unfold Boxed at b1
    rw [b1] at h3
    simp at h3
  have hother : ∀ k, k ≠ B → (W1.setCell ⟨B, 0, none⟩ v').heap[k]? = W1.heap[k]? := fun k hk => Below.heap_setCell _ _ _ _ hk
  refine ⟨⟨b1.cell, b1.frozen⟩, ⟨b1.set v', ?_, hfr, ?_, h.nb⟩, ?_, ?_, ?_, ?_⟩
  · exact World.ownsRow.kept hr (grownBy_setCell' W1 B v') (.inr hne')
  · exact grown_fresh hg1 (grownBy_setCell' W1 B v') (fun k e => by cases e; exact h.nb)
  · refine ((KeepsOthers.alloc W o).trans (KeepsOthers.of_grownBy hg fun j p ej hj => ?_)).trans (KeepsOthers.setCell _ _ _)
    obtain ⟨c, h3⟩ := h1.row.block j (hrow j ej)
    rw [h3] at hj
    cases hj
    rfl
  · exact Nat.le_trans (Nat.le_trans (by simp) hg.size) (grownBy_setCell' W1 B v').size
  · intro k p hk _ hkB ho
    rw [h.own] at ho
    rw [hother k hkB, hg.block k (by have := (Array.getElem?_eq_some_iff.1 hk).1; simp; omega) (fun e => ho (hrow k e.symm)), Below.heap_alloc _ _ _ (Array.getElem?_eq_some_iff.1 hk).1]
    exact hk
  · intro j e hj
    have e2 : v'.ownBlock = some j := by
      unfold own1 at e
      rw [(b1.set v').cell] at e
      exact e
    rw [h.own]
    rcases hm with ⟨h5, _⟩ | ⟨h5, _, _⟩
    · rw [← h5]; exact e2
    · rw [h5] at e2
      injection e2 with e2
      simp at e2
      omega

/-- The temporaries behind the assignment to the boxed loop variable. -/
abbrev put2 (a : Act) (t1 d1 : Nat) (x : Sp) (Bx : Nat) : Act := { tmps := (a.tmps.setIfInBounds t1 (.agg #[.int .i64 x.1, .int .i64 x.2])).setIfInBounds d1 (.pointer (some ⟨Bx, 0, none⟩)), defers := [] }

def AxJ (a : Act) (t1 d1 : Nat) (x : Sp) (a' : Act) (W : World) : Prop := ∃ Bx, W.heap[Bx]? = some (.cells #[.int .i64 x.1, .int .i64 x.2] 31 (0, 0)) ∧ a' = put2 a t1 d1 x Bx

theorem axJ_own (a : Act) (t1 d1 B : Nat) (x : Sp) (a' : Act) : OwnFrom B (fun (_ : Unit) W => AxJ a t1 d1 x a' W) := by
  rintro s W W' row ⟨Bx, h1, h2⟩ hg hr
  refine ⟨Bx, ?_, h2⟩
  rw [hg.block Bx (Array.getElem?_eq_some_iff.1 h1).1 (fun e => by
    obtain ⟨_, o, h3, h4⟩ := hr Bx e.symm
    rw [h1] at h3
    cases h3
    cases h4)]
  exact h1

theorem rangeJ {F : Fence} {n : Nat} {P : Program} {g : Operand} {t1 : Nat} {assign body : Code} {Q : Exit → Act → World → Prop} {a : Act} {w : World} (d1 B : Nat)
    (hro : F.round = none) (h1 : 1 ≤ n) {gf : Nat} {lb : Array Value} (hg : a.eval g = .func (.func gf) #[] lb) (hFg : F.fn gf) (eg : ∀ args w, (callFunc gf args).run P w = .ok (.enter gf args) w)
    {S Sp' : List Sp → Prop} {N : Nat} (hseq : SeqStopsK F (n - 1) P gf lb encC (KpB B) S Sp' N w) (hB : B < w.heap.size)
    (I : List Sp → World → Prop) (hI : OwnFrom w.heap.size I) (h0 : I [] w)
    (hassign : ∀ (l : Nat) (pre : List Sp) (x : Sp) (W : World) (K : Act → World → Prop), I pre W → (∀ a' W', KeepsFrom w.heap.size W W' → KpB B W W' → I pre W' → AxJ a t1 d1 x a' W' → K a' W') →
      assign.wpIn (F.inRound l) (n - 1 - 1) P (Exit.then K (fun _ _ _ => False)) { tmps := (#[t1].zip (encC x)).foldl (fun t (p, v) => t.setIfInBounds p v) a.tmps, defers := [] } W)
    (hbody : ∀ (l : Nat) (pre : List Sp) (x : Sp) (Bx : Nat) (W : World), I pre W → W.heap[Bx]? = some (.cells #[.int .i64 x.1, .int .i64 x.2] 31 (0, 0)) → pre.length < N →
      body.wpIn (F.inRound l) (n - 1 - 1) P (ownPostG w.heap.size (KpB B) I (fun _ _ _ => False) (pre ++ [x]) W) (put2 a t1 d1 x Bx) W)
    (hdone : ∀ (D : Nat) (xs : List Sp) (W : World), w.heap.size ≤ D → S xs → I xs W → W.heap[D]? = some (.deferred (some [])) → Q .normal { a with defers := { target := .collected D, args := #[] } :: a.defers } W) :
    (Code.rangeFunc g #[t1] assign body).wpIn F n P Q a w :=
  wpIn_rangeFunc_ownH hro h1 hg hFg eg hseq (fun h k => h.trans k) (fun W l o o' hl ho hc _ => KpB.put ho hc (by omega)) (Below.refl _ _) (fun _ => rfl) I (fun _ _ _ => False) hI (fun _ _ _ _ _ h _ _ => h) h0 (AxJ a t1 d1) (fun x a' => axJ_own a t1 d1 _ x a') hassign
    (fun l pre x a' W _ _ hi ⟨Bx, hx, e⟩ hp => by subst e; exact hbody l pre x Bx W hi hx hp) hdone (fun _ _ _ _ _ _ h _ => h.elim)

theorem AxJ.mk {a : Act} {t1 d1 : Nat} {x : Sp} (W : World) : AxJ a t1 d1 x (put2 a t1 d1 x W.heap.size) (W.alloc (.cells #[.int .i64 x.1, .int .i64 x.2] 31)) := ⟨_, heap_alloc_new W _, rfl⟩
end Go.Proofs.Ytbcmeaebjngapaa
