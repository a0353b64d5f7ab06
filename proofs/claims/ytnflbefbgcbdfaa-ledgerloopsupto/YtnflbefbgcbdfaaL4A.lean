/- Ledger: what is taken out, while it is collected. -/
import Derived.Test.YtnflbefbgcbdfaaL3L
import Derived.Deep.RegionHeld3
import Derived.BigQuiet
namespace Go.Proofs.Ytnflbefbgcbdfaa
open Go.RowKit
set_option linter.unusedVariables false
set_option maxRecDepth 100000
set_option maxHeartbeats 4000000

section
variable {R T : Nat → Prop} {W W' : World} {fv : Value} {fs : List Fr}
theorem Li.lo {sz : Nat} {v : Value} {xs : List Value} (h : Li R W sz v xs) : Li (fun b => R b ∧ b < W.heap.size) W sz v xs := by
  obtain ⟨a, n, c, h1, h2, h3, h4⟩ := h.ex
  exact ⟨a, n, c, h1, h2, h3, fun hx b off e => ⟨h4 hx b off e, h3.lt hx b off e⟩⟩
theorem FrAt.lo {cs : List Value} {f : Fr} (h : FrAt R W cs f) : FrAt (fun b => R b ∧ b < W.heap.size) W cs f := by
  obtain ⟨h0, dv, rv, h1, h2, h3⟩ := h
  exact ⟨h0, dv, rv, h1, h2.lo, h3.lo⟩
theorem FvAt.mono (h : FvAt R W fv fs) (hn : ∀ b, R b → T b) : FvAt T W fv fs := by
  obtain ⟨h0, a, c, css, h1, h3, h4, h5⟩ := h
  exact ⟨h0, a, c, css, h1, ⟨h3.len, fun i c f hc hf => (h3.at_ i c f hc hf).mono hn⟩, h4, fun hx b off e => hn b (h5 hx b off e)⟩
theorem FvAt.lo (h : FvAt R W fv fs) : FvAt (fun b => R b ∧ b < W.heap.size) W fv fs := by
  obtain ⟨h0, a, c, css, h1, h3, h4, h5⟩ := h
  refine ⟨h0, a, c, css, h1, ⟨h3.len, fun i c f hc hf => (h3.at_ i c f hc hf).lo⟩, h4, fun hx b off e => ⟨h5 hx b off e, h4.lt (fun e2 => hx ?_) b off e⟩⟩
  have h6 := flat_len 17 css h3.l17
  rw [e2, h3.len] at h6
  simp at h6
  exact List.length_eq_zero_iff.1 (by omega)
theorem FvAt.one (h : FvAt R W fv fs) : fv.oneCell' = true := by
  obtain ⟨h0, a, c, css, rfl, -⟩ := h
  rfl
end
theorem KvAt.mono {R T : Nat → Prop} {W : World} {kv : Value} {ks : List St} (h : KvAt R W kv ks) (hn : ∀ b, R b → T b) : KvAt T W kv ks := by
  obtain ⟨fvs, h1, h2, h3⟩ := h
  exact ⟨fvs, h1, h2, fun i s fv a b => (h3 i s fv a b).mono hn⟩

theorem copied_fv {R : Nat → Prop} (s : St) (fa : Option Addr) (fc : Nat) (X : World) (hf : FvAt R X (.slice fa s.fs.length fc) s.fs) :
    Calls Try.prog 28 #[.agg (s.cs (.slice fa s.fs.length fc))] X fun e Y => ∃ a' c', e = .returned (.agg (s.cs (.slice a' s.fs.length c'))) ∧ FvAt (fun b => X.heap.size ≤ b) Y (.slice a' s.fs.length c') s.fs ∧ X.grownBy Y none := by
  obtain ⟨h0, a, c, css, h1, h3, h4, h5⟩ := hf
  injection h1 with e1 e2 e3
  subst e1
  subst e3
  exact copied_core s.nu s.ti s.si s.el s.co s.pr s.tl s.fs fa s.fs.length fc css rfl h0 h3 h4
/-- Packets that are collected: the list lies in the cell bo. -/
structure TO (n0 : Nat) (W : World) (bo : Nat) (ov : Value) (Ro : Nat → Prop) (outs : List St) : Prop where
  blk : Blk W bo #[ov] 49
  row : KvAt Ro W ov outs
  rg : ∀ g, Ro g → n0 ≤ g ∧ g < W.heap.size
  og : ∀ g, ov.ownBlock = some g → n0 ≤ g ∧ ¬ Ro g ∧ g ≠ bo
  nb : ¬ Ro bo
  lo : n0 ≤ bo
theorem TO.kept {n0 : Nat} {W W' : World} {bo : Nat} {ov : Value} {Ro : Nat → Prop} {outs : List St} (h : TO n0 W bo ov Ro outs) {S : Nat → Prop} (k : Kp S W W') (hs : ∀ g, S g → ¬ Ro g ∧ g ≠ bo ∧ ov.ownBlock ≠ some g) : TO n0 W' bo ov Ro outs :=
  ⟨(k.block bo h.blk.lt (fun e => (hs bo e).2.1 rfl)).trans h.blk, h.row.kept (fun b hb => k.block b (h.rg b hb).2 (fun e => (hs b e).1 hb)) (fun g hg => k.block g (h.row.lt g hg) (fun e => (hs g e).2.2 hg)), fun g hg => ⟨(h.rg g hg).1, Nat.lt_of_lt_of_le (h.rg g hg).2 k.size⟩, h.og, h.nb, h.lo⟩
theorem TO.grown {n0 : Nat} {W W' : World} {bo : Nat} {ov : Value} {Ro : Nat → Prop} {outs : List St} (h : TO n0 W bo ov Ro outs) (g : W.grownBy W' none) : TO n0 W' bo ov Ro outs :=
  h.kept (Kp.grown g (fun _ => False)) (fun _ e => e.elim)
/-- What a step of it may change. -/
def KT (W W' : World) (bo : Nat) (ov : Value) : Prop := Kp (fun g => g = bo ∨ ov.ownBlock = some g) W W'
theorem TO.push {n0 : Nat} {W X Y : World} {bo : Nat} {ov fv : Value} {Ro : Nat → Prop} {outs : List St} {s : St} (h : TO n0 W bo ov Ro outs) (gX : W.grownBy X none) (gY : X.grownBy Y none) (hf : FvAt (fun b => X.heap.size ≤ b) Y fv s.fs) (hl : outs.length ≤ 1100000) :
    ∃ v' W', (Builtin.append_ #[49, 49] 49 #[ov, .slice (some ⟨Y.heap.size, 0, none⟩) 1 1]).run Try.prog (Y.alloc (.cells (s.cs fv) 36)) = .ok v' W' ∧ Blk W' bo #[ov] 49 ∧
      ∃ Ro', TO n0 (W'.setCell ⟨bo, 0, none⟩ v') bo v' Ro' (outs ++ [s]) ∧ KT W (W'.setCell ⟨bo, 0, none⟩ v') bo ov ∧ (v'.ownBlock = ov.ownBlock ∨ ∀ g, v'.ownBlock = some g → W.heap.size ≤ g) := by
  have s1 := gX.size
  have s2 := gY.size
  have gWY := grown_trans gX gY
  obtain ⟨Z, hZ⟩ : ∃ Z, Z = Y.alloc (.cells (s.cs fv) 36) := ⟨_, rfl⟩
  have sZ : Z.heap.size = Y.heap.size + 1 := by rw [hZ]; exact alloc_size _ _
  have gZ : Y.grownBy Z none := by rw [hZ]; exact grown_alloc _ _
  have bZ : Blk Z Y.heap.size (s.cs fv) 36 := by rw [hZ]; exact Blk.new _ _ _
  have gWZ := grown_trans gWY gZ
  have hbl := h.blk.lt
  have row : KvAt (fun g => Ro g ∨ (X.heap.size ≤ g ∧ g < Y.heap.size)) Z ov outs := (h.row.grown gWZ).mono fun b hb => .inl hb
  have fz : FvAt (fun g => Ro g ∨ (X.heap.size ≤ g ∧ g < Y.heap.size)) Z fv s.fs := (hf.lo.grown gZ).mono fun b hb => .inr hb
  have hno : ∀ g, ov.ownBlock = some g → ¬ (Ro g ∨ (X.heap.size ≤ g ∧ g < Y.heap.size)) := fun g e q => by
    have h1 := h.row.lt g e
    rcases q with q | q
    · exact (h.og g e).2.1 q
    · omega
  have hR : ∀ g, (Ro g ∨ (X.heap.size ≤ g ∧ g < Y.heap.size)) → g < Z.heap.size := fun g q => by
    rcases q with q | q
    · have := (h.rg g q).2; omega
    · omega
  obtain ⟨v', W', hrun, kv', gr, own⟩ := row.app s fv fz hno hl Y.heap.size 1 (fun j v hj => bZ.cell j v hj) hR 49
  rw [hZ] at hrun
  have oB : ∀ g, v'.ownBlock = some g → (ov.ownBlock = some g ∨ g = Z.heap.size) := fun g e => by
    rcases own with q | q
    · exact .inl (by rw [← q]; exact e)
    · rw [q] at e; cases e; exact .inr rfl
  have bo' : Blk W' bo #[ov] 49 := (gr.block bo (by omega) (fun e => (h.og bo e.symm).2.2 rfl)).trans (h.blk.grown gWZ)
  have sW := gr.size
  refine ⟨v', W', hrun, bo', fun g => Ro g ∨ (X.heap.size ≤ g ∧ g < Y.heap.size), ⟨?_, ?_, ?_, ?_, ?_, h.lo⟩, ?_, ?_⟩
  · exact bo'.setC 0 v'
  · refine kv'.kept (fun b hbq => set_heap _ _ _ _ _ ?_) (fun g hg => set_heap _ _ _ _ _ ?_)
    · rintro rfl
      rcases hbq with q | q
      · exact h.nb q
      · omega
    · rintro rfl
      rcases oB _ hg with q | q
      · exact (h.og _ q).2.2 rfl
      · omega
  · intro g q
    rw [set_size]
    rcases q with q | q
    · have := h.rg g q; omega
    · have := h.lo; omega
  · intro g e
    rcases oB g e with q | q
    · have := h.og g q
      exact ⟨this.1, hno g q, this.2.2⟩
    · subst q
      have := h.lo
      exact ⟨by omega, fun q => by have := hR _ q; omega, by omega⟩
  · rintro (q | q)
    · exact h.nb q
    · omega
  · exact Kp.set ((Kp.grown gWZ _).trans ⟨gr.os, gr.tape, gr.output, gr.size, fun g hg hn => gr.block g hg (fun e => hn (.inr e.symm))⟩) bo 0 v' (fun _ => .inl rfl)
  · rcases own with q | q
    · exact .inl q
    · exact .inr fun g e => by rw [q] at e; cases e; omega
end Go.Proofs.Ytnflbefbgcbdfaa
