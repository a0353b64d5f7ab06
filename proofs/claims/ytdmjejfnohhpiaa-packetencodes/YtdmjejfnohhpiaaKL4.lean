/- KL4, KL5, KL6, one text. -/
import Derived.Test.YtdmjejfnohhpiaaKL3
import Derived.Test.YtdmjejfnohhpiaaKL1
import Derived.Test.YtdmjejfnohhpiaaKC5
import Derived.Deep.RegionHeld3
namespace Go.Proofs.Ytdmjejfnohhpiaa
open Go.RowKit
set_option linter.unusedVariables false
set_option maxRecDepth 100000
set_option maxHeartbeats 2000000

/-- A loan's cells. -/
abbrev lcs (p : Pk) (d s y u1 u2 u3 : Value) (g1 g2 g3 : Nat) : Array Value :=
  #[.int .i64 p.space, d, s, .int .i64 p.number, .int .i64 p.width, y, .int .i64 p.space, u1, u2, .int .i64 p.number, .int .i64 p.width, u3, .pointer (some ⟨g1, 0, none⟩), .pointer (some ⟨g2, 0, none⟩), .pointer (some ⟨g3, 0, none⟩)]

structure LoanD (w0 : World) (B : Nat) (wr : World) (gl : Nat) (p : Pk) (t1 t2 t3 : LT) (d s y u1 u2 u3 : Value) : Prop where
  blk : Blk wr gl (lcs p d s y u1 u2 u3 t1.g t2.g t3.g) 37
  k1 : t1.ok w0 B wr
  k2 : t2.ok w0 B wr
  k3 : t3.ok w0 B wr
  e1 : t1.l = p.dst
  e2 : t2.l = p.src
  e3 : t3.l = p.payload
  o1 : OwnB B wr u1 p.dst
  o2 : OwnB B wr u2 p.src
  o3 : OwnB B wr u3 p.payload
  r12 : t1.gf < t2.g ∧ t1.gw < t2.g
  r23 : t2.gf < t3.g ∧ t2.gw < t3.g
  low : B ≤ gl
  bel : Below B w0 wr
abbrev Loan (w0 : World) (B : Nat) (wr : World) (gl : Nat) (p : Pk) (t1 t2 t3 : LT) (u1 u2 u3 : Value) : Prop := LoanD w0 B wr gl p t1 t2 t3 t1.v t2.v t3.v u1 u2 u3

theorem OwnB.farY {base : Nat} {w W : World} {v : Value} {d : List Int} {gq : Nat} {cs : Array Value} {t : TypeId} (h : OwnB base w v d) (hq : Blk w gq cs t) (ht : t ≠ 5) (hg : w.grownBy W (some gq)) : OwnB base W v d := by
  refine World.ownsRow.kept h hg ?_
  rcases h.2 with ⟨rfl, -⟩ | ⟨g, cap, cur, rfl, -, hh, -⟩
  · exact .inl rfl
  · right
    intro e
    have e' : g = gq := by simpa [Value.ownBlock] using e
    subst e'
    have hq' : w.heap[g]? = some (.cells cs t (0, 0)) := hq
    rw [hh] at hq'
    simp only [Option.some.injEq, Obj.cells.injEq, and_true] at hq'
    exact ht hq'.2.symm

theorem LT.ok.setG {t : LT} {w0 wr : World} {B gl : Nat} {cs : Array Value} (h : t.ok w0 B wr) (b : Blk wr gl cs 37) (hl : B ≤ gl) (j : Nat) (v : Value) : t.ok w0 B (wr.setCell ⟨gl, j, none⟩ v) := by
  have b' : wr.heap[gl]? = some (.cells cs 37 (0, 0)) := b
  have n1 : t.g ≠ gl := fun e => by
    have := h.lent.blk
    rw [e, b'] at this
    simp at this
  have row : ∀ {v : Value} {k : Nat} {xs : List Value} {g : Nat}, wr.ownsRow (t.g + 1) 5 1 v k xs → v.ownBlock = some g → g ≠ gl := fun {v k xs g} ho hv e => by
    rcases ho.2 with ⟨rfl, -⟩ | ⟨g', cap, cur, rfl, -, hh, -⟩
    · simp [Value.ownBlock] at hv
    · simp only [Value.ownBlock, Option.some.injEq] at hv
      rw [hv, e, b'] at hh
      simp at hh
  have n2 : t.gf ≠ gl := row h.lent.full rfl
  have n3 : t.gw ≠ gl := row h.lent.was rfl
  exact h.only ((Only.refl wr gl gl).setA j v) (h.lent.bel.setCell hl _) ⟨n1, n1⟩ ⟨n2, n2⟩ ⟨n3, n3⟩

section
variable {w0 wr : World} {B gl : Nat} {p : Pk} {t1 t2 t3 : LT} {d s y u1 u2 u3 : Value}
theorem LoanD.drewN (h : LoanD w0 B wr gl p t1 t2 t3 d s y u1 u2 u3) (q : Nat) : LoanD w0 B (wr.drewN q) gl p t1 t2 t3 d s y u1 u2 u3 :=
  ⟨h.blk, h.k1.drewN q, h.k2.drewN q, h.k3.drewN q, h.e1, h.e2, h.e3, h.o1, h.o2, h.o3, h.r12, h.r23, h.low, bel_drewN h.bel q⟩
theorem LoanD.grown {W : World} (h : LoanD w0 B wr gl p t1 t2 t3 d s y u1 u2 u3) (g : wr.grownBy W none) : LoanD w0 B W gl p t1 t2 t3 d s y u1 u2 u3 :=
  ⟨h.blk.grown g, h.k1.grown g, h.k2.grown g, h.k3.grown g, h.e1, h.e2, h.e3, h.o1.far g (fun q e => by cases e), h.o2.far g (fun q e => by cases e), h.o3.far g (fun q e => by cases e), h.r12, h.r23, h.low, h.bel.trans ((grown_bel g).mono (Nat.le_trans h.low (Nat.le_of_lt h.blk.lt)))⟩
theorem LoanD.set1 (h : LoanD w0 B wr gl p t1 t2 t3 d s y u1 u2 u3) (v : Value) : LoanD w0 B (wr.setCell ⟨gl, 1, none⟩ v) gl p t1 t2 t3 v s y u1 u2 u3 :=
  ⟨h.blk.setC 1 v, h.k1.setG h.blk h.low 1 v, h.k2.setG h.blk h.low 1 v, h.k3.setG h.blk h.low 1 v, h.e1, h.e2, h.e3, h.o1.farY h.blk (by decide) (grown_at (World.grownBy.refl _ _) 1 v), h.o2.farY h.blk (by decide) (grown_at (World.grownBy.refl _ _) 1 v), h.o3.farY h.blk (by decide) (grown_at (World.grownBy.refl _ _) 1 v), h.r12, h.r23, h.low, h.bel.setCell h.low _⟩
theorem LoanD.set2 (h : LoanD w0 B wr gl p t1 t2 t3 d s y u1 u2 u3) (v : Value) : LoanD w0 B (wr.setCell ⟨gl, 2, none⟩ v) gl p t1 t2 t3 d v y u1 u2 u3 :=
  ⟨h.blk.setC 2 v, h.k1.setG h.blk h.low 2 v, h.k2.setG h.blk h.low 2 v, h.k3.setG h.blk h.low 2 v, h.e1, h.e2, h.e3, h.o1.farY h.blk (by decide) (grown_at (World.grownBy.refl _ _) 2 v), h.o2.farY h.blk (by decide) (grown_at (World.grownBy.refl _ _) 2 v), h.o3.farY h.blk (by decide) (grown_at (World.grownBy.refl _ _) 2 v), h.r12, h.r23, h.low, h.bel.setCell h.low _⟩
theorem LoanD.set5 (h : LoanD w0 B wr gl p t1 t2 t3 d s y u1 u2 u3) (v : Value) : LoanD w0 B (wr.setCell ⟨gl, 5, none⟩ v) gl p t1 t2 t3 d s v u1 u2 u3 :=
  ⟨h.blk.setC 5 v, h.k1.setG h.blk h.low 5 v, h.k2.setG h.blk h.low 5 v, h.k3.setG h.blk h.low 5 v, h.e1, h.e2, h.e3, h.o1.farY h.blk (by decide) (grown_at (World.grownBy.refl _ _) 5 v), h.o2.farY h.blk (by decide) (grown_at (World.grownBy.refl _ _) 5 v), h.o3.farY h.blk (by decide) (grown_at (World.grownBy.refl _ _) 5 v), h.r12, h.r23, h.low, h.bel.setCell h.low _⟩
end

def LPost (w0 : World) (B : Nat) (l : List Int) (W : World) (e : Ending) (w' : World) : Prop :=
  ∃ t : LT, e = .returned (.pointer (some ⟨t.g, 0, none⟩)) ∧ t.ok w0 B w' ∧ t.l = l ∧ t.n = l.length ∧ W.heap.size ≤ t.g ∧ W.grownBy w' none

def LendPost (w0 : World) (B : Nat) (p : Pk) (W : World) (e : Ending) (w' : World) : Prop :=
  ∃ gl t1 t2 t3 u1 u2 u3, e = .returned (.pointer (some ⟨gl, 0, none⟩)) ∧ Loan w0 B w' gl p t1 t2 t3 u1 u2 u3 ∧ W.grownBy w' none

theorem lend05 (w0 : World) (B : Nat) (p : Pk) (d s y : Value) (w : World) (hd : InB w d p.dst) (hs : InB w s p.src) (hy : InB w y p.payload) (l1 : p.dst.length ≤ 140737488351232) (l2 : p.src.length ≤ 140737488351232) (l3 : p.payload.length ≤ 140737488351232) (hb : Below B w0 w) (hB : B ≤ w.heap.size) :
    Calls Try.prog 10 #[p.val d s y] w (LendPost w0 B p w) := by
  obtain ⟨a1, c1, rfl, -⟩ := id hd
  obtain ⟨a2, c2, rfl, -⟩ := id hs
  obtain ⟨a3, c3, rfl, -⟩ := id hy
  have b0 := Blk.new w (p.cs (.slice a1 p.dst.length c1) (.slice a2 p.src.length c2) (.slice a3 p.payload.length c3)) 24
  have g0 := World.grownBy_alloc w (.cells (p.cs (.slice a1 p.dst.length c1) (.slice a2 p.src.length c2) (.slice a3 p.payload.length c3)) 24) none
  go_enter Try.func10, Try.ntmps10
  go_wp2_with fail
  generalize w.alloc (.cells (p.cs (.slice a1 p.dst.length c1) (.slice a2 p.src.length c2) (.slice a3 p.payload.length c3)) 24) = Wb at *
  have bl : ∀ V, Wb.grownBy V none → Below B w0 V ∧ B ≤ V.heap.size := fun V g => ⟨hb.trans ((grown_bel (g0.trans g)).mono hB), Nat.le_trans hB (g0.trans g).size⟩
  have hc : ∀ V, Wb.grownBy V none → Calls Try.prog 19 #[p.val (.slice a1 p.dst.length c1) (.slice a2 p.src.length c2) (.slice a3 p.payload.length c3)] V (CopPost V p) := fun V g => copied05 p _ _ _ V (hd.grown (g0.trans g)) (hs.grown (g0.trans g)) (hy.grown (g0.trans g)) l1 l2 l3
  have h1 : ∀ V, Wb.grownBy V none → Calls Try.prog 21 #[.slice a1 p.dst.length c1] V (LPost w0 B p.dst V) := fun V g => lend_lt w0 B _ p.dst V (hd.grown (g0.trans g)) l1 (bl V g).1 (bl V g).2
  have h2 : ∀ V, Wb.grownBy V none → Calls Try.prog 21 #[.slice a2 p.src.length c2] V (LPost w0 B p.src V) := fun V g => lend_lt w0 B _ p.src V (hs.grown (g0.trans g)) l2 (bl V g).1 (bl V g).2
  have h3 : ∀ V, Wb.grownBy V none → Calls Try.prog 21 #[.slice a3 p.payload.length c3] V (LPost w0 B p.payload V) := fun V g => lend_lt w0 B _ p.payload V (hy.grown (g0.trans g)) l3 (bl V g).1 (bl V g).2
  have x0 := b0.cell 0 (.int .i64 p.space) rfl
  have x1 := b0.cell 1 (.slice a1 p.dst.length c1) rfl
  have x2 := b0.cell 2 (.slice a2 p.src.length c2) rfl
  have x3 := b0.cell 3 (.int .i64 p.number) rfl
  have x4 := b0.cell 4 (.int .i64 p.width) rfl
  have x5 := b0.cell 5 (.slice a3 p.payload.length c3) rfl
  have HC := hide hc; have H1 := hide h1; have H2 := hide h2; have H3 := hide h3; have BL := hide bl; have B0 := hide b0; have G0 := hide g0
  clear hc h1 h2 h3 bl b0 g0 hd hs hy hb hB
  generalize w.heap.size = gp at *
  go_region_held3 (fun W => W.cell? ⟨gp, 0, none⟩ = some (.int .i64 p.space) ∧ W.cell? ⟨gp, 1, none⟩ = some (.slice a1 p.dst.length c1) ∧ W.cell? ⟨gp, 2, none⟩ = some (.slice a2 p.src.length c2) ∧ W.cell? ⟨gp, 3, none⟩ = some (.int .i64 p.number) ∧ W.cell? ⟨gp, 4, none⟩ = some (.int .i64 p.width) ∧ W.cell? ⟨gp, 5, none⟩ = some (.slice a3 p.payload.length c3)) (go_keep) (first
    | (go_at_call 19; refine (unhide HC _ (grown_drewN (World.grownBy.refl _ none))).mono ?_; intro e V1 hcp; obtain ⟨e1, f1, e2, f2, e3, f3, rfl, o1, o2, o3, gc⟩ := hcp; have gr1 := (grown_drewN (World.grownBy.refl Wb none)).trans gc; have O := hide (And.intro o1 (And.intro o2 o3)); clear o1 o2 o3; have x10 := cell_grown x0 gr1; have x11 := cell_grown x1 gr1; have x12 := cell_grown x2 gr1; have x13 := cell_grown x3 gr1; have x14 := cell_grown x4 gr1; have x15 := cell_grown x5 gr1)
    | (go_at_call 21; refine (unhide H3 _ gr3).mono ?_; intro e V4 hq3; obtain ⟨t3, rfl, kt3, q31, q32, q33, gd3⟩ := hq3; have gr4 := gr3.trans gd3; have K3 := hide (And.intro kt3 (And.intro q31 (And.intro q32 (And.intro q33 gd3)))); clear kt3 q31 q32 q33 gd3; have x40 := cell_grown x0 gr4; have x41 := cell_grown x1 gr4; have x42 := cell_grown x2 gr4; have x43 := cell_grown x3 gr4; have x44 := cell_grown x4 gr4; have x45 := cell_grown x5 gr4)
    | (go_at_call 21; refine (unhide H2 _ gr2).mono ?_; intro e V3 hq2; obtain ⟨t2, rfl, kt2, q21, q22, q23, gd2⟩ := hq2; have gr3 := gr2.trans gd2; have K2 := hide (And.intro kt2 (And.intro q21 (And.intro q22 (And.intro q23 gd2)))); clear kt2 q21 q22 q23 gd2; have x30 := cell_grown x0 gr3; have x31 := cell_grown x1 gr3; have x32 := cell_grown x2 gr3; have x33 := cell_grown x3 gr3; have x34 := cell_grown x4 gr3; have x35 := cell_grown x5 gr3)
    | (go_at_call 21; refine (unhide H1 _ gr1).mono ?_; intro e V2 hq1; obtain ⟨t1, rfl, kt1, q11, q12, q13, gd1⟩ := hq1; have gr2 := gr1.trans gd1; have K1 := hide (And.intro kt1 (And.intro q11 (And.intro q12 (And.intro q13 gd1)))); clear kt1 q11 q12 q13 gd1; have x20 := cell_grown x0 gr2; have x21 := cell_grown x1 gr2; have x22 := cell_grown x2 gr2; have x23 := cell_grown x3 gr2; have x24 := cell_grown x4 gr2; have x25 := cell_grown x5 gr2))
  obtain ⟨kt1, q11, q12, q13, gd1⟩ := unhide K1
  obtain ⟨kt2, q21, q22, q23, gd2⟩ := unhide K2
  obtain ⟨kt3, q31, q32, q33, gd3⟩ := unhide K3
  obtain ⟨o1, o2, o3⟩ := unhide O
  obtain ⟨bl4, lw4⟩ := unhide BL V4 gr4
  have lo1 := (unhide BL _ (grown_drewN (q := 1) (World.grownBy.refl Wb none))).2
  have lt1 := kt1.lts
  have lt2 := kt2.lts
  have gN := World.grownBy_alloc V4 (.cells (lcs p (.slice a1 p.dst.length c1) (.slice a2 p.src.length c2) (.slice a3 p.payload.length c3) (.slice e1 p.dst.length f1) (.slice e2 p.src.length f2) (.slice e3 p.payload.length f3) t1.g t2.g t3.g) 37) none
  have g14 := (gd1.trans gd2).trans gd3
  have L0 : LoanD w0 B (V4.alloc (.cells (lcs p (.slice a1 p.dst.length c1) (.slice a2 p.src.length c2) (.slice a3 p.payload.length c3) (.slice e1 p.dst.length f1) (.slice e2 p.src.length f2) (.slice e3 p.payload.length f3) t1.g t2.g t3.g) 37)) V4.heap.size p t1 t2 t3 (.slice a1 p.dst.length c1) (.slice a2 p.src.length c2) (.slice a3 p.payload.length c3) (.slice e1 p.dst.length f1) (.slice e2 p.src.length f2) (.slice e3 p.payload.length f3) :=
    ⟨Blk.new _ _ _, ((kt1.grown gd2).grown gd3).grown gN, (kt2.grown gd3).grown gN, kt3.grown gN, q11, q21, q31, ((o1.far g14 (fun q e => by cases e)).far gN (fun q e => by cases e)).mono lo1, ((o2.far g14 (fun q e => by cases e)).far gN (fun q e => by cases e)).mono lo1, ((o3.far g14 (fun q e => by cases e)).far gN (fun q e => by cases e)).mono lo1, ⟨by omega, by omega⟩, ⟨by omega, by omega⟩, lw4, bl4.trans ((grown_bel gN).mono lw4)⟩
  have GT := hide (((unhide G0).trans gr4).trans gN)
  have hgl : gp < V4.heap.size := Nat.lt_of_lt_of_le (unhide B0).lt gr4.size
  have hwl := hide (Nat.le_trans (unhide G0).size gr4.size)
  clear kt1 q11 q12 q13 gd1 kt2 q21 q22 q23 gd2 kt3 q31 q32 q33 gd3 o1 o2 o3 bl4 lw4 lo1 lt1 lt2 gN g14 K1 K2 K3 O HC H1 H2 H3 BL gr1 gr2 gr3 gr4 gc B0 G0
  clear x0 x1 x2 x3 x4 x5 x10 x11 x12 x13 x14 x15 x20 x21 x22 x23 x24 x25 x30 x31 x32 x33 x34 x35 x40 x41 x42 x43 x44 x45
  go_wp2_with fail
  generalize V4.alloc (.cells (lcs p (.slice a1 p.dst.length c1) (.slice a2 p.src.length c2) (.slice a3 p.payload.length c3) (.slice e1 p.dst.length f1) (.slice e2 p.src.length f2) (.slice e3 p.payload.length f3) t1.g t2.g t3.g) 37) = V5 at *
  generalize hgle : V4.heap.size = gl at *
  clear hgle
  refine (bytes_lt t1 w0 V5 B L0.k1).mono ?_
  rintro e V6 ⟨rfl, q1, hq⟩
  subst hq
  have LD := L0.drewN q1
  have L1 := LD.set1 t1.v
  have y1 := LD.blk.cell 1 (.slice a1 p.dst.length c1) rfl
  have th := LD.blk.thaws
  have y13 := L1.blk.cell 13 (.pointer (some ⟨t2.g, 0, none⟩)) rfl
  have GT1 := hide (grown_set (grown_drewN (q := q1) (unhide GT)) gl 1 t1.v (unhide hwl))
  clear LD L0 GT
  generalize V5.drewN q1 = V6 at *
  go_wp2_with fail
  generalize V6.setCell ⟨gl, 1, none⟩ (.slice (some ⟨t1.gf, 0, none⟩) t1.n t1.cf) = V7 at *
  refine (bytes_lt t2 w0 V7 B L1.k2).mono ?_
  rintro e V8 ⟨rfl, q2, hq⟩
  subst hq
  have LD := L1.drewN q2
  have L2 := LD.set2 t2.v
  have y2 := LD.blk.cell 2 (.slice a2 p.src.length c2) rfl
  have th2 := LD.blk.thaws
  have y14 := L2.blk.cell 14 (.pointer (some ⟨t3.g, 0, none⟩)) rfl
  have GT2 := hide (grown_set (grown_drewN (q := q2) (unhide GT1)) gl 2 t2.v (unhide hwl))
  clear LD L1 GT1 y1 th y13
  generalize V7.drewN q2 = V8 at *
  go_wp2_with fail
  generalize V8.setCell ⟨gl, 2, none⟩ (.slice (some ⟨t2.gf, 0, none⟩) t2.n t2.cf) = V9 at *
  refine (bytes_lt t3 w0 V9 B L2.k3).mono ?_
  rintro e Va ⟨rfl, q3, hq⟩
  subst hq
  have LD := L2.drewN q3
  have L3 := LD.set5 t3.v
  have y5 := LD.blk.cell 5 (.slice a3 p.payload.length c3) rfl
  have th3 := LD.blk.thaws
  have GT3 := hide (grown_set (grown_drewN (q := q3) (unhide GT2)) gl 5 t3.v (unhide hwl))
  have H3 := hide L3
  clear LD L2 GT2 y2 th2 y14 L3
  generalize V9.drewN q3 = Va at *
  go_wp2_with fail
  go_ret
  exact ⟨_, _, _, _, _, _, _, rfl, unhide H3, unhide GT3⟩
end Go.Proofs.Ytdmjejfnohhpiaa

namespace Go.Proofs.Ytdmjejfnohhpiaa
open Go.RowKit
set_option linter.unusedVariables false
set_option maxRecDepth 100000
set_option maxHeartbeats 2000000

section
variable {t : LT} {w0 wr : World} {B : Nat}
theorem LT.ok.keep {w' : World} (h : t.ok w0 B wr) (e1 : w'.heap[t.g]? = wr.heap[t.g]?) (e2 : w'.heap[t.gf]? = wr.heap[t.gf]?) (e3 : w'.heap[t.gw]? = wr.heap[t.gw]?) (hb : Below B w0 w') : t.ok w0 B w' := by
  refine ⟨⟨by rw [e1]; exact h.lent.blk, ?_, ?_, h.lent.sep, hb, h.lent.low⟩, h.byte⟩
  · refine ⟨h.lent.full.1, ?_⟩
    rcases h.lent.full.2 with ⟨e, -⟩ | ⟨g, cap, cur, e, q1, q2, q3⟩
    · cases e
    · simp only [Value.slice.injEq, Option.some.injEq, Addr.mk.injEq, and_true, true_and] at e
      obtain ⟨rfl, rfl⟩ := e
      exact .inr ⟨_, _, cur, rfl, q1, by rw [e2]; exact q2, q3⟩
  · refine ⟨h.lent.was.1, ?_⟩
    rcases h.lent.was.2 with ⟨e, -⟩ | ⟨g, cap, cur, e, q1, q2, q3⟩
    · cases e
    · simp only [Value.slice.injEq, Option.some.injEq, Addr.mk.injEq, and_true, true_and] at e
      obtain ⟨rfl, rfl⟩ := e
      exact .inr ⟨_, _, cur, rfl, q1, by rw [e3]; exact q2, q3⟩
theorem LT.ok.neG {gl : Nat} {cs : Array Value} (h : t.ok w0 B wr) (b : Blk wr gl cs 37) : t.g ≠ gl ∧ t.gf ≠ gl ∧ t.gw ≠ gl := by
  have b' : wr.heap[gl]? = some (.cells cs 37 (0, 0)) := b
  have n1 : t.g ≠ gl := fun e => by
    have := h.lent.blk
    rw [e, b'] at this
    simp at this
  have row : ∀ {v : Value} {k : Nat} {xs : List Value} {g : Nat}, wr.ownsRow (t.g + 1) 5 1 v k xs → v.ownBlock = some g → g ≠ gl := fun {v k xs g} ho hv e => by
    rcases ho.2 with ⟨rfl, -⟩ | ⟨g', cap, cur, rfl, -, hh, -⟩
    · simp [Value.ownBlock] at hv
    · simp only [Value.ownBlock, Option.some.injEq] at hv
      rw [hv, e, b'] at hh
      simp at hh
  exact ⟨n1, row h.lent.full rfl, row h.lent.was rfl⟩
theorem LT.ok.farG {W : World} {gl : Nat} {cs : Array Value} (h : t.ok w0 B wr) (b : Blk wr gl cs 37) (g : wr.grownBy W (some gl)) (hl : B ≤ gl) : t.ok w0 B W := by
  obtain ⟨n1, n2, n3⟩ := h.neG b
  obtain ⟨-, l1, -, -, l4, l5⟩ := h.lts
  refine h.keep (g.block _ (by omega) (by simp; exact n1)) (g.block _ l4 (by simp; exact n2)) (g.block _ l5 (by simp; exact n3)) ?_
  exact h.lent.bel.grown g (Nat.le_trans h.lent.low (by omega)) (fun k hk => by cases hk; exact hl)
end

theorem Only.blk {w W : World} {a b g : Nat} {cs : Array Value} {t : TypeId} (h : Only w W a b) (hb : Blk w g cs t) (n1 : g ≠ a) (n2 : g ≠ b) : Blk W g cs t := (h.2 g n1 n2).trans hb

theorem kept05 (w0 : World) (B : Nat) (w : World) (gl : Nat) (p : Pk) (t1 t2 t3 : LT) (u1 u2 u3 : Value) (L : Loan w0 B w gl p t1 t2 t3 u1 u2 u3) :
    Calls Try.prog 16 #[.pointer (some ⟨gl, 0, none⟩)] w fun e w' => e = .returned (.bool true) ∧ w.grownBy w' none := by
  obtain ⟨a1, c1, rfl⟩ := L.o1.shape
  obtain ⟨a2, c2, rfl⟩ := L.o2.shape
  obtain ⟨a3, c3, rfl⟩ := L.o3.shape
  have y12 := L.blk.cell 12 (.pointer (some ⟨t1.g, 0, none⟩)) rfl
  go_enter Try.func16, Try.ntmps16
  go_wp2_with fail
  refine (kept_lt t1 w0 w B L.k1).mono ?_
  rintro e V1 ⟨rfl, q1, hq⟩
  subst hq
  have L1 := L.drewN q1
  have g1 := grown_drewN (q := q1) (World.grownBy.refl w none)
  have y13 := L1.blk.cell 13 (.pointer (some ⟨t2.g, 0, none⟩)) rfl
  clear L y12
  generalize w.drewN q1 = V1 at *
  go_wp2_with fail
  refine (kept_lt t2 w0 V1 B L1.k2).mono ?_
  rintro e V2 ⟨rfl, q2, hq⟩
  subst hq
  have L2 := L1.drewN q2
  have g2 := grown_drewN (q := q2) g1
  have y14 := L2.blk.cell 14 (.pointer (some ⟨t3.g, 0, none⟩)) rfl
  clear L1 y13 g1
  generalize V1.drewN q2 = V2 at *
  go_wp2_with fail
  refine (kept_lt t3 w0 V2 B L2.k3).mono ?_
  rintro e V3 ⟨rfl, q3, hq⟩
  subst hq
  have L3 := L2.drewN q3
  have g3 := grown_drewN (q := q3) g2
  clear L2 y14 g2
  generalize V2.drewN q3 = V3 at *
  have i1 := L3.k1.inB
  have i2 := L3.k2.inB
  have i3 := L3.k3.inB
  have hb1 := L3.k1.bytes
  have hb2 := L3.k2.bytes
  have hb3 := L3.k3.bytes
  rw [L3.e1] at i1 hb1
  rw [L3.e2] at i2 hb2
  rw [L3.e3] at i3 hb3
  have sm : ∀ V, V3.grownBy V none → Calls Try.prog 26 #[p.val t1.v t2.v t3.v, p.val (.slice a1 p.dst.length c1) (.slice a2 p.src.length c2) (.slice a3 p.payload.length c3)] V fun e w' => e = .returned (.bool true) ∧ V.grownBy w' none := fun V g => same05 p _ _ _ _ _ _ V (i1.grown g) (i2.grown g) (i3.grown g) ((L3.o1.inB hb1).grown g) ((L3.o2.inB hb2).grown g) ((L3.o3.inB hb3).grown g)
  have z0 := L3.blk.cell 0 (.int .i64 p.space) rfl
  have z1 := L3.blk.cell 1 t1.v rfl
  have z2 := L3.blk.cell 2 t2.v rfl
  have z3 := L3.blk.cell 3 (.int .i64 p.number) rfl
  have z4 := L3.blk.cell 4 (.int .i64 p.width) rfl
  have z5 := L3.blk.cell 5 t3.v rfl
  have z6 := L3.blk.cell 6 (.int .i64 p.space) rfl
  have z7 := L3.blk.cell 7 (.slice a1 p.dst.length c1) rfl
  have z8 := L3.blk.cell 8 (.slice a2 p.src.length c2) rfl
  have z9 := L3.blk.cell 9 (.int .i64 p.number) rfl
  have za := L3.blk.cell 10 (.int .i64 p.width) rfl
  have zb := L3.blk.cell 11 (.slice a3 p.payload.length c3) rfl
  have SM := hide sm
  have G3 := hide g3
  clear sm i1 i2 i3 hb1 hb2 hb3 L3 g3
  go_wp2_with fail
  go_region_held3 (fun W => (W.cell? ⟨gl, 0, none⟩ = some (.int .i64 p.space) ∧ W.cell? ⟨gl, 1, none⟩ = some (.slice (some ⟨t1.gf, 0, none⟩) t1.n t1.cf) ∧ W.cell? ⟨gl, 2, none⟩ = some (.slice (some ⟨t2.gf, 0, none⟩) t2.n t2.cf) ∧ W.cell? ⟨gl, 3, none⟩ = some (.int .i64 p.number) ∧ W.cell? ⟨gl, 4, none⟩ = some (.int .i64 p.width) ∧ W.cell? ⟨gl, 5, none⟩ = some (.slice (some ⟨t3.gf, 0, none⟩) t3.n t3.cf)) ∧ W.cell? ⟨gl, 6, none⟩ = some (.int .i64 p.space) ∧ W.cell? ⟨gl, 7, none⟩ = some (.slice a1 p.dst.length c1) ∧ W.cell? ⟨gl, 8, none⟩ = some (.slice a2 p.src.length c2) ∧ W.cell? ⟨gl, 9, none⟩ = some (.int .i64 p.number) ∧ W.cell? ⟨gl, 10, none⟩ = some (.int .i64 p.width) ∧ W.cell? ⟨gl, 11, none⟩ = some (.slice a3 p.payload.length c3)) (go_keep) (first
    | (go_at_call 26; refine (unhide SM _ (grown_drewN (World.grownBy.refl _ none))).mono ?_; rintro e V4 ⟨rfl, g4⟩; have g5 := (grown_drewN (World.grownBy.refl V3 none)).trans g4; have w0' := cell_grown z0 g5; have w1' := cell_grown z1 g5; have w2' := cell_grown z2 g5; have w3' := cell_grown z3 g5; have w4' := cell_grown z4 g5; have w5' := cell_grown z5 g5; have w6' := cell_grown z6 g5; have w7' := cell_grown z7 g5; have w8' := cell_grown z8 g5; have w9' := cell_grown z9 g5; have wa' := cell_grown za g5; have wb' := cell_grown zb g5))
  go_wp2_with fail
  go_ret
  exact ⟨rfl, (unhide G3).trans g5⟩

/-- What a loan's Turn may write. -/
def LoanD.mine (gl : Nat) (t1 t2 t3 : LT) (i : Nat) : Prop := i = gl ∨ i = t1.gf ∨ i = t1.gw ∨ i = t2.gf ∨ i = t2.gw ∨ i = t3.gf ∨ i = t3.gw
def TurnPost (w0 : World) (B : Nat) (wr : World) (gl : Nat) (p : Pk) (t1 t2 t3 : LT) (e : Ending) (w' : World) : Prop :=
  ∃ (p' : Pk) (F1 F2 F3 : List Int) (u1 u2 u3 : Value), e = .returned (.tuple #[]) ∧ Loan w0 B w' gl p' { t1 with F := F1 } { t2 with F := F2 } { t3 with F := F3 } u1 u2 u3 ∧ (p'.space = p.space ∧ p'.number = p.number ∧ p'.width = p.width ∧ p'.dst.length = p.dst.length ∧ p'.src.length = p.src.length ∧ p'.payload.length = p.payload.length)
    ∧ wr.heap.size ≤ w'.heap.size ∧ ∀ i, i < wr.heap.size → ¬ LoanD.mine gl t1 t2 t3 i → w'.heap[i]? = wr.heap[i]?

end Go.Proofs.Ytdmjejfnohhpiaa

namespace Go.Proofs.Ytdmjejfnohhpiaa
open Go.RowKit
set_option linter.unusedVariables false
set_option maxRecDepth 100000
set_option maxHeartbeats 2000000

theorem turn05 (w0 : World) (B : Nat) (w : World) (gl : Nat) (p : Pk) (t1 t2 t3 : LT) (u1 u2 u3 : Value) (L : Loan w0 B w gl p t1 t2 t3 u1 u2 u3) (l1 : p.dst.length ≤ 140737488351232) (l2 : p.src.length ≤ 140737488351232) (l3 : p.payload.length ≤ 140737488351232) :
    Calls Try.prog 18 #[.pointer (some ⟨gl, 0, none⟩)] w (TurnPost w0 B w gl p t1 t2 t3) := by
  have y12 := L.blk.cell 12 (.pointer (some ⟨t1.g, 0, none⟩)) rfl
  obtain ⟨lo1, s1, s2, s3, s4, s5⟩ := L.k1.lts
  obtain ⟨lo2, s6, s7, s8, s9, s10⟩ := L.k2.lts
  obtain ⟨lo3, s11, s12, s13, s14, s15⟩ := L.k3.lts
  obtain ⟨n1, n2, n3⟩ := L.k1.neG L.blk
  obtain ⟨n4, n5, n6⟩ := L.k2.neG L.blk
  obtain ⟨n7, n8, n9⟩ := L.k3.neG L.blk
  obtain ⟨r1, r2⟩ := L.r12
  obtain ⟨r3, r4⟩ := L.r23
  have hn1 : t1.n = p.dst.length := by rw [← L.e1]; exact L.k1.len.symm
  have hn2 : t2.n = p.src.length := by rw [← L.e2]; exact L.k2.len.symm
  have hn3 : t3.n = p.payload.length := by rw [← L.e3]; exact L.k3.len.symm
  have hlow := L.low
  have LL := hide L
  have HN := hide (And.intro hn1 (And.intro hn2 hn3))
  have HS := hide (And.intro (And.intro n1 (And.intro n2 n3)) (And.intro (And.intro n4 (And.intro n5 n6)) (And.intro n7 (And.intro n8 n9))))
  have HR := hide (And.intro (And.intro s1 (And.intro s2 s3)) (And.intro (And.intro s6 (And.intro s7 s8)) (And.intro (And.intro s11 (And.intro s12 s13)) (And.intro (And.intro r1 r2) (And.intro r3 r4)))))
  clear L hn1 hn2 hn3 n1 n2 n3 n4 n5 n6 n7 n8 n9 s1 s2 s3 s4 s5 s6 s7 s8 s9 s10 s11 s12 s13 s14 s15 r1 r2 r3 r4
  go_enter Try.func18, Try.ntmps18
  go_wp2_with fail
  refine (turn_lt t1 w0 w B 1 (unhide LL).k1 (by decide) (by decide)).mono ?_
  rintro e V1 ⟨rfl, F1, k1, O1⟩
  obtain ⟨⟨n1, n2, n3⟩, ⟨n4, n5, n6⟩, n7, n8, n9⟩ := unhide HS
  obtain ⟨⟨s1, s2, s3⟩, ⟨s6, s7, s8⟩, ⟨s11, s12, s13⟩, ⟨r1, r2⟩, r3, r4⟩ := unhide HR
  have b1 := O1.blk (unhide LL).blk (Ne.symm n2) (Ne.symm n3)
  have k2 := (unhide LL).k2.only O1 k1.lent.bel ⟨by omega, by omega⟩ ⟨by omega, by omega⟩ ⟨by omega, by omega⟩
  have k3 := (unhide LL).k3.only O1 k1.lent.bel ⟨by omega, by omega⟩ ⟨by omega, by omega⟩ ⟨by omega, by omega⟩
  have y13 := b1.cell 13 (.pointer (some ⟨t2.g, 0, none⟩)) rfl
  have B1 := hide b1; have K1 := hide k1; have K2 := hide k2; have K3 := hide k3; have HO1 := hide O1
  clear b1 k1 k2 k3 O1 n1 n2 n3 n4 n5 n6 n7 n8 n9 s1 s2 s3 s6 s7 s8 s11 s12 s13 r1 r2 r3 r4 y12
  go_wp2_with fail
  refine (turn_lt t2 w0 V1 B 2 (unhide K2) (by decide) (by decide)).mono ?_
  rintro e V2 ⟨rfl, F2, k2, O2⟩
  obtain ⟨⟨n1, n2, n3⟩, ⟨n4, n5, n6⟩, n7, n8, n9⟩ := unhide HS
  obtain ⟨⟨s1, s2, s3⟩, ⟨s6, s7, s8⟩, ⟨s11, s12, s13⟩, ⟨r1, r2⟩, r3, r4⟩ := unhide HR
  have b2 := O2.blk (unhide B1) (Ne.symm n5) (Ne.symm n6)
  have k1 := (unhide K1).only O2 k2.lent.bel ⟨by simp only; omega, by simp only; omega⟩ ⟨by simp only; omega, by simp only; omega⟩ ⟨by simp only; omega, by simp only; omega⟩
  have k3 := (unhide K3).only O2 k2.lent.bel ⟨by omega, by omega⟩ ⟨by omega, by omega⟩ ⟨by omega, by omega⟩
  have y14 := b2.cell 14 (.pointer (some ⟨t3.g, 0, none⟩)) rfl
  have B2 := hide b2
  clear K1 K2 K3 B1
  have K1 := hide k1; have K2 := hide k2; have K3 := hide k3; have HO2 := hide O2
  clear b2 k1 k2 k3 O2 n1 n2 n3 n4 n5 n6 n7 n8 n9 s1 s2 s3 s6 s7 s8 s11 s12 s13 r1 r2 r3 r4 y13
  go_wp2_with fail
  refine (turn_lt t3 w0 V2 B 3 (unhide K3) (by decide) (by decide)).mono ?_
  rintro e V3 ⟨rfl, F3, k3, O3⟩
  obtain ⟨⟨n1, n2, n3⟩, ⟨n4, n5, n6⟩, n7, n8, n9⟩ := unhide HS
  obtain ⟨⟨s1, s2, s3⟩, ⟨s6, s7, s8⟩, ⟨s11, s12, s13⟩, ⟨r1, r2⟩, r3, r4⟩ := unhide HR
  have b3 := O3.blk (unhide B2) (Ne.symm n8) (Ne.symm n9)
  have k1 := (unhide K1).only O3 k3.lent.bel ⟨by simp only; omega, by simp only; omega⟩ ⟨by simp only; omega, by simp only; omega⟩ ⟨by simp only; omega, by simp only; omega⟩
  have k2 := (unhide K2).only O3 k3.lent.bel ⟨by simp only; omega, by simp only; omega⟩ ⟨by simp only; omega, by simp only; omega⟩ ⟨by simp only; omega, by simp only; omega⟩
  obtain ⟨hn1, hn2, hn3⟩ := unhide HN
  obtain ⟨P', hP'⟩ : ∃ P' : Pk, P' = ⟨p.space, (LT.l { t1 with F := F1 }), (LT.l { t2 with F := F2 }), p.number, p.width, (LT.l { t3 with F := F3 })⟩ := ⟨_, rfl⟩
  have m1 : P'.dst = LT.l { t1 with F := F1 } := by rw [hP']
  have m2 : P'.src = LT.l { t2 with F := F2 } := by rw [hP']
  have m3 : P'.payload = LT.l { t3 with F := F3 } := by rw [hP']
  have m4 : P'.space = p.space := by rw [hP']
  have m5 : P'.number = p.number := by rw [hP']
  have m6 : P'.width = p.width := by rw [hP']
  have ln1 : P'.dst.length = p.dst.length := by rw [m1, k1.len]; exact hn1
  have ln2 : P'.src.length = p.src.length := by rw [m2, k2.len]; exact hn2
  have ln3 : P'.payload.length = p.payload.length := by rw [m3, k3.len]; exact hn3
  have i1 := k1.inB
  have i2 := k2.inB
  have i3 := k3.inB
  rw [← m1] at i1
  rw [← m2] at i2
  rw [← m3] at i3
  have cp := copied05 P' t1.v t2.v t3.v V3 i1 i2 i3 (by omega) (by omega) (by omega)
  have ev : P'.val t1.v t2.v t3.v = .agg #[.int .i64 p.space, t1.v, t2.v, .int .i64 p.number, .int .i64 p.width, t3.v] := by
    show Value.agg #[.int .i64 P'.space, t1.v, t2.v, .int .i64 P'.number, .int .i64 P'.width, t3.v] = _
    rw [m4, m5, m6]
  rw [ev] at cp
  have CPY := hide cp
  have M := hide (And.intro (And.intro m1 (And.intro m2 m3)) (And.intro (And.intro m4 (And.intro m5 m6)) (And.intro ln1 (And.intro ln2 ln3))))
  have z0 := b3.cell 0 (.int .i64 p.space) rfl
  have z1 := b3.cell 1 t1.v rfl
  have z2 := b3.cell 2 t2.v rfl
  have z3 := b3.cell 3 (.int .i64 p.number) rfl
  have z4 := b3.cell 4 (.int .i64 p.width) rfl
  have z5 := b3.cell 5 t3.v rfl
  have B3 := hide b3
  clear K1 K2 K3 B2
  have K1 := hide k1; have K2 := hide k2; have K3 := hide k3; have HO3 := hide O3
  clear b3 k1 k2 k3 O3 n1 n2 n3 n4 n5 n6 n7 n8 n9 s1 s2 s3 s6 s7 s8 s11 s12 s13 r1 r2 r3 r4 y14 hn1 hn2 hn3 hP' m1 m2 m3 m4 m5 m6 ln1 ln2 ln3 i1 i2 i3 cp ev HN
  go_wp2_with fail
  refine (unhide CPY).mono ?_
  intro e V4 hc
  obtain ⟨a1, c1, a2, c2, a3, c3, rfl, o1, o2, o3, gc⟩ := hc
  obtain ⟨⟨m1, m2, m3⟩, ⟨m4, m5, m6⟩, ln1, ln2, ln3⟩ := unhide M
  have b4 := (unhide B3).grown gc
  have th := b4.thaws
  have y6 := b4.cell 6 (.int .i64 p.space) rfl
  have y7 := b4.cell 7 u1 rfl
  have y8 := b4.cell 8 u2 rfl
  have y9 := b4.cell 9 (.int .i64 p.number) rfl
  have ya := b4.cell 10 (.int .i64 p.width) rfl
  have yb := b4.cell 11 u3 rfl
  have gg := grown_at (grown_at (grown_at (grown_at (grown_at (grown_at (World.grownBy.refl V4 (some gl)) 6 (.int .i64 P'.space)) 7 (.slice a1 P'.dst.length c1)) 8 (.slice a2 P'.src.length c2)) 9 (.int .i64 P'.number)) 10 (.int .i64 P'.width)) 11 (.slice a3 P'.payload.length c3)
  have k1 := ((unhide K1).grown gc).farG b4 gg hlow
  have k2 := ((unhide K2).grown gc).farG b4 gg hlow
  have k3 := ((unhide K3).grown gc).farG b4 gg hlow
  have bB : B ≤ V3.heap.size := Nat.le_trans hlow (Nat.le_of_lt (unhide B3).lt)
  have bF := (((((b4.setC 6 (.int .i64 P'.space)).setC 7 (.slice a1 P'.dst.length c1)).setC 8 (.slice a2 P'.src.length c2)).setC 9 (.int .i64 P'.number)).setC 10 (.int .i64 P'.width)).setC 11 (.slice a3 P'.payload.length c3)
  have bF' : Blk ((((((V4.setCell ⟨gl, 6, none⟩ (.int .i64 P'.space)).setCell ⟨gl, 7, none⟩ (.slice a1 P'.dst.length c1)).setCell ⟨gl, 8, none⟩ (.slice a2 P'.src.length c2)).setCell ⟨gl, 9, none⟩ (.int .i64 P'.number)).setCell ⟨gl, 10, none⟩ (.int .i64 P'.width)).setCell ⟨gl, 11, none⟩ (.slice a3 P'.payload.length c3)) gl (lcs P' t1.v t2.v t3.v (.slice a1 P'.dst.length c1) (.slice a2 P'.src.length c2) (.slice a3 P'.payload.length c3) t1.g t2.g t3.g) 37 := by
    have e : (lcs P' t1.v t2.v t3.v (.slice a1 P'.dst.length c1) (.slice a2 P'.src.length c2) (.slice a3 P'.payload.length c3) t1.g t2.g t3.g) = #[.int .i64 p.space, t1.v, t2.v, .int .i64 p.number, .int .i64 p.width, t3.v, .int .i64 P'.space, .slice a1 P'.dst.length c1, .slice a2 P'.src.length c2, .int .i64 P'.number, .int .i64 P'.width, .slice a3 P'.payload.length c3, .pointer (some ⟨t1.g, 0, none⟩), .pointer (some ⟨t2.g, 0, none⟩), .pointer (some ⟨t3.g, 0, none⟩)] := by
      unfold lcs; rw [m4, m5, m6]
    rw [e]
    exact bF
  have keep : ∀ i, i < w.heap.size → ¬ LoanD.mine gl t1 t2 t3 i → ((((((V4.setCell ⟨gl, 6, none⟩ (.int .i64 P'.space)).setCell ⟨gl, 7, none⟩ (.slice a1 P'.dst.length c1)).setCell ⟨gl, 8, none⟩ (.slice a2 P'.src.length c2)).setCell ⟨gl, 9, none⟩ (.int .i64 P'.number)).setCell ⟨gl, 10, none⟩ (.int .i64 P'.width)).setCell ⟨gl, 11, none⟩ (.slice a3 P'.payload.length c3)).heap[i]? = w.heap[i]? := fun i hi hm => by
    unfold LoanD.mine at hm
    have z1 := (unhide HO1).1
    have z2 := (unhide HO2).1
    have z3 := (unhide HO3).1
    have z4 := gc.size
    rw [gg.block i (by omega) (by simp; omega), gc.block i (by omega) (by simp), (unhide HO3).2 i (by omega) (by omega), (unhide HO2).2 i (by omega) (by omega), (unhide HO1).2 i (by omega) (by omega)]
  have hsz : w.heap.size ≤ ((((((V4.setCell ⟨gl, 6, none⟩ (.int .i64 P'.space)).setCell ⟨gl, 7, none⟩ (.slice a1 P'.dst.length c1)).setCell ⟨gl, 8, none⟩ (.slice a2 P'.src.length c2)).setCell ⟨gl, 9, none⟩ (.int .i64 P'.number)).setCell ⟨gl, 10, none⟩ (.int .i64 P'.width)).setCell ⟨gl, 11, none⟩ (.slice a3 P'.payload.length c3)).heap.size := by
    have z1 := (unhide HO1).1
    have z2 := (unhide HO2).1
    have z3 := (unhide HO3).1
    have z4 := gc.size
    have z5 := gg.size
    omega
  have F := hide (show TurnPost w0 B w gl p t1 t2 t3 (.returned (.tuple #[])) _ from ⟨P', F1, F2, F3, _, _, _, rfl, ⟨bF', k1, k2, k3, m1.symm, m2.symm, m3.symm, (o1.farY b4 (by decide) gg).mono bB, (o2.farY b4 (by decide) gg).mono bB, (o3.farY b4 (by decide) gg).mono bB, (unhide LL).r12, (unhide LL).r23, hlow, k1.lent.bel⟩, ⟨m4, m5, m6, ln1, ln2, ln3⟩, hsz, keep⟩)
  clear keep hsz bF bF' k1 k2 k3 gg b4 o1 o2 o3 gc bB m1 m2 m3 m4 m5 m6 ln1 ln2 ln3 K1 K2 K3 B3 HO1 HO2 HO3 M CPY LL HS HR
  go_wp2_with fail
  go_end0
  exact unhide F
end Go.Proofs.Ytdmjejfnohhpiaa
