/- KN1, KN2, KN3, one text. -/
import Derived.Test.YtnglgedcpmbbjaaKV
import Derived.Test.YtnglgedcpmbbjaaKW
import Derived.Test.YtnglgedcpmbbjaaK7
namespace Go.Proofs.Ytnglgedcpmbbjaa.Sp
open Go.RowKit Go.Proofs.Ytnglgedcpmbbjaa
set_option linter.unusedVariables false
set_option maxRecDepth 100000
set_option maxHeartbeats 1000000

theorem ltb {base : Nat} {w : World} {v : Value} {d : List Int} (h : OwnB base w v d) : ∀ g, v.ownBlock = some g → base ≤ g ∧ g < w.heap.size := World.ownsRow.lt h
def sepV (u v : Value) : Prop := u.ownBlock = none ∨ u.ownBlock ≠ v.ownBlock
def Sep3 (d s y : Value) : Prop := sepV d s ∧ sepV d y ∧ sepV s y
theorem own_sep {b1 b2 : Nat} {w1 w2 : World} {v1 v2 : Value} {d1 d2 : List Int} (h1 : OwnB b1 w1 v1 d1) (h2 : OwnB b2 w2 v2 d2) (h : w1.heap.size ≤ b2) : sepV v1 v2 := by
  unfold sepV
  cases e : v1.ownBlock with
  | none => exact .inl rfl
  | some g =>
    right
    intro e2
    have := (ltb h1 g e).2
    have := (ltb h2 g e2.symm).1
    omega
theorem sep_nil (v : Value) : sepV nilV v := .inl rfl
theorem sep_nil_r (v : Value) : sepV v nilV := by
  unfold sepV
  cases e : v.ownBlock with
  | none => exact .inl rfl
  | some g => exact .inr (fun h => by cases h)

/-- A packet that was read: its lists are its own. -/
def WentP (g : Nat) (a : Option Addr) (l : List Int) (c : Nat) (G : Lg) (w : World) (r : Pk × St) (e : Ending) (w' : World) : Prop :=
  ∃ d s y, e = .returned (r.1.val d s y) ∧ OwnB w.heap.size w' d r.1.dst ∧ OwnB w.heap.size w' s r.1.src ∧ (OwnB w.heap.size w' y r.1.payload ∧ Sep3 d s y) ∧ Rdk w' g a l c G r.2 ∧ w.grownBy w' (some g)

theorem finS {w0 W : World} {g : Nat} {a : Option Addr} {l : List Int} {c : Nat} {G : Lg} {s : St} {g4 gp B : Nat} {p : Pk} {d u y : Value} (L : LR w0 W g a l c G s g4 gp (p.cs d u y)) (hB : gp < B) (o1 : OwnB B W d p.dst) (o2 : OwnB B W u p.src) (o3 : OwnB B W y p.payload) (hs : Sep3 d u y) :
    Blk ((((((W.setCell ⟨g4, 0, none⟩ (.int .i64 p.space)).setCell ⟨g4, 1, none⟩ d).setCell ⟨g4, 2, none⟩ u).setCell ⟨g4, 3, none⟩ (.int .i64 p.number)).setCell ⟨g4, 4, none⟩ (.int .i64 p.width)).setCell ⟨g4, 5, none⟩ y) g4 (p.cs d u y) 30 ∧
    WentP g a l c G w0 (p, s) (.returned (p.val d u y)) ((((((W.setCell ⟨g4, 0, none⟩ (.int .i64 p.space)).setCell ⟨g4, 1, none⟩ d).setCell ⟨g4, 2, none⟩ u).setCell ⟨g4, 3, none⟩ (.int .i64 p.number)).setCell ⟨g4, 4, none⟩ (.int .i64 p.width)).setCell ⟨g4, 5, none⟩ y) := by
  have h0 := L.h0; have h4 := L.h4; have hp := L.hp
  have hn : g4 ≠ g := by omega
  have hx : ∀ x, a = some x → 0 < c → x.block ≠ g4 := fun x e hc => by have := L.hx x e hc; omega
  have gg : W.grownBy ((((((W.setCell ⟨g4, 0, none⟩ (.int .i64 p.space)).setCell ⟨g4, 1, none⟩ d).setCell ⟨g4, 2, none⟩ u).setCell ⟨g4, 3, none⟩ (.int .i64 p.number)).setCell ⟨g4, 4, none⟩ (.int .i64 p.width)).setCell ⟨g4, 5, none⟩ y) (some g4) :=
    grown_at (grown_at (grown_at (grown_at (grown_at (grown_at (World.grownBy.refl W (some g4)) 0 _) 1 _) 2 _) 3 _) 4 _) 5 _
  have ho : ∀ q, some g4 = some q → q < B := fun q e => by cases e; omega
  refine ⟨L.b4.set6, d, u, y, rfl, (o1.far gg ho).mono (by omega), (o2.far gg ho).mono (by omega), ⟨(o3.far gg ho).mono (by omega), hs⟩, ?_, ?_⟩
  · exact (((((L.R.setO g4 0 _ hn hx).setO g4 1 _ hn hx).setO g4 2 _ hn hx).setO g4 3 _ hn hx).setO g4 4 _ hn hx).setO g4 5 _ hn hx
  · exact grown_setS (grown_setS (grown_setS (grown_setS (grown_setS (grown_setS L.gr g4 0 _ h4) g4 1 _ h4) g4 2 _ h4) g4 3 _ h4) g4 4 _ h4) g4 5 _ h4

theorem longS {w : World} {g : Nat} {a : Option Addr} {l : List Int} {c : Nat} {G : Lg} {s : St} (h : Rdk w g a l c G s) (hG : okG G) (hb : l.length ≤ 140737488355328) (x : Int) (hx : IsB x) :
    Calls Try.prog 28 #[.pointer (some ⟨g, 0, none⟩), .int .u8 x] w (WentP g a l c G w (longR l G s x)) := by
  have hbl := bitL_eq x hx
  have hwd := fun W => widthOf_any x hx W
  have hspc := fun W => spaceOf_any x hx W
  have hwi := widF_in x
  have hbs := h.rd.1
  have hwu : IntKind.u64.wrap (widF x) = widF x := by rw [IntKind.wrap_u64]; omega
  have R0 := fun o => h.grown (World.grownBy_alloc w o none)
  have m0 := fun o => (R0 o).must (bitL x) 51
  go_enter Try.func28, Try.ntmps28
  go_wp2_with fail
  refine (m0 _).mono ?_
  rintro e W1 ⟨rfl, R1, g1⟩
  have R1' : Rdk W1 g a l c G (sL1 s x) := R1
  have p1 : Calls _ _ _ _ (Went g a l c G W1 (sL2 l s x).2 (.int .u64 (sL2 l s x).1)) := R1'.plain 4
  go_wp2_with fail
  refine p1.mono ?_
  rintro e W2 ⟨rfl, R2, g2⟩
  have m2 : Calls _ _ _ _ (Went g a l c G W2 (sL3 l s x) (.tuple #[])) := R2.must (decide ((sL2 l s x).1 = 1)) 52
  go_wp2_with fail
  refine m2.mono ?_
  rintro e W3 ⟨rfl, R3, g3⟩
  go_wp2_with fail
  refine (hspc _).mono ?_
  rintro e W3' ⟨rfl, hw3⟩
  subst hw3
  have m3 : Calls _ _ _ _ (Went g a l c G W3' (sL4 l s x) (.tuple #[])) := R3.must (spcF x).2 53
  go_wp2_with fail
  refine m3.mono ?_
  rintro e W4 ⟨rfl, R4, g4⟩
  go_wp2_with fail
  refine (hwd _).mono ?_
  rintro e W4' ⟨rfl, hw4⟩
  subst hw4
  have gA := ((World.grownBy_alloc w (.cells (pcs 0 nilV nilV 0 0 nilV) 30) (some g)).trans g1).trans ((g2.trans g3).trans g4)
  have hlt : w.heap.size < W4'.heap.size := by
    have := (g1.trans ((g2.trans g3).trans g4)).size
    have e : (w.alloc (.cells (pcs 0 nilV nilV 0 0 nilV) 30)).heap.size = w.heap.size + 1 := by show (w.heap.push _).size = _; simp
    rw [e] at this; omega
  have hg0 : g < w.heap.size := h.blk.lt
  have L0 : LR w (W4'.alloc (.cells (pcs (spcF x).1 nilV nilV 0 (widF x) nilV) 30)) g a l c G (sL4 l s x) w.heap.size W4'.heap.size (pcs (spcF x).1 nilV nilV 0 (widF x) nilV) :=
    ⟨R4.grown (World.grownBy_alloc _ _ none), gA.trans (World.grownBy_alloc _ _ (some g)), ((Blk.new w _ _).far (g1.trans ((g2.trans g3).trans g4)) (by omega)).alloc _, Blk.new _ _ _, hg0, Nat.le_refl _, hlt, fun y e hc => (h.ne y e hc).2⟩
  have hsz : (W4'.alloc (.cells (pcs (spcF x).1 nilV nilV 0 (widF x) nilV) 30)).heap.size = W4'.heap.size + 1 := by show (W4'.heap.push _).size = _; simp
  clear m0 R0 R1 R1' p1 R2 m2 R3 m3 R4 g1 g2 g3 g4 gA h hwd hspc hbl
  have i5 : Calls _ _ _ _ (WentB g a l c G _ (sL5 l s x)) := L0.R.id hb
  go_wp2_with fail
  refine i5.mono ?_
  rintro e W5 ⟨v5, rfl, o5, R5, g5⟩
  have hB5 : W4'.heap.size + 1 ≤ W5.heap.size := by rw [← hsz]; exact g5.size
  rw [hsz] at o5
  have L5 := L0.step R5 g5
  clear i5 R5 g5 L0
  have c1 := L5.bp.cell 1 nilV rfl
  have th := L5.bp.thaws
  have L6 : LR w (W5.setCell ⟨W4'.heap.size, 1, none⟩ v5) g a l c G (sL5 l s x).2 w.heap.size W4'.heap.size (pcs (spcF x).1 v5 nilV 0 (widF x) nilV) := L5.set 1 v5
  have o6 := o5.far (grown_at (World.grownBy.refl W5 (some W4'.heap.size)) 1 v5) (fun q e => by cases e; omega)
  have hB6 : W4'.heap.size + 1 ≤ (W5.setCell ⟨W4'.heap.size, 1, none⟩ v5).heap.size := by show _ ≤ (W5.heap.modify _ _).size; rw [Array.size_modify]; exact hB5
  have i6 : Calls _ _ _ _ (WentB g a l c G _ (sL6 l s x)) := L6.R.id hb
  have HL := hide L6; have HO := hide o6
  obtain ⟨a5, c5, rfl⟩ := o5.shape
  clear L5 L6 o5 o6
  generalize (sL5 l s x).1.length = n5 at *
  go_wp2_with fail
  refine i6.mono ?_
  rintro e W6 ⟨v6, rfl, o6, R6, g6⟩
  have S56 := hide (own_sep (unhide HO) o6 (Nat.le_refl _))
  have hB7 : W4'.heap.size + 1 ≤ W6.heap.size := Nat.le_trans hB6 g6.size
  have o6 := o6.mono hB6
  have L6 := (unhide HL).step R6 g6
  have o5 := (unhide HO).far g6 (fun q e => by cases e; omega)
  clear i6 R6 g6 HL HO c1 th
  have c2 := L6.bp.cell 2 nilV rfl
  have th := L6.bp.thaws
  have L7 : LR w (W6.setCell ⟨W4'.heap.size, 2, none⟩ v6) g a l c G (sL6 l s x).2 w.heap.size W4'.heap.size (pcs (spcF x).1 (.slice a5 n5 c5) v6 0 (widF x) nilV) := L6.set 2 v6
  have o6 := o6.far (grown_at (World.grownBy.refl W6 (some W4'.heap.size)) 2 v6) (fun q e => by cases e; omega)
  have o5 := o5.far (grown_at (World.grownBy.refl W6 (some W4'.heap.size)) 2 v6) (fun q e => by cases e; omega)
  have hB8 : W4'.heap.size + 1 ≤ (W6.setCell ⟨W4'.heap.size, 2, none⟩ v6).heap.size := by show _ ≤ (W6.heap.modify _ _).size; rw [Array.size_modify]; exact hB7
  obtain ⟨a6, c6, rfl⟩ := o6.shape
  have zl := sized_lt l (sL6 l s x).2 hbs
  have HL := hide L7; have HO5 := hide o5; have HO6 := hide o6
  clear L6 o5 o6 hB5 hB6 hB7
  have hB7 := hB8
  clear hB8
  have h3 : Hid ((spcF x).1 = 0 ∨ (spcF x).1 = 1 ∨ (spcF x).1 = 2) := by rcases spcF_sp x with hsp | hsp <;> simp [hsp, Hid]
  rcases spcF_sp x with hsp | hsp
  · have hspb : ((spcF x).1 == 0) = true := by rw [hsp]; rfl
    have e7 : rPass l (rSized l (sL6 l s x).2).2 (rSized l (sL6 l s x).2).1 = sL7 l s x := by unfold sL7 sT; rw [if_pos hsp]
    clear hsp
    have z7 := (unhide HL).R.sized
    clear L7
    generalize (sL6 l s x).1.length = n6 at *
    go_wp2_with fail
    refine z7.mono ?_
    rintro e W7 ⟨rfl, R7, g7⟩
    have L7 := (unhide HL).step R7 g7
    have o5 := (unhide HO5).far g7 (fun q e => by cases e; omega)
    have o6 := (unhide HO6).far g7 (fun q e => by cases e; omega)
    have hB8 := Nat.le_trans hB7 g7.size
    clear z7 R7 g7 HL HO5 HO6 c2 th hB7
    have p7 := L7.R.pass (rSized l (sL6 l s x).2).1 zl
    rw [e7] at p7
    go_wp2_with fail
    refine p7.mono ?_
    rintro e W8 ⟨rfl, R8, g8⟩
    have L8 := L7.step R8 g8
    have o5 := o5.far g8 (fun q e => by cases e; omega)
    have o6 := o6.far g8 (fun q e => by cases e; omega)
    have hB9 := Nat.le_trans hB8 g8.size
    clear p7 R8 g8 L7 hB8 e7
    have z8 : Calls _ _ _ _ (Went g a l c G _ (sL8 l s x).2 (.int .u64 (sL8 l s x).1)) := L8.R.sized
    have zl8 : 0 ≤ (sL8 l s x).1 ∧ (sL8 l s x).1 < 18446744073709551616 := sized_lt l (sL7 l s x) hbs
    go_wp2_with fail
    refine z8.mono ?_
    rintro e W9 ⟨rfl, R9, g9⟩
    have L9 := L8.step R9 g9
    have o5 := o5.far g9 (fun q e => by cases e; omega)
    have o6 := o6.far g9 (fun q e => by cases e; omega)
    have hBa := Nat.le_trans hB9 g9.size
    clear z8 R9 g9 L8 hB9
    have m9 : Calls _ _ _ _ (Went g a l c G W9 (sL9 l s x) (.tuple #[])) := L9.R.must (decide (widF x ≤ (sL8 l s x).1)) 54
    have c4 := L9.bp.cell 4 (.int .i64 (widF x)) rfl
    go_wp2_with fail
    refine m9.mono ?_
    rintro e Wa ⟨rfl, Ra, ga⟩
    have La := L9.step Ra ga
    have o5 := o5.far ga (fun q e => by cases e; omega)
    have o6 := o6.far ga (fun q e => by cases e; omega)
    have hBb := Nat.le_trans hBa ga.size
    clear m9 Ra ga L9 hBa c4
    have na : Calls _ _ _ _ (Went g a l c G Wa (sLa l G s x).2 (.int .i64 (sLa l G s x).1)) := La.R.number hG (spcF x).1 (widF x) (unhide h3) hwi
    have c4 := La.bp.cell 4 (.int .i64 (widF x)) rfl
    go_wp2_with fail
    refine na.mono ?_
    rintro e Wb ⟨rfl, Rb, gb⟩
    have Lb := La.step Rb gb
    have o5 := o5.far gb (fun q e => by cases e; omega)
    have o6 := o6.far gb (fun q e => by cases e; omega)
    have hBc := Nat.le_trans hBb gb.size
    clear na Rb gb La hBb c4
    have c3 := Lb.bp.cell 3 (.int .i64 0) rfl
    have c4 := Lb.bp.cell 4 (.int .i64 (widF x)) rfl
    have th := Lb.bp.thaws
    have Lc : LR w (Wb.setCell ⟨W4'.heap.size, 3, none⟩ (.int .i64 (sLa l G s x).1)) g a l c G (sLa l G s x).2 w.heap.size W4'.heap.size (pcs (spcF x).1 (.slice a5 n5 c5) (.slice a6 n6 c6) (sLa l G s x).1 (widF x) nilV) := Lb.set 3 _
    have c4' := Lc.bp.cell 4 (.int .i64 (widF x)) rfl
    have o5 := o5.far (grown_at (World.grownBy.refl Wb (some W4'.heap.size)) 3 (.int .i64 (sLa l G s x).1)) (fun q e => by cases e; omega)
    have o6 := o6.far (grown_at (World.grownBy.refl Wb (some W4'.heap.size)) 3 (.int .i64 (sLa l G s x).1)) (fun q e => by cases e; omega)
    have hBd : W4'.heap.size + 1 ≤ (Wb.setCell ⟨W4'.heap.size, 3, none⟩ (.int .i64 (sLa l G s x).1)).heap.size := by show _ ≤ (Wb.heap.modify _ _).size; rw [Array.size_modify]; exact hBc
    have bd : Calls _ _ _ _ (WentB g a l c G _ (sLb l G s x)) := Lc.R.bytes hb (IntKind.u64.wrap ((sL8 l s x).1 - widF x)) (by rw [IntKind.wrap_u64]; omega)
    have HL := hide Lc; have HO5 := hide o5; have HO6 := hide o6
    clear Lb Lc o5 o6 hBc
    go_wp2_with fail
    refine bd.mono ?_
    rintro e Wd ⟨vd, rfl, od, Rd_, gd⟩
    have S3 := hide (show Sep3 _ _ _ from ⟨unhide S56, own_sep (unhide HO5) od (Nat.le_refl _), own_sep (unhide HO6) od (Nat.le_refl _)⟩)
    have Ld := (unhide HL).step Rd_ gd
    have o5 := (unhide HO5).far gd (fun q e => by cases e; omega)
    have o6 := (unhide HO6).far gd (fun q e => by cases e; omega)
    have od := od.mono hBd
    clear bd Rd_ gd HL HO5 HO6 c3 c4 c4' th
    have d5 := Ld.bp.cell 5 nilV rfl
    have thd := Ld.bp.thaws
    have Le : LR w (Wd.setCell ⟨W4'.heap.size, 5, none⟩ vd) g a l c G (sLb l G s x).2 w.heap.size W4'.heap.size (pcs (spcF x).1 (.slice a5 n5 c5) (.slice a6 n6 c6) (sLa l G s x).1 (widF x) vd) := Ld.set 5 _
    have o5 := o5.far (grown_at (World.grownBy.refl Wd (some W4'.heap.size)) 5 vd) (fun q e => by cases e; omega)
    have o6 := o6.far (grown_at (World.grownBy.refl Wd (some W4'.heap.size)) 5 vd) (fun q e => by cases e; omega)
    have od := od.far (grown_at (World.grownBy.refl Wd (some W4'.heap.size)) 5 vd) (fun q e => by cases e; omega)
    have FIN := finS (p := (longR l G s x).1) Le (Nat.lt_succ_self _) o5 o6 od (unhide S3)
    have HF := hide FIN
    have k0 := Le.bp.cell 0 _ rfl
    have k1 := Le.bp.cell 1 _ rfl
    have k2 := Le.bp.cell 2 _ rfl
    have k3 := Le.bp.cell 3 _ rfl
    have k4 := Le.bp.cell 4 _ rfl
    have k5 := Le.bp.cell 5 _ rfl
    have q0 := Le.b4.cell 0 _ rfl
    have q1 := Le.b4.cell 1 _ rfl
    have q2 := Le.b4.cell 2 _ rfl
    have q3 := Le.b4.cell 3 _ rfl
    have q4 := Le.b4.cell 4 _ rfl
    have q5 := Le.b4.cell 5 _ rfl
    have thp := Le.bp.thaws
    have th4 := Le.b4.thaws
    obtain ⟨ad, cd, rfl⟩ := od.shape
    clear FIN Le Ld o5 o6 od
    go_wp2_with fail
    refine bodyPost_ret (results_cell_row rfl _ _ w.heap.size 30 _ (0, 0) _ rfl (unhide HF).1 Try.underlying30 rfl Try.sizeP) rfl ?_
    exact (unhide HF).2
  · have hspb : ((spcF x).1 == 0) = false := by rw [hsp]; rfl
    have e7 : (sL6 l s x).2 = sL7 l s x := by unfold sL7 sT; rw [if_neg (by rw [hsp]; decide)]
    clear hsp
    have L8 := unhide HL
    rw [e7] at L8
    have o5 := unhide HO5
    have o6 := unhide HO6
    have hB9 := hB7
    clear L7 HL HO5 HO6 hB7 e7
    generalize (sL6 l s x).1.length = n6 at *
    have z8 : Calls _ _ _ _ (Went g a l c G _ (sL8 l s x).2 (.int .u64 (sL8 l s x).1)) := L8.R.sized
    have zl8 : 0 ≤ (sL8 l s x).1 ∧ (sL8 l s x).1 < 18446744073709551616 := sized_lt l (sL7 l s x) hbs
    go_wp2_with fail
    refine z8.mono ?_
    rintro e W9 ⟨rfl, R9, g9⟩
    have L9 := L8.step R9 g9
    have o5 := o5.far g9 (fun q e => by cases e; omega)
    have o6 := o6.far g9 (fun q e => by cases e; omega)
    have hBa := Nat.le_trans hB9 g9.size
    clear z8 R9 g9 L8 hB9
    have m9 : Calls _ _ _ _ (Went g a l c G W9 (sL9 l s x) (.tuple #[])) := L9.R.must (decide (widF x ≤ (sL8 l s x).1)) 54
    have c4 := L9.bp.cell 4 (.int .i64 (widF x)) rfl
    go_wp2_with fail
    refine m9.mono ?_
    rintro e Wa ⟨rfl, Ra, ga⟩
    have La := L9.step Ra ga
    have o5 := o5.far ga (fun q e => by cases e; omega)
    have o6 := o6.far ga (fun q e => by cases e; omega)
    have hBb := Nat.le_trans hBa ga.size
    clear m9 Ra ga L9 hBa c4
    have na : Calls _ _ _ _ (Went g a l c G Wa (sLa l G s x).2 (.int .i64 (sLa l G s x).1)) := La.R.number hG (spcF x).1 (widF x) (unhide h3) hwi
    have c4 := La.bp.cell 4 (.int .i64 (widF x)) rfl
    go_wp2_with fail
    refine na.mono ?_
    rintro e Wb ⟨rfl, Rb, gb⟩
    have Lb := La.step Rb gb
    have o5 := o5.far gb (fun q e => by cases e; omega)
    have o6 := o6.far gb (fun q e => by cases e; omega)
    have hBc := Nat.le_trans hBb gb.size
    clear na Rb gb La hBb c4
    have c3 := Lb.bp.cell 3 (.int .i64 0) rfl
    have c4 := Lb.bp.cell 4 (.int .i64 (widF x)) rfl
    have th := Lb.bp.thaws
    have Lc : LR w (Wb.setCell ⟨W4'.heap.size, 3, none⟩ (.int .i64 (sLa l G s x).1)) g a l c G (sLa l G s x).2 w.heap.size W4'.heap.size (pcs (spcF x).1 (.slice a5 n5 c5) (.slice a6 n6 c6) (sLa l G s x).1 (widF x) nilV) := Lb.set 3 _
    have c4' := Lc.bp.cell 4 (.int .i64 (widF x)) rfl
    have o5 := o5.far (grown_at (World.grownBy.refl Wb (some W4'.heap.size)) 3 (.int .i64 (sLa l G s x).1)) (fun q e => by cases e; omega)
    have o6 := o6.far (grown_at (World.grownBy.refl Wb (some W4'.heap.size)) 3 (.int .i64 (sLa l G s x).1)) (fun q e => by cases e; omega)
    have hBd : W4'.heap.size + 1 ≤ (Wb.setCell ⟨W4'.heap.size, 3, none⟩ (.int .i64 (sLa l G s x).1)).heap.size := by show _ ≤ (Wb.heap.modify _ _).size; rw [Array.size_modify]; exact hBc
    have bd : Calls _ _ _ _ (WentB g a l c G _ (sLb l G s x)) := Lc.R.bytes hb (IntKind.u64.wrap ((sL8 l s x).1 - widF x)) (by rw [IntKind.wrap_u64]; omega)
    have HL := hide Lc; have HO5 := hide o5; have HO6 := hide o6
    clear Lb Lc o5 o6 hBc
    go_wp2_with fail
    refine bd.mono ?_
    rintro e Wd ⟨vd, rfl, od, Rd_, gd⟩
    have S3 := hide (show Sep3 _ _ _ from ⟨unhide S56, own_sep (unhide HO5) od (Nat.le_refl _), own_sep (unhide HO6) od (Nat.le_refl _)⟩)
    have Ld := (unhide HL).step Rd_ gd
    have o5 := (unhide HO5).far gd (fun q e => by cases e; omega)
    have o6 := (unhide HO6).far gd (fun q e => by cases e; omega)
    have od := od.mono hBd
    clear bd Rd_ gd HL HO5 HO6 c3 c4 c4' th
    have d5 := Ld.bp.cell 5 nilV rfl
    have thd := Ld.bp.thaws
    have Le : LR w (Wd.setCell ⟨W4'.heap.size, 5, none⟩ vd) g a l c G (sLb l G s x).2 w.heap.size W4'.heap.size (pcs (spcF x).1 (.slice a5 n5 c5) (.slice a6 n6 c6) (sLa l G s x).1 (widF x) vd) := Ld.set 5 _
    have o5 := o5.far (grown_at (World.grownBy.refl Wd (some W4'.heap.size)) 5 vd) (fun q e => by cases e; omega)
    have o6 := o6.far (grown_at (World.grownBy.refl Wd (some W4'.heap.size)) 5 vd) (fun q e => by cases e; omega)
    have od := od.far (grown_at (World.grownBy.refl Wd (some W4'.heap.size)) 5 vd) (fun q e => by cases e; omega)
    have FIN := finS (p := (longR l G s x).1) Le (Nat.lt_succ_self _) o5 o6 od (unhide S3)
    have HF := hide FIN
    have k0 := Le.bp.cell 0 _ rfl
    have k1 := Le.bp.cell 1 _ rfl
    have k2 := Le.bp.cell 2 _ rfl
    have k3 := Le.bp.cell 3 _ rfl
    have k4 := Le.bp.cell 4 _ rfl
    have k5 := Le.bp.cell 5 _ rfl
    have q0 := Le.b4.cell 0 _ rfl
    have q1 := Le.b4.cell 1 _ rfl
    have q2 := Le.b4.cell 2 _ rfl
    have q3 := Le.b4.cell 3 _ rfl
    have q4 := Le.b4.cell 4 _ rfl
    have q5 := Le.b4.cell 5 _ rfl
    have thp := Le.bp.thaws
    have th4 := Le.b4.thaws
    obtain ⟨ad, cd, rfl⟩ := od.shape
    clear FIN Le Ld o5 o6 od
    go_wp2_with fail
    refine bodyPost_ret (results_cell_row rfl _ _ w.heap.size 30 _ (0, 0) _ rfl (unhide HF).1 Try.underlying30 rfl Try.sizeP) rfl ?_
    exact (unhide HF).2

end Go.Proofs.Ytnglgedcpmbbjaa.Sp

namespace Go.Proofs.Ytnglgedcpmbbjaa.Sp
open Go.RowKit Go.Proofs.Ytnglgedcpmbbjaa
set_option linter.unusedVariables false
set_option maxRecDepth 100000
set_option maxHeartbeats 1000000

theorem shortS {w : World} {g : Nat} {a : Option Addr} {l : List Int} {c : Nat} {G : Lg} {s : St} (h : Rdk w g a l c G s) (hG : okG G) (hb : l.length ≤ 140737488355328) (x : Int) (hx : IsB x) (n : Int) (hn : 0 ≤ n ∧ n ≤ 20) :
    Calls Try.prog 29 #[.pointer (some ⟨g, 0, none⟩), .int .u8 x, .int .i64 n] w (WentP g a l c G w (shortR l G s x n)) := by
  have hbl := bitS_eq x hx
  have hwd := fun W => widthOf_any x hx W
  have hwi := widF_in x
  have hnu : IntKind.u64.wrap n = n := by rw [IntKind.wrap_u64]; omega
  have R0 := fun o => h.grown (World.grownBy_alloc w o none)
  have m0 := fun o => (R0 o).must (bitS x) 51
  go_enter Try.func29, Try.ntmps29
  go_wp2_with fail
  refine (m0 _).mono ?_
  rintro e W1 ⟨rfl, R1, g1⟩
  have R1' : Rdk W1 g a l c G (sS1 s x) := R1
  go_wp2_with fail
  refine (hwd _).mono ?_
  rintro e W4' ⟨rfl, hw4⟩
  subst hw4
  have gA := (World.grownBy_alloc w (.cells (pcs 0 nilV nilV 0 0 nilV) 30) (some g)).trans g1
  have hlt : w.heap.size < W4'.heap.size := by
    have := g1.size
    have e : (w.alloc (.cells (pcs 0 nilV nilV 0 0 nilV) 30)).heap.size = w.heap.size + 1 := by show (w.heap.push _).size = _; simp
    rw [e] at this; omega
  have hg0 : g < w.heap.size := h.blk.lt
  have L0 : LR w (W4'.alloc (.cells (pcs 2 nilV nilV 0 (widF x) nilV) 30)) g a l c G (sS1 s x) w.heap.size W4'.heap.size (pcs 2 nilV nilV 0 (widF x) nilV) :=
    ⟨R1'.grown (World.grownBy_alloc _ _ none), gA.trans (World.grownBy_alloc _ _ (some g)), ((Blk.new w _ _).far g1 (by omega)).alloc _, Blk.new _ _ _, hg0, Nat.le_refl _, hlt, fun y e hc => (h.ne y e hc).2⟩
  have hsz : (W4'.alloc (.cells (pcs 2 nilV nilV 0 (widF x) nilV) 30)).heap.size = W4'.heap.size + 1 := by show (W4'.heap.push _).size = _; simp
  clear m0 R0 R1 R1' g1 gA h hwd hbl
  have i5 : Calls _ _ _ _ (WentB g a l c G _ (sS2 l s x n)) := L0.R.bytes hb n (by omega)
  go_wp2_with fail
  refine i5.mono ?_
  rintro e W5 ⟨v5, rfl, o5, R5, g5⟩
  have hB5 : W4'.heap.size + 1 ≤ W5.heap.size := by rw [← hsz]; exact g5.size
  rw [hsz] at o5
  have L5 := L0.step R5 g5
  clear i5 R5 g5 L0
  have c1 := L5.bp.cell 1 nilV rfl
  have c0 := L5.bp.cell 0 (.int .i64 2) rfl
  have c4 := L5.bp.cell 4 (.int .i64 (widF x)) rfl
  have th := L5.bp.thaws
  have L6 : LR w (W5.setCell ⟨W4'.heap.size, 1, none⟩ v5) g a l c G (sS2 l s x n).2 w.heap.size W4'.heap.size (pcs 2 v5 nilV 0 (widF x) nilV) := L5.set 1 v5
  have o6 := o5.far (grown_at (World.grownBy.refl W5 (some W4'.heap.size)) 1 v5) (fun q e => by cases e; omega)
  have hB6 : W4'.heap.size + 1 ≤ (W5.setCell ⟨W4'.heap.size, 1, none⟩ v5).heap.size := by show _ ≤ (W5.heap.modify _ _).size; rw [Array.size_modify]; exact hB5
  have na : Calls _ _ _ _ (Went g a l c G _ (sS3 l G s x n).2 (.int .i64 (sS3 l G s x n).1)) := L6.R.number hG 2 (widF x) (by simp) hwi
  have HL := hide L6; have HO := hide o6
  obtain ⟨a5, c5, rfl⟩ := o5.shape
  clear L5 L6 o5 o6
  generalize (sS2 l s x n).1.length = n5 at *
  go_wp2_with fail
  refine na.mono ?_
  rintro e Wb ⟨rfl, Rb, gb⟩
  have Lb := (unhide HL).step Rb gb
  have o5 := (unhide HO).far gb (fun q e => by cases e; omega)
  have hBc := Nat.le_trans hB6 gb.size
  clear na Rb gb HL HO hB5 hB6 c0 c1 c4 th
  have c3 := Lb.bp.cell 3 (.int .i64 0) rfl
  have th := Lb.bp.thaws
  have Lc : LR w (Wb.setCell ⟨W4'.heap.size, 3, none⟩ (.int .i64 (sS3 l G s x n).1)) g a l c G (sS3 l G s x n).2 w.heap.size W4'.heap.size (pcs 2 (.slice a5 n5 c5) nilV (sS3 l G s x n).1 (widF x) nilV) := Lb.set 3 _
  have o5 := o5.far (grown_at (World.grownBy.refl Wb (some W4'.heap.size)) 3 (.int .i64 (sS3 l G s x n).1)) (fun q e => by cases e; omega)
  have hBd : W4'.heap.size + 1 ≤ (Wb.setCell ⟨W4'.heap.size, 3, none⟩ (.int .i64 (sS3 l G s x n).1)).heap.size := by show _ ≤ (Wb.heap.modify _ _).size; rw [Array.size_modify]; exact hBc
  have lf := Lc.R.left
  have bd := fun q => (Lc.R.drewN q).bytes hb ((l.length : Int) - (sS3 l G s x n).2.1) (by have := Lc.R.at_; omega)
  have HL := hide Lc; have HO := hide o5
  clear Lb Lc o5 hBc
  go_wp2_with fail
  refine lf.mono ?_
  rintro e Wq ⟨rfl, q, rfl⟩
  have bd := bd q
  go_wp2_with fail
  refine bd.mono ?_
  rintro e Wd ⟨vd, rfl, od, Rd_, gd⟩
  have S3 := hide (show Sep3 _ nilV _ from ⟨sep_nil_r _, own_sep (unhide HO) od (Nat.le_refl _), sep_nil _⟩)
  have gq := (grown_drewS (World.grownBy.refl (Wb.setCell ⟨W4'.heap.size, 3, none⟩ (.int .i64 (sS3 l G s x n).1)) (some g)) q).trans gd
  have Rd' : Rdk Wd g a l c G (sS4 l G s x n).2 := Rd_
  have od : OwnB (W4'.heap.size + 1) Wd vd (sS4 l G s x n).1 := od.mono hBd
  have Ld := (unhide HL).step Rd' gq
  have o5 := (unhide HO).far gq (fun q e => by cases e; omega)
  clear bd lf Rd_ Rd' gd gq HL HO c3 th
  have d5 := Ld.bp.cell 5 nilV rfl
  have thd := Ld.bp.thaws
  have Le : LR w (Wd.setCell ⟨W4'.heap.size, 5, none⟩ vd) g a l c G (sS4 l G s x n).2 w.heap.size W4'.heap.size (pcs 2 (.slice a5 n5 c5) nilV (sS3 l G s x n).1 (widF x) vd) := Ld.set 5 _
  have o5 := o5.far (grown_at (World.grownBy.refl Wd (some W4'.heap.size)) 5 vd) (fun q e => by cases e; omega)
  have od := od.far (grown_at (World.grownBy.refl Wd (some W4'.heap.size)) 5 vd) (fun q e => by cases e; omega)
  have oN : OwnB (W4'.heap.size + 1) (Wd.setCell ⟨W4'.heap.size, 5, none⟩ vd) nilV [] := World.ownsRow_nil _ _ _ _
  have FIN := finS (p := (shortR l G s x n).1) Le (Nat.lt_succ_self _) o5 oN od (unhide S3)
  have HF := hide FIN
  have k0 := Le.bp.cell 0 _ rfl
  have k1 := Le.bp.cell 1 _ rfl
  have k2 := Le.bp.cell 2 _ rfl
  have k3 := Le.bp.cell 3 _ rfl
  have k4 := Le.bp.cell 4 _ rfl
  have k5 := Le.bp.cell 5 _ rfl
  have q0 := Le.b4.cell 0 _ rfl
  have q1 := Le.b4.cell 1 _ rfl
  have q2 := Le.b4.cell 2 _ rfl
  have q3 := Le.b4.cell 3 _ rfl
  have q4 := Le.b4.cell 4 _ rfl
  have q5 := Le.b4.cell 5 _ rfl
  have thp := Le.bp.thaws
  have th4 := Le.b4.thaws
  obtain ⟨ad, cd, rfl⟩ := od.shape
  clear FIN Le Ld o5 oN od
  go_wp2_with fail
  refine bodyPost_ret (results_cell_row rfl _ _ w.heap.size 30 _ (0, 0) _ rfl (unhide HF).1 Try.underlying30 rfl Try.sizeP) rfl ?_
  exact (unhide HF).2

theorem WentP.shape {g : Nat} {a : Option Addr} {l : List Int} {c : Nat} {G : Lg} {w : World} {r : Pk × St} {e : Ending} {w' : World} (h : WentP g a l c G w r e w') :
    ∃ a1 n1 c1 a2 n2 c2 a3 n3 c3, e = .returned (r.1.val (.slice a1 n1 c1) (.slice a2 n2 c2) (.slice a3 n3 c3)) ∧ OwnB w.heap.size w' (.slice a1 n1 c1) r.1.dst ∧ OwnB w.heap.size w' (.slice a2 n2 c2) r.1.src ∧ (OwnB w.heap.size w' (.slice a3 n3 c3) r.1.payload ∧ Sep3 (.slice a1 n1 c1) (.slice a2 n2 c2) (.slice a3 n3 c3)) ∧ Rdk w' g a l c G r.2 ∧ w.grownBy w' (some g) := by
  obtain ⟨d, s, y, rfl, o1, o2, o3, R, gr⟩ := h
  obtain ⟨a1, c1, rfl⟩ := o1.shape
  obtain ⟨a2, c2, rfl⟩ := o2.shape
  obtain ⟨a3, c3, rfl⟩ := o3.1.shape
  exact ⟨_, _, _, _, _, _, _, _, _, rfl, o1, o2, o3, R, gr⟩

theorem packetS {w : World} {g : Nat} {a : Option Addr} {l : List Int} {c : Nat} {G : Lg} {k : Nat} (h : Rdk w g a l c G (k, 0)) (hG : okG G) (hb : l.length ≤ 140737488355328) (n : Int) (hn : 0 ≤ n ∧ n ≤ 20) :
    Calls Try.prog 18 #[.pointer (some ⟨g, 0, none⟩), .int .i64 n] w (WentP g a l c G w (packR l G k n)) := by
  have hx := rPlain_1 l (k, 0) h.rd.1
  have R0 := h.grown (World.grownBy_alloc w (.cells (pcs 0 nilV nilV 0 0 nilV) 30) none)
  have p0 := R0.plain 1
  have hg0 : g < w.heap.size := h.blk.lt
  have hax := fun y e hc => (h.ne y e hc).2
  unfold packR
  generalize rPlain l (k, 0) 1 = r at *
  obtain ⟨x, s⟩ := r
  simp only at hx p0 ⊢
  have hxw : IntKind.u8.wrap x = x := by rw [IntKind.wrap_u8]; omega
  have hb128 := and_128 x hx
  clear R0 h
  by_cases hl : 128 ≤ x
  · rw [if_pos hl]
    have hc : (bits .and .u8 x 128 != 0) = true := by rw [hb128, show x / 128 = 1 by omega]; rfl
    clear hb128
    go_enter Try.func18, Try.ntmps18
    go_wp2_with fail
    refine p0.mono ?_
    rintro e W1 ⟨rfl, R1, g1⟩
    have lg := longS R1 hG hb x hx
    have bA := (Blk.new w (pcs 0 nilV nilV 0 0 nilV) 30).far g1 (by omega)
    have gA := (World.grownBy_alloc w (.cells (pcs 0 nilV nilV 0 0 nilV) 30) (some g)).trans g1
    have hsz : w.heap.size + 1 ≤ W1.heap.size := by
      have := g1.size
      have e : (w.alloc (.cells (pcs 0 nilV nilV 0 0 nilV) 30)).heap.size = w.heap.size + 1 := by show (w.heap.push _).size = _; simp
      rw [e] at this; omega
    generalize longR l G s x = P at *
    obtain ⟨P, S⟩ := P
    clear p0 R1 g1
    go_wp2_with fail
    refine lg.mono ?_
    intro e W2 hh
    obtain ⟨a1, n1, c1, a2, n2, c2, a3, n3, c3, rfl, o1, o2, o3, R2, g2⟩ := hh.shape
    clear hh lg
    have b2 := bA.far g2 (by omega)
    have gB := gA.trans g2
    have gg : W2.grownBy ((((((W2.setCell ⟨w.heap.size, 0, none⟩ (.int .i64 P.space)).setCell ⟨w.heap.size, 1, none⟩ (.slice a1 n1 c1)).setCell ⟨w.heap.size, 2, none⟩ (.slice a2 n2 c2)).setCell ⟨w.heap.size, 3, none⟩ (.int .i64 P.number)).setCell ⟨w.heap.size, 4, none⟩ (.int .i64 P.width)).setCell ⟨w.heap.size, 5, none⟩ (.slice a3 n3 c3)) (some w.heap.size) :=
      grown_at (grown_at (grown_at (grown_at (grown_at (grown_at (World.grownBy.refl W2 (some w.heap.size)) 0 _) 1 _) 2 _) 3 _) 4 _) 5 _
    have hn' : w.heap.size ≠ g := by omega
    have hx' : ∀ y, a = some y → 0 < c → y.block ≠ w.heap.size := fun y e hc => Nat.ne_of_lt (hax y e hc)
    have ho : ∀ q, some w.heap.size = some q → q < W1.heap.size := fun q e => by cases e; omega
    have F : Hid (Blk ((((((W2.setCell ⟨w.heap.size, 0, none⟩ (.int .i64 P.space)).setCell ⟨w.heap.size, 1, none⟩ (.slice a1 n1 c1)).setCell ⟨w.heap.size, 2, none⟩ (.slice a2 n2 c2)).setCell ⟨w.heap.size, 3, none⟩ (.int .i64 P.number)).setCell ⟨w.heap.size, 4, none⟩ (.int .i64 P.width)).setCell ⟨w.heap.size, 5, none⟩ (.slice a3 n3 c3)) w.heap.size (P.cs (.slice a1 n1 c1) (.slice a2 n2 c2) (.slice a3 n3 c3)) 30 ∧ WentP g a l c G w (P, S) (.returned (P.val (.slice a1 n1 c1) (.slice a2 n2 c2) (.slice a3 n3 c3))) ((((((W2.setCell ⟨w.heap.size, 0, none⟩ (.int .i64 P.space)).setCell ⟨w.heap.size, 1, none⟩ (.slice a1 n1 c1)).setCell ⟨w.heap.size, 2, none⟩ (.slice a2 n2 c2)).setCell ⟨w.heap.size, 3, none⟩ (.int .i64 P.number)).setCell ⟨w.heap.size, 4, none⟩ (.int .i64 P.width)).setCell ⟨w.heap.size, 5, none⟩ (.slice a3 n3 c3))) :=
      ⟨b2.set6, _, _, _, rfl, (o1.far gg ho).mono (by omega), (o2.far gg ho).mono (by omega), ⟨(o3.1.far gg ho).mono (by omega), o3.2⟩,
        (((((R2.setO _ 0 _ hn' hx').setO _ 1 _ hn' hx').setO _ 2 _ hn' hx').setO _ 3 _ hn' hx').setO _ 4 _ hn' hx').setO _ 5 _ hn' hx',
        grown_setS (grown_setS (grown_setS (grown_setS (grown_setS (grown_setS gB _ 0 _ (Nat.le_refl _)) _ 1 _ (Nat.le_refl _)) _ 2 _ (Nat.le_refl _)) _ 3 _ (Nat.le_refl _)) _ 4 _ (Nat.le_refl _)) _ 5 _ (Nat.le_refl _)⟩
    have q0 := b2.cell 0 _ rfl
    have q1 := b2.cell 1 _ rfl
    have q2 := b2.cell 2 _ rfl
    have q3 := b2.cell 3 _ rfl
    have q4 := b2.cell 4 _ rfl
    have q5 := b2.cell 5 _ rfl
    have th4 := b2.thaws
    clear b2 gB gg o1 o2 o3 R2 g2 bA gA ho hx' hn'
    go_wp2_with fail
    refine bodyPost_ret (results_cell_row rfl _ _ w.heap.size 30 _ (0, 0) _ rfl (unhide F).1 Try.underlying30 rfl Try.sizeP) rfl ?_
    exact (unhide F).2
  · rw [if_neg hl]
    have hc : (bits .and .u8 x 128 != 0) = false := by rw [hb128, show x / 128 = 0 by omega]; rfl
    clear hb128
    go_enter Try.func18, Try.ntmps18
    go_wp2_with fail
    refine p0.mono ?_
    rintro e W1 ⟨rfl, R1, g1⟩
    have lg := shortS R1 hG hb x hx n hn
    have bA := (Blk.new w (pcs 0 nilV nilV 0 0 nilV) 30).far g1 (by omega)
    have gA := (World.grownBy_alloc w (.cells (pcs 0 nilV nilV 0 0 nilV) 30) (some g)).trans g1
    have hsz : w.heap.size + 1 ≤ W1.heap.size := by
      have := g1.size
      have e : (w.alloc (.cells (pcs 0 nilV nilV 0 0 nilV) 30)).heap.size = w.heap.size + 1 := by show (w.heap.push _).size = _; simp
      rw [e] at this; omega
    generalize shortR l G s x n = P at *
    obtain ⟨P, S⟩ := P
    clear p0 R1 g1
    go_wp2_with fail
    refine lg.mono ?_
    intro e W2 hh
    obtain ⟨a1, n1, c1, a2, n2, c2, a3, n3, c3, rfl, o1, o2, o3, R2, g2⟩ := hh.shape
    clear hh lg
    have b2 := bA.far g2 (by omega)
    have gB := gA.trans g2
    have gg : W2.grownBy ((((((W2.setCell ⟨w.heap.size, 0, none⟩ (.int .i64 P.space)).setCell ⟨w.heap.size, 1, none⟩ (.slice a1 n1 c1)).setCell ⟨w.heap.size, 2, none⟩ (.slice a2 n2 c2)).setCell ⟨w.heap.size, 3, none⟩ (.int .i64 P.number)).setCell ⟨w.heap.size, 4, none⟩ (.int .i64 P.width)).setCell ⟨w.heap.size, 5, none⟩ (.slice a3 n3 c3)) (some w.heap.size) :=
      grown_at (grown_at (grown_at (grown_at (grown_at (grown_at (World.grownBy.refl W2 (some w.heap.size)) 0 _) 1 _) 2 _) 3 _) 4 _) 5 _
    have hn' : w.heap.size ≠ g := by omega
    have hx' : ∀ y, a = some y → 0 < c → y.block ≠ w.heap.size := fun y e hc => Nat.ne_of_lt (hax y e hc)
    have ho : ∀ q, some w.heap.size = some q → q < W1.heap.size := fun q e => by cases e; omega
    have F : Hid (Blk ((((((W2.setCell ⟨w.heap.size, 0, none⟩ (.int .i64 P.space)).setCell ⟨w.heap.size, 1, none⟩ (.slice a1 n1 c1)).setCell ⟨w.heap.size, 2, none⟩ (.slice a2 n2 c2)).setCell ⟨w.heap.size, 3, none⟩ (.int .i64 P.number)).setCell ⟨w.heap.size, 4, none⟩ (.int .i64 P.width)).setCell ⟨w.heap.size, 5, none⟩ (.slice a3 n3 c3)) w.heap.size (P.cs (.slice a1 n1 c1) (.slice a2 n2 c2) (.slice a3 n3 c3)) 30 ∧ WentP g a l c G w (P, S) (.returned (P.val (.slice a1 n1 c1) (.slice a2 n2 c2) (.slice a3 n3 c3))) ((((((W2.setCell ⟨w.heap.size, 0, none⟩ (.int .i64 P.space)).setCell ⟨w.heap.size, 1, none⟩ (.slice a1 n1 c1)).setCell ⟨w.heap.size, 2, none⟩ (.slice a2 n2 c2)).setCell ⟨w.heap.size, 3, none⟩ (.int .i64 P.number)).setCell ⟨w.heap.size, 4, none⟩ (.int .i64 P.width)).setCell ⟨w.heap.size, 5, none⟩ (.slice a3 n3 c3))) :=
      ⟨b2.set6, _, _, _, rfl, (o1.far gg ho).mono (by omega), (o2.far gg ho).mono (by omega), ⟨(o3.1.far gg ho).mono (by omega), o3.2⟩,
        (((((R2.setO _ 0 _ hn' hx').setO _ 1 _ hn' hx').setO _ 2 _ hn' hx').setO _ 3 _ hn' hx').setO _ 4 _ hn' hx').setO _ 5 _ hn' hx',
        grown_setS (grown_setS (grown_setS (grown_setS (grown_setS (grown_setS gB _ 0 _ (Nat.le_refl _)) _ 1 _ (Nat.le_refl _)) _ 2 _ (Nat.le_refl _)) _ 3 _ (Nat.le_refl _)) _ 4 _ (Nat.le_refl _)) _ 5 _ (Nat.le_refl _)⟩
    have q0 := b2.cell 0 _ rfl
    have q1 := b2.cell 1 _ rfl
    have q2 := b2.cell 2 _ rfl
    have q3 := b2.cell 3 _ rfl
    have q4 := b2.cell 4 _ rfl
    have q5 := b2.cell 5 _ rfl
    have th4 := b2.thaws
    clear b2 gB gg o1 o2 o3 R2 g2 bA gA ho hx' hn'
    go_wp2_with fail
    refine bodyPost_ret (results_cell_row rfl _ _ w.heap.size 30 _ (0, 0) _ rfl (unhide F).1 Try.underlying30 rfl Try.sizeP) rfl ?_
    exact (unhide F).2


end Go.Proofs.Ytnglgedcpmbbjaa.Sp

namespace Go.Proofs.Ytnglgedcpmbbjaa.Sp
open Go.RowKit Go.Proofs.Ytnglgedcpmbbjaa
set_option linter.unusedVariables false
set_option maxRecDepth 100000
set_option maxHeartbeats 1000000

/-- What Decode leaves. -/
def DecPost (w : World) (r : Pk × Int × Int) (e : Ending) (w' : World) : Prop :=
  ∃ d s y, e = .returned (.tuple #[r.1.val d s y, .int .i64 r.2.1, .int .i64 r.2.2]) ∧ OwnB w.heap.size w' d r.1.dst ∧ OwnB w.heap.size w' s r.1.src ∧ (OwnB w.heap.size w' y r.1.payload ∧ Sep3 d s y) ∧ w.grownBy w' none

theorem DecPost.no {w W : World} (y : Int) (g : w.grownBy W none) : DecPost w (noP, 0, y) (.returned (.tuple #[noP.val nilV nilV nilV, .int .i64 0, .int .i64 y])) W :=
  ⟨nilV, nilV, nilV, rfl, World.ownsRow_nil _ _ _ _, World.ownsRow_nil _ _ _ _, ⟨World.ownsRow_nil _ _ _ _, sep_nil _, sep_nil _, sep_nil _⟩, g⟩

theorem DecPost.drew {w W : World} {r : Pk × Int × Int} {e : Ending} (h : DecPost w r e W) : DecPost w r e W.drew := by
  obtain ⟨d, s, y, he, o1, o2, o3, g⟩ := h
  exact ⟨d, s, y, he, o1, o2, o3, grown_drew' g⟩

theorem decode_any (a : Option Addr) (l : List Int) (c : Nat) (i n : Int) (G : Lg) (w : World) (hr : Rd w a l) (hc : l.length ≤ c) (hc2 : c ≤ maxLen) (hb : l.length ≤ 140737488355328)
    (hne : ∀ x, a = some x → 0 < c → x.block < w.heap.size) (hpl : ∀ x, a = some x → 0 < c → ∃ b o, x = ⟨b, o, none⟩) :
    Calls Try.prog 9 #[.slice a l.length c, .int .i64 i, .int .i64 n, G.v] w (DecPost w (decP l i n G)) := by
  have mb := fun W => mayBe_any n G W
  have hmax : l.length ≤ 9223372036854775807 := by unfold maxLen at hc2; omega
  have bB := Blk.two w #[.int .i64 G.1, .int .i64 G.2.1, .int .i64 G.2.2] (pcs 0 nilV nilV 0 0 nilV) 23 30
  by_cases h1 : i < 0
  · have e : decP l i n G = (noP, 0, 1) := by unfold decP; rw [if_pos (.inl h1)]
    rw [e]
    go_enter Try.func9, Try.ntmps9
    go_wp2_with fail
    refine bodyPost_ret (results_ctu rfl _ _ (w.heap.size + 1) _ _ rfl bB.2.1 Try.underlying30 rfl Try.sizeP) rfl ?_
    exact DecPost.no 1 bB.2.2
  by_cases h2 : (l.length : Int) < i
  · have e : decP l i n G = (noP, 0, 1) := by unfold decP; rw [if_pos (.inr (.inl h2))]
    rw [e]
    go_enter Try.func9, Try.ntmps9
    go_wp2_with fail
    refine bodyPost_ret (results_ctu rfl _ _ (w.heap.size + 1) _ _ rfl bB.2.1 Try.underlying30 rfl Try.sizeP) rfl ?_
    exact DecPost.no 1 bB.2.2
  obtain ⟨k, rfl⟩ := Int.eq_ofNat_of_zero_le (show 0 ≤ i by omega)
  have hk : k ≤ l.length := by omega
  have x0 := bB.1.cell 0 (.int .i64 G.1) rfl
  have x1 := bB.1.cell 1 (.int .i64 G.2.1) rfl
  have x2 := bB.1.cell 2 (.int .i64 G.2.2) rfl
  have H1 := h1
  have hnlt : ¬ (l.length : Int) < (k : Int) := h2
  have hgw := hide bB.2.2
  cases hm : mayF n G with
  | false =>
    have hno : ¬ (okG G ∧ 0 ≤ n ∧ n ≤ 20) := fun h => by unfold mayF at hm; rw [decide_eq_true h] at hm; cases hm
    have e : decP l k n G = (noP, 0, 1) := by unfold decP; rw [if_pos (.inr (.inr hno))]
    rw [e]
    rw [hm] at mb
    have bA := bB.2.1
    go_enter Try.func9, Try.ntmps9
    go_wp2_with fail
    refine (mb _).mono ?_
    rintro e W1 ⟨rfl, g1⟩
    have b1 := bA.grown g1
    have q0 := b1.cell 0 _ rfl
    have q1 := b1.cell 1 _ rfl
    have q2 := b1.cell 2 _ rfl
    have q3 := b1.cell 3 _ rfl
    have q4 := b1.cell 4 _ rfl
    have q5 := b1.cell 5 _ rfl
    have th := b1.thaws
    have F := hide (DecPost.no 1 (grown_set (grown_set (grown_set (grown_set (grown_set (grown_set ((unhide hgw).trans g1) (w.heap.size + 1) 0 (.int .i64 0) (Nat.le_succ _)) (w.heap.size + 1) 1 nilV (Nat.le_succ _)) (w.heap.size + 1) 2 nilV (Nat.le_succ _)) (w.heap.size + 1) 3 (.int .i64 0) (Nat.le_succ _)) (w.heap.size + 1) 4 (.int .i64 0) (Nat.le_succ _)) (w.heap.size + 1) 5 nilV (Nat.le_succ _)))
    have B6 := hide (b1.set6 (v0 := .int .i64 0) (v1 := nilV) (v2 := nilV) (v3 := .int .i64 0) (v4 := .int .i64 0) (v5 := nilV))
    clear b1 g1 bA bB mb
    go_wp2_with fail
    refine bodyPost_ret (results_ctu rfl _ _ (w.heap.size + 1) _ _ rfl (unhide B6) Try.underlying30 rfl Try.sizeP) rfl ?_
    exact unhide F
  | true =>
    have hyes : okG G ∧ 0 ≤ n ∧ n ≤ 20 := by unfold mayF at hm; exact of_decide_eq_true hm
    rw [hm] at mb
    have e : decP l k n G = decR (packR l G k n) := by
      unfold decP; rw [if_neg (fun h => by rcases h with h | h | h; exact h1 h; exact h2 h; exact h hyes)]; rfl
    rw [e]
    clear e hm
    have bA := bB.2.1
    have bG := bB.1
    go_enter Try.func9, Try.ntmps9
    go_wp2_with fail
    refine (mb _).mono ?_
    rintro e W1 ⟨rfl, g1⟩
    have b1 := bA.grown g1
    have bG1 := bG.grown g1
    have y0 := bG1.cell 0 (.int .i64 G.1) rfl
    have y1 := bG1.cell 1 (.int .i64 G.2.1) rfl
    have y2 := bG1.cell 2 (.int .i64 G.2.2) rfl
    have gA := (unhide hgw).trans g1
    have gR := World.grownBy_alloc W1 (.cells (rdp (.slice a l.length c) k 0 G) 53) none
    have R0 : Rdk (W1.alloc (.cells (rdp (.slice a l.length c) k 0 G) 53)) W1.heap.size a l c G (k, 0) := by
      have hs : w.heap.size ≤ W1.heap.size := gA.size
      refine ⟨Blk.new _ _ _, (hr.farC hc (g := W1.heap.size) (grown_any (gA.trans gR) _) (fun x e hp => ⟨by have := hne x e hp; omega, hne x e hp⟩)), hc, hc2, hk, fun x e hp => ⟨by have := hne x e hp; omega, ?_⟩, hpl⟩
      exact Nat.lt_of_lt_of_le (hne x e hp) (gA.trans gR).size
    have pk := packetS R0 hyes.1 hb n hyes.2
    have b2 := b1.alloc (.cells (rdp (.slice a l.length c) k 0 G) 53)
    have hs2 : w.heap.size + 1 < W1.heap.size := b1.lt
    clear mb bA bG bG1 b1 g1 R0 bB x0 x1 x2
    generalize packR l G k n = P at *
    obtain ⟨P, S, Y⟩ := P
    go_wp2_with fail
    refine pk.mono ?_
    intro e W3 hh
    obtain ⟨a1, n1, c1, a2, n2, c2, a3, n3, c3, rfl, o1, o2, o3, R3, g3⟩ := hh.shape
    clear hh pk
    have b3 := b2.far g3 (by omega)
    have gB : w.grownBy W3 none := grown_over (gA.trans gR) g3 (Nat.le_trans (Nat.le_succ _) (Nat.le_of_lt hs2))
    have hs3 : W1.heap.size < W3.heap.size := R3.blk.lt
    have c5 := R3.blk.cell 5 (.int .i64 Y) rfl
    have c1' := R3.blk.cell 1 (.int .i64 S) rfl
    have q0 := b3.cell 0 _ rfl
    have q1 := b3.cell 1 _ rfl
    have q2 := b3.cell 2 _ rfl
    have q3 := b3.cell 3 _ rfl
    have q4 := b3.cell 4 _ rfl
    have q5 := b3.cell 5 _ rfl
    have th := b3.thaws
    have gN := World.grownBy_alloc W3 (.cells (P.cs (.slice a1 n1 c1) (.slice a2 n2 c2) (.slice a3 n3 c3)) 30) none
    have z0 := (R3.blk.alloc (.cells (P.cs (.slice a1 n1 c1) (.slice a2 n2 c2) (.slice a3 n3 c3)) 30))
    have hsB : w.heap.size + 2 ≤ (W1.alloc (.cells (rdp (.slice a l.length c) k 0 G) 53)).heap.size := by show _ ≤ (W1.heap.push _).size; simp; omega
    by_cases hY : Y = 0
    · have hd : (Y == 0) = true := by simpa using hY
      have hd2 : (Y != 0) = false := by simpa using hY
      go_wp2_with fail
      have bN := Blk.new W3 (P.cs (.slice a1 n1 c1) (.slice a2 n2 c2) (.slice a3 n3 c3)) 30
      have b4 := b3.alloc (.cells (P.cs (.slice a1 n1 c1) (.slice a2 n2 c2) (.slice a3 n3 c3)) 30)
      have gC := gB.trans gN
      have p1 := (o1.far gN (fun q e => by cases e)).mono (base' := w.heap.size + 2) hsB
      have p2 := (o2.far gN (fun q e => by cases e)).mono (base' := w.heap.size + 2) hsB
      have p3 := (o3.1.far gN (fun q e => by cases e)).mono (base' := w.heap.size + 2) hsB
      generalize W3.alloc (.cells #[.int .i64 P.space, .slice a1 n1 c1, .slice a2 n2 c2, .int .i64 P.number, .int .i64 P.width, .slice a3 n3 c3] 30) = W4 at *
      have m0 := b4.cell 0 _ rfl
      have m1 := b4.cell 1 _ rfl
      have m2 := b4.cell 2 _ rfl
      have m3 := b4.cell 3 _ rfl
      have m4 := b4.cell 4 _ rfl
      have m5 := b4.cell 5 _ rfl
      have mt := b4.thaws
      have z1 := z0.cell 1 (.int .i64 S) rfl
      have z5 := z0.cell 5 (.int .i64 Y) rfl
      have r0 := bN.cell 0 (.int .i64 P.space) rfl
      have r1 := bN.cell 1 (.slice a1 n1 c1) rfl
      have r2 := bN.cell 2 (.slice a2 n2 c2) rfl
      have r3 := bN.cell 3 (.int .i64 P.number) rfl
      have r4 := bN.cell 4 (.int .i64 P.width) rfl
      have r5 := bN.cell 5 (.slice a3 n3 c3) rfl
      have gg : W4.grownBy ((((((W4.setCell ⟨w.heap.size + 1, 0, none⟩ (.int .i64 P.space)).setCell ⟨w.heap.size + 1, 1, none⟩ (.slice a1 n1 c1)).setCell ⟨w.heap.size + 1, 2, none⟩ (.slice a2 n2 c2)).setCell ⟨w.heap.size + 1, 3, none⟩ (.int .i64 P.number)).setCell ⟨w.heap.size + 1, 4, none⟩ (.int .i64 P.width)).setCell ⟨w.heap.size + 1, 5, none⟩ (.slice a3 n3 c3)) (some (w.heap.size + 1)) :=
        grown_at (grown_at (grown_at (grown_at (grown_at (grown_at (World.grownBy.refl W4 (some (w.heap.size + 1))) 0 _) 1 _) 2 _) 3 _) 4 _) 5 _
      have ho : ∀ q, some (w.heap.size + 1) = some q → q < w.heap.size + 2 := fun q e => by cases e; omega
      have F : Hid (DecPost w (decR (P, S, Y)) (.returned (.tuple #[P.val (.slice a1 n1 c1) (.slice a2 n2 c2) (.slice a3 n3 c3), .int .i64 S, .int .i64 0])) ((((((W4.setCell ⟨w.heap.size + 1, 0, none⟩ (.int .i64 P.space)).setCell ⟨w.heap.size + 1, 1, none⟩ (.slice a1 n1 c1)).setCell ⟨w.heap.size + 1, 2, none⟩ (.slice a2 n2 c2)).setCell ⟨w.heap.size + 1, 3, none⟩ (.int .i64 P.number)).setCell ⟨w.heap.size + 1, 4, none⟩ (.int .i64 P.width)).setCell ⟨w.heap.size + 1, 5, none⟩ (.slice a3 n3 c3))) := by
        unfold decR
        rw [if_pos hY]
        exact ⟨_, _, _, rfl, (p1.far gg ho).mono (by omega), (p2.far gg ho).mono (by omega), ⟨(p3.far gg ho).mono (by omega), o3.2⟩, grown_over gC gg (Nat.le_succ _)⟩
      have B6 := hide (b4.set6 (v0 := .int .i64 P.space) (v1 := .slice a1 n1 c1) (v2 := .slice a2 n2 c2) (v3 := .int .i64 P.number) (v4 := .int .i64 P.width) (v5 := .slice a3 n3 c3))
      clear gg ho p1 p2 p3 gC b4 bN z0 R3 b3 gB gA gR g3 o1 o2 o3 gN q0 q1 q2 q3 q4 q5 th b2 y0 y1 y2 hr hne hpl hgw c5 c1'
      go_region
      go_wp2_with fail
      refine bodyPost_ret (results_ctu rfl _ _ (w.heap.size + 1) _ _ rfl (Blk.drew (unhide B6)) Try.underlying30 rfl Try.sizeP) rfl ?_
      exact DecPost.drew (unhide F)
    · have hd : (Y == 0) = false := by simpa using hY
      have hd2 : (Y != 0) = true := by simpa using hY
      go_wp2_with fail
      have bN := Blk.new W3 (P.cs (.slice a1 n1 c1) (.slice a2 n2 c2) (.slice a3 n3 c3)) 30
      have b4 := b3.alloc (.cells (P.cs (.slice a1 n1 c1) (.slice a2 n2 c2) (.slice a3 n3 c3)) 30)
      have gC := gB.trans gN
      have p1 := (o1.far gN (fun q e => by cases e)).mono (base' := w.heap.size + 2) hsB
      have p2 := (o2.far gN (fun q e => by cases e)).mono (base' := w.heap.size + 2) hsB
      have p3 := (o3.1.far gN (fun q e => by cases e)).mono (base' := w.heap.size + 2) hsB
      generalize W3.alloc (.cells #[.int .i64 P.space, .slice a1 n1 c1, .slice a2 n2 c2, .int .i64 P.number, .int .i64 P.width, .slice a3 n3 c3] 30) = W4 at *
      have m0 := b4.cell 0 _ rfl
      have m1 := b4.cell 1 _ rfl
      have m2 := b4.cell 2 _ rfl
      have m3 := b4.cell 3 _ rfl
      have m4 := b4.cell 4 _ rfl
      have m5 := b4.cell 5 _ rfl
      have mt := b4.thaws
      have z1 := z0.cell 1 (.int .i64 S) rfl
      have z5 := z0.cell 5 (.int .i64 Y) rfl
      have gg : W4.grownBy ((((((W4.setCell ⟨w.heap.size + 1, 0, none⟩ (.int .i64 0)).setCell ⟨w.heap.size + 1, 1, none⟩ nilV).setCell ⟨w.heap.size + 1, 2, none⟩ nilV).setCell ⟨w.heap.size + 1, 3, none⟩ (.int .i64 0)).setCell ⟨w.heap.size + 1, 4, none⟩ (.int .i64 0)).setCell ⟨w.heap.size + 1, 5, none⟩ nilV) (some (w.heap.size + 1)) :=
        grown_at (grown_at (grown_at (grown_at (grown_at (grown_at (World.grownBy.refl W4 (some (w.heap.size + 1))) 0 _) 1 _) 2 _) 3 _) 4 _) 5 _
      have F : Hid (DecPost w (decR (P, S, Y)) (.returned (.tuple #[noP.val nilV nilV nilV, .int .i64 0, .int .i64 Y])) ((((((W4.setCell ⟨w.heap.size + 1, 0, none⟩ (.int .i64 0)).setCell ⟨w.heap.size + 1, 1, none⟩ nilV).setCell ⟨w.heap.size + 1, 2, none⟩ nilV).setCell ⟨w.heap.size + 1, 3, none⟩ (.int .i64 0)).setCell ⟨w.heap.size + 1, 4, none⟩ (.int .i64 0)).setCell ⟨w.heap.size + 1, 5, none⟩ nilV)) := by
        unfold decR
        rw [if_neg hY]
        exact DecPost.no Y (grown_over gC gg (Nat.le_succ _))
      have B6 := hide (b4.set6 (v0 := .int .i64 0) (v1 := nilV) (v2 := nilV) (v3 := .int .i64 0) (v4 := .int .i64 0) (v5 := nilV))
      clear gg p1 p2 p3 gC b4 bN z0 R3 b3 gB gA gR g3 o1 o2 o3 gN q0 q1 q2 q3 q4 q5 th b2 y0 y1 y2 hr hne hpl hgw c5 c1'
      go_region
      go_wp2_with fail
      refine bodyPost_ret (results_ctu rfl _ _ (w.heap.size + 1) _ _ rfl (Blk.drew (unhide B6)) Try.underlying30 rfl Try.sizeP) rfl ?_
      exact DecPost.drew (unhide F)


theorem decode_in (v : Value) (l : List Int) (i n : Int) (G : Lg) (w : World) (h : InB w v l) (hb : l.length ≤ 140737488355328) :
    Calls Try.prog 9 #[v, .int .i64 i, .int .i64 n, G.v] w (DecPost w (decP l i n G)) := by
  obtain ⟨a, c, rfl, hr, h1, h2, h3⟩ := h
  exact decode_any a l c i n G w hr h1 h2 hb (fun x e hc => (h3 x e hc).1) (fun x e hc => (h3 x e hc).2.2)
theorem DecPost.parts {w : World} {r : Pk × Int × Int} {e : Ending} {w' : World} (h : DecPost w r e w') : ∃ a1 n1 c1 a2 n2 c2 a3 n3 c3, e = .returned (.tuple #[r.1.val (.slice a1 n1 c1) (.slice a2 n2 c2) (.slice a3 n3 c3), .int .i64 r.2.1, .int .i64 r.2.2]) ∧ OwnB w.heap.size w' (.slice a1 n1 c1) r.1.dst ∧ OwnB w.heap.size w' (.slice a2 n2 c2) r.1.src ∧ OwnB w.heap.size w' (.slice a3 n3 c3) r.1.payload ∧ w.grownBy w' none ∧ n1 = r.1.dst.length ∧ n2 = r.1.src.length ∧ n3 = r.1.payload.length ∧ Sep3 (.slice a1 n1 c1) (.slice a2 n2 c2) (.slice a3 n3 c3) := by
  obtain ⟨d, s, y, rfl, o1, o2, o3, gr⟩ := h
  obtain ⟨a1, c1, rfl⟩ := o1.shape
  obtain ⟨a2, c2, rfl⟩ := o2.shape
  obtain ⟨a3, c3, rfl⟩ := o3.1.shape
  exact ⟨_, _, _, _, _, _, _, _, _, rfl, o1, o2, o3.1, gr, rfl, rfl, rfl, o3.2⟩

end Go.Proofs.Ytnglgedcpmbbjaa.Sp
