/- KN1, RF, RSp, KRW, RIp, one text. -/
import Derived.Test.YtpcnpdippnljpaaKV
import Derived.Test.YtpcnpdippnljpaaKW
import Derived.Test.YtpcnpdippnljpaaM2A
import Derived.Deep.RegionHeldLaw
import Derived.Deep.DeepCutAuto
import Derived.Test.YtpcnpdippnljpaaM2B
import Derived.WalkMore
import Derived.Deep.RegionHeld3
namespace Go.Proofs.Ytpcnpdippnljpaa.Sp
open Go.RowKit Go.Proofs.Ytpcnpdippnljpaa
set_option linter.unusedVariables false
set_option maxRecDepth 100000
set_option maxHeartbeats 1000000

theorem ltb {base : Nat} {w : World} {v : Value} {d : List Int} (h : OwnB base w v d) : ∀ g, v.ownBlock = some g → base ≤ g ∧ g < w.heap.size := World.ownsRow.lt h
def sepV (u v : Value) : Prop := u.ownBlock = none ∨ u.ownBlock ≠ v.ownBlock
def Sep3 (d s y : Value) : Prop := sepV d s ∧ sepV d y ∧ sepV s y
theorem own_sep {b1 b2 : Nat} {w1 w2 : World} {v1 v2 : Value} {d1 d2 : List Int} (h1 : OwnB b1 w1 v1 d1) (h2 : OwnB b2 w2 v2 d2) (h : w1.heap.size ≤ b2) : sepV v1 v2 := by
  unfold sepV
  cases e : v1.ownBlock with
  | none => exact .inl rfl
  | some g =>
    right
    intro e2
    have := (ltb h1 g e).2
    have := (ltb h2 g e2.symm).1
    omega
theorem sep_nil (v : Value) : sepV nilV v := .inl rfl
theorem sep_nil_r (v : Value) : sepV v nilV := by
  unfold sepV
  cases e : v.ownBlock with
  | none => exact .inl rfl
  | some g => exact .inr (fun h => by cases h)

/-- A packet that was read: its lists are its own. -/
def WentP (g : Nat) (a : Option Addr) (l : List Int) (c : Nat) (G : Lg) (w : World) (r : Pk × St) (e : Ending) (w' : World) : Prop :=
  ∃ d s y, e = .returned (r.1.val d s y) ∧ OwnB w.heap.size w' d r.1.dst ∧ OwnB w.heap.size w' s r.1.src ∧ (OwnB w.heap.size w' y r.1.payload ∧ Sep3 d s y) ∧ Rdk w' g a l c G r.2 ∧ w.grownBy w' (some g)

theorem finS {w0 W : World} {g : Nat} {a : Option Addr} {l : List Int} {c : Nat} {G : Lg} {s : St} {g4 gp B : Nat} {p : Pk} {d u y : Value} (L : LR w0 W g a l c G s g4 gp (p.cs d u y)) (hB : gp < B) (o1 : OwnB B W d p.dst) (o2 : OwnB B W u p.src) (o3 : OwnB B W y p.payload) (hs : Sep3 d u y) :
    Blk ((((((W.setCell ⟨g4, 0, none⟩ (.int .i64 p.space)).setCell ⟨g4, 1, none⟩ d).setCell ⟨g4, 2, none⟩ u).setCell ⟨g4, 3, none⟩ (.int .i64 p.number)).setCell ⟨g4, 4, none⟩ (.int .i64 p.width)).setCell ⟨g4, 5, none⟩ y) g4 (p.cs d u y) 29 ∧
    WentP g a l c G w0 (p, s) (.returned (p.val d u y)) ((((((W.setCell ⟨g4, 0, none⟩ (.int .i64 p.space)).setCell ⟨g4, 1, none⟩ d).setCell ⟨g4, 2, none⟩ u).setCell ⟨g4, 3, none⟩ (.int .i64 p.number)).setCell ⟨g4, 4, none⟩ (.int .i64 p.width)).setCell ⟨g4, 5, none⟩ y) := by
  have h0 := L.h0; have h4 := L.h4; have hp := L.hp
  have hn : g4 ≠ g := by omega
  have hx : ∀ x, a = some x → 0 < c → x.block ≠ g4 := fun x e hc => by have := L.hx x e hc; omega
  have gg : W.grownBy ((((((W.setCell ⟨g4, 0, none⟩ (.int .i64 p.space)).setCell ⟨g4, 1, none⟩ d).setCell ⟨g4, 2, none⟩ u).setCell ⟨g4, 3, none⟩ (.int .i64 p.number)).setCell ⟨g4, 4, none⟩ (.int .i64 p.width)).setCell ⟨g4, 5, none⟩ y) (some g4) :=
    grown_at (grown_at (grown_at (grown_at (grown_at (grown_at (World.grownBy.refl W (some g4)) 0 _) 1 _) 2 _) 3 _) 4 _) 5 _
  have ho : ∀ q, some g4 = some q → q < B := fun q e => by cases e; omega
  refine ⟨L.b4.set6, d, u, y, rfl, (o1.far gg ho).mono (by omega), (o2.far gg ho).mono (by omega), ⟨(o3.far gg ho).mono (by omega), hs⟩, ?_, ?_⟩
  · exact (((((L.R.setO g4 0 _ hn hx).setO g4 1 _ hn hx).setO g4 2 _ hn hx).setO g4 3 _ hn hx).setO g4 4 _ hn hx).setO g4 5 _ hn hx
  · exact grown_setS (grown_setS (grown_setS (grown_setS (grown_setS (grown_setS L.gr g4 0 _ h4) g4 1 _ h4) g4 2 _ h4) g4 3 _ h4) g4 4 _ h4) g4 5 _ h4

theorem longS {w : World} {g : Nat} {a : Option Addr} {l : List Int} {c : Nat} {G : Lg} {s : St} (h : Rdk w g a l c G s) (hG : okG G) (hb : l.length ≤ 140737488355328) (x : Int) (hx : IsB x) :
    Calls Try.prog 55 #[.pointer (some ⟨g, 0, none⟩), .int .u8 x] w (WentP g a l c G w (longR l G s x)) := by
  have hbl := bitL_eq x hx
  have hwd := fun W => widthOf_any x hx W
  have hspc := fun W => spaceOf_any x hx W
  have hwi := widF_in x
  have hbs := h.rd.1
  have hwu : IntKind.u64.wrap (widF x) = widF x := by rw [IntKind.wrap_u64]; omega
  have R0 := fun o => h.grown (World.grownBy_alloc w o none)
  have m0 := fun o => (R0 o).must (bitL x) 51
  go_enter Try.func55, Try.ntmps55
  go_wp2_with fail
  refine (m0 _).mono ?_
  rintro e W1 ⟨rfl, R1, g1⟩
  have R1' : Rdk W1 g a l c G (sL1 s x) := R1
  have p1 : Calls _ _ _ _ (Went g a l c G W1 (sL2 l s x).2 (.int .u64 (sL2 l s x).1)) := R1'.plain 4
  go_wp2_with fail
  refine p1.mono ?_
  rintro e W2 ⟨rfl, R2, g2⟩
  have m2 : Calls _ _ _ _ (Went g a l c G W2 (sL3 l s x) (.tuple #[])) := R2.must (decide ((sL2 l s x).1 = 1)) 52
  go_wp2_with fail
  refine m2.mono ?_
  rintro e W3 ⟨rfl, R3, g3⟩
  go_wp2_with fail
  refine (hspc _).mono ?_
  rintro e W3' ⟨rfl, hw3⟩
  subst hw3
  have m3 : Calls _ _ _ _ (Went g a l c G W3' (sL4 l s x) (.tuple #[])) := R3.must (spcF x).2 53
  go_wp2_with fail
  refine m3.mono ?_
  rintro e W4 ⟨rfl, R4, g4⟩
  go_wp2_with fail
  refine (hwd _).mono ?_
  rintro e W4' ⟨rfl, hw4⟩
  subst hw4
  have gA := ((World.grownBy_alloc w (.cells (pcs 0 nilV nilV 0 0 nilV) 29) (some g)).trans g1).trans ((g2.trans g3).trans g4)
  have hlt : w.heap.size < W4'.heap.size := by
    have := (g1.trans ((g2.trans g3).trans g4)).size
    have e : (w.alloc (.cells (pcs 0 nilV nilV 0 0 nilV) 29)).heap.size = w.heap.size + 1 := by show (w.heap.push _).size = _; simp
    rw [e] at this; omega
  have hg0 : g < w.heap.size := h.blk.lt
  have L0 : LR w (W4'.alloc (.cells (pcs (spcF x).1 nilV nilV 0 (widF x) nilV) 29)) g a l c G (sL4 l s x) w.heap.size W4'.heap.size (pcs (spcF x).1 nilV nilV 0 (widF x) nilV) :=
    ⟨R4.grown (World.grownBy_alloc _ _ none), gA.trans (World.grownBy_alloc _ _ (some g)), ((Blk.new w _ _).far (g1.trans ((g2.trans g3).trans g4)) (by omega)).alloc _, Blk.new _ _ _, hg0, Nat.le_refl _, hlt, fun y e hc => (h.ne y e hc).2⟩
  have hsz : (W4'.alloc (.cells (pcs (spcF x).1 nilV nilV 0 (widF x) nilV) 29)).heap.size = W4'.heap.size + 1 := by show (W4'.heap.push _).size = _; simp
  clear m0 R0 R1 R1' p1 R2 m2 R3 m3 R4 g1 g2 g3 g4 gA h hwd hspc hbl
  have i5 : Calls _ _ _ _ (WentB g a l c G _ (sL5 l s x)) := L0.R.id hb
  go_wp2_with fail
  refine i5.mono ?_
  rintro e W5 ⟨v5, rfl, o5, R5, g5⟩
  have hB5 : W4'.heap.size + 1 ≤ W5.heap.size := by rw [← hsz]; exact g5.size
  rw [hsz] at o5
  have L5 := L0.step R5 g5
  clear i5 R5 g5 L0
  have c1 := L5.bp.cell 1 nilV rfl
  have th := L5.bp.thaws
  have L6 : LR w (W5.setCell ⟨W4'.heap.size, 1, none⟩ v5) g a l c G (sL5 l s x).2 w.heap.size W4'.heap.size (pcs (spcF x).1 v5 nilV 0 (widF x) nilV) := L5.set 1 v5
  have o6 := o5.far (grown_at (World.grownBy.refl W5 (some W4'.heap.size)) 1 v5) (fun q e => by cases e; omega)
  have hB6 : W4'.heap.size + 1 ≤ (W5.setCell ⟨W4'.heap.size, 1, none⟩ v5).heap.size := by show _ ≤ (W5.heap.modify _ _).size; rw [Array.size_modify]; exact hB5
  have i6 : Calls _ _ _ _ (WentB g a l c G _ (sL6 l s x)) := L6.R.id hb
  have HL := hide L6; have HO := hide o6
  obtain ⟨a5, c5, rfl⟩ := o5.shape
  clear L5 L6 o5 o6
  generalize (sL5 l s x).1.length = n5 at *
  go_wp2_with fail
  refine i6.mono ?_
  rintro e W6 ⟨v6, rfl, o6, R6, g6⟩
  have S56 := hide (own_sep (unhide HO) o6 (Nat.le_refl _))
  have hB7 : W4'.heap.size + 1 ≤ W6.heap.size := Nat.le_trans hB6 g6.size
  have o6 := o6.mono hB6
  have L6 := (unhide HL).step R6 g6
  have o5 := (unhide HO).far g6 (fun q e => by cases e; omega)
  clear i6 R6 g6 HL HO c1 th
  have c2 := L6.bp.cell 2 nilV rfl
  have th := L6.bp.thaws
  have L7 : LR w (W6.setCell ⟨W4'.heap.size, 2, none⟩ v6) g a l c G (sL6 l s x).2 w.heap.size W4'.heap.size (pcs (spcF x).1 (.slice a5 n5 c5) v6 0 (widF x) nilV) := L6.set 2 v6
  have o6 := o6.far (grown_at (World.grownBy.refl W6 (some W4'.heap.size)) 2 v6) (fun q e => by cases e; omega)
  have o5 := o5.far (grown_at (World.grownBy.refl W6 (some W4'.heap.size)) 2 v6) (fun q e => by cases e; omega)
  have hB8 : W4'.heap.size + 1 ≤ (W6.setCell ⟨W4'.heap.size, 2, none⟩ v6).heap.size := by show _ ≤ (W6.heap.modify _ _).size; rw [Array.size_modify]; exact hB7
  obtain ⟨a6, c6, rfl⟩ := o6.shape
  have zl := sized_lt l (sL6 l s x).2 hbs
  have HL := hide L7; have HO5 := hide o5; have HO6 := hide o6
  clear L6 o5 o6 hB5 hB6 hB7
  have hB7 := hB8
  clear hB8
  have h3 : Hid ((spcF x).1 = 0 ∨ (spcF x).1 = 1 ∨ (spcF x).1 = 2) := by rcases spcF_sp x with hsp | hsp <;> simp [hsp, Hid]
  rcases spcF_sp x with hsp | hsp
  · have hspb : ((spcF x).1 == 0) = true := by rw [hsp]; rfl
    have e7 : rPass l (rSized l (sL6 l s x).2).2 (rSized l (sL6 l s x).2).1 = sL7 l s x := by unfold sL7 sT; rw [if_pos hsp]
    clear hsp
    have z7 := (unhide HL).R.sized
    clear L7
    generalize (sL6 l s x).1.length = n6 at *
    go_wp2_with fail
    refine z7.mono ?_
    rintro e W7 ⟨rfl, R7, g7⟩
    have L7 := (unhide HL).step R7 g7
    have o5 := (unhide HO5).far g7 (fun q e => by cases e; omega)
    have o6 := (unhide HO6).far g7 (fun q e => by cases e; omega)
    have hB8 := Nat.le_trans hB7 g7.size
    clear z7 R7 g7 HL HO5 HO6 c2 th hB7
    have p7 := L7.R.pass (rSized l (sL6 l s x).2).1 zl
    rw [e7] at p7
    go_wp2_with fail
    refine p7.mono ?_
    rintro e W8 ⟨rfl, R8, g8⟩
    have L8 := L7.step R8 g8
    have o5 := o5.far g8 (fun q e => by cases e; omega)
    have o6 := o6.far g8 (fun q e => by cases e; omega)
    have hB9 := Nat.le_trans hB8 g8.size
    clear p7 R8 g8 L7 hB8 e7
    have z8 : Calls _ _ _ _ (Went g a l c G _ (sL8 l s x).2 (.int .u64 (sL8 l s x).1)) := L8.R.sized
    have zl8 : 0 ≤ (sL8 l s x).1 ∧ (sL8 l s x).1 < 18446744073709551616 := sized_lt l (sL7 l s x) hbs
    go_wp2_with fail
    refine z8.mono ?_
    rintro e W9 ⟨rfl, R9, g9⟩
    have L9 := L8.step R9 g9
    have o5 := o5.far g9 (fun q e => by cases e; omega)
    have o6 := o6.far g9 (fun q e => by cases e; omega)
    have hBa := Nat.le_trans hB9 g9.size
    clear z8 R9 g9 L8 hB9
    have m9 : Calls _ _ _ _ (Went g a l c G W9 (sL9 l s x) (.tuple #[])) := L9.R.must (decide (widF x ≤ (sL8 l s x).1)) 54
    have c4 := L9.bp.cell 4 (.int .i64 (widF x)) rfl
    go_wp2_with fail
    refine m9.mono ?_
    rintro e Wa ⟨rfl, Ra, ga⟩
    have La := L9.step Ra ga
    have o5 := o5.far ga (fun q e => by cases e; omega)
    have o6 := o6.far ga (fun q e => by cases e; omega)
    have hBb := Nat.le_trans hBa ga.size
    clear m9 Ra ga L9 hBa c4
    have na : Calls _ _ _ _ (Went g a l c G Wa (sLa l G s x).2 (.int .i64 (sLa l G s x).1)) := La.R.number hG (spcF x).1 (widF x) (unhide h3) hwi
    have c4 := La.bp.cell 4 (.int .i64 (widF x)) rfl
    go_wp2_with fail
    refine na.mono ?_
    rintro e Wb ⟨rfl, Rb, gb⟩
    have Lb := La.step Rb gb
    have o5 := o5.far gb (fun q e => by cases e; omega)
    have o6 := o6.far gb (fun q e => by cases e; omega)
    have hBc := Nat.le_trans hBb gb.size
    clear na Rb gb La hBb c4
    have c3 := Lb.bp.cell 3 (.int .i64 0) rfl
    have c4 := Lb.bp.cell 4 (.int .i64 (widF x)) rfl
    have th := Lb.bp.thaws
    have Lc : LR w (Wb.setCell ⟨W4'.heap.size, 3, none⟩ (.int .i64 (sLa l G s x).1)) g a l c G (sLa l G s x).2 w.heap.size W4'.heap.size (pcs (spcF x).1 (.slice a5 n5 c5) (.slice a6 n6 c6) (sLa l G s x).1 (widF x) nilV) := Lb.set 3 _
    have c4' := Lc.bp.cell 4 (.int .i64 (widF x)) rfl
    have o5 := o5.far (grown_at (World.grownBy.refl Wb (some W4'.heap.size)) 3 (.int .i64 (sLa l G s x).1)) (fun q e => by cases e; omega)
    have o6 := o6.far (grown_at (World.grownBy.refl Wb (some W4'.heap.size)) 3 (.int .i64 (sLa l G s x).1)) (fun q e => by cases e; omega)
    have hBd : W4'.heap.size + 1 ≤ (Wb.setCell ⟨W4'.heap.size, 3, none⟩ (.int .i64 (sLa l G s x).1)).heap.size := by show _ ≤ (Wb.heap.modify _ _).size; rw [Array.size_modify]; exact hBc
    have bd : Calls _ _ _ _ (WentB g a l c G _ (sLb l G s x)) := Lc.R.bytes hb (IntKind.u64.wrap ((sL8 l s x).1 - widF x)) (by rw [IntKind.wrap_u64]; omega)
    have HL := hide Lc; have HO5 := hide o5; have HO6 := hide o6
    clear Lb Lc o5 o6 hBc
    go_wp2_with fail
    refine bd.mono ?_
    rintro e Wd ⟨vd, rfl, od, Rd_, gd⟩
    have S3 := hide (show Sep3 _ _ _ from ⟨unhide S56, own_sep (unhide HO5) od (Nat.le_refl _), own_sep (unhide HO6) od (Nat.le_refl _)⟩)
    have Ld := (unhide HL).step Rd_ gd
    have o5 := (unhide HO5).far gd (fun q e => by cases e; omega)
    have o6 := (unhide HO6).far gd (fun q e => by cases e; omega)
    have od := od.mono hBd
    clear bd Rd_ gd HL HO5 HO6 c3 c4 c4' th
    have d5 := Ld.bp.cell 5 nilV rfl
    have thd := Ld.bp.thaws
    have Le : LR w (Wd.setCell ⟨W4'.heap.size, 5, none⟩ vd) g a l c G (sLb l G s x).2 w.heap.size W4'.heap.size (pcs (spcF x).1 (.slice a5 n5 c5) (.slice a6 n6 c6) (sLa l G s x).1 (widF x) vd) := Ld.set 5 _
    have o5 := o5.far (grown_at (World.grownBy.refl Wd (some W4'.heap.size)) 5 vd) (fun q e => by cases e; omega)
    have o6 := o6.far (grown_at (World.grownBy.refl Wd (some W4'.heap.size)) 5 vd) (fun q e => by cases e; omega)
    have od := od.far (grown_at (World.grownBy.refl Wd (some W4'.heap.size)) 5 vd) (fun q e => by cases e; omega)
    have FIN := finS (p := (longR l G s x).1) Le (Nat.lt_succ_self _) o5 o6 od (unhide S3)
    have HF := hide FIN
    have k0 := Le.bp.cell 0 _ rfl
    have k1 := Le.bp.cell 1 _ rfl
    have k2 := Le.bp.cell 2 _ rfl
    have k3 := Le.bp.cell 3 _ rfl
    have k4 := Le.bp.cell 4 _ rfl
    have k5 := Le.bp.cell 5 _ rfl
    have q0 := Le.b4.cell 0 _ rfl
    have q1 := Le.b4.cell 1 _ rfl
    have q2 := Le.b4.cell 2 _ rfl
    have q3 := Le.b4.cell 3 _ rfl
    have q4 := Le.b4.cell 4 _ rfl
    have q5 := Le.b4.cell 5 _ rfl
    have thp := Le.bp.thaws
    have th4 := Le.b4.thaws
    obtain ⟨ad, cd, rfl⟩ := od.shape
    clear FIN Le Ld o5 o6 od
    go_wp2_with fail
    refine bodyPost_ret (results_cell_row rfl _ _ w.heap.size 29 _ (0, 0) _ rfl (unhide HF).1 Try.underlying29 rfl Try.sizeP) rfl ?_
    exact (unhide HF).2
  · have hspb : ((spcF x).1 == 0) = false := by rw [hsp]; rfl
    have e7 : (sL6 l s x).2 = sL7 l s x := by unfold sL7 sT; rw [if_neg (by rw [hsp]; decide)]
    clear hsp
    have L8 := unhide HL
    rw [e7] at L8
    have o5 := unhide HO5
    have o6 := unhide HO6
    have hB9 := hB7
    clear L7 HL HO5 HO6 hB7 e7
    generalize (sL6 l s x).1.length = n6 at *
    have z8 : Calls _ _ _ _ (Went g a l c G _ (sL8 l s x).2 (.int .u64 (sL8 l s x).1)) := L8.R.sized
    have zl8 : 0 ≤ (sL8 l s x).1 ∧ (sL8 l s x).1 < 18446744073709551616 := sized_lt l (sL7 l s x) hbs
    go_wp2_with fail
    refine z8.mono ?_
    rintro e W9 ⟨rfl, R9, g9⟩
    have L9 := L8.step R9 g9
    have o5 := o5.far g9 (fun q e => by cases e; omega)
    have o6 := o6.far g9 (fun q e => by cases e; omega)
    have hBa := Nat.le_trans hB9 g9.size
    clear z8 R9 g9 L8 hB9
    have m9 : Calls _ _ _ _ (Went g a l c G W9 (sL9 l s x) (.tuple #[])) := L9.R.must (decide (widF x ≤ (sL8 l s x).1)) 54
    have c4 := L9.bp.cell 4 (.int .i64 (widF x)) rfl
    go_wp2_with fail
    refine m9.mono ?_
    rintro e Wa ⟨rfl, Ra, ga⟩
    have La := L9.step Ra ga
    have o5 := o5.far ga (fun q e => by cases e; omega)
    have o6 := o6.far ga (fun q e => by cases e; omega)
    have hBb := Nat.le_trans hBa ga.size
    clear m9 Ra ga L9 hBa c4
    have na : Calls _ _ _ _ (Went g a l c G Wa (sLa l G s x).2 (.int .i64 (sLa l G s x).1)) := La.R.number hG (spcF x).1 (widF x) (unhide h3) hwi
    have c4 := La.bp.cell 4 (.int .i64 (widF x)) rfl
    go_wp2_with fail
    refine na.mono ?_
    rintro e Wb ⟨rfl, Rb, gb⟩
    have Lb := La.step Rb gb
    have o5 := o5.far gb (fun q e => by cases e; omega)
    have o6 := o6.far gb (fun q e => by cases e; omega)
    have hBc := Nat.le_trans hBb gb.size
    clear na Rb gb La hBb c4
    have c3 := Lb.bp.cell 3 (.int .i64 0) rfl
    have c4 := Lb.bp.cell 4 (.int .i64 (widF x)) rfl
    have th := Lb.bp.thaws
    have Lc : LR w (Wb.setCell ⟨W4'.heap.size, 3, none⟩ (.int .i64 (sLa l G s x).1)) g a l c G (sLa l G s x).2 w.heap.size W4'.heap.size (pcs (spcF x).1 (.slice a5 n5 c5) (.slice a6 n6 c6) (sLa l G s x).1 (widF x) nilV) := Lb.set 3 _
    have c4' := Lc.bp.cell 4 (.int .i64 (widF x)) rfl
    have o5 := o5.far (grown_at (World.grownBy.refl Wb (some W4'.heap.size)) 3 (.int .i64 (sLa l G s x).1)) (fun q e => by cases e; omega)
    have o6 := o6.far (grown_at (World.grownBy.refl Wb (some W4'.heap.size)) 3 (.int .i64 (sLa l G s x).1)) (fun q e => by cases e; omega)
    have hBd : W4'.heap.size + 1 ≤ (Wb.setCell ⟨W4'.heap.size, 3, none⟩ (.int .i64 (sLa l G s x).1)).heap.size := by show _ ≤ (Wb.heap.modify _ _).size; rw [Array.size_modify]; exact hBc
    have bd : Calls _ _ _ _ (WentB g a l c G _ (sLb l G s x)) := Lc.R.bytes hb (IntKind.u64.wrap ((sL8 l s x).1 - widF x)) (by rw [IntKind.wrap_u64]; omega)
    have HL := hide Lc; have HO5 := hide o5; have HO6 := hide o6
    clear Lb Lc o5 o6 hBc
    go_wp2_with fail
    refine bd.mono ?_
    rintro e Wd ⟨vd, rfl, od, Rd_, gd⟩
    have S3 := hide (show Sep3 _ _ _ from ⟨unhide S56, own_sep (unhide HO5) od (Nat.le_refl _), own_sep (unhide HO6) od (Nat.le_refl _)⟩)
    have Ld := (unhide HL).step Rd_ gd
    have o5 := (unhide HO5).far gd (fun q e => by cases e; omega)
    have o6 := (unhide HO6).far gd (fun q e => by cases e; omega)
    have od := od.mono hBd
    clear bd Rd_ gd HL HO5 HO6 c3 c4 c4' th
    have d5 := Ld.bp.cell 5 nilV rfl
    have thd := Ld.bp.thaws
    have Le : LR w (Wd.setCell ⟨W4'.heap.size, 5, none⟩ vd) g a l c G (sLb l G s x).2 w.heap.size W4'.heap.size (pcs (spcF x).1 (.slice a5 n5 c5) (.slice a6 n6 c6) (sLa l G s x).1 (widF x) vd) := Ld.set 5 _
    have o5 := o5.far (grown_at (World.grownBy.refl Wd (some W4'.heap.size)) 5 vd) (fun q e => by cases e; omega)
    have o6 := o6.far (grown_at (World.grownBy.refl Wd (some W4'.heap.size)) 5 vd) (fun q e => by cases e; omega)
    have od := od.far (grown_at (World.grownBy.refl Wd (some W4'.heap.size)) 5 vd) (fun q e => by cases e; omega)
    have FIN := finS (p := (longR l G s x).1) Le (Nat.lt_succ_self _) o5 o6 od (unhide S3)
    have HF := hide FIN
    have k0 := Le.bp.cell 0 _ rfl
    have k1 := Le.bp.cell 1 _ rfl
    have k2 := Le.bp.cell 2 _ rfl
    have k3 := Le.bp.cell 3 _ rfl
    have k4 := Le.bp.cell 4 _ rfl
    have k5 := Le.bp.cell 5 _ rfl
    have q0 := Le.b4.cell 0 _ rfl
    have q1 := Le.b4.cell 1 _ rfl
    have q2 := Le.b4.cell 2 _ rfl
    have q3 := Le.b4.cell 3 _ rfl
    have q4 := Le.b4.cell 4 _ rfl
    have q5 := Le.b4.cell 5 _ rfl
    have thp := Le.bp.thaws
    have th4 := Le.b4.thaws
    obtain ⟨ad, cd, rfl⟩ := od.shape
    clear FIN Le Ld o5 o6 od
    go_wp2_with fail
    refine bodyPost_ret (results_cell_row rfl _ _ w.heap.size 29 _ (0, 0) _ rfl (unhide HF).1 Try.underlying29 rfl Try.sizeP) rfl ?_
    exact (unhide HF).2

end Go.Proofs.Ytpcnpdippnljpaa.Sp

namespace Go.Proofs.Ytpcnpdippnljpaa.Sp
open Go.RowKit Go.Proofs.Ytpcnpdippnljpaa
set_option linter.unusedVariables false
set_option maxRecDepth 100000
set_option maxHeartbeats 1000000

theorem shortS {w : World} {g : Nat} {a : Option Addr} {l : List Int} {c : Nat} {G : Lg} {s : St} (h : Rdk w g a l c G s) (hG : okG G) (hb : l.length ≤ 140737488355328) (x : Int) (hx : IsB x) (n : Int) (hn : 0 ≤ n ∧ n ≤ 20) :
    Calls Try.prog 56 #[.pointer (some ⟨g, 0, none⟩), .int .u8 x, .int .i64 n] w (WentP g a l c G w (shortR l G s x n)) := by
  have hbl := bitS_eq x hx
  have hwd := fun W => widthOf_any x hx W
  have hwi := widF_in x
  have hnu : IntKind.u64.wrap n = n := by rw [IntKind.wrap_u64]; omega
  have R0 := fun o => h.grown (World.grownBy_alloc w o none)
  have m0 := fun o => (R0 o).must (bitS x) 51
  go_enter Try.func56, Try.ntmps56
  go_wp2_with fail
  refine (m0 _).mono ?_
  rintro e W1 ⟨rfl, R1, g1⟩
  have R1' : Rdk W1 g a l c G (sS1 s x) := R1
  go_wp2_with fail
  refine (hwd _).mono ?_
  rintro e W4' ⟨rfl, hw4⟩
  subst hw4
  have gA := (World.grownBy_alloc w (.cells (pcs 0 nilV nilV 0 0 nilV) 29) (some g)).trans g1
  have hlt : w.heap.size < W4'.heap.size := by
    have := g1.size
    have e : (w.alloc (.cells (pcs 0 nilV nilV 0 0 nilV) 29)).heap.size = w.heap.size + 1 := by show (w.heap.push _).size = _; simp
    rw [e] at this; omega
  have hg0 : g < w.heap.size := h.blk.lt
  have L0 : LR w (W4'.alloc (.cells (pcs 2 nilV nilV 0 (widF x) nilV) 29)) g a l c G (sS1 s x) w.heap.size W4'.heap.size (pcs 2 nilV nilV 0 (widF x) nilV) :=
    ⟨R1'.grown (World.grownBy_alloc _ _ none), gA.trans (World.grownBy_alloc _ _ (some g)), ((Blk.new w _ _).far g1 (by omega)).alloc _, Blk.new _ _ _, hg0, Nat.le_refl _, hlt, fun y e hc => (h.ne y e hc).2⟩
  have hsz : (W4'.alloc (.cells (pcs 2 nilV nilV 0 (widF x) nilV) 29)).heap.size = W4'.heap.size + 1 := by show (W4'.heap.push _).size = _; simp
  clear m0 R0 R1 R1' g1 gA h hwd hbl
  have i5 : Calls _ _ _ _ (WentB g a l c G _ (sS2 l s x n)) := L0.R.bytes hb n (by omega)
  go_wp2_with fail
  refine i5.mono ?_
  rintro e W5 ⟨v5, rfl, o5, R5, g5⟩
  have hB5 : W4'.heap.size + 1 ≤ W5.heap.size := by rw [← hsz]; exact g5.size
  rw [hsz] at o5
  have L5 := L0.step R5 g5
  clear i5 R5 g5 L0
  have c1 := L5.bp.cell 1 nilV rfl
  have c0 := L5.bp.cell 0 (.int .i64 2) rfl
  have c4 := L5.bp.cell 4 (.int .i64 (widF x)) rfl
  have th := L5.bp.thaws
  have L6 : LR w (W5.setCell ⟨W4'.heap.size, 1, none⟩ v5) g a l c G (sS2 l s x n).2 w.heap.size W4'.heap.size (pcs 2 v5 nilV 0 (widF x) nilV) := L5.set 1 v5
  have o6 := o5.far (grown_at (World.grownBy.refl W5 (some W4'.heap.size)) 1 v5) (fun q e => by cases e; omega)
  have hB6 : W4'.heap.size + 1 ≤ (W5.setCell ⟨W4'.heap.size, 1, none⟩ v5).heap.size := by show _ ≤ (W5.heap.modify _ _).size; rw [Array.size_modify]; exact hB5
  have na : Calls _ _ _ _ (Went g a l c G _ (sS3 l G s x n).2 (.int .i64 (sS3 l G s x n).1)) := L6.R.number hG 2 (widF x) (by simp) hwi
  have HL := hide L6; have HO := hide o6
  obtain ⟨a5, c5, rfl⟩ := o5.shape
  clear L5 L6 o5 o6
  generalize (sS2 l s x n).1.length = n5 at *
  go_wp2_with fail
  refine na.mono ?_
  rintro e Wb ⟨rfl, Rb, gb⟩
  have Lb := (unhide HL).step Rb gb
  have o5 := (unhide HO).far gb (fun q e => by cases e; omega)
  have hBc := Nat.le_trans hB6 gb.size
  clear na Rb gb HL HO hB5 hB6 c0 c1 c4 th
  have c3 := Lb.bp.cell 3 (.int .i64 0) rfl
  have th := Lb.bp.thaws
  have Lc : LR w (Wb.setCell ⟨W4'.heap.size, 3, none⟩ (.int .i64 (sS3 l G s x n).1)) g a l c G (sS3 l G s x n).2 w.heap.size W4'.heap.size (pcs 2 (.slice a5 n5 c5) nilV (sS3 l G s x n).1 (widF x) nilV) := Lb.set 3 _
  have o5 := o5.far (grown_at (World.grownBy.refl Wb (some W4'.heap.size)) 3 (.int .i64 (sS3 l G s x n).1)) (fun q e => by cases e; omega)
  have hBd : W4'.heap.size + 1 ≤ (Wb.setCell ⟨W4'.heap.size, 3, none⟩ (.int .i64 (sS3 l G s x n).1)).heap.size := by show _ ≤ (Wb.heap.modify _ _).size; rw [Array.size_modify]; exact hBc
  have lf := Lc.R.left
  have bd := fun q => (Lc.R.drewN q).bytes hb ((l.length : Int) - (sS3 l G s x n).2.1) (by have := Lc.R.at_; omega)
  have HL := hide Lc; have HO := hide o5
  clear Lb Lc o5 hBc
  go_wp2_with fail
  refine lf.mono ?_
  rintro e Wq ⟨rfl, q, rfl⟩
  have bd := bd q
  go_wp2_with fail
  refine bd.mono ?_
  rintro e Wd ⟨vd, rfl, od, Rd_, gd⟩
  have S3 := hide (show Sep3 _ nilV _ from ⟨sep_nil_r _, own_sep (unhide HO) od (Nat.le_refl _), sep_nil _⟩)
  have gq := (grown_drewS (World.grownBy.refl (Wb.setCell ⟨W4'.heap.size, 3, none⟩ (.int .i64 (sS3 l G s x n).1)) (some g)) q).trans gd
  have Rd' : Rdk Wd g a l c G (sS4 l G s x n).2 := Rd_
  have od : OwnB (W4'.heap.size + 1) Wd vd (sS4 l G s x n).1 := od.mono hBd
  have Ld := (unhide HL).step Rd' gq
  have o5 := (unhide HO).far gq (fun q e => by cases e; omega)
  clear bd lf Rd_ Rd' gd gq HL HO c3 th
  have d5 := Ld.bp.cell 5 nilV rfl
  have thd := Ld.bp.thaws
  have Le : LR w (Wd.setCell ⟨W4'.heap.size, 5, none⟩ vd) g a l c G (sS4 l G s x n).2 w.heap.size W4'.heap.size (pcs 2 (.slice a5 n5 c5) nilV (sS3 l G s x n).1 (widF x) vd) := Ld.set 5 _
  have o5 := o5.far (grown_at (World.grownBy.refl Wd (some W4'.heap.size)) 5 vd) (fun q e => by cases e; omega)
  have od := od.far (grown_at (World.grownBy.refl Wd (some W4'.heap.size)) 5 vd) (fun q e => by cases e; omega)
  have oN : OwnB (W4'.heap.size + 1) (Wd.setCell ⟨W4'.heap.size, 5, none⟩ vd) nilV [] := World.ownsRow_nil _ _ _ _
  have FIN := finS (p := (shortR l G s x n).1) Le (Nat.lt_succ_self _) o5 oN od (unhide S3)
  have HF := hide FIN
  have k0 := Le.bp.cell 0 _ rfl
  have k1 := Le.bp.cell 1 _ rfl
  have k2 := Le.bp.cell 2 _ rfl
  have k3 := Le.bp.cell 3 _ rfl
  have k4 := Le.bp.cell 4 _ rfl
  have k5 := Le.bp.cell 5 _ rfl
  have q0 := Le.b4.cell 0 _ rfl
  have q1 := Le.b4.cell 1 _ rfl
  have q2 := Le.b4.cell 2 _ rfl
  have q3 := Le.b4.cell 3 _ rfl
  have q4 := Le.b4.cell 4 _ rfl
  have q5 := Le.b4.cell 5 _ rfl
  have thp := Le.bp.thaws
  have th4 := Le.b4.thaws
  obtain ⟨ad, cd, rfl⟩ := od.shape
  clear FIN Le Ld o5 oN od
  go_wp2_with fail
  refine bodyPost_ret (results_cell_row rfl _ _ w.heap.size 29 _ (0, 0) _ rfl (unhide HF).1 Try.underlying29 rfl Try.sizeP) rfl ?_
  exact (unhide HF).2

theorem WentP.shape {g : Nat} {a : Option Addr} {l : List Int} {c : Nat} {G : Lg} {w : World} {r : Pk × St} {e : Ending} {w' : World} (h : WentP g a l c G w r e w') :
    ∃ a1 n1 c1 a2 n2 c2 a3 n3 c3, e = .returned (r.1.val (.slice a1 n1 c1) (.slice a2 n2 c2) (.slice a3 n3 c3)) ∧ OwnB w.heap.size w' (.slice a1 n1 c1) r.1.dst ∧ OwnB w.heap.size w' (.slice a2 n2 c2) r.1.src ∧ (OwnB w.heap.size w' (.slice a3 n3 c3) r.1.payload ∧ Sep3 (.slice a1 n1 c1) (.slice a2 n2 c2) (.slice a3 n3 c3)) ∧ Rdk w' g a l c G r.2 ∧ w.grownBy w' (some g) := by
  obtain ⟨d, s, y, rfl, o1, o2, o3, R, gr⟩ := h
  obtain ⟨a1, c1, rfl⟩ := o1.shape
  obtain ⟨a2, c2, rfl⟩ := o2.shape
  obtain ⟨a3, c3, rfl⟩ := o3.1.shape
  exact ⟨_, _, _, _, _, _, _, _, _, rfl, o1, o2, o3, R, gr⟩

theorem packetS {w : World} {g : Nat} {a : Option Addr} {l : List Int} {c : Nat} {G : Lg} {k : Nat} (h : Rdk w g a l c G (k, 0)) (hG : okG G) (hb : l.length ≤ 140737488355328) (n : Int) (hn : 0 ≤ n ∧ n ≤ 20) :
    Calls Try.prog 43 #[.pointer (some ⟨g, 0, none⟩), .int .i64 n] w (WentP g a l c G w (packR l G k n)) := by
  have hx := rPlain_1 l (k, 0) h.rd.1
  have R0 := h.grown (World.grownBy_alloc w (.cells (pcs 0 nilV nilV 0 0 nilV) 29) none)
  have p0 := R0.plain 1
  have hg0 : g < w.heap.size := h.blk.lt
  have hax := fun y e hc => (h.ne y e hc).2
  unfold packR
  generalize rPlain l (k, 0) 1 = r at *
  obtain ⟨x, s⟩ := r
  simp only at hx p0 ⊢
  have hxw : IntKind.u8.wrap x = x := by rw [IntKind.wrap_u8]; omega
  have hb128 := and_128 x hx
  clear R0 h
  by_cases hl : 128 ≤ x
  · rw [if_pos hl]
    have hc : (bits .and .u8 x 128 != 0) = true := by rw [hb128, show x / 128 = 1 by omega]; rfl
    clear hb128
    go_enter Try.func43, Try.ntmps43
    go_wp2_with fail
    refine p0.mono ?_
    rintro e W1 ⟨rfl, R1, g1⟩
    have lg := longS R1 hG hb x hx
    have bA := (Blk.new w (pcs 0 nilV nilV 0 0 nilV) 29).far g1 (by omega)
    have gA := (World.grownBy_alloc w (.cells (pcs 0 nilV nilV 0 0 nilV) 29) (some g)).trans g1
    have hsz : w.heap.size + 1 ≤ W1.heap.size := by
      have := g1.size
      have e : (w.alloc (.cells (pcs 0 nilV nilV 0 0 nilV) 29)).heap.size = w.heap.size + 1 := by show (w.heap.push _).size = _; simp
      rw [e] at this; omega
    generalize longR l G s x = P at *
    obtain ⟨P, S⟩ := P
    clear p0 R1 g1
    go_wp2_with fail
    refine lg.mono ?_
    intro e W2 hh
    obtain ⟨a1, n1, c1, a2, n2, c2, a3, n3, c3, rfl, o1, o2, o3, R2, g2⟩ := hh.shape
    clear hh lg
    have b2 := bA.far g2 (by omega)
    have gB := gA.trans g2
    have gg : W2.grownBy ((((((W2.setCell ⟨w.heap.size, 0, none⟩ (.int .i64 P.space)).setCell ⟨w.heap.size, 1, none⟩ (.slice a1 n1 c1)).setCell ⟨w.heap.size, 2, none⟩ (.slice a2 n2 c2)).setCell ⟨w.heap.size, 3, none⟩ (.int .i64 P.number)).setCell ⟨w.heap.size, 4, none⟩ (.int .i64 P.width)).setCell ⟨w.heap.size, 5, none⟩ (.slice a3 n3 c3)) (some w.heap.size) :=
      grown_at (grown_at (grown_at (grown_at (grown_at (grown_at (World.grownBy.refl W2 (some w.heap.size)) 0 _) 1 _) 2 _) 3 _) 4 _) 5 _
    have hn' : w.heap.size ≠ g := by omega
    have hx' : ∀ y, a = some y → 0 < c → y.block ≠ w.heap.size := fun y e hc => Nat.ne_of_lt (hax y e hc)
    have ho : ∀ q, some w.heap.size = some q → q < W1.heap.size := fun q e => by cases e; omega
    have F : Hid (Blk ((((((W2.setCell ⟨w.heap.size, 0, none⟩ (.int .i64 P.space)).setCell ⟨w.heap.size, 1, none⟩ (.slice a1 n1 c1)).setCell ⟨w.heap.size, 2, none⟩ (.slice a2 n2 c2)).setCell ⟨w.heap.size, 3, none⟩ (.int .i64 P.number)).setCell ⟨w.heap.size, 4, none⟩ (.int .i64 P.width)).setCell ⟨w.heap.size, 5, none⟩ (.slice a3 n3 c3)) w.heap.size (P.cs (.slice a1 n1 c1) (.slice a2 n2 c2) (.slice a3 n3 c3)) 29 ∧ WentP g a l c G w (P, S) (.returned (P.val (.slice a1 n1 c1) (.slice a2 n2 c2) (.slice a3 n3 c3))) ((((((W2.setCell ⟨w.heap.size, 0, none⟩ (.int .i64 P.space)).setCell ⟨w.heap.size, 1, none⟩ (.slice a1 n1 c1)).setCell ⟨w.heap.size, 2, none⟩ (.slice a2 n2 c2)).setCell ⟨w.heap.size, 3, none⟩ (.int .i64 P.number)).setCell ⟨w.heap.size, 4, none⟩ (.int .i64 P.width)).setCell ⟨w.heap.size, 5, none⟩ (.slice a3 n3 c3))) :=
      ⟨b2.set6, _, _, _, rfl, (o1.far gg ho).mono (by omega), (o2.far gg ho).mono (by omega), ⟨(o3.1.far gg ho).mono (by omega), o3.2⟩,
        (((((R2.setO _ 0 _ hn' hx').setO _ 1 _ hn' hx').setO _ 2 _ hn' hx').setO _ 3 _ hn' hx').setO _ 4 _ hn' hx').setO _ 5 _ hn' hx',
        grown_setS (grown_setS (grown_setS (grown_setS (grown_setS (grown_setS gB _ 0 _ (Nat.le_refl _)) _ 1 _ (Nat.le_refl _)) _ 2 _ (Nat.le_refl _)) _ 3 _ (Nat.le_refl _)) _ 4 _ (Nat.le_refl _)) _ 5 _ (Nat.le_refl _)⟩
    have q0 := b2.cell 0 _ rfl
    have q1 := b2.cell 1 _ rfl
    have q2 := b2.cell 2 _ rfl
    have q3 := b2.cell 3 _ rfl
    have q4 := b2.cell 4 _ rfl
    have q5 := b2.cell 5 _ rfl
    have th4 := b2.thaws
    clear b2 gB gg o1 o2 o3 R2 g2 bA gA ho hx' hn'
    go_wp2_with fail
    refine bodyPost_ret (results_cell_row rfl _ _ w.heap.size 29 _ (0, 0) _ rfl (unhide F).1 Try.underlying29 rfl Try.sizeP) rfl ?_
    exact (unhide F).2
  · rw [if_neg hl]
    have hc : (bits .and .u8 x 128 != 0) = false := by rw [hb128, show x / 128 = 0 by omega]; rfl
    clear hb128
    go_enter Try.func43, Try.ntmps43
    go_wp2_with fail
    refine p0.mono ?_
    rintro e W1 ⟨rfl, R1, g1⟩
    have lg := shortS R1 hG hb x hx n hn
    have bA := (Blk.new w (pcs 0 nilV nilV 0 0 nilV) 29).far g1 (by omega)
    have gA := (World.grownBy_alloc w (.cells (pcs 0 nilV nilV 0 0 nilV) 29) (some g)).trans g1
    have hsz : w.heap.size + 1 ≤ W1.heap.size := by
      have := g1.size
      have e : (w.alloc (.cells (pcs 0 nilV nilV 0 0 nilV) 29)).heap.size = w.heap.size + 1 := by show (w.heap.push _).size = _; simp
      rw [e] at this; omega
    generalize shortR l G s x n = P at *
    obtain ⟨P, S⟩ := P
    clear p0 R1 g1
    go_wp2_with fail
    refine lg.mono ?_
    intro e W2 hh
    obtain ⟨a1, n1, c1, a2, n2, c2, a3, n3, c3, rfl, o1, o2, o3, R2, g2⟩ := hh.shape
    clear hh lg
    have b2 := bA.far g2 (by omega)
    have gB := gA.trans g2
    have gg : W2.grownBy ((((((W2.setCell ⟨w.heap.size, 0, none⟩ (.int .i64 P.space)).setCell ⟨w.heap.size, 1, none⟩ (.slice a1 n1 c1)).setCell ⟨w.heap.size, 2, none⟩ (.slice a2 n2 c2)).setCell ⟨w.heap.size, 3, none⟩ (.int .i64 P.number)).setCell ⟨w.heap.size, 4, none⟩ (.int .i64 P.width)).setCell ⟨w.heap.size, 5, none⟩ (.slice a3 n3 c3)) (some w.heap.size) :=
      grown_at (grown_at (grown_at (grown_at (grown_at (grown_at (World.grownBy.refl W2 (some w.heap.size)) 0 _) 1 _) 2 _) 3 _) 4 _) 5 _
    have hn' : w.heap.size ≠ g := by omega
    have hx' : ∀ y, a = some y → 0 < c → y.block ≠ w.heap.size := fun y e hc => Nat.ne_of_lt (hax y e hc)
    have ho : ∀ q, some w.heap.size = some q → q < W1.heap.size := fun q e => by cases e; omega
    have F : Hid (Blk ((((((W2.setCell ⟨w.heap.size, 0, none⟩ (.int .i64 P.space)).setCell ⟨w.heap.size, 1, none⟩ (.slice a1 n1 c1)).setCell ⟨w.heap.size, 2, none⟩ (.slice a2 n2 c2)).setCell ⟨w.heap.size, 3, none⟩ (.int .i64 P.number)).setCell ⟨w.heap.size, 4, none⟩ (.int .i64 P.width)).setCell ⟨w.heap.size, 5, none⟩ (.slice a3 n3 c3)) w.heap.size (P.cs (.slice a1 n1 c1) (.slice a2 n2 c2) (.slice a3 n3 c3)) 29 ∧ WentP g a l c G w (P, S) (.returned (P.val (.slice a1 n1 c1) (.slice a2 n2 c2) (.slice a3 n3 c3))) ((((((W2.setCell ⟨w.heap.size, 0, none⟩ (.int .i64 P.space)).setCell ⟨w.heap.size, 1, none⟩ (.slice a1 n1 c1)).setCell ⟨w.heap.size, 2, none⟩ (.slice a2 n2 c2)).setCell ⟨w.heap.size, 3, none⟩ (.int .i64 P.number)).setCell ⟨w.heap.size, 4, none⟩ (.int .i64 P.width)).setCell ⟨w.heap.size, 5, none⟩ (.slice a3 n3 c3))) :=
      ⟨b2.set6, _, _, _, rfl, (o1.far gg ho).mono (by omega), (o2.far gg ho).mono (by omega), ⟨(o3.1.far gg ho).mono (by omega), o3.2⟩,
        (((((R2.setO _ 0 _ hn' hx').setO _ 1 _ hn' hx').setO _ 2 _ hn' hx').setO _ 3 _ hn' hx').setO _ 4 _ hn' hx').setO _ 5 _ hn' hx',
        grown_setS (grown_setS (grown_setS (grown_setS (grown_setS (grown_setS gB _ 0 _ (Nat.le_refl _)) _ 1 _ (Nat.le_refl _)) _ 2 _ (Nat.le_refl _)) _ 3 _ (Nat.le_refl _)) _ 4 _ (Nat.le_refl _)) _ 5 _ (Nat.le_refl _)⟩
    have q0 := b2.cell 0 _ rfl
    have q1 := b2.cell 1 _ rfl
    have q2 := b2.cell 2 _ rfl
    have q3 := b2.cell 3 _ rfl
    have q4 := b2.cell 4 _ rfl
    have q5 := b2.cell 5 _ rfl
    have th4 := b2.thaws
    clear b2 gB gg o1 o2 o3 R2 g2 bA gA ho hx' hn'
    go_wp2_with fail
    refine bodyPost_ret (results_cell_row rfl _ _ w.heap.size 29 _ (0, 0) _ rfl (unhide F).1 Try.underlying29 rfl Try.sizeP) rfl ?_
    exact (unhide F).2


end Go.Proofs.Ytpcnpdippnljpaa.Sp

namespace Go.Proofs.Ytpcnpdippnljpaa.Sp
open Go.RowKit Go.Proofs.Ytpcnpdippnljpaa
set_option linter.unusedVariables false
set_option maxRecDepth 100000
set_option maxHeartbeats 1000000

/-- What Decode leaves. -/
def DecPost (w : World) (r : Pk × Int × Int) (e : Ending) (w' : World) : Prop :=
  ∃ d s y, e = .returned (.tuple #[r.1.val d s y, .int .i64 r.2.1, .int .i64 r.2.2]) ∧ OwnB w.heap.size w' d r.1.dst ∧ OwnB w.heap.size w' s r.1.src ∧ (OwnB w.heap.size w' y r.1.payload ∧ Sep3 d s y) ∧ w.grownBy w' none

theorem DecPost.no {w W : World} (y : Int) (g : w.grownBy W none) : DecPost w (noP, 0, y) (.returned (.tuple #[noP.val nilV nilV nilV, .int .i64 0, .int .i64 y])) W :=
  ⟨nilV, nilV, nilV, rfl, World.ownsRow_nil _ _ _ _, World.ownsRow_nil _ _ _ _, ⟨World.ownsRow_nil _ _ _ _, sep_nil _, sep_nil _, sep_nil _⟩, g⟩

theorem DecPost.drew {w W : World} {r : Pk × Int × Int} {e : Ending} (h : DecPost w r e W) : DecPost w r e W.drew := by
  obtain ⟨d, s, y, he, o1, o2, o3, g⟩ := h
  exact ⟨d, s, y, he, o1, o2, o3, grown_drew' g⟩

theorem decode_any (a : Option Addr) (l : List Int) (c : Nat) (i n : Int) (G : Lg) (w : World) (hr : Rd w a l) (hc : l.length ≤ c) (hc2 : c ≤ maxLen) (hb : l.length ≤ 140737488355328)
    (hne : ∀ x, a = some x → 0 < c → x.block < w.heap.size) (hpl : ∀ x, a = some x → 0 < c → ∃ b o, x = ⟨b, o, none⟩) :
    Calls Try.prog 35 #[.slice a l.length c, .int .i64 i, .int .i64 n, G.v] w (DecPost w (decP l i n G)) := by
  have mb := fun W => mayBe_any n G W
  have hmax : l.length ≤ 9223372036854775807 := by unfold maxLen at hc2; omega
  have bB := Blk.two w #[.int .i64 G.1, .int .i64 G.2.1, .int .i64 G.2.2] (pcs 0 nilV nilV 0 0 nilV) 49 29
  by_cases h1 : i < 0
  · have e : decP l i n G = (noP, 0, 1) := by unfold decP; rw [if_pos (.inl h1)]
    rw [e]
    go_enter Try.func35, Try.ntmps35
    go_wp2_with fail
    refine bodyPost_ret (results_ctu rfl _ _ (w.heap.size + 1) _ _ rfl bB.2.1 Try.underlying29 rfl Try.sizeP) rfl ?_
    exact DecPost.no 1 bB.2.2
  by_cases h2 : (l.length : Int) < i
  · have e : decP l i n G = (noP, 0, 1) := by unfold decP; rw [if_pos (.inr (.inl h2))]
    rw [e]
    go_enter Try.func35, Try.ntmps35
    go_wp2_with fail
    refine bodyPost_ret (results_ctu rfl _ _ (w.heap.size + 1) _ _ rfl bB.2.1 Try.underlying29 rfl Try.sizeP) rfl ?_
    exact DecPost.no 1 bB.2.2
  obtain ⟨k, rfl⟩ := Int.eq_ofNat_of_zero_le (show 0 ≤ i by omega)
  have hk : k ≤ l.length := by omega
  have x0 := bB.1.cell 0 (.int .i64 G.1) rfl
  have x1 := bB.1.cell 1 (.int .i64 G.2.1) rfl
  have x2 := bB.1.cell 2 (.int .i64 G.2.2) rfl
  have H1 := h1
  have hnlt : ¬ (l.length : Int) < (k : Int) := h2
  have hgw := hide bB.2.2
  cases hm : mayF n G with
  | false =>
    have hno : ¬ (okG G ∧ 0 ≤ n ∧ n ≤ 20) := fun h => by unfold mayF at hm; rw [decide_eq_true h] at hm; cases hm
    have e : decP l k n G = (noP, 0, 1) := by unfold decP; rw [if_pos (.inr (.inr hno))]
    rw [e]
    rw [hm] at mb
    have bA := bB.2.1
    go_enter Try.func35, Try.ntmps35
    go_wp2_with fail
    refine (mb _).mono ?_
    rintro e W1 ⟨rfl, g1⟩
    have b1 := bA.grown g1
    have q0 := b1.cell 0 _ rfl
    have q1 := b1.cell 1 _ rfl
    have q2 := b1.cell 2 _ rfl
    have q3 := b1.cell 3 _ rfl
    have q4 := b1.cell 4 _ rfl
    have q5 := b1.cell 5 _ rfl
    have th := b1.thaws
    have F := hide (DecPost.no 1 (grown_set (grown_set (grown_set (grown_set (grown_set (grown_set ((unhide hgw).trans g1) (w.heap.size + 1) 0 (.int .i64 0) (Nat.le_succ _)) (w.heap.size + 1) 1 nilV (Nat.le_succ _)) (w.heap.size + 1) 2 nilV (Nat.le_succ _)) (w.heap.size + 1) 3 (.int .i64 0) (Nat.le_succ _)) (w.heap.size + 1) 4 (.int .i64 0) (Nat.le_succ _)) (w.heap.size + 1) 5 nilV (Nat.le_succ _)))
    have B6 := hide (b1.set6 (v0 := .int .i64 0) (v1 := nilV) (v2 := nilV) (v3 := .int .i64 0) (v4 := .int .i64 0) (v5 := nilV))
    clear b1 g1 bA bB mb
    go_wp2_with fail
    refine bodyPost_ret (results_ctu rfl _ _ (w.heap.size + 1) _ _ rfl (unhide B6) Try.underlying29 rfl Try.sizeP) rfl ?_
    exact unhide F
  | true =>
    have hyes : okG G ∧ 0 ≤ n ∧ n ≤ 20 := by unfold mayF at hm; exact of_decide_eq_true hm
    rw [hm] at mb
    have e : decP l k n G = decR (packR l G k n) := by
      unfold decP; rw [if_neg (fun h => by rcases h with h | h | h; exact h1 h; exact h2 h; exact h hyes)]; rfl
    rw [e]
    clear e hm
    have bA := bB.2.1
    have bG := bB.1
    go_enter Try.func35, Try.ntmps35
    go_wp2_with fail
    refine (mb _).mono ?_
    rintro e W1 ⟨rfl, g1⟩
    have b1 := bA.grown g1
    have bG1 := bG.grown g1
    have y0 := bG1.cell 0 (.int .i64 G.1) rfl
    have y1 := bG1.cell 1 (.int .i64 G.2.1) rfl
    have y2 := bG1.cell 2 (.int .i64 G.2.2) rfl
    have gA := (unhide hgw).trans g1
    have gR := World.grownBy_alloc W1 (.cells (rdp (.slice a l.length c) k 0 G) 85) none
    have R0 : Rdk (W1.alloc (.cells (rdp (.slice a l.length c) k 0 G) 85)) W1.heap.size a l c G (k, 0) := by
      have hs : w.heap.size ≤ W1.heap.size := gA.size
      refine ⟨Blk.new _ _ _, (hr.farC hc (g := W1.heap.size) (grown_any (gA.trans gR) _) (fun x e hp => ⟨by have := hne x e hp; omega, hne x e hp⟩)), hc, hc2, hk, fun x e hp => ⟨by have := hne x e hp; omega, ?_⟩, hpl⟩
      exact Nat.lt_of_lt_of_le (hne x e hp) (gA.trans gR).size
    have pk := packetS R0 hyes.1 hb n hyes.2
    have b2 := b1.alloc (.cells (rdp (.slice a l.length c) k 0 G) 85)
    have hs2 : w.heap.size + 1 < W1.heap.size := b1.lt
    clear mb bA bG bG1 b1 g1 R0 bB x0 x1 x2
    generalize packR l G k n = P at *
    obtain ⟨P, S, Y⟩ := P
    go_wp2_with fail
    refine pk.mono ?_
    intro e W3 hh
    obtain ⟨a1, n1, c1, a2, n2, c2, a3, n3, c3, rfl, o1, o2, o3, R3, g3⟩ := hh.shape
    clear hh pk
    have b3 := b2.far g3 (by omega)
    have gB : w.grownBy W3 none := grown_over (gA.trans gR) g3 (Nat.le_trans (Nat.le_succ _) (Nat.le_of_lt hs2))
    have hs3 : W1.heap.size < W3.heap.size := R3.blk.lt
    have c5 := R3.blk.cell 5 (.int .i64 Y) rfl
    have c1' := R3.blk.cell 1 (.int .i64 S) rfl
    have q0 := b3.cell 0 _ rfl
    have q1 := b3.cell 1 _ rfl
    have q2 := b3.cell 2 _ rfl
    have q3 := b3.cell 3 _ rfl
    have q4 := b3.cell 4 _ rfl
    have q5 := b3.cell 5 _ rfl
    have th := b3.thaws
    have gN := World.grownBy_alloc W3 (.cells (P.cs (.slice a1 n1 c1) (.slice a2 n2 c2) (.slice a3 n3 c3)) 29) none
    have z0 := (R3.blk.alloc (.cells (P.cs (.slice a1 n1 c1) (.slice a2 n2 c2) (.slice a3 n3 c3)) 29))
    have hsB : w.heap.size + 2 ≤ (W1.alloc (.cells (rdp (.slice a l.length c) k 0 G) 85)).heap.size := by show _ ≤ (W1.heap.push _).size; simp; omega
    by_cases hY : Y = 0
    · have hd : (Y == 0) = true := by simpa using hY
      have hd2 : (Y != 0) = false := by simpa using hY
      go_wp2_with fail
      have bN := Blk.new W3 (P.cs (.slice a1 n1 c1) (.slice a2 n2 c2) (.slice a3 n3 c3)) 29
      have b4 := b3.alloc (.cells (P.cs (.slice a1 n1 c1) (.slice a2 n2 c2) (.slice a3 n3 c3)) 29)
      have gC := gB.trans gN
      have p1 := (o1.far gN (fun q e => by cases e)).mono (base' := w.heap.size + 2) hsB
      have p2 := (o2.far gN (fun q e => by cases e)).mono (base' := w.heap.size + 2) hsB
      have p3 := (o3.1.far gN (fun q e => by cases e)).mono (base' := w.heap.size + 2) hsB
      generalize W3.alloc (.cells #[.int .i64 P.space, .slice a1 n1 c1, .slice a2 n2 c2, .int .i64 P.number, .int .i64 P.width, .slice a3 n3 c3] 29) = W4 at *
      have m0 := b4.cell 0 _ rfl
      have m1 := b4.cell 1 _ rfl
      have m2 := b4.cell 2 _ rfl
      have m3 := b4.cell 3 _ rfl
      have m4 := b4.cell 4 _ rfl
      have m5 := b4.cell 5 _ rfl
      have mt := b4.thaws
      have z1 := z0.cell 1 (.int .i64 S) rfl
      have z5 := z0.cell 5 (.int .i64 Y) rfl
      have r0 := bN.cell 0 (.int .i64 P.space) rfl
      have r1 := bN.cell 1 (.slice a1 n1 c1) rfl
      have r2 := bN.cell 2 (.slice a2 n2 c2) rfl
      have r3 := bN.cell 3 (.int .i64 P.number) rfl
      have r4 := bN.cell 4 (.int .i64 P.width) rfl
      have r5 := bN.cell 5 (.slice a3 n3 c3) rfl
      have gg : W4.grownBy ((((((W4.setCell ⟨w.heap.size + 1, 0, none⟩ (.int .i64 P.space)).setCell ⟨w.heap.size + 1, 1, none⟩ (.slice a1 n1 c1)).setCell ⟨w.heap.size + 1, 2, none⟩ (.slice a2 n2 c2)).setCell ⟨w.heap.size + 1, 3, none⟩ (.int .i64 P.number)).setCell ⟨w.heap.size + 1, 4, none⟩ (.int .i64 P.width)).setCell ⟨w.heap.size + 1, 5, none⟩ (.slice a3 n3 c3)) (some (w.heap.size + 1)) :=
        grown_at (grown_at (grown_at (grown_at (grown_at (grown_at (World.grownBy.refl W4 (some (w.heap.size + 1))) 0 _) 1 _) 2 _) 3 _) 4 _) 5 _
      have ho : ∀ q, some (w.heap.size + 1) = some q → q < w.heap.size + 2 := fun q e => by cases e; omega
      have F : Hid (DecPost w (decR (P, S, Y)) (.returned (.tuple #[P.val (.slice a1 n1 c1) (.slice a2 n2 c2) (.slice a3 n3 c3), .int .i64 S, .int .i64 0])) ((((((W4.setCell ⟨w.heap.size + 1, 0, none⟩ (.int .i64 P.space)).setCell ⟨w.heap.size + 1, 1, none⟩ (.slice a1 n1 c1)).setCell ⟨w.heap.size + 1, 2, none⟩ (.slice a2 n2 c2)).setCell ⟨w.heap.size + 1, 3, none⟩ (.int .i64 P.number)).setCell ⟨w.heap.size + 1, 4, none⟩ (.int .i64 P.width)).setCell ⟨w.heap.size + 1, 5, none⟩ (.slice a3 n3 c3))) := by
        unfold decR
        rw [if_pos hY]
        exact ⟨_, _, _, rfl, (p1.far gg ho).mono (by omega), (p2.far gg ho).mono (by omega), ⟨(p3.far gg ho).mono (by omega), o3.2⟩, grown_over gC gg (Nat.le_succ _)⟩
      have B6 := hide (b4.set6 (v0 := .int .i64 P.space) (v1 := .slice a1 n1 c1) (v2 := .slice a2 n2 c2) (v3 := .int .i64 P.number) (v4 := .int .i64 P.width) (v5 := .slice a3 n3 c3))
      clear gg ho p1 p2 p3 gC b4 bN z0 R3 b3 gB gA gR g3 o1 o2 o3 gN q0 q1 q2 q3 q4 q5 th b2 y0 y1 y2 hr hne hpl hgw c5 c1'
      go_region
      go_wp2_with fail
      refine bodyPost_ret (results_ctu rfl _ _ (w.heap.size + 1) _ _ rfl (Blk.drew (unhide B6)) Try.underlying29 rfl Try.sizeP) rfl ?_
      exact DecPost.drew (unhide F)
    · have hd : (Y == 0) = false := by simpa using hY
      have hd2 : (Y != 0) = true := by simpa using hY
      go_wp2_with fail
      have bN := Blk.new W3 (P.cs (.slice a1 n1 c1) (.slice a2 n2 c2) (.slice a3 n3 c3)) 29
      have b4 := b3.alloc (.cells (P.cs (.slice a1 n1 c1) (.slice a2 n2 c2) (.slice a3 n3 c3)) 29)
      have gC := gB.trans gN
      have p1 := (o1.far gN (fun q e => by cases e)).mono (base' := w.heap.size + 2) hsB
      have p2 := (o2.far gN (fun q e => by cases e)).mono (base' := w.heap.size + 2) hsB
      have p3 := (o3.1.far gN (fun q e => by cases e)).mono (base' := w.heap.size + 2) hsB
      generalize W3.alloc (.cells #[.int .i64 P.space, .slice a1 n1 c1, .slice a2 n2 c2, .int .i64 P.number, .int .i64 P.width, .slice a3 n3 c3] 29) = W4 at *
      have m0 := b4.cell 0 _ rfl
      have m1 := b4.cell 1 _ rfl
      have m2 := b4.cell 2 _ rfl
      have m3 := b4.cell 3 _ rfl
      have m4 := b4.cell 4 _ rfl
      have m5 := b4.cell 5 _ rfl
      have mt := b4.thaws
      have z1 := z0.cell 1 (.int .i64 S) rfl
      have z5 := z0.cell 5 (.int .i64 Y) rfl
      have gg : W4.grownBy ((((((W4.setCell ⟨w.heap.size + 1, 0, none⟩ (.int .i64 0)).setCell ⟨w.heap.size + 1, 1, none⟩ nilV).setCell ⟨w.heap.size + 1, 2, none⟩ nilV).setCell ⟨w.heap.size + 1, 3, none⟩ (.int .i64 0)).setCell ⟨w.heap.size + 1, 4, none⟩ (.int .i64 0)).setCell ⟨w.heap.size + 1, 5, none⟩ nilV) (some (w.heap.size + 1)) :=
        grown_at (grown_at (grown_at (grown_at (grown_at (grown_at (World.grownBy.refl W4 (some (w.heap.size + 1))) 0 _) 1 _) 2 _) 3 _) 4 _) 5 _
      have F : Hid (DecPost w (decR (P, S, Y)) (.returned (.tuple #[noP.val nilV nilV nilV, .int .i64 0, .int .i64 Y])) ((((((W4.setCell ⟨w.heap.size + 1, 0, none⟩ (.int .i64 0)).setCell ⟨w.heap.size + 1, 1, none⟩ nilV).setCell ⟨w.heap.size + 1, 2, none⟩ nilV).setCell ⟨w.heap.size + 1, 3, none⟩ (.int .i64 0)).setCell ⟨w.heap.size + 1, 4, none⟩ (.int .i64 0)).setCell ⟨w.heap.size + 1, 5, none⟩ nilV)) := by
        unfold decR
        rw [if_neg hY]
        exact DecPost.no Y (grown_over gC gg (Nat.le_succ _))
      have B6 := hide (b4.set6 (v0 := .int .i64 0) (v1 := nilV) (v2 := nilV) (v3 := .int .i64 0) (v4 := .int .i64 0) (v5 := nilV))
      clear gg p1 p2 p3 gC b4 bN z0 R3 b3 gB gA gR g3 o1 o2 o3 gN q0 q1 q2 q3 q4 q5 th b2 y0 y1 y2 hr hne hpl hgw c5 c1'
      go_region
      go_wp2_with fail
      refine bodyPost_ret (results_ctu rfl _ _ (w.heap.size + 1) _ _ rfl (Blk.drew (unhide B6)) Try.underlying29 rfl Try.sizeP) rfl ?_
      exact DecPost.drew (unhide F)


theorem decode_in (v : Value) (l : List Int) (i n : Int) (G : Lg) (w : World) (h : InB w v l) (hb : l.length ≤ 140737488355328) :
    Calls Try.prog 35 #[v, .int .i64 i, .int .i64 n, G.v] w (DecPost w (decP l i n G)) := by
  obtain ⟨a, c, rfl, hr, h1, h2, h3⟩ := h
  exact decode_any a l c i n G w hr h1 h2 hb (fun x e hc => (h3 x e hc).1) (fun x e hc => (h3 x e hc).2.2)
theorem DecPost.parts {w : World} {r : Pk × Int × Int} {e : Ending} {w' : World} (h : DecPost w r e w') : ∃ a1 n1 c1 a2 n2 c2 a3 n3 c3, e = .returned (.tuple #[r.1.val (.slice a1 n1 c1) (.slice a2 n2 c2) (.slice a3 n3 c3), .int .i64 r.2.1, .int .i64 r.2.2]) ∧ OwnB w.heap.size w' (.slice a1 n1 c1) r.1.dst ∧ OwnB w.heap.size w' (.slice a2 n2 c2) r.1.src ∧ OwnB w.heap.size w' (.slice a3 n3 c3) r.1.payload ∧ w.grownBy w' none ∧ n1 = r.1.dst.length ∧ n2 = r.1.src.length ∧ n3 = r.1.payload.length ∧ Sep3 (.slice a1 n1 c1) (.slice a2 n2 c2) (.slice a3 n3 c3) := by
  obtain ⟨d, s, y, rfl, o1, o2, o3, gr⟩ := h
  obtain ⟨a1, c1, rfl⟩ := o1.shape
  obtain ⟨a2, c2, rfl⟩ := o2.shape
  obtain ⟨a3, c3, rfl⟩ := o3.1.shape
  exact ⟨_, _, _, _, _, _, _, _, _, rfl, o1, o2, o3.1, gr, rfl, rfl, rfl, o3.2⟩

end Go.Proofs.Ytpcnpdippnljpaa.Sp

namespace Go.Proofs.Ytpcnpdippnljpaa
open Go.RowKit
open Sp (sepV Sep3 sep_nil sep_nil_r)
set_option linter.unusedVariables false
set_option maxRecDepth 100000
set_option maxHeartbeats 1000000

theorem OwnB.kept {base : Nat} {w w' : World} {v : Value} {d : List Int} (h : OwnB base w v d) (hk : ∀ g, v.ownBlock = some g → w'.heap[g]? = w.heap[g]?) : OwnB base w' v d := by
  refine ⟨h.1, ?_⟩
  rcases h.2 with h2 | ⟨g, cap, cur, rfl, q1, q2, q3⟩
  · exact .inl h2
  · exact .inr ⟨g, cap, cur, rfl, q1, by rw [hk g rfl]; exact q2, q3⟩

theorem row_kpt {base size n : Nat} {e : TypeId} {w w' : World} {v : Value} {xs : List Value} (h : w.ownsRow base e size v n xs) (hk : ∀ g, base ≤ g → g < w.heap.size → v.ownBlock = some g → w'.heap[g]? = w.heap[g]?) : w'.ownsRow base e size v n xs := by
  have hl := h.lt
  refine ⟨h.1, ?_⟩
  rcases h.2 with h2 | ⟨g, cap, cur, rfl, q1, q2, q3⟩
  · exact .inl h2
  · exact .inr ⟨g, cap, cur, rfl, q1, by rw [hk g (hl g rfl).1 (hl g rfl).2 rfl]; exact q2, q3⟩

/-- Rows of different kinds lie apart. -/
theorem row_ne {w : World} {b1 b2 s1 s2 n1 n2 : Nat} {e1 e2 : TypeId} {v1 v2 : Value} {x1 x2 : List Value} (h1 : w.ownsRow b1 e1 s1 v1 n1 x1) (h2 : w.ownsRow b2 e2 s2 v2 n2 x2) (he : e1 ≠ e2) {g : Nat} (hg : v1.ownBlock = some g) : some g ≠ v2.ownBlock := by
  intro e
  rcases h1.2 with ⟨rfl, -⟩ | ⟨g1, _, c1, rfl, -, q1, -⟩
  · cases hg
  · rcases h2.2 with ⟨rfl, -⟩ | ⟨g2, _, c2, rfl, -, q2, -⟩
    · cases e
    · cases hg
      have e' : g1 = g2 := by simpa [Value.ownBlock] using e
      subst e'
      rw [q1] at q2
      simp only [Option.some.injEq, Obj.cells.injEq] at q2
      exact he q2.2.1

structure PV where
  p : Pk
  d : Value
  s : Value
  y : Value
def PV.cl (x : PV) : List Value := [.int .i64 x.p.space, x.d, x.s, .int .i64 x.p.number, .int .i64 x.p.width, x.y]
def PV.vl (x : PV) : List Value := [x.d, x.s, x.y]
structure PV.In (x : PV) (B : Nat) (w : World) : Prop where
  d : OwnB B w x.d x.p.dst
  s : OwnB B w x.s x.p.src
  y : OwnB B w x.y x.p.payload
  ld : x.p.dst.length ≤ 140737488355000
  ls : x.p.src.length ≤ 140737488355000
  ly : x.p.payload.length ≤ 140737488355000
structure PRow (B : Nat) (w : World) (lv : Value) (ps : List PV) : Prop where
  row : w.ownsRow B 29 6 lv ps.length (ps.flatMap PV.cl)
  own : ∀ x ∈ ps, x.In B w
  sep : (ps.flatMap PV.vl).Pairwise sepV

theorem PV.In.kpt {x : PV} {B : Nat} {w w' : World} (h : x.In B w) (hk : ∀ g v n xs, w.ownsRow B 5 1 v n xs → v.ownBlock = some g → w'.heap[g]? = w.heap[g]?) : x.In B w' :=
  ⟨h.d.kept (fun g e => hk g _ _ _ h.d e), h.s.kept (fun g e => hk g _ _ _ h.s e), h.y.kept (fun g e => hk g _ _ _ h.y e), h.ld, h.ls, h.ly⟩
theorem PRow.kpt {B : Nat} {w w' : World} {lv : Value} {ps : List PV} (h : PRow B w lv ps) (hk : ∀ g, B ≤ g → g < w.heap.size → w'.heap[g]? = w.heap[g]?) : PRow B w' lv ps :=
  ⟨row_kpt h.row (fun g h1 h2 _ => hk g h1 h2), fun x hx => (h.own x hx).kpt (fun g v n xs ho e => hk g (ho.lt g e).1 (ho.lt g e).2), h.sep⟩
theorem PRow.grown {B : Nat} {w w' : World} {lv : Value} {ps : List PV} (h : PRow B w lv ps) (g : w.grownBy w' none) : PRow B w' lv ps := h.kpt (fun i _ hi => g.block i hi (by simp))
theorem PRow.nil (B : Nat) (w : World) : PRow B w nilV [] := ⟨World.ownsRow_nil _ _ _ _, by simp, by simp⟩

theorem Try.infoP : (Try.prog.info? 29).map (fun i => (i.zero, i.size, i.bytes)) = some (some (.agg (pcs 0 nilV nilV 0 0 nilV)), 6, 96) := by kernel_rfl

/-- One packet more. -/
theorem PRow.push {B : Nat} {w : World} {lv : Value} {ps : List PV} (h : PRow B w lv ps) (x : PV) (hx : x.In B w) (hs : Sep3 x.d x.s x.y) (hn : ∀ v ∈ ps.flatMap PV.vl, ∀ u ∈ x.vl, sepV v u) (few : ps.length ≤ 1000) (hB : B ≤ w.heap.size) :
    ∃ g c w', (Builtin.append_ #[22, 22] 22 #[lv, .slice (some ⟨w.heap.size, 0, none⟩) 1 1]).run Try.prog (w.alloc (.cells (x.p.cs x.d x.s x.y) 29)) = .ok (.slice (some ⟨g, 0, none⟩) (ps.length + 1) c) w'
      ∧ PRow B w' (.slice (some ⟨g, 0, none⟩) (ps.length + 1) c) (ps ++ [x]) ∧ Below B w w' := by
  obtain ⟨inf, hi0, hz0, hz1, hz2⟩ := info_parts Try.infoP
  have h1 := h.grown (World.grownBy_alloc w (.cells (x.p.cs x.d x.s x.y) 29) none)
  have hx1 : x.In B (w.alloc (.cells (x.p.cs x.d x.s x.y) 29)) := hx.kpt (fun g v n xs ho e => (World.grownBy_alloc w _ none).block g (ho.lt g e).2 (by simp))
  have hsz := alloc_size w (.cells (x.p.cs x.d x.s x.y) 29)
  have hnews : ∀ (i : Nat) u, x.cl[i]? = some u → (w.alloc (.cells (x.p.cs x.d x.s x.y) 29)).cell? ((⟨w.heap.size, 0, none⟩ : Addr).add i) = some u := fun i u hu => by
    rw [show (⟨w.heap.size, 0, none⟩ : Addr).add i = ⟨w.heap.size, i, none⟩ by simp [Addr.add]; exact fun e => e.symm]
    simp only [World.cell?, heap_alloc_new]
    rw [← hu]
    simp [PV.cl]
  have one : ∀ u ∈ x.cl, u.oneCell' = true := fun u hu => by
    simp only [PV.cl, List.mem_cons, List.not_mem_nil, or_false] at hu
    rcases hu with rfl | rfl | rfl | rfl | rfl | rfl
    · rfl
    · exact hx.d.one
    · exact hx.s.one
    · rfl
    · rfl
    · exact hx.y.one
  obtain ⟨v5, W5, hrun, o5, g5, -⟩ := run_append_own (P := Try.prog) (w.alloc (.cells (x.p.cs x.d x.s x.y) 29)) B 22 22 29 inf (.agg (pcs 0 nilV nilV 0 0 nilV)) 6 96 Try.underlying22 hi0 hz0 hz1 hz2 rfl (by decide) lv ps.length (ps.flatMap PV.cl) h1.row ⟨w.heap.size, 0, none⟩ 1 1 x.cl rfl hnews one (by unfold maxLen; omega) (by omega) (by omega)
  obtain ⟨h5, c5, rfl⟩ : ∃ h5 c5, v5 = .slice (some ⟨h5, 0, none⟩) (ps.length + 1) c5 := by
    rcases o5.2 with ⟨-, e⟩ | ⟨g6, cap, cur, e, -⟩
    · omega
    · exact ⟨g6, cap, e⟩
  have keep : ∀ g v n xs, (w.alloc (.cells (x.p.cs x.d x.s x.y) 29)).ownsRow B 5 1 v n xs → v.ownBlock = some g → W5.heap[g]? = (w.alloc (.cells (x.p.cs x.d x.s x.y) 29)).heap[g]? := fun g v n xs ho e =>
    g5.block g (ho.lt g e).2 (row_ne ho h1.row (by decide) e)
  refine ⟨h5, c5, W5, hrun, ⟨?_, ?_, ?_⟩, ?_⟩
  · have e1 : (ps ++ [x]).length = ps.length + 1 := by simp
    have e2 : (ps ++ [x]).flatMap PV.cl = ps.flatMap PV.cl ++ x.cl := by simp
    rw [e1, e2]; exact o5
  · intro q hq
    rcases List.mem_append.1 hq with hq | hq
    · exact (h1.own q hq).kpt keep
    · simp only [List.mem_singleton] at hq; subst hq
      exact hx1.kpt keep
  · rw [show (ps ++ [x]).flatMap PV.vl = ps.flatMap PV.vl ++ x.vl by simp, List.pairwise_append]
    refine ⟨h.sep, ?_, fun v hv u hu => hn v hv u hu⟩
    show List.Pairwise sepV [x.d, x.s, x.y]
    simp only [List.pairwise_cons, List.mem_cons, List.not_mem_nil, or_false, forall_eq_or_imp, forall_eq, List.Pairwise.nil, and_true, false_implies, implies_true]
    exact ⟨⟨hs.1, hs.2.1⟩, hs.2.2⟩
  · exact ((Below.refl B w).alloc hB _).grown g5 (by omega) (fun k e => (h1.row.lt k e).1)

theorem flat_six (f : PV → List Value) (n : Nat) (hf : ∀ x, (f x).length = n) (ps : List PV) (k : Nat) (x : PV) (hk : ps[k]? = some x) (j : Nat) (hj : j < n) : (ps.flatMap f)[k * n + j]? = (f x)[j]? := by
  induction ps generalizing k with
  | nil => simp at hk
  | cons a t ih =>
    rw [List.flatMap_cons]
    cases k with
    | zero =>
      simp at hk; subst hk
      rw [Nat.zero_mul, Nat.zero_add, List.getElem?_append_left (by rw [hf]; exact hj)]
    | succ k =>
      rw [List.getElem?_append_right (by rw [hf, Nat.succ_mul]; omega), hf, show (k + 1) * n + j - n = k * n + j by rw [Nat.succ_mul]; omega]
      exact ih k (by simpa using hk)
theorem flat_len (f : PV → List Value) (n : Nat) (hf : ∀ x, (f x).length = n) (ps : List PV) : (ps.flatMap f).length = ps.length * n := by
  induction ps with
  | nil => simp
  | cons a t ih => rw [List.flatMap_cons, List.length_append, ih, hf, List.length_cons, Nat.succ_mul]; omega

theorem PRow.cell {B : Nat} {w : World} {gl n cl : Nat} {ps : List PV} (h : PRow B w (.slice (some ⟨gl, 0, none⟩) n cl) ps) (k : Nat) (x : PV) (hk : ps[k]? = some x) (j : Nat) (hj : j < 6) : w.cell? ⟨gl, k * 6 + j, none⟩ = x.cl[j]? := by
  rcases h.row.2 with ⟨e, -⟩ | ⟨g, cap, cur, e, q1, q2, q3, q4, q5, q6⟩
  · cases e
  · simp only [Value.slice.injEq, Option.some.injEq, Addr.mk.injEq, and_true] at e
    obtain ⟨rfl, rfl, rfl⟩ := e
    have hlt : k < ps.length := by
      by_cases c : k < ps.length
      · exact c
      · rw [List.getElem?_eq_none (by omega)] at hk; cases hk
    simp only [World.cell?, q2]
    have e : (cur.toList.take (ps.length * 6))[k * 6 + j]? = (ps.flatMap PV.cl)[k * 6 + j]? := by rw [q6]
    rw [List.getElem?_take, if_pos (by omega), Array.getElem?_toList] at e
    rw [e]
    exact flat_six PV.cl 6 (fun _ => rfl) ps k x hk j hj
end Go.Proofs.Ytpcnpdippnljpaa

namespace Go.Proofs.Ytpcnpdippnljpaa
open Go.RowKit
open Sp (sepV Sep3 sep_nil sep_nil_r)

set_option linter.unusedVariables false
set_option maxRecDepth 100000
set_option maxHeartbeats 1000000

structure PRow0 (B : Nat) (w : World) (lv : Value) (ps : List PV) : Prop where
  row : w.ownsRow B 29 6 lv ps.length (ps.flatMap PV.cl)
  own : ∀ x ∈ ps, x.In B w
theorem PRow0.kpt {B : Nat} {w w' : World} {lv : Value} {ps : List PV} (h : PRow0 B w lv ps) (hk : ∀ g, B ≤ g → g < w.heap.size → w'.heap[g]? = w.heap[g]?) : PRow0 B w' lv ps :=
  ⟨row_kpt h.row (fun g h1 h2 _ => hk g h1 h2), fun x hx => (h.own x hx).kpt (fun g v n xs ho e => hk g (ho.lt g e).1 (ho.lt g e).2)⟩
theorem PRow0.grown {B : Nat} {w w' : World} {lv : Value} {ps : List PV} (h : PRow0 B w lv ps) (g : w.grownBy w' none) : PRow0 B w' lv ps := h.kpt (fun i _ hi => g.block i hi (by simp))
theorem PRow0.nil (B : Nat) (w : World) : PRow0 B w nilV [] := ⟨World.ownsRow_nil _ _ _ _, by simp⟩
theorem PRow.zero {B : Nat} {w : World} {lv : Value} {ps : List PV} (h : PRow B w lv ps) : PRow0 B w lv ps := ⟨h.row, h.own⟩
theorem row_mono {base base' size n : Nat} {e : TypeId} {w : World} {v : Value} {xs : List Value} (h : w.ownsRow base e size v n xs) (hb : base' ≤ base) : w.ownsRow base' e size v n xs := by
  refine ⟨h.1, ?_⟩
  rcases h.2 with h2 | ⟨g, cap, cur, e1, q1, q2⟩
  · exact .inl h2
  · exact .inr ⟨g, cap, cur, e1, Nat.le_trans hb q1, q2⟩
theorem PRow0.mono {B B' : Nat} {w : World} {lv : Value} {ps : List PV} (h : PRow0 B w lv ps) (hb : B' ≤ B) : PRow0 B' w lv ps :=
  ⟨row_mono h.row hb, fun x hx => ⟨(h.own x hx).d.mono hb, (h.own x hx).s.mono hb, (h.own x hx).y.mono hb, (h.own x hx).ld, (h.own x hx).ls, (h.own x hx).ly⟩⟩
/-- One packet more. -/
theorem PRow0.push {B : Nat} {w : World} {lv : Value} {ps : List PV} (h : PRow0 B w lv ps) (x : PV) (hx : x.In B w) (few : ps.length ≤ 1000000000) (hB : B ≤ w.heap.size) :
    ∃ g c w', (Builtin.append_ #[22, 22] 22 #[lv, .slice (some ⟨w.heap.size, 0, none⟩) 1 1]).run Try.prog (w.alloc (.cells (x.p.cs x.d x.s x.y) 29)) = .ok (.slice (some ⟨g, 0, none⟩) (ps.length + 1) c) w'
      ∧ PRow0 B w' (.slice (some ⟨g, 0, none⟩) (ps.length + 1) c) (ps ++ [x]) ∧ Below B w w' := by
  obtain ⟨inf, hi0, hz0, hz1, hz2⟩ := info_parts Try.infoP
  have h1 := h.grown (World.grownBy_alloc w (.cells (x.p.cs x.d x.s x.y) 29) none)
  have hx1 : x.In B (w.alloc (.cells (x.p.cs x.d x.s x.y) 29)) := hx.kpt (fun g v n xs ho e => (World.grownBy_alloc w _ none).block g (ho.lt g e).2 (by simp))
  have hsz := alloc_size w (.cells (x.p.cs x.d x.s x.y) 29)
  have hnews : ∀ (i : Nat) u, x.cl[i]? = some u → (w.alloc (.cells (x.p.cs x.d x.s x.y) 29)).cell? ((⟨w.heap.size, 0, none⟩ : Addr).add i) = some u := fun i u hu => by
    rw [show (⟨w.heap.size, 0, none⟩ : Addr).add i = ⟨w.heap.size, i, none⟩ by simp [Addr.add]; exact fun e => e.symm]
    simp only [World.cell?, heap_alloc_new]
    rw [← hu]
    simp [PV.cl]
  have one : ∀ u ∈ x.cl, u.oneCell' = true := fun u hu => by
    simp only [PV.cl, List.mem_cons, List.not_mem_nil, or_false] at hu
    rcases hu with rfl | rfl | rfl | rfl | rfl | rfl
    · rfl
    · exact hx.d.one
    · exact hx.s.one
    · rfl
    · rfl
    · exact hx.y.one
  obtain ⟨v5, W5, hrun, o5, g5, -⟩ := run_append_own (P := Try.prog) (w.alloc (.cells (x.p.cs x.d x.s x.y) 29)) B 22 22 29 inf (.agg (pcs 0 nilV nilV 0 0 nilV)) 6 96 Try.underlying22 hi0 hz0 hz1 hz2 rfl (by decide) lv ps.length (ps.flatMap PV.cl) h1.row ⟨w.heap.size, 0, none⟩ 1 1 x.cl rfl hnews one (by unfold maxLen; omega) (by omega) (by omega)
  obtain ⟨h5, c5, rfl⟩ : ∃ h5 c5, v5 = .slice (some ⟨h5, 0, none⟩) (ps.length + 1) c5 := by
    rcases o5.2 with ⟨-, e⟩ | ⟨g6, cap, cur, e, -⟩
    · omega
    · exact ⟨g6, cap, e⟩
  have keep : ∀ g v n xs, (w.alloc (.cells (x.p.cs x.d x.s x.y) 29)).ownsRow B 5 1 v n xs → v.ownBlock = some g → W5.heap[g]? = (w.alloc (.cells (x.p.cs x.d x.s x.y) 29)).heap[g]? := fun g v n xs ho e =>
    g5.block g (ho.lt g e).2 (row_ne ho h1.row (by decide) e)
  refine ⟨h5, c5, W5, hrun, ⟨?_, ?_⟩, ?_⟩
  · have e1 : (ps ++ [x]).length = ps.length + 1 := by simp
    have e2 : (ps ++ [x]).flatMap PV.cl = ps.flatMap PV.cl ++ x.cl := by simp
    rw [e1, e2]; exact o5
  · intro q hq
    rcases List.mem_append.1 hq with hq | hq
    · exact (h1.own q hq).kpt keep
    · simp only [List.mem_singleton] at hq; subst hq
      exact hx1.kpt keep
  · exact ((Below.refl B w).alloc hB _).grown g5 (by omega) (fun k e => (h1.row.lt k e).1)


theorem sep_push {ps : List PV} (x : PV) (h : (ps.flatMap PV.vl).Pairwise sepV) (hs : Sep3 x.d x.s x.y) (hn : ∀ v ∈ ps.flatMap PV.vl, ∀ u ∈ x.vl, sepV v u) : ((ps ++ [x]).flatMap PV.vl).Pairwise sepV := by
  rw [show (ps ++ [x]).flatMap PV.vl = ps.flatMap PV.vl ++ x.vl by simp, List.pairwise_append]
  refine ⟨h, ?_, fun v hv u hu => hn v hv u hu⟩
  show List.Pairwise sepV [x.d, x.s, x.y]
  simp only [List.pairwise_cons, List.mem_cons, List.not_mem_nil, or_false, forall_eq_or_imp, forall_eq, List.Pairwise.nil, and_true, false_implies, implies_true]
  exact ⟨⟨hs.1, hs.2.1⟩, hs.2.2⟩

/-- A datagram, read from 'at' on. -/
def splF (l : List Int) (n : Int) (G : Lg) : Nat → Nat → List Pk × Nat
  | 0, at_ => ([], at_)
  | f + 1, at_ => if at_ < l.length ∧ (decP l at_ n G).2.2 = 0 then
      ((decP l at_ n G).1 :: (splF l n G f (decP l at_ n G).2.1.toNat).1, (splF l n G f (decP l at_ n G).2.1.toNat).2)
    else ([], at_)
theorem splF_end {l : List Int} {n : Int} {G : Lg} {f k : Nat} (h : ¬ (k < l.length ∧ (decP l k n G).2.2 = 0)) : splF l n G f k = ([], k) := by
  cases f with
  | zero => rfl
  | succ f => show (if _ then _ else _) = _; rw [if_neg h]
theorem splF_step {l : List Int} {n : Int} {G : Lg} {f k e : Nat} {p : Pk} (hk : k < l.length) (h : decP l k n G = (p, (e : Int), 0)) : splF l n G (f + 1) k = (p :: (splF l n G f e).1, (splF l n G f e).2) := by
  show (if _ then _ else _) = _
  rw [if_pos ⟨hk, by rw [h]⟩, h]
  simp

structure Good1 (p : Pk) : Prop where
  bd : ∀ x ∈ p.dst, IsB x
  bs : ∀ x ∈ p.src, IsB x
  by_ : ∀ x ∈ p.payload, IsB x
  ld : p.dst.length ≤ 140737488355000
  ls : p.src.length ≤ 140737488355000
  ly : p.payload.length ≤ 140737488355000
theorem dec_on (l : List Int) (k : Nat) (n : Int) (G : Lg) (hb : ∀ x ∈ l, IsB x) (hl : l.length ≤ 100000000) : (∃ y, y ≠ 0 ∧ decP l k n G = (noP, 0, y)) ∨ ∃ e p, decP l k n G = (p, ((e : Nat) : Int), 0) ∧ k < e ∧ e ≤ l.length ∧ Good1 p := by
  rcases dec_cases l k n G hb with h | ⟨k', m, p, e0, -, -, -, e, g⟩
  · exact .inl h
  · obtain rfl : k = k' := by omega
    exact .inr ⟨m, p, e, g.lt, g.le, ⟨g.bd, g.bs, g.by_, by have := g.d; omega, by have := g.s; omega, by have := g.yl; omega⟩⟩

end Go.Proofs.Ytpcnpdippnljpaa

namespace Go.Proofs.Ytpcnpdippnljpaa
open Go.RowKit
open Sp (sepV Sep3 sep_nil sep_nil_r)
set_option linter.unusedVariables false
set_option maxRecDepth 100000
set_option maxHeartbeats 1000000

theorem wpList_append_runQ {P : Program} (w : World) {ops : Array Oper} {rest : List Oper} {o : Oper} {a : Act} {Q : Exit → Act → World → Prop} (hgd : o.guard = none) (d s : Operand) (t t' : TypeId)
    (ho : o.op = .call { callee := .builtin .append, args := #[d, s], argTypes := #[t, t'] }) (v u : Value) (hv : a.eval d = v) (hu : a.eval s = u) {v' : Value} {w' : World}
    (hr : (Builtin.append_ #[t, t'] o.type #[v, u]).run P w = .ok v' w') (h : wpList P ops Q rest (a.put o.dst v') w') : wpList P ops Q (o :: rest) a w := by
  refine wpList_plain hgd fun K hK => ?_
  unfold Oper.wp execOp
  simp only [ho, resolve, invoke, builtin, Sem.run_bind, Sem.run_pure, Result.andThen_ok, List.map_toArray, List.map_cons, List.map_nil, hv, hu, hr]
  exact hK _ _ h

/-- What Split leaves (the document's; the code's: the lists apart). -/
def Spl0 (w : World) (l : List Int) (A : List Pk × Nat) (e : Ending) (w' : World) : Prop :=
  ∃ (a : Option Addr) (m c : Nat) (ps : List PV), e = .returned (.tuple #[.slice a m c, .int .i64 (A.2 : Int)]) ∧ ps.length = m ∧ m ≤ l.length ∧ PRow0 w.heap.size w' (.slice a m c) ps ∧ ps.map PV.p = A.1 ∧ (∀ x ∈ ps, Good1 x.p) ∧ w.grownBy w' none
def SplS (w : World) (l : List Int) (A : List Pk × Nat) (e : Ending) (w' : World) : Prop :=
  ∃ (a : Option Addr) (m c : Nat) (ps : List PV), e = .returned (.tuple #[.slice a m c, .int .i64 (A.2 : Int)]) ∧ ps.length = m ∧ m ≤ l.length ∧ PRow0 w.heap.size w' (.slice a m c) ps ∧ (ps.flatMap PV.vl).Pairwise sepV ∧ ps.map PV.p = A.1 ∧ (∀ x ∈ ps, Good1 x.p) ∧ w.grownBy w' none

theorem split_any (v : Value) (l : List Int) (n : Int) (G : Lg) (w : World) (hv : InB w v l) (hl : l.length ≤ 100000000) :
    Calls Try.prog 22 #[v, .int .i64 n, G.v] w (SplS w l (splF l n G (l.length + 1) 0)) := by
  obtain ⟨a0, c0, rfl, -⟩ := id hv
  have HV := hide hv
  have HBY := hide hv.bytes
  clear hv
  have b0 := Blk.new w #[.int .i64 G.1, .int .i64 G.2.1, .int .i64 G.2.2] 49
  have g0 := World.grownBy_alloc w (.cells #[.int .i64 G.1, .int .i64 G.2.1, .int .i64 G.2.2] 49) none
  have sz0 := alloc_size w (.cells #[.int .i64 G.1, .int .i64 G.2.1, .int .i64 G.2.2] 49)
  have hml : ¬ (9223372036854775807 : Int) < (l.length : Int) := by omega
  generalize hA : splF l n G (l.length + 1) 0 = A at *
  have HA := hide hA
  clear hA
  go_enter Try.func22, Try.ntmps22
  go_wp2_with fail
  have START : Hid (Blk (w.alloc (.cells #[.int .i64 G.1, .int .i64 G.2.1, .int .i64 G.2.2] 49)) w.heap.size #[.int .i64 G.1, .int .i64 G.2.1, .int .i64 G.2.2] 49 ∧ w.grownBy (w.alloc (.cells #[.int .i64 G.1, .int .i64 G.2.1, .int .i64 G.2.2] 49)) none ∧ w.heap.size + 1 ≤ (w.alloc (.cells #[.int .i64 G.1, .int .i64 G.2.1, .int .i64 G.2.2] 49)).heap.size) := ⟨b0, g0, by omega⟩
  clear b0 g0 sz0
  generalize w.alloc (.cells #[.int .i64 G.1, .int .i64 G.2.1, .int .i64 G.2.2] 49) = W0 at *
  go_step3
  go_wp2_with fail
  go_step3
  go_wp2_with fail
  generalize hgG : w.heap.size = gG at *
  have HgG := hide hgG
  clear hgG
  go_loopw [8, 9] (fun lv at_ wr => ∃ (k : Nat) (a : Option Addr) (m c f : Nat) (ps : List PV), k ≤ l.length ∧ at_ = .int .i64 k ∧ lv = .slice a m c ∧ Hid (ps.length = m ∧ m ≤ k ∧ l.length < k + f ∧ A = (ps.map PV.p ++ (splF l n G f k).1, (splF l n G f k).2) ∧ PRow0 (gG + 1) wr (.slice a m c) ps ∧ (ps.flatMap PV.vl).Pairwise sepV ∧ (∀ x ∈ ps, Good1 x.p) ∧ Blk wr gG #[.int .i64 G.1, .int .i64 G.2.1, .int .i64 G.2.2] 49 ∧ w.grownBy wr none ∧ gG + 1 ≤ wr.heap.size)) (fun _ at_ _ => l.length - (intOf at_).toNat)
  case atStart => exact ⟨0, none, 0, 0, l.length + 1, [], Nat.zero_le _, rfl, rfl, rfl, Nat.le_refl _, by omega, by rw [unhide HA]; simp, PRow0.nil _ _, by simp, by simp, (unhide START).1, (unhide START).2.1, (unhide START).2.2⟩
  case round =>
    clear START
    obtain ⟨k, a, m, c, f, ps, hk, rfl, rfl, H⟩ := hrel
    by_cases hlt : k < l.length
    · have kN : (k : Int) < (l.length : Int) := by omega
      obtain ⟨h1, h2, h3, h4, pr, sp, gd1, bG, gr, hB⟩ := unhide H
      have n0 := bG.cell 0 (.int .i64 G.1) rfl
      have n1 := bG.cell 1 (.int .i64 G.2.1) rfl
      have n2 := bG.cell 2 (.int .i64 G.2.2) rfl
      have de : Calls Try.prog 35 #[.slice a0 l.length c0, .int .i64 k, .int .i64 n, G.v] wr (Sp.DecPost wr (decP l k n G)) := Sp.decode_in _ l k n G wr ((unhide HV).grown gr) (by omega)
      have on := dec_on l k n G (unhide HBY) hl
      have HON := hide on
      have DE := hide de
      clear on de h1 h2 h3 h4 pr sp gd1 bG gr hB
      rcases unhide HON with ⟨y, hy, er⟩ | ⟨e1, p, er, lt1, le1, gp⟩
      · rw [er] at DE
        have yb : (y == 0) = false := by simpa using hy
        have yn : (y != 0) = true := by simpa using hy
        have FIN : Hid (∀ W, wr.grownBy W none → SplS w l A (.returned (.tuple #[.slice a m c, .int .i64 (k : Int)])) W) := by
          intro W gW
          obtain ⟨h1, h2, h3, h4, pr, sp, gd1, bG, gr, hB⟩ := unhide H
          rw [splF_end (fun h => by rw [er] at h; exact hy h.2)] at h4
          show ∃ (a' : Option Addr) (m' c' : Nat) (ps : List PV), _
          refine ⟨a, m, c, ps, by rw [h4], h1, by omega, (pr.grown gW).mono (by rw [unhide HgG]; exact Nat.le_succ _), sp, by rw [h4]; simp, gd1, gr.trans gW⟩
        clear H HON er hy
        go_wp2_with fail
        refine (unhide DE).mono ?_
        intro e W3 hd
        obtain ⟨b1, m1, f1, b2, m2, f2, b3, m3, f3, rfl, o1, o2, o3, gd, q1, q2, q3, s3⟩ := hd.parts
        have E := hide (unhide FIN _ (gd.trans (World.grownBy_alloc W3 (.cells (noP.cs (.slice b1 m1 f1) (.slice b2 m2 f2) (.slice b3 m3 f3)) 29) none)))
        clear DE FIN o1 o2 o3 gd q1 q2 q3 hd s3
        go_wp2_with fail
        try rw [Exit.noGoto_ret]
        go_ret2
        exact unhide E
      · rw [er] at DE
        have STEP : Hid (∀ W3 (b1 b2 b3 : Option Addr) (m1 m2 m3 f1 f2 f3 : Nat), wr.grownBy W3 none → OwnB wr.heap.size W3 (.slice b1 m1 f1) p.dst → OwnB wr.heap.size W3 (.slice b2 m2 f2) p.src → OwnB wr.heap.size W3 (.slice b3 m3 f3) p.payload → Sep3 (.slice b1 m1 f1) (.slice b2 m2 f2) (.slice b3 m3 f3) → 
            ∃ g' c' w', (Builtin.append_ #[22, 22] 22 #[.slice a m c, .slice (some ⟨W3.heap.size + 1, 0, none⟩) 1 1]).run Try.prog ((W3.alloc (.cells (p.cs (.slice b1 m1 f1) (.slice b2 m2 f2) (.slice b3 m3 f3)) 29)).alloc (.cells (p.cs (.slice b1 m1 f1) (.slice b2 m2 f2) (.slice b3 m3 f3)) 29)) = .ok (.slice (some ⟨g', 0, none⟩) (m + 1) c') w'
              ∧ ∃ (k' : Nat) (a : Option Addr) (m' c f : Nat) (ps : List PV), k' ≤ l.length ∧ Value.int .i64 (e1 : Int) = .int .i64 k' ∧ Value.slice (some ⟨g', 0, none⟩) (m + 1) c' = .slice a m' c ∧ Hid (ps.length = m' ∧ m' ≤ k' ∧ l.length < k' + f ∧ A = (ps.map PV.p ++ (splF l n G f k').1, (splF l n G f k').2) ∧ PRow0 (gG + 1) w' (.slice a m' c) ps ∧ (ps.flatMap PV.vl).Pairwise sepV ∧ (∀ x ∈ ps, Good1 x.p) ∧ Blk w' gG #[.int .i64 G.1, .int .i64 G.2.1, .int .i64 G.2.2] 49 ∧ w.grownBy w' none ∧ gG + 1 ≤ w'.heap.size)) := by
          intro W3 b1 b2 b3 m1 m2 m3 f1 f2 f3 gd o1 o2 o3 s3
          obtain ⟨h1, h2, h3, h4, pr, sp, gd1, bG, gr, hB⟩ := unhide H
          have gN := World.grownBy_alloc W3 (.cells (p.cs (.slice b1 m1 f1) (.slice b2 m2 f2) (.slice b3 m3 f3)) 29) none
          have sN := alloc_size W3 (.cells (p.cs (.slice b1 m1 f1) (.slice b2 m2 f2) (.slice b3 m3 f3)) 29)
          have gall := gd.trans gN
          have xin : PV.In ⟨p, .slice b1 m1 f1, .slice b2 m2 f2, .slice b3 m3 f3⟩ (gG + 1) (W3.alloc (.cells (p.cs (.slice b1 m1 f1) (.slice b2 m2 f2) (.slice b3 m3 f3)) 29)) :=
            ⟨(o1.far gN (fun q e => by cases e)).mono hB, (o2.far gN (fun q e => by cases e)).mono hB, (o3.far gN (fun q e => by cases e)).mono hB, gp.ld, gp.ls, gp.ly⟩
          obtain ⟨g', c', w', hrun, pr', bl⟩ := (pr.grown gall).push ⟨p, .slice b1 m1 f1, .slice b2 m2 f2, .slice b3 m3 f3⟩ xin (by omega) (Nat.le_trans hB gall.size)
          rw [sN] at hrun
          rw [h1] at hrun pr'
          obtain ⟨f, rfl⟩ : ∃ f', f = f' + 1 := ⟨f - 1, by omega⟩
          rw [splF_step hlt er] at h4
          refine ⟨g', c', w', hrun, e1, some ⟨g', 0, none⟩, m + 1, c', f, ps ++ [⟨p, .slice b1 m1 f1, .slice b2 m2 f2, .slice b3 m3 f3⟩], le1, rfl, rfl, by simp [h1], by omega, by omega, by rw [h4]; simp, pr', ?_, ?_, (bl.block gG (Nat.lt_succ_self _)).trans (bG.grown gall), ?_, Nat.le_trans (Nat.le_trans hB gall.size) bl.size⟩
          · refine sep_push _ sp s3 (fun v hv u hu => ?_)
            rw [List.mem_flatMap] at hv
            obtain ⟨x, hx, hv⟩ := hv
            have xo := pr.own x hx
            have key : ∀ d, OwnB (gG + 1) wr v d → sepV v u := fun d hd => by
              simp only [PV.vl, List.mem_cons, List.not_mem_nil, or_false] at hu
              rcases hu with rfl | rfl | rfl
              · exact Sp.own_sep hd o1 (Nat.le_refl _)
              · exact Sp.own_sep hd o2 (Nat.le_refl _)
              · exact Sp.own_sep hd o3 (Nat.le_refl _)
            simp only [PV.vl, List.mem_cons, List.not_mem_nil, or_false] at hv
            rcases hv with rfl | rfl | rfl
            · exact key _ xo.d
            · exact key _ xo.s
            · exact key _ xo.y
          · intro x hx
            rcases List.mem_append.1 hx with hx | hx
            · exact gd1 x hx
            · simp only [List.mem_singleton] at hx; subst hx; exact gp
          · have bl' : Below w.heap.size w w' := (grown_bel (gr.trans gall)).trans (bl.mono (by rw [unhide HgG]; omega))
            exact below_grown bl'
        clear H HON er gp
        go_wp2_with fail
        refine (unhide DE).mono ?_
        intro e W3 hd
        obtain ⟨b1, m1, f1, b2, m2, f2, b3, m3, f3, rfl, o1, o2, o3, gd, q1, q2, q3, s3⟩ := hd.parts
        have bN := Blk.new W3 (p.cs (.slice b1 m1 f1) (.slice b2 m2 f2) (.slice b3 m3 f3)) 29
        have z0 := bN.cell 0 (.int .i64 p.space) rfl
        have z1 := bN.cell 1 (.slice b1 m1 f1) rfl
        have z2 := bN.cell 2 (.slice b2 m2 f2) rfl
        have z3 := bN.cell 3 (.int .i64 p.number) rfl
        have z4 := bN.cell 4 (.int .i64 p.width) rfl
        have z5 := bN.cell 5 (.slice b3 m3 f3) rfl
        obtain ⟨g', c', w', hrun, NXT⟩ := unhide STEP W3 b1 b2 b3 m1 m2 m3 f1 f2 f3 gd o1 o2 o3 s3
        have HRUN := hide hrun
        have HNX := hide NXT
        clear DE STEP o1 o2 o3 gd q1 q2 q3 hd bN hrun NXT s3
        go_wp2_with (at_builtin; refine wpList_append_runQ _ rfl _ _ 22 22 rfl _ _ rfl rfl (unhide HRUN) ?_)
        exact ⟨unhide HNX, by simp [intOf]; omega⟩
    · obtain rfl : k = l.length := by omega
      have kN : ¬ (l.length : Int) < (l.length : Int) := by omega
      have E : Hid (SplS w l A (.returned (.tuple #[.slice a m c, .int .i64 (l.length : Int)])) wr) := by
        obtain ⟨h1, h2, h3, h4, pr, sp, gd1, bG, gr, hB⟩ := unhide H
        rw [splF_end (fun h => by omega)] at h4
        show ∃ (a' : Option Addr) (m' c' : Nat) (ps : List PV), _
        refine ⟨a, m, c, ps, by rw [h4], h1, h2, pr.mono (by rw [unhide HgG]; exact Nat.le_succ _), sp, by rw [h4]; simp, gd1, gr⟩
      clear H
      go_wp2_with fail
      try rw [Exit.noGoto_ret]
      go_ret2
      exact unhide E

end Go.Proofs.Ytpcnpdippnljpaa

namespace Go.Proofs.Ytpcnpdippnljpaa
open Go.RowKit
open Sp (sepV Sep3 sep_nil sep_nil_r)
set_option linter.unusedVariables false
set_option maxRecDepth 100000
set_option maxHeartbeats 1000000


theorem PRow0.cell {B : Nat} {w : World} {gl n cl : Nat} {ps : List PV} (h : PRow0 B w (.slice (some ⟨gl, 0, none⟩) n cl) ps) (k : Nat) (x : PV) (hk : ps[k]? = some x) (j : Nat) (hj : j < 6) : w.cell? ⟨gl, k * 6 + j, none⟩ = x.cl[j]? := by
  rcases h.row.2 with ⟨e, -⟩ | ⟨g, cap, cur, e, q1, q2, q3, q4, q5, q6⟩
  · cases e
  · simp only [Value.slice.injEq, Option.some.injEq, Addr.mk.injEq, and_true] at e
    obtain ⟨rfl, rfl, rfl⟩ := e
    have hlt : k < ps.length := by
      by_cases c : k < ps.length
      · exact c
      · rw [List.getElem?_eq_none (by omega)] at hk; cases hk
    simp only [World.cell?, q2]
    have e : (cur.toList.take (ps.length * 6))[k * 6 + j]? = (ps.flatMap PV.cl)[k * 6 + j]? := by rw [q6]
    rw [List.getElem?_take, if_pos (by omega), Array.getElem?_toList] at e
    rw [e]
    exact flat_six PV.cl 6 (fun _ => rfl) ps k x hk j hj
theorem PRow0.some_ {B : Nat} {w : World} {a : Option Addr} {n c : Nat} {ps : List PV} (h : PRow0 B w (.slice a n c) ps) (hn : ps.length = n) (h0 : 0 < n) : ∃ g, a = some ⟨g, 0, none⟩ ∧ n ≤ c ∧ c ≤ 9223372036854775807 ∧ B ≤ g ∧ g < w.heap.size := by
  have lt := h.row.lt
  rcases h.row.2 with ⟨e, e2⟩ | ⟨g, cap, cur, e, q1, q2, q3, q4, q5, q6⟩
  · omega
  · simp only [Value.slice.injEq] at e
    obtain ⟨rfl, e2, rfl⟩ := e
    unfold maxLen at q4
    exact ⟨g, rfl, by omega, by omega, q1, (lt g rfl).2⟩

end Go.Proofs.Ytpcnpdippnljpaa

namespace Go.Proofs.Ytpcnpdippnljpaa.Rw
open Go.RowKit
set_option linter.unusedVariables false
set_option maxRecDepth 100000

/-- A datagram, read from 'at' on. -/
def splF (l : List Int) (n : Int) (G : Lg) : Nat → Nat → List Pk × Nat
  | 0, at_ => ([], at_)
  | f + 1, at_ => if at_ < l.length ∧ (decP l at_ n G).2.2 = 0 then
      ((decP l at_ n G).1 :: (splF l n G f (decP l at_ n G).2.1.toNat).1, (splF l n G f (decP l at_ n G).2.1.toNat).2)
    else ([], at_)
theorem splF_end {l : List Int} {n : Int} {G : Lg} {f k : Nat} (h : ¬ (k < l.length ∧ (decP l k n G).2.2 = 0)) : splF l n G f k = ([], k) := by
  cases f with
  | zero => rfl
  | succ f => show (if _ then _ else _) = _; rw [if_neg h]
theorem splF_step {l : List Int} {n : Int} {G : Lg} {f k e : Nat} {p : Pk} (hk : k < l.length) (h : decP l k n G = (p, (e : Int), 0)) : splF l n G (f + 1) k = (p :: (splF l n G f e).1, (splF l n G f e).2) := by
  show (if _ then _ else _) = _
  rw [if_pos ⟨hk, by rw [h]⟩, h]
  simp

theorem dead (l : List Int) (G : Lg) (s : St) (x n : Int) (h : (sS1 s x).2 ≠ 0) : (shortR l G s x n).2 = sS1 s x := by
  have e2 : sS2 l s x n = ([], sS1 s x) := rBytes_no h
  have e3 : (sS3 l G s x n).2 = sS1 s x := by unfold sS3 rNum rPlain; rw [e2]; simp only; rw [rRead_no h]
  show (sS4 l G s x n).2 = _
  unfold sS4
  rw [e3, rBytes_no h]

/-- Junk that starts below 64 is no packet. -/
theorem junk_no (la R : List Int) (x : Int) (G : Lg) (n : Int) (hx : 0 ≤ x ∧ x < 64) : (decP (la ++ x :: R) la.length n G).2.2 ≠ 0 := by
  have hd : (la ++ x :: R).drop la.length = x :: R := List.drop_left
  obtain ⟨e1, -⟩ := byte_at hd
  have hb : bitS x = false := decide_eq_false (by omega)
  have s1 : (sS1 (la.length + 1, 0) x).2 = 51 := by unfold sS1; rw [hb]; unfold rMust; rw [if_pos ⟨rfl, rfl⟩]
  have e : (packR (la ++ x :: R) G la.length n).2.2 = 51 := by
    unfold packR
    rw [e1, if_neg (by simp only; omega), dead _ _ _ _ _ (by rw [s1]; decide), s1]
  unfold decP
  split
  · decide
  · rw [Int.toNat_natCast, e, if_neg (by decide)]
    show (51 : Int) ≠ 0
    decide

/-- The packets that were laid one behind the other: each may be encoded, is found again, and a short one is the last. -/
inductive Laid (n : Int) (G : Lg) : Bool → List Pk → Prop
  | nil : Laid n G false []
  | last (p : Pk) (h : Good p) (hf : foundP p G = p) (h2 : p.space = 2) (hn : (p.dst.length : Int) = n) : Laid n G true [p]
  | cons (s : Bool) (p : Pk) (ps : List Pk) (h : Good p) (hf : foundP p G = p) (h2 : p.space ≠ 2) (t : Laid n G s ps) : Laid n G s (p :: ps)

theorem bytesP_pos (p : Pk) (h : Good p) : 0 < (bytesP p).length := by
  have := bytesP_len p h
  have h1 : 0 < overP p := by
    have hw := h.w
    unfold overP
    split <;> omega
  omega

theorem split_row (n : Int) (G : Lg) (hG : okG G) (hn : 0 ≤ n ∧ n ≤ 20) (R : List Int) (s : Bool) (ps : List Pk) (h : Laid n G s ps) : ∀ (la : List Int) (f : Nat), ps.length ≤ f → (s = true → R = []) → (R = [] ∨ ∃ x R', R = x :: R' ∧ 0 ≤ x ∧ x < 64) →
    splF (la ++ ps.flatMap bytesP ++ R) n G f la.length = (ps, la.length + (ps.flatMap bytesP).length) := by
  induction h with
  | nil =>
    intro la f _ _ hR
    rw [splF_end]
    · simp
    · rcases hR with rfl | ⟨x, R', rfl, h0, h1⟩
      · simp
      · intro c
        have := junk_no la R' x G n ⟨h0, h1⟩
        simp only [List.flatMap_nil, List.append_nil] at c
        exact this c.2
  | last p hg hf h2 hnn =>
    intro la f hf2 hs hR
    obtain ⟨f, rfl⟩ : ∃ f', f = f' + 1 := ⟨f - 1, by simp at hf2; omega⟩
    have hR' : R = [] := hs rfl
    subst hR'
    have hp := bytesP_pos p hg
    have e := dec_enc la [] p hg G hG n hn (fun _ => ⟨hnn, rfl⟩)
    simp only [List.flatMap_cons, List.flatMap_nil, List.append_nil] at e ⊢
    rw [hf] at e
    rw [splF_step (by simp; omega) e, splF_end (by simp)]
  | cons s p ps hg hf h2 t ih =>
    intro la f hf2 hs hR
    obtain ⟨f, rfl⟩ : ∃ f', f = f' + 1 := ⟨f - 1, by simp at hf2; omega⟩
    have hp := bytesP_pos p hg
    have e := dec_enc la (ps.flatMap bytesP ++ R) p hg G hG n hn (fun c => absurd c h2)
    rw [hf] at e
    have el : la ++ (p :: ps).flatMap bytesP ++ R = la ++ bytesP p ++ (ps.flatMap bytesP ++ R) := by simp [List.append_assoc]
    have ih' := ih (la ++ bytesP p) f (by simp at hf2; omega) hs hR
    rw [List.append_assoc, List.length_append] at ih'
    rw [el, splF_step (by simp; omega) e, ih']
    simp only [List.flatMap_cons, List.length_append, Prod.mk.injEq, true_and]
    omega

end Go.Proofs.Ytpcnpdippnljpaa.Rw

namespace Go.Proofs.Ytpcnpdippnljpaa
open Go.RowKit
open Sp (sepV Sep3 sep_nil sep_nil_r)
set_option linter.unusedVariables false
set_option maxRecDepth 100000
set_option maxHeartbeats 1000000

theorem spl_eq (l : List Int) (n : Int) (G : Lg) : ∀ f k, splF l n G f k = Rw.splF l n G f k
  | 0, k => rfl
  | f + 1, k => by
    show (if _ then _ else _) = (if _ then _ else _)
    simp only [spl_eq l n G f]
def LaidF (G : Lg) (ps : List Pk) : Prop := ∀ p ∈ ps, Good p ∧ foundP p G = p ∧ p.space ≠ 2
theorem laid_of {n : Int} {G : Lg} : ∀ {ps : List Pk}, LaidF G ps → Rw.Laid n G false ps
  | [], _ => .nil
  | p :: ps, h => .cons false p ps (h p (by simp)).1 (h p (by simp)).2.1 (h p (by simp)).2.2 (laid_of fun q hq => h q (by simp [hq]))
theorem laid_last {G : Lg} {q : Pk} (g : Good q) (hf : foundP q G = q) (h2 : q.space = 2) : ∀ {ps : List Pk}, LaidF G ps → Rw.Laid (q.dst.length : Int) G true (ps ++ [q])
  | [], _ => .last q g hf h2 rfl
  | p :: ps, h => .cons true p (ps ++ [q]) (h p (by simp)).1 (h p (by simp)).2.1 (h p (by simp)).2.2 (laid_last g hf h2 fun q' hq => h q' (by simp [hq]))
theorem LaidF.snoc {G : Lg} {ps : List Pk} {q : Pk} (h : LaidF G ps) (g : Good q) (hf : foundP q G = q) (h2 : q.space ≠ 2) : LaidF G (ps ++ [q]) := fun p hp => by
  rcases List.mem_append.1 hp with hp | hp
  · exact h p hp
  · simp only [List.mem_singleton] at hp; subst hp; exact ⟨g, hf, h2⟩

/-- What the packets may take, laid one behind the other. -/
def tot : List PV → Nat
  | [] => 0
  | x :: r => x.p.payload.length + 60 + tot r

/-- Packets that came in. -/
structure IsPks (w : World) (a : Option Addr) (len cap : Nat) (xs : List PV) : Prop where
  hlen : xs.length = len
  hcap : len ≤ cap ∧ cap ≤ 9223372036854775807
  in_ : ∀ x ∈ xs, InB w x.d x.p.dst ∧ InB w x.s x.p.src ∧ InB w x.y x.p.payload
  ln : ∀ x ∈ xs, x.p.dst.length ≤ 140737488351232 ∧ x.p.src.length ≤ 140737488351232 ∧ x.p.payload.length ≤ 140737488351232
  cell : len = 0 ∨ ∃ b off, a = some ⟨b, off, none⟩ ∧ ∀ i x, xs[i]? = some x → ∀ j, j < 6 → w.cell? ⟨b, off + i * 6 + j, none⟩ = x.cl[j]?

/-- found, at any packet. -/
def foundB (p : Pk) (G : Lg) : Bool := decide (((0 ≤ p.number ∧ p.number ≤ MAXP) ∧ (1 ≤ p.width ∧ p.width ≤ 4) ∧ 0 ≤ p.space ∧ p.space ≤ 2) ∧ wholeV (G.at p.space) (p.number % st p.width) p.width = p.number)

theorem found_p {p : Pk} {G : Lg} (h : foundB p G = true) : foundP p G = p := by
  have := (of_decide_eq_true h).2
  unfold foundP
  rw [this]
/-- One packet more. -/
theorem row_push {B : Nat} {w : World} {lv : Value} {ps : List PV} (h : w.ownsRow B 29 6 lv ps.length (ps.flatMap PV.cl)) (x : PV) (one : ∀ u ∈ x.cl, u.oneCell' = true) (few : ps.length ≤ 1000000000) (hB : B ≤ w.heap.size) :
    ∃ g c w', (Builtin.append_ #[22, 22] 22 #[lv, .slice (some ⟨w.heap.size, 0, none⟩) 1 1]).run Try.prog (w.alloc (.cells (x.p.cs x.d x.s x.y) 29)) = .ok (.slice (some ⟨g, 0, none⟩) (ps.length + 1) c) w'
      ∧ w'.ownsRow B 29 6 (.slice (some ⟨g, 0, none⟩) (ps.length + 1) c) (ps ++ [x]).length ((ps ++ [x]).flatMap PV.cl) ∧ Below B w w' ∧ ∀ v n xs, w.ownsRow B 5 1 v n xs → w'.ownsRow B 5 1 v n xs := by
  obtain ⟨inf, hi0, hz0, hz1, hz2⟩ := info_parts Try.infoP
  have hsz := alloc_size w (.cells (x.p.cs x.d x.s x.y) 29)
  have gA := World.grownBy_alloc w (.cells (x.p.cs x.d x.s x.y) 29) none
  have h1 := row_kpt h (w' := w.alloc (.cells (x.p.cs x.d x.s x.y) 29)) (fun i _ hi _ => gA.block i hi (by simp))
  have hnews : ∀ (i : Nat) u, x.cl[i]? = some u → (w.alloc (.cells (x.p.cs x.d x.s x.y) 29)).cell? ((⟨w.heap.size, 0, none⟩ : Addr).add i) = some u := fun i u hu => by
    rw [show (⟨w.heap.size, 0, none⟩ : Addr).add i = ⟨w.heap.size, i, none⟩ by simp [Addr.add]; exact fun e => e.symm]
    simp only [World.cell?, heap_alloc_new]
    rw [← hu]
    simp [PV.cl]
  obtain ⟨v5, W5, hrun, o5, g5, -⟩ := run_append_own (P := Try.prog) (w.alloc (.cells (x.p.cs x.d x.s x.y) 29)) B 22 22 29 inf (.agg (pcs 0 nilV nilV 0 0 nilV)) 6 96 Try.underlying22 hi0 hz0 hz1 hz2 rfl (by decide) lv ps.length (ps.flatMap PV.cl) h1 ⟨w.heap.size, 0, none⟩ 1 1 x.cl rfl hnews one (by unfold maxLen; omega) (by omega) (by omega)
  obtain ⟨h5, c5, rfl⟩ : ∃ h5 c5, v5 = .slice (some ⟨h5, 0, none⟩) (ps.length + 1) c5 := by
    rcases o5.2 with ⟨-, e⟩ | ⟨g6, cap, cur, e, -⟩
    · omega
    · exact ⟨g6, cap, e⟩
  refine ⟨h5, c5, W5, hrun, ?_, ((Below.refl B w).alloc hB _).grown g5 (by omega) (fun k e => (h1.lt k e).1), fun v n xs ho => ?_⟩
  · have e1 : (ps ++ [x]).length = ps.length + 1 := by simp
    have e2 : (ps ++ [x]).flatMap PV.cl = ps.flatMap PV.cl ++ x.cl := by simp
    rw [e1, e2]; exact o5
  · have ho1 := row_kpt ho (w' := w.alloc (.cells (x.p.cs x.d x.s x.y) 29)) (fun i _ hi _ => gA.block i hi (by simp))
    exact row_kpt ho1 (fun g _ hl e => g5.block g hl (row_ne ho1 h1 (by decide) e))

theorem row_cell {B : Nat} {w : World} {gl n cl : Nat} {ps : List PV} (h : w.ownsRow B 29 6 (.slice (some ⟨gl, 0, none⟩) n cl) ps.length (ps.flatMap PV.cl)) (k : Nat) (x : PV) (hk : ps[k]? = some x) (j : Nat) (hj : j < 6) : w.cell? ⟨gl, k * 6 + j, none⟩ = x.cl[j]? := by
  rcases h.2 with ⟨e, -⟩ | ⟨g, cap, cur, e, q1, q2, q3, q4, q5, q6⟩
  · cases e
  · simp only [Value.slice.injEq, Option.some.injEq, Addr.mk.injEq, and_true] at e
    obtain ⟨rfl, rfl, rfl⟩ := e
    have hlt : k < ps.length := by
      by_cases c : k < ps.length
      · exact c
      · rw [List.getElem?_eq_none (by omega)] at hk; cases hk
    simp only [World.cell?, q2]
    have e : (cur.toList.take (ps.length * 6))[k * 6 + j]? = (ps.flatMap PV.cl)[k * 6 + j]? := by rw [q6]
    rw [List.getElem?_take, if_pos (by omega), Array.getElem?_toList] at e
    rw [e]
    exact flat_six PV.cl 6 (fun _ => rfl) ps k x hk j hj
theorem row_some {B : Nat} {w : World} {a : Option Addr} {n c : Nat} {ps : List PV} (h : w.ownsRow B 29 6 (.slice a n c) ps.length (ps.flatMap PV.cl)) (hn : ps.length = n) (h0 : 0 < n) : ∃ g, a = some ⟨g, 0, none⟩ ∧ n ≤ c ∧ c ≤ 9223372036854775807 := by
  rcases h.2 with ⟨e, e2⟩ | ⟨g, cap, cur, e, q1, q2, q3, q4, q5, q6⟩
  · omega
  · simp only [Value.slice.injEq] at e
    obtain ⟨rfl, e2, rfl⟩ := e
    unfold maxLen at q4
    exact ⟨g, rfl, by omega, by omega⟩

theorem shapeI {w : World} {v : Value} {l : List Int} (h : InB w v l) : ∃ u c, v = .slice u l.length c := by
  obtain ⟨a, c, e, -⟩ := h
  exact ⟨a, c, e⟩
theorem InB.one {w : World} {v : Value} {l : List Int} (h : InB w v l) : v.oneCell' = true := by
  obtain ⟨a, c, rfl, -⟩ := h
  rfl

end Go.Proofs.Ytpcnpdippnljpaa
