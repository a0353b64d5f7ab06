/- The reader of packets: short, packet. -/
import Derived.Test.YtpcnpdippnljpaaKV
namespace Go.Proofs.Ytpcnpdippnljpaa
open Go.RowKit
set_option linter.unusedVariables false
set_option maxRecDepth 100000
set_option maxHeartbeats 1000000

theorem Rdk.short {w : World} {g : Nat} {a : Option Addr} {l : List Int} {c : Nat} {G : Lg} {s : St} (h : Rdk w g a l c G s) (hG : okG G) (hb : l.length ≤ 140737488355328) (x : Int) (hx : IsB x) (n : Int) (hn : 0 ≤ n ∧ n ≤ 20) :
    Calls Try.prog 56 #[.pointer (some ⟨g, 0, none⟩), .int .u8 x, .int .i64 n] w (WentP g a l c G w (shortR l G s x n)) := by
  have hbl := bitS_eq x hx
  have hwd := fun W => widthOf_any x hx W
  have hwi := widF_in x
  have hnu : IntKind.u64.wrap n = n := by rw [IntKind.wrap_u64]; omega
  have R0 := fun o => h.grown (World.grownBy_alloc w o none)
  have m0 := fun o => (R0 o).must (bitS x) 51
  go_enter Try.func56, Try.ntmps56
  go_wp2_with fail
  refine (m0 _).mono ?_
  rintro e W1 ⟨rfl, R1, g1⟩
  have R1' : Rdk W1 g a l c G (sS1 s x) := R1
  go_wp2_with fail
  refine (hwd _).mono ?_
  rintro e W4' ⟨rfl, hw4⟩
  subst hw4
  have gA := (World.grownBy_alloc w (.cells (pcs 0 nilV nilV 0 0 nilV) 29) (some g)).trans g1
  have hlt : w.heap.size < W4'.heap.size := by
    have := g1.size
    have e : (w.alloc (.cells (pcs 0 nilV nilV 0 0 nilV) 29)).heap.size = w.heap.size + 1 := by show (w.heap.push _).size = _; simp
    rw [e] at this; omega
  have hg0 : g < w.heap.size := h.blk.lt
  have L0 : LR w (W4'.alloc (.cells (pcs 2 nilV nilV 0 (widF x) nilV) 29)) g a l c G (sS1 s x) w.heap.size W4'.heap.size (pcs 2 nilV nilV 0 (widF x) nilV) :=
    ⟨R1'.grown (World.grownBy_alloc _ _ none), gA.trans (World.grownBy_alloc _ _ (some g)), ((Blk.new w _ _).far g1 (by omega)).alloc _, Blk.new _ _ _, hg0, Nat.le_refl _, hlt, fun y e hc => (h.ne y e hc).2⟩
  have hsz : (W4'.alloc (.cells (pcs 2 nilV nilV 0 (widF x) nilV) 29)).heap.size = W4'.heap.size + 1 := by show (W4'.heap.push _).size = _; simp
  clear m0 R0 R1 R1' g1 gA h hwd hbl
  have i5 : Calls _ _ _ _ (WentB g a l c G _ (sS2 l s x n)) := L0.R.bytes hb n (by omega)
  go_wp2_with fail
  refine i5.mono ?_
  rintro e W5 ⟨v5, rfl, o5, R5, g5⟩
  have hB5 : W4'.heap.size + 1 ≤ W5.heap.size := by rw [← hsz]; exact g5.size
  rw [hsz] at o5
  have L5 := L0.step R5 g5
  clear i5 R5 g5 L0
  have c1 := L5.bp.cell 1 nilV rfl
  have c0 := L5.bp.cell 0 (.int .i64 2) rfl
  have c4 := L5.bp.cell 4 (.int .i64 (widF x)) rfl
  have th := L5.bp.thaws
  have L6 : LR w (W5.setCell ⟨W4'.heap.size, 1, none⟩ v5) g a l c G (sS2 l s x n).2 w.heap.size W4'.heap.size (pcs 2 v5 nilV 0 (widF x) nilV) := L5.set 1 v5
  have o6 := o5.far (grown_at (World.grownBy.refl W5 (some W4'.heap.size)) 1 v5) (fun q e => by cases e; omega)
  have hB6 : W4'.heap.size + 1 ≤ (W5.setCell ⟨W4'.heap.size, 1, none⟩ v5).heap.size := by show _ ≤ (W5.heap.modify _ _).size; rw [Array.size_modify]; exact hB5
  have na : Calls _ _ _ _ (Went g a l c G _ (sS3 l G s x n).2 (.int .i64 (sS3 l G s x n).1)) := L6.R.number hG 2 (widF x) (by simp) hwi
  have HL := hide L6; have HO := hide o6
  obtain ⟨a5, c5, rfl⟩ := o5.shape
  clear L5 L6 o5 o6
  generalize (sS2 l s x n).1.length = n5 at *
  go_wp2_with fail
  refine na.mono ?_
  rintro e Wb ⟨rfl, Rb, gb⟩
  have Lb := (unhide HL).step Rb gb
  have o5 := (unhide HO).far gb (fun q e => by cases e; omega)
  have hBc := Nat.le_trans hB6 gb.size
  clear na Rb gb HL HO hB5 hB6 c0 c1 c4 th
  have c3 := Lb.bp.cell 3 (.int .i64 0) rfl
  have th := Lb.bp.thaws
  have Lc : LR w (Wb.setCell ⟨W4'.heap.size, 3, none⟩ (.int .i64 (sS3 l G s x n).1)) g a l c G (sS3 l G s x n).2 w.heap.size W4'.heap.size (pcs 2 (.slice a5 n5 c5) nilV (sS3 l G s x n).1 (widF x) nilV) := Lb.set 3 _
  have o5 := o5.far (grown_at (World.grownBy.refl Wb (some W4'.heap.size)) 3 (.int .i64 (sS3 l G s x n).1)) (fun q e => by cases e; omega)
  have hBd : W4'.heap.size + 1 ≤ (Wb.setCell ⟨W4'.heap.size, 3, none⟩ (.int .i64 (sS3 l G s x n).1)).heap.size := by show _ ≤ (Wb.heap.modify _ _).size; rw [Array.size_modify]; exact hBc
  have lf := Lc.R.left
  have bd := fun q => (Lc.R.drewN q).bytes hb ((l.length : Int) - (sS3 l G s x n).2.1) (by have := Lc.R.at_; omega)
  have HL := hide Lc; have HO := hide o5
  clear Lb Lc o5 hBc
  go_wp2_with fail
  refine lf.mono ?_
  rintro e Wq ⟨rfl, q, rfl⟩
  have bd := bd q
  go_wp2_with fail
  refine bd.mono ?_
  rintro e Wd ⟨vd, rfl, od, Rd_, gd⟩
  have gq := (grown_drewS (World.grownBy.refl (Wb.setCell ⟨W4'.heap.size, 3, none⟩ (.int .i64 (sS3 l G s x n).1)) (some g)) q).trans gd
  have Rd' : Rdk Wd g a l c G (sS4 l G s x n).2 := Rd_
  have od : OwnB (W4'.heap.size + 1) Wd vd (sS4 l G s x n).1 := od.mono hBd
  have Ld := (unhide HL).step Rd' gq
  have o5 := (unhide HO).far gq (fun q e => by cases e; omega)
  clear bd lf Rd_ Rd' gd gq HL HO c3 th
  have d5 := Ld.bp.cell 5 nilV rfl
  have thd := Ld.bp.thaws
  have Le : LR w (Wd.setCell ⟨W4'.heap.size, 5, none⟩ vd) g a l c G (sS4 l G s x n).2 w.heap.size W4'.heap.size (pcs 2 (.slice a5 n5 c5) nilV (sS3 l G s x n).1 (widF x) vd) := Ld.set 5 _
  have o5 := o5.far (grown_at (World.grownBy.refl Wd (some W4'.heap.size)) 5 vd) (fun q e => by cases e; omega)
  have od := od.far (grown_at (World.grownBy.refl Wd (some W4'.heap.size)) 5 vd) (fun q e => by cases e; omega)
  have oN : OwnB (W4'.heap.size + 1) (Wd.setCell ⟨W4'.heap.size, 5, none⟩ vd) nilV [] := World.ownsRow_nil _ _ _ _
  have FIN := LR.fin (p := (shortR l G s x n).1) Le (Nat.lt_succ_self _) o5 oN od
  have HF := hide FIN
  have k0 := Le.bp.cell 0 _ rfl
  have k1 := Le.bp.cell 1 _ rfl
  have k2 := Le.bp.cell 2 _ rfl
  have k3 := Le.bp.cell 3 _ rfl
  have k4 := Le.bp.cell 4 _ rfl
  have k5 := Le.bp.cell 5 _ rfl
  have q0 := Le.b4.cell 0 _ rfl
  have q1 := Le.b4.cell 1 _ rfl
  have q2 := Le.b4.cell 2 _ rfl
  have q3 := Le.b4.cell 3 _ rfl
  have q4 := Le.b4.cell 4 _ rfl
  have q5 := Le.b4.cell 5 _ rfl
  have thp := Le.bp.thaws
  have th4 := Le.b4.thaws
  obtain ⟨ad, cd, rfl⟩ := od.shape
  clear FIN Le Ld o5 oN od
  go_wp2_with fail
  refine bodyPost_ret (results_cell_row rfl _ _ w.heap.size 29 _ (0, 0) _ rfl (unhide HF).1 Try.underlying29 rfl Try.sizeP) rfl ?_
  exact (unhide HF).2

theorem WentP.shape {g : Nat} {a : Option Addr} {l : List Int} {c : Nat} {G : Lg} {w : World} {r : Pk × St} {e : Ending} {w' : World} (h : WentP g a l c G w r e w') :
    ∃ a1 n1 c1 a2 n2 c2 a3 n3 c3, e = .returned (r.1.val (.slice a1 n1 c1) (.slice a2 n2 c2) (.slice a3 n3 c3)) ∧ OwnB w.heap.size w' (.slice a1 n1 c1) r.1.dst ∧ OwnB w.heap.size w' (.slice a2 n2 c2) r.1.src ∧ OwnB w.heap.size w' (.slice a3 n3 c3) r.1.payload ∧ Rdk w' g a l c G r.2 ∧ w.grownBy w' (some g) := by
  obtain ⟨d, s, y, rfl, o1, o2, o3, R, gr⟩ := h
  obtain ⟨a1, c1, rfl⟩ := o1.shape
  obtain ⟨a2, c2, rfl⟩ := o2.shape
  obtain ⟨a3, c3, rfl⟩ := o3.shape
  exact ⟨_, _, _, _, _, _, _, _, _, rfl, o1, o2, o3, R, gr⟩

theorem Rdk.packet {w : World} {g : Nat} {a : Option Addr} {l : List Int} {c : Nat} {G : Lg} {k : Nat} (h : Rdk w g a l c G (k, 0)) (hG : okG G) (hb : l.length ≤ 140737488355328) (n : Int) (hn : 0 ≤ n ∧ n ≤ 20) :
    Calls Try.prog 43 #[.pointer (some ⟨g, 0, none⟩), .int .i64 n] w (WentP g a l c G w (packR l G k n)) := by
  have hx := rPlain_1 l (k, 0) h.rd.1
  have R0 := h.grown (World.grownBy_alloc w (.cells (pcs 0 nilV nilV 0 0 nilV) 29) none)
  have p0 := R0.plain 1
  have hg0 : g < w.heap.size := h.blk.lt
  have hax := fun y e hc => (h.ne y e hc).2
  unfold packR
  generalize rPlain l (k, 0) 1 = r at *
  obtain ⟨x, s⟩ := r
  simp only at hx p0 ⊢
  have hxw : IntKind.u8.wrap x = x := by rw [IntKind.wrap_u8]; omega
  have hb128 := and_128 x hx
  clear R0 h
  by_cases hl : 128 ≤ x
  · rw [if_pos hl]
    have hc : (bits .and .u8 x 128 != 0) = true := by rw [hb128, show x / 128 = 1 by omega]; rfl
    clear hb128
    go_enter Try.func43, Try.ntmps43
    go_wp2_with fail
    refine p0.mono ?_
    rintro e W1 ⟨rfl, R1, g1⟩
    have lg := R1.long hG hb x hx
    have bA := (Blk.new w (pcs 0 nilV nilV 0 0 nilV) 29).far g1 (by omega)
    have gA := (World.grownBy_alloc w (.cells (pcs 0 nilV nilV 0 0 nilV) 29) (some g)).trans g1
    have hsz : w.heap.size + 1 ≤ W1.heap.size := by
      have := g1.size
      have e : (w.alloc (.cells (pcs 0 nilV nilV 0 0 nilV) 29)).heap.size = w.heap.size + 1 := by show (w.heap.push _).size = _; simp
      rw [e] at this; omega
    generalize longR l G s x = P at *
    obtain ⟨P, S⟩ := P
    clear p0 R1 g1
    go_wp2_with fail
    refine lg.mono ?_
    intro e W2 hh
    obtain ⟨a1, n1, c1, a2, n2, c2, a3, n3, c3, rfl, o1, o2, o3, R2, g2⟩ := hh.shape
    clear hh lg
    have b2 := bA.far g2 (by omega)
    have gB := gA.trans g2
    have gg : W2.grownBy ((((((W2.setCell ⟨w.heap.size, 0, none⟩ (.int .i64 P.space)).setCell ⟨w.heap.size, 1, none⟩ (.slice a1 n1 c1)).setCell ⟨w.heap.size, 2, none⟩ (.slice a2 n2 c2)).setCell ⟨w.heap.size, 3, none⟩ (.int .i64 P.number)).setCell ⟨w.heap.size, 4, none⟩ (.int .i64 P.width)).setCell ⟨w.heap.size, 5, none⟩ (.slice a3 n3 c3)) (some w.heap.size) :=
      grown_at (grown_at (grown_at (grown_at (grown_at (grown_at (World.grownBy.refl W2 (some w.heap.size)) 0 _) 1 _) 2 _) 3 _) 4 _) 5 _
    have hn' : w.heap.size ≠ g := by omega
    have hx' : ∀ y, a = some y → 0 < c → y.block ≠ w.heap.size := fun y e hc => Nat.ne_of_lt (hax y e hc)
    have ho : ∀ q, some w.heap.size = some q → q < W1.heap.size := fun q e => by cases e; omega
    have F : Hid (Blk ((((((W2.setCell ⟨w.heap.size, 0, none⟩ (.int .i64 P.space)).setCell ⟨w.heap.size, 1, none⟩ (.slice a1 n1 c1)).setCell ⟨w.heap.size, 2, none⟩ (.slice a2 n2 c2)).setCell ⟨w.heap.size, 3, none⟩ (.int .i64 P.number)).setCell ⟨w.heap.size, 4, none⟩ (.int .i64 P.width)).setCell ⟨w.heap.size, 5, none⟩ (.slice a3 n3 c3)) w.heap.size (P.cs (.slice a1 n1 c1) (.slice a2 n2 c2) (.slice a3 n3 c3)) 29 ∧ WentP g a l c G w (P, S) (.returned (P.val (.slice a1 n1 c1) (.slice a2 n2 c2) (.slice a3 n3 c3))) ((((((W2.setCell ⟨w.heap.size, 0, none⟩ (.int .i64 P.space)).setCell ⟨w.heap.size, 1, none⟩ (.slice a1 n1 c1)).setCell ⟨w.heap.size, 2, none⟩ (.slice a2 n2 c2)).setCell ⟨w.heap.size, 3, none⟩ (.int .i64 P.number)).setCell ⟨w.heap.size, 4, none⟩ (.int .i64 P.width)).setCell ⟨w.heap.size, 5, none⟩ (.slice a3 n3 c3))) :=
      ⟨b2.set6, _, _, _, rfl, (o1.far gg ho).mono (by omega), (o2.far gg ho).mono (by omega), (o3.far gg ho).mono (by omega),
        (((((R2.setO _ 0 _ hn' hx').setO _ 1 _ hn' hx').setO _ 2 _ hn' hx').setO _ 3 _ hn' hx').setO _ 4 _ hn' hx').setO _ 5 _ hn' hx',
        grown_setS (grown_setS (grown_setS (grown_setS (grown_setS (grown_setS gB _ 0 _ (Nat.le_refl _)) _ 1 _ (Nat.le_refl _)) _ 2 _ (Nat.le_refl _)) _ 3 _ (Nat.le_refl _)) _ 4 _ (Nat.le_refl _)) _ 5 _ (Nat.le_refl _)⟩
    have q0 := b2.cell 0 _ rfl
    have q1 := b2.cell 1 _ rfl
    have q2 := b2.cell 2 _ rfl
    have q3 := b2.cell 3 _ rfl
    have q4 := b2.cell 4 _ rfl
    have q5 := b2.cell 5 _ rfl
    have th4 := b2.thaws
    clear b2 gB gg o1 o2 o3 R2 g2 bA gA ho hx' hn'
    go_wp2_with fail
    refine bodyPost_ret (results_cell_row rfl _ _ w.heap.size 29 _ (0, 0) _ rfl (unhide F).1 Try.underlying29 rfl Try.sizeP) rfl ?_
    exact (unhide F).2
  · rw [if_neg hl]
    have hc : (bits .and .u8 x 128 != 0) = false := by rw [hb128, show x / 128 = 0 by omega]; rfl
    clear hb128
    go_enter Try.func43, Try.ntmps43
    go_wp2_with fail
    refine p0.mono ?_
    rintro e W1 ⟨rfl, R1, g1⟩
    have lg := R1.short hG hb x hx n hn
    have bA := (Blk.new w (pcs 0 nilV nilV 0 0 nilV) 29).far g1 (by omega)
    have gA := (World.grownBy_alloc w (.cells (pcs 0 nilV nilV 0 0 nilV) 29) (some g)).trans g1
    have hsz : w.heap.size + 1 ≤ W1.heap.size := by
      have := g1.size
      have e : (w.alloc (.cells (pcs 0 nilV nilV 0 0 nilV) 29)).heap.size = w.heap.size + 1 := by show (w.heap.push _).size = _; simp
      rw [e] at this; omega
    generalize shortR l G s x n = P at *
    obtain ⟨P, S⟩ := P
    clear p0 R1 g1
    go_wp2_with fail
    refine lg.mono ?_
    intro e W2 hh
    obtain ⟨a1, n1, c1, a2, n2, c2, a3, n3, c3, rfl, o1, o2, o3, R2, g2⟩ := hh.shape
    clear hh lg
    have b2 := bA.far g2 (by omega)
    have gB := gA.trans g2
    have gg : W2.grownBy ((((((W2.setCell ⟨w.heap.size, 0, none⟩ (.int .i64 P.space)).setCell ⟨w.heap.size, 1, none⟩ (.slice a1 n1 c1)).setCell ⟨w.heap.size, 2, none⟩ (.slice a2 n2 c2)).setCell ⟨w.heap.size, 3, none⟩ (.int .i64 P.number)).setCell ⟨w.heap.size, 4, none⟩ (.int .i64 P.width)).setCell ⟨w.heap.size, 5, none⟩ (.slice a3 n3 c3)) (some w.heap.size) :=
      grown_at (grown_at (grown_at (grown_at (grown_at (grown_at (World.grownBy.refl W2 (some w.heap.size)) 0 _) 1 _) 2 _) 3 _) 4 _) 5 _
    have hn' : w.heap.size ≠ g := by omega
    have hx' : ∀ y, a = some y → 0 < c → y.block ≠ w.heap.size := fun y e hc => Nat.ne_of_lt (hax y e hc)
    have ho : ∀ q, some w.heap.size = some q → q < W1.heap.size := fun q e => by cases e; omega
    have F : Hid (Blk ((((((W2.setCell ⟨w.heap.size, 0, none⟩ (.int .i64 P.space)).setCell ⟨w.heap.size, 1, none⟩ (.slice a1 n1 c1)).setCell ⟨w.heap.size, 2, none⟩ (.slice a2 n2 c2)).setCell ⟨w.heap.size, 3, none⟩ (.int .i64 P.number)).setCell ⟨w.heap.size, 4, none⟩ (.int .i64 P.width)).setCell ⟨w.heap.size, 5, none⟩ (.slice a3 n3 c3)) w.heap.size (P.cs (.slice a1 n1 c1) (.slice a2 n2 c2) (.slice a3 n3 c3)) 29 ∧ WentP g a l c G w (P, S) (.returned (P.val (.slice a1 n1 c1) (.slice a2 n2 c2) (.slice a3 n3 c3))) ((((((W2.setCell ⟨w.heap.size, 0, none⟩ (.int .i64 P.space)).setCell ⟨w.heap.size, 1, none⟩ (.slice a1 n1 c1)).setCell ⟨w.heap.size, 2, none⟩ (.slice a2 n2 c2)).setCell ⟨w.heap.size, 3, none⟩ (.int .i64 P.number)).setCell ⟨w.heap.size, 4, none⟩ (.int .i64 P.width)).setCell ⟨w.heap.size, 5, none⟩ (.slice a3 n3 c3))) :=
      ⟨b2.set6, _, _, _, rfl, (o1.far gg ho).mono (by omega), (o2.far gg ho).mono (by omega), (o3.far gg ho).mono (by omega),
        (((((R2.setO _ 0 _ hn' hx').setO _ 1 _ hn' hx').setO _ 2 _ hn' hx').setO _ 3 _ hn' hx').setO _ 4 _ hn' hx').setO _ 5 _ hn' hx',
        grown_setS (grown_setS (grown_setS (grown_setS (grown_setS (grown_setS gB _ 0 _ (Nat.le_refl _)) _ 1 _ (Nat.le_refl _)) _ 2 _ (Nat.le_refl _)) _ 3 _ (Nat.le_refl _)) _ 4 _ (Nat.le_refl _)) _ 5 _ (Nat.le_refl _)⟩
    have q0 := b2.cell 0 _ rfl
    have q1 := b2.cell 1 _ rfl
    have q2 := b2.cell 2 _ rfl
    have q3 := b2.cell 3 _ rfl
    have q4 := b2.cell 4 _ rfl
    have q5 := b2.cell 5 _ rfl
    have th4 := b2.thaws
    clear b2 gB gg o1 o2 o3 R2 g2 bA gA ho hx' hn'
    go_wp2_with fail
    refine bodyPost_ret (results_cell_row rfl _ _ w.heap.size 29 _ (0, 0) _ rfl (unhide F).1 Try.underlying29 rfl Try.sizeP) rfl ?_
    exact (unhide F).2

end Go.Proofs.Ytpcnpdippnljpaa
