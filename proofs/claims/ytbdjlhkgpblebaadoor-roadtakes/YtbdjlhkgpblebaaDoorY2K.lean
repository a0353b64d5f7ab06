/- Road: lay at any road; the clock; New. -/
import Derived.Test.YtbdjlhkgpblebaaDoorY2J
namespace Go.Proofs.YtbdjlhkgpblebaaDoor
open Go.RowKit Go.Shelf Go.Maps
set_option linter.unusedVariables false
set_option linter.unusedSimpArgs false
set_option maxRecDepth 100000
set_option maxHeartbeats 1000000
section
variable {b : Nat} {w w' : World} {S : Nat → Prop} {r : Nat} {R : Rs}

theorem lay_any (h : RI b w S r R) (g : Gm) (hg : g.Ok) (hnx : R.nx < 4611686018427387904) : Calls Tryd.prog 20 #[ptr r, .agg g.cs] w fun e w' => e = .returned (.tuple #[.int .i64 (layN R), .int .i64 (layE R)]) ∧ LayP b w S r (layS R g) w' := by
  by_cases hB : R.B.length = 4096
  · refine (lay_full h hB g).mono ?_
    rintro e w' ⟨rfl, gr⟩
    refine ⟨by unfold layN layE; rw [if_pos hB, if_pos hB], S, ?_, ⟨Kp.grown gr _, fun _ h => h, fun _ h => .inl h⟩⟩
    unfold layS
    rw [if_pos hB]
    exact h.grown gr
  · refine (lay_put h (by have := h.b4.1; omega) g hg hnx).mono ?_
    rintro e w' ⟨rfl, q⟩
    refine ⟨by unfold layN layE; rw [if_neg hB, if_neg hB], ?_⟩
    unfold layS
    rw [if_neg hB]
    exact q
theorem pass_ri (h : RI b w S r R) (t : Int) :
    Calls Tryd.prog 17 #[ptr r, .int .i64 t] w fun e w' => e = .returned (.tuple #[]) ∧ RI b w' S r (passS R t) ∧ St w w' S S := by
  obtain ⟨W, mb, vl, vf, Sw, c, T, A, LY, FR, h1, h2, h3, h4⟩ := h.ex
  refine (pass_any h1 t).mono ?_
  rintro e w' ⟨rfl, q, k⟩
  have kS : Kp S w w' := k.mono (fun g _ e => h4 g (.inr (.inl e)))
  exact ⟨rfl, ⟨⟨W, mb, vl, vf, Sw, c, T, A, LY, FR, q, h2, h3, h4⟩, fun i hi => ⟨(h.lt i hi).1, Nat.lt_of_lt_of_le (h.lt i hi).2 k.size⟩⟩, kS, fun _ h => h, fun _ h => .inl h⟩
theorem ri_cells (h : RI b w S r R) : ∃ W mb vl vf, w.cell? ⟨r, 0, none⟩ = some (.int .i64 (R.now : Int)) ∧ w.cell? ⟨r, 1, none⟩ = some (.int .i64 (R.sp : Int)) ∧ w.cell? ⟨r, 3, none⟩ = some (ptr W) ∧ w.cell? ⟨r, 4, none⟩ = some (.map (some mb)) ∧ w.cell? ⟨r, 5, none⟩ = some vl ∧ w.cell? ⟨r, 6, none⟩ = some vf := by
  obtain ⟨W, mb, vl, vf, Sw, c, T, A, LY, FR, h1, h2, h3, h4⟩ := h.ex
  have := h1.cells
  exact ⟨W, mb, vl, vf, this.1, this.2.1, this.2.2.2.1, this.2.2.2.2.1, this.2.2.2.2.2.1, this.2.2.2.2.2.2⟩
theorem ri_lt (h : RI b w S r R) : r < w.heap.size ∧ S r := by
  obtain ⟨W, mb, vl, vf, Sw, c, T, A, LY, FR, h1, h2, h3, h4⟩ := h.ex
  exact ⟨h1.blk.lt, h4 r (.inr (.inl rfl))⟩

/-- A road made now. -/
def NewP (b : Nat) (w : World) (now : Int) (sp : Nat) (r : Nat) (w' : World) : Prop := ∃ S, RI b w' S r ⟨clk now, sp, 0, []⟩ ∧ (∀ g, S g → w.heap.size ≤ g) ∧ w.grownBy w' none
theorem rnew_any (b : Nat) (now : Int) (sp : Nat) (hsp : sp ≤ 2 ^ 36) (w : World) (hb : b ≤ w.heap.size) :
    Calls Tryd.prog 5 #[.int .i64 now, .int .i64 (sp : Int)] w fun e w' => ∃ r, e = .returned (.tuple #[ptr r, .int .i64 0]) ∧ NewP b w now sp r w' := by
  have c50 : clk now ≤ 2 ^ 50 := by unfold clk; omega
  have wn := wl_new b now w hb
  have hmm := @run_makeMap Tryd.prog
  have s0 : ¬ (sp : Int) < 0 := by omega
  have s1 : ¬ (68719476736 : Int) < (sp : Int) := by omega
  have FIN := hide (fun (W1 : World) (W : Nat) (wl : Wl b W1 (fun g => w.heap.size ≤ g ∧ g < W1.heap.size) W (clk now) []) (g1 : w.grownBy W1 none) => show NewP b w now sp (W1.heap.size + 1) ((W1.alloc (.map #[] 0)).alloc (.cells (rdc (clk now) sp 0 W W1.heap.size (.slice none 0 0) (.slice none 0 0)) 51)) from by
    have gA : W1.grownBy ((W1.alloc (.map #[] 0)).alloc (.cells (rdc (clk now) sp 0 W W1.heap.size (.slice none 0 0) (.slice none 0 0)) 51)) none := (World.grownBy_alloc W1 _ none).trans (World.grownBy_alloc _ _ none)
    have sz1 := alloc_size W1 (.map #[] 0)
    have sz2 := alloc_size (W1.alloc (.map #[] 0)) (.cells (rdc (clk now) sp 0 W W1.heap.size (.slice none 0 0) (.slice none 0 0)) 51)
    have bR := Blk.new (W1.alloc (.map #[] 0)) (rdc (clk now) sp 0 W W1.heap.size (.slice none 0 0) (.slice none 0 0)) 51
    rw [sz1] at bR
    have gs := g1.size
    refine ⟨fun g => w.heap.size ≤ g ∧ g < W1.heap.size + 2, ⟨⟨W, W1.heap.size, .slice none 0 0, .slice none 0 0, _, clk now, [], [], [], [], ⟨bR, wl.grown gA, ?_, World.ownsRow_nil _ _ _ _, World.ownsRow_nil _ _ _ _, by simp, List.Pairwise.nil, by simp, by simp, by simp, rfl, by simp, by simp, Nat.le_refl _, c50, hsp, ⟨by omega, by omega⟩, fun h => by omega, fun h => by omega, fun g e => (by cases e), fun g e => (by cases e)⟩, List.Perm.refl _, rfl, ?_⟩, fun g hg => ⟨by omega, by rw [sz2, sz1]; omega⟩⟩, fun g hg => hg.1, g1.trans gA⟩
    · exact (Mq.made W1).kept ((World.grownBy_alloc (W1.alloc (.map #[] 0)) _ none).block W1.heap.size (by rw [sz1]; omega) (by simp))
    · rintro g (hg | rfl | rfl | e | e)
      · exact ⟨hg.1, by omega⟩
      · exact ⟨by omega, by omega⟩
      · exact ⟨by omega, by omega⟩
      · cases e
      · cases e)
  have NOW := hide (fun (W1 : World) (W : Nat) (wl : Wl b W1 (fun g => w.heap.size ≤ g ∧ g < W1.heap.size) W (clk now) []) => wl_now b W1 _ W (clk now) [] wl)
  go_enter Tryd.func5, Tryd.ntmps5
  go_upto_region 3 with fail
  go_wp2_with fail
  refine wn.mono ?_
  rintro e W1 ⟨W, rfl, wl, g1⟩
  have nw := unhide NOW W1 W wl
  have F := hide (unhide FIN W1 W wl g1)
  clear FIN NOW wn wl g1 c50
  generalize clk now = cn at *
  go_wp2_with fail
  refine nw.mono ?_
  rintro e W2 ⟨rfl, hw⟩
  subst hw
  clear nw
  go_wp2_with fail
  go_ret2
  exact ⟨_, rfl, unhide F⟩
end
end Go.Proofs.YtbdjlhkgpblebaaDoor
