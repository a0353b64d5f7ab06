/- Keep, of whatever frame. -/
import Derived.Test.YtggjeamondampabF1C
namespace Go.Proofs.Ytggjeamondampab
open Go.RowKit
set_option linter.unusedVariables false
set_option maxRecDepth 100000
set_option maxHeartbeats 4000000

theorem keep_as (f : Fr) (d r : Value) (w : World) (h : keepS f.kind = 1) (hR : FrR w f d r) (hd : f.data.length ≤ 140737488351232) (hr : f.runs.length * 16 ≤ 140737488351232) : Calls Try.prog 20 #[f.val d r] w (KeepPost f w) := by
  have e : keepF f = f := by unfold keepF; rw [h]; rfl
  have hk : f.kind = 4 ∨ f.kind = 5 ∨ f.kind = 16 ∨ f.kind = 17 ∨ f.kind = 18 ∨ f.kind = 20 ∨ f.kind = 21 ∨ f.kind = 22 ∨ f.kind = 30 := by
    unfold keepS at h
    split at h
    · cases h
    · split at h
      · assumption
      · cases h
  obtain ⟨a, c, rfl, h1, h2, h3⟩ := hR.data
  obtain ⟨p, q, rfl, h4, h5, h6⟩ := hR.runs
  obtain ⟨B1, B2, g2⟩ := Blk.two w (f.cs (.slice a f.data.length c) (.slice p f.runs.length q)) (Fr.zero.cs nilS nilS) 26 26
  obtain ⟨W2, hW2⟩ : ∃ W2, W2 = (w.alloc (.cells (f.cs (.slice a f.data.length c) (.slice p f.runs.length q)) 26)).alloc (.cells (Fr.zero.cs nilS nilS) 26) := ⟨_, rfl⟩
  rw [← hW2] at B1 B2 g2
  obtain ⟨da, dc, W3, hap, oB, g3⟩ := app_rd (w0 := W2) c (own_nilB W2.heap.size W2) (World.grownBy.refl W2 none) (h1.grow g2) (by simp; omega)
  simp only [List.length_nil, Nat.zero_add, List.nil_append] at hap oB
  have B3 := B1.grown g3
  have B4 : Blk (W3.setCell ⟨w.heap.size, 3, none⟩ (.slice da f.data.length dc)) w.heap.size (f.cs (.slice da f.data.length dc) (.slice p f.runs.length q)) 26 := B3.setC 3 _
  obtain ⟨ra, rc, W5, hapr, g5, B5, B6, B7, B8, oB8, oR8, g8⟩ := keep_end f w (W3.setCell ⟨w.heap.size, 3, none⟩ (.slice da f.data.length dc)) w.heap.size (w.heap.size + 1) p q (.slice da f.data.length dc) (.slice p f.runs.length q) (Fr.zero.cs nilS nilS) (Nat.le_refl _) (by omega) (by omega) (grown_set (g2.trans g3) _ 3 _ (Nat.le_refl _)) B4 ((B2.grown g3).setO _ 3 _ (by omega)) ((oB.mono g2.size).cell B3) h4 hr
  have B8' := hide B8
  have B67 := hide (And.intro B6 B7)
  obtain ⟨C, hC⟩ : ∃ C, C = f.cs (.slice da f.data.length dc) (.slice ra f.runs.length rc) := ⟨_, rfl⟩
  have C17 : C.size = 17 := by rw [hC]; rfl
  have iC : (Try.prog.info? 26).map (·.size) = some C.size := by rw [C17]; exact Try.size26
  have C1 : C.all (·.oneCell') = true := by rw [hC]; exact one17 _ _ _ rfl rfl
  rw [← hC] at B8' B67 oB8 oR8 g8
  have FIN : Hid (KeepPost f w (.returned (.tuple #[.agg C, .bool true])) _) := ⟨_, _, by rw [e, h, hC]; rfl, by rw [e]; exact oB8, by rw [e]; exact oR8, g8⟩
  have x0 := B1.cell 0 (.int .i64 f.kind) rfl
  have x3 := B1.cell 3 (.slice a f.data.length c) rfl
  have y3 := B3.cell 3 (.slice a f.data.length c) rfl
  have y4 := B3.thaws
  have z12 := B4.cell 12 (.slice p f.runs.length q) rfl
  have u12 := B5.cell 12 (.slice p f.runs.length q) rfl
  have u13 := B5.thaws
  clear e h hR h1 h2 h3 h4 h5 h6 g2 oB g3 g5 oB8 oR8 g8 B1 B2 B3 B4 B5 B6 B7 B8 hd hr hC
  generalize f.data.length = n at *
  generalize f.runs.length = m at *
  generalize KeepPost f w = Q at *
  subst hW2
  obtain ⟨kind, stream, offset, data, size, fin, tail, limit, uni, code, own, delay, runs, marks, c0, c1, c2⟩ := f
  simp only at hk x0
  rcases hk with rfl | rfl | rfl | rfl | rfl | rfl | rfl | rfl | rfl
  all_goals as_aux_lemma =>
    go_enter Try.func20, Try.ntmps20
    go_upto_region 16 with fail
    go_wp2_with (first | (at_builtin; refine wpList_append_run _ rfl (Operand.const (.slice none 0 0)) (Operand.tmp 27) 22 22 rfl (.slice none 0 0) (.slice a n c) rfl rfl (hap 22) ?_) | (at_builtin; refine wpList_append_run _ rfl (Operand.const (.slice none 0 0)) (Operand.tmp 31) 23 23 rfl (.slice none 0 0) (.slice p m q) rfl rfl (hapr 23) ?_) | (refine wpList_load_row rfl _ _ rfl w.heap.size rfl 26 C (0, 0) _ (unhide B67).1 Try.underlying26 rfl iC ?_) | (refine wpList_store_row rfl _ _ _ rfl (w.heap.size + 1) C rfl rfl 26 _ (unhide B67).2 iC (by rw [C17]; rfl) C1 ?_))
    refine bodyPost_ret (results_ct (p := 2) (u := 3) (tp := 26) Try.results20 _ _ (w.heap.size + 1) C _ rfl (unhide B8') Try.underlying26 rfl iC) rfl ?_
    exact unhide FIN
end Go.Proofs.Ytggjeamondampab
