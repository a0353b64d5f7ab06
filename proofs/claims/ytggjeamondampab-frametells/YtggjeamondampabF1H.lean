/- Keep of a frame with bytes; Keep whole. -/
import Derived.Test.YtggjeamondampabF1G
namespace Go.Proofs.Ytggjeamondampab
open Go.RowKit
set_option linter.unusedVariables false
set_option maxRecDepth 100000
set_option maxHeartbeats 4000000

theorem keep_data (f : Fr) (d r : Value) (w : World) (h : keepS f.kind = 2) (hR : FrR w f d r) (hr : f.runs.length * 16 ≤ 140737488351232) : Calls Try.prog 20 #[f.val d r] w (KeepPost f w) := by
  have e : keepF f = { f with size := (f.data.length : Int), data := [], tail := false } := by unfold keepF; rw [h]; rfl
  have hk : f.kind = 6 ∨ f.kind = 8 := by
    unfold keepS at h
    split at h
    · assumption
    · split at h <;> cases h
  obtain ⟨a, c, rfl, h1, h2, h3⟩ := hR.data
  obtain ⟨p, q, rfl, h4, h5, h6⟩ := hR.runs
  obtain ⟨B1, B2, g2⟩ := Blk.two w (f.cs (.slice a f.data.length c) (.slice p f.runs.length q)) #[.int .i64 0, .int .i64 0, .int .i64 0, .slice none 0 0, .int .i64 0, .bool false, .bool false, .int .i64 0, .bool false, .int .i64 0, .bool false, .int .i64 0, .slice none 0 0, .bool false, .int .i64 0, .int .i64 0, .int .i64 0] 26 26
  obtain ⟨W2, hW2⟩ : ∃ W2, W2 = (w.alloc (.cells (f.cs (.slice a f.data.length c) (.slice p f.runs.length q)) 26)).alloc (.cells #[.int .i64 0, .int .i64 0, .int .i64 0, .slice none 0 0, .int .i64 0, .bool false, .bool false, .int .i64 0, .bool false, .int .i64 0, .bool false, .int .i64 0, .slice none 0 0, .bool false, .int .i64 0, .int .i64 0, .int .i64 0] 26) := ⟨_, rfl⟩
  rw [← hW2] at B1 B2 g2
  have B3 := ((B1.setC 4 (.int .i64 (f.data.length : Int))).setC 3 nilS).setC 6 (.bool false)
  have b3 := ((B2.setO w.heap.size 4 (.int .i64 (f.data.length : Int)) (by omega)).setO w.heap.size 3 nilS (by omega)).setO w.heap.size 6 (.bool false) (by omega)
  have g3 : w.grownBy (((W2.setCell ⟨w.heap.size, 4, none⟩ (.int .i64 (f.data.length : Int))).setCell ⟨w.heap.size, 3, none⟩ nilS).setCell ⟨w.heap.size, 6, none⟩ (.bool false)) none := grown_set (grown_set (grown_set g2 _ 4 _ (Nat.le_refl _)) _ 3 _ (Nat.le_refl _)) _ 6 _ (Nat.le_refl _)
  have hap := fun ty => app_none (((W2.setCell ⟨w.heap.size, 4, none⟩ (.int .i64 (f.data.length : Int))).setCell ⟨w.heap.size, 3, none⟩ nilS).setCell ⟨w.heap.size, 6, none⟩ (.bool false)) none 0 ty
  have B4 := B3.setC 3 nilS
  obtain ⟨ra, rc, W5, hapr, g5, B5, B6, B7, B8, oB8, oR8, g8⟩ := keep_end { f with size := (f.data.length : Int), data := [], tail := false } w ((((W2.setCell ⟨w.heap.size, 4, none⟩ (.int .i64 (f.data.length : Int))).setCell ⟨w.heap.size, 3, none⟩ nilS).setCell ⟨w.heap.size, 6, none⟩ (.bool false)).setCell ⟨w.heap.size, 3, none⟩ nilS) w.heap.size (w.heap.size + 1) p q nilS (.slice p f.runs.length q) #[.int .i64 0, .int .i64 0, .int .i64 0, .slice none 0 0, .int .i64 0, .bool false, .bool false, .int .i64 0, .bool false, .int .i64 0, .bool false, .int .i64 0, .slice none 0 0, .bool false, .int .i64 0, .int .i64 0, .int .i64 0] (Nat.le_refl _) (by omega) (by omega) (grown_set g3 _ 3 _ (Nat.le_refl _)) B4 (b3.setO _ 3 _ (by omega)) (own_nilB _ _) h4 hr
  have B8' := hide B8
  have B67 := hide (And.intro B6 B7)
  obtain ⟨C, hC⟩ : ∃ C, C = ({ f with size := (f.data.length : Int), data := [], tail := false } : Fr).cs nilS (.slice ra f.runs.length rc) := ⟨_, rfl⟩
  have C17 : C.size = 17 := by rw [hC]; rfl
  have iC : (Try.prog.info? 26).map (·.size) = some C.size := by rw [C17]; exact Try.size26
  have C1 : C.all (·.oneCell') = true := by rw [hC]; exact one17 _ _ _ rfl rfl
  rw [← hC] at B8' B67 oB8 oR8 g8
  have FIN : Hid (KeepPost f w (.returned (.tuple #[.agg C, .bool true])) _) := ⟨_, _, by rw [e, h, hC]; rfl, by rw [e]; exact oB8, by rw [e]; exact oR8, g8⟩
  have x0 := B1.cell 0 (.int .i64 f.kind) rfl
  have x3 := B1.cell 3 (.slice a f.data.length c) rfl
  have x4 := B1.cell 4 (.int .i64 f.size) rfl
  have tw := B1.thaws
  have y3 := (B1.setC 4 (.int .i64 (f.data.length : Int))).cell 3 (.slice a f.data.length c) rfl
  have yt := (B1.setC 4 (.int .i64 (f.data.length : Int))).thaws
  have y6 := ((B1.setC 4 (.int .i64 (f.data.length : Int))).setC 3 nilS).cell 6 (.bool f.tail) rfl
  have yu := ((B1.setC 4 (.int .i64 (f.data.length : Int))).setC 3 nilS).thaws
  have v3 := B3.cell 3 nilS rfl
  have v4 := B3.thaws
  have z12 := B4.cell 12 (.slice p f.runs.length q) rfl
  have u12 := B5.cell 12 (.slice p f.runs.length q) rfl
  have u13 := B5.thaws
  clear e h hR h1 h2 h3 h4 h5 h6 g2 g3 g5 oB8 oR8 g8 B1 B2 B3 b3 B4 B5 B6 B7 B8 hr hC
  generalize f.data.length = n at *
  generalize f.runs.length = m at *
  generalize KeepPost f w = Q at *
  obtain ⟨kind, stream, offset, data, size, fin, tail, limit, uni, code, own, delay, runs, marks, c0, c1, c2⟩ := f
  simp only at hk x0 x4 y6
  rcases hk with rfl | rfl
  all_goals as_aux_lemma =>
    go_enter Try.func20, Try.ntmps20
    go_upto_region 5 with fail
    rw [← hW2]
    clear hW2
    go_upto_region 16 with fail
    generalize ((W2.setCell ⟨w.heap.size, 4, none⟩ (.int .i64 (n : Int))).setCell ⟨w.heap.size, 3, none⟩ (.slice none 0 0)).setCell ⟨w.heap.size, 6, none⟩ (.bool false) = W3 at *
    go_upto_region 17 with (at_builtin; refine wpList_append_run _ rfl (Operand.const (.slice none 0 0)) (Operand.tmp 27) 22 22 rfl (.slice none 0 0) (.slice none 0 0) rfl rfl (hap 22) ?_)
    generalize W3.setCell ⟨w.heap.size, 3, none⟩ (.slice none 0 0) = W4 at *
    go_upto_region 18 with (at_builtin; refine wpList_append_run _ rfl (Operand.const (.slice none 0 0)) (Operand.tmp 31) 23 23 rfl (.slice none 0 0) (.slice p m q) rfl rfl (hapr 23) ?_)
    go_wp2_with (first | (refine wpList_load_row rfl _ _ rfl w.heap.size rfl 26 C (0, 0) _ (unhide B67).1 Try.underlying26 rfl iC ?_) | (refine wpList_store_row rfl _ _ _ rfl (w.heap.size + 1) C rfl rfl 26 _ (unhide B67).2 iC (by rw [C17]; rfl) C1 ?_))
    refine bodyPost_ret (results_ct (p := 2) (u := 3) (tp := 26) Try.results20 _ _ (w.heap.size + 1) C _ rfl (unhide B8') Try.underlying26 rfl iC) rfl ?_
    exact unhide FIN

theorem keep_any (f : Fr) (d r : Value) (w : World) (hR : FrR w f d r) (hd : f.data.length ≤ 140737488351232) (hr : f.runs.length * 16 ≤ 140737488351232) : Calls Try.prog 20 #[f.val d r] w (KeepPost f w) := by
  have : keepS f.kind = 0 ∨ keepS f.kind = 1 ∨ keepS f.kind = 2 := by unfold keepS; (repeat' split) <;> omega
  rcases this with h | h | h
  · exact keep_zero f d r w h
  · exact keep_as f d r w h hR hd hr
  · exact keep_data f d r w h hR hr
end Go.Proofs.Ytggjeamondampab
