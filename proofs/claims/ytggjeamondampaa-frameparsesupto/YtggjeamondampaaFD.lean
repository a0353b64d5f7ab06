/- streamShape. -/
import Derived.Test.YtggjeamondampaaFH
import Derived.Deep.DeepCutAuto
import Derived.BigRegion
namespace Go.Proofs.Ytggjeamondampaa
open Go.RowKit
set_option linter.unusedVariables false
set_option maxRecDepth 100000
set_option maxHeartbeats 4000000

theorem stream_bits (k : Int) (h : 8 ≤ k ∧ k ≤ 15) : ∃ x1 x4 x2 : Bool, (bits .and .i64 k 1 != 0) = x1 ∧ (bits .and .i64 k 4 != 0) = x4 ∧ (bits .and .i64 k 2 == 0) = x2 ∧
    shapeF k = some (({ Fr.zero with kind := 8, fin := x1, tail := x2 } : Fr), (1, (if x4 then 2 else 0), (if x2 then 12 else 11), 0)) := by
  rcases (by omega : k = 8 ∨ k = 9 ∨ k = 10 ∨ k = 11 ∨ k = 12 ∨ k = 13 ∨ k = 14 ∨ k = 15) with rfl | rfl | rfl | rfl | rfl | rfl | rfl | rfl
  · exact ⟨false, false, true, by decide, by decide, by decide, by simp [shapeF]⟩
  · exact ⟨true, false, true, by decide, by decide, by decide, by simp [shapeF]⟩
  · exact ⟨false, false, false, by decide, by decide, by decide, by simp [shapeF]⟩
  · exact ⟨true, false, false, by decide, by decide, by decide, by simp [shapeF]⟩
  · exact ⟨false, true, true, by decide, by decide, by decide, by simp [shapeF]⟩
  · exact ⟨true, true, true, by decide, by decide, by decide, by simp [shapeF]⟩
  · exact ⟨false, true, false, by decide, by decide, by decide, by simp [shapeF]⟩
  · exact ⟨true, true, false, by decide, by decide, by decide, by simp [shapeF]⟩

theorem stream_any (k : Int) (h : 8 ≤ k ∧ k ≤ 15) (f : Fr) (p : Nat × Nat × Nat × Nat) (hs : shapeF k = some (f, p)) (w : World) :
    Calls Try.prog 86 #[.int .i64 k] w fun e w' => e = .returned (.tuple #[f.val nilS nilS, p4 p]) ∧ w.grownBy w' none := by
  obtain ⟨x1, x4, x2, h1, h4, h2, hs2⟩ := stream_bits k h
  rw [hs] at hs2
  simp only [Option.some.injEq, Prod.mk.injEq] at hs2
  obtain ⟨B, hB⟩ : ∃ B : Int, B = (((if x4 then 2 else 0 : Nat)) : Int) := ⟨_, rfl⟩
  obtain ⟨C, hC⟩ : ∃ C : Int, C = (((if x2 then 12 else 11 : Nat)) : Int) := ⟨_, rfl⟩
  have hpc : c4 p = #[.int .i64 1, .int .i64 B, .int .i64 C, .int .i64 0] := by
    obtain ⟨rfl, rfl⟩ := hs2; simp [hB, hC]
  obtain rfl := hs2.1
  clear hs hs2 h
  unfold p4
  rw [hpc]
  clear hpc
  go_enter Try.func86, Try.ntmps86
  go_upto_if 13 with fail
  go_cut [] (fun wc => wc = (((w.alloc (.cells (Fr.zero.cs nilS nilS) 26)).alloc (.cells #[.int .i64 0, .int .i64 0, .int .i64 0, .int .i64 0] 115)).alloc (.cells (({ Fr.zero with kind := 8, fin := x1 } : Fr).cs nilS nilS) 26)).alloc (.cells #[.int .i64 1, .int .i64 B, .int .i64 11, .int .i64 0] 115))
  case first =>
    cases x4
    · go_wp2
      go_meet
      case rel => subst hB; simp; rfl
    · go_wp2
      go_meet
      case rel => subst hB; simp; rfl
  case rest =>
    subst hcut
    clear h1 h4 hB
    go_upto_if 17 with fail
    go_cut [] (fun wc => Blk wc w.heap.size (Fr.zero.cs nilS nilS) 26 ∧ Blk wc (w.heap.size + 1) #[.int .i64 0, .int .i64 0, .int .i64 0, .int .i64 0] 115 ∧ Blk wc (w.heap.size + 1 + 1) (({ Fr.zero with kind := 8, fin := x1, tail := x2 } : Fr).cs nilS nilS) 26 ∧ Blk wc (w.heap.size + 1 + 1 + 1) #[.int .i64 1, .int .i64 B, .int .i64 C, .int .i64 0] 115 ∧ w.grownBy wc none)
    case first => as_aux_lemma =>
      have hz : ((w.alloc (.cells (Fr.zero.cs nilS nilS) 26)).alloc (.cells #[.int .i64 0, .int .i64 0, .int .i64 0, .int .i64 0] 115)).heap.size = w.heap.size + 1 + 1 := by show ((w.heap.push _).push _).size = _; simp
      have fin : ∀ F G, let W := ((((w.alloc (.cells (Fr.zero.cs nilS nilS) 26)).alloc (.cells #[.int .i64 0, .int .i64 0, .int .i64 0, .int .i64 0] 115)).alloc (.cells F 26)).alloc (.cells G 115)); Blk W w.heap.size (Fr.zero.cs nilS nilS) 26 ∧ Blk W (w.heap.size + 1) #[.int .i64 0, .int .i64 0, .int .i64 0, .int .i64 0] 115 ∧ Blk W (w.heap.size + 1 + 1) F 26 ∧ Blk W (w.heap.size + 1 + 1 + 1) G 115 ∧ w.grownBy W none := by
        intro F G W
        obtain ⟨a1, a2, a3⟩ := Blk.two w (Fr.zero.cs nilS nilS) #[.int .i64 0, .int .i64 0, .int .i64 0, .int .i64 0] 26 115
        obtain ⟨c1, c2, c3⟩ := Blk.two ((w.alloc (.cells (Fr.zero.cs nilS nilS) 26)).alloc (.cells #[.int .i64 0, .int .i64 0, .int .i64 0, .int .i64 0] 115)) F G 26 115
        rw [hz] at c1 c2
        exact ⟨a1.grown c3, a2.grown c3, c1, c2, a3.trans c3⟩
      cases x2
      · go_wp2
        go_meet
        case rel => subst hC; exact fin _ _
      · go_wp2
        go_meet
        case rel => subst hC; exact fin _ _
    case rest =>
      obtain ⟨b1, b2, b3, b4, g⟩ := hcut
      clear h2 hC
      have B1 := hide b1; have B2 := hide b2; have B3 := hide b3; have B4 := hide b4
      clear b1 b2 b3 b4
      go_wp2
      refine wp_region_any (by kernel_rfl) ?_
      change wpAny _ _ _ _ _ _ _ (World.drew _)
      refine wpAny_ready (rs := [0, 1]) (by kernel_rfl) (by simp) ?_
      refine AllReady.cons rfl (fun K hK => ?_) (AllReady.cons rfl (fun K hK => ?_) AllReady.nil)
      · refine step_load_row rfl _ _ rfl (w.heap.size + 1 + 1) rfl (({ Fr.zero with kind := 8, fin := x1, tail := x2 } : Fr).cs nilS nilS) 26 _ ((unhide B3).drew) Try.underlying26 rfl Try.size26 ?_
        refine hK _ _ ?_
        clear hK K
        refine wpAny_ready (rs := [1, 2]) (by kernel_rfl) (by simp) ?_
        refine AllReady.cons rfl (fun K hK => ?_) (AllReady.cons rfl (fun K hK => ?_) AllReady.nil)
        · refine step_load_row rfl _ _ rfl (w.heap.size + 1 + 1 + 1) rfl (#[.int .i64 1, .int .i64 B, .int .i64 C, .int .i64 0]) 115 _ ((unhide B4).drew) Try.underlying115 rfl Try.size73 ?_
          refine hK _ _ ?_
          clear hK K
          refine wpAny_ready (rs := [2]) (by kernel_rfl) (by simp) ?_
          refine AllReady.cons rfl (fun K hK => ?_) AllReady.nil
          refine step_store_row rfl _ _ _ rfl (w.heap.size) (({ Fr.zero with kind := 8, fin := x1, tail := x2 } : Fr).cs nilS nilS) (Fr.zero.cs nilS nilS) rfl rfl 26 ((unhide B1).drew) Try.size26 rfl (one17 _ _ _ rfl rfl) ?_
          refine hK _ _ ?_
          clear hK K
          refine wpAny_ready (rs := [3]) (by kernel_rfl) (by simp) ?_
          refine AllReady.cons rfl (fun K hK => ?_) AllReady.nil
          refine step_store_row rfl _ _ _ rfl (w.heap.size + 1) (#[.int .i64 1, .int .i64 B, .int .i64 C, .int .i64 0]) (#[.int .i64 0, .int .i64 0, .int .i64 0, .int .i64 0]) rfl rfl 115 ((unhide B2).drew.rowO w.heap.size _ (by omega)) Try.size73 rfl (by simp [Value.oneCell']) ?_
          refine hK _ _ ?_
          clear hK K
          refine wpAny_done (by kernel_rfl) ?_ _
          refine then_n ?_
          go_step
          refine wp_ret ?_
          refine bodyPost_ret (results_cc (p := 2) (q := 3) (tp := 26) (tq := 115) Try.results86 _ _ w.heap.size (w.heap.size + 1) (({ Fr.zero with kind := 8, fin := x1, tail := x2 } : Fr).cs nilS nilS) #[.int .i64 1, .int .i64 B, .int .i64 C, .int .i64 0] _ _ rfl rfl (((unhide B1).drew.row _).rowO (w.heap.size + 1) _ (by omega)) (((unhide B2).drew.rowO w.heap.size _ (by omega)).row _) Try.underlying26 rfl Try.size26 Try.underlying115 rfl Try.size73) rfl ?_
          exact ⟨rfl, grown_row (grown_row (grown_drew' g) w.heap.size _ (Nat.le_refl _)) (w.heap.size + 1) _ (Nat.le_succ _)⟩
        · refine step_store_row rfl _ _ _ rfl (w.heap.size) (({ Fr.zero with kind := 8, fin := x1, tail := x2 } : Fr).cs nilS nilS) (Fr.zero.cs nilS nilS) rfl rfl 26 ((unhide B1).drew) Try.size26 rfl (one17 _ _ _ rfl rfl) ?_
          refine hK _ _ ?_
          clear hK K
          refine wpAny_ready (rs := [1]) (by kernel_rfl) (by simp) ?_
          refine AllReady.cons rfl (fun K hK => ?_) AllReady.nil
          refine step_load_row rfl _ _ rfl (w.heap.size + 1 + 1 + 1) rfl (#[.int .i64 1, .int .i64 B, .int .i64 C, .int .i64 0]) 115 _ ((unhide B4).drew.rowO w.heap.size _ (by omega)) Try.underlying115 rfl Try.size73 ?_
          refine hK _ _ ?_
          clear hK K
          refine wpAny_ready (rs := [3]) (by kernel_rfl) (by simp) ?_
          refine AllReady.cons rfl (fun K hK => ?_) AllReady.nil
          refine step_store_row rfl _ _ _ rfl (w.heap.size + 1) (#[.int .i64 1, .int .i64 B, .int .i64 C, .int .i64 0]) (#[.int .i64 0, .int .i64 0, .int .i64 0, .int .i64 0]) rfl rfl 115 ((unhide B2).drew.rowO w.heap.size _ (by omega)) Try.size73 rfl (by simp [Value.oneCell']) ?_
          refine hK _ _ ?_
          clear hK K
          refine wpAny_done (by kernel_rfl) ?_ _
          refine then_n ?_
          go_step
          refine wp_ret ?_
          refine bodyPost_ret (results_cc (p := 2) (q := 3) (tp := 26) (tq := 115) Try.results86 _ _ w.heap.size (w.heap.size + 1) (({ Fr.zero with kind := 8, fin := x1, tail := x2 } : Fr).cs nilS nilS) #[.int .i64 1, .int .i64 B, .int .i64 C, .int .i64 0] _ _ rfl rfl (((unhide B1).drew.row _).rowO (w.heap.size + 1) _ (by omega)) (((unhide B2).drew.rowO w.heap.size _ (by omega)).row _) Try.underlying26 rfl Try.size26 Try.underlying115 rfl Try.size73) rfl ?_
          exact ⟨rfl, grown_row (grown_row (grown_drew' g) w.heap.size _ (Nat.le_refl _)) (w.heap.size + 1) _ (Nat.le_succ _)⟩
      · refine step_load_row rfl _ _ rfl (w.heap.size + 1 + 1 + 1) rfl (#[.int .i64 1, .int .i64 B, .int .i64 C, .int .i64 0]) 115 _ ((unhide B4).drew) Try.underlying115 rfl Try.size73 ?_
        refine hK _ _ ?_
        clear hK K
        refine wpAny_ready (rs := [0]) (by kernel_rfl) (by simp) ?_
        refine AllReady.cons rfl (fun K hK => ?_) AllReady.nil
        refine step_load_row rfl _ _ rfl (w.heap.size + 1 + 1) rfl (({ Fr.zero with kind := 8, fin := x1, tail := x2 } : Fr).cs nilS nilS) 26 _ ((unhide B3).drew) Try.underlying26 rfl Try.size26 ?_
        refine hK _ _ ?_
        clear hK K
        refine wpAny_ready (rs := [2]) (by kernel_rfl) (by simp) ?_
        refine AllReady.cons rfl (fun K hK => ?_) AllReady.nil
        refine step_store_row rfl _ _ _ rfl (w.heap.size) (({ Fr.zero with kind := 8, fin := x1, tail := x2 } : Fr).cs nilS nilS) (Fr.zero.cs nilS nilS) rfl rfl 26 ((unhide B1).drew) Try.size26 rfl (one17 _ _ _ rfl rfl) ?_
        refine hK _ _ ?_
        clear hK K
        refine wpAny_ready (rs := [3]) (by kernel_rfl) (by simp) ?_
        refine AllReady.cons rfl (fun K hK => ?_) AllReady.nil
        refine step_store_row rfl _ _ _ rfl (w.heap.size + 1) (#[.int .i64 1, .int .i64 B, .int .i64 C, .int .i64 0]) (#[.int .i64 0, .int .i64 0, .int .i64 0, .int .i64 0]) rfl rfl 115 ((unhide B2).drew.rowO w.heap.size _ (by omega)) Try.size73 rfl (by simp [Value.oneCell']) ?_
        refine hK _ _ ?_
        clear hK K
        refine wpAny_done (by kernel_rfl) ?_ _
        refine then_n ?_
        go_step
        refine wp_ret ?_
        refine bodyPost_ret (results_cc (p := 2) (q := 3) (tp := 26) (tq := 115) Try.results86 _ _ w.heap.size (w.heap.size + 1) (({ Fr.zero with kind := 8, fin := x1, tail := x2 } : Fr).cs nilS nilS) #[.int .i64 1, .int .i64 B, .int .i64 C, .int .i64 0] _ _ rfl rfl (((unhide B1).drew.row _).rowO (w.heap.size + 1) _ (by omega)) (((unhide B2).drew.rowO w.heap.size _ (by omega)).row _) Try.underlying26 rfl Try.size26 Try.underlying115 rfl Try.size73) rfl ?_
        exact ⟨rfl, grown_row (grown_row (grown_drew' g) w.heap.size _ (Nat.le_refl _)) (w.heap.size + 1) _ (Nat.le_succ _)⟩

end Go.Proofs.Ytggjeamondampaa
