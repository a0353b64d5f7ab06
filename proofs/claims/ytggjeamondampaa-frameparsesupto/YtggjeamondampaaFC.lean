/- shapeOf. -/
import Derived.Test.YtggjeamondampaaFH
import Derived.Deep.DeepCutAuto
import Derived.Deep.CutBlock
import Derived.BigRegion
import Derived.Deep.RegionLaw
namespace Go.Proofs.Ytggjeamondampaa
open Go.RowKit
set_option linter.unusedVariables false
set_option maxRecDepth 100000
set_option maxHeartbeats 4000000

theorem shape_none {k : Int} (hn : ¬ ((k = 0 ∨ k = 1 ∨ k = 30 ∨ k = 2 ∨ k = 3 ∨ k = 4 ∨ k = 5 ∨ k = 6) ∨ (8 ≤ k ∧ k ≤ 15) ∨ (k = 16 ∨ k = 20 ∨ k = 17 ∨ k = 21 ∨ k = 19 ∨ k = 23 ∨ k = 18 ∨ k = 22 ∨ k = 26 ∨ k = 27 ∨ k = 28 ∨ k = 29))) : shapeF k = none := by
  unfold shapeF
  rw [if_neg (by omega), if_neg (by omega), if_neg (by omega), if_neg (by omega), if_neg (by omega), if_neg (by omega), if_neg (by omega), if_neg (by omega), if_neg (by omega), if_neg (by omega), if_neg (by omega), if_neg (by omega), if_neg (by omega), if_neg (by omega), if_neg (by omega)]

theorem shape_dom {k : Int} {f : Fr} {p : Nat × Nat × Nat × Nat} (h : shapeF k = some (f, p)) : (k = 0 ∨ k = 1 ∨ k = 30 ∨ k = 2 ∨ k = 3 ∨ k = 4 ∨ k = 5 ∨ k = 6) ∨ (8 ≤ k ∧ k ≤ 15) ∨ (k = 16 ∨ k = 20 ∨ k = 17 ∨ k = 21 ∨ k = 19 ∨ k = 23 ∨ k = 18 ∨ k = 22 ∨ k = 26 ∨ k = 27 ∨ k = 28 ∨ k = 29) := by
  refine Classical.byContradiction fun hn => ?_
  rw [shape_none hn] at h
  simp at h

theorem shape_any (k : Int) (f : Fr) (p : Nat × Nat × Nat × Nat) (hs : shapeF k = some (f, p)) (w : World)
    (hstr : 8 ≤ k ∧ k ≤ 15 → ∀ W : World, Calls Try.prog 86 #[.int .i64 k] W fun e w' => e = .returned (.tuple #[f.val nilS nilS, p4 p]) ∧ W.grownBy w' none) :
    Calls Try.prog 67 #[.int .i64 k] w fun e w' => e = .returned (.tuple #[f.val nilS nilS, p4 p, .bool true]) ∧ w.grownBy w' none := by
  obtain ⟨A, B, C, D, hpc⟩ : ∃ A B C D : Int, c4 p = #[.int .i64 A, .int .i64 B, .int .i64 C, .int .i64 D] := ⟨_, _, _, _, rfl⟩
  unfold p4 at hstr ⊢
  rw [hpc] at hstr ⊢
  go_enter Try.func67, Try.ntmps67
  go_upto_block 0 with fail
  go_cut [] (fun wc => Blk wc w.heap.size (f.cs nilS nilS) 26 ∧ Blk wc (w.heap.size + 1) #[.int .i64 A, .int .i64 B, .int .i64 C, .int .i64 D] 115 ∧ w.grownBy wc none)
  case first =>
    rcases shape_dom hs with h | h | h
    · clear hstr
      rcases h with rfl | rfl | rfl | rfl | rfl | rfl | rfl | rfl
      all_goals as_aux_lemma =>
        simp [shapeF] at hs
        obtain ⟨rfl, rfl⟩ := hs
        obtain ⟨rfl, rfl, rfl, rfl⟩ := (by simpa using hpc : _ = A ∧ _ = B ∧ _ = C ∧ _ = D)
        repeat' (first | with_reducible refine then_x ?_ | with_reducible refine blk_s ?_ | with_reducible refine blk_o (by decide) ?_ | with_reducible refine then_n ?_ | go_step)
        go_meet
        case rel => exact Blk.two w _ _ _ _
    · have hz := hstr h
      have h0 := Blk.two w (({ Fr.zero with kind := k } : Fr).cs nilS nilS) #[.int .i64 0, .int .i64 0, .int .i64 0, .int .i64 0] 26 115
      clear hstr hs hpc
      have t0 : (k == 0) = false := by simp; omega
      have t1 : (k == 1) = false := by simp; omega
      go_upto_block 8 with fail
      go_cut [] (fun wc => wc = (w.alloc (.cells (({ Fr.zero with kind := k } : Fr).cs nilS nilS) 26)).alloc (.cells #[.int .i64 0, .int .i64 0, .int .i64 0, .int .i64 0] 115))
      case first =>
        clear hz h0 t0 t1
        rcases (by omega : k = 8 ∨ k = 9 ∨ k = 10 ∨ k = 11 ∨ k = 12 ∨ k = 13 ∨ k = 14 ∨ k = 15) with rfl | rfl | rfl | rfl | rfl | rfl | rfl | rfl
        all_goals as_aux_lemma =>
          repeat' (first | with_reducible refine then_x ?_ | with_reducible refine blk_s ?_ | with_reducible refine blk_o (by decide) ?_ | with_reducible refine then_n ?_ | go_step)
          go_meet
          case rel => rfl
      case rest =>
        subst hcut
        obtain ⟨h1, h2, h3⟩ := h0
        generalize (w.alloc (.cells (({ Fr.zero with kind := k } : Fr).cs nilS nilS) 26)).alloc (.cells #[.int .i64 0, .int .i64 0, .int .i64 0, .int .i64 0] 115) = W0 at *
        have H1 := hide h1; have H2 := hide h2; have H3 := hide h3
        clear h1 h2 h3 t0 t1
        go_wp2_with (first | (go_at_call 86; refine (hz _).mono ?_; rintro e W1 ⟨rfl, g1⟩; have B1 := hide ((unhide H1).grown g1); have B2 := hide ((unhide H2).grown g1); have B3 := hide ((unhide H3).trans g1); clear hz g1 H1 H2 H3) | (refine wpList_store_row rfl _ _ _ rfl w.heap.size (f.cs nilS nilS) rfl rfl 26 _ (unhide B1) Try.size26 rfl (one17 _ _ _ rfl rfl) ?_) | (refine wpList_store_row rfl _ _ _ rfl (w.heap.size + 1) #[.int .i64 A, .int .i64 B, .int .i64 C, .int .i64 D] rfl rfl 115 _ ((unhide B2).rowO w.heap.size _ (by omega)) Try.size73 rfl (by simp [Value.oneCell']) ?_))
        go_meet
        case rel => exact ⟨((unhide B1).row _).rowO (w.heap.size + 1) _ (by omega), ((unhide B2).rowO w.heap.size _ (by omega)).row _, grown_row (grown_row (unhide B3) w.heap.size _ (Nat.le_refl _)) (w.heap.size + 1) _ (Nat.le_succ _)⟩
    · clear hstr
      rcases h with rfl | rfl | rfl | rfl | rfl | rfl | rfl | rfl | rfl | rfl | rfl | rfl
      all_goals as_aux_lemma =>
        simp [shapeF] at hs
        obtain ⟨rfl, rfl⟩ := hs
        obtain ⟨rfl, rfl, rfl, rfl⟩ := (by simpa using hpc : _ = A ∧ _ = B ∧ _ = C ∧ _ = D)
        repeat' (first | with_reducible refine then_x ?_ | with_reducible refine blk_s ?_ | with_reducible refine blk_o (by decide) ?_ | with_reducible refine then_n ?_ | go_step)
        go_meet
        case rel => exact Blk.two w _ _ _ _
  case rest =>
    obtain ⟨b1, b2, g⟩ := hcut
    have B1 := hide b1; have B2 := hide b2
    clear b1 b2 hstr hs hpc
    go_wp2
    refine wp_region_any (by kernel_rfl) ?_
    change wpAny _ _ _ _ _ _ _ (World.drew _)
    refine wpAny_ready (rs := [0, 1]) (by kernel_rfl) (by simp) ?_
    refine AllReady.cons rfl (fun K hK => ?_) (AllReady.cons rfl (fun K hK => ?_) AllReady.nil)
    · refine step_load_row rfl _ _ rfl (w.heap.size) rfl (f.cs nilS nilS) 26 _ ((unhide B1).drew) Try.underlying26 rfl Try.size26 ?_
      refine hK _ _ ?_
      clear hK K
      refine wpAny_ready (rs := [1, 2]) (by kernel_rfl) (by simp) ?_
      refine AllReady.cons rfl (fun K hK => ?_) (AllReady.cons rfl (fun K hK => ?_) AllReady.nil)
      · refine step_load_row rfl _ _ rfl (w.heap.size + 1) rfl (#[.int .i64 A, .int .i64 B, .int .i64 C, .int .i64 D]) 115 _ ((unhide B2).drew) Try.underlying115 rfl Try.size73 ?_
        refine hK _ _ ?_
        clear hK K
        refine wpAny_ready (rs := [2]) (by kernel_rfl) (by simp) ?_
        refine AllReady.cons rfl (fun K hK => ?_) AllReady.nil
        refine step_store_same rfl _ _ _ rfl (w.heap.size) (f.cs nilS nilS) rfl rfl 26 ((unhide B1).drew) Try.size26 (one17 _ _ _ rfl rfl) ?_
        refine hK _ _ ?_
        clear hK K
        refine wpAny_ready (rs := [3]) (by kernel_rfl) (by simp) ?_
        refine AllReady.cons rfl (fun K hK => ?_) AllReady.nil
        refine step_store_same rfl _ _ _ rfl (w.heap.size + 1) (#[.int .i64 A, .int .i64 B, .int .i64 C, .int .i64 D]) rfl rfl 115 ((unhide B2).drew) Try.size73 (by simp [Value.oneCell']) ?_
        refine hK _ _ ?_
        clear hK K
        refine wpAny_ready (rs := [4]) (by kernel_rfl) (by simp) ?_
        refine AllReady.cons rfl (fun K hK => ?_) AllReady.nil
        refine step_assign rfl _ rfl (.bool true) rfl ?_
        refine hK _ _ ?_
        clear hK K
        refine wpAny_done (by kernel_rfl) ?_ _
        refine then_n ?_
        go_step
        refine wp_ret ?_
        refine bodyPost_ret (results_cct (p := 2) (q := 3) (u := 4) (tp := 26) (tq := 115) Try.results67 _ wc.drew w.heap.size (w.heap.size + 1) (f.cs nilS nilS) #[.int .i64 A, .int .i64 B, .int .i64 C, .int .i64 D] _ _ rfl rfl (unhide B1).drew (unhide B2).drew Try.underlying26 rfl Try.size26 Try.underlying115 rfl Try.size73) rfl ?_
        exact ⟨rfl, grown_drew' g⟩
      · refine step_store_same rfl _ _ _ rfl (w.heap.size) (f.cs nilS nilS) rfl rfl 26 ((unhide B1).drew) Try.size26 (one17 _ _ _ rfl rfl) ?_
        refine hK _ _ ?_
        clear hK K
        refine wpAny_ready (rs := [1]) (by kernel_rfl) (by simp) ?_
        refine AllReady.cons rfl (fun K hK => ?_) AllReady.nil
        refine step_load_row rfl _ _ rfl (w.heap.size + 1) rfl (#[.int .i64 A, .int .i64 B, .int .i64 C, .int .i64 D]) 115 _ ((unhide B2).drew) Try.underlying115 rfl Try.size73 ?_
        refine hK _ _ ?_
        clear hK K
        refine wpAny_ready (rs := [3]) (by kernel_rfl) (by simp) ?_
        refine AllReady.cons rfl (fun K hK => ?_) AllReady.nil
        refine step_store_same rfl _ _ _ rfl (w.heap.size + 1) (#[.int .i64 A, .int .i64 B, .int .i64 C, .int .i64 D]) rfl rfl 115 ((unhide B2).drew) Try.size73 (by simp [Value.oneCell']) ?_
        refine hK _ _ ?_
        clear hK K
        refine wpAny_ready (rs := [4]) (by kernel_rfl) (by simp) ?_
        refine AllReady.cons rfl (fun K hK => ?_) AllReady.nil
        refine step_assign rfl _ rfl (.bool true) rfl ?_
        refine hK _ _ ?_
        clear hK K
        refine wpAny_done (by kernel_rfl) ?_ _
        refine then_n ?_
        go_step
        refine wp_ret ?_
        refine bodyPost_ret (results_cct (p := 2) (q := 3) (u := 4) (tp := 26) (tq := 115) Try.results67 _ wc.drew w.heap.size (w.heap.size + 1) (f.cs nilS nilS) #[.int .i64 A, .int .i64 B, .int .i64 C, .int .i64 D] _ _ rfl rfl (unhide B1).drew (unhide B2).drew Try.underlying26 rfl Try.size26 Try.underlying115 rfl Try.size73) rfl ?_
        exact ⟨rfl, grown_drew' g⟩
    · refine step_load_row rfl _ _ rfl (w.heap.size + 1) rfl (#[.int .i64 A, .int .i64 B, .int .i64 C, .int .i64 D]) 115 _ ((unhide B2).drew) Try.underlying115 rfl Try.size73 ?_
      refine hK _ _ ?_
      clear hK K
      refine wpAny_ready (rs := [0]) (by kernel_rfl) (by simp) ?_
      refine AllReady.cons rfl (fun K hK => ?_) AllReady.nil
      refine step_load_row rfl _ _ rfl (w.heap.size) rfl (f.cs nilS nilS) 26 _ ((unhide B1).drew) Try.underlying26 rfl Try.size26 ?_
      refine hK _ _ ?_
      clear hK K
      refine wpAny_ready (rs := [2]) (by kernel_rfl) (by simp) ?_
      refine AllReady.cons rfl (fun K hK => ?_) AllReady.nil
      refine step_store_same rfl _ _ _ rfl (w.heap.size) (f.cs nilS nilS) rfl rfl 26 ((unhide B1).drew) Try.size26 (one17 _ _ _ rfl rfl) ?_
      refine hK _ _ ?_
      clear hK K
      refine wpAny_ready (rs := [3]) (by kernel_rfl) (by simp) ?_
      refine AllReady.cons rfl (fun K hK => ?_) AllReady.nil
      refine step_store_same rfl _ _ _ rfl (w.heap.size + 1) (#[.int .i64 A, .int .i64 B, .int .i64 C, .int .i64 D]) rfl rfl 115 ((unhide B2).drew) Try.size73 (by simp [Value.oneCell']) ?_
      refine hK _ _ ?_
      clear hK K
      refine wpAny_ready (rs := [4]) (by kernel_rfl) (by simp) ?_
      refine AllReady.cons rfl (fun K hK => ?_) AllReady.nil
      refine step_assign rfl _ rfl (.bool true) rfl ?_
      refine hK _ _ ?_
      clear hK K
      refine wpAny_done (by kernel_rfl) ?_ _
      refine then_n ?_
      go_step
      refine wp_ret ?_
      refine bodyPost_ret (results_cct (p := 2) (q := 3) (u := 4) (tp := 26) (tq := 115) Try.results67 _ wc.drew w.heap.size (w.heap.size + 1) (f.cs nilS nilS) #[.int .i64 A, .int .i64 B, .int .i64 C, .int .i64 D] _ _ rfl rfl (unhide B1).drew (unhide B2).drew Try.underlying26 rfl Try.size26 Try.underlying115 rfl Try.size73) rfl ?_
      exact ⟨rfl, grown_drew' g⟩

end Go.Proofs.Ytggjeamondampaa
