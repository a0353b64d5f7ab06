/- G4A, F1G, F1H, F1J, G4B, G4C, one text. -/
import Derived.Test.YtggjeamondampaaFM
import Derived.Test.YtggjeamondampaaFX3
import Derived.Test.YtggjeamondampaaM4F
import Derived.Test.YtggjeamondampaaM4A
namespace Go.Proofs.Ytggjeamondampaa
open Go.RowKit
set_option linter.unusedVariables false
set_option maxRecDepth 100000
set_option maxHeartbeats 4000000

theorem known_no (k : Int) (w : World) (h : ¬ isKindF k = true) : Calls Try.prog 44 #[.int .i64 k] w fun e w' => e = .returned (.bool false) ∧ w' = w := by
  have t0 : (k == 0) = false := by simp; rintro rfl; exact absurd h (by decide)
  have t1 : (k == 1) = false := by simp; rintro rfl; exact absurd h (by decide)
  have t2 : (k == 2) = false := by simp; rintro rfl; exact absurd h (by decide)
  have t4 : (k == 4) = false := by simp; rintro rfl; exact absurd h (by decide)
  have t5 : (k == 5) = false := by simp; rintro rfl; exact absurd h (by decide)
  have t6 : (k == 6) = false := by simp; rintro rfl; exact absurd h (by decide)
  have t8 : (k == 8) = false := by simp; rintro rfl; exact absurd h (by decide)
  have t16 : (k == 16) = false := by simp; rintro rfl; exact absurd h (by decide)
  have t17 : (k == 17) = false := by simp; rintro rfl; exact absurd h (by decide)
  have t18 : (k == 18) = false := by simp; rintro rfl; exact absurd h (by decide)
  have t20 : (k == 20) = false := by simp; rintro rfl; exact absurd h (by decide)
  have t21 : (k == 21) = false := by simp; rintro rfl; exact absurd h (by decide)
  have t22 : (k == 22) = false := by simp; rintro rfl; exact absurd h (by decide)
  have t26 : (k == 26) = false := by simp; rintro rfl; exact absurd h (by decide)
  have t27 : (k == 27) = false := by simp; rintro rfl; exact absurd h (by decide)
  have t28 : (k == 28) = false := by simp; rintro rfl; exact absurd h (by decide)
  have t30 : (k == 30) = false := by simp; rintro rfl; exact absurd h (by decide)
  clear h
  go_enter Try.func44, Try.ntmps44
  go_wp2
  go_ret
  exact ⟨rfl, rfl⟩
theorem known_any (k : Int) (w : World) : Calls Try.prog 44 #[.int .i64 k] w fun e w' => e = .returned (.bool (isKindF k)) ∧ w' = w := by
  by_cases h : isKindF k = true
  · rcases kind_dom h with rfl | rfl | rfl | rfl | rfl | rfl | rfl | rfl | rfl | rfl | rfl | rfl | rfl | rfl | rfl | rfl | rfl
    all_goals
      rw [h]
      clear h
      go_enter Try.func44, Try.ntmps44
      go_wp2
      go_ret
      exact ⟨rfl, rfl⟩
  · have e : isKindF k = false := by simpa using h
    rw [e]
    exact known_no k w h

theorem elicR_any (f : Fr) (d r : Value) (w : World) : Calls Try.prog 41 #[f.val d r] w fun e w' => e = .returned (.bool (elicF f.kind)) ∧ w.grownBy w' none := by
  have g0 := World.grownBy_alloc w (.cells (f.cs d r) 26) none
  have hk := known_any f.kind
  have e : elicF f.kind = (isKindF f.kind && (f.kind != 0 && (f.kind != 2 && f.kind != 28))) := by
    unfold elicF
    by_cases h : f.kind = 0 ∨ f.kind = 2 ∨ f.kind = 28
    · rw [if_pos h]
      rcases h with h | h | h <;> rw [h] <;> rfl
    · rw [if_neg h]
      have h0 : (f.kind != 0) = true := by simp; omega
      have h2 : (f.kind != 2) = true := by simp; omega
      have h3 : (f.kind != 28) = true := by simp; omega
      rw [h0, h2, h3]; simp
  rw [e]
  generalize isKindF f.kind = kk at *
  cases kk with
  | false =>
    simp only [Bool.false_and]
    go_enter Try.func41, Try.ntmps41
    go_wp2_with (go_at_call 44; refine (hk _).mono ?_; rintro e W1 ⟨rfl, hw⟩; replace hw := hw.symm; subst hw)
    go_ret
    exact ⟨rfl, g0⟩
  | true =>
    simp only [Bool.true_and]
    cases h0 : (f.kind != 0) with
    | false =>
      simp only [Bool.false_and]
      go_enter Try.func41, Try.ntmps41
      go_wp2_with (go_at_call 44; refine (hk _).mono ?_; rintro e W1 ⟨rfl, hw⟩; replace hw := hw.symm; subst hw)
      go_ret
      exact ⟨rfl, g0⟩
    | true =>
      simp only [Bool.true_and]
      cases h2 : (f.kind != 2) with
      | false =>
        simp only [Bool.false_and]
        go_enter Try.func41, Try.ntmps41
        go_wp2_with (go_at_call 44; refine (hk _).mono ?_; rintro e W1 ⟨rfl, hw⟩; replace hw := hw.symm; subst hw)
        go_ret
        exact ⟨rfl, g0⟩
      | true =>
        simp only [Bool.true_and]
        generalize hq : (f.kind != 28) = q at *
        go_enter Try.func41, Try.ntmps41
        go_wp2_with (go_at_call 44; refine (hk _).mono ?_; rintro e W1 ⟨rfl, hw⟩; replace hw := hw.symm; subst hw)
        go_ret
        exact ⟨rfl, g0⟩
end Go.Proofs.Ytggjeamondampaa

namespace Go.Proofs.Ytggjeamondampaa
open Go.RowKit
set_option linter.unusedVariables false
set_option maxRecDepth 100000
set_option maxHeartbeats 4000000

theorem keep_as (f : Fr) (d r : Value) (w : World) (h : keepS f.kind = 1) (hR : FrR w f d r) (hd : f.data.length ≤ 140737488351232) (hr : f.runs.length * 16 ≤ 140737488351232) : Calls Try.prog 39 #[f.val d r] w (KeepPost f w) := by
  have e : keepF f = f := by unfold keepF; rw [h]; rfl
  have hk : f.kind = 4 ∨ f.kind = 5 ∨ f.kind = 16 ∨ f.kind = 17 ∨ f.kind = 18 ∨ f.kind = 20 ∨ f.kind = 21 ∨ f.kind = 22 ∨ f.kind = 30 := by
    unfold keepS at h
    split at h
    · cases h
    · split at h
      · assumption
      · cases h
  obtain ⟨a, c, rfl, h1, h2, h3⟩ := hR.data
  obtain ⟨p, q, rfl, h4, h5, h6⟩ := hR.runs
  obtain ⟨B1, B2, g2⟩ := Blk.two w (f.cs (.slice a f.data.length c) (.slice p f.runs.length q)) (Fr.zero.cs nilS nilS) 26 26
  obtain ⟨W2, hW2⟩ : ∃ W2, W2 = (w.alloc (.cells (f.cs (.slice a f.data.length c) (.slice p f.runs.length q)) 26)).alloc (.cells (Fr.zero.cs nilS nilS) 26) := ⟨_, rfl⟩
  rw [← hW2] at B1 B2 g2
  obtain ⟨da, dc, W3, hap, oB, g3⟩ := app_rd (w0 := W2) c (own_nilB W2.heap.size W2) (World.grownBy.refl W2 none) (h1.grow g2) (by simp; omega)
  simp only [List.length_nil, Nat.zero_add, List.nil_append] at hap oB
  have B3 := B1.grown g3
  have B4 : Blk (W3.setCell ⟨w.heap.size, 3, none⟩ (.slice da f.data.length dc)) w.heap.size (f.cs (.slice da f.data.length dc) (.slice p f.runs.length q)) 26 := B3.setC 3 _
  obtain ⟨ra, rc, W5, hapr, g5, B5, B6, B7, B8, oB8, oR8, g8⟩ := keep_end f w (W3.setCell ⟨w.heap.size, 3, none⟩ (.slice da f.data.length dc)) w.heap.size (w.heap.size + 1) p q (.slice da f.data.length dc) (.slice p f.runs.length q) (Fr.zero.cs nilS nilS) (Nat.le_refl _) (by omega) (by omega) (grown_set (g2.trans g3) _ 3 _ (Nat.le_refl _)) B4 ((B2.grown g3).setO _ 3 _ (by omega)) ((oB.mono g2.size).cell B3) h4 hr
  have B8' := hide B8
  have B67 := hide (And.intro B6 B7)
  obtain ⟨C, hC⟩ : ∃ C, C = f.cs (.slice da f.data.length dc) (.slice ra f.runs.length rc) := ⟨_, rfl⟩
  have C17 : C.size = 17 := by rw [hC]; rfl
  have iC : (Try.prog.info? 26).map (·.size) = some C.size := by rw [C17]; exact Try.size26
  have C1 : C.all (·.oneCell') = true := by rw [hC]; exact one17 _ _ _ rfl rfl
  rw [← hC] at B8' B67 oB8 oR8 g8
  have FIN : Hid (KeepPost f w (.returned (.tuple #[.agg C, .bool true])) _) := ⟨_, _, by rw [e, h, hC]; rfl, by rw [e]; exact oB8, by rw [e]; exact oR8, g8⟩
  have x0 := B1.cell 0 (.int .i64 f.kind) rfl
  have x3 := B1.cell 3 (.slice a f.data.length c) rfl
  have y3 := B3.cell 3 (.slice a f.data.length c) rfl
  have y4 := B3.thaws
  have z12 := B4.cell 12 (.slice p f.runs.length q) rfl
  have u12 := B5.cell 12 (.slice p f.runs.length q) rfl
  have u13 := B5.thaws
  clear e h hR h1 h2 h3 h4 h5 h6 g2 oB g3 g5 oB8 oR8 g8 B1 B2 B3 B4 B5 B6 B7 B8 hd hr hC
  generalize f.data.length = n at *
  generalize f.runs.length = m at *
  generalize KeepPost f w = Q at *
  subst hW2
  obtain ⟨kind, stream, offset, data, size, fin, tail, limit, uni, code, own, delay, runs, marks, c0, c1, c2⟩ := f
  simp only at hk x0
  rcases hk with rfl | rfl | rfl | rfl | rfl | rfl | rfl | rfl | rfl
  all_goals as_aux_lemma =>
    go_enter Try.func39, Try.ntmps39
    go_upto_region 16 with fail
    go_wp2_with (first | (at_builtin; refine wpList_append_run _ rfl (Operand.const (.slice none 0 0)) (Operand.tmp 27) 22 22 rfl (.slice none 0 0) (.slice a n c) rfl rfl (hap 22) ?_) | (at_builtin; refine wpList_append_run _ rfl (Operand.const (.slice none 0 0)) (Operand.tmp 31) 23 23 rfl (.slice none 0 0) (.slice p m q) rfl rfl (hapr 23) ?_) | (refine wpList_load_row rfl _ _ rfl w.heap.size rfl 26 C (0, 0) _ (unhide B67).1 Try.underlying26 rfl iC ?_) | (refine wpList_store_row rfl _ _ _ rfl (w.heap.size + 1) C rfl rfl 26 _ (unhide B67).2 iC (by rw [C17]; rfl) C1 ?_))
    refine bodyPost_ret (results_ct (p := 2) (u := 3) (tp := 26) Try.results39 _ _ (w.heap.size + 1) C _ rfl (unhide B8') Try.underlying26 rfl iC) rfl ?_
    exact unhide FIN
end Go.Proofs.Ytggjeamondampaa

namespace Go.Proofs.Ytggjeamondampaa
open Go.RowKit
set_option linter.unusedVariables false
set_option maxRecDepth 100000
set_option maxHeartbeats 4000000

theorem keep_data (f : Fr) (d r : Value) (w : World) (h : keepS f.kind = 2) (hR : FrR w f d r) (hr : f.runs.length * 16 ≤ 140737488351232) : Calls Try.prog 39 #[f.val d r] w (KeepPost f w) := by
  have e : keepF f = { f with size := (f.data.length : Int), data := [], tail := false } := by unfold keepF; rw [h]; rfl
  have hk : f.kind = 6 ∨ f.kind = 8 := by
    unfold keepS at h
    split at h
    · assumption
    · split at h <;> cases h
  obtain ⟨a, c, rfl, h1, h2, h3⟩ := hR.data
  obtain ⟨p, q, rfl, h4, h5, h6⟩ := hR.runs
  obtain ⟨B1, B2, g2⟩ := Blk.two w (f.cs (.slice a f.data.length c) (.slice p f.runs.length q)) #[.int .i64 0, .int .i64 0, .int .i64 0, .slice none 0 0, .int .i64 0, .bool false, .bool false, .int .i64 0, .bool false, .int .i64 0, .bool false, .int .i64 0, .slice none 0 0, .bool false, .int .i64 0, .int .i64 0, .int .i64 0] 26 26
  obtain ⟨W2, hW2⟩ : ∃ W2, W2 = (w.alloc (.cells (f.cs (.slice a f.data.length c) (.slice p f.runs.length q)) 26)).alloc (.cells #[.int .i64 0, .int .i64 0, .int .i64 0, .slice none 0 0, .int .i64 0, .bool false, .bool false, .int .i64 0, .bool false, .int .i64 0, .bool false, .int .i64 0, .slice none 0 0, .bool false, .int .i64 0, .int .i64 0, .int .i64 0] 26) := ⟨_, rfl⟩
  rw [← hW2] at B1 B2 g2
  have B3 := ((B1.setC 4 (.int .i64 (f.data.length : Int))).setC 3 nilS).setC 6 (.bool false)
  have b3 := ((B2.setO w.heap.size 4 (.int .i64 (f.data.length : Int)) (by omega)).setO w.heap.size 3 nilS (by omega)).setO w.heap.size 6 (.bool false) (by omega)
  have g3 : w.grownBy (((W2.setCell ⟨w.heap.size, 4, none⟩ (.int .i64 (f.data.length : Int))).setCell ⟨w.heap.size, 3, none⟩ nilS).setCell ⟨w.heap.size, 6, none⟩ (.bool false)) none := grown_set (grown_set (grown_set g2 _ 4 _ (Nat.le_refl _)) _ 3 _ (Nat.le_refl _)) _ 6 _ (Nat.le_refl _)
  have hap := fun ty => app_none (((W2.setCell ⟨w.heap.size, 4, none⟩ (.int .i64 (f.data.length : Int))).setCell ⟨w.heap.size, 3, none⟩ nilS).setCell ⟨w.heap.size, 6, none⟩ (.bool false)) none 0 ty
  have B4 := B3.setC 3 nilS
  obtain ⟨ra, rc, W5, hapr, g5, B5, B6, B7, B8, oB8, oR8, g8⟩ := keep_end { f with size := (f.data.length : Int), data := [], tail := false } w ((((W2.setCell ⟨w.heap.size, 4, none⟩ (.int .i64 (f.data.length : Int))).setCell ⟨w.heap.size, 3, none⟩ nilS).setCell ⟨w.heap.size, 6, none⟩ (.bool false)).setCell ⟨w.heap.size, 3, none⟩ nilS) w.heap.size (w.heap.size + 1) p q nilS (.slice p f.runs.length q) #[.int .i64 0, .int .i64 0, .int .i64 0, .slice none 0 0, .int .i64 0, .bool false, .bool false, .int .i64 0, .bool false, .int .i64 0, .bool false, .int .i64 0, .slice none 0 0, .bool false, .int .i64 0, .int .i64 0, .int .i64 0] (Nat.le_refl _) (by omega) (by omega) (grown_set g3 _ 3 _ (Nat.le_refl _)) B4 (b3.setO _ 3 _ (by omega)) (own_nilB _ _) h4 hr
  have B8' := hide B8
  have B67 := hide (And.intro B6 B7)
  obtain ⟨C, hC⟩ : ∃ C, C = ({ f with size := (f.data.length : Int), data := [], tail := false } : Fr).cs nilS (.slice ra f.runs.length rc) := ⟨_, rfl⟩
  have C17 : C.size = 17 := by rw [hC]; rfl
  have iC : (Try.prog.info? 26).map (·.size) = some C.size := by rw [C17]; exact Try.size26
  have C1 : C.all (·.oneCell') = true := by rw [hC]; exact one17 _ _ _ rfl rfl
  rw [← hC] at B8' B67 oB8 oR8 g8
  have FIN : Hid (KeepPost f w (.returned (.tuple #[.agg C, .bool true])) _) := ⟨_, _, by rw [e, h, hC]; rfl, by rw [e]; exact oB8, by rw [e]; exact oR8, g8⟩
  have x0 := B1.cell 0 (.int .i64 f.kind) rfl
  have x3 := B1.cell 3 (.slice a f.data.length c) rfl
  have x4 := B1.cell 4 (.int .i64 f.size) rfl
  have tw := B1.thaws
  have y3 := (B1.setC 4 (.int .i64 (f.data.length : Int))).cell 3 (.slice a f.data.length c) rfl
  have yt := (B1.setC 4 (.int .i64 (f.data.length : Int))).thaws
  have y6 := ((B1.setC 4 (.int .i64 (f.data.length : Int))).setC 3 nilS).cell 6 (.bool f.tail) rfl
  have yu := ((B1.setC 4 (.int .i64 (f.data.length : Int))).setC 3 nilS).thaws
  have v3 := B3.cell 3 nilS rfl
  have v4 := B3.thaws
  have z12 := B4.cell 12 (.slice p f.runs.length q) rfl
  have u12 := B5.cell 12 (.slice p f.runs.length q) rfl
  have u13 := B5.thaws
  clear e h hR h1 h2 h3 h4 h5 h6 g2 g3 g5 oB8 oR8 g8 B1 B2 B3 b3 B4 B5 B6 B7 B8 hr hC
  generalize f.data.length = n at *
  generalize f.runs.length = m at *
  generalize KeepPost f w = Q at *
  obtain ⟨kind, stream, offset, data, size, fin, tail, limit, uni, code, own, delay, runs, marks, c0, c1, c2⟩ := f
  simp only at hk x0 x4 y6
  rcases hk with rfl | rfl
  all_goals as_aux_lemma =>
    go_enter Try.func39, Try.ntmps39
    go_upto_region 5 with fail
    rw [← hW2]
    clear hW2
    go_upto_region 16 with fail
    generalize ((W2.setCell ⟨w.heap.size, 4, none⟩ (.int .i64 (n : Int))).setCell ⟨w.heap.size, 3, none⟩ (.slice none 0 0)).setCell ⟨w.heap.size, 6, none⟩ (.bool false) = W3 at *
    go_upto_region 17 with (at_builtin; refine wpList_append_run _ rfl (Operand.const (.slice none 0 0)) (Operand.tmp 27) 22 22 rfl (.slice none 0 0) (.slice none 0 0) rfl rfl (hap 22) ?_)
    generalize W3.setCell ⟨w.heap.size, 3, none⟩ (.slice none 0 0) = W4 at *
    go_upto_region 18 with (at_builtin; refine wpList_append_run _ rfl (Operand.const (.slice none 0 0)) (Operand.tmp 31) 23 23 rfl (.slice none 0 0) (.slice p m q) rfl rfl (hapr 23) ?_)
    go_wp2_with (first | (refine wpList_load_row rfl _ _ rfl w.heap.size rfl 26 C (0, 0) _ (unhide B67).1 Try.underlying26 rfl iC ?_) | (refine wpList_store_row rfl _ _ _ rfl (w.heap.size + 1) C rfl rfl 26 _ (unhide B67).2 iC (by rw [C17]; rfl) C1 ?_))
    refine bodyPost_ret (results_ct (p := 2) (u := 3) (tp := 26) Try.results39 _ _ (w.heap.size + 1) C _ rfl (unhide B8') Try.underlying26 rfl iC) rfl ?_
    exact unhide FIN

theorem keep_any (f : Fr) (d r : Value) (w : World) (hR : FrR w f d r) (hd : f.data.length ≤ 140737488351232) (hr : f.runs.length * 16 ≤ 140737488351232) : Calls Try.prog 39 #[f.val d r] w (KeepPost f w) := by
  have : keepS f.kind = 0 ∨ keepS f.kind = 1 ∨ keepS f.kind = 2 := by unfold keepS; (repeat' split) <;> omega
  rcases this with h | h | h
  · exact keep_zero f d r w h
  · exact keep_as f d r w h hR hd hr
  · exact keep_data f d r w h hR hr
end Go.Proofs.Ytggjeamondampaa

namespace Go.Proofs.Ytggjeamondampaa
open Go.RowKit
set_option linter.unusedVariables false
set_option maxRecDepth 100000
set_option maxHeartbeats 4000000

theorem kinds_keep (k : Int) (own : Bool) : (elicF k = true → allowF 2 k own = true) ∧ (allowF 0 k own = allowF 1 k own) ∧ (allowF 0 k own = true → allowF 2 k own = true) ∧ allowF 3 k own = false ∧
    (0 < keepS k → elicF k = true) ∧ (keepS k = 0 → elicF k = false ∨ k = 1 ∨ k = 26 ∨ k = 27) := by
  have e2 : allowF 2 k own = isKindF k := rfl
  have e0 : allowF 0 k own = allowF 1 k own := rfl
  have hid : isKindF k = true → _ := kind_dom (k := k)
  have hki : (k = 0 ∨ k = 1 ∨ k = 2 ∨ k = 4 ∨ k = 5 ∨ k = 6 ∨ k = 8 ∨ k = 16 ∨ k = 17 ∨ k = 18 ∨ k = 20 ∨ k = 21 ∨ k = 22 ∨ k = 26 ∨ k = 27 ∨ k = 28 ∨ k = 30) → isKindF k = true := fun h => by
    rcases h with rfl | rfl | rfl | rfl | rfl | rfl | rfl | rfl | rfl | rfl | rfl | rfl | rfl | rfl | rfl | rfl | rfl <;> rfl
  refine ⟨fun h => ?_, e0, fun h => ?_, rfl, fun h => ?_, fun h => ?_⟩
  · rw [e2]; unfold elicF at h; split at h
    · cases h
    · exact h
  · rw [e2]
    apply hki
    have e : allowF 0 k own = (if k = 0 ∨ k = 1 ∨ k = 2 ∨ k = 6 then true else if k = 28 then !own else false) := rfl
    rw [e] at h
    split at h
    · omega
    · split at h
      · omega
      · cases h
  · unfold keepS at h
    unfold elicF
    have : k = 6 ∨ k = 8 ∨ k = 4 ∨ k = 5 ∨ k = 16 ∨ k = 17 ∨ k = 18 ∨ k = 20 ∨ k = 21 ∨ k = 22 ∨ k = 30 := by
      split at h
      · omega
      · split at h
        · omega
        · omega
    rw [if_neg (by omega)]
    exact hki (by omega)
  · by_cases hk : isKindF k = true
    · have := hid hk
      unfold keepS at h
      unfold elicF
      split at h
      · cases h
      · split at h
        · cases h
        · by_cases c : k = 0 ∨ k = 2 ∨ k = 28
          · rw [if_pos c]; exact .inl rfl
          · exact .inr (by omega)
    · left
      unfold elicF
      split
      · rfl
      · simpa using hk

/-- Keep, its frame folded. -/
theorem keep_folded (f : Fr) (d r : Value) (w : World) (hR : FrR w f d r) (hd : f.data.length ≤ 140737488351232) (hr : f.runs.length * 16 ≤ 140737488351232) :
    Calls Try.prog 39 #[f.val d r] w fun e w' => ∃ C2 : Array Value, e = .returned (.tuple #[.agg C2, .bool (decide (0 < keepS f.kind))]) ∧ C2.size = 17 ∧ C2.all (·.oneCell') = true ∧
      Hid (∃ d' r', C2 = (keepF f).cs d' r' ∧ OwnB w.heap.size w' d' (keepF f).data ∧ OwnR w.heap.size w' r' (keepF f).runs ∧ w.grownBy w' none) := by
  refine (keep_any f d r w hR hd hr).mono ?_
  rintro e w' ⟨d', r', rfl, h1, h2, h3⟩
  refine ⟨_, rfl, rfl, ?_, d', r', rfl, h1, h2, h3⟩
  apply one17
  · obtain ⟨a, c, e⟩ := h1.shape; rw [e]; rfl
  · obtain ⟨a, c, e, -⟩ := h2.rd; rw [e]; rfl
end Go.Proofs.Ytggjeamondampaa

namespace Go.Proofs.Ytggjeamondampaa
open Go.RowKit
set_option linter.unusedVariables false
set_option maxRecDepth 100000
set_option maxHeartbeats 4000000

theorem allowR_any (s : Int) (f : Fr) (d r : Value) (w : World) : Calls Try.prog 42 #[.int .i64 s, f.val d r] w fun e w' => e = .returned (.bool (allowF s f.kind f.own)) ∧ w.grownBy w' none := by
  have g0 := World.grownBy_alloc w (.cells (f.cs d r) 26) none
  have hk := known_any f.kind
  by_cases h2 : s = 2
  · subst h2
    have e : allowF 2 f.kind f.own = isKindF f.kind := rfl
    rw [e]
    generalize isKindF f.kind = kk at *
    go_enter Try.func42, Try.ntmps42
    go_wp2_with (go_at_call 44; refine (hk _).mono ?_; rintro e W1 ⟨rfl, hw⟩; replace hw := hw.symm; subst hw)
    go_ret
    exact ⟨rfl, g0⟩
  by_cases h01 : s = 0 ∨ s = 1
  · have e : allowF s f.kind f.own = (if f.kind = 0 ∨ f.kind = 1 ∨ f.kind = 2 ∨ f.kind = 6 then true else if f.kind = 28 then !f.own else false) := by unfold allowF; rw [if_neg h2, if_pos h01]
    rw [e]
    clear hk e h2
    by_cases c0 : f.kind = 0 ∨ f.kind = 1 ∨ f.kind = 2 ∨ f.kind = 6
    · rw [if_pos c0]
      obtain ⟨kind, stream, offset, data, size, fin, tail, limit, uni, code, own, delay, runs, marks, k0, k1, k2⟩ := f
      simp only at c0
      rcases h01 with rfl | rfl <;> rcases c0 with rfl | rfl | rfl | rfl
      all_goals
        go_enter Try.func42, Try.ntmps42
        go_wp2
        go_ret
        exact ⟨rfl, g0⟩
    · rw [if_neg c0]
      by_cases c1 : f.kind = 28
      · rw [if_pos c1]
        obtain ⟨kind, stream, offset, data, size, fin, tail, limit, uni, code, own, delay, runs, marks, k0, k1, k2⟩ := f
        simp only at c1
        subst c1
        rcases h01 with rfl | rfl
        all_goals
          go_enter Try.func42, Try.ntmps42
          go_wp2
          go_ret
          exact ⟨rfl, g0⟩
      · rw [if_neg c1]
        have t0 := beq_no (show ¬ f.kind = 0 by omega)
        have t1 := beq_no (show ¬ f.kind = 1 by omega)
        have t2 := beq_no (show ¬ f.kind = 2 by omega)
        have t6 := beq_no (show ¬ f.kind = 6 by omega)
        have t28 := beq_no c1
        clear c0 c1
        rcases h01 with rfl | rfl
        all_goals
          go_enter Try.func42, Try.ntmps42
          go_wp2
          go_ret
          exact ⟨rfl, g0⟩
  · have e : allowF s f.kind f.own = false := by unfold allowF; rw [if_neg h2, if_neg h01]
    rw [e]
    have t0 := beq_no (show ¬ s = 0 by omega)
    have t1 := beq_no (show ¬ s = 1 by omega)
    have t2 := beq_no h2
    clear e hk h2 h01
    go_enter Try.func42, Try.ntmps42
    go_wp2
    go_ret
    exact ⟨rfl, g0⟩

/-- What the document's Keep answers: no list is made anew. -/
def KeepR (f : Fr) (d r : Value) (w : World) (e : Ending) (w' : World) : Prop :=
  ∃ d2 r2, e = .returned (.tuple #[(keepF f).val d2 r2, .bool (decide (0 < keepS f.kind))]) ∧ ((keepS f.kind = 2 ∧ d2 = nilS ∧ r2 = r) ∨ (keepS f.kind = 1 ∧ d2 = d ∧ r2 = r) ∨ (keepS f.kind = 0 ∧ d2 = nilS ∧ r2 = nilS)) ∧ w.grownBy w' none

theorem keepR_zero (f : Fr) (d r : Value) (w : World) (h : keepS f.kind = 0) : Calls Try.prog 40 #[f.val d r] w (KeepR f d r w) := by
  have hk : f.kind ≠ 6 ∧ f.kind ≠ 8 ∧ f.kind ≠ 4 ∧ f.kind ≠ 5 ∧ f.kind ≠ 16 ∧ f.kind ≠ 17 ∧ f.kind ≠ 18 ∧ f.kind ≠ 20 ∧ f.kind ≠ 21 ∧ f.kind ≠ 22 ∧ f.kind ≠ 30 := by
    unfold keepS at h
    split at h
    · cases h
    · split at h
      · cases h
      · omega
  have e : keepF f = Fr.zero := by unfold keepF; rw [h]; rfl
  have FIN : Hid (∀ W, w.grownBy W none → KeepR f d r w (.returned (.tuple #[Fr.zero.val nilS nilS, .bool false])) W) := fun W g => ⟨nilS, nilS, by rw [e, h]; rfl, .inr (.inr ⟨h, rfl, rfl⟩), g⟩
  obtain ⟨q0, q1, q2, q3, q4, q5, q6, q7, q8, q9, q10⟩ := hk
  have t0 := beq_no q0; have t1 := beq_no q1; have t2 := beq_no q2; have t3 := beq_no q3; have t4 := beq_no q4; have t5 := beq_no q5
  have t6 := beq_no q6; have t7 := beq_no q7; have t8 := beq_no q8; have t9 := beq_no q9; have t10 := beq_no q10
  clear e h q0 q1 q2 q3 q4 q5 q6 q7 q8 q9 q10
  obtain ⟨B1, B2, g2⟩ := Blk.two w (f.cs d r) (Fr.zero.cs nilS nilS) 26 26
  have HB := hide (And.intro B2 g2)
  clear B1 B2 g2
  go_enter Try.func40, Try.ntmps40
  go_wp2
  refine bodyPost_ret (results_ct (p := 2) (u := 3) (tp := 26) Try.results40 _ _ (w.heap.size + 1) (Fr.zero.cs nilS nilS) _ rfl (unhide HB).1 Try.underlying26 rfl Try.size26) rfl ?_
  exact unhide FIN _ (unhide HB).2
end Go.Proofs.Ytggjeamondampaa

namespace Go.Proofs.Ytggjeamondampaa
open Go.RowKit
set_option linter.unusedVariables false
set_option maxRecDepth 100000
set_option maxHeartbeats 4000000

theorem keepR_as (f : Fr) (d r : Value) (w : World) (h : keepS f.kind = 1) (hdo : d.oneCell' = true) (hro : r.oneCell' = true) : Calls Try.prog 40 #[f.val d r] w (KeepR f d r w) := by
  have e : keepF f = f := by unfold keepF; rw [h]; rfl
  have hk : f.kind = 4 ∨ f.kind = 5 ∨ f.kind = 16 ∨ f.kind = 17 ∨ f.kind = 18 ∨ f.kind = 20 ∨ f.kind = 21 ∨ f.kind = 22 ∨ f.kind = 30 := by
    unfold keepS at h
    split at h
    · cases h
    · split at h
      · assumption
      · cases h
  obtain ⟨C, hC⟩ : ∃ C, C = f.cs d r := ⟨_, rfl⟩
  have C17 : C.size = 17 := by rw [hC]; rfl
  have iC : (Try.prog.info? 26).map (·.size) = some C.size := by rw [C17]; exact Try.size26
  have C1 : C.all (·.oneCell') = true := by rw [hC]; exact one17 _ _ _ hdo hro
  obtain ⟨B1, B2, g2⟩ := Blk.two w C Z17 26 26
  have x0 := B1.cell 0 (.int .i64 f.kind) (by rw [hC]; rfl)
  have FIN : Hid (∀ W, w.grownBy W none → KeepR f d r w (.returned (.tuple #[.agg C, .bool true])) W) := fun W g => ⟨d, r, by rw [e, h, hC]; rfl, .inr (.inl ⟨h, rfl, rfl⟩), g⟩
  have ev : f.val d r = .agg C := by rw [hC]
  have HB := hide (And.intro B1 (And.intro B2 (And.intro g2 (B2.row C))))
  have HG := hide (grown_row g2 (w.heap.size + 1) C (by omega))
  rw [ev]
  clear e h B1 B2 g2 hC ev hdo hro
  generalize KeepR f d r w = Q at *
  generalize f.kind = kk at *
  rcases hk with rfl | rfl | rfl | rfl | rfl | rfl | rfl | rfl | rfl
  all_goals as_aux_lemma =>
    go_enter Try.func40, Try.ntmps40
    go_wp2_with (first | (refine wpList_load_row rfl _ _ rfl w.heap.size rfl 26 C (0, 0) _ (unhide HB).1 Try.underlying26 rfl iC ?_) | (refine wpList_store_row rfl _ _ _ rfl (w.heap.size + 1) C rfl rfl 26 _ (unhide HB).2.1 iC (by rw [C17]; rfl) C1 ?_))
    refine bodyPost_ret (results_ct (p := 2) (u := 3) (tp := 26) Try.results40 _ _ (w.heap.size + 1) C _ rfl (unhide HB).2.2.2 Try.underlying26 rfl iC) rfl ?_
    exact unhide FIN _ (unhide HG)
theorem keepR_data (f : Fr) (a : Option Addr) (c : Nat) (r : Value) (w : World) (h : keepS f.kind = 2) (hro : r.oneCell' = true) : Calls Try.prog 40 #[f.val (.slice a f.data.length c) r] w (KeepR f (.slice a f.data.length c) r w) := by
  have e : keepF f = { f with size := (f.data.length : Int), data := [], tail := false } := by unfold keepF; rw [if_pos h]
  have hk : f.kind = 6 ∨ f.kind = 8 := by
    unfold keepS at h
    split at h
    · assumption
    · split at h <;> cases h
  obtain ⟨C, hC⟩ : ∃ C, C = f.cs (.slice a f.data.length c) r := ⟨_, rfl⟩
  have C17 : C.size = 17 := by rw [hC]; rfl
  have iC : (Try.prog.info? 26).map (·.size) = some C.size := by rw [C17]; exact Try.size26
  have C1 : C.all (·.oneCell') = true := by rw [hC]; exact one17 _ _ _ rfl hro
  obtain ⟨D, hD⟩ : ∃ D, D = (keepF f).cs nilS r := ⟨_, rfl⟩
  have D17 : D.size = 17 := by rw [hD]; rfl
  have iD : (Try.prog.info? 26).map (·.size) = some D.size := by rw [D17]; exact Try.size26
  have Do : D.all (·.oneCell') = true := by rw [hD]; exact one17 _ _ _ rfl hro
  have eD : ((C.setIfInBounds 4 (.int .i64 (f.data.length : Int))).setIfInBounds 3 nilS).setIfInBounds 6 (.bool false) = D := by rw [hC, hD, e]; rfl
  obtain ⟨B1, B2, g2⟩ := Blk.two w C Z17 26 26
  have x0 := B1.cell 0 (.int .i64 f.kind) (by rw [hC]; rfl)
  have c3 : C[3]? = some (.slice a f.data.length c) := by rw [hC]; rfl
  have c4 : C[4]? = some (.int .i64 f.size) := by rw [hC]; rfl
  have c6 : C[6]? = some (.bool f.tail) := by rw [hC]; rfl
  have FIN : Hid (∀ W, w.grownBy W none → KeepR f (.slice a f.data.length c) r w (.returned (.tuple #[.agg D, .bool true])) W) := fun W g => ⟨nilS, r, by rw [h, hD]; rfl, .inl ⟨h, rfl, rfl⟩, g⟩
  have ev : f.val (.slice a f.data.length c) r = .agg C := by rw [hC]
  rw [ev]
  clear e h hC ev hro hD
  generalize KeepR f (.slice a f.data.length c) r w = Q at *
  generalize f.kind = kk at *
  generalize f.data.length = n at *
  generalize f.size = fsz at *
  generalize f.tail = ftl at *
  have HB := hide (And.intro B1 (And.intro B2 g2))
  clear B1 B2 g2
  rcases hk with rfl | rfl
  all_goals as_aux_lemma =>
    go_enter Try.func40, Try.ntmps40
    go_upto_region 4 with fail
    obtain ⟨B1, B2, g2⟩ := unhide HB
    clear HB x0
    generalize (w.alloc (.cells C 26)).alloc (.cells Z17 26) = W0 at *
    go_upto_region 5 with (first | (refine wpList_load_row rfl _ _ rfl w.heap.size rfl 26 C (0, 0) _ B1 Try.underlying26 rfl iC ?_) | (refine wpList_store_new W0 Z17 C W0.heap.size rfl _ _ _ rfl rfl rfl rfl iC (by rw [C17]; rfl) C1 ?_))
    have b4 : w.heap.size + 1 < W0.heap.size := (Array.getElem?_eq_some_iff.1 B2).1
    have gA := World.grownBy_alloc W0 (.cells C 26) none
    have D1 := Blk.new W0 C 26
    have E1 := B1.grown gA
    have E2 := B2.grown gA
    have g3 := g2.trans gA
    generalize W0.alloc (.cells C 26) = V1 at *
    generalize W0.heap.size = b at *
    have D2 := D1.setC 4 (.int .i64 (n : Int))
    have D3 := D2.setC 3 nilS
    have D4 := D3.setC 6 (.bool false)
    rw [eD] at D4
    have F4 := ((E2.setO b 4 (.int .i64 (n : Int)) (by omega)).setO b 3 nilS (by omega)).setO b 6 (.bool false) (by omega)
    have g4 := grown_set (grown_set (grown_set g3 b 4 (.int .i64 (n : Int)) (by omega)) b 3 nilS (by omega)) b 6 (.bool false) (by omega)
    have x3 := E1.cell 3 _ c3
    have y4 := D1.cell 4 _ c4
    have z4 := D1.thaws
    have y3 := D2.cell 3 (.slice a n c) (by rw [Array.getElem?_setIfInBounds_ne (by decide)]; exact c3)
    have z3 := D2.thaws
    have y6 := D3.cell 6 (.bool ftl) (by rw [Array.getElem?_setIfInBounds_ne (by decide), Array.getElem?_setIfInBounds_ne (by decide)]; exact c6)
    have z6 := D3.thaws
    have HF := hide (And.intro D4 (And.intro F4 (And.intro (F4.row D) (grown_row g4 (w.heap.size + 1) D (by omega)))))
    clear B1 B2 g2 gA D1 E1 E2 g3 D2 D3 D4 F4 g4 eD c3 c4 c6
    go_upto_region 8 with fail
    go_wp2_with (first | (refine wpList_load_row rfl _ _ rfl b rfl 26 D (0, 0) _ (unhide HF).1 Try.underlying26 rfl iD ?_) | (refine wpList_store_row rfl _ _ _ rfl (w.heap.size + 1) D rfl rfl 26 _ (unhide HF).2.1 iD (by rw [D17]; rfl) Do ?_))
    refine bodyPost_ret (results_ct (p := 2) (u := 3) (tp := 26) Try.results40 _ _ (w.heap.size + 1) D _ rfl (unhide HF).2.2.1 Try.underlying26 rfl iD) rfl ?_
    exact unhide FIN _ (unhide HF).2.2.2

theorem keepR_any (f : Fr) (a : Option Addr) (c : Nat) (r : Value) (w : World) (hro : r.oneCell' = true) : Calls Try.prog 40 #[f.val (.slice a f.data.length c) r] w (KeepR f (.slice a f.data.length c) r w) := by
  have : keepS f.kind = 0 ∨ keepS f.kind = 1 ∨ keepS f.kind = 2 := by
    unfold keepS
    split
    · exact .inr (.inr rfl)
    · split
      · exact .inr (.inl rfl)
      · exact .inl rfl
  rcases this with h | h | h
  · exact keepR_zero f _ r w h
  · exact keepR_as f _ r w h rfl hro
  · exact keepR_data f a c r w h hro
end Go.Proofs.Ytggjeamondampaa
