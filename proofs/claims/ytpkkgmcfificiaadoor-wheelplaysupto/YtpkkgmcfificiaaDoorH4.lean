/- WheelSplits. -/
import Derived.Test.YtpkkgmcfificiaaDoorH3
namespace Go.Proofs.YtpkkgmcfificiaaDoor
open Go.RowKit Go.Shelf Go.Maps
set_option linter.unusedVariables false
set_option maxRecDepth 100000
set_option maxHeartbeats 1000000

theorem rd_caps {w : World} {base m c : Nat} {a : Option Addr} {l : List Int} (h : w.ownsRow base 3 1 (.slice a m c) m (intsV l)) : RdI w a l ∧ l.length = m ∧ m ≤ c ∧ c ≤ 9223372036854775807 := by
  obtain ⟨h1, h2, h3⟩ := rdI_row h
  refine ⟨h1, h2, ?_⟩
  rcases h.2 with ⟨e1, e2⟩ | ⟨g, cap, cur, e1, q1, q2, q3, q4, q5, q6⟩
  · simp only [Value.slice.injEq] at e1
    omega
  · simp only [Value.slice.injEq] at e1
    obtain ⟨-, -, rfl⟩ := e1
    exact ⟨q3, by unfold maxLen at q4; omega⟩

def SEnd (w0 w : World) (W V : Nat) : Prop := ∃ S1 S2 c T, DQ w0 w S1 W c T S2 V c T

theorem split_chain {w0 w3 : World} {S1 S2 : Nat → Prop} {W V c : Nat} {T : List Tm} (h : DQ w0 w3 S1 W c T S2 V c T) (h0 : 0 < w0.heap.size) (X Y : Int) (hXY : X ≤ Y) :
    Calls Tryd.prog 13 #[ptr W, .int .i64 X] w3 fun e w4 => ∃ a1 m1 c1, e = .returned (.slice a1 m1 c1) ∧ Hid (Calls Tryd.prog 13 #[ptr W, .int .i64 Y] w4 fun e w5 => ∃ a2 m2 c2, e = .returned (.slice a2 m2 c2) ∧
      Hid (Calls Tryd.prog 13 #[ptr V, .int .i64 Y] w5 fun e w6 => ∃ a3 m3 c3, e = .returned (.slice a3 m3 c3) ∧ Hid (∃ a4 m4 c4 w7, (Builtin.append_ #[30, 30] 30 #[.slice a1 m1 c1, .slice a2 m2 c2]).run Tryd.prog w6 = .ok (.slice a4 m4 c4) w7 ∧
        Calls Tryd.prog 15 #[.slice a4 m4 c4, .slice a3 m3 c3] w7 fun e w8 => e = .returned (.bool true) ∧ SEnd w0 w8 W V))) := by
  obtain ⟨q1, q2, q3⟩ := adv_adv c X Y h.a.c50 hXY
  have ds := due_split _ _ q2 T h.a.srt
  have ll := late_late _ _ q2 T
  have len4 := h.a.in_.2.2
  refine (dq_adv h h0 X).mono ?_
  rintro e w4 ⟨a1, m1, c1, rfl, r1, d4, k4⟩
  refine ⟨a1, m1, c1, rfl, ?_⟩
  refine (dq_adv d4 h0 Y).mono ?_
  rintro e w5 ⟨a2, m2, c2, rfl, r2, d5, k5⟩
  refine ⟨a2, m2, c2, rfl, ?_⟩
  refine (dq_adv d5.swap h0 Y).mono ?_
  rintro e w6 ⟨a3, m3, c3, rfl, r3, d6, k6⟩
  refine ⟨a3, m3, c3, rfl, ?_⟩
  rw [q1] at r2 d5 d6
  have s1lt : ∀ g, S1 g → g < w3.heap.size := fun g hg => (h.a.lt g hg).2
  have s2lt : ∀ g, S2 g → g < w3.heap.size := fun g hg => (h.b.lt g hg).2
  have z4 := k4.size; have z5 := k5.size; have z6 := k6.size
  have r1' : w6.ownsRow w3.heap.size 3 1 (.slice a1 m1 c1) m1 (intsV (idI (dueT T (adv c X)))) :=
    row_kpt (row_kpt r1 (fun g g1 g2 _ => k5.block g g2 (fun hs => by have := s1lt g hs; omega))) (fun g g1 g2 _ => k6.block g g2 (fun hs => by have := s2lt g hs; omega))
  have r2' : w6.ownsRow w4.heap.size 3 1 (.slice a2 m2 c2) m2 (intsV (idI (dueT (lateT T (adv c X)) (adv c Y)))) :=
    row_kpt r2 (fun g g1 g2 _ => k6.block g g2 (fun hs => by have := s2lt g hs; omega))
  have lm1 : (idI (dueT T (adv c X))).length = m1 := (rd_caps r1').2.1
  have lm2 : (idI (dueT (lateT T (adv c X)) (adv c Y))).length = m2 := (rd_caps r2').2.1
  have b1 : (idI (dueT T (adv c X))).length ≤ 4096 := by
    rw [List.length_map]; exact Nat.le_trans (List.length_filter_le _ _) len4
  have b2 : (idI (dueT (lateT T (adv c X)) (adv c Y))).length ≤ 4096 := by
    rw [List.length_map]; exact Nat.le_trans (List.length_filter_le _ _) (Nat.le_trans (List.length_filter_le _ _) len4)
  have r1'' := r1'
  rw [← lm1] at r1''
  obtain ⟨a4, c4, w7, hrun, r4, g7⟩ := app_ints w6 w3.heap.size w4.heap.size 30 (.slice a1 (idI (dueT T (adv c X))).length c1) (idI (dueT T (adv c X))) r1'' a2 c2 m2 (idI (dueT (lateT T (adv c X)) (adv c Y))) lm2 r2' (by omega) (by omega)
  rw [lm1] at hrun g7
  refine ⟨a4, _, c4, w7, hrun, ?_⟩
  have eL : idI (dueT T (adv c X)) ++ idI (dueT (lateT T (adv c X)) (adv c Y)) = idI (dueT T (adv c Y)) := by rw [← List.map_append, ds]
  have blk1 : ∀ g, (Value.slice a1 m1 c1).ownBlock = some g → w3.heap.size ≤ g ∧ g < w4.heap.size := fun g e => r1.lt g e
  have k7 : Kp (fun g => (Value.slice a1 m1 c1).ownBlock = some g) w6 w7 := ⟨g7.os, g7.tape, g7.output, g7.size, fun g hg hn => g7.block g hg (fun e => hn e.symm)⟩
  have d7 := d6.wrote h0 k7 (fun g hg => ⟨by have := blk1 g hg; have := h.bel.size; omega, fun hs => by have := s2lt g hs; have := blk1 g hg; omega, fun hs => by have := s1lt g hs; have := blk1 g hg; omega⟩)
  have r3' : w7.ownsRow w5.heap.size 3 1 (.slice a3 m3 c3) m3 (intsV (idI (dueT T (adv c Y)))) := row_kpt r3 (fun g g1 g2 _ => k7.block g g2 (fun e => by have := blk1 g e; omega))
  obtain ⟨p1, p2, p3⟩ := rd_caps r4
  obtain ⟨t1, t2, t3⟩ := rd_caps r3'
  refine (same_any a4 a3 _ _ _ _ c4 c3 p2 t2 w7 p1 t1 p3 t3).mono ?_
  rintro e w8 ⟨rfl, g8⟩
  refine ⟨by rw [decide_eq_true eL], S1, S2, adv c Y, lateT T (adv c Y), ?_⟩
  have d8 := (d7.grown g8).swap
  rw [ll] at d8
  exact d8

theorem splits_walk (now a b : Int) (a0 : Option Addr) (len cap : Nat) (ol : List OpD) (w : World) (h : IsOps w a0 len cap ol) (ht : Tb w) :
    Calls Tryd.prog 4 #[.int .i64 now, .slice a0 len cap, .int .i64 a, .int .i64 b] w fun e w' => e = .returned (.bool true) ∧ Below w.heap.size w w' := by
  have h0 := ht.lt
  have sh := shown_any w ht
  have HO := hide h; have HT := hide ht
  have hl := h.hlen
  clear h ht
  go_enter Tryd.func4, Tryd.ntmps4
  go_wp2_with fail
  refine sh.mono ?_
  rintro e w1 ⟨rfl, g1⟩
  have l1 := laid_any w.heap.size now a0 len cap ol w1 ((unhide HO).bel (grown_bel g1) (Nat.le_refl _)) ((unhide HT).grown g1) g1.size
  have G1 := hide g1
  clear sh g1
  go_wp2_with fail
  refine l1.mono ?_
  rintro e w2 ⟨W, rfl, li1⟩
  have bel2 : Below w.heap.size w w2 := (grown_bel (unhide G1)).trans (li1.bel.mono (unhide G1).size)
  have l2 := laid_any w.heap.size now a0 len cap ol w2 ((unhide HO).bel bel2 (Nat.le_refl _)) ((unhide HT).bel bel2 h0) bel2.size
  have LI1 := hide li1
  clear l1 li1 bel2
  go_wp2_with fail
  refine l2.mono ?_
  rintro e w3 ⟨V, rfl, li2⟩
  obtain ⟨S1, S2, dq⟩ := two_laid now a0 len cap ol w w1 w2 w3 h0 ((unhide HT).grown (unhide G1)) (unhide G1) W V hl (unhide LI1) li2
  have CH := hide (fun X Y hXY => split_chain dq h0 X Y hXY)
  clear l2 li2 LI1 G1 dq
  rcases (show b < a ∨ a ≤ b by omega) with hab | hab
  · have CC := unhide CH b a (Int.le_of_lt hab)
    have AB := hide hab
    clear CH
    go_wp2_with fail
    refine CC.mono ?_
    clear CC
    rintro e w4 ⟨a1, m1, c1, rfl, C2⟩
    go_wp2_with fail
    refine (unhide C2).mono ?_
    clear C2
    rintro e w5 ⟨a2, m2, c2, rfl, C3⟩
    go_wp2_with fail
    refine (unhide C3).mono ?_
    clear C3
    rintro e w6 ⟨a3, m3, c3, rfl, C4⟩
    obtain ⟨a4, m4, c4, w7, hrun, sm⟩ := unhide C4
    have HRUN := hide hrun; have SM := hide sm
    clear C4 hrun sm
    go_wp2_with (at_builtin; refine wpList_append_runQ _ rfl _ _ 30 30 rfl _ _ rfl rfl (unhide HRUN) ?_)
    refine (unhide SM).mono ?_
    clear SM HRUN
    rintro e w8 ⟨rfl, T1, T2, c, T, d8⟩
    have n1 := wl_now _ w8 T1 W c T d8.a
    have n2 := wl_now _ w8 T2 V c T d8.b
    have n3 := wl_len _ w8 T1 W c T d8.a
    have n4 := wl_len _ w8 T2 V c T d8.b
    have n5 := dq_next d8
    clear d8
    have cc : ((c : Int) == (c : Int)) = true := by simp
    have tt : ((T.length : Int) == (T.length : Int)) = true := by simp
    have nn : ((nextT T : Int) == (nextT T : Int)) = true := by simp
    generalize T.length = N at *
    go_wp2_with (first
      | (go_at_call 17; refine n1.mono ?_; clear n1; rintro e X ⟨rfl, hw⟩; subst hw)
      | (go_at_call 17; refine n2.mono ?_; clear n2; rintro e X ⟨rfl, hw⟩; subst hw)
      | (go_at_call 18; refine n3.mono ?_; clear n3; rintro e X ⟨rfl, hw⟩; subst hw)
      | (go_at_call 18; refine n4.mono ?_; clear n4; rintro e X ⟨rfl, hw⟩; subst hw))
    refine n5.mono ?_
    rintro e w9 ⟨rfl, d9, -⟩
    have n6 := dq_next d9.swap
    clear n5 d9
    generalize nextT T = M at *
    go_wp2_with fail
    refine n6.mono ?_
    rintro e w10 ⟨rfl, d10, -⟩
    have E := hide d10.bel
    clear n6 d10
    go_wp2_with fail
    go_ret
    exact ⟨rfl, unhide E⟩
  · have CC := unhide CH a b hab
    have AB := hide hab
    clear CH
    go_wp2_with fail
    refine CC.mono ?_
    clear CC
    rintro e w4 ⟨a1, m1, c1, rfl, C2⟩
    go_wp2_with fail
    refine (unhide C2).mono ?_
    clear C2
    rintro e w5 ⟨a2, m2, c2, rfl, C3⟩
    go_wp2_with fail
    refine (unhide C3).mono ?_
    clear C3
    rintro e w6 ⟨a3, m3, c3, rfl, C4⟩
    obtain ⟨a4, m4, c4, w7, hrun, sm⟩ := unhide C4
    have HRUN := hide hrun; have SM := hide sm
    clear C4 hrun sm
    go_wp2_with (at_builtin; refine wpList_append_runQ _ rfl _ _ 30 30 rfl _ _ rfl rfl (unhide HRUN) ?_)
    refine (unhide SM).mono ?_
    clear SM HRUN
    rintro e w8 ⟨rfl, T1, T2, c, T, d8⟩
    have n1 := wl_now _ w8 T1 W c T d8.a
    have n2 := wl_now _ w8 T2 V c T d8.b
    have n3 := wl_len _ w8 T1 W c T d8.a
    have n4 := wl_len _ w8 T2 V c T d8.b
    have n5 := dq_next d8
    clear d8
    have cc : ((c : Int) == (c : Int)) = true := by simp
    have tt : ((T.length : Int) == (T.length : Int)) = true := by simp
    have nn : ((nextT T : Int) == (nextT T : Int)) = true := by simp
    generalize T.length = N at *
    go_wp2_with (first
      | (go_at_call 17; refine n1.mono ?_; clear n1; rintro e X ⟨rfl, hw⟩; subst hw)
      | (go_at_call 17; refine n2.mono ?_; clear n2; rintro e X ⟨rfl, hw⟩; subst hw)
      | (go_at_call 18; refine n3.mono ?_; clear n3; rintro e X ⟨rfl, hw⟩; subst hw)
      | (go_at_call 18; refine n4.mono ?_; clear n4; rintro e X ⟨rfl, hw⟩; subst hw))
    refine n5.mono ?_
    rintro e w9 ⟨rfl, d9, -⟩
    have n6 := dq_next d9.swap
    clear n5 d9
    generalize nextT T = M at *
    go_wp2_with fail
    refine n6.mono ?_
    rintro e w10 ⟨rfl, d10, -⟩
    have E := hide d10.bel
    clear n6 d10
    go_wp2_with fail
    go_ret
    exact ⟨rfl, unhide E⟩
end Go.Proofs.YtpkkgmcfificiaaDoor
