/- The document's Gone, Collapse, May, begin. -/
import Derived.Test.YthpnbajhogoinaaI2A
namespace Go.Proofs.Ythpnbajhogoinaa
open Go.RowKit Fl
set_option linter.unusedVariables false
set_option maxRecDepth 100000
set_option maxHeartbeats 4000000
attribute [local go_sem] run_store_float

theorem rgone_any (b o p : Nat) (s S : Cs) (x : Int) (w : World) (h : RB w b o p s S) (hs : Sep o p) (hf : 0 ≤ s.flight ∧ s.flight ≤ 1000000000000) : Calls Try.prog 34 #[ptrO b o, .int .i64 x] w fun e w' => e = .returned (.tuple #[]) ∧ RB w' b o p (landF x s) S ∧ w.grownBy w' (some b) := by
  have hm := size_any x
  obtain ⟨z1, z2⟩ := szb x
  obtain ⟨f1, f2⟩ := hf
  obtain ⟨t, -, -, -, -, c5, -⟩ := h.full
  have k1 : RB ((w.setCell ⟨b, o + 10, none⟩ (.int .i64 (s.flight - szz x))).drew) b o p ({ s with flight := s.flight - szz x }) S := (h.set hs 10 (by decide) (.int .i64 (s.flight - szz x)) { s with flight := s.flight - szz x } rfl).drew
  have g1 : w.grownBy ((w.setCell ⟨b, o + 10, none⟩ (.int .i64 (s.flight - szz x))).drew) (some b) := drewS (grown_at (World.grownBy.refl w (some b)) (o + 10) (.int .i64 (s.flight - szz x)))
  have hw : IntKind.i64.wrap (s.flight - szz x) = s.flight - szz x := by rw [IntKind.wrap_i64]; omega
  by_cases hlt : s.flight - szz x < 0
  · have e0 : landF x s = { s with flight := 0 } := by unfold landF; rw [show max (s.flight - szz x) 0 = 0 by omega]
    have F := hide (And.intro (show RB ((w.setCell ⟨b, o + 10, none⟩ (.int .i64 (s.flight - szz x))).drew.setCell ⟨b, o + 10, none⟩ (.int .i64 0)) b o p (landF x s) S from by rw [e0]; exact k1.set hs 10 (by decide) (.int .i64 0) { s with flight := 0 } rfl) (grown_at g1 (o + 10) (.int .i64 0)))
    clear h k1 g1 e0
    generalize landF x s = s' at *
    generalize szz x = T at *
    generalize s.flight = c at *
    go_enter Try.func34, Try.ntmps34
    go_wp2_with fail
    go_region_with (go_at_call 20; refine (hm _).mono ?_; rintro e W ⟨rfl, rfl⟩)
    all_goals go_wp2_with fail
    all_goals refine bodyPost_end (results_none rfl _ _ _) rfl ?_
    all_goals exact ⟨rfl, (unhide F).1, (unhide F).2⟩
  · have e0 : landF x s = { s with flight := s.flight - szz x } := by unfold landF; rw [show max (s.flight - szz x) 0 = s.flight - szz x by omega]
    have F := hide (And.intro (show RB ((w.setCell ⟨b, o + 10, none⟩ (.int .i64 (s.flight - szz x))).drew) b o p (landF x s) S from by rw [e0]; exact k1) g1)
    clear h k1 g1 e0
    generalize landF x s = s' at *
    generalize szz x = T at *
    generalize s.flight = c at *
    go_enter Try.func34, Try.ntmps34
    go_wp2_with fail
    go_region_with (go_at_call 20; refine (hm _).mono ?_; rintro e W ⟨rfl, rfl⟩)
    all_goals go_wp2_with fail
    all_goals refine bodyPost_end (results_none rfl _ _ _) rfl ?_
    all_goals exact ⟨rfl, (unhide F).1, (unhide F).2⟩

def rcollF (s : Cs) : Cs := { s with size := 2 * s.mtu, began := -1, ep := -1, pt := 0 }
theorem rcoll_any (b o p : Nat) (s S : Cs) (w : World) (h : RB w b o p s S) (hs : Sep o p) (hm : 1200 ≤ s.mtu ∧ s.mtu ≤ 9000) : Calls Try.prog 36 #[ptrO b o] w fun e w' => e = .returned (.tuple #[]) ∧ RB w' b o p (rcollF s) S ∧ w.grownBy w' (some b) := by
  obtain ⟨m1, m2⟩ := hm
  obtain ⟨t, c0, c1, c8, c9, c10, c11⟩ := h.full
  obtain ⟨c2, c3, c4, c5, c6, c7⟩ := h.more
  have k1 := h.set hs 8 (by decide) (.int .i64 (2 * s.mtu)) { s with size := 2 * s.mtu } rfl
  have k2 := k1.set hs 11 (by decide) (.int .i64 (-1)) { s with size := 2 * s.mtu, began := -1 } rfl
  have k3 := k2.set hs 2 (by decide) (.int .i64 (-1)) { s with size := 2 * s.mtu, began := -1, ep := -1 } rfl
  have k4 := k3.set hs 7 (by decide) (fv 0) (rcollF s) rfl
  have F := hide (And.intro k4 (grown_at (grown_at (grown_at (grown_at (World.grownBy.refl w (some b)) (o + 8) (.int .i64 (2 * s.mtu))) (o + 11) (.int .i64 (-1))) (o + 2) (.int .i64 (-1))) (o + 7) (fv 0)))
  clear h k1 k2 k3 k4
  generalize rcollF s = s' at *
  generalize s.mtu = m at *
  have hw : IntKind.i64.wrap (2 * m) = 2 * m := by rw [IntKind.wrap_i64]; omega
  go_enter Try.func36, Try.ntmps36
  go_wp2_with fail
  refine bodyPost_end (results_none rfl _ _ _) rfl ?_
  exact ⟨rfl, (unhide F).1, (unhide F).2⟩

theorem rmay_any (b o p : Nat) (s S : Cs) (x : Int) (w : World) (h : RB w b o p s S) (hf : 0 ≤ s.flight ∧ s.flight ≤ 1000000000000) : Calls Try.prog 18 #[ptrO b o, .int .i64 x] w fun e w' => e = .returned (.bool (mayF x s)) ∧ w.grownBy w' none := by
  have hm := fun q => size_any x (w.drewN q)
  obtain ⟨z1, z2⟩ := szb x
  obtain ⟨f1, f2⟩ := hf
  obtain ⟨t, -, -, c3, -, c5, -⟩ := h.full
  have G := hide (fun q => drewN_grown w q)
  unfold mayF
  clear h
  generalize szz x = T at *
  generalize s.flight = c at *
  generalize s.size = z at *
  by_cases h1 : c + T ≤ z
  · have E : Hid (decide (c + T ≤ z) = true) := decide_eq_true h1
    go_enter Try.func18, Try.ntmps18
    go_wp2_with fail
    go_quiet (exact Calls.quiet_of_same (hm _))
    go_wp2_with fail
    go_ret
    first | exact ⟨ret_beq' E, unhide G _⟩ | exact ⟨rfl, unhide G _⟩
  · have E : Hid (decide (c + T ≤ z) = false) := decide_eq_false h1
    go_enter Try.func18, Try.ntmps18
    go_wp2_with fail
    go_quiet (exact Calls.quiet_of_same (hm _))
    go_wp2_with fail
    go_ret
    first | exact ⟨ret_beq' E, unhide G _⟩ | exact ⟨rfl, unhide G _⟩

theorem rbegin_any (b o p : Nat) (s S : Cs) (w : World) (h : RB w b o p s S) (hs : Sep o p) (n : Nat) (ok : s.Ok n) (hn : n ≤ 9999) : Calls Try.prog 44 #[ptrO b o] w fun e w' => e = .returned (.tuple #[]) ∧ RB w' b o p (beginF s) S ∧ w.grownBy w' (some b) := by
  obtain ⟨t, c0, c1, c8, c9, c10, c11⟩ := h.full
  obtain ⟨c2, c3, c4, c5, c6, c7⟩ := h.more
  have fz : floatOfInt .f64 s.size = sI s := ofI (by have := ok.z; have := ok.m; omega)
  have hsi := sI_lt ok (by omega)
  have hpk := pk_lt ok (by omega)
  have l := olt hsi hpk
  have k1 := h.set hs 2 (by decide) (.int .i64 s.clock) { s with ep := s.clock } rfl
  have k2 := k1.set hs 6 (by decide) (fv (sI s)) { s with ep := s.clock, pl := sI s } rfl
  have k3 := k2.set hs 5 (by decide) (fv (sI s)) { s with ep := s.clock, pl := sI s, og := sI s } rfl
  have k4 := k3.set hs 3 (by decide) (.int .i64 0) { s with ep := s.clock, pl := sI s, og := sI s, wt := 0 } rfl
  have g4 := grown_at (grown_at (grown_at (grown_at (World.grownBy.refl w (some b)) (o + 2) (.int .i64 s.clock)) (o + 6) (fv (sI s))) (o + 5) (fv (sI s))) (o + 3) (.int .i64 0)
  by_cases c : sI s < s.pk
  · have em : ((s.mtu.toNat : Nat) : Int) = s.mtu := by have := ok.m; omega
    have WA := waits_any (subW s.pk (sI s)) s.mtu.toNat (mN ok) (need_le ok (by omega))
    rw [em] at WA
    have sb := fsub hpk hsi (Nat.le_of_lt c)
    have E : beginF s = { s with ep := s.clock, og := s.pk, wt := (kOf (subW s.pk (sI s)) s.mtu.toNat : Int), pl := sI s } := by unfold beginF; rw [if_pos c]
    have k5 := k4.set hs 5 (by decide) (fv s.pk) { s with ep := s.clock, pl := sI s, og := s.pk, wt := 0 } rfl
    have k6 := k5.set hs 3 (by decide) (.int .i64 (kOf (subW s.pk (sI s)) s.mtu.toNat : Int)) { s with ep := s.clock, pl := sI s, og := s.pk, wt := (kOf (subW s.pk (sI s)) s.mtu.toNat : Int) } rfl
    rw [← E] at k6
    have F := hide (And.intro k6.drew (drewS (grown_at (grown_at g4 (o + 5) (fv s.pk)) (o + 3) (.int .i64 (kOf (subW s.pk (sI s)) s.mtu.toNat : Int)))))
    rw [decide_eq_true c] at l
    clear h k1 k2 k3 k4 k5 k6 g4 E ok em hsi hpk c
    generalize beginF s = s' at *
    generalize kOf (subW s.pk (sI s)) s.mtu.toNat = kk at *
    generalize subW s.pk (sI s) = dd at *
    generalize (kk : Int) = ki at *
    generalize sI s = si at *
    go_enter Try.func44, Try.ntmps44
    go_wp2_with fail
    go_region_with (go_at_call 48; refine (WA _).mono ?_; rintro e W ⟨rfl, rfl⟩)
    all_goals go_wp2_with fail
    all_goals refine bodyPost_end (results_none rfl _ _ _) rfl ?_
    all_goals exact ⟨rfl, (unhide F).1, (unhide F).2⟩
  · have E : beginF s = { s with ep := s.clock, og := sI s, wt := 0, pl := sI s } := by unfold beginF; rw [if_neg c]
    rw [← E] at k4
    have F := hide (And.intro k4 g4)
    rw [decide_eq_false c] at l
    clear h k1 k2 k3 k4 g4 E ok hsi hpk c
    generalize beginF s = s' at *
    generalize sI s = si at *
    go_enter Try.func44, Try.ntmps44
    go_wp2_with fail
    refine bodyPost_end (results_none rfl _ _ _) rfl ?_
    exact ⟨rfl, (unhide F).1, (unhide F).2⟩
end Go.Proofs.Ythpnbajhogoinaa
