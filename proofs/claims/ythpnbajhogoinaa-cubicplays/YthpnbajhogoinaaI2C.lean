/- The document's Event. -/
import Derived.Test.YthpnbajhogoinaaI2B
import Derived.Deep.DeepCutAuto
namespace Go.Proofs.Ythpnbajhogoinaa
open Go.RowKit Fl
set_option linter.unusedVariables false
set_option maxRecDepth 100000
set_option maxHeartbeats 4000000
attribute [local go_sem] run_store_float

def rleaveF (s : Cs) : Cs := { s with ep := -1, pt := 0 }
def reventF (now sent : Int) (s : Cs) : Cs := if aheadF sent s then tickF now s else rleaveF (cutF (tickF now s))
theorem revent_any (b o p : Nat) (s0 S : Cs) (now sent : Int) (w : World) (h : RB w b o p s0 S) (hs0 : Sep o p) (n : Nat) (ok : s0.Ok n) (hnn : n ≤ 9999) :
    Calls Try.prog 35 #[ptrO b o, .int .i64 now, .int .i64 sent] w fun e w' => e = .returned (.bool (!aheadB sent s0)) ∧ RB w' b o p (reventF now sent s0) S ∧ w.grownBy w' (some b) := by
  have hn := time_any now
  have hs := fun W q => time_any sent (World.drewN W q)
  obtain ⟨t, -, c1, -, -, -, -⟩ := h.full
  have h0 : RB ((w.setCell ⟨b, o + 1, none⟩ (.int .i64 (max s0.clock (sp now)))).drew) b o p (tickF now s0) S := (h.set hs0 1 (by decide) (.int .i64 (max s0.clock (sp now))) (tickF now s0) rfl).drew
  have g0 : w.grownBy ((w.setCell ⟨b, o + 1, none⟩ (.int .i64 (max s0.clock (sp now)))).drew) (some b) := drewS (grown_at (World.grownBy.refl w (some b)) (o + 1) (.int .i64 (max s0.clock (sp now))))
  have E1 : Hid (aheadB sent s0 = true → reventF now sent s0 = tickF now s0) := fun hb => by unfold reventF; rw [if_pos (of_decide_eq_true hb)]
  have E2 : Hid (aheadB sent s0 = false → reventF now sent s0 = rleaveF (cutF (tickF now s0))) := fun hb => by unfold reventF; rw [if_neg (of_decide_eq_false hb)]
  have A0 : Hid (aheadB sent s0 = decide (0 ≤ s0.began ∧ sp sent ≤ s0.began)) := rfl
  have ok1 := tick_ok ok now
  have eb : (tickF now s0).began = s0.began := rfl
  have ec : (tickF now s0).clock = max s0.clock (sp now) := rfl
  generalize hC0 : max s0.clock (sp now) = C at *
  generalize tickF now s0 = s at *
  have fz : floatOfInt .f64 s.size = sI s := ofI (by have := ok1.z; have := ok1.m; omega)
  have lt := olt (sI_lt ok1 (by omega)) (pk_lt ok1 (by omega))
  have ml := fmul (sI_lt ok1 (by omega)) (show c85 < inf by decide)
  have hz := ok1.z
  have hm := ok1.m
  have F : Hid (∀ W, RB W b o p s S → w.grownBy W (some b) → RB ((((((W.setCell ⟨b, o + 4, none⟩ (fv (peakF s))).setCell ⟨b, o + 11, none⟩ (.int .i64 C)).setCell ⟨b, o + 9, none⟩ (.int .i64 (7 * s.size / 10))).setCell ⟨b, o + 8, none⟩ (.int .i64 (max (7 * s.size / 10) (2 * s.mtu)))).setCell ⟨b, o + 2, none⟩ (.int .i64 (-1))).setCell ⟨b, o + 7, none⟩ (fv 0)) b o p (rleaveF (cutF s)) S ∧ w.grownBy ((((((W.setCell ⟨b, o + 4, none⟩ (fv (peakF s))).setCell ⟨b, o + 11, none⟩ (.int .i64 C)).setCell ⟨b, o + 9, none⟩ (.int .i64 (7 * s.size / 10))).setCell ⟨b, o + 8, none⟩ (.int .i64 (max (7 * s.size / 10) (2 * s.mtu)))).setCell ⟨b, o + 2, none⟩ (.int .i64 (-1))).setCell ⟨b, o + 7, none⟩ (fv 0)) (some b)) := fun W hW gW => by
    rw [← ec]
    have k1 := hW.set hs0 4 (by decide) (fv (peakF s)) { s with pk := peakF s } rfl
    have k2 := k1.set hs0 11 (by decide) (.int .i64 s.clock) { s with pk := peakF s, began := s.clock } rfl
    have k3 := k2.set hs0 9 (by decide) (.int .i64 (7 * s.size / 10)) { s with pk := peakF s, began := s.clock, thr := 7 * s.size / 10 } rfl
    have k4 := k3.set hs0 8 (by decide) (.int .i64 (max (7 * s.size / 10) (2 * s.mtu))) (cutF s) rfl
    have k5 := k4.set hs0 2 (by decide) (.int .i64 (-1)) { cutF s with ep := -1 } rfl
    have k6 := k5.set hs0 7 (by decide) (fv 0) (rleaveF (cutF s)) rfl
    exact ⟨k6, grown_at (grown_at (grown_at (grown_at (grown_at (grown_at gW (o + 4) _) (o + 11) _) (o + 9) _) (o + 8) _) (o + 2) _) (o + 7) _⟩
  have PF : Hid (peakF s = if sI s < s.pk then mulW (sI s) c85 else sI s) := rfl
  have H0 := hide h0
  have G0 := hide g0
  have HC : Hid (C = max s0.clock (sp now)) := hC0.symm
  clear hC0 h h0 g0 ok ok1
  generalize reventF now sent s0 = S1 at *
  generalize aheadB sent s0 = B1 at *
  generalize hN : sp now = N at *
  generalize hc : s0.clock = c at *
  rw [← eb] at A0
  clear eb
  go_enter Try.func35, Try.ntmps35
  go_upto_region 1 with fail
  go_cut [] (fun wc => wc = (w.setCell ⟨b, o + 1, none⟩ (.int .i64 C)).drew)
  case first =>
    by_cases hlt : c < N
    · obtain rfl : C = N := (by have := unhide HC; omega)
      go_region_with (go_at_call 24; refine (hn _).mono ?_; rintro e W ⟨rfl, rfl⟩)
      all_goals go_wp2_with fail
      all_goals go_meet
      all_goals rfl
    · obtain rfl : C = c := (by have := unhide HC; omega)
      go_region_with (go_at_call 24; refine (hn _).mono ?_; rintro e W ⟨rfl, rfl⟩)
      all_goals go_wp2_with fail
      all_goals go_meet
      all_goals rfl
  case rest =>
    subst hcut
    generalize (w.setCell ⟨b, o + 1, none⟩ (.int .i64 C)).drew = W0 at *
    have hR := unhide H0
    have R1 := hide (fun q => (show RB (W0.drewN q) b o p s S from unhide H0))
    have G1 := hide (fun q => grown_drewS' (unhide G0) q)
    have F1 := hide (fun q => unhide F (W0.drewN q) (unhide R1 q) (unhide G1 q))
    clear t c1 F H0 G0 HC
    obtain ⟨t, c0, c1, c8, c9, c10, c11⟩ := hR.full
    obtain ⟨c2, c3, c4, c5, c6, c7⟩ := hR.more
    rw [ec] at c1
    have EC := hide ec
    clear hR ec
    replace hs := hs W0
    generalize sp sent = T at *
    generalize s.began = bg at *
    go_upto_region 2 with fail
    go_cut [33] (fun v wc => ∃ q, v = .bool B1 ∧ wc = W0.drewN q)
    case first =>
      by_cases h1 : 0 ≤ bg
      · by_cases h2 : T ≤ bg
        · have A1 : Hid (B1 = true) := by show B1 = true; rw [unhide A0]; exact decide_eq_true ⟨h1, h2⟩
          go_quiet (exact Calls.quiet_of_same (hs _))
          go_wp2_with fail
          go_meet
          exact ⟨_, by rw [unhide A1], rfl⟩
        · have A1 : Hid (B1 = false) := by show B1 = false; rw [unhide A0]; exact decide_eq_false (fun h => h2 h.2)
          have hd : decide (T ≤ bg) = false := decide_eq_false h2
          go_quiet (exact Calls.quiet_of_same (hs _))
          go_wp2_with fail
          go_meet
          exact ⟨_, by rw [unhide A1], rfl⟩
      · have A1 : Hid (B1 = false) := by show B1 = false; rw [unhide A0]; exact decide_eq_false (fun h => h1 h.1)
        have hd : decide (0 ≤ bg) = false := decide_eq_false h1
        go_quiet (exact Calls.quiet_of_same (hs _))
        go_wp2_with fail
        go_meet
        exact ⟨_, by rw [unhide A1], rfl⟩
    case rest =>
      obtain ⟨q, hv, hcut⟩ := hcut
      subst hv hcut
      have R2 := hide (unhide R1 q)
      have G2 := hide (unhide G1 q)
      have F2 := hide (unhide F1 q)
      clear R1 G1 F1 A0 hs t c0 c1 c2 c3 c4 c5 c6 c7 c8 c9 c10 c11
      have hR := unhide R2
      generalize W0.drewN q = W1 at *
      cases B1 with
      | true =>
        have ES := hide (unhide E1 rfl)
        clear E1 E2 hR F2
        go_wp2_with fail
        go_ret
        exact ⟨rfl, by rw [unhide ES]; exact unhide R2, unhide G2⟩
      | false =>
        have ES := hide (unhide E2 rfl)
        obtain ⟨t, c0, c1, c8, c9, c10, c11⟩ := hR.full
        obtain ⟨c2, c3, c4, c5, c6, c7⟩ := hR.more
        rw [unhide EC] at c1
        clear E1 E2 R2 G2 hR EC
        have w7 : IntKind.i64.wrap (7 * s.size) = 7 * s.size := by rw [IntKind.wrap_i64]; omega
        have w2 : IntKind.i64.wrap (2 * s.mtu) = 2 * s.mtu := by rw [IntKind.wrap_i64]; omega
        obtain ⟨M, hM⟩ : ∃ M, max (7 * s.size / 10) (2 * s.mtu) = M := ⟨_, rfl⟩
        rw [hM] at F2
        have alt : (7 * s.size / 10 < 2 * s.mtu ∧ M = 2 * s.mtu) ∨ (¬ 7 * s.size / 10 < 2 * s.mtu ∧ M = 7 * s.size / 10) := by omega
        have ES' : Hid (S1 = rleaveF (cutF s)) := ES
        clear hM ES
        generalize rleaveF (cutF s) = s3 at *
        by_cases c : sI s < s.pk
        · rw [unhide PF, if_pos c] at F2
          rw [decide_eq_true c] at lt
          clear PF c
          generalize mulW (sI s) c85 = zz at *
          generalize sI s = si at *
          generalize s.size = sz at *
          generalize s.mtu = mt at *
          rcases alt with ⟨a1, rfl⟩ | ⟨a1, rfl⟩
          all_goals
            go_wp2_with fail
            go_region
            go_wp2_with fail
            go_ret
            exact ⟨rfl, by rw [unhide ES']; exact (unhide F2).1.drew, drewS (unhide F2).2⟩
        · rw [unhide PF, if_neg c] at F2
          rw [decide_eq_false c] at lt
          clear PF c ml
          generalize sI s = si at *
          generalize s.size = sz at *
          generalize s.mtu = mt at *
          rcases alt with ⟨a1, rfl⟩ | ⟨a1, rfl⟩
          all_goals
            go_wp2_with fail
            go_region
            go_wp2_with fail
            go_ret
            exact ⟨rfl, by rw [unhide ES']; exact (unhide F2).1.drew, drewS (unhide F2).2⟩
end Go.Proofs.Ythpnbajhogoinaa
