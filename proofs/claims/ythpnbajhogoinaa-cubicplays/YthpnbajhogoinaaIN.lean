/- Acked, Event. -/
import Derived.Test.YthpnbajhogoinaaIM
import Derived.Test.YthpnbajhogoinaaIG
namespace Go.Proofs.Ythpnbajhogoinaa
open Go.RowKit Fl
set_option linter.unusedVariables false
set_option maxRecDepth 100000
set_option maxHeartbeats 4000000
attribute [local go_sem] run_store_float

theorem ahead_land (t now z : Int) (s : Cs) : aheadB t (landF z (tickF now s)) = aheadB t s := rfl
theorem ahead_tick (t now : Int) (s : Cs) : aheadB t (tickF now s) = aheadB t s := rfl

theorem acked_any (b : Nat) (s : Cs) (now sent x : Int) (l : Bool) (w : World) (h : CB w b s) (n : Nat) (ok : s.Ok n) (hn : n ≤ 9999) :
    Calls Try.prog 22 #[ptr b, .int .i64 now, .int .i64 sent, .int .i64 x, .bool l] w fun e w' => e = .returned (.tuple #[]) ∧ CB w' b (ackF now sent x l s) ∧ w.grownBy w' (some b) := by
  have T := tick_any b s now w h
  have L := fun W hW => land_any b (tickF now s) x W hW ⟨ok.f.1, by have := ok.f.2; show s.flight ≤ 1000000000000; omega⟩
  have A := fun W hW => ahead_any b (landF x (tickF now s)) sent W hW
  rw [ahead_land] at A
  have Z := amount_any x
  have R := fun W hW => raise_any b (landF x (tickF now s)) (szz x) W hW n (land_ok (tick_ok ok now) x) hn (szb x)
  have E1 : Hid (l = true ∨ aheadB sent s = true → ackF now sent x l s = landF x (tickF now s)) := fun hc => by
    unfold ackF
    rw [if_pos (hc.imp id fun hb => of_decide_eq_true hb)]
  have E2 : Hid (l = false → aheadB sent s = false → ackF now sent x l s = raiseF (szz x) (landF x (tickF now s))) := fun h1 h2 => by
    unfold ackF
    rw [if_neg]
    rintro (h | h)
    · rw [h1] at h; cases h
    · exact of_decide_eq_false h2 h
  clear h ok hn
  generalize raiseF (szz x) (landF x (tickF now s)) = s3 at *
  generalize landF x (tickF now s) = s2 at *
  generalize tickF now s = s1 at *
  generalize szz x = z at *
  generalize aheadB sent s = a at *
  go_enter Try.func22, Try.ntmps22
  go_wp2_with fail
  refine T.mono ?_
  rintro e W1 ⟨rfl, h1, g1⟩
  clear T
  go_wp2_with fail
  refine (L W1 h1).mono ?_
  rintro e W2 ⟨rfl, h2, g2⟩
  have g12 := hide (gtrans g1 g2)
  clear L h1 g1 g2
  cases l with
  | true =>
    have E := hide (unhide E1 (.inl rfl))
    clear A Z R E1 E2
    go_wp2_with fail
    refine bodyPost_end (results_none rfl _ _ _) rfl ?_
    exact ⟨rfl, by rw [unhide E]; exact h2, unhide g12⟩
  | false =>
    cases a with
    | true =>
      have E := hide (unhide E1 (.inr rfl))
      clear Z R E1 E2
      go_wp2_with fail
      refine (A W2 h2).mono ?_
      rintro e W3 ⟨rfl, g3⟩
      have h3 := h2.grown g3
      have g13 := hide (gtrans (unhide g12) (grown_any' g3 b))
      clear A h2 g12 g3
      go_wp2_with fail
      refine bodyPost_end (results_none rfl _ _ _) rfl ?_
      exact ⟨rfl, by rw [unhide E]; exact h3, unhide g13⟩
    | false =>
      have E := hide (unhide E2 rfl rfl)
      clear E1 E2
      go_wp2_with fail
      refine (A W2 h2).mono ?_
      rintro e W3 ⟨rfl, g3⟩
      have h3 := h2.grown g3
      have g13 := hide (gtrans (unhide g12) (grown_any' g3 b))
      clear A h2 g12 g3
      go_wp2_with fail
      refine (Z _).mono ?_
      rintro e W4 ⟨rfl, hW⟩
      replace hW := hW.symm
      subst hW
      go_wp2_with fail
      refine (R _ h3).mono ?_
      rintro e W5 ⟨rfl, h5, g5⟩
      have g15 := hide (gtrans (unhide g13) g5)
      clear R Z h3 g13 g5
      go_wp2_with fail
      refine bodyPost_end (results_none rfl _ _ _) rfl ?_
      exact ⟨rfl, by rw [unhide E]; exact h5, unhide g15⟩


theorem event_any (b : Nat) (s : Cs) (now sent : Int) (w : World) (h : CB w b s) (n : Nat) (ok : s.Ok n) (hn : n ≤ 9999) :
    Calls Try.prog 21 #[ptr b, .int .i64 now, .int .i64 sent] w fun e w' => e = .returned (.bool (!aheadB sent s)) ∧ CB w' b (eventF now sent s) ∧ w.grownBy w' (some b) := by
  have T := tick_any b s now w h
  have A := fun W hW => ahead_any b (tickF now s) sent W hW
  rw [ahead_tick] at A
  cases ha : aheadB sent s with
  | true =>
    have E : Hid (eventF now sent s = tickF now s) := by
      show _ = _
      unfold eventF
      rw [if_pos (of_decide_eq_true ha)]
    rw [unhide E]
    rw [ha] at A
    clear h ok E
    go_enter Try.func21, Try.ntmps21
    go_wp2_with fail
    refine T.mono ?_
    rintro e W1 ⟨rfl, h1, g1⟩
    clear T
    go_wp2_with fail
    refine (A W1 h1).mono ?_
    rintro e W2 ⟨rfl, g2⟩
    have h2 := h1.grown g2
    have g12 := hide (gtrans g1 (grown_any' g2 b))
    clear A h1 g1 g2
    go_wp2_with fail
    go_ret
    exact ⟨rfl, h2, unhide g12⟩
  | false =>
    have E : Hid (eventF now sent s = leaveF (cutF (tickF now s))) := by
      show _ = _
      unfold eventF
      rw [if_neg (of_decide_eq_false ha)]
    rw [unhide E]
    rw [ha] at A
    have ok1 := tick_ok ok now
    clear h E ok ha
    generalize tickF now s = s at *
    have PK := fun W => peak_any (sI s) s.pk (sI_lt ok1 (by omega)) (pk_lt ok1 (by omega)) W
    rw [show (if sI s < s.pk then mulW (sI s) c85 else sI s) = peakF s from rfl] at PK
    have fz : floatOfInt .f64 s.size = sI s := ofI (by have := ok1.z; have := ok1.m; omega)
    have hz := ok1.z
    have hm := ok1.m
    have L := fun W (hW : CB W b { s with began := s.clock, pk := peakF s, thr := 7 * s.size / 10 }) => least_any b { s with began := s.clock, pk := peakF s, thr := 7 * s.size / 10 } W hW hm
    have V := fun W (hW : CB W b (cutF s)) => leave_any b (cutF s) W hW
    have w1 : IntKind.i64.wrap (7 * s.size) = 7 * s.size := by rw [IntKind.wrap_i64]; omega
    go_enter Try.func21, Try.ntmps21
    go_wp2_with fail
    refine T.mono ?_
    rintro e W1 ⟨rfl, h1, g1⟩
    clear T
    go_wp2_with fail
    refine (A W1 h1).mono ?_
    rintro e W2 ⟨rfl, g2⟩
    have h2 := h1.grown g2
    have g12 := gtrans g1 (grown_any' g2 b)
    clear A h1 g1 g2
    obtain ⟨t, c0, c1, c2, c3, c4, c5⟩ := h2.full
    obtain ⟨c6, -⟩ := h2.more
    have H2 := hide h2
    have G12 := hide g12
    clear h2 g12 ok1
    go_wp2_with fail
    go_region_with (go_at_call 40; refine (PK _).mono ?_; rintro e W ⟨rfl, rfl⟩)
    all_goals
      have h3 : CB (W2.setCell ⟨b, 6, none⟩ (fv (peakF s))).drew b { s with pk := peakF s } := (Blk.setC (unhide H2) 6 _).drew
      have g3 := drewS (grown_at (unhide G12) 6 (fv (peakF s)))
      generalize (W2.setCell ⟨b, 6, none⟩ (fv (peakF s))).drew = W3 at *
      have h4 : CB ((W3.setCell ⟨b, 5, none⟩ (.int .i64 s.clock)).setCell ⟨b, 3, none⟩ (.int .i64 (7 * s.size / 10))) b { s with began := s.clock, pk := peakF s, thr := 7 * s.size / 10 } := Blk.setC (Blk.setC h3 5 _) 3 _
      have h5 : CB (((W3.setCell ⟨b, 5, none⟩ (.int .i64 s.clock)).setCell ⟨b, 3, none⟩ (.int .i64 (7 * s.size / 10))).setCell ⟨b, 2, none⟩ (.int .i64 (max (7 * s.size / 10) (2 * s.mtu)))).drew b (cutF s) := (Blk.setC h4 2 _).drew
      have V' := V _ h5
      have L' := L _ (Blk.drew h4)
      have G5 := hide (drewS (grown_at (grown_at (grown_at g3 5 (.int .i64 s.clock)) 3 (.int .i64 (7 * s.size / 10))) 2 (.int .i64 (max (7 * s.size / 10) (2 * s.mtu)))))
      obtain ⟨t', d0, d1, d2, d3, d4, d5⟩ := h3.full
      simp only at d0 d1 d2 d3 d4 d5
      clear t c0 c1 c2 c3 c4 c5 c6 H2 G12 PK L V h3 g3 h4 h5 fz
      generalize s.clock = cl at *
      generalize s.size = z at *
      obtain ⟨z1, z2⟩ := hz
      obtain ⟨m1, m2⟩ := hm
      generalize s.mtu = mt at *
      by_cases hlt : 7 * z / 10 < 2 * mt
      · have M : max (7 * z / 10) (2 * mt) = 2 * mt := by omega
        rw [M] at V' G5
        go_wp2_with fail
        go_region_with (go_at_call 28; refine L'.mono ?_; rintro e W ⟨rfl, rfl⟩)
        all_goals
          go_wp2_with fail
          refine V'.mono ?_
          rintro e W5 ⟨rfl, h6, g6⟩
          go_wp2_with fail
          go_ret
          exact ⟨rfl, h6, gtrans (unhide G5) g6⟩
      · have M : max (7 * z / 10) (2 * mt) = 7 * z / 10 := by omega
        rw [M] at V' G5
        go_wp2_with fail
        go_region_with (go_at_call 28; refine L'.mono ?_; rintro e W ⟨rfl, rfl⟩)
        all_goals
          go_wp2_with fail
          refine V'.mono ?_
          rintro e W5 ⟨rfl, h6, g6⟩
          go_wp2_with fail
          go_ret
          exact ⟨rfl, h6, gtrans (unhide G5) g6⟩
end Go.Proofs.Ythpnbajhogoinaa
