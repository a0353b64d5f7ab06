/- The document's Acked. -/
import Derived.Test.YthpnbajhogoinaaI2D
namespace Go.Proofs.Ythpnbajhogoinaa
open Go.RowKit Fl
set_option linter.unusedVariables false
set_option maxRecDepth 100000
set_option maxHeartbeats 4000000
attribute [local go_sem] run_store_float

theorem start_ep {n : Nat} {s : Cs} (ok : s.Ok n) : 0 ≤ (startF s).ep := by
  have := ok.c
  unfold startF beginF
  split
  · split <;> exact this.1
  · omega
theorem climbF_eq (z : Int) (s : Cs) : climbF z s = climbG z (startF s) := rfl
theorem climbG_eq2 (z : Int) (s : Cs) : climbG z s = { s with pl := (goF (gnF z s) s).pl, pt := subW (addW s.pt (moreW (tgF (goF (gnF z s) s)) (sI s) z.toNat)) (I (whole (addW s.pt (moreW (tgF (goF (gnF z s) s)) (sI s) z.toNat)))), size := s.size + (whole (addW s.pt (moreW (tgF (goF (gnF z s) s)) (sI s) z.toNat)) : Int) } := rfl
theorem racked_any (b o p : Nat) (s0 S : Cs) (now sent x : Int) (l : Bool) (w : World) (h : RB w b o p s0 S) (hs0 : Sep o p) (n : Nat) (ok : s0.Ok n) (hnn : n ≤ 9999) :
    Calls Try.prog 33 #[ptrO b o, .int .i64 now, .int .i64 sent, .int .i64 x, .bool l] w fun e w' => e = .returned (.tuple #[]) ∧ RB w' b o p (ackF now sent x l s0) S ∧ w.grownBy w' (some b) := by
  have hn := time_any now
  have hs := fun W q => time_any sent (World.drewN W q)
  have hz := size_any x
  obtain ⟨z1, z2⟩ := szb x
  have GO := fun W hW => rgone_any b o p (tickF now s0) S x W hW hs0 ⟨ok.f.1, by have := ok.f.2; show s0.flight ≤ 1000000000000; omega⟩
  have E1 : Hid (l = true ∨ aheadB sent s0 = true → ackF now sent x l s0 = landF x (tickF now s0)) := fun hc => by
    unfold ackF
    rw [if_pos (hc.imp id fun hb => of_decide_eq_true hb)]
  have E2 : Hid (l = false → aheadB sent s0 = false → ackF now sent x l s0 = raiseF (szz x) (landF x (tickF now s0))) := fun h1 h2 => by
    unfold ackF
    rw [if_neg]
    rintro (h | h)
    · rw [h1] at h; cases h
    · exact of_decide_eq_false h2 h
  have A0 : Hid (aheadB sent s0 = decide (0 ≤ s0.began ∧ sp sent ≤ s0.began)) := rfl
  have X1 : (landF x (tickF now s0)).began = s0.began := rfl
  have okl := land_ok (tick_ok ok now) x
  obtain ⟨t, -, c1, -, -, -, -⟩ := h.full
  have h0 : RB ((w.setCell ⟨b, o + 1, none⟩ (.int .i64 (max s0.clock (sp now)))).drew) b o p (tickF now s0) S := (h.set hs0 1 (by decide) (.int .i64 (max s0.clock (sp now))) (tickF now s0) rfl).drew
  have g0 : w.grownBy ((w.setCell ⟨b, o + 1, none⟩ (.int .i64 (max s0.clock (sp now)))).drew) (some b) := drewS (grown_at (World.grownBy.refl w (some b)) (o + 1) (.int .i64 (max s0.clock (sp now))))
  generalize hC0 : max s0.clock (sp now) = C at *
  have H0 := hide h0
  have G0 := hide g0
  have HC : Hid (C = max s0.clock (sp now)) := hC0.symm
  clear h h0 g0 hC0 ok
  generalize ackF now sent x l s0 = S1 at *
  generalize aheadB sent s0 = B1 at *
  generalize landF x (tickF now s0) = s at *
  generalize tickF now s0 = s1 at *
  generalize hN : sp now = N at *
  generalize hc : s0.clock = c at *
  rw [← X1] at A0
  clear X1
  go_enter Try.func33, Try.ntmps33
  go_upto_region 0 with fail
  go_cut [] (fun wc => wc = (w.setCell ⟨b, o + 1, none⟩ (.int .i64 C)).drew)
  case first =>
    as_aux_lemma =>
    by_cases hlt : c < N
    · obtain rfl : C = N := (by have := unhide HC; omega)
      go_region_with (go_at_call 24; refine (hn _).mono ?_; rintro e W ⟨rfl, rfl⟩)
      all_goals go_wp2_with fail
      all_goals go_meet
      all_goals rfl
    · obtain rfl : C = c := (by have := unhide HC; omega)
      go_region_with (go_at_call 24; refine (hn _).mono ?_; rintro e W ⟨rfl, rfl⟩)
      all_goals go_wp2_with fail
      all_goals go_meet
      all_goals rfl
  case rest =>
    subst hcut
    generalize (w.setCell ⟨b, o + 1, none⟩ (.int .i64 C)).drew = W0 at *
    have hG := GO W0 (unhide H0)
    clear t c1 HC H0 GO hn hN hc
    go_wp2_with fail
    refine hG.mono ?_
    rintro e W1 ⟨rfl, hR, g1⟩
    have G1 := hide (gtrans (unhide G0) g1)
    have R1 := hide hR
    clear hG G0 g1
    obtain ⟨t, c0, c1, c8, c9, c10, c11⟩ := hR.full
    clear hR
    replace hs := hs W1
    generalize sp sent = T at *
    go_upto_region 2 with fail
    go_cut [48] (fun v wc => ∃ q, v = .bool (l || B1) ∧ wc = W1.drewN q)
    case first =>
      as_aux_lemma =>
      generalize s.began = bg at *
      cases l with
      | true =>
        go_quiet (exact Calls.quiet_of_same (hs _))
        go_wp2_with fail
        go_meet
        exact ⟨_, rfl, rfl⟩
      | false =>
        by_cases h1 : 0 ≤ bg
        · by_cases h2 : T ≤ bg
          · have A1 : Hid ((false || B1) = true) := by show (false || B1) = true; rw [unhide A0]; simp [h1, h2]
            go_quiet (exact Calls.quiet_of_same (hs _))
            go_wp2_with fail
            go_meet
            exact ⟨_, by rw [unhide A1], rfl⟩
          · have A1 : Hid ((false || B1) = false) := by show (false || B1) = false; rw [unhide A0]; simp; omega
            have hd : decide (T ≤ bg) = false := decide_eq_false h2
            go_quiet (exact Calls.quiet_of_same (hs _))
            go_wp2_with fail
            go_meet
            exact ⟨_, by rw [unhide A1], rfl⟩
        · have A1 : Hid ((false || B1) = false) := by show (false || B1) = false; rw [unhide A0]; simp; omega
          have hd : decide (0 ≤ bg) = false := decide_eq_false h1
          go_quiet (exact Calls.quiet_of_same (hs _))
          go_wp2_with fail
          go_meet
          exact ⟨_, by rw [unhide A1], rfl⟩
    case rest =>
      obtain ⟨q, hv, hcut⟩ := hcut
      subst hv hcut
      have R2 := hide (show RB (W1.drewN q) b o p s S from unhide R1)
      have G2 := hide (grown_drewS' (unhide G1) q)
      clear R1 G1 A0 hs t c0 c1 c8 c9 c10 c11
      generalize W1.drewN q = W2 at *
      cases hP : (l || B1) with
      | true =>
        have ES : Hid (S1 = s) := by
          refine unhide E1 ?_
          cases l with
          | true => exact .inl rfl
          | false => exact .inr (by simpa using hP)
        clear E1 E2
        go_wp2_with fail
        refine bodyPost_ret (results_none rfl _ _ _) rfl ?_
        exact ⟨rfl, by rw [unhide ES]; exact unhide R2, unhide G2⟩
      | false =>
        have ES : Hid (S1 = raiseF (szz x) s) := by
          refine unhide E2 ?_ ?_
          · cases l with
            | true => simp at hP
            | false => rfl
          · cases B1 with
            | true => simp at hP
            | false => rfl
        clear E1 E2 hP
        obtain ⟨t, c0, c1, c8, c9, c10, c11⟩ := (unhide R2).full
        obtain ⟨c2, -⟩ := (unhide R2).more
        have zb := okl.z
        have mb := okl.m
        by_cases hlt : s.size < s.thr
        · as_aux_lemma =>
          have F := hide (And.intro (show ∀ q, RB ((W2.drewN q).setCell ⟨b, o + 8, none⟩ (.int .i64 (s.size + szz x))) b o p S1 S from fun q => by rw [unhide ES]; unfold raiseF; rw [if_pos hlt]; exact (((unhide R2).drewN q).set hs0 8 (by decide) (.int .i64 (s.size + szz x)) { s with size := s.size + szz x } rfl)) (fun q => grown_at (grown_drewS' (unhide G2) q) (o + 8) (.int .i64 (s.size + szz x))))
          clear ES R2 G2 okl
          generalize szz x = z at *
          generalize s.size = y at *
          generalize s.thr = th at *
          have hw : IntKind.i64.wrap (y + z) = y + z := by rw [IntKind.wrap_i64]; omega
          go_wp2_with fail
          go_quiet (fail)
          go_wp2_with fail
          go_region_with (go_at_call 20; refine (hz _).mono ?_; rintro e W ⟨rfl, rfl⟩)
          all_goals go_wp2_with fail
          all_goals refine bodyPost_ret (results_none rfl _ _ _) rfl ?_
          all_goals exact ⟨rfl, (unhide F).1 _, (unhide F).2 _⟩
        · have altz : (s.size < szz x ∧ min (szz x) s.size = s.size) ∨ (¬ s.size < szz x ∧ min (szz x) s.size = szz x) := by omega
          have EC : Hid (S1 = climbG (min (szz x) s.size) (startF s)) := by rw [unhide ES]; unfold raiseF; rw [if_neg hlt, climbF_eq]; exact rfl
          have RK0 := hide (rck (start_ok okl (by omega)) hnn (start_ep okl) (z := min (szz x) s.size) (by rw [(start_sz s).1]; omega))
          have e1 := (start_sz s).1
          have BG := hide (fun W hW => rbegin_any b o p s S W hW hs0 n okl hnn)
          rw [climbG_eq2] at EC
          generalize hzz : min (szz x) s.size = z at *
          clear ES okl hzz
          generalize gnF z (startF s) = g at *
          generalize (goF g (startF s)).pl = L at *
          generalize tgF (goF g (startF s)) = T2 at *
          generalize addW (startF s).pt (moreW T2 (sI (startF s)) z.toNat) = P at *
          go_wp2_with fail
          go_quiet (fail)
          have R2q := hide ((unhide R2).drewN nq)
          have G2q := hide (grown_drewS' (unhide G2) nq)
          clear R2 G2 t c0 c1 c2 c8 c9 c10 c11
          generalize W2.drewN nq = W2q at *
          obtain ⟨t, c0, c1, c8, c9, c10, c11⟩ := (unhide R2q).full
          obtain ⟨c2, -⟩ := (unhide R2q).more
          go_upto_if 76 with fail
          go_cut [] (fun wc => RB wc b o p (startF s) S ∧ w.grownBy wc (some b))
          case first =>
            as_aux_lemma =>
            clear RK0 EC
            by_cases he : s.ep < 0
            · have e2 : startF s = beginF s := by unfold startF; rw [if_pos he]
              have E2' := hide e2
              have BG' := unhide BG W2q (unhide R2q)
              clear e2 BG e1 altz
              generalize startF s = s2 at *
              generalize beginF s = s3 at *
              go_wp2_with fail
              refine BG'.mono ?_
              rintro e W3 ⟨rfl, h3, g3⟩
              go_wp2_with fail
              go_meet
              exact ⟨by rw [unhide E2']; exact h3, gtrans (unhide G2q) g3⟩
            · have e2 : startF s = s := by unfold startF; rw [if_neg he]
              have E2' := hide e2
              clear e2 BG e1 altz
              generalize startF s = s2 at *
              go_wp2_with fail
              go_meet
              exact ⟨by rw [unhide E2']; exact unhide R2q, unhide G2q⟩
          case rest =>
          obtain ⟨h3, g3⟩ := hcut
          have R3 := hide h3
          have G3 := hide g3
          have RK := RK0
          rw [← e1] at altz
          clear h3 g3 RK0 t c0 c1 c2 c8 c9 c10 c11 hlt zb mb e1 BG R2q G2q
          generalize startF s = s2 at *
          have W3 := wc
          have hzq := fun q => hz (wc.drewN q)
          obtain ⟨t, c0, c1, c8, c9, c10, c11⟩ := (unhide R3).full
          go_upto_region 7 with fail
          go_cut [10] (fun v w3 => ∃ q, v = fv (I z.toNat) ∧ w3 = wc.drewN q)
          case first =>
            as_aux_lemma =>
            have zz := (unhide RK).zz
            clear RK EC
            rcases altz with ⟨az, altz⟩ | ⟨az, altz⟩
            · rw [altz] at zz
              have EZ : Hid (I z.toNat = I s2.size.toNat) := by rw [altz]; exact rfl
              clear altz
              generalize I z.toNat = iz at *
              generalize s2.size = sze at *
              go_quiet (exact Calls.quiet_of_same (hzq _))
              go_wp2_with fail
              go_meet
              exact ⟨_, by rw [unhide EZ], rfl⟩
            · rw [altz] at zz
              have EZ : Hid (I z.toNat = I (szz x).toNat) := by rw [altz]; exact rfl
              clear altz
              generalize I z.toNat = iz at *
              generalize s2.size = sze at *
              generalize szz x = Z at *
              go_quiet (exact Calls.quiet_of_same (hzq _))
              go_wp2_with fail
              go_meet
              exact ⟨_, by rw [unhide EZ], rfl⟩
          case rest =>
          obtain ⟨q4, hv, hW⟩ := hcut
          subst hv
          subst hW
          have R4 := hide ((unhide R3).drewN q4)
          have G4 := hide (grown_drewS' (unhide G3) q4)
          clear hzq R3 G3 t c0 c1 c8 c9 c10 c11 altz
          generalize wc.drewN q4 = W4 at *
          obtain ⟨sz, zz, mm, m1, q1, ol, g9, ad, cb, ha, o14, hH, o16, tp, o19, tge, s1, m2, q2, a2, cv, s3, ww, d1, d2⟩ := unhide RK
          have F := hide (fun (W : World) (hW : RB W b o p s2 S) (gW : w.grownBy W (some b)) => And.intro ((hW.set hs0 6 (by decide) (fv L) { s2 with pl := L } rfl)) (grown_at gW (o + 6) (fv L)))
          have F2 := hide (fun (W : World) (hW : RB W b o p { s2 with pl := L } S) (gW : w.grownBy W (some b)) => And.intro (((hW.set hs0 7 (by decide) (fv P) { s2 with pl := L, pt := P } rfl).set hs0 8 (by decide) (.int .i64 (s2.size + (whole P : Int))) { s2 with pl := L, pt := P, size := s2.size + (whole P : Int) } rfl).set hs0 7 (by decide) (fv (subW P (I (whole P)))) { s2 with pl := L, pt := subW P (I (whole P)), size := s2.size + (whole P : Int) } rfl) (grown_at (grown_at (grown_at gW (o + 7) (fv P)) (o + 8) (.int .i64 (s2.size + (whole P : Int)))) (o + 7) (fv (subW P (I (whole P))))))
          have P4 := hide (fun (W : World) (hW : RB W b o p { s2 with pl := L } S) => And.intro hW.full hW.more)
          clear RK
          generalize (whole P : Int) = wh at *
          generalize subW P (I (whole P)) = P2 at *
          generalize moreW T2 (sI s2) z.toNat = mo at *
          generalize mulW (subW T2 (sI s2)) (I z.toNat) = mo1 at *
          generalize subW T2 (sI s2) = way at *
          generalize mulW c15 (sI s2) = top at *
          generalize hrOf s2 = hr at *
          generalize hiOf s2 = hi at *
          generalize cuOf s2 = cu at *
          generalize mulW (I z.toNat) (I s2.mtu.toNat) = pr at *
          generalize I s2.mtu.toNat = im at *
          generalize I z.toNat = iz at *
          generalize sI s2 = si at *
          obtain ⟨t, c0, c1, c8, c9, c10, c11⟩ := (unhide R4).full
          obtain ⟨c2, c3, c4, c5, c6, c7⟩ := (unhide R4).more
          go_wp2_with fail
          go_quiet (fail)
          have R5 := hide ((unhide R4).drewN nq)
          have G5 := hide (grown_drewS' (unhide G4) nq)
          clear R4 G4
          generalize W4.drewN nq = W5 at *
          clear t c0 c1 c2 c3 c4 c5 c6 c7 c8 c9 c10 c11
          obtain ⟨t, c0, c1, c8, c9, c10, c11⟩ := (unhide R5).full
          obtain ⟨c2, c3, c4, c5, c6, c7⟩ := (unhide R5).more
          go_upto_if 111 with fail
          go_cut [12] (fun v wc => v = fv (gain2 s2.pl s2.og g) ∧ wc = W5)
          case first =>
            as_aux_lemma =>
            by_cases hpo : s2.pl < s2.og
            · have eg : gain2 s2.pl s2.og g = mulW g c917 := by unfold gain2; rw [if_pos hpo]
              have EG := hide eg
              have hdo : decide (s2.pl < s2.og) = true := decide_eq_true hpo
              clear eg
              go_wp2_with fail
              go_meet
              exact ⟨by rw [unhide EG], rfl⟩
            · have eg : gain2 s2.pl s2.og g = g := by unfold gain2; rw [if_neg hpo]
              have EG := hide eg
              have hdo : decide (s2.pl < s2.og) = false := decide_eq_false hpo
              clear eg
              go_wp2_with fail
              go_meet
              exact ⟨by rw [unhide EG], rfl⟩
          case rest =>
          obtain ⟨hv, hW⟩ := hcut
          subst hv
          replace hW := hW.symm
          subst hW
          have K6 := unhide F W5 (unhide R5) (unhide G5)
          clear F R5 G5 ol g9
          generalize gain2 s2.pl s2.og g = g2 at *
          clear c8 c9 c10 c11 c2 c3 c4
          go_upto_region 13 with fail
          have P6 := unhide P4 _ K6.1
          have R6 := hide K6.1
          have G6 := hide K6.2
          clear K6 t c0 c1 c5 c6 c7
          generalize W5.setCell _ _ = W6 at *
          obtain ⟨⟨t, c0, c1, c8, c9, c10, c11⟩, c2, c3, c4, c5, c6, c7⟩ := P6
          have CBQ := fun q => cb (W6.drewN q)
          clear cb
          go_quiet (exact Calls.quiet_of_same (CBQ _))
          have R7 := hide ((unhide R6).drewN nq)
          have G7 := hide (grown_drewS' (unhide G6) nq)
          clear CBQ R6 G6 t c0 c1 c8 c9 c10 c11 c2 c3 c4 c5 c6 c7
          generalize W6.drewN nq = W7 at *
          obtain ⟨⟨t, c0, c1, c8, c9, c10, c11⟩, c2, c3, c4, c5, c6, c7⟩ := unhide P4 _ (unhide R7)
          go_upto_if 152 with fail
          go_cut [13] (fun v wc => v = fv (max hi L) ∧ wc = W7)
          case first =>
            as_aux_lemma =>
            by_cases hpo : hi < L
            · have eg : max hi L = L := by omega
              have EG := hide eg
              have hdo : decide (hi < L) = true := decide_eq_true hpo
              clear eg
              go_wp2_with fail
              go_meet
              exact ⟨by rw [unhide EG], rfl⟩
            · have eg : max hi L = hr := by rw [hH hpo]; omega
              have EG := hide eg
              have hdo : decide (hi < L) = false := decide_eq_false hpo
              clear eg hH
              go_wp2_with fail
              go_meet
              exact ⟨by rw [unhide EG], rfl⟩
          case rest =>
          obtain ⟨hv, hW⟩ := hcut
          subst hv
          replace hW := hW.symm
          subst hW
          clear o14 hH
          generalize max hi L = t1 at *
          go_upto_if 159 with fail
          go_cut [13] (fun v wc => v = fv (max t1 si) ∧ wc = W7)
          case first =>
            as_aux_lemma =>
            by_cases hpo : t1 < si
            · have eg : max t1 si = si := by omega
              have EG := hide eg
              have hdo : decide (t1 < si) = true := decide_eq_true hpo
              clear eg
              go_wp2_with fail
              go_meet
              exact ⟨by rw [unhide EG], rfl⟩
            · have eg : max t1 si = t1 := by omega
              have EG := hide eg
              have hdo : decide (t1 < si) = false := decide_eq_false hpo
              clear eg
              go_wp2_with fail
              go_meet
              exact ⟨by rw [unhide EG], rfl⟩
          case rest =>
          obtain ⟨hv, hW⟩ := hcut
          subst hv
          replace hW := hW.symm
          subst hW
          clear o16
          generalize max t1 si = t2 at *
          go_upto_if 165 with fail
          go_cut [13] (fun v wc => v = fv T2 ∧ wc = W7)
          case first =>
            as_aux_lemma =>
            by_cases hpo : top < t2
            · have eg : T2 = top := by rw [tge]; omega
              have EG := hide eg
              have hdo : decide (top < t2) = true := decide_eq_true hpo
              clear eg tge
              go_wp2_with fail
              go_meet
              exact ⟨by rw [unhide EG], rfl⟩
            · have eg : T2 = t2 := by rw [tge]; omega
              have EG := hide eg
              have hdo : decide (top < t2) = false := decide_eq_false hpo
              clear eg tge
              go_wp2_with fail
              go_meet
              exact ⟨by rw [unhide EG], rfl⟩
          case rest =>
          obtain ⟨hv, hW⟩ := hcut
          subst hv
          replace hW := hW.symm
          subst hW
          clear o19 tge tp
          as_aux_lemma =>
          have K8 := hide (unhide F2 W7 (unhide R7) (unhide G7))
          clear F2 R7 G7 P4
          generalize s2.size = sze at *
          go_wp2_with fail
          refine bodyPost_end (results_none rfl _ _ _) rfl ?_
          exact ⟨rfl, by rw [unhide EC]; exact (unhide K8).1, (unhide K8).2⟩
end Go.Proofs.Ythpnbajhogoinaa
