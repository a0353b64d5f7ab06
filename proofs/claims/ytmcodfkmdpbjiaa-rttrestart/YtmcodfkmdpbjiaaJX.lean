/- RttRestart's walk. -/
import Derived.Test.YtmcodfkmdpbjiaaJV
import Derived.Test.YtmcodfkmdpbjiaaJFd
namespace Go.Proofs.Ytmcodfkmdpbjiaa
open Go.RowKit
set_option linter.unusedVariables false
set_option maxRecDepth 100000
set_option maxHeartbeats 4000000

theorem restart_walk (a0 : Option Addr) (len cap : Nat) (ol : List OpE) (y0 : OpE) (w : World) (h : IsOps w a0 len cap ol) :
    Calls Try.prog 8 #[.slice a0 len cap, .agg #[.bool y0.rs, .int .i64 y0.h, .int .i64 y0.now, .int .i64 y0.latest, .int .i64 y0.delay]] w fun e w' => e = .returned (.bool true) ∧ w.grownBy w' none := by
  have ga := World.grownBy_alloc w (.cells #[.bool y0.rs, .int .i64 y0.h, .int .i64 y0.now, .int .i64 y0.latest, .int .i64 y0.delay] 36) none
  have bn := Blk.new w #[.bool y0.rs, .int .i64 y0.h, .int .i64 y0.now, .int .i64 y0.latest, .int .i64 y0.delay] 36
  have sh := shown_any (w.alloc (.cells #[.bool y0.rs, .int .i64 y0.h, .int .i64 y0.now, .int .i64 y0.latest, .int .i64 y0.delay] 36))
  have HO := hide h
  have hl := h.hlen
  have hcap := h.hcap
  have lenI : ¬ (9223372036854775807 : Int) < (len : Int) := by omega
  have he := fun W => est_any 333000 1000 W
  have hx := into_any y0.latest
  clear h
  generalize y0.now = NOW at *
  generalize y0.latest = LAT at *
  generalize y0.delay = DEL at *
  go_enter Try.func8, Try.ntmps8
  go_wp2_with fail
  refine sh.mono ?_
  rintro e w1 ⟨rfl, g1⟩
  have bn1 := bn.grown g1
  have d2 := bn1.cell 2 _ rfl
  have d3 := bn1.cell 3 _ rfl
  have d4 := bn1.cell 4 _ rfl
  have g1' := gtrans ga g1
  clear sh bn bn1 g1 ga
  go_wp2_with fail
  refine (he _).mono ?_
  rintro e w2 ⟨rfl, hw2⟩
  have TS := hide (fun w3 => two_start (w3 := w3) (e_fits 333000 1000) (e_fits 333000 1000) g1' hw2)
  clear hw2 d2 d3 d4
  unfold rsc rs0 at *
  generalize eI 333000 = I at *
  generalize eG 1000 = G at *
  go_wp2_with fail
  refine (he _).mono ?_
  rintro e w3 ⟨rfl, hw3⟩
  have z := alloc_size w2 (.cells #[.int .i64 I, .int .i64 G, .int .i64 0, .bool false, .bool false, .int .i64 0, .int .i64 0, .int .i64 0, .int .i64 0, .int .i64 0] 32)
  have T0 := hide (unhide TS w3 hw3)
  rw [z]
  clear he hw3 g1' TS z
  generalize w1.heap.size + 1 = a at *
  generalize w2.heap.size + 1 + 1 = b at *
  go_wp2_with fail
  generalize w3.alloc _ = w4 at *
  go_loopw [13, 14, 15] (fun f c i wr => ∃ (k : Nat) (s : Es) (fi cl : Int), k ≤ len ∧ i = .int .i64 k ∧ f = .int .i64 fi ∧ c = .int .i64 cl ∧ Hid (TQ w wr a b s s ∧ FI s fi cl)) (fun _ _ i _ => len - (intOf i).toNat)
  case atStart => exact ⟨0, _, _, _, Nat.zero_le _, rfl, rfl, rfl, ⟨unhide T0, ⟨rfl, (fun _ => ⟨rfl, rfl⟩), (fun h => absurd (show false = true from h) (by decide)), by decide⟩⟩⟩
  case round =>
    clear T0
    obtain ⟨k, s, fi, cl, hk, rfl, rfl, rfl, H⟩ := hrel
    by_cases hlt : k < len ∧ k < 4000
    · obtain ⟨bo, off, rfl, hcs⟩ := (unhide HO).cell.resolve_left (by omega)
      have hx' : ol[k]? = some ol[k] := List.getElem?_eq_getElem _
      have hcx := hcs k _ hx'
      generalize ol[k] = y at *
      have gr := (unhide H).1.qa.grown
      have c0 : wr.cell? ⟨bo, off + k * 5, none⟩ = some (.bool y.rs) := cell_grown (hcx 0 _ rfl) gr
      have c2 : wr.cell? ⟨bo, off + k * 5 + 2, none⟩ = some (.int .i64 y.now) := cell_grown (hcx 2 _ rfl) gr
      have c3 : wr.cell? ⟨bo, off + k * 5 + 3, none⟩ = some (.int .i64 y.latest) := cell_grown (hcx 3 _ rfl) gr
      have c4 : wr.cell? ⟨bo, off + k * 5 + 4, none⟩ = some (.int .i64 y.delay) := cell_grown (hcx 4 _ rfl) gr
      have kn : (k : Int) < (len : Int) := by omega
      have k4 : (k : Int) < 4000 := by omega
      have hi := into_any y.now
      have SA := fun q => tq_a ((unhide H).1.keep (drewN_grown wr q)) y.now y.latest y.delay
      have HLT := hide hlt
      have CC : Hid (∀ X s' t', TQ w X a b s' t' → X.cell? ⟨bo, off + k * 5 + 2, none⟩ = some (.int .i64 y.now) ∧ X.cell? ⟨bo, off + k * 5 + 3, none⟩ = some (.int .i64 y.latest) ∧ X.cell? ⟨bo, off + k * 5 + 4, none⟩ = some (.int .i64 y.delay)) := fun X s' t' hX => ⟨cell_grown (hcx 2 _ rfl) hX.qa.grown, cell_grown (hcx 3 _ rfl) hX.qa.grown, cell_grown (hcx 4 _ rfl) hX.qa.grown⟩
      have FS : Hid (FI (smpF y.now y.latest y.delay s) (if fi < 0 then max cl (sp y.now) else fi) (max cl (sp y.now))) := fi_step (unhide H).1.oka (unhide H).2 _ _ _
      clear hcs hcx hx' gr hlt hk hx
      cases hr : y.rs with
      | true =>
        rw [hr] at c0
        clear SA hi FS
        go_wp2_with fail
        go_roundw
        case rel => exact ⟨k + 1, _, _, _, (unhide HLT).1, by go_num, rfl, rfl, H⟩
        case measure => have := unhide HLT; simp [intOf]; omega
      | false =>
        rw [hr] at c0
        have vE : viewF (smpF y.now y.latest y.delay s) = #[.bool true, .int .i64 (smpF y.now y.latest y.delay s).latest, .int .i64 (smpF y.now y.latest y.delay s).least, .int .i64 (smpF y.now y.latest y.delay s).smooth, .int .i64 (smpF y.now y.latest y.delay s).var, .int .i64 (if fi < 0 then max cl (sp y.now) else fi)] := by
          rw [(unhide FS).yes (smp_has _ _ _ _).1]
          unfold viewF
          rw [(smp_has y.now y.latest y.delay s).1]
          rfl
        have CV := fun X (hX : TQ w X a b (smpF y.now y.latest y.delay s) (smpF y.now y.latest y.delay s)) => tq_va hX
        rw [vE] at CV
        clear vE H
        generalize hFI : (if fi < 0 then max cl (sp y.now) else fi) = FN at *
        generalize hCL : max cl (sp y.now) = CN at *
        generalize sp y.now = N at *
        have SBB := fun X t (hX : TQ w X a b t s) => tq_b hX y.now y.latest y.delay
        generalize smpF y.now y.latest y.delay s = s' at *
        generalize s'.latest = v1 at *
        generalize s'.least = v2 at *
        generalize s'.smooth = v3 at *
        generalize s'.var = v4 at *
        go_wp2_with fail
        refine (hi _).mono ?_
        rintro e X0 ⟨rfl, hX0⟩
        replace hX0 := hX0.symm
        subst hX0
        clear hi
        have hCN : (cl < N ∧ CN = N) ∨ (¬ cl < N ∧ CN = cl) := by omega
        have hFN : (fi < 0 ∧ FN = CN) ∨ (¬ fi < 0 ∧ FN = fi) := by
          by_cases c : fi < 0
          · rw [if_pos c] at hFI; exact .inl ⟨c, hFI.symm⟩
          · rw [if_neg c] at hFI; exact .inr ⟨c, hFI.symm⟩
        clear hFI hCL
        rcases hCN with ⟨hm, rfl⟩ | ⟨hm, rfl⟩
        all_goals
          rcases hFN with ⟨hf, rfl⟩ | ⟨hf, rfl⟩
        all_goals as_aux_lemma =>
          go_wp2_with fail
          go_region_held3 (fun X => X.cell? ⟨bo, off + k * 5 + 2, none⟩ = some (.int .i64 y.now) ∧ X.cell? ⟨bo, off + k * 5 + 3, none⟩ = some (.int .i64 y.latest) ∧ X.cell? ⟨bo, off + k * 5 + 4, none⟩ = some (.int .i64 y.delay)) (go_keep) (first | (go_at_call 14; refine (SA 1).mono ?_; rintro e W2 ⟨rfl, S2, G2⟩; have z2 := (unhide CC W2 _ _ S2).1; have z3 := (unhide CC W2 _ _ S2).2.1; have z4 := (unhide CC W2 _ _ S2).2.2))
          have SB := fun q => SBB _ _ (S2.keep (drewN_grown W2 q))
          clear SA S2 G2 c0 c2 c3 c4 SBB
          go_wp2_with fail
          go_region_held3 (fun X => X.cell? ⟨bo, off + k * 5 + 2, none⟩ = some (.int .i64 y.now) ∧ X.cell? ⟨bo, off + k * 5 + 3, none⟩ = some (.int .i64 y.latest) ∧ X.cell? ⟨bo, off + k * 5 + 4, none⟩ = some (.int .i64 y.delay)) (go_keep) (first | (go_at_call 14; refine (SB 1).mono ?_; rintro e W3 ⟨rfl, S3, G3⟩; have y2 := (unhide CC W3 _ _ S3).1; have y3 := (unhide CC W3 _ _ S3).2.1; have y4 := (unhide CC W3 _ _ S3).2.2))
          have CV3 := CV _ S3
          clear SB S3 G3 z2 z3 z4 y2 y3 y4 CC CV
          go_wp2_with fail
          refine CV3.mono ?_
          rintro e W4 ⟨rfl, S4, -⟩
          have R := hide (And.intro S4 (unhide FS))
          clear CV3 S4 FS
          have fl := fun v0 v1 v2 v3 v4 n W => fld5 v0 v1 v2 v3 v4 n W
          go_wp2_with fail
          clear fl
          go_roundw
          case rel => exact ⟨k + 1, _, _, _, (unhide HLT).1, by go_num, rfl, rfl, R⟩
          case measure => have := unhide HLT; simp [intOf]; omega
    · have alt : (¬ (k : Int) < (len : Int)) ∨ ((k : Int) < (len : Int) ∧ ¬ (k : Int) < 4000) := by omega
      clear hlt
      obtain ⟨T, hF⟩ := unhide H
      have hrs := hF.rs
      have rq := restart_eq T.oka hrs NOW LAT DEL
      have hs2 := smp_has NOW LAT DEL { s with restart := true }
      have ht2 := smp_has NOW LAT 0 s
      have hs3 := smp_has NOW LAT 0 (smpF NOW LAT DEL { s with restart := true })
      obtain ⟨h0, l0, m0, s0, v0, f0, hv⟩ : ∃ h l m x v f, viewF s = rtc h l m x v f := by
        unfold viewF
        split
        · exact ⟨_, _, _, _, _, _, rfl⟩
        · exact ⟨false, 0, 0, 0, 0, 0, rfl⟩
      have V1 := tq_va T
      have R1 := fun X (hX : TQ w X a b s s) => tq_ra hX
      have CV := fun X (hX : TQ w X a b { s with restart := true } s) => tq_va hX
      rw [show viewF { s with restart := true } = viewF s from rfl, hv] at CV
      rw [hv] at V1
      have CA := fun X (hX : TQ w X a b { s with restart := true } s) => tq_ba hX
      rw [show baseF { s with restart := true } = baseF s from rfl] at CA
      have CB := fun X (hX : TQ w X a b { s with restart := true } s) => tq_bb hX
      have LA := fun X (hX : TQ w X a b { s with restart := true } s) => tq_la hX
      rw [show lossF { s with restart := true } = lossF s from rfl] at LA
      have LB := fun X (hX : TQ w X a b { s with restart := true } s) => tq_lb hX
      have S2 := fun X (hX : TQ w X a b { s with restart := true } s) => tq_a hX NOW LAT DEL
      have S2b := fun X t (hX : TQ w X a b t s) => tq_b hX NOW LAT 0
      generalize ({ s with restart := true } : Es) = s1 at *
      have S3 := fun X t (hX : TQ w X a b (smpF NOW LAT DEL s1) t) => tq_a hX NOW LAT 0
      generalize smpF NOW LAT DEL s1 = s2 at *
      generalize smpF NOW LAT 0 s = t2 at *
      generalize smpF NOW LAT 0 s2 = s3 at *
      obtain ⟨q1, q2, q3, q4, q5⟩ := rq
      have E2 : viewF s2 = rtc true (sp LAT) (sp LAT) s2.smooth s2.var s2.first := by unfold viewF; rw [hs2.1, hs2.2, q1]; rfl
      have F2 : viewF t2 = rtc true (sp LAT) t2.least s2.smooth s2.var s2.first := by unfold viewF; rw [ht2.1, ht2.2, q2, q3, q4]; rfl
      have E3 : viewF s3 = rtc true (sp LAT) (sp LAT) s3.smooth s3.var s3.first := by unfold viewF; rw [hs3.1, hs3.2, q5]; rfl
      have V2 := fun X (hX : TQ w X a b s2 t2) => tq_va hX
      rw [E2] at V2
      have V2b := fun X (hX : TQ w X a b s2 t2) => tq_vb hX
      rw [F2] at V2b
      have V3 := fun X (hX : TQ w X a b s3 t2) => tq_va hX
      rw [E3] at V3
      clear E2 F2 E3 q1 q2 q3 q4 q5 hs2 ht2 hs3 hv hrs hF T H
      generalize s2.smooth = sm2 at *
      generalize s2.var = va2 at *
      generalize s2.first = fi2 at *
      generalize t2.least = le2 at *
      generalize s3.smooth = sm3 at *
      generalize s3.var = va3 at *
      generalize s3.first = fi3 at *
      generalize baseF s = BA at *
      generalize lossF s = LO at *
      generalize sp LAT = L at *
      unfold rtc at *
      rcases alt with hk1 | ⟨hk1, hk2⟩
      all_goals as_aux_lemma =>
        go_wp2_with fail
        refine V1.mono ?_
        rintro e W2 ⟨rfl, T2, -⟩
        have na := T2.qa.at_.lt
        have nb := T2.qb.at_.lt
        clear V1 hk
        go_wp2_with fail
        refine (R1 _ (T2.keep (World.grownBy_alloc W2 _ none))).mono ?_
        rintro e W4 ⟨rfl, T4, g4⟩
        have B4 := (Blk.new W2 _ _).far g4 (by omega)
        clear T2 g4 R1
        generalize W2.heap.size = c at *
        obtain ⟨x0, x1, x2, x3, x4, x5⟩ := B4.sixes
        have T4d := T4.keep (drewN_grown W4 1)
        have B4d := B4.drewN 1
        go_wp2_with fail
        go_region_held3 (fun X => X.cell? ⟨c, 0, none⟩ = some (.bool h0) ∧ X.cell? ⟨c, 1, none⟩ = some (.int .i64 l0) ∧ X.cell? ⟨c, 2, none⟩ = some (.int .i64 m0) ∧ X.cell? ⟨c, 3, none⟩ = some (.int .i64 s0) ∧ X.cell? ⟨c, 4, none⟩ = some (.int .i64 v0) ∧ X.cell? ⟨c, 5, none⟩ = some (.int .i64 f0)) (go_keep) (first
          | (go_at_call 20; refine (CV _ T4d).mono ?_; rintro e X1 ⟨rfl, T5, g5⟩; have B5 := B4d.grown g5; obtain ⟨y0, y1, y2, y3, y4, y5⟩ := B5.sixes)
          | (go_at_call_of 23 (ptr a); refine (CA _ T5).mono ?_; rintro e X2 ⟨rfl, T6, g6⟩; have B6 := B5.grown g6; obtain ⟨z0, z1, z2, z3, z4, z5⟩ := B6.sixes)
          | (go_at_call_of 23 (ptr b); refine (CB _ T6).mono ?_; rintro e X3 ⟨rfl, T7, g7⟩; have B7 := B6.grown g7; obtain ⟨a0', a1, a2, a3, a4, a5⟩ := B7.sixes)
          | (go_at_call_of 22 (ptr a); refine (LA _ T7).mono ?_; rintro e X4 ⟨rfl, T8, g8⟩; have B8 := B7.grown g8; obtain ⟨b0', b1, b2, b3, b4, b5⟩ := B8.sixes)
          | (go_at_call_of 22 (ptr b); refine (LB _ T8).mono ?_; rintro e X5 ⟨rfl, T9, g9⟩; have B9 := B8.grown g9; obtain ⟨c0', c1', c2', c3', c4', c5'⟩ := B9.sixes))
        clear CV CA CB LA LB T4 T4d B4 B4d x0 x1 x2 x3 x4 x5 T5 g5 B5 y0 y1 y2 y3 y4 y5 T6 g6 B6 z0 z1 z2 z3 z4 z5 T7 g7 B7 a0' a1 a2 a3 a4 a5 T8 g8 B8 b0' b1 b2 b3 b4 b5 g9 B9 c0' c1' c2' c3' c4' c5'
        go_wp2_with fail
        refine (hx _).mono ?_
        rintro e Y0 ⟨rfl, hY0⟩
        replace hY0 := hY0.symm
        subst hY0
        clear hx
        go_wp2_with fail
        refine (S2 _ T9).mono ?_
        rintro e Y1 ⟨rfl, U1, -⟩
        clear S2 T9
        go_wp2_with fail
        refine (S2b _ _ U1).mono ?_
        rintro e Y2 ⟨rfl, U2, -⟩
        clear S2b U1
        go_wp2_with fail
        refine (V2 _ U2).mono ?_
        rintro e Y3 ⟨rfl, U3, -⟩
        clear V2 U2
        have ma := U3.qa.at_.lt
        have mb := U3.qb.at_.lt
        go_wp2_with fail
        refine (V2b _ (U3.keep (World.grownBy_alloc Y3 _ none))).mono ?_
        rintro e Y4 ⟨rfl, U4, g4⟩
        have C4 := (Blk.new Y3 _ _).grown g4
        have C4a := C4.alloc (.cells #[.bool true, .int .i64 L, .int .i64 le2, .int .i64 sm2, .int .i64 va2, .int .i64 fi2] 30)
        have cs := C4a.sixes
        have D4 := Blk.new Y4 #[.bool true, .int .i64 L, .int .i64 le2, .int .i64 sm2, .int .i64 va2, .int .i64 fi2] 30
        have lc := C4.lt
        clear V2b U3 g4 C4
        generalize Y3.heap.size = c1 at *
        obtain ⟨p0, p1, p2, p3, p4, p5⟩ := cs
        have U5 := U4.keep (World.grownBy_alloc Y4 (.cells #[.bool true, .int .i64 L, .int .i64 le2, .int .i64 sm2, .int .i64 va2, .int .i64 fi2] 30) none)
        have ma2 := U4.qa.at_.lt
        clear U4
        go_wp2_with fail
        refine (S3 _ _ U5).mono ?_
        rintro e Y6 ⟨rfl, U6, g6⟩
        have C6 := C4a.far g6 (by omega)
        have D6 := D4.far g6 (by omega)
        clear S3 U5 g6 C4a D4 p0 p1 p2 p3 p4 p5
        generalize Y4.heap.size = d1 at *
        go_wp2_with fail
        refine (V3 _ U6).mono ?_
        rintro e Y7 ⟨rfl, U7, g7⟩
        have C7 := (C6.grown g7).alloc (.cells #[.bool true, .int .i64 L, .int .i64 L, .int .i64 sm3, .int .i64 va3, .int .i64 fi3] 30)
        have D7 := (D6.grown g7).alloc (.cells #[.bool true, .int .i64 L, .int .i64 L, .int .i64 sm3, .int .i64 va3, .int .i64 fi3] 30)
        have E7 := Blk.new Y7 #[.bool true, .int .i64 L, .int .i64 L, .int .i64 sm3, .int .i64 va3, .int .i64 fi3] 30
        have U8 := hide (U7.keep (World.grownBy_alloc Y7 (.cells #[.bool true, .int .i64 L, .int .i64 L, .int .i64 sm3, .int .i64 va3, .int .i64 fi3] 30) none))
        obtain ⟨p0, p1, p2, p3, p4, p5⟩ := C7.sixes
        obtain ⟨r0, r1, r2, r3, r4, r5⟩ := D7.sixes
        clear U6 U7 g7 C6 D6 C7 D7 E7 V3
        go_wp2_with fail
        go_ret
        exact ⟨rfl, (unhide U8).qa.grown⟩
end Go.Proofs.Ytmcodfkmdpbjiaa
