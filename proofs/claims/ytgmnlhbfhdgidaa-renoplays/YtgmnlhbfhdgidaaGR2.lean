/- The document's controller, at place 0 of two. -/
import Derived.Test.YtgmnlhbfhdgidaaGR
import Derived.Deep.DeepCutAuto
import Derived.LoopIn
namespace Go.Proofs.Ytgmnlhbfhdgidaa
open Go.RowKit
set_option linter.unusedVariables false
set_option maxRecDepth 100000
set_option maxHeartbeats 4000000

/-- How far the rising has come. -/
structure VpI0 (w wr : World) (b : Nat) (s S : Cs) (k : Nat) (r z : Int) : Prop where
  at_ : RB wr b (({ s with size := z, rest := r })) S
  grown : w.grownBy wr (some b)
  fin : upF s.mtu k (r, z) = riseF s.mtu s.rest s.size
  kb : r < k
  r0 : 0 ≤ r
  z0 : 2 * s.mtu ≤ z
  sum : r + z ≤ s.rest + s.size
theorem VpI0.step {w wr : World} {b : Nat} {s S : Cs} {k : Nat} {r z : Int} (hm : 1200 ≤ s.mtu ∧ s.mtu ≤ 9000) (h : VpI0 w wr b s S (k + 1) r z) (hl : z ≤ r) :
    VpI0 w ((wr.setCell ⟨b, 2, none⟩ (.int .i64 (r - z))).setCell ⟨b, 3, none⟩ (.int .i64 (z + s.mtu))) b s S k (r - z) (z + s.mtu) := by
  have z0 := h.z0
  have kb := h.kb
  have sm := h.sum
  refine ⟨?_, grown_at (grown_at h.grown 2 _) 3 _, ?_, by omega, by omega, by omega, by omega⟩
  · exact Blk.setC (Blk.setC h.at_ 2 (.int .i64 (r - z))) 3 (.int .i64 (z + s.mtu))
  · rw [← h.fin, upF_step s.mtu k (r, z) hl]
theorem VpI0.draw {w wr : World} {b : Nat} {s S : Cs} {k : Nat} {r z : Int} (h : VpI0 w wr b s S k r z) (q : Nat) : VpI0 w (wr.drewN q) b s S k r z :=
  ⟨h.at_, grown_drewS h.grown q, h.fin, h.kb, h.r0, h.z0, h.sum⟩

theorem racked_0 (b : Nat) (s0 S : Cs) (now sent x : Int) (l : Bool) (w : World) (h : RB w b s0 S) (hi : inB s0) :
    Calls Try.prog 30 #[ptrO b 0, .int .i64 now, .int .i64 sent, .int .i64 x, .bool l] w fun e w' => e = .returned (.tuple #[]) ∧ RB w' b (ackF now sent x l s0) S ∧ w.grownBy w' (some b) := by
  have hn := time_any now
  have hs := fun W q => time_any sent (World.drewN W q)
  have hz := size_any x
  obtain ⟨z1, z2⟩ := szb x
  have GO := fun W hW => rgone_0 b (tickF now s0) S x W hW hi.2.1
  have ET : Hid (tickF now s0 = { s0 with clock := max s0.clock (sp now) }) := rfl
  have E1 : Hid (l = true ∨ aheadB sent s0 = true → ackF now sent x l s0 = landF x (tickF now s0)) := fun hc => by
    unfold ackF
    rw [if_pos (hc.imp id fun hb => of_decide_eq_true hb)]
  have E2 : Hid (l = false → aheadB sent s0 = false → ackF now sent x l s0 = raiseF (szz x) (landF x (tickF now s0))) := fun h1 h2 => by
    unfold ackF
    rw [if_neg]
    rintro (h | h)
    · rw [h1] at h; cases h
    · exact of_decide_eq_false h2 h
  have A0 : Hid (aheadB sent s0 = decide (0 ≤ s0.began ∧ sp sent ≤ s0.began)) := rfl
  have X1 : (landF x (tickF now s0)).began = s0.began ∧ (landF x (tickF now s0)).mtu = s0.mtu ∧ (landF x (tickF now s0)).size = s0.size ∧ (landF x (tickF now s0)).rest = s0.rest ∧ (landF x (tickF now s0)).thr = s0.thr := ⟨rfl, rfl, rfl, rfl, rfl⟩
  obtain ⟨⟨m1, m2⟩, -, ⟨y1, y2⟩, ⟨r1, r2⟩⟩ := hi
  obtain ⟨t, -, c1, -, -, -, -, -⟩ := h.full0
  have h0 : RB ((w.setCell ⟨b, 1, none⟩ (.int .i64 (max s0.clock (sp now)))).drew) b (tickF now s0) S := (Blk.setC h 1 _).drew
  have g0 : w.grownBy ((w.setCell ⟨b, 1, none⟩ (.int .i64 (max s0.clock (sp now)))).drew) (some b) := drewS (grown_at (World.grownBy.refl w (some b)) 1 (.int .i64 (max s0.clock (sp now))))
  generalize hC0 : max s0.clock (sp now) = C at *
  have H0 := hide h0
  have G0 := hide g0
  have HC : Hid (C = max s0.clock (sp now)) := hC0.symm
  clear h h0 g0 hC0 ET
  generalize ackF now sent x l s0 = S1 at *
  generalize aheadB sent s0 = B1 at *
  generalize landF x (tickF now s0) = s at *
  generalize tickF now s0 = s1 at *
  generalize hN : sp now = N at *
  generalize hc : s0.clock = c at *
  obtain ⟨x1, x2, x3, x4, x5⟩ := X1
  rw [← x1] at A0
  rw [← x2] at m1 m2 y1
  rw [← x3] at y1 y2 r2
  rw [← x4] at y2 r1 r2
  clear x1 x2 x3 x4 x5
  go_enter Try.func30, Try.ntmps30
  go_upto_region 0 with fail
  go_cut [] (fun wc => wc = (w.setCell ⟨b, 1, none⟩ (.int .i64 C)).drew)
  case first =>
    by_cases hlt : c < N
    · obtain rfl : C = N := (by have := unhide HC; omega)
      go_region_with (go_at_call 24; refine (hn _).mono ?_; rintro e W ⟨rfl, rfl⟩)
      all_goals go_wp2_with fail
      all_goals go_meet
      all_goals rfl
    · obtain rfl : C = c := (by have := unhide HC; omega)
      go_region_with (go_at_call 24; refine (hn _).mono ?_; rintro e W ⟨rfl, rfl⟩)
      all_goals go_wp2_with fail
      all_goals go_meet
      all_goals rfl
  case rest =>
    subst hcut
    generalize (w.setCell ⟨b, 1, none⟩ (.int .i64 C)).drew = W0 at *
    have hG := GO W0 (unhide H0)
    clear t c1 HC H0 GO hn hN hc
    go_wp2_with fail
    refine hG.mono ?_
    rintro e W1 ⟨rfl, hR, g1⟩
    have G1 := hide (gtrans (unhide G0) g1)
    have R1 := hide hR
    clear hG G0 g1
    obtain ⟨t, c0, -, c2, c3, c4, -, c6⟩ := hR.full0
    clear hR
    replace hs := hs W1
    generalize sp sent = T at *
    go_upto_region 2 with fail
    go_cut [41] (fun v wc => ∃ q, v = .bool (l || B1) ∧ wc = W1.drewN q)
    case first =>
      generalize s.began = bg at *
      cases l with
      | true =>
        go_quiet (exact Calls.quiet_of_same (hs _))
        go_wp2_with fail
        go_meet
        exact ⟨_, rfl, rfl⟩
      | false =>
        by_cases h1 : 0 ≤ bg
        · by_cases h2 : T ≤ bg
          · have A1 : Hid ((false || B1) = true) := by show (false || B1) = true; rw [unhide A0]; simp [h1, h2]
            go_quiet (exact Calls.quiet_of_same (hs _))
            go_wp2_with fail
            go_meet
            exact ⟨_, by rw [unhide A1], rfl⟩
          · have A1 : Hid ((false || B1) = false) := by show (false || B1) = false; rw [unhide A0]; simp; omega
            have hd : decide (T ≤ bg) = false := decide_eq_false h2
            go_quiet (exact Calls.quiet_of_same (hs _))
            go_wp2_with fail
            go_meet
            exact ⟨_, by rw [unhide A1], rfl⟩
        · have A1 : Hid ((false || B1) = false) := by show (false || B1) = false; rw [unhide A0]; simp; omega
          have hd : decide (0 ≤ bg) = false := decide_eq_false h1
          go_quiet (exact Calls.quiet_of_same (hs _))
          go_wp2_with fail
          go_meet
          exact ⟨_, by rw [unhide A1], rfl⟩
    case rest =>
      obtain ⟨q, hv, hcut⟩ := hcut
      subst hv hcut
      have R2 := hide (show RB (W1.drewN q) b (s) S from unhide R1)
      have G2 := hide (grown_drewS (unhide G1) q)
      clear R1 G1 A0 hs
      generalize W1.drewN q = W2 at *
      cases hP : (l || B1) with
      | true =>
        have ES : Hid (S1 = s) := by
          refine unhide E1 ?_
          cases l with
          | true => exact .inl rfl
          | false => exact .inr (by simpa using hP)
        clear E1 E2 t c0 c2 c3 c4 c6
        go_wp2_with fail
        refine bodyPost_ret (results_none rfl _ _ _) rfl ?_
        exact ⟨rfl, by rw [unhide ES]; exact unhide R2, unhide G2⟩
      | false =>
        have ES : Hid (S1 = raiseF (szz x) s) := by
          refine unhide E2 ?_ ?_
          · cases l with
            | true => simp at hP
            | false => rfl
          · cases B1 with
            | true => simp at hP
            | false => rfl
        clear E1 E2 t c0 c2 c3 c4 c6 hP
        obtain ⟨t, c0, -, c2, c3, c4, -, -⟩ := (unhide R2).full0
        generalize szz x = z at *
        by_cases hlt : s.size < s.thr
        · have F := hide (And.intro (show ∀ q, RB ((W2.drewN q).setCell ⟨b, 3, none⟩ (.int .i64 (s.size + z))) b (S1) S from fun q => by rw [unhide ES]; unfold raiseF; rw [if_pos hlt]; exact Blk.setC (w := W2.drewN q) (unhide R2) 3 _) (fun q => grown_at (grown_drewS (unhide G2) q) 3 (.int .i64 (s.size + z))))
          clear ES R2 G2
          generalize s.size = y at *
          generalize s.thr = th at *
          have hw : IntKind.i64.wrap (y + z) = y + z := by rw [IntKind.wrap_i64]; omega
          go_wp2_with fail
          go_quiet (fail)
          go_wp2_with fail
          go_region_with (go_at_call 22; refine (hz _).mono ?_; rintro e W ⟨rfl, rfl⟩)
          all_goals go_wp2_with fail
          all_goals refine bodyPost_ret (results_none rfl _ _ _) rfl ?_
          all_goals exact ⟨rfl, (unhide F).1 _, (unhide F).2 _⟩
        · have R : Hid (S1 = { s with size := (riseF s.mtu (s.rest + z) s.size).2, rest := (riseF s.mtu (s.rest + z) s.size).1 }) := by rw [unhide ES]; unfold raiseF; rw [if_neg hlt]; exact rfl
          have S0 : Hid (∀ q, VpI0 w (((W2.drewN q).setCell ⟨b, 2, none⟩ (.int .i64 (s.rest + z)))) b { s with rest := s.rest + z } S ((s.rest + z).toNat + 1) (s.rest + z) s.size) := fun q =>
            ⟨Blk.setC (w := W2.drewN q) (unhide R2) 2 _, grown_at (grown_drewS (unhide G2) q) 2 (.int .i64 (s.rest + z)), rfl, by omega, by omega, y1, Int.le_refl _⟩
          clear ES R2 G2
          have hw : IntKind.i64.wrap (s.rest + z) = s.rest + z := by rw [IntKind.wrap_i64]; omega
          go_wp2_with fail
          go_quiet (fail)
          go_wp2_with fail
          go_cut [] (fun wc => ∃ q, wc = (W2.drewN q).setCell ⟨b, 2, none⟩ (.int .i64 (s.rest + z)))
          case first =>
            go_region_with (go_at_call 22; refine (hz _).mono ?_; rintro e W ⟨rfl, rfl⟩)
            all_goals go_wp2_with fail
            all_goals go_meet
            all_goals exact ⟨_, rfl⟩
          case rest =>
            obtain ⟨q, hcut⟩ := hcut
            subst hcut
            replace S0 := hide (unhide S0 q)
            generalize (W2.drewN q).setCell ⟨b, 2, none⟩ (.int .i64 (s.rest + z)) = W3 at *
            clear t c0 c2 c3 c4
            go_wp2_with fail
            go_loopw [] (fun wr => ∃ (k : Nat) (r z' : Int), Hid (VpI0 w wr b { s with rest := s.rest + z } S k r z')) (fun wr => (intOf ((wr.cell? ⟨b, 2, none⟩).getD (.int .i64 0))).toNat)
            case atStart => exact ⟨_, _, _, S0⟩
            case round =>
              clear S0
              obtain ⟨k, r, y, H⟩ := hrel
              have u := unhide H
              obtain ⟨t, c0, -, c2, c3, -, -, -⟩ := u.at_.full0
              have kb := u.kb
              have r0 := u.r0
              have z0 := u.z0
              have sm := u.sum
              simp only at c0 c2 c3 sm z0
              by_cases hl : y ≤ r
              · obtain ⟨k, rfl⟩ : ∃ k', k = k' + 1 := ⟨k - 1, by omega⟩
                have ST := hide (fun q => VpI0.step (s := { s with rest := s.rest + z }) ⟨m1, m2⟩ (u.draw q) hl)
                clear u H
                have w1 : IntKind.i64.wrap (r - y) = r - y := by rw [IntKind.wrap_i64]; omega
                have w2 : IntKind.i64.wrap (y + s.mtu) = y + s.mtu := by rw [IntKind.wrap_i64]; omega
                go_wp2_with fail
                go_quiet (fail)
                go_wp2_with fail
                go_region
                go_wp2_with fail
                go_region
                go_wp2_with fail
                have c2' := (unhide ST (nq + 1 + 1)).at_.cell 2 _ rfl
                go_roundw
                case rel => exact ⟨k, r - y, y + s.mtu, unhide ST (nq + 1 + 1)⟩
                case measure =>
                  have e1 : ∀ W : World, W.cell? ⟨b, 2, none⟩ = some (.int .i64 (r - y)) → (intOf ((W.cell? ⟨b, 2, none⟩).getD (.int .i64 0))).toNat < (intOf ((wr.cell? ⟨b, 2, none⟩).getD (.int .i64 0))).toNat := by
                    intro W hW
                    rw [hW, c2]
                    simp [intOf]
                    omega
                  exact e1 _ c2'
              · have E := u.fin
                rw [upF_end _ _ _ (by show r < y; omega)] at E
                have F := hide (fun q => And.intro (u.draw q).at_ (u.draw q).grown)
                clear u H
                go_wp2_with fail
                go_quiet (fail)
                go_wp2_with fail
                refine bodyPost_end (results_none rfl _ _ _) rfl ?_
                refine ⟨rfl, ?_, (unhide F _).2⟩
                rw [unhide R, show riseF s.mtu (s.rest + z) s.size = (r, y) from E.symm]
                exact (unhide F _).1
end Go.Proofs.Ytgmnlhbfhdgidaa
