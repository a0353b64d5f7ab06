/- The program's functions: Acked, Event, New. -/
import Derived.Test.YtgmnlhbfhdgidaaGC
namespace Go.Proofs.Ytgmnlhbfhdgidaa
open Go.RowKit
set_option linter.unusedVariables false
set_option maxRecDepth 100000
set_option maxHeartbeats 4000000

theorem setCell_far {w : World} {b j k : Nat} {v : Value} (hk : k ≠ j) : (w.setCell ⟨b, j, none⟩ v).cell? ⟨b, k, none⟩ = w.cell? ⟨b, k, none⟩ := by
  simp only [World.setCell, World.cell?, Array.getElem?_modify, if_true]
  cases hh : w.heap[b]? with
  | none => simp
  | some o => cases o <;> simp [Ne.symm hk]
abbrev inB (s : Cs) : Prop := (1200 ≤ s.mtu ∧ s.mtu ≤ 9000) ∧ (0 ≤ s.flight ∧ s.flight ≤ 1000000000000) ∧ (2 * s.mtu ≤ s.size ∧ s.size + s.rest ≤ 1000000000000) ∧ (0 ≤ s.rest ∧ s.rest < s.size)
theorem ok_in {n : Nat} {s : Cs} (h : s.Ok n) (hn : n ≤ 1000000) : inB s := ⟨h.m, ⟨h.f.1, by have := h.f.2; omega⟩, ⟨h.z.1, by have := h.z.2; omega⟩, h.r⟩

theorem ahead_land (t now z : Int) (s : Cs) : aheadB t (landF z (tickF now s)) = aheadB t s := rfl
theorem ahead_tick (t now : Int) (s : Cs) : aheadB t (tickF now s) = aheadB t s := rfl

theorem acked_any (b : Nat) (s : Cs) (now sent x : Int) (l : Bool) (w : World) (h : CB w b s) (hi : inB s) :
    Calls Try.prog 21 #[ptr b, .int .i64 now, .int .i64 sent, .int .i64 x, .bool l] w fun e w' => e = .returned (.tuple #[]) ∧ CB w' b (ackF now sent x l s) ∧ w.grownBy w' (some b) := by
  have T := tick_any b s now w h
  have L := fun W hW => land_any b (tickF now s) x W hW hi.2.1
  have A := fun W hW => ahead_any b (landF x (tickF now s)) sent W hW
  rw [ahead_land] at A
  have Z := amount_any x
  have R := fun W hW => raise_any b (landF x (tickF now s)) (szz x) W hW (szb x) hi.1 hi.2.2.1 hi.2.2.2
  have E1 : Hid (l = true ∨ aheadB sent s = true → ackF now sent x l s = landF x (tickF now s)) := fun hc => by
    unfold ackF
    rw [if_pos (hc.imp id fun hb => of_decide_eq_true hb)]
  have E2 : Hid (l = false → aheadB sent s = false → ackF now sent x l s = raiseF (szz x) (landF x (tickF now s))) := fun h1 h2 => by
    unfold ackF
    rw [if_neg]
    rintro (h | h)
    · rw [h1] at h; cases h
    · exact of_decide_eq_false h2 h
  clear h hi
  generalize raiseF (szz x) (landF x (tickF now s)) = s3 at *
  generalize landF x (tickF now s) = s2 at *
  generalize tickF now s = s1 at *
  generalize szz x = z at *
  generalize aheadB sent s = a at *
  go_enter Try.func21, Try.ntmps21
  go_wp2_with fail
  refine T.mono ?_
  rintro e W1 ⟨rfl, h1, g1⟩
  clear T
  go_wp2_with fail
  refine (L W1 h1).mono ?_
  rintro e W2 ⟨rfl, h2, g2⟩
  have g12 := hide (gtrans g1 g2)
  clear L h1 g1 g2
  cases l with
  | true =>
    have E := hide (unhide E1 (.inl rfl))
    clear A Z R E1 E2
    go_wp2_with fail
    refine bodyPost_end (results_none rfl _ _ _) rfl ?_
    exact ⟨rfl, by rw [unhide E]; exact h2, unhide g12⟩
  | false =>
    cases a with
    | true =>
      have E := hide (unhide E1 (.inr rfl))
      clear Z R E1 E2
      go_wp2_with fail
      refine (A W2 h2).mono ?_
      rintro e W3 ⟨rfl, g3⟩
      have h3 := h2.grown g3
      have g13 := hide (gtrans (unhide g12) (grown_any g3 b))
      clear A h2 g12 g3
      go_wp2_with fail
      refine bodyPost_end (results_none rfl _ _ _) rfl ?_
      exact ⟨rfl, by rw [unhide E]; exact h3, unhide g13⟩
    | false =>
      have E := hide (unhide E2 rfl rfl)
      clear E1 E2
      go_wp2_with fail
      refine (A W2 h2).mono ?_
      rintro e W3 ⟨rfl, g3⟩
      have h3 := h2.grown g3
      have g13 := hide (gtrans (unhide g12) (grown_any g3 b))
      clear A h2 g12 g3
      go_wp2_with fail
      refine (Z _).mono ?_
      rintro e W4 ⟨rfl, hW⟩
      replace hW := hW.symm
      subst hW
      go_wp2_with fail
      refine (R _ h3).mono ?_
      rintro e W5 ⟨rfl, h5, g5⟩
      have g15 := hide (gtrans (unhide g13) g5)
      clear R Z h3 g13 g5
      go_wp2_with fail
      refine bodyPost_end (results_none rfl _ _ _) rfl ?_
      exact ⟨rfl, by rw [unhide E]; exact h5, unhide g15⟩

theorem event_any (b : Nat) (s : Cs) (now sent : Int) (w : World) (h : CB w b s) (hi : inB s) :
    Calls Try.prog 20 #[ptr b, .int .i64 now, .int .i64 sent] w fun e w' => e = .returned (.bool (!aheadB sent s)) ∧ CB w' b (eventF now sent s) ∧ w.grownBy w' (some b) := by
  have T := tick_any b s now w h
  have A := fun W hW => ahead_any b (tickF now s) sent W hW
  rw [ahead_tick] at A
  have L := fun (s2 : Cs) W hW (h2 : s2.mtu = s.mtu) => least_any b s2 W hW (h2 ▸ hi.1)
  have hz := hi.2.2.1
  have hr := hi.2.2.2
  have hm := hi.1
  cases ha : aheadB sent s with
  | true =>
    have E : Hid (eventF now sent s = tickF now s) := by
      show _ = _
      unfold eventF
      rw [if_pos (of_decide_eq_true ha)]
    rw [unhide E]
    rw [ha] at A
    clear h hi L E
    go_enter Try.func20, Try.ntmps20
    go_wp2_with fail
    refine T.mono ?_
    rintro e W1 ⟨rfl, h1, g1⟩
    clear T
    go_wp2_with fail
    refine (A W1 h1).mono ?_
    rintro e W2 ⟨rfl, g2⟩
    have h2 := h1.grown g2
    have g12 := hide (gtrans g1 (grown_any g2 b))
    clear A h1 g1 g2
    go_wp2_with fail
    go_ret
    exact ⟨rfl, h2, unhide g12⟩
  | false =>
    have E : Hid (eventF now sent s = { s with clock := max s.clock (sp now), began := max s.clock (sp now), thr := s.size / 2, size := max (s.size / 2) (2 * s.mtu), rest := 0 }) := by
      show _ = _
      unfold eventF
      rw [if_neg (of_decide_eq_false ha)]
    generalize eventF now sent s = S at *
    rw [ha] at A
    clear hi
    go_enter Try.func20, Try.ntmps20
    go_wp2_with fail
    refine T.mono ?_
    rintro e W1 ⟨rfl, h1, g1⟩
    clear T h
    go_wp2_with fail
    refine (A W1 h1).mono ?_
    rintro e W2 ⟨rfl, g2⟩
    have h2 := h1.grown g2
    have g12 := gtrans g1 (grown_any g2 b)
    clear A h1 g1 g2
    have h3 : CB ((W2.setCell ⟨b, 5, none⟩ (.int .i64 (max s.clock (sp now)))).setCell ⟨b, 3, none⟩ (.int .i64 (s.size / 2))) b { s with clock := max s.clock (sp now), began := max s.clock (sp now), thr := s.size / 2 } := Blk.setC (Blk.setC h2 5 _) 3 _
    have L' := L _ _ (Blk.drew h3) rfl
    have F := hide (And.intro (show CB ((((W2.setCell ⟨b, 5, none⟩ (.int .i64 (max s.clock (sp now)))).setCell ⟨b, 3, none⟩ (.int .i64 (s.size / 2))).setCell ⟨b, 2, none⟩ (.int .i64 (max (s.size / 2) (2 * s.mtu)))).setCell ⟨b, 6, none⟩ (.int .i64 0)).drew b S from by rw [unhide E]; exact (Blk.setC (Blk.setC h3 2 _) 6 _).drew) (drewS (grown_at (grown_at (grown_at (grown_at g12 5 (.int .i64 (max s.clock (sp now)))) 3 (.int .i64 (s.size / 2))) 2 (.int .i64 (max (s.size / 2) (2 * s.mtu)))) 6 (.int .i64 0))))
    obtain ⟨t, c0, c1, c2, c3, c4, c5, c6⟩ := h2.full
    simp only [tickF] at c0 c1 c2 c3 c4 c5 c6
    clear h3 g12 L h2 E
    generalize s.clock = cl at *
    generalize max cl (sp now) = C at *
    generalize s.size = z at *
    obtain ⟨z1, z2⟩ := hz
    obtain ⟨r1, r2⟩ := hr
    obtain ⟨m1, m2⟩ := hm
    by_cases hlt : z / 2 < 2 * s.mtu
    · have M : max (z / 2) (2 * s.mtu) = 2 * s.mtu := by omega
      rw [M] at F
      go_wp2_with fail
      go_region_with (go_at_call 28; refine L'.mono ?_; rintro e W ⟨rfl, rfl⟩)
      all_goals go_wp2_with fail
      all_goals go_ret
      all_goals exact ⟨rfl, (unhide F).1, (unhide F).2⟩
    · have M : max (z / 2) (2 * s.mtu) = z / 2 := by omega
      rw [M] at F
      go_wp2_with fail
      go_region_with (go_at_call 28; refine L'.mono ?_; rintro e W ⟨rfl, rfl⟩)
      all_goals go_wp2_with fail
      all_goals go_ret
      all_goals exact ⟨rfl, (unhide F).1, (unhide F).2⟩
end Go.Proofs.Ytgmnlhbfhdgidaa
