/- What a step leaves, by numbers. -/
import Derived.Test.YthpnbajhogoinaaIS
import Derived.LoopIn
namespace Go.Proofs.Ythpnbajhogoinaa
open Go.RowKit Fl
set_option linter.unusedVariables false
set_option maxRecDepth 100000
set_option maxHeartbeats 1000000

theorem go_all (g : Nat) (s : Cs) : (goF g s).mtu = s.mtu ∧ (goF g s).flight = s.flight ∧ (goF g s).clock = s.clock ∧ (goF g s).began = s.began ∧ (goF g s).thr = s.thr ∧ (goF g s).size = s.size ∧ (goF g s).pk = s.pk := ⟨rfl, rfl, rfl, rfl, rfl, rfl, rfl⟩
theorem win_all (g : Nat) (s : Cs) : (winF g s).mtu = s.mtu ∧ (winF g s).flight = s.flight ∧ (winF g s).clock = s.clock ∧ (winF g s).began = s.began ∧ (winF g s).thr = s.thr ∧ (winF g s).size = s.size + (whole (addW s.pt g) : Int) ∧ (winF g s).pk = s.pk := ⟨rfl, rfl, rfl, rfl, rfl, rfl, rfl⟩
theorem start_all (s : Cs) : (startF s).mtu = s.mtu ∧ (startF s).flight = s.flight ∧ (startF s).clock = s.clock ∧ (startF s).began = s.began ∧ (startF s).thr = s.thr ∧ (startF s).size = s.size ∧ (startF s).pk = s.pk := by
  unfold startF beginF
  split
  · split <;> exact ⟨rfl, rfl, rfl, rfl, rfl, rfl, rfl⟩
  · exact ⟨rfl, rfl, rfl, rfl, rfl, rfl, rfl⟩
theorem climb_all (z : Int) (s : Cs) : (climbF z s).mtu = s.mtu ∧ (climbF z s).flight = s.flight ∧ (climbF z s).clock = s.clock ∧ (climbF z s).began = s.began ∧ (climbF z s).thr = s.thr := by
  unfold climbF climbG
  obtain ⟨a1, a2, a3, a4, a5, -⟩ := win_all (moreW (tgF (goF (gnF z (startF s)) (startF s))) (sI (startF s)) z.toNat) (goF (gnF z (startF s)) (startF s))
  obtain ⟨b1, b2, b3, b4, b5, -⟩ := go_all (gnF z (startF s)) (startF s)
  obtain ⟨c1, c2, c3, c4, c5, -⟩ := start_all s
  exact ⟨a1.trans (b1.trans c1), a2.trans (b2.trans c2), a3.trans (b3.trans c3), a4.trans (b4.trans c4), a5.trans (b5.trans c5)⟩
theorem climb_size {n : Nat} {s : Cs} (h : s.Ok n) (hn : n ≤ 9999) {z : Int} (hz : 0 ≤ z ∧ z ≤ 65535 ∧ z ≤ s.size) : s.size ≤ (climbF z s).size ∧ 2 * ((climbF z s).size - s.size) ≤ z + 2 := by
  have hs := start_ok h (by omega)
  have e := (start_sz s).1
  have hz' : 0 ≤ z ∧ z ≤ 65535 ∧ z ≤ (startF s).size := by rw [e]; exact hz
  have hg := go_ok hs hn (gn_le hs (by omega) hz')
  have hm := more_b hs hn (gnF z (startF s)) ⟨hz.1, hz.2.1⟩
  have hb := (win_b hg (by omega) hm).2.1
  have a := (win_all (moreW (tgF (goF (gnF z (startF s)) (startF s))) (sI (startF s)) z.toNat) (goF (gnF z (startF s)) (startF s))).2.2.2.2.2.1
  rw [(go_all (gnF z (startF s)) (startF s)).2.2.2.2.2.1, e] at a
  have a' : (climbF z s).size = s.size + _ := a
  rw [a']
  clear a a' hm hg hs
  generalize whole _ = q at *
  omega
theorem raise_mtu (z : Int) (s : Cs) : (raiseF z s).mtu = s.mtu ∧ (raiseF z s).flight = s.flight ∧ (raiseF z s).clock = s.clock ∧ (raiseF z s).began = s.began ∧ (raiseF z s).thr = s.thr := by
  unfold raiseF
  split
  · exact ⟨rfl, rfl, rfl, rfl, rfl⟩
  · exact climb_all _ _
theorem ack_mtu (now sent z : Int) (l : Bool) (s : Cs) : (ackF now sent z l s).mtu = s.mtu ∧ (ackF now sent z l s).flight = max (s.flight - szz z) 0 ∧ (ackF now sent z l s).clock = max s.clock (sp now) ∧ (ackF now sent z l s).began = s.began ∧ (ackF now sent z l s).thr = s.thr := by
  unfold ackF
  split
  · exact ⟨rfl, rfl, rfl, rfl, rfl⟩
  · exact raise_mtu _ (landF z (tickF now s))
theorem event_mtu (now sent : Int) (s : Cs) : (eventF now sent s).mtu = s.mtu ∧ (eventF now sent s).flight = s.flight ∧ (eventF now sent s).clock = max s.clock (sp now) := by unfold eventF; split <;> exact ⟨rfl, rfl, rfl⟩
theorem does_mtu (y : OpE) (s : Cs) : (doesF y s).mtu = s.mtu := by
  unfold doesF
  split
  · rfl
  split
  · exact (ack_mtu _ _ _ _ _).1
  split
  · rfl
  split
  · rfl
  split
  · exact (event_mtu _ _ _).1
  split <;> rfl
/-- How an acknowledgement raises it. -/
theorem ack_size {n : Nat} {s : Cs} (h : s.Ok n) (hn : n ≤ 9999) (now sent z : Int) (l : Bool) : s.size ≤ (ackF now sent z l s).size ∧ (s.size < (ackF now sent z l s).size → l = false ∧ ((s.size < s.thr ∧ (ackF now sent z l s).size - s.size = szz z) ∨ (¬ s.size < s.thr ∧ 2 * ((ackF now sent z l s).size - s.size) ≤ szz z + 2))) := by
  have hz := szb z
  unfold ackF
  split
  · exact ⟨Int.le_refl _, fun h => absurd h (Int.lt_irrefl _)⟩
  · rename_i hc
    have hl : l = false := by cases l; rfl; exact absurd (.inl rfl) hc
    have ok := land_ok (tick_ok h now) z
    have e1 : (landF z (tickF now s)).size = s.size := rfl
    have e2 : (landF z (tickF now s)).thr = s.thr := rfl
    rw [← e1, ← e2]
    generalize landF z (tickF now s) = S at *
    unfold raiseF
    split
    · rename_i hlt
      exact ⟨by show S.size ≤ S.size + szz z; omega, fun _ => ⟨hl, .inl ⟨hlt, by show S.size + szz z - S.size = szz z; omega⟩⟩⟩
    · rename_i hlt
      have hm := ok.m
      have hs := ok.z
      obtain ⟨c1, c2⟩ := climb_size ok hn (z := min (szz z) S.size) (by omega)
      exact ⟨c1, fun _ => ⟨hl, .inr ⟨hlt, by omega⟩⟩⟩

theorem does_alt {n : Nat} {s : Cs} (h : s.Ok n) (hn : n ≤ 9999) (y : OpE) :
    (didF y s = true ∧ (doesF y s).thr = 7 * s.size / 10 ∧ (doesF y s).flight = s.flight ∧ ((7 * s.size / 10 < 2 * s.mtu ∧ (doesF y s).size = 2 * s.mtu ∧ 2 * s.mtu < s.size) ∨ (7 * s.size / 10 < 2 * s.mtu ∧ (doesF y s).size = 2 * s.mtu ∧ s.size = 2 * s.mtu) ∨ (¬ 7 * s.size / 10 < 2 * s.mtu ∧ (doesF y s).size = 7 * s.size / 10 ∧ 7 * s.size / 10 < s.size))) ∨
    (didF y s = false ∧ (((doesF y s).size < s.size ∧ y.kind = 6 ∧ ¬ s.flight < (doesF y s).flight) ∨ (¬ (doesF y s).size < s.size ∧ s.flight < (doesF y s).flight ∧ y.kind = 1 ∧ ¬ s.size < (doesF y s).size) ∨ (¬ (doesF y s).size < s.size ∧ ¬ s.flight < (doesF y s).flight ∧ ¬ s.size < (doesF y s).size) ∨ (¬ (doesF y s).size < s.size ∧ ¬ s.flight < (doesF y s).flight ∧ s.size < (doesF y s).size ∧ y.kind = 2 ∧ y.lim = false ∧ s.size < s.thr ∧ (doesF y s).size - s.size = szz y.size) ∨ (¬ (doesF y s).size < s.size ∧ ¬ s.flight < (doesF y s).flight ∧ s.size < (doesF y s).size ∧ y.kind = 2 ∧ y.lim = false ∧ ¬ s.size < s.thr ∧ 2 * ((doesF y s).size - s.size) ≤ szz y.size + 2))) := by
  have hz := h.z
  have hm := h.m
  have hf := h.f
  unfold doesF didF
  by_cases k1 : y.kind = 1
  · right
    have := szb y.size
    refine ⟨by simp [k1], ?_⟩
    rw [if_pos k1]
    by_cases c : s.flight < (sentF y.size s).flight
    · exact .inr (.inl ⟨Int.lt_irrefl _, c, k1, Int.lt_irrefl _⟩)
    · exact .inr (.inr (.inl ⟨Int.lt_irrefl _, c, Int.lt_irrefl _⟩))
  by_cases k2 : y.kind = 2
  · right
    have a1 := (ack_mtu y.now y.sent y.size y.lim s).2.1
    obtain ⟨a2, a3⟩ := ack_size h hn y.now y.sent y.size y.lim
    have := szb y.size
    refine ⟨by simp [k2], .inr (.inr ?_)⟩
    rw [if_neg k1, if_pos k2]
    by_cases c : s.size < (ackF y.now y.sent y.size y.lim s).size
    · right
      obtain ⟨l, d⟩ := a3 c
      rcases d with ⟨d1, d2⟩ | ⟨d1, d2⟩
      · exact .inl ⟨by omega, by omega, c, k2, l, d1, d2⟩
      · exact .inr ⟨by omega, by omega, c, k2, l, d1, d2⟩
    · exact .inl ⟨by omega, by omega, c⟩
  by_cases k3 : y.kind = 3
  · right
    have := szb y.size
    refine ⟨by simp [k3], .inr (.inr (.inl ?_))⟩
    rw [if_neg k1, if_neg k2, if_pos k3]
    exact ⟨Int.lt_irrefl _, by show ¬ s.flight < max (s.flight - szz y.size) 0; omega, Int.lt_irrefl _⟩
  by_cases k4 : y.kind = 4
  · right
    have := szb y.size
    refine ⟨by simp [k4], .inr (.inr (.inl ?_))⟩
    rw [if_neg k1, if_neg k2, if_neg k3, if_pos k4]
    exact ⟨Int.lt_irrefl _, by show ¬ s.flight < max (s.flight - szz y.size) 0; omega, Int.lt_irrefl _⟩
  by_cases k5 : y.kind = 5
  · rw [if_neg k1, if_neg k2, if_neg k3, if_neg k4, if_pos k5, if_pos k5]
    cases ha : aheadB y.sent s with
    | true =>
      right
      refine ⟨rfl, .inr (.inr (.inl ?_))⟩
      unfold eventF
      rw [if_pos (of_decide_eq_true ha)]
      exact ⟨Int.lt_irrefl _, Int.lt_irrefl _, Int.lt_irrefl _⟩
    | false =>
      left
      unfold eventF
      rw [if_neg (of_decide_eq_false ha)]
      refine ⟨rfl, rfl, rfl, ?_⟩
      have e : (leaveF (cutF (tickF y.now s))).size = max (7 * s.size / 10) (2 * s.mtu) := rfl
      rw [e]
      omega
  by_cases k6 : y.kind = 6
  · right
    rw [if_neg k1, if_neg k2, if_neg k3, if_neg k4, if_neg k5, if_pos k6, if_neg k5]
    refine ⟨rfl, ?_⟩
    have e : (collF s).size = 2 * s.mtu := rfl
    have e2 : (collF s).flight = s.flight := rfl
    rw [e, e2]
    by_cases c : 2 * s.mtu < s.size
    · exact .inl ⟨c, k6, Int.lt_irrefl _⟩
    · exact .inr (.inr (.inl ⟨c, Int.lt_irrefl _, by omega⟩))
  · right
    rw [if_neg k1, if_neg k2, if_neg k3, if_neg k4, if_neg k5, if_neg k6, if_neg k5]
    exact ⟨rfl, .inr (.inr (.inl ⟨Int.lt_irrefl _, Int.lt_irrefl _, Int.lt_irrefl _⟩))⟩

/-- Behind a cut at the last moment nothing but the flight and the clock turns. -/
theorem does_once {s : Cs} (hb : s.began = 1125899906842624) (y : OpE) (hk : y.kind ≠ 6) : didF y s = false ∧ (doesF y s).size = s.size ∧ (doesF y s).thr = s.thr ∧ (doesF y s).began = s.began := by
  have ha : ∀ t, aheadF t s := fun t => ⟨by omega, by rw [hb]; exact (sp_b t).2⟩
  have hB : ∀ t, aheadB t s = true := fun t => decide_eq_true (ha t)
  unfold doesF didF
  refine ⟨by split <;> simp [hB], ?_⟩
  split
  · exact ⟨rfl, rfl, rfl⟩
  split
  · unfold ackF; rw [if_pos (.inr (ha _))]; exact ⟨rfl, rfl, rfl⟩
  split
  · exact ⟨rfl, rfl, rfl⟩
  split
  · exact ⟨rfl, rfl, rfl⟩
  split
  · unfold eventF; rw [if_pos (ha _)]; exact ⟨rfl, rfl, rfl⟩
  · exact ⟨rfl, rfl, rfl⟩
theorem last_event {n : Nat} {s : Cs} (h : s.Ok n) : (eventF 1125899906842624 1125899906842624 s).began = 1125899906842624 := by
  have hc := h.c
  have hb := h.b
  have e : sp 1125899906842624 = 1125899906842624 := by decide
  unfold eventF
  split
  · rename_i ha
    have := ha.2
    rw [e] at this
    show s.began = _
    omega
  · show max s.clock (sp 1125899906842624) = _
    omega
end Go.Proofs.Ythpnbajhogoinaa
