/- What a step leaves, by numbers. -/
import Derived.Test.YtgmnlhbfhdgidaaGI
import Derived.LoopIn
namespace Go.Proofs.Ytgmnlhbfhdgidaa
open Go.RowKit
set_option linter.unusedVariables false
set_option maxRecDepth 100000
set_option maxHeartbeats 1000000

theorem raise_mtu (z : Int) (s : Cs) : (raiseF z s).mtu = s.mtu ∧ (raiseF z s).flight = s.flight ∧ (raiseF z s).clock = s.clock ∧ (raiseF z s).began = s.began ∧ (raiseF z s).thr = s.thr := by unfold raiseF; split <;> exact ⟨rfl, rfl, rfl, rfl, rfl⟩
theorem ack_mtu (now sent z : Int) (l : Bool) (s : Cs) : (ackF now sent z l s).mtu = s.mtu ∧ (ackF now sent z l s).flight = max (s.flight - szz z) 0 ∧ (ackF now sent z l s).clock = max s.clock (sp now) ∧ (ackF now sent z l s).began = s.began ∧ (ackF now sent z l s).thr = s.thr := by
  unfold ackF
  split
  · exact ⟨rfl, rfl, rfl, rfl, rfl⟩
  · exact raise_mtu _ _
theorem event_mtu (now sent : Int) (s : Cs) : (eventF now sent s).mtu = s.mtu ∧ (eventF now sent s).flight = s.flight ∧ (eventF now sent s).clock = max s.clock (sp now) := by unfold eventF; split <;> exact ⟨rfl, rfl, rfl⟩
theorem does_mtu (y : OpE) (s : Cs) : (doesF y s).mtu = s.mtu := by
  unfold doesF
  split
  · rfl
  split
  · exact (ack_mtu _ _ _ _ _).1
  split
  · rfl
  split
  · rfl
  split
  · exact (event_mtu _ _ _).1
  split <;> rfl
theorem raise_size {n : Nat} {s : Cs} (h : s.Ok n) (z : Int) (hz : 0 ≤ z) : s.size ≤ (raiseF z s).size := by
  have hm := h.m
  have hr := h.r
  unfold raiseF
  split
  · show s.size ≤ s.size + z; omega
  · exact (rise_ok (m := s.mtu) (r := s.rest + z) (s := s.size) (by omega) h.z.1 (by omega)).2.2.1
theorem ack_size {n : Nat} {s : Cs} (h : s.Ok n) (now sent z : Int) (l : Bool) : s.size ≤ (ackF now sent z l s).size := by
  unfold ackF
  split
  · exact Int.le_refl _
  · exact raise_size (land_ok (tick_ok h now) z) _ (szb z).1

theorem does_alt {n : Nat} {s : Cs} (h : s.Ok n) (y : OpE) :
    (cutF y s = true ∧ (doesF y s).thr = s.size / 2 ∧ (doesF y s).flight = s.flight ∧ ((s.size / 2 < 2 * s.mtu ∧ (doesF y s).size = 2 * s.mtu ∧ 2 * s.mtu < s.size) ∨ (s.size / 2 < 2 * s.mtu ∧ (doesF y s).size = 2 * s.mtu ∧ s.size = 2 * s.mtu) ∨ (¬ s.size / 2 < 2 * s.mtu ∧ (doesF y s).size = s.size / 2 ∧ s.size / 2 < s.size))) ∨
    (cutF y s = false ∧ (((doesF y s).size < s.size ∧ y.kind = 6 ∧ ¬ s.flight < (doesF y s).flight) ∨ (¬ (doesF y s).size < s.size ∧ s.flight < (doesF y s).flight ∧ y.kind = 1) ∨ (¬ (doesF y s).size < s.size ∧ ¬ s.flight < (doesF y s).flight))) := by
  have hz := h.z
  have hm := h.m
  have hf := h.f
  unfold doesF cutF
  by_cases k1 : y.kind = 1
  · right
    have := szb y.size
    refine ⟨by simp [k1], ?_⟩
    rw [if_pos k1]
    by_cases c : s.flight < (sentF y.size s).flight
    · exact .inr (.inl ⟨Int.lt_irrefl _, c, k1⟩)
    · exact .inr (.inr ⟨Int.lt_irrefl _, c⟩)
  by_cases k2 : y.kind = 2
  · right
    have a1 := (ack_mtu y.now y.sent y.size y.lim s).2.1
    have a2 := ack_size h y.now y.sent y.size y.lim
    have := szb y.size
    refine ⟨by simp [k2], .inr (.inr ?_)⟩
    rw [if_neg k1, if_pos k2]
    omega
  by_cases k3 : y.kind = 3
  · right
    have := szb y.size
    refine ⟨by simp [k3], .inr (.inr ?_)⟩
    rw [if_neg k1, if_neg k2, if_pos k3]
    exact ⟨Int.lt_irrefl _, by show ¬ s.flight < max (s.flight - szz y.size) 0; omega⟩
  by_cases k4 : y.kind = 4
  · right
    have := szb y.size
    refine ⟨by simp [k4], .inr (.inr ?_)⟩
    rw [if_neg k1, if_neg k2, if_neg k3, if_pos k4]
    exact ⟨Int.lt_irrefl _, by show ¬ s.flight < max (s.flight - szz y.size) 0; omega⟩
  by_cases k5 : y.kind = 5
  · rw [if_neg k1, if_neg k2, if_neg k3, if_neg k4, if_pos k5, if_pos k5]
    cases ha : aheadB y.sent s with
    | true =>
      right
      refine ⟨rfl, .inr (.inr ?_)⟩
      unfold eventF
      rw [if_pos (of_decide_eq_true ha)]
      exact ⟨Int.lt_irrefl _, Int.lt_irrefl _⟩
    | false =>
      left
      unfold eventF
      rw [if_neg (of_decide_eq_false ha)]
      refine ⟨rfl, rfl, rfl, ?_⟩
      simp only
      omega
  by_cases k6 : y.kind = 6
  · right
    rw [if_neg k1, if_neg k2, if_neg k3, if_neg k4, if_neg k5, if_pos k6, if_neg k5]
    refine ⟨rfl, ?_⟩
    by_cases c : (collF s).size < s.size
    · exact .inl ⟨c, k6, Int.lt_irrefl _⟩
    · exact .inr (.inr ⟨c, Int.lt_irrefl _⟩)
  · right
    rw [if_neg k1, if_neg k2, if_neg k3, if_neg k4, if_neg k5, if_neg k6, if_neg k5]
    exact ⟨rfl, .inr (.inr ⟨Int.lt_irrefl _, Int.lt_irrefl _⟩)⟩

/-- Behind a cut at the last moment nothing but the flight and the clock turns. -/
theorem does_once {s : Cs} (hb : s.began = 1125899906842624) (y : OpE) (hk : y.kind ≠ 6) : cutF y s = false ∧ (doesF y s).size = s.size ∧ (doesF y s).thr = s.thr ∧ (doesF y s).began = s.began := by
  have ha : ∀ t, aheadF t s := fun t => ⟨by omega, by rw [hb]; exact (sp_b t).2⟩
  have hB : ∀ t, aheadB t s = true := fun t => decide_eq_true (ha t)
  unfold doesF cutF
  refine ⟨by split <;> simp [hB], ?_⟩
  split
  · exact ⟨rfl, rfl, rfl⟩
  split
  · unfold ackF; rw [if_pos (.inr (ha _))]; exact ⟨rfl, rfl, rfl⟩
  split
  · exact ⟨rfl, rfl, rfl⟩
  split
  · exact ⟨rfl, rfl, rfl⟩
  split
  · unfold eventF; rw [if_pos (ha _)]; exact ⟨rfl, rfl, rfl⟩
  · exact ⟨rfl, rfl, rfl⟩
theorem tick0 {n : Nat} {s : Cs} (h : s.Ok n) : tickF 0 s = s := by
  have hc := h.c
  unfold tickF
  rw [show max s.clock (sp 0) = s.clock by unfold sp; omega]
theorem ack_lim {n : Nat} {s : Cs} (h : s.Ok n) (sent z : Int) : ackF 0 sent z true s = landF z s := by
  unfold ackF
  rw [if_pos (.inl rfl), tick0 h]
theorem last_event {n : Nat} {s : Cs} (h : s.Ok n) : (eventF 1125899906842624 1125899906842624 s).began = 1125899906842624 := by
  have hc := h.c
  have hb := h.b
  have e : sp 1125899906842624 = 1125899906842624 := by decide
  unfold eventF
  split
  · rename_i ha
    have := ha.2
    rw [e] at this
    show s.began = _
    omega
  · show max s.clock (sp 1125899906842624) = _
    omega
end Go.Proofs.Ytgmnlhbfhdgidaa
