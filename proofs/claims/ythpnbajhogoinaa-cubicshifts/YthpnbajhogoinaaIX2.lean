/- Two controllers, one later than the other. -/
import Derived.Test.YthpnbajhogoinaaIX1
namespace Go.Proofs.Ythpnbajhogoinaa
open Go.RowKit Fl
set_option linter.unusedVariables false
set_option maxRecDepth 100000
set_option maxHeartbeats 1000000

/-- The same, with other times. -/
def re (c b e : Int) (s : Cs) : Cs := { s with clock := c, began := b, ep := e }
theorem re_go (c b e : Int) (g : Nat) (s : Cs) : goF g (re c b e s) = re c b e (goF g s) := rfl
theorem re_gn (c b e : Int) (z : Int) (s : Cs) : gnF z (re c b e s) = gnF z s := rfl
theorem re_sI (c b e : Int) (s : Cs) : sI (re c b e s) = sI s := rfl
theorem re_win (c b e : Int) (g : Nat) (s : Cs) : winF g (re c b e s) = re c b e (winF g s) := rfl
theorem re_tg (c b e : Int) (s : Cs) (h : c - e = s.clock - s.ep) : tgF (re c b e s) = tgF s := by
  show tgtW s.og s.pl (c - e - s.wt) (sI s) s.mtu.toNat = tgtW s.og s.pl (s.clock - s.ep - s.wt) (sI s) s.mtu.toNat
  rw [h]
theorem re_climbG (c b e : Int) (z : Int) (s : Cs) (h : c - e = s.clock - s.ep) : climbG z (re c b e s) = re c b e (climbG z s) := by
  unfold climbG
  rw [re_gn, re_go, re_sI, re_tg c b e (goF (gnF z s) s) (by rw [(go_all (gnF z s) s).2.2.1]; exact h), re_win]
theorem re_begin (c b e : Int) (s : Cs) : beginF (re c b e s) = re c b c (beginF s) := by
  unfold beginF
  rw [re_sI]
  by_cases h : sI s < s.pk
  · rw [if_pos h, if_pos (show sI s < (re c b e s).pk from h)]; rfl
  · rw [if_neg h, if_neg (show ¬ sI s < (re c b e s).pk from h)]; rfl
theorem climb_ep (z : Int) (s : Cs) : (climbF z s).ep = if s.ep < 0 then s.clock else s.ep := by
  have h : ∀ S : Cs, (climbG z S).ep = S.ep := fun S => rfl
  unfold climbF
  rw [h]
  unfold startF beginF
  split
  · split <;> rfl
  · rfl
theorem begin_ep (s : Cs) : (beginF s).ep = s.clock ∧ (beginF s).clock = s.clock := by
  unfold beginF
  split <;> exact ⟨rfl, rfl⟩

/-- d later. -/
structure Sh (d : Int) (s t : Cs) : Prop where
  eq : t = re t.clock t.began t.ep s
  c : t.clock = s.clock + d ∨ (s.clock = 0 ∧ t.clock = 0 ∧ s.began = -1 ∧ s.ep = -1)
  b : (s.began = -1 ∧ t.began = -1) ∨ (0 ≤ s.began ∧ t.began = s.began + d)
  e : (s.ep = -1 ∧ t.ep = -1) ∨ (0 ≤ s.ep ∧ t.ep = s.ep + d)
/-- .. and its clock has been set. -/
structure Sh' (d : Int) (s t : Cs) : Prop where
  eq : t = re t.clock t.began t.ep s
  c : t.clock = s.clock + d
  b : (s.began = -1 ∧ t.began = -1) ∨ (0 ≤ s.began ∧ t.began = s.began + d)
  e : (s.ep = -1 ∧ t.ep = -1) ∨ (0 ≤ s.ep ∧ t.ep = s.ep + d)
theorem Sh'.sh {d : Int} {s t : Cs} (h : Sh' d s t) : Sh d s t := ⟨h.eq, .inl h.c, h.b, h.e⟩
theorem Sh.same {d : Int} {s t : Cs} (h : Sh d s t) : t.mtu = s.mtu ∧ t.size = s.size ∧ t.thr = s.thr ∧ t.flight = s.flight := by
  rw [h.eq]; exact ⟨rfl, rfl, rfl, rfl⟩

theorem sh_tick {d : Int} {s t : Cs} (h : Sh d s t) (hd : 0 ≤ d) (hc : 0 ≤ s.clock) {x : Int} (hx : 0 ≤ x ∧ x < 562949953421312) (hd2 : d < 562949953421312) : Sh' d (tickF x s) (tickF (x + d) t) := by
  have e1 : sp x = x := sp_id (by omega)
  have e2 : sp (x + d) = x + d := sp_id (by omega)
  refine ⟨?_, ?_, h.b, h.e⟩
  · show tickF (x + d) t = re (max t.clock (sp (x + d))) t.began t.ep (tickF x s)
    rw [h.eq]; rfl
  · show max t.clock (sp (x + d)) = max s.clock (sp x) + d
    rw [e1, e2]
    have := h.c
    omega
theorem sh_ahead {d : Int} {s t : Cs} (h : Sh d s t) (hd : 0 ≤ d) {x : Int} (hx : 0 ≤ x ∧ x < 562949953421312) (hd2 : d < 562949953421312) : aheadF (x + d) t ↔ aheadF x s := by
  have e1 : sp x = x := sp_id (by omega)
  have e2 : sp (x + d) = x + d := sp_id (by omega)
  show (0 ≤ t.began ∧ sp (x + d) ≤ t.began) ↔ (0 ≤ s.began ∧ sp x ≤ s.began)
  rw [e1, e2]
  have := h.b
  omega
theorem sh_land {d : Int} {s t : Cs} (h : Sh' d s t) (z : Int) : Sh' d (landF z s) (landF z t) := ⟨by show landF z t = re t.clock t.began t.ep (landF z s); rw [h.eq]; rfl, h.c, h.b, h.e⟩
theorem sh_land0 {d : Int} {s t : Cs} (h : Sh d s t) (z : Int) : Sh d (landF z s) (landF z t) := ⟨by show landF z t = re t.clock t.began t.ep (landF z s); rw [h.eq]; rfl, h.c, h.b, h.e⟩
theorem sh_sent {d : Int} {s t : Cs} (h : Sh d s t) (z : Int) : Sh d (sentF z s) (sentF z t) := ⟨by show sentF z t = re t.clock t.began t.ep (sentF z s); rw [h.eq]; rfl, h.c, h.b, h.e⟩
theorem sh_coll {d : Int} {s t : Cs} (h : Sh d s t) : Sh d (collF s) (collF t) := by
  refine ⟨?_, ?_, .inl ⟨rfl, rfl⟩, .inl ⟨rfl, rfl⟩⟩
  · show collF t = re t.clock (-1) (-1) (collF s)
    rw [h.eq]; rfl
  · rcases h.c with c | ⟨c1, c2, -, -⟩
    · exact .inl c
    · exact .inr ⟨c1, c2, rfl, rfl⟩
theorem sh_climb {d : Int} {s t : Cs} (h : Sh' d s t) (hd : 0 ≤ d) (hc : 0 ≤ s.clock) (z : Int) : Sh' d (climbF z s) (climbF z t) := by
  obtain ⟨-, -, a3, a4, -⟩ := climb_all z s
  obtain ⟨-, -, b3, b4, -⟩ := climb_all z t
  have a6 := climb_ep z s
  have b6 := climb_ep z t
  refine ⟨?_, by rw [a3, b3]; exact h.c, by rw [a4, b4]; exact h.b, ?_⟩
  · rw [b3, b4, b6]
    have e := h.eq
    generalize t.clock = c at *
    generalize t.began = b at *
    generalize t.ep = ep at *
    subst e
    have hc' : c = s.clock + d := h.c
    have he : (s.ep = -1 ∧ ep = -1) ∨ (0 ≤ s.ep ∧ ep = s.ep + d) := h.e
    clear h a6 b6
    unfold climbF startF
    by_cases c0 : s.ep < 0
    · have c1 : ep < 0 := by omega
      rw [if_pos c0, if_pos (show (re c b ep s).ep < 0 from c1), if_pos c1, re_begin, re_climbG c b c z (beginF s) (by rw [(begin_ep s).1, (begin_ep s).2]; omega)]
    · have c1 : ¬ ep < 0 := by omega
      rw [if_neg c0, if_neg (show ¬ (re c b ep s).ep < 0 from c1), if_neg c1, re_climbG c b ep z s (by omega)]
  · rw [a6, b6]
    have := h.c
    have := h.e
    split <;> split <;> omega
theorem sh_raise {d : Int} {s t : Cs} (h : Sh' d s t) (hd : 0 ≤ d) (hc : 0 ≤ s.clock) (z : Int) : Sh' d (raiseF z s) (raiseF z t) := by
  obtain ⟨-, e2, e3, -⟩ := h.sh.same
  unfold raiseF
  by_cases hlt : s.size < s.thr
  · rw [if_pos hlt, if_pos (by rw [e2, e3]; exact hlt)]
    refine ⟨?_, h.c, h.b, h.e⟩
    have e := h.eq
    show ({ t with size := t.size + z } : Cs) = re t.clock t.began t.ep { s with size := s.size + z }
    rw [e]; rfl
  · rw [if_neg hlt, if_neg (by rw [e2, e3]; exact hlt), e2]
    exact sh_climb h hd hc _
theorem sh_ack {d : Int} {s t : Cs} (h : Sh d s t) (hd : 0 ≤ d) (hd2 : d < 562949953421312) (hc : 0 ≤ s.clock) {x y : Int} (hx : 0 ≤ x ∧ x < 562949953421312) (hy : 0 ≤ y ∧ y < 562949953421312) (z : Int) (l : Bool) : Sh d (ackF x y z l s) (ackF (x + d) (y + d) z l t) := by
  have ha := sh_ahead h hd hy hd2
  have h1 := sh_land (sh_tick h hd hc hx hd2) z
  unfold ackF
  by_cases c : l = true ∨ aheadF y s
  · rw [if_pos c, if_pos (c.imp id ha.2)]
    exact h1.sh
  · rw [if_neg c, if_neg (fun k => c (k.imp id ha.1))]
    exact (sh_raise h1 hd (by show 0 ≤ max s.clock (sp x); omega) _).sh
theorem sh_event {d : Int} {s t : Cs} (h : Sh d s t) (hd : 0 ≤ d) (hd2 : d < 562949953421312) (hc : 0 ≤ s.clock) {x y : Int} (hx : 0 ≤ x ∧ x < 562949953421312) (hy : 0 ≤ y ∧ y < 562949953421312) : Sh d (eventF x y s) (eventF (x + d) (y + d) t) := by
  have ha := sh_ahead h hd hy hd2
  have h1 := sh_tick h hd hc hx hd2
  have hc1 : 0 ≤ (tickF x s).clock := by show 0 ≤ max s.clock (sp x); omega
  unfold eventF
  by_cases c : aheadF y s
  · rw [if_pos c, if_pos (ha.2 c)]
    exact h1.sh
  · rw [if_neg c, if_neg (fun k => c (ha.1 k))]
    generalize tickF x s = S at *
    generalize tickF (x + d) t = T at *
    refine ⟨?_, .inl h1.c, .inr ⟨hc1, h1.c⟩, .inl ⟨rfl, rfl⟩⟩
    show leaveF (cutF T) = re T.clock T.clock (-1) (leaveF (cutF S))
    have e := h1.eq
    have ep : peakF T = peakF S := by rw [e]; rfl
    have em : T.mtu = S.mtu ∧ T.size = S.size ∧ T.thr = S.thr ∧ T.flight = S.flight := h1.sh.same
    have eq2 : cutF T = re T.clock T.clock T.ep (cutF S) := by
      unfold cutF re
      rw [ep]
      rw [em.1, em.2.1, em.2.2.2]
      have f1 : T.og = S.og ∧ T.wt = S.wt ∧ T.pl = S.pl ∧ T.pt = S.pt := by rw [e]; exact ⟨rfl, rfl, rfl, rfl⟩
      rw [f1.1, f1.2.1, f1.2.2.1, f1.2.2.2]
    rw [eq2]
    rfl
/-- A step leaves them so. -/
theorem sh_does {d : Int} {s t : Cs} (h : Sh d s t) (hd : 0 ≤ d) (hd2 : d < 562949953421312) (hc : 0 ≤ s.clock) (y : OpE) : Sh d (doesF (laterF 0 y) s) (doesF (laterF d y) t) ∧ didF (laterF d y) t = didF (laterF 0 y) s := by
  have hx : 0 ≤ sp y.now % 562949953421312 + 0 ∧ sp y.now % 562949953421312 + 0 < 562949953421312 := by omega
  have hy : 0 ≤ sp y.sent % 562949953421312 + 0 ∧ sp y.sent % 562949953421312 + 0 < 562949953421312 := by omega
  have e1 : (laterF d y).now = (sp y.now % 562949953421312 + 0) + d := by show sp y.now % 562949953421312 + d = _; omega
  have e2 : (laterF d y).sent = (sp y.sent % 562949953421312 + 0) + d := by show sp y.sent % 562949953421312 + d = _; omega
  have f1 : (laterF 0 y).now = sp y.now % 562949953421312 + 0 := rfl
  have f2 : (laterF 0 y).sent = sp y.sent % 562949953421312 + 0 := rfl
  constructor
  · unfold doesF
    rw [e1, e2, f1, f2]
    generalize sp y.now % 562949953421312 + 0 = X at *
    generalize sp y.sent % 562949953421312 + 0 = Y at *
    rw [show (laterF d y).kind = y.kind from rfl, show (laterF d y).size = y.size from rfl, show (laterF d y).lim = y.lim from rfl, show (laterF 0 y).kind = y.kind from rfl, show (laterF 0 y).size = y.size from rfl, show (laterF 0 y).lim = y.lim from rfl]
    split
    · exact sh_sent h _
    split
    · exact sh_ack h hd hd2 hc hx hy _ _
    split
    · exact sh_land0 h _
    split
    · exact sh_land0 h _
    split
    · exact sh_event h hd hd2 hc hx hy
    split
    · exact sh_coll h
    · exact h
  · unfold didF
    rw [e2, f2]
    rw [show (laterF d y).kind = y.kind from rfl, show (laterF 0 y).kind = y.kind from rfl]
    split
    · have := sh_ahead h hd hy hd2
      unfold aheadB
      rw [decide_eq_decide.2 this]
    · rfl
end Go.Proofs.Ythpnbajhogoinaa
