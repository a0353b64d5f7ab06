/- The document's should, at place o; what links the two. -/
import Derived.Test.YthpnbajhogoinaaI2E
namespace Go.Proofs.Ythpnbajhogoinaa
open Go.RowKit Fl
set_option linter.unusedVariables false
set_option maxRecDepth 100000
set_option maxHeartbeats 4000000

def rdoesF (y : OpE) (s : Cs) : Cs :=
  if y.kind = 1 then sentF y.size s
  else if y.kind = 2 then ackF y.now y.sent y.size y.lim s
  else if y.kind = 3 then landF y.size s
  else if y.kind = 4 then landF y.size s
  else if y.kind = 5 then reventF y.now y.sent s
  else if y.kind = 6 then rcollF s
  else s
theorem rleave_ok {n : Nat} {s : Cs} (h : s.Ok n) : (rleaveF s).Ok n :=
  ⟨h.m, h.c, h.z, h.f, h.b, by have := h.c.1; exact ⟨Int.le_refl _, by show -1 ≤ s.clock; omega⟩, h.p, h.o, h.w, h.l, fun k => by simp [rleaveF] at k, Nat.zero_le _⟩
theorem revent_ok {n : Nat} {s : Cs} (h : s.Ok n) (hn : n ≤ 10000) (now sent : Int) : (reventF now sent s).Ok n := by
  unfold reventF
  split
  · exact tick_ok h now
  · exact rleave_ok (cut_ok (tick_ok h now) hn)
theorem rcoll_ok {n : Nat} {s : Cs} (h : s.Ok n) : (rcollF s).Ok n := by
  have hs := h.z
  have hm := h.m
  have hc := h.c
  refine rleave_ok (s := { s with size := 2 * s.mtu, began := -1 }) ?_
  exact ⟨h.m, h.c, by show 2 * s.mtu ≤ 2 * s.mtu ∧ 2 * s.mtu ≤ _; omega, h.f, by show -1 ≤ (-1 : Int) ∧ (-1 : Int) ≤ s.clock; omega, h.e, h.p, h.o, h.w, h.l, h.l0, h.t⟩
theorem rdoes_ok {n : Nat} {s : Cs} (h : s.Ok n) (hn : n ≤ 9999) (y : OpE) : (rdoesF y s).Ok (n + 1) := by
  unfold rdoesF
  have u := Nat.le_succ n
  split
  · exact sent_ok h _
  split
  · exact ack_ok h hn _ _ _ _
  split
  · exact (land_ok h _).up u
  split
  · exact (land_ok h _).up u
  split
  · exact (revent_ok h (by omega) _ _).up u
  split
  · exact (rcoll_ok h).up u
  · exact h.up u

/-- The document's and the program's: where no curve goes on the document's keeps what it had. -/
structure Lk (s r : Cs) : Prop where
  eq : r = { s with og := r.og, wt := r.wt, pl := r.pl }
  on : s.ep = -1 ∨ r = s
theorem Lk.refl (s : Cs) : Lk s s := ⟨rfl, .inr rfl⟩
theorem Lk.view {s r : Cs} (h : Lk s r) : vwc r = vwc s ∧ r.flight = s.flight ∧ r.size = s.size ∧ r.began = s.began := by
  rw [h.eq]; exact ⟨rfl, rfl, rfl, rfl⟩
theorem lk_map {s r : Cs} (h : Lk s r) (f : Cs → Cs) (hf : ∀ (x : Cs) (o : Nat) (t : Int) (p : Nat), f { x with og := o, wt := t, pl := p } = { f x with og := o, wt := t, pl := p }) (he : (f s).ep = s.ep) : Lk (f s) (f r) := by
  have e := hf s r.og r.wt r.pl
  rw [← h.eq] at e
  refine ⟨?_, ?_⟩
  · rw [e]
  · rcases h.on with c | c
    · exact .inl (he.trans c)
    · exact .inr (by rw [c])
theorem lk_tick {s r : Cs} (h : Lk s r) (t : Int) : Lk (tickF t s) (tickF t r) := lk_map h (tickF t) (fun _ _ _ _ => rfl) rfl
theorem lk_land {s r : Cs} (h : Lk s r) (z : Int) : Lk (landF z s) (landF z r) := lk_map h (landF z) (fun _ _ _ _ => rfl) rfl
theorem lk_sent {s r : Cs} (h : Lk s r) (z : Int) : Lk (sentF z s) (sentF z r) := lk_map h (sentF z) (fun _ _ _ _ => rfl) rfl
theorem begin_lk (s : Cs) (o : Nat) (t : Int) (p : Nat) : beginF { s with og := o, wt := t, pl := p } = beginF s := by
  unfold beginF
  rw [show sI { s with og := o, wt := t, pl := p } = sI s from rfl]
theorem lk_start {s r : Cs} {n : Nat} (h : Lk s r) (ok : s.Ok n) : startF r = startF s := by
  have he := ok.e
  have ee : r.ep = s.ep := by rw [h.eq]
  unfold startF
  rw [ee]
  by_cases c : s.ep < 0
  · rw [if_pos c, if_pos c, h.eq]
    exact begin_lk s _ _ _
  · rw [if_neg c, if_neg c]
    rcases h.on with k | k
    · omega
    · exact k
theorem lk_raise {s r : Cs} {n : Nat} (h : Lk s r) (ok : s.Ok n) (z : Int) : Lk (raiseF z s) (raiseF z r) := by
  obtain ⟨-, -, e1, -⟩ := h.view
  have e2 : r.thr = s.thr := by rw [h.eq]
  unfold raiseF
  by_cases c : s.size < s.thr
  · rw [if_pos c, if_pos (by rw [e1, e2]; exact c)]
    exact lk_map h (fun x => { x with size := x.size + z }) (fun _ _ _ _ => rfl) rfl
  · rw [if_neg c, if_neg (by rw [e1, e2]; exact c), e1, climbF_eq, climbF_eq, lk_start h ok]
    exact Lk.refl _
theorem lk_ahead {s r : Cs} (h : Lk s r) (t : Int) : aheadF t r ↔ aheadF t s := by
  obtain ⟨-, -, -, e⟩ := h.view
  show (0 ≤ r.began ∧ sp t ≤ r.began) ↔ _
  rw [e]
theorem lk_ack {s r : Cs} {n : Nat} (h : Lk s r) (ok : s.Ok n) (now sent z : Int) (l : Bool) : Lk (ackF now sent z l s) (ackF now sent z l r) := by
  have ha := lk_ahead h sent
  have h1 := lk_land (lk_tick h now) z
  unfold ackF
  by_cases c : l = true ∨ aheadF sent s
  · rw [if_pos c, if_pos (c.imp id ha.2)]; exact h1
  · rw [if_neg c, if_neg (fun k => c (k.imp id ha.1))]
    exact lk_raise h1 (land_ok (tick_ok ok now) z) _
theorem lk_event {s r : Cs} (h : Lk s r) (now sent : Int) : Lk (eventF now sent s) (reventF now sent r) := by
  have ha := lk_ahead h sent
  have h1 := lk_tick h now
  unfold eventF reventF
  by_cases c : aheadF sent s
  · rw [if_pos c, if_pos (ha.2 c)]; exact h1
  · rw [if_neg c, if_neg (fun k => c (ha.1 k))]
    have e := h1.eq
    generalize tickF now s = x at *
    generalize tickF now r = y at *
    have ep : peakF y = peakF x := by rw [e]; rfl
    have e2 : rleaveF (cutF y) = { leaveF (cutF x) with og := y.og, wt := y.wt, pl := y.pl } := by
      unfold rleaveF cutF leaveF
      rw [ep]
      have f : y.mtu = x.mtu ∧ y.clock = x.clock ∧ y.size = x.size ∧ y.flight = x.flight := by rw [e]; exact ⟨rfl, rfl, rfl, rfl⟩
      rw [f.1, f.2.1, f.2.2.1, f.2.2.2]
    exact ⟨by rw [e2], .inl rfl⟩
theorem lk_coll {s r : Cs} (h : Lk s r) : Lk (collF s) (rcollF r) := by
  have e := h.eq
  have e2 : rcollF r = { collF s with og := r.og, wt := r.wt, pl := r.pl } := by
    unfold rcollF collF leaveF
    have f : r.mtu = s.mtu ∧ r.clock = s.clock ∧ r.thr = s.thr ∧ r.flight = s.flight ∧ r.pk = s.pk := by rw [e]; exact ⟨rfl, rfl, rfl, rfl, rfl⟩
    rw [f.1, f.2.1, f.2.2.1, f.2.2.2.1, f.2.2.2.2]
  exact ⟨by rw [e2], .inl rfl⟩
theorem lk_does {s r : Cs} {n : Nat} (h : Lk s r) (ok : s.Ok n) (y : OpE) : Lk (doesF y s) (rdoesF y r) ∧ didF y r = didF y s := by
  constructor
  · unfold doesF rdoesF
    split
    · exact lk_sent h _
    split
    · exact lk_ack h ok _ _ _ _
    split
    · exact lk_land h _
    split
    · exact lk_land h _
    split
    · exact lk_event h _ _
    split
    · exact lk_coll h
    · exact h
  · unfold didF
    split
    · unfold aheadB
      rw [decide_eq_decide.2 (lk_ahead h _)]
    · rfl

theorem should_any (b o p : Nat) (s S : Cs) (y : OpE) (w : World) (h : RB w b o p s S) (hs0 : Sep o p) (n : Nat) (ok : s.Ok n) (hn : n ≤ 9999) :
    Calls Try.prog 16 #[ptrO b o, .agg (opc y)] w fun e w' => e = .returned (.bool (didF y s)) ∧ RB w' b o p (rdoesF y s) S ∧ w.grownBy w' (some b) := by
  have ga := World.grownBy_alloc w (.cells (opc y) 40) (some b)
  have h0 : RB (w.alloc (.cells (opc y) 40)) b o p s S := h.grown (World.grownBy_alloc w _ none)
  have hf : 0 ≤ s.flight ∧ s.flight ≤ 1000000000000 := ⟨ok.f.1, by have := ok.f.2; omega⟩
  have X1 := rsent_any b o p s S y.size _ h0 hs0 hf
  have X2 := racked_any b o p s S y.now y.sent y.size y.lim _ h0 hs0 n ok hn
  have X3 := rgone_any b o p s S y.size _ h0 hs0 hf
  have X4 := rgone_any b o p s S y.size _ h0 hs0 hf
  have X5 := revent_any b o p s S y.now y.sent _ h0 hs0 n ok hn
  have X6 := rcoll_any b o p s S _ h0 hs0 ok.m
  have H0 := hide h0
  have GA := hide ga
  have GT := hide (fun W (g : (w.alloc (.cells (opc y) 40)).grownBy W (some b)) => gtrans ga g)
  clear h ok hf hn h0 ga
  obtain ⟨kd, hh, nw, st, sx, lm⟩ := y
  unfold opc at *
  dsimp only at *
  by_cases k1 : kd = 1
  · subst k1
    have E : Hid (didF ⟨1, hh, nw, st, sx, lm⟩ s = false) := by show _ = _; simp [didF]
    have D : Hid (rdoesF ⟨1, hh, nw, st, sx, lm⟩ s = sentF sx s) := by show _ = _; simp [rdoesF]
    clear X2 X3 X4 X5 X6
    go_enter Try.func16, Try.ntmps16
    go_wp2_with fail
    refine X1.mono ?_
    rintro e W ⟨rfl, h1, g1⟩
    have FF := hide (And.intro h1 (unhide GT _ g1))
    clear X1 h1 g1
    go_wp2_with fail
    go_ret
    exact ⟨ret_beqq E, by rw [unhide D]; exact (unhide FF).1, (unhide FF).2⟩
  by_cases k2 : kd = 2
  · subst k2
    have E : Hid (didF ⟨2, hh, nw, st, sx, lm⟩ s = false) := by show _ = _; simp [didF]
    have D : Hid (rdoesF ⟨2, hh, nw, st, sx, lm⟩ s = ackF nw st sx lm s) := by show _ = _; simp [rdoesF]
    clear X1 X3 X4 X5 X6
    go_enter Try.func16, Try.ntmps16
    go_wp2_with fail
    refine X2.mono ?_
    rintro e W ⟨rfl, h1, g1⟩
    have FF := hide (And.intro h1 (unhide GT _ g1))
    clear X2 h1 g1
    go_wp2_with fail
    go_ret
    exact ⟨ret_beqq E, by rw [unhide D]; exact (unhide FF).1, (unhide FF).2⟩
  by_cases k3 : kd = 3
  · subst k3
    have E : Hid (didF ⟨3, hh, nw, st, sx, lm⟩ s = false) := by show _ = _; simp [didF]
    have D : Hid (rdoesF ⟨3, hh, nw, st, sx, lm⟩ s = landF sx s) := by show _ = _; simp [rdoesF]
    clear X1 X2 X4 X5 X6
    go_enter Try.func16, Try.ntmps16
    go_wp2_with fail
    refine X3.mono ?_
    rintro e W ⟨rfl, h1, g1⟩
    have FF := hide (And.intro h1 (unhide GT _ g1))
    clear X3 h1 g1
    go_wp2_with fail
    go_ret
    exact ⟨ret_beqq E, by rw [unhide D]; exact (unhide FF).1, (unhide FF).2⟩
  by_cases k4 : kd = 4
  · subst k4
    have E : Hid (didF ⟨4, hh, nw, st, sx, lm⟩ s = false) := by show _ = _; simp [didF]
    have D : Hid (rdoesF ⟨4, hh, nw, st, sx, lm⟩ s = landF sx s) := by show _ = _; simp [rdoesF]
    clear X1 X2 X3 X5 X6
    go_enter Try.func16, Try.ntmps16
    go_wp2_with fail
    refine X4.mono ?_
    rintro e W ⟨rfl, h1, g1⟩
    have FF := hide (And.intro h1 (unhide GT _ g1))
    clear X4 h1 g1
    go_wp2_with fail
    go_ret
    exact ⟨ret_beqq E, by rw [unhide D]; exact (unhide FF).1, (unhide FF).2⟩
  by_cases k5 : kd = 5
  · subst k5
    have E : Hid (didF ⟨5, hh, nw, st, sx, lm⟩ s = !aheadB st s) := by show _ = _; simp [didF]
    have D : Hid (rdoesF ⟨5, hh, nw, st, sx, lm⟩ s = reventF nw st s) := by show _ = _; simp [rdoesF]
    clear X1 X2 X3 X4 X6
    go_enter Try.func16, Try.ntmps16
    go_wp2_with fail
    refine X5.mono ?_
    rintro e W ⟨rfl, h1, g1⟩
    have FF := hide (And.intro h1 (unhide GT _ g1))
    clear X5 h1 g1
    go_wp2_with fail
    go_ret
    exact ⟨ret_beqq E, by rw [unhide D]; exact (unhide FF).1, (unhide FF).2⟩
  by_cases k6 : kd = 6
  · subst k6
    have E : Hid (didF ⟨6, hh, nw, st, sx, lm⟩ s = false) := by show _ = _; simp [didF]
    have D : Hid (rdoesF ⟨6, hh, nw, st, sx, lm⟩ s = rcollF s) := by show _ = _; simp [rdoesF]
    clear X1 X2 X3 X4 X5
    go_enter Try.func16, Try.ntmps16
    go_wp2_with fail
    refine X6.mono ?_
    rintro e W ⟨rfl, h1, g1⟩
    have FF := hide (And.intro h1 (unhide GT _ g1))
    clear X6 h1 g1
    go_wp2_with fail
    go_ret
    exact ⟨ret_beqq E, by rw [unhide D]; exact (unhide FF).1, (unhide FF).2⟩
  have E : Hid (didF ⟨kd, hh, nw, st, sx, lm⟩ s = false) := by show _ = _; simp [didF, k5]
  have D : Hid (rdoesF ⟨kd, hh, nw, st, sx, lm⟩ s = s) := by show _ = _; simp [rdoesF, k1, k2, k3, k4, k5, k6]
  clear X1 X2 X3 X4 X5 X6
  go_enter Try.func16, Try.ntmps16
  go_wp2_with fail
  go_ret
  exact ⟨ret_beqq E, by rw [unhide D]; exact unhide H0, unhide GA⟩
end Go.Proofs.Ythpnbajhogoinaa
