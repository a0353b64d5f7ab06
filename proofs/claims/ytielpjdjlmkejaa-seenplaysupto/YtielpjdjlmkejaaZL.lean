/- Take. -/
import Derived.Test.YtielpjdjlmkejaaZK
namespace Go.Proofs.Ytielpjdjlmkejaa
open Go.RowKit
set_option linter.unusedVariables false
set_option maxHeartbeats 2000000
set_option maxRecDepth 100000

def arrF (n mark : Int) (s : Sn) : Arr := ⟨s.space, n, s.largest, mark, decide (s.due ≠ never)⟩
def w1F (n : Int) (el : Bool) (mark : Int) (s : Sn) : Sn := if el then waitF (arrF n mark s) s else s
def topF (n : Int) (s : Sn) : Sn := if s.largest < n then { s with largest := n, came := s.clock } else s
def tookF (n : Int) (el : Bool) (mark : Int) (s : Sn) : Sn := { keepF n (countF mark (topF n (w1F n el mark s))) with any := true }
def takeF (now n : Int) (el : Bool) (mark : Int) (s : Sn) : Sn := if freshF (goF now s) n then tookF n el mark (goF now s) else goF now s

theorem topF_L (n : Int) (s : Sn) : (topF n s).L = s.L ∧ (topF n s).c0 = s.c0 ∧ (topF n s).c2 = s.c2 := by unfold topF; split <;> exact ⟨rfl, rfl, rfl⟩
theorem w1F_L (n : Int) (el : Bool) (mark : Int) (s : Sn) : (w1F n el mark s).L = s.L ∧ (w1F n el mark s).c0 = s.c0 ∧ (w1F n el mark s).c2 = s.c2 ∧ (w1F n el mark s).largest = s.largest ∧ (w1F n el mark s).clock = s.clock := by unfold w1F; split <;> exact ⟨rfl, rfl, rfl, rfl, rfl⟩

structure TakeOk (s : Sn) (n : Int) : Prop where
  ok : Ok s.L
  ok1 : Ok (addS 0 n n s.L)
  clock : 0 ≤ s.clock ∧ s.clock ≤ 1125899906842624
  delay : 0 ≤ s.delay ∧ s.delay ≤ 68719476736
  large : -1 ≤ s.largest ∧ s.largest ≤ 4611686018427387904
  c0 : 0 ≤ s.c0 ∧ s.c0 < 9223372036854775807
  c2 : 0 ≤ s.c2 ∧ s.c2 < 9223372036854775807

theorem bounds_of {s : Sn} {n : Int} (h : freshF s n = true) (hf : -1 ≤ s.floor) : 0 ≤ n ∧ n ≤ 4611686018427387903 := by
  unfold freshF at h
  simp only [Bool.and_eq_true, decide_eq_true_eq] at h
  omega

theorem stale_any (b bs : Nat) (v : Value) (s : Sn) (now n mark : Int) (el : Bool) (w : World) (h : SN w b bs v s) (hL : Ok s.L) (hfr : freshF (goF now s) n = false) :
    Calls Try.prog 13 #[ptr b, .int .i64 now, .int .i64 n, .bool el, .int .i64 mark] w fun e w' => e = .returned (.bool false) ∧ To b bs v w (goF now s) w' := by
  have hgo := goOn_any b bs v s now w h
  have HL := hide hL
  have HF := hide hfr
  clear h hL hfr
  go_enter Try.func13, Try.ntmps13
  go_wp2_with fail
  refine hgo.mono ?_
  rintro e W1 ⟨rfl, h1, k1⟩
  have hf := fresh_any b bs v (goF now s) n W1 h1 (unhide HL)
  rw [unhide HF] at hf
  have T := hide (And.intro h1 k1)
  clear hgo h1 k1
  go_wp2_with fail
  refine hf.mono ?_
  rintro e W2 ⟨rfl, g2⟩
  have G := hide g2
  clear hf g2
  go_wp2_with fail
  go_ret
  exact ⟨rfl, To.of ((unhide T).1.grown (unhide G)) ((unhide T).2.trans (Kp.grown (unhide G) _))⟩

theorem take_nl (b bs : Nat) (v : Value) (s : Sn) (now n mark : Int) (w : World) (h : SN w b bs v s) (hok : TakeOk (goF now s) n) (hfr : freshF (goF now s) n = true) (hn : 0 ≤ n ∧ n ≤ 4611686018427387903) (hgt : ¬ s.largest < n) :
    Calls Try.prog 13 #[ptr b, .int .i64 now, .int .i64 n, .bool false, .int .i64 mark] w fun e w' => e = .returned (.bool true) ∧ To b bs v w (tookF n false mark (goF now s)) w' := by
  have hgo := goOn_any b bs v s now w h
  have HOK := hide hok
  have HF := hide hfr
  have hgt0 : ¬ (goF now s).largest < n := hgt
  clear h hok hfr hgt
  generalize goF now s = s0 at *
  go_enter Try.func13, Try.ntmps13
  go_wp2_with fail
  refine hgo.mono ?_
  rintro e W1 ⟨rfl, h1, k1⟩
  have hf := fresh_any b bs v s0 n W1 h1 (unhide HOK).ok
  rw [unhide HF] at hf
  have T := hide (And.intro h1 k1)
  clear hgo h1 k1
  go_wp2_with fail
  refine hf.mono ?_
  rintro e W2 ⟨rfl, g2⟩
  have h2 := (unhide T).1.grown g2
  have k2 := (unhide T).2.trans (Kp.grown g2 (fun g => g = b))
  have E1 := hide (w1F_L n false mark s0)
  have E2 := hide (topF_L n (w1F n false mark s0))
  clear hf g2 T
  obtain ⟨W3, hW3⟩ : ∃ W3, W3 = W2 := ⟨_, rfl⟩
  rw [← hW3] at h2 k2
  rw [← hW3]
  have h3 : SN W3 b bs v (w1F n false mark s0) := h2
  have k3 := k2
  clear h2 k2 hW3
  all_goals
    have el := (unhide E1).2.2.2.1
    have y5 := h3.cells.2.2.2.2.2.1
    rw [el] at y5
    obtain ⟨W5, hW5⟩ : ∃ W5, W5 = W3 := ⟨_, rfl⟩
    have h5 : SN W5 b bs v (topF n (w1F n false mark s0)) := by unfold topF; rw [el, if_neg (by omega), hW5]; exact h3
    have k5 : Kp (fun g => g = b) w W5 := by rw [hW5]; exact k3
    have hct := count_seen b bs v _ mark W5 h5 (by rw [(unhide E2).2.1, (unhide E1).2.1]; exact (unhide HOK).c0) (by rw [(unhide E2).2.2, (unhide E1).2.2.1]; exact (unhide HOK).c2)
    have eL : (countF mark (topF n (w1F n false mark s0))).L = s0.L := (unhide E2).1.trans (unhide E1).1
    obtain ⟨sc, hsc⟩ : ∃ sc, sc = countF mark (topF n (w1F n false mark s0)) := ⟨_, rfl⟩
    have FIN : Hid ({ keepF n sc with any := true } = tookF n false mark s0) := by rw [hsc]; rfl
    rw [← hsc] at hct eL
    have K5 := hide k5
    generalize (w1F n false mark s0).clock = ck at *
    have EL := hide eL
    generalize s0.largest = lg at *
    clear h3 k3 hsc k5 h5 el eL 
    go_wp2_with fail
    rw [← hW5]
    refine hct.mono ?_
    rintro e W6 ⟨rfl, h6, k6⟩
    have hkp := keep_seen b bs v sc n W6 h6 (by rw [unhide EL]; exact (unhide HOK).ok) (by rw [unhide EL]; exact (unhide HOK).ok1) (by omega) (by omega)
    have K6 := hide ((unhide K5).trans k6)
    clear hct h6 k6 K5
    go_wp2_with fail
    refine hkp.mono ?_
    rintro e W7 ⟨rfl, v', h7, o7, k7⟩
    have y10 := h7.cells.2.2.2.2.2.2.2.2.2.2.1
    have t10 := h7.blk.thaw 10
    have E : Hid (To b bs v w (tookF n false mark s0) (W7.setCell ⟨b, 10, none⟩ (.bool true))) := by
      have h8 := h7.put (s' := { keepF n sc with any := true }) 10 (.bool true) rfl rfl
      rw [unhide FIN] at h8
      exact To.step (.inl rfl) ((unhide K6).mono (fun g _ e => .inl e)) (To.step o7 k7 (To.of h8 (kp_put W7 b 10 (.bool true))))
    clear hkp h7 o7 k7 K6
    generalize (keepF n sc).any = an at *
    go_wp2_with fail
    go_ret
    exact ⟨rfl, unhide E⟩

theorem take_ng (b bs : Nat) (v : Value) (s : Sn) (now n mark : Int) (w : World) (h : SN w b bs v s) (hok : TakeOk (goF now s) n) (hfr : freshF (goF now s) n = true) (hn : 0 ≤ n ∧ n ≤ 4611686018427387903) (hgt : s.largest < n) :
    Calls Try.prog 13 #[ptr b, .int .i64 now, .int .i64 n, .bool false, .int .i64 mark] w fun e w' => e = .returned (.bool true) ∧ To b bs v w (tookF n false mark (goF now s)) w' := by
  have hgo := goOn_any b bs v s now w h
  have HOK := hide hok
  have HF := hide hfr
  have hgt0 : (goF now s).largest < n := hgt
  clear h hok hfr hgt
  generalize goF now s = s0 at *
  go_enter Try.func13, Try.ntmps13
  go_wp2_with fail
  refine hgo.mono ?_
  rintro e W1 ⟨rfl, h1, k1⟩
  have hf := fresh_any b bs v s0 n W1 h1 (unhide HOK).ok
  rw [unhide HF] at hf
  have T := hide (And.intro h1 k1)
  clear hgo h1 k1
  go_wp2_with fail
  refine hf.mono ?_
  rintro e W2 ⟨rfl, g2⟩
  have h2 := (unhide T).1.grown g2
  have k2 := (unhide T).2.trans (Kp.grown g2 (fun g => g = b))
  have E1 := hide (w1F_L n false mark s0)
  have E2 := hide (topF_L n (w1F n false mark s0))
  clear hf g2 T
  obtain ⟨W3, hW3⟩ : ∃ W3, W3 = W2 := ⟨_, rfl⟩
  rw [← hW3] at h2 k2
  rw [← hW3]
  have h3 : SN W3 b bs v (w1F n false mark s0) := h2
  have k3 := k2
  clear h2 k2 hW3
  all_goals
    have el := (unhide E1).2.2.2.1
    have y5 := h3.cells.2.2.2.2.2.1
    rw [el] at y5
    have y2 := h3.cells.2.2.1
    have t5 := h3.blk.thaw 5
    have h4 := h3.put (s' := { w1F n false mark s0 with largest := n }) 5 (.int .i64 n) rfl rfl
    have y6 := h4.cells.2.2.2.2.2.2.1
    have t6 := h4.blk.thaw 6
    have h5 := h4.put (s' := topF n (w1F n false mark s0)) 6 (.int .i64 (w1F n false mark s0).clock) (by unfold topF; rw [el, if_pos (by omega)]; rfl) (by rw [(unhide E2).1])
    have k5 := (k3.trans (kp_put W3 b 5 (.int .i64 n))).trans (kp_put _ b 6 (.int .i64 (w1F n false mark s0).clock))
    obtain ⟨W5, hW5⟩ : ∃ W5, W5 = (W3.setCell ⟨b, 5, none⟩ (.int .i64 n)).setCell ⟨b, 6, none⟩ (.int .i64 (w1F n false mark s0).clock) := ⟨_, rfl⟩
    rw [← hW5] at h5 k5
    have hct := count_seen b bs v _ mark W5 h5 (by rw [(unhide E2).2.1, (unhide E1).2.1]; exact (unhide HOK).c0) (by rw [(unhide E2).2.2, (unhide E1).2.2.1]; exact (unhide HOK).c2)
    have eL : (countF mark (topF n (w1F n false mark s0))).L = s0.L := (unhide E2).1.trans (unhide E1).1
    obtain ⟨sc, hsc⟩ : ∃ sc, sc = countF mark (topF n (w1F n false mark s0)) := ⟨_, rfl⟩
    have FIN : Hid ({ keepF n sc with any := true } = tookF n false mark s0) := by rw [hsc]; rfl
    rw [← hsc] at hct eL
    have K5 := hide k5
    generalize (w1F n false mark s0).clock = ck at *
    have EL := hide eL
    generalize s0.largest = lg at *
    clear h3 k3 hsc k5 h5 el eL h4
    go_wp2_with fail
    rw [← hW5]
    refine hct.mono ?_
    rintro e W6 ⟨rfl, h6, k6⟩
    have hkp := keep_seen b bs v sc n W6 h6 (by rw [unhide EL]; exact (unhide HOK).ok) (by rw [unhide EL]; exact (unhide HOK).ok1) (by omega) (by omega)
    have K6 := hide ((unhide K5).trans k6)
    clear hct h6 k6 K5
    go_wp2_with fail
    refine hkp.mono ?_
    rintro e W7 ⟨rfl, v', h7, o7, k7⟩
    have y10 := h7.cells.2.2.2.2.2.2.2.2.2.2.1
    have t10 := h7.blk.thaw 10
    have E : Hid (To b bs v w (tookF n false mark s0) (W7.setCell ⟨b, 10, none⟩ (.bool true))) := by
      have h8 := h7.put (s' := { keepF n sc with any := true }) 10 (.bool true) rfl rfl
      rw [unhide FIN] at h8
      exact To.step (.inl rfl) ((unhide K6).mono (fun g _ e => .inl e)) (To.step o7 k7 (To.of h8 (kp_put W7 b 10 (.bool true))))
    clear hkp h7 o7 k7 K6
    generalize (keepF n sc).any = an at *
    go_wp2_with fail
    go_ret
    exact ⟨rfl, unhide E⟩

theorem take_el (b bs : Nat) (v : Value) (s : Sn) (now n mark : Int) (w : World) (h : SN w b bs v s) (hok : TakeOk (goF now s) n) (hfr : freshF (goF now s) n = true) (hn : 0 ≤ n ∧ n ≤ 4611686018427387903) (hgt : ¬ s.largest < n) :
    Calls Try.prog 13 #[ptr b, .int .i64 now, .int .i64 n, .bool true, .int .i64 mark] w fun e w' => e = .returned (.bool true) ∧ To b bs v w (tookF n true mark (goF now s)) w' := by
  have hgo := goOn_any b bs v s now w h
  have HOK := hide hok
  have HF := hide hfr
  have hgt0 : ¬ (goF now s).largest < n := hgt
  clear h hok hfr hgt
  generalize goF now s = s0 at *
  go_enter Try.func13, Try.ntmps13
  go_wp2_with fail
  refine hgo.mono ?_
  rintro e W1 ⟨rfl, h1, k1⟩
  have hf := fresh_any b bs v s0 n W1 h1 (unhide HOK).ok
  rw [unhide HF] at hf
  have T := hide (And.intro h1 k1)
  clear hgo h1 k1
  go_wp2_with fail
  refine hf.mono ?_
  rintro e W2 ⟨rfl, g2⟩
  have h2 := (unhide T).1.grown g2
  have k2 := (unhide T).2.trans (Kp.grown g2 (fun g => g = b))
  have E1 := hide (w1F_L n true mark s0)
  have E2 := hide (topF_L n (w1F n true mark s0))
  clear hf g2 T
  have z0 := h2.cells.1
  have z5 := h2.cells.2.2.2.2.2.1
  have z11 := h2.cells.2.2.2.2.2.2.2.2.2.2.2
  have hwt : Hid (∀ q, Calls Try.prog 33 #[ptr b, .agg #[.int .i64 s0.space, .int .i64 n, .int .i64 s0.largest, .int .i64 mark, .bool (s0.due != 4611686018427387904)]] (W2.drewN q) fun e w' => e = .returned (.tuple #[]) ∧ SN w' b bs v (w1F n true mark s0) ∧ Kp (fun g => g = b) w w') := by
    intro q
    have := wait_any (arrF n mark s0) b bs v s0 (W2.drewN q) (h2.kept (fun _ _ => rfl)) (unhide HOK).large (unhide HOK).clock (unhide HOK).delay
    have ev : (arrF n mark s0).v = .agg #[.int .i64 s0.space, .int .i64 n, .int .i64 s0.largest, .int .i64 mark, .bool (s0.due != 4611686018427387904)] := by
      unfold arrF Arr.v
      by_cases hx : s0.due = 4611686018427387904 <;> simp [hx, never]
    rw [ev] at this
    refine this.mono ?_
    rintro e w' ⟨rfl, a1, a2⟩
    exact ⟨rfl, a1, (k2.drewN q).trans a2⟩
  clear h2 k2
  go_wp2_with fail
  go_region_with (first | (go_at_call 33; refine (unhide hwt 1).mono ?_; rintro e W3 ⟨rfl, h3, k3⟩))
  all_goals skip
  all_goals
    have el := (unhide E1).2.2.2.1
    have y5 := h3.cells.2.2.2.2.2.1
    rw [el] at y5
    obtain ⟨W5, hW5⟩ : ∃ W5, W5 = W3 := ⟨_, rfl⟩
    have h5 : SN W5 b bs v (topF n (w1F n true mark s0)) := by unfold topF; rw [el, if_neg (by omega), hW5]; exact h3
    have k5 : Kp (fun g => g = b) w W5 := by rw [hW5]; exact k3
    have hct := count_seen b bs v _ mark W5 h5 (by rw [(unhide E2).2.1, (unhide E1).2.1]; exact (unhide HOK).c0) (by rw [(unhide E2).2.2, (unhide E1).2.2.1]; exact (unhide HOK).c2)
    have eL : (countF mark (topF n (w1F n true mark s0))).L = s0.L := (unhide E2).1.trans (unhide E1).1
    obtain ⟨sc, hsc⟩ : ∃ sc, sc = countF mark (topF n (w1F n true mark s0)) := ⟨_, rfl⟩
    have FIN : Hid ({ keepF n sc with any := true } = tookF n true mark s0) := by rw [hsc]; rfl
    rw [← hsc] at hct eL
    have K5 := hide k5
    generalize (w1F n true mark s0).clock = ck at *
    have EL := hide eL
    generalize s0.largest = lg at *
    clear h3 k3 hsc k5 h5 el eL 
    go_wp2_with fail
    rw [← hW5]
    refine hct.mono ?_
    rintro e W6 ⟨rfl, h6, k6⟩
    have hkp := keep_seen b bs v sc n W6 h6 (by rw [unhide EL]; exact (unhide HOK).ok) (by rw [unhide EL]; exact (unhide HOK).ok1) (by omega) (by omega)
    have K6 := hide ((unhide K5).trans k6)
    clear hct h6 k6 K5
    go_wp2_with fail
    refine hkp.mono ?_
    rintro e W7 ⟨rfl, v', h7, o7, k7⟩
    have y10 := h7.cells.2.2.2.2.2.2.2.2.2.2.1
    have t10 := h7.blk.thaw 10
    have E : Hid (To b bs v w (tookF n true mark s0) (W7.setCell ⟨b, 10, none⟩ (.bool true))) := by
      have h8 := h7.put (s' := { keepF n sc with any := true }) 10 (.bool true) rfl rfl
      rw [unhide FIN] at h8
      exact To.step (.inl rfl) ((unhide K6).mono (fun g _ e => .inl e)) (To.step o7 k7 (To.of h8 (kp_put W7 b 10 (.bool true))))
    clear hkp h7 o7 k7 K6
    generalize (keepF n sc).any = an at *
    go_wp2_with fail
    go_ret
    exact ⟨rfl, unhide E⟩

theorem take_eg (b bs : Nat) (v : Value) (s : Sn) (now n mark : Int) (w : World) (h : SN w b bs v s) (hok : TakeOk (goF now s) n) (hfr : freshF (goF now s) n = true) (hn : 0 ≤ n ∧ n ≤ 4611686018427387903) (hgt : s.largest < n) :
    Calls Try.prog 13 #[ptr b, .int .i64 now, .int .i64 n, .bool true, .int .i64 mark] w fun e w' => e = .returned (.bool true) ∧ To b bs v w (tookF n true mark (goF now s)) w' := by
  have hgo := goOn_any b bs v s now w h
  have HOK := hide hok
  have HF := hide hfr
  have hgt0 : (goF now s).largest < n := hgt
  clear h hok hfr hgt
  generalize goF now s = s0 at *
  go_enter Try.func13, Try.ntmps13
  go_wp2_with fail
  refine hgo.mono ?_
  rintro e W1 ⟨rfl, h1, k1⟩
  have hf := fresh_any b bs v s0 n W1 h1 (unhide HOK).ok
  rw [unhide HF] at hf
  have T := hide (And.intro h1 k1)
  clear hgo h1 k1
  go_wp2_with fail
  refine hf.mono ?_
  rintro e W2 ⟨rfl, g2⟩
  have h2 := (unhide T).1.grown g2
  have k2 := (unhide T).2.trans (Kp.grown g2 (fun g => g = b))
  have E1 := hide (w1F_L n true mark s0)
  have E2 := hide (topF_L n (w1F n true mark s0))
  clear hf g2 T
  have z0 := h2.cells.1
  have z5 := h2.cells.2.2.2.2.2.1
  have z11 := h2.cells.2.2.2.2.2.2.2.2.2.2.2
  have hwt : Hid (∀ q, Calls Try.prog 33 #[ptr b, .agg #[.int .i64 s0.space, .int .i64 n, .int .i64 s0.largest, .int .i64 mark, .bool (s0.due != 4611686018427387904)]] (W2.drewN q) fun e w' => e = .returned (.tuple #[]) ∧ SN w' b bs v (w1F n true mark s0) ∧ Kp (fun g => g = b) w w') := by
    intro q
    have := wait_any (arrF n mark s0) b bs v s0 (W2.drewN q) (h2.kept (fun _ _ => rfl)) (unhide HOK).large (unhide HOK).clock (unhide HOK).delay
    have ev : (arrF n mark s0).v = .agg #[.int .i64 s0.space, .int .i64 n, .int .i64 s0.largest, .int .i64 mark, .bool (s0.due != 4611686018427387904)] := by
      unfold arrF Arr.v
      by_cases hx : s0.due = 4611686018427387904 <;> simp [hx, never]
    rw [ev] at this
    refine this.mono ?_
    rintro e w' ⟨rfl, a1, a2⟩
    exact ⟨rfl, a1, (k2.drewN q).trans a2⟩
  clear h2 k2
  go_wp2_with fail
  go_region_with (first | (go_at_call 33; refine (unhide hwt 1).mono ?_; rintro e W3 ⟨rfl, h3, k3⟩))
  all_goals skip
  all_goals
    have el := (unhide E1).2.2.2.1
    have y5 := h3.cells.2.2.2.2.2.1
    rw [el] at y5
    have y2 := h3.cells.2.2.1
    have t5 := h3.blk.thaw 5
    have h4 := h3.put (s' := { w1F n true mark s0 with largest := n }) 5 (.int .i64 n) rfl rfl
    have y6 := h4.cells.2.2.2.2.2.2.1
    have t6 := h4.blk.thaw 6
    have h5 := h4.put (s' := topF n (w1F n true mark s0)) 6 (.int .i64 (w1F n true mark s0).clock) (by unfold topF; rw [el, if_pos (by omega)]; rfl) (by rw [(unhide E2).1])
    have k5 := (k3.trans (kp_put W3 b 5 (.int .i64 n))).trans (kp_put _ b 6 (.int .i64 (w1F n true mark s0).clock))
    obtain ⟨W5, hW5⟩ : ∃ W5, W5 = (W3.setCell ⟨b, 5, none⟩ (.int .i64 n)).setCell ⟨b, 6, none⟩ (.int .i64 (w1F n true mark s0).clock) := ⟨_, rfl⟩
    rw [← hW5] at h5 k5
    have hct := count_seen b bs v _ mark W5 h5 (by rw [(unhide E2).2.1, (unhide E1).2.1]; exact (unhide HOK).c0) (by rw [(unhide E2).2.2, (unhide E1).2.2.1]; exact (unhide HOK).c2)
    have eL : (countF mark (topF n (w1F n true mark s0))).L = s0.L := (unhide E2).1.trans (unhide E1).1
    obtain ⟨sc, hsc⟩ : ∃ sc, sc = countF mark (topF n (w1F n true mark s0)) := ⟨_, rfl⟩
    have FIN : Hid ({ keepF n sc with any := true } = tookF n true mark s0) := by rw [hsc]; rfl
    rw [← hsc] at hct eL
    have K5 := hide k5
    generalize (w1F n true mark s0).clock = ck at *
    have EL := hide eL
    generalize s0.largest = lg at *
    clear h3 k3 hsc k5 h5 el eL h4
    go_wp2_with fail
    rw [← hW5]
    refine hct.mono ?_
    rintro e W6 ⟨rfl, h6, k6⟩
    have hkp := keep_seen b bs v sc n W6 h6 (by rw [unhide EL]; exact (unhide HOK).ok) (by rw [unhide EL]; exact (unhide HOK).ok1) (by omega) (by omega)
    have K6 := hide ((unhide K5).trans k6)
    clear hct h6 k6 K5
    go_wp2_with fail
    refine hkp.mono ?_
    rintro e W7 ⟨rfl, v', h7, o7, k7⟩
    have y10 := h7.cells.2.2.2.2.2.2.2.2.2.2.1
    have t10 := h7.blk.thaw 10
    have E : Hid (To b bs v w (tookF n true mark s0) (W7.setCell ⟨b, 10, none⟩ (.bool true))) := by
      have h8 := h7.put (s' := { keepF n sc with any := true }) 10 (.bool true) rfl rfl
      rw [unhide FIN] at h8
      exact To.step (.inl rfl) ((unhide K6).mono (fun g _ e => .inl e)) (To.step o7 k7 (To.of h8 (kp_put W7 b 10 (.bool true))))
    clear hkp h7 o7 k7 K6
    generalize (keepF n sc).any = an at *
    go_wp2_with fail
    go_ret
    exact ⟨rfl, unhide E⟩

theorem take_any (b bs : Nat) (v : Value) (s : Sn) (now n mark : Int) (el : Bool) (w : World) (h : SN w b bs v s) (hok : TakeOk (goF now s) n) (hf : -1 ≤ s.floor) :
    Calls Try.prog 13 #[ptr b, .int .i64 now, .int .i64 n, .bool el, .int .i64 mark] w fun e w' => e = .returned (.bool (freshF (goF now s) n)) ∧ To b bs v w (takeF now n el mark s) w' := by
  unfold takeF
  cases hfr : freshF (goF now s) n with
  | false => exact stale_any b bs v s now n mark el w h hok.ok hfr
  | true =>
    have hn := bounds_of hfr hf
    rw [if_pos rfl]
    by_cases hgt : s.largest < n
    · cases el with
      | false => exact take_ng b bs v s now n mark w h hok hfr hn hgt
      | true => exact take_eg b bs v s now n mark w h hok hfr hn hgt
    · cases el with
      | false => exact take_nl b bs v s now n mark w h hok hfr hn hgt
      | true => exact take_el b bs v s now n mark w h hok hfr hn hgt
end Go.Proofs.Ytielpjdjlmkejaa
