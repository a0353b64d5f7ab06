/- E8I3, E8I4, one text. -/
import Derived.Test.YtielpjdjlmkejaaM8C
import Derived.BigQuiet
namespace Go.Proofs.Ytielpjdjlmkejaa
open Go.RowKit
set_option linter.unusedVariables false
set_option maxRecDepth 100000
set_option maxHeartbeats 4000000

theorem rtake_wg0 (b n c : Nat) (a : Option Addr) (r : Rn) (now x mark : Int) (w : World) (h : RN w b a n c r) (hc : r.clock ≤ 1125899906842624) (r1 : Rn) (hr1 : r1 = rgoF now r) (hfr : rfreshF r1 x = true) (hn : n + 1 ≤ 1000000000000) (hp1 : (putF x r1.l).Pairwise (· < ·)) (hb1 : ∀ y ∈ putF x r1.l, 0 ≤ y ∧ y ≤ 4611686018427387903) (hwt : 0 ≤ r1.waits ∧ r1.waits < 9223372036854775806) (hck : 0 ≤ r1.clock ∧ r1.clock ≤ 1125899906842624) (hdl : 0 ≤ r1.delay ∧ r1.delay ≤ 68719476736) (hlg : -1 ≤ r1.largest ∧ r1.largest ≤ 4611686018427387903) (hc0 : 0 ≤ r1.c0 ∧ r1.c0 < 9223372036854775807) (hc2 : 0 ≤ r1.c2 ∧ r1.c2 < 9223372036854775807) (hgt : r1.largest < x) (hmk : mark ≠ 1 ∧ mark ≠ 2) :
    Calls Try.prog 22 #[ptr b, .int .i64 now, .int .i64 x, .bool true, .int .i64 mark] w fun e w' => e = .returned (.bool true) ∧ (∃ a' n' c', RN w' b a' n' c' (rwaitF x mark r1)) ∧ Kp (fun g => g = b) w w' := by
  have h1 : RN (w.setCell ⟨b, 2, none⟩ (.int .i64 (lat r.clock now))) b a n c r1 := by rw [hr1]; exact h.put (r' := rgoF now r) 2 (.int .i64 (lat r.clock now)) rfl h.rd h.cap h.sh
  have k1 := kp_put w b 2 (.int .i64 (lat r.clock now))
  have c2 := h.c2
  have t2 := h.blk.thaw 2
  have hl := later_any r.clock now hc w
  have hf := rfresh_any b n c a r1 x _ h1
  rw [hfr] at hf
  have c5 := h1.c5
  have t5 := h1.blk.thaw 5
  have h2 := h1.put (r' := { r1 with largest := x }) 5 (.int .i64 x) rfl h1.rd h1.cap h1.sh
  have d2 := h2.c2
  have t6 := h2.blk.thaw 6
  have d6 := h2.c6
  have h3 := h2.put (r' := { r1 with largest := x, came := r1.clock }) 6 (.int .i64 r1.clock) rfl h2.rd h2.cap h2.sh
  have k3 := (k1.trans (kp_put _ b 5 (.int .i64 x))).trans (kp_put _ b 6 (.int .i64 r1.clock))
  obtain ⟨m1, m2⟩ := hmk
  have b1 : (mark == 1) = false := by rw [beq_eq_false_iff_ne]; exact m1
  have b2 : (mark == 2) = false := by rw [beq_eq_false_iff_ne]; exact m2
  have E : rpreF x mark r1 = { r1 with largest := x, came := r1.clock } := by simp [rpreF, rtopF, rcountF, hgt, m1, m2]
  have HK := hide (And.intro (show RN _ b a n c (rpreF x mark r1) by rw [E]; exact h3) (And.intro (show (putF x (rpreF x mark r1).l).Pairwise (· < ·) by rw [rpreF_l]; exact hp1) (show ∀ y ∈ putF x (rpreF x mark r1).l, 0 ≤ y ∧ y ≤ 4611686018427387903 by rw [rpreF_l]; exact hb1)))
  have F := hide k3
  obtain ⟨K, hK⟩ : ∃ K, K = rkeepF x (rpreF x mark r1) := ⟨_, rfl⟩
  have kf : K.space = r1.space ∧ K.delay = r1.delay ∧ K.clock = r1.clock ∧ K.waits = r1.waits ∧ K.due = r1.due := by
    obtain ⟨p1, p2, p3, p4, p5⟩ := rpre_f x mark r1
    obtain ⟨q1, q2, q3, q4, q5⟩ := rkeep_f x (rpreF x mark r1)
    rw [hK]
    exact ⟨q1.trans p1, q2.trans p2, q3.trans p3, q4.trans p4, q5.trans p5⟩
  have FIN := hide (fun (W : World) (a5 : Option Addr) (n5 c5 : Nat) (R : Rn) (h : RN W b a5 n5 c5 R) (hR : R = { K with any := true, waits := r1.waits + 1 }) (D : Int) (hD : (D = r1.clock ∧ RHur x mark r1) ∨ (D = r1.clock + r1.delay ∧ ¬ RHur x mark r1)) => rwait_fin h (by rw [hR, hK]) D hD)
  have HU : Hid (RHur x mark r1 ↔ (r1.space ≠ 2 ∨ 1 < r1.waits + 1 ∨ x < r1.largest ∨ (0 ≤ r1.largest ∧ r1.largest + 1 < x) ∨ (mark : Int) = 2)) := Iff.rfl
  generalize RHur x mark r1 = HUR at *
  generalize rwaitF x mark r1 = RW at *
  have hw0 : IntKind.i64.wrap (r1.c0 + 1) = r1.c0 + 1 := by rw [IntKind.wrap_i64]; omega
  have hw2 : IntKind.i64.wrap (r1.c2 + 1) = r1.c2 + 1 := by rw [IntKind.wrap_i64]; omega
  clear E h h1 hfr hc hp1 hb1 k1 hr1 h2 h3 k3
  generalize rpreF x mark r1 = rp at *
  go_enter Try.func22, Try.ntmps22
  go_wp2_with fail
  refine hl.mono ?_
  rintro e W ⟨rfl, rfl⟩
  clear hl
  go_wp2_with fail
  refine hf.mono ?_
  rintro e W ⟨rfl, rfl⟩
  clear hf
  go_wp2_with fail
  refine (rkeep_any b n c a rp x _ ((unhide HK).1.same (fun _ => rfl)) hn (unhide HK).2.1 (unhide HK).2.2).mono ?_
  rintro e W5 ⟨rfl, ⟨a5, n5, c5', h5⟩, k5⟩
  rw [← hK] at h5
  obtain ⟨f1, f2, f3, f4, f5⟩ := kf
  have d12 := h5.c12
  have t12 := h5.blk.thaw 12
  have h6 := h5.put (r' := { K with any := true }) 12 (.bool true) rfl h5.rd h5.cap h5.sh
  have d10 := h6.c10
  rw [show ({ K with any := true } : Rn).waits = r1.waits from f4] at d10
  have t10 := h6.blk.thaw 10
  have h7 := h6.put (r' := { K with any := true, waits := r1.waits + 1 }) 10 (.int .i64 (r1.waits + 1)) rfl h6.rd h6.cap h6.sh
  have e0 := h7.c0
  have e1 := h7.c1
  have e2 := h7.c2
  have e10 := h7.c10
  have e11 := h7.c11
  rw [show ({ K with any := true, waits := r1.waits + 1 } : Rn).space = r1.space from f1] at e0
  rw [show ({ K with any := true, waits := r1.waits + 1 } : Rn).delay = r1.delay from f2] at e1
  rw [show ({ K with any := true, waits := r1.waits + 1 } : Rn).clock = r1.clock from f3] at e2
  rw [show ({ K with any := true, waits := r1.waits + 1 } : Rn).due = r1.due from f5] at e11
  have t11 := h7.blk.thaws
  have ZR := hide (fun (q : Nat) D hD => unhide FIN (((W5.setCell ⟨b, 12, none⟩ (.bool true)).setCell ⟨b, 10, none⟩ (.int .i64 (r1.waits + 1))).drewN q) a5 n5 c5' _ (h7.same (fun _ => rfl)) rfl D hD)
  have ZK := hide (fun (q : Nat) => (((unhide F).trans k5).trans ((kp_put _ b 12 (.bool true)).trans (kp_put _ b 10 (.int .i64 (r1.waits + 1))))).drewN q)
  clear h5 h6 h7 k5 FIN F HK hK f1 f2 f3 f4 f5
  obtain ⟨wt1, wt2⟩ := hwt
  obtain ⟨ck1, ck2⟩ := hck
  obtain ⟨dl1, dl2⟩ := hdl
  obtain ⟨lg1, lg2⟩ := hlg
  generalize r1.space = sp1 at *
  generalize r1.waits = wt at *
  generalize r1.clock = ck at *
  generalize r1.delay = dl at *
  generalize r1.largest = lg at *
  generalize r1.due = du at *
  go_wp2_with fail
  go_quiet (fail)
  go_wp2_with fail
  all_goals go_ret
  all_goals
    first
    | exact ⟨rfl, ⟨a5, n5, c5', (unhide ZR _ ck (.inl ⟨rfl, (unhide HU).2 (by omega)⟩)).1 (by omega)⟩, (unhide ZK _).trans (kp_put _ b 11 _)⟩
    | exact ⟨rfl, ⟨a5, n5, c5', (unhide ZR _ (ck + dl) (.inr ⟨rfl, fun h => by have := (unhide HU).1 h; omega⟩)).1 (by omega)⟩, (unhide ZK _).trans (kp_put _ b 11 _)⟩
    | exact ⟨rfl, ⟨a5, n5, c5', (unhide ZR _ ck (.inl ⟨rfl, (unhide HU).2 (by omega)⟩)).2 (by omega)⟩, unhide ZK _⟩
    | exact ⟨rfl, ⟨a5, n5, c5', (unhide ZR _ (ck + dl) (.inr ⟨rfl, fun h => by have := (unhide HU).1 h; omega⟩)).2 (by omega)⟩, unhide ZK _⟩

end Go.Proofs.Ytielpjdjlmkejaa

namespace Go.Proofs.Ytielpjdjlmkejaa
open Go.RowKit
set_option linter.unusedVariables false
set_option maxRecDepth 100000
set_option maxHeartbeats 4000000

theorem rtake_wl1 (b n c : Nat) (a : Option Addr) (r : Rn) (now x mark : Int) (w : World) (h : RN w b a n c r) (hc : r.clock ≤ 1125899906842624) (r1 : Rn) (hr1 : r1 = rgoF now r) (hfr : rfreshF r1 x = true) (hn : n + 1 ≤ 1000000000000) (hp1 : (putF x r1.l).Pairwise (· < ·)) (hb1 : ∀ y ∈ putF x r1.l, 0 ≤ y ∧ y ≤ 4611686018427387903) (hwt : 0 ≤ r1.waits ∧ r1.waits < 9223372036854775806) (hck : 0 ≤ r1.clock ∧ r1.clock ≤ 1125899906842624) (hdl : 0 ≤ r1.delay ∧ r1.delay ≤ 68719476736) (hlg : -1 ≤ r1.largest ∧ r1.largest ≤ 4611686018427387903) (hc0 : 0 ≤ r1.c0 ∧ r1.c0 < 9223372036854775807) (hc2 : 0 ≤ r1.c2 ∧ r1.c2 < 9223372036854775807) (hgt : ¬ r1.largest < x) (hmk : mark = 1) :
    Calls Try.prog 22 #[ptr b, .int .i64 now, .int .i64 x, .bool true, .int .i64 mark] w fun e w' => e = .returned (.bool true) ∧ (∃ a' n' c', RN w' b a' n' c' (rwaitF x mark r1)) ∧ Kp (fun g => g = b) w w' := by
  have h1 : RN (w.setCell ⟨b, 2, none⟩ (.int .i64 (lat r.clock now))) b a n c r1 := by rw [hr1]; exact h.put (r' := rgoF now r) 2 (.int .i64 (lat r.clock now)) rfl h.rd h.cap h.sh
  have k1 := kp_put w b 2 (.int .i64 (lat r.clock now))
  have c2 := h.c2
  have t2 := h.blk.thaw 2
  have hl := later_any r.clock now hc w
  have hf := rfresh_any b n c a r1 x _ h1
  rw [hfr] at hf
  have c5 := h1.c5
  have t5 := h1.blk.thaw 5
  have c7 := h1.c7
  have t7 := h1.blk.thaw 7
  have h4 := h1.put (r' := { r1 with c0 := r1.c0 + 1 }) 7 (.int .i64 (r1.c0 + 1)) rfl h1.rd h1.cap h1.sh
  have k4 := k1.trans (kp_put _ b 7 (.int .i64 (r1.c0 + 1)))
  subst hmk
  have E : rpreF x 1 r1 = { r1 with c0 := r1.c0 + 1 } := by simp [rpreF, rtopF, rcountF, hgt]
  have HK := hide (And.intro (show RN _ b a n c (rpreF x 1 r1) by rw [E]; exact h4) (And.intro (show (putF x (rpreF x 1 r1).l).Pairwise (· < ·) by rw [rpreF_l]; exact hp1) (show ∀ y ∈ putF x (rpreF x 1 r1).l, 0 ≤ y ∧ y ≤ 4611686018427387903 by rw [rpreF_l]; exact hb1)))
  have F := hide k4
  obtain ⟨K, hK⟩ : ∃ K, K = rkeepF x (rpreF x 1 r1) := ⟨_, rfl⟩
  have kf : K.space = r1.space ∧ K.delay = r1.delay ∧ K.clock = r1.clock ∧ K.waits = r1.waits ∧ K.due = r1.due := by
    obtain ⟨p1, p2, p3, p4, p5⟩ := rpre_f x 1 r1
    obtain ⟨q1, q2, q3, q4, q5⟩ := rkeep_f x (rpreF x 1 r1)
    rw [hK]
    exact ⟨q1.trans p1, q2.trans p2, q3.trans p3, q4.trans p4, q5.trans p5⟩
  have FIN := hide (fun (W : World) (a5 : Option Addr) (n5 c5 : Nat) (R : Rn) (h : RN W b a5 n5 c5 R) (hR : R = { K with any := true, waits := r1.waits + 1 }) (D : Int) (hD : (D = r1.clock ∧ RHur x 1 r1) ∨ (D = r1.clock + r1.delay ∧ ¬ RHur x 1 r1)) => rwait_fin h (by rw [hR, hK]) D hD)
  have HU : Hid (RHur x 1 r1 ↔ (r1.space ≠ 2 ∨ 1 < r1.waits + 1 ∨ x < r1.largest ∨ (0 ≤ r1.largest ∧ r1.largest + 1 < x) ∨ (1 : Int) = 2)) := Iff.rfl
  generalize RHur x 1 r1 = HUR at *
  generalize rwaitF x 1 r1 = RW at *
  have hw0 : IntKind.i64.wrap (r1.c0 + 1) = r1.c0 + 1 := by rw [IntKind.wrap_i64]; omega
  have hw2 : IntKind.i64.wrap (r1.c2 + 1) = r1.c2 + 1 := by rw [IntKind.wrap_i64]; omega
  clear E h h1 hfr hc hp1 hb1 k1 hr1 h4 k4
  generalize rpreF x 1 r1 = rp at *
  go_enter Try.func22, Try.ntmps22
  go_wp2_with fail
  refine hl.mono ?_
  rintro e W ⟨rfl, rfl⟩
  clear hl
  go_wp2_with fail
  refine hf.mono ?_
  rintro e W ⟨rfl, rfl⟩
  clear hf
  go_wp2_with fail
  go_region
  all_goals go_wp2_with fail
  all_goals
    refine (rkeep_any b n c a rp x (World.drew _) ((unhide HK).1.same (fun _ => rfl)) hn (unhide HK).2.1 (unhide HK).2.2).mono ?_
    rintro e W5 ⟨rfl, ⟨a5, n5, c5', h5⟩, k5⟩
    rw [← hK] at h5
    obtain ⟨f1, f2, f3, f4, f5⟩ := kf
    have d12 := h5.c12
    have t12 := h5.blk.thaw 12
    have h6 := h5.put (r' := { K with any := true }) 12 (.bool true) rfl h5.rd h5.cap h5.sh
    have d10 := h6.c10
    rw [show ({ K with any := true } : Rn).waits = r1.waits from f4] at d10
    have t10 := h6.blk.thaw 10
    have h7 := h6.put (r' := { K with any := true, waits := r1.waits + 1 }) 10 (.int .i64 (r1.waits + 1)) rfl h6.rd h6.cap h6.sh
    have e0 := h7.c0
    have e1 := h7.c1
    have e2 := h7.c2
    have e10 := h7.c10
    have e11 := h7.c11
    rw [show ({ K with any := true, waits := r1.waits + 1 } : Rn).space = r1.space from f1] at e0
    rw [show ({ K with any := true, waits := r1.waits + 1 } : Rn).delay = r1.delay from f2] at e1
    rw [show ({ K with any := true, waits := r1.waits + 1 } : Rn).clock = r1.clock from f3] at e2
    rw [show ({ K with any := true, waits := r1.waits + 1 } : Rn).due = r1.due from f5] at e11
    have t11 := h7.blk.thaws
    have ZR := hide (fun (q : Nat) D hD => unhide FIN (((W5.setCell ⟨b, 12, none⟩ (.bool true)).setCell ⟨b, 10, none⟩ (.int .i64 (r1.waits + 1))).drewN q) a5 n5 c5' _ (h7.same (fun _ => rfl)) rfl D hD)
    have ZK := hide (fun (q : Nat) => ((((unhide F).drewN 1).trans k5).trans ((kp_put _ b 12 (.bool true)).trans (kp_put _ b 10 (.int .i64 (r1.waits + 1))))).drewN q)
    clear h5 h6 h7 k5 FIN F HK hK f1 f2 f3 f4 f5
    obtain ⟨wt1, wt2⟩ := hwt
    obtain ⟨ck1, ck2⟩ := hck
    obtain ⟨dl1, dl2⟩ := hdl
    obtain ⟨lg1, lg2⟩ := hlg
    generalize r1.space = sp1 at *
    generalize r1.waits = wt at *
    generalize r1.clock = ck at *
    generalize r1.delay = dl at *
    generalize r1.largest = lg at *
    generalize r1.due = du at *
    go_wp2_with fail
    go_quiet (fail)
    go_wp2_with fail
    all_goals go_ret
    all_goals
      first
      | exact ⟨rfl, ⟨a5, n5, c5', (unhide ZR _ ck (.inl ⟨rfl, (unhide HU).2 (by omega)⟩)).1 (by omega)⟩, (unhide ZK _).trans (kp_put _ b 11 _)⟩
      | exact ⟨rfl, ⟨a5, n5, c5', (unhide ZR _ (ck + dl) (.inr ⟨rfl, fun h => by have := (unhide HU).1 h; omega⟩)).1 (by omega)⟩, (unhide ZK _).trans (kp_put _ b 11 _)⟩
      | exact ⟨rfl, ⟨a5, n5, c5', (unhide ZR _ ck (.inl ⟨rfl, (unhide HU).2 (by omega)⟩)).2 (by omega)⟩, unhide ZK _⟩
      | exact ⟨rfl, ⟨a5, n5, c5', (unhide ZR _ (ck + dl) (.inr ⟨rfl, fun h => by have := (unhide HU).1 h; omega⟩)).2 (by omega)⟩, unhide ZK _⟩

end Go.Proofs.Ytielpjdjlmkejaa
