/- A round of CubicWaits. -/
import Derived.Test.YthpnbajhogoinaaIY0
namespace Go.Proofs.Ythpnbajhogoinaa
open Go.RowKit Fl
set_option linter.unusedVariables false
set_option maxRecDepth 100000
set_option maxHeartbeats 1000000

theorem climbG_all (z : Int) (s : Cs) : (climbG z s).mtu = s.mtu ∧ (climbG z s).thr = s.thr ∧ (climbG z s).began = s.began ∧ (climbG z s).clock = s.clock ∧ (climbG z s).ep = s.ep ∧ (climbG z s).og = s.og ∧ (climbG z s).wt = s.wt := ⟨rfl, rfl, rfl, rfl, rfl, rfl, rfl⟩
/-- Once the curve has begun. -/
theorem wt_start {n top S m i E : Nat} {s : Cs} (hmt : s.mtu = (m : Int)) (ok : s.Ok n) (hn : n ≤ 9999) (ht : top < 2 ^ 40) (hc : s.clock = 20) (hp : s.ep = -1 → s.size = (S : Int) ∧ s.pk = I top ∧ E = S ∧ i = 0) (hq : ¬ s.ep = -1 → s.ep = 20 ∧ hiW s.og (s.clock - s.ep - s.wt) m ≤ I S ∧ s.pl ≤ I (E - i) ∧ i ≤ E) :
    (startF s).ep = 20 ∧ hiW (startF s).og ((startF s).clock - (startF s).ep - (startF s).wt) m ≤ I S ∧ (startF s).pl ≤ I (E - i) ∧ i ≤ E := by
  have hm := ok.m
  have hmN : s.mtu.toNat = m := by omega
  by_cases c : s.ep = -1
  · obtain ⟨z1, z2, z3, z4⟩ := hp c
    have hsI : sI s = I S := by unfold sI; rw [z1]; rfl
    have hs : startF s = beginF s := by unfold startF; rw [if_pos (by omega)]
    rw [hs]
    subst z4
    replace z3 := z3.symm
    subst z3
    have hSl : S < 2 ^ 53 := by have := ok.z; omega
    unfold beginF
    rw [hsI, z2, hmN]
    by_cases c2 : I S < I top
    · have hlt := (I_lt_iff hSl (by omega)).1 c2
      rw [if_pos c2]
      refine ⟨hc, ?_, Nat.le_refl _, Nat.zero_le _⟩
      have := hi_begin (S := S) (m := m) ht (by omega) hlt
      show hiW (I top) (s.clock - s.clock - (kOf (subW (I top) (I S)) m : Int)) m ≤ I S
      rw [show s.clock - s.clock - (kOf (subW (I top) (I S)) m : Int) = -(kOf (subW (I top) (I S)) m : Int) by generalize kOf (subW (I top) (I S)) m = q; omega]
      exact this
    · rw [if_neg c2]
      refine ⟨hc, ?_, Nat.le_refl _, Nat.zero_le _⟩
      show hiW (I S) (s.clock - s.clock - 0) m ≤ I S
      rw [show s.clock - s.clock - 0 = 0 by omega]
      unfold hiW
      rw [if_pos (Int.le_refl _), show (0 : Int).natAbs = 0 from rfl, cube_zero, addW_zero (I_lt hSl)]
      exact Nat.le_refl _
  · obtain ⟨q1, q2, q3, q4⟩ := hq c
    have hs : startF s = s := by unfold startF; rw [if_neg (by omega)]
    rw [hs]
    exact ⟨q1, q2, q3, q4⟩
theorem wt_step {n top S m i E : Nat} {s : Cs} (h : Wt top S m i E s) (ok : s.Ok n) (hn : n ≤ 9999) (ht : top < 2 ^ 40) (hE : E < 2 ^ 30) (hS : 1 ≤ S) {p : Nat} (hp : p ≤ 65535) : Wt top S m (i + 1) (E + p * m / S + 2) (ackF 20 20 (p : Int) false s) := by
  have hbg := h.bg
  have hth := h.th
  have hst := h.st
  have na : ¬ aheadF 20 s := fun k => by have := k.2; rw [show sp 20 = 20 by decide] at this; omega
  have hsz : szz (p : Int) = p := szid (by omega)
  unfold ackF
  rw [if_neg (by rintro (k | k); cases k; exact na k), hsz]
  have ok1 := land_ok (tick_ok ok 20) (p : Int)
  have e1 : (landF (p : Int) (tickF 20 s)).size = s.size := rfl
  have e2 : (landF (p : Int) (tickF 20 s)).thr = s.thr := rfl
  have e3 : (landF (p : Int) (tickF 20 s)).clock = max s.clock (sp 20) := rfl
  rw [show sp 20 = 20 by decide] at e3
  have e3 : (landF (p : Int) (tickF 20 s)).clock = 20 := by omega
  have W1 : (landF (p : Int) (tickF 20 s)).mtu = (m : Int) ∧ (landF (p : Int) (tickF 20 s)).began = 10 ∧ (landF (p : Int) (tickF 20 s)).pt < I 1 ∧ (landF (p : Int) (tickF 20 s)).ep = s.ep ∧ (landF (p : Int) (tickF 20 s)).pk = s.pk ∧ (landF (p : Int) (tickF 20 s)).og = s.og ∧ (landF (p : Int) (tickF 20 s)).wt = s.wt ∧ (landF (p : Int) (tickF 20 s)).pl = s.pl := ⟨h.mt, h.bg, h.pt, rfl, rfl, rfl, rfl, rfl⟩
  have hlo := h.lo
  have hhi := h.hi
  clear na
  generalize landF (p : Int) (tickF 20 s) = s1 at *
  obtain ⟨w1, w2, w3, w4, w5, w6, w7, w8⟩ := W1
  unfold raiseF
  rw [if_neg (by rw [e1, e2]; exact hth)]
  have hm := ok1.m
  have hz := ok1.z
  obtain ⟨z, ez, hzp, hzs⟩ : ∃ z : Nat, min (p : Int) s1.size = (z : Int) ∧ z ≤ p ∧ (z : Int) ≤ s1.size := ⟨(min (p : Int) s1.size).toNat, by omega, by omega, by omega⟩
  rw [ez]
  -- the curve has begun
  have hp1 : s1.ep = -1 → s1.size = (S : Int) ∧ s1.pk = I top ∧ E = S ∧ i = 0 := fun k => by
    rcases hst with ⟨t1, t2, t3, t4, t5, t6⟩ | ⟨t1, -⟩
    · exact ⟨by rw [e1]; exact t3, by rw [w5]; exact t4, t5, t6⟩
    · omega
  have hq1 : ¬ s1.ep = -1 → s1.ep = 20 ∧ hiW s1.og (s1.clock - s1.ep - s1.wt) m ≤ I S ∧ s1.pl ≤ I (E - i) ∧ i ≤ E := fun k => by
    rcases hst with ⟨t1, -⟩ | ⟨t1, t2, t3, t4, t5⟩
    · omega
    · rw [t1, t2] at t3
      rw [w4, w6, w7, w8, e3, t1]
      exact ⟨rfl, t3, t4, t5⟩
  obtain ⟨f1, f2, f3, f4⟩ := wt_start w1 ok1 hn ht e3 hp1 hq1
  obtain ⟨g1, -, g3, g4, g5, g6, -⟩ := start_all s1
  have gpt := (start_sz s1).2.2.2
  have ok2 := start_ok ok1 (by omega)
  have up := (climb_size ok1 hn (z := (z : Int)) (by omega)).1
  unfold climbF at up ⊢
  generalize startF s1 = s2 at *
  obtain ⟨k1, k2, k3, k4, k5, k6, k7⟩ := climbG_all (z : Int) s2
  obtain ⟨r1, r2, r3⟩ := wt_climb (top := top) (p := p) (z := z) ok2 hn (by rw [g1]; exact w1) (by rw [g6, e1]; exact hlo) (by rw [g6, e1]; exact hhi) hS (by rw [gpt]; exact w3) f2 f3 hE f4 hp hzp (by rw [g6]; exact hzs)
  generalize climbG (z : Int) s2 = s3 at *
  generalize p * m / S = Q at *
  refine ⟨by rw [k1, g1]; exact w1, by rw [k2, g5]; omega, by rw [k3, g4]; exact w2, by omega, r1, r2, .inr ⟨by rw [k5]; exact f1, by rw [k4, g3]; exact e3, by rw [k4, k5, k6, k7]; exact f2, r3, by omega⟩⟩
end Go.Proofs.Ythpnbajhogoinaa
