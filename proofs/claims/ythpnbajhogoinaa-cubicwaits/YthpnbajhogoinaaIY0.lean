/- What CubicWaits holds between its rounds. -/
import Derived.Test.YthpnbajhogoinaaIT
namespace Go.Proofs.Ythpnbajhogoinaa
open Go.RowKit Fl
set_option linter.unusedVariables false
set_option maxRecDepth 100000
set_option maxHeartbeats 1000000

namespace Fl
/-- What is left of a whole is less than one. -/
theorem rest_lt {p : Nat} (hp : p < inf) (hw : whole p < 2 ^ 53) : subW p (I (whole p)) < I 1 := by
  have h6 := Nat.div_mul_le_self (V p) (2 ^ uE)
  have h7 := Nat.lt_mul_div_succ (V p) (p2 uE)
  have h1 : I 1 < inf := I_lt (by decide)
  have hv1 : V (I 1) = 2 ^ uE := by rw [V_I (by decide), Nat.one_mul]
  by_cases c : p < I 1
  · exact Nat.lt_of_le_of_lt (subW_le hp) c
  · -- all is a multiple of the last place of one
    have hN : 2 ^ 52 ≤ p := Nat.le_trans (I_normal (Nat.le_refl 1)) (Nat.not_lt.1 c)
    obtain ⟨m, i, -, vx, i1, i2, m1, m2, -⟩ := read_eq hp
    have hV : V (I 1) ≤ V p := le_V h1 hp (Nat.not_lt.1 c)
    rw [hv1, vx] at hV
    unfold sc at hV
    have hk : uE < 53 + (i + 4000).toNat := by
      have : m * 2 ^ (i + 4000).toNat < 2 ^ (53 + (i + 4000).toNat) := by rw [Nat.pow_add]; exact Nat.mul_lt_mul_of_pos_right m1 (p2 _)
      exact (Nat.pow_lt_pow_iff_right (by decide)).1 (Nat.lt_of_le_of_lt hV this)
    -- the rest as r * 2 ^ k
    obtain ⟨k, hk1, hk2, D, hD⟩ : ∃ k, k ≤ uE ∧ uE ≤ 52 + k ∧ ∃ D, V p = D * 2 ^ k := by
      by_cases c2 : (i + 4000).toNat ≤ uE
      · exact ⟨(i + 4000).toNat, c2, by omega, m, by rw [vx]; rfl⟩
      · refine ⟨uE, Nat.le_refl _, by omega, m * 2 ^ ((i + 4000).toNat - uE), ?_⟩
        rw [vx]; unfold sc
        rw [Nat.mul_assoc, ← Nat.pow_add, show (i + 4000).toNat - uE + uE = (i + 4000).toNat by omega]
    have hu : 2 ^ uE = 2 ^ (uE - k) * 2 ^ k := by rw [← Nat.pow_add, show uE - k + k = uE by omega]
    have hr : V p - V (I (whole p)) = (D - whole p * 2 ^ (uE - k)) * 2 ^ k := by
      rw [V_I hw, hD, hu, ← Nat.mul_assoc, ← Nat.sub_mul]
    have hlt : V p - V (I (whole p)) < 2 ^ uE := by
      rw [V_I hw]
      unfold whole
      rw [Nat.mul_add, Nat.mul_one, Nat.mul_comm] at h7
      omega
    have hr2 : D - whole p * 2 ^ (uE - k) < 2 ^ 53 := by
      rw [hr, hu] at hlt
      have h8 := Nat.lt_of_mul_lt_mul_right hlt
      exact Nat.lt_of_lt_of_le h8 (pmono (by omega))
    have hue := uE_eq
    obtain ⟨f1, f2⟩ := rep (k := k) hr2 (by omega) (by omega)
    rw [← hr] at f1 f2
    refine (V_lt f1 h1).1 ?_
    rw [hv1]
    exact Nat.lt_of_le_of_lt (Nat.le_of_eq f2) hlt
theorem addW_zero {x : Nat} (hx : x < inf) : addW x 0 = x := by unfold addW; rw [V0, Nat.add_zero, Rn_V hx]
theorem mulW_zero (x : Nat) : mulW 0 x = 0 ∧ mulW x 0 = 0 := by
  unfold mulW
  rw [V0, Nat.zero_mul, Nat.mul_zero, Nat.zero_div]
  exact ⟨rfl, rfl⟩
theorem cube_zero (m : Nat) : cubeW 0 m = 0 := by
  have hs : sW 0 = 0 := by unfold sW; rw [I_zero]; exact divW_zero (by decide)
  have ht : tW 0 = 0 := by unfold tW; rw [hs]; exact (mulW_zero _).2
  unfold cubeW
  rw [ht]; exact (mulW_zero _).1
theorem whole_small {p : Nat} (hp : p < inf) (h : p < I 1) : whole p = 0 := by
  have := (V_lt hp (I_lt (by decide))).2 h
  rw [V_I (by decide), Nat.one_mul] at this
  unfold whole
  exact Nat.div_eq_of_lt this
theorem whole_le {p n : Nat} (hp : p < inf) (hn : n < 2 ^ 53) (h : p ≤ I n) : whole p ≤ n := by
  have := (le_I hp hn).1 h
  unfold whole
  exact Nat.div_le_of_le_mul (by rw [Nat.mul_comm]; exact this)
theorem subI {a b : Nat} (ha : a < 2 ^ 53) (hb : b ≤ a) : subW (I a) (I b) = I (a - b) := by
  unfold subW
  rw [V_I ha, V_I (by omega)]
  unfold I
  rw [Nat.sub_mul]
/-- Till the curve has come back it is not above where it began. -/
theorem hi_begin {top S m : Nat} (ht : top < 2 ^ 40) (hm : 1200 ≤ m ∧ m ≤ 9000) (hlt : S < top) : hiW (I top) (-(kOf (subW (I top) (I S)) m : Int)) m ≤ I S := by
  have hh : subW (I top) (I S) ≤ I 1099511627776 := by rw [subI (by omega) (by omega)]; exact I_mono (by omega)
  obtain ⟨k1, k2, -⟩ := kOf_spec hm hh
  generalize kOf (subW (I top) (I S)) m = K at *
  rw [subI (by omega) (by omega)] at k1
  have hK : 0 < K := by
    rcases Nat.eq_zero_or_pos K with c | c
    · subst c
      rw [cube_zero] at k1
      have := I_normal (n := top - S) (by omega)
      have := p2 52
      omega
    · exact c
  have e : (-(K : Int)).natAbs = K := by omega
  unfold hiW
  rw [if_neg (by omega), e]
  split
  · have hc := cube_lt (d := K) (m := m) (by unfold D51; omega) hm.2
    refine Rn_mono ?_
    have h1 := le_V (I_lt (by omega)) hc k1
    rw [V_I (by omega), Nat.sub_mul] at h1
    rw [V_I (by omega)]
    have h2 : S * 2 ^ uE ≤ top * 2 ^ uE := Nat.mul_le_mul_right _ (by omega)
    omega
  · exact Nat.zero_le _
/-- How far a plain controller comes. -/
theorem gain_fl {z m w p S : Nat} (hz : z ≤ p) (hp : p ≤ 65535) (hm : m ≤ 9000) (hS : 1 ≤ S ∧ S ≤ w) (hw : w < 2 ^ 40) : gainW z m (I w) ≤ I (p * m / S + 1) := by
  have hzm : z * m ≤ 65535 * 9000 := Nat.mul_le_mul (by omega) hm
  have hpm : p * m ≤ 65535 * 9000 := Nat.mul_le_mul hp hm
  have hq : p * m / S ≤ p * m := Nat.div_le_self _ _
  have h1 : p * m < S * (p * m / S + 1) := Nat.lt_mul_div_succ _ hS.1
  generalize p * m / S = Q at *
  unfold gainW
  rw [mulI (by omega) (by omega) (by omega)]
  refine divW_le (I_lt (by omega)) (I_lt (by omega)) (I_normal (by omega)) (I_lt (by omega)) (I_normal (by omega)) ?_
  rw [V_I (by omega), V_I (by omega), V_I (by omega)]
  have h2 : z * m ≤ p * m := Nat.mul_le_mul_right _ hz
  have h3 : S * (Q + 1) ≤ w * (Q + 1) := Nat.mul_le_mul_right _ hS.2
  have : z * m ≤ (Q + 1) * w := by rw [Nat.mul_comm _ w]; omega
  rw [Nat.mul_mul_mul_comm, Nat.mul_assoc]
  exact Nat.mul_le_mul_right _ this
/-- What is won is at most what a plain controller is ahead. -/
theorem more_fl {t w z E : Nat} (hw : 1 ≤ w ∧ w < 2 ^ 31) (hE : E < 2 ^ 31) (hz : z ≤ 65535) (hzw : z ≤ w) (ht : t ≤ I E) (hlt : w < E) : moreW t (I w) z ≤ I (E - w) := by
  have hti : t < inf := Nat.lt_of_le_of_lt ht (I_lt (by omega))
  have h1 : subW t (I w) ≤ I (E - w) := by
    rw [← subI (by omega) (by omega)]
    refine Rn_mono ?_
    have := le_V hti (I_lt (by omega)) ht
    omega
  have hEz : (E - w) * z ≤ 2 ^ 31 * 65535 := Nat.mul_le_mul (by omega) hz
  have h2 : mulW (subW t (I w)) (I z) ≤ I ((E - w) * z) := by
    rw [← mulI (by omega) (by omega) (by omega)]
    exact mulW_mono' (I_lt (by omega)) (I_lt (by omega)) h1 (Nat.le_refl _)
  have h3 : mulW (subW t (I w)) (I z) < inf := Nat.lt_of_le_of_lt h2 (I_lt (by omega))
  unfold moreW
  refine divW_le h3 (I_lt (by omega)) (I_normal hw.1) (I_lt (by omega)) (I_normal (by omega)) ?_
  have h4 := le_V h3 (I_lt (by omega)) h2
  rw [V_I (by omega)] at h4
  rw [V_I (by omega), V_I (by omega), ← Nat.mul_assoc]
  refine Nat.mul_le_mul_right _ (Nat.le_trans h4 ?_)
  rw [Nat.mul_right_comm]
  exact Nat.mul_le_mul_left _ hzw
theorem more_zero {w z : Nat} (hw : 1 ≤ w ∧ w < 2 ^ 40) : moreW (I w) (I w) z = 0 := by
  unfold moreW
  rw [subI (by omega) (Nat.le_refl _), Nat.sub_self, I_zero, (mulW_zero _).1]
  exact divW_zero (I_lt (by omega))
end Fl

/-- Behind the cut: i rounds; E is what the statement reckons with. -/
structure Wt (top S m i E : Nat) (s : Cs) : Prop where
  mt : s.mtu = (m : Int)
  th : ¬ s.size < s.thr
  bg : s.began = 10
  lo : (S : Int) ≤ s.size
  hi : s.size ≤ (E : Int)
  pt : s.pt < I 1
  st : (s.ep = -1 ∧ s.clock = 10 ∧ s.size = (S : Int) ∧ s.pk = I top ∧ E = S ∧ i = 0) ∨ (s.ep = 20 ∧ s.clock = 20 ∧ hiW s.og (s.clock - s.ep - s.wt) m ≤ I S ∧ s.pl ≤ I (E - i) ∧ i ≤ E)

theorem wt_climb {n top S m i E : Nat} {s : Cs} (ok : s.Ok n) (hn : n ≤ 9999) (hm : s.mtu = (m : Int)) (lo : (S : Int) ≤ s.size) (hi : s.size ≤ (E : Int)) (hS : 1 ≤ S) (hpt : s.pt < I 1) (hh : hiW s.og (s.clock - s.ep - s.wt) m ≤ I S) (hl : s.pl ≤ I (E - i)) (hE : E < 2 ^ 30) (hiE : i ≤ E) {p z : Nat} (hp : p ≤ 65535) (hz : z ≤ p) (hzs : (z : Int) ≤ s.size) :
    ((climbG z s).size ≤ ((E + p * m / S + 2 : Nat) : Int)) ∧ (climbG z s).pt < I 1 ∧ (climbG z s).pl ≤ I (E + p * m / S + 2 - (i + 1)) := by
  have hm2 := ok.m
  have hmN : s.mtu.toNat = m := by omega
  have hpm : p * m ≤ 65535 * 9000 := Nat.mul_le_mul hp (by omega)
  have hq : p * m / S ≤ p * m := Nat.div_le_self _ _
  obtain ⟨w, hw⟩ : ∃ w : Nat, s.size = (w : Int) := ⟨s.size.toNat, by have := ok.z; omega⟩
  have hsI : sI s = I w := by unfold sI; rw [hw]; rfl
  have hw2 : 1 ≤ w ∧ w < 2 ^ 31 := by omega
  have hzt : ((z : Int)).toNat = z := by omega
  have hgn : gnF z s = gainW z m (I w) := by unfold gnF; rw [hzt, hmN, hsI]
  have hg0 : gnF z s ≤ I (p * m / S + 1) := by rw [hgn]; exact gain_fl hz hp (by omega) ⟨hS, by omega⟩ (by omega)
  generalize p * m / S = Q at *
  have hgi : gnF z s < inf := Nat.lt_of_le_of_lt hg0 (I_lt (by omega))
  have hg2 := gain2_le (e := s.pl) (o := s.og) hgi
  have hpl : addW s.pl (gain2 s.pl s.og (gnF z s)) ≤ I (E - i + (Q + 1)) := addW_le (pl_lt ok (by omega)) (Nat.lt_of_le_of_lt hg2 hgi) (by omega) hl (Nat.le_trans hg2 hg0)
  rw [show E - i + (Q + 1) = E + Q + 2 - (i + 1) by omega] at hpl
  -- the target
  have hz' : 0 ≤ (z : Int) ∧ (z : Int) ≤ 65535 ∧ (z : Int) ≤ s.size := by omega
  have okg := go_ok ok hn (gn_le ok (by omega) hz')
  have hmb := more_b ok hn (gnF z s) ⟨hz'.1, hz'.2.1⟩
  obtain ⟨b1, b2, b3, -⟩ := win_b okg (by omega) hmb
  have epl : (climbG z s).pl = addW s.pl (gain2 s.pl s.og (gnF z s)) := rfl
  have ept : (climbG z s).pt = subW (addW s.pt (moreW (tgF (goF (gnF z s) s)) (sI s) ((z : Int)).toNat)) (I (whole (addW s.pt (moreW (tgF (goF (gnF z s) s)) (sI s) ((z : Int)).toNat)))) := rfl
  have esz : (climbG z s).size = s.size + (whole (addW s.pt (moreW (tgF (goF (gnF z s) s)) (sI s) ((z : Int)).toNat)) : Int) := rfl
  have etg : tgF (goF (gnF z s) s) = tgtW s.og (addW s.pl (gain2 s.pl s.og (gnF z s))) (s.clock - s.ep - s.wt) (sI s) s.mtu.toNat := rfl
  have ett : (goF (gnF z s) s).pt = s.pt := rfl
  rw [ett] at b1 b2 b3
  rw [epl, ept, esz, hw]
  refine ⟨?_, rest_lt b1 ?_, hpl⟩
  · -- how far it rises
    rw [etg, hmN, hsI, hzt] at b1 b2 ⊢
    generalize addW s.pl (gain2 s.pl s.og (gnF z s)) = L at *
    have hpi : s.pt < inf := pt_lt ok
    by_cases c : L ≤ I w
    · have et : tgtW s.og L (s.clock - s.ep - s.wt) (I w) m = I w := by
        have h1 : I w ≤ mulW c15 (I w) := by have := tgt_b (o := 0) (e := 0) (d := 0) (m := 0) (w := w) ⟨by omega, by omega⟩; omega
        have h2 : I S ≤ I w := I_mono (by omega)
        unfold tgtW
        omega
      rw [et, more_zero ⟨by omega, by omega⟩, addW_zero hpi, whole_small hpi hpt]
      omega
    · have et : tgtW s.og L (s.clock - s.ep - s.wt) (I w) m ≤ L := by
        have h2 : I S ≤ I w := I_mono (by omega)
        unfold tgtW
        omega
      have hwE : w < E + Q + 2 - (i + 1) := by
        have : I w < I (E + Q + 2 - (i + 1)) := by omega
        exact (I_lt_iff (by omega) (by omega)).1 this
      have hmo := more_fl (z := z) hw2 (by omega) (by omega) (by omega) (Nat.le_trans et hpl) hwE
      have hwh : whole (addW s.pt (moreW (tgtW s.og L (s.clock - s.ep - s.wt) (I w) m) (I w) z)) ≤ 1 + (E + Q + 2 - (i + 1) - w) :=
        whole_le b1 (by omega) (addW_le hpi (Nat.lt_of_le_of_lt hmo (I_lt (by omega))) (by omega) (Nat.le_of_lt hpt) hmo)
      clear b1 b2 b3 hmo et hmb ept esz etg
      generalize whole _ = q at *
      omega
  · clear hmb ept esz etg
    generalize whole _ = q at *
    omega
end Go.Proofs.Ythpnbajhogoinaa
