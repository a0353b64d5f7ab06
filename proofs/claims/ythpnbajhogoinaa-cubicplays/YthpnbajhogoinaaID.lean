/- The curve, by words. -/
import Derived.Test.YthpnbajhogoinaaIC
namespace Go.Proofs.Ythpnbajhogoinaa
set_option linter.unusedVariables false
set_option maxRecDepth 100000
namespace Fl
open Ieee

abbrev c6 : Nat := 4696837146684686336
abbrev c04 : Nat := 4600877379321698714
abbrev c85 : Nat := 4605831338911806259
abbrev c917 : Nat := 4602943736797786353
abbrev c15 : Nat := 4609434218613702656

theorem addW_mono {x y a b : Nat} (ha : a < inf) (hb : b < inf) (h : x ≤ a) (k : y ≤ b) : addW x y ≤ addW a b :=
  Rn_mono (Nat.add_le_add (le_V (Nat.lt_of_le_of_lt h ha) ha h) (le_V (Nat.lt_of_le_of_lt k hb) hb k))
theorem mulW_mono' {x y a b : Nat} (ha : a < inf) (hb : b < inf) (h : x ≤ a) (k : y ≤ b) : mulW x y ≤ mulW a b :=
  mulW_mono (Nat.lt_of_le_of_lt h ha) (Nat.lt_of_le_of_lt k hb) ha hb h k

/-- So many microseconds as seconds. -/
def sW (d : Nat) : Nat := divW (I d) c6
def qW (d : Nat) : Nat := mulW (sW d) (sW d)
def tW (d : Nat) : Nat := mulW (qW d) (sW d)
def oW (m : Nat) : Nat := mulW c04 (I m)
def cubeW (d m : Nat) : Nat := mulW (tW d) (oW m)

def uH : Nat := ux 3999 1
theorem uH_eq : uH = 3999 := ux_eq 3999
theorem c15_V : V c15 = 3 * 2 ^ uH := by rw [uH_eq]; decide +kernel
theorem top_s : sW 2251799813685248 < inf := by unfold sW I; rw [uE_eq]; decide +kernel
theorem top_q : qW 2251799813685248 < inf := by unfold qW sW mulW I; rw [uE_eq]; decide +kernel
theorem top_t : tW 2251799813685248 < inf := by unfold tW qW sW mulW I; rw [uE_eq]; decide +kernel
theorem top_o : oW 9000 < inf := by unfold oW mulW I; rw [uE_eq]; decide +kernel
theorem top_c : cubeW 2251799813685248 9000 < inf := by unfold cubeW tW qW sW oW mulW I; rw [uE_eq]; decide +kernel
theorem top_h : addW (I 1099511627776) (cubeW 2251799813685248 9000) < inf := by unfold addW cubeW tW qW sW oW mulW I; rw [uE_eq]; decide +kernel
theorem low_c : I 1099511627776 ≤ cubeW 68719476736 1200 := by unfold cubeW tW qW sW oW mulW I; rw [uE_eq]; decide +kernel

theorem sW_mono {a b : Nat} (hb : b < 2 ^ 53) (h : a ≤ b) : sW a ≤ sW b := divW_mono (I_lt hb) (by decide) (by decide) (I_zn a) (I_mono h)
abbrev D51 : Nat := 2251799813685248
theorem s_lt {d : Nat} (h : d ≤ D51) : sW d < inf := Nat.lt_of_le_of_lt (sW_mono (by decide) h) top_s
theorem qW_mono {a b : Nat} (hb : b ≤ D51) (h : a ≤ b) : qW a ≤ qW b := mulW_mono' (s_lt hb) (s_lt hb) (sW_mono (by unfold D51 at hb; omega) h) (sW_mono (by unfold D51 at hb; omega) h)
theorem q_lt {d : Nat} (h : d ≤ D51) : qW d < inf := Nat.lt_of_le_of_lt (qW_mono (Nat.le_refl _) h) top_q
theorem tW_mono {a b : Nat} (hb : b ≤ D51) (h : a ≤ b) : tW a ≤ tW b := mulW_mono' (q_lt hb) (s_lt hb) (qW_mono hb h) (sW_mono (by unfold D51 at hb; omega) h)
theorem t_lt {d : Nat} (h : d ≤ D51) : tW d < inf := Nat.lt_of_le_of_lt (tW_mono (Nat.le_refl _) h) top_t
theorem oW_mono {a b : Nat} (hb : b ≤ 9000) (h : a ≤ b) : oW a ≤ oW b := mulW_mono' (by decide) (I_lt (by omega)) (Nat.le_refl _) (I_mono h)
theorem o_lt {m : Nat} (h : m ≤ 9000) : oW m < inf := Nat.lt_of_le_of_lt (oW_mono (Nat.le_refl _) h) top_o
theorem cubeW_mono {a b m n : Nat} (hb : b ≤ D51) (hn : n ≤ 9000) (h : a ≤ b) (k : m ≤ n) : cubeW a m ≤ cubeW b n := mulW_mono' (t_lt hb) (o_lt hn) (tW_mono hb h) (oW_mono hn k)
theorem cube_top {d m : Nat} (h : d ≤ D51) (hm : m ≤ 9000) : cubeW d m ≤ cubeW D51 9000 := cubeW_mono (Nat.le_refl _) (Nat.le_refl _) h hm
theorem cube_lt {d m : Nat} (h : d ≤ D51) (hm : m ≤ 9000) : cubeW d m < inf := Nat.lt_of_le_of_lt (cube_top h hm) top_c

/-- The least from k on at which it is so, or k + n. -/
def lstP (p : Nat → Bool) : Nat → Nat → Nat
  | 0, k => k
  | n + 1, k => if p k = true then k else lstP p n (k + 1)
theorem lstP_spec (p : Nat → Bool) : ∀ n k, p (k + n) = true → p (lstP p n k) = true ∧ k ≤ lstP p n k ∧ lstP p n k ≤ k + n ∧ ∀ j, k ≤ j → j < lstP p n k → p j = false
  | 0, k, h => ⟨h, Nat.le_refl _, Nat.le_refl _, fun j a b => by unfold lstP at b; omega⟩
  | n + 1, k, h => by
    unfold lstP
    by_cases c : p k = true
    · rw [if_pos c]; exact ⟨c, Nat.le_refl _, by omega, fun j a b => by omega⟩
    · rw [if_neg c]
      obtain ⟨i1, i2, i3, i4⟩ := lstP_spec p n (k + 1) (by rw [show k + 1 + n = k + (n + 1) by omega]; exact h)
      refine ⟨i1, by omega, by omega, fun j a b => ?_⟩
      by_cases e : j = k
      · subst e; simpa using c
      · exact i4 j (by omega) b
def fu : Nat := ux 68719476736 1
theorem fu_eq : fu = 68719476736 := ux_eq _
/-- How long the curve waits. -/
def kOf (h m : Nat) : Nat := lstP (fun k => decide (h ≤ cubeW k m)) fu 0
theorem kOf_spec {h m : Nat} (hm : 1200 ≤ m ∧ m ≤ 9000) (hh : h ≤ I 1099511627776) : h ≤ cubeW (kOf h m) m ∧ kOf h m ≤ 68719476736 ∧ ∀ j, j < kOf h m → cubeW j m < h := by
  have h0 : decide (h ≤ cubeW (0 + fu) m) = true := by
    rw [decide_eq_true_iff, Nat.zero_add, fu_eq]
    exact Nat.le_trans hh (Nat.le_trans low_c (cubeW_mono (by decide) hm.2 (Nat.le_refl _) hm.1))
  obtain ⟨i1, i2, i3, i4⟩ := lstP_spec (fun k => decide (h ≤ cubeW k m)) fu 0 h0
  rw [Nat.zero_add] at i3
  have hfu := fu_eq
  refine ⟨of_decide_eq_true i1, by unfold kOf; omega, fun j hj => ?_⟩
  have := of_decide_eq_false (i4 j (Nat.zero_le _) hj)
  omega
theorem kOf_is {h m k : Nat} (hm : 1200 ≤ m ∧ m ≤ 9000) (hh : h ≤ I 1099511627776) (h1 : h ≤ cubeW k m) (h2 : ∀ j, j < k → cubeW j m < h) : k = kOf h m := by
  obtain ⟨i1, -, i3⟩ := kOf_spec hm hh
  rcases Nat.lt_trichotomy k (kOf h m) with c | c | c
  · have := i3 _ c; omega
  · exact c
  · have := h2 _ c; omega

/-- The curve's height; nothing where it is below nothing. -/
def hiW (o : Nat) (d : Int) (m : Nat) : Nat := if 0 ≤ d then addW o (cubeW d.natAbs m) else if cubeW d.natAbs m ≤ o then subW o (cubeW d.natAbs m) else 0
def tgtW (o e : Nat) (d : Int) (w m : Nat) : Nat := min (max (max (hiW o d m) e) w) (mulW c15 w)
def gainW (z m w : Nat) : Nat := divW (mulW (I z) (I m)) w
def gain2 (e o g : Nat) : Nat := if e < o then mulW g c917 else g
def moreW (t w z : Nat) : Nat := divW (mulW (subW t w) (I z)) w
def whole (p : Nat) : Nat := V p / 2 ^ uE

theorem hi_lt {o m : Nat} {d : Int} (ho : o ≤ I 1099511627776) (hd : d.natAbs ≤ D51) (hm : m ≤ 9000) : hiW o d m < inf := by
  have hoi : o < inf := Nat.lt_of_le_of_lt ho (I_lt (by decide))
  unfold hiW
  split
  · exact Nat.lt_of_le_of_lt (addW_mono (I_lt (by decide)) top_c ho (cube_top hd hm)) top_h
  · split
    · exact Nat.lt_of_le_of_lt (subW_le hoi) hoi
    · decide
/-- One and a half of a whole number. -/
theorem half_rep {n : Nat} (h : n < 2 ^ 50) : mulW c15 (I n) < inf ∧ V (mulW c15 (I n)) = 3 * n * 2 ^ uH := by
  unfold mulW
  rw [c15_V, V_I (by omega)]
  have e : 3 * 2 ^ uH * (n * 2 ^ uE) / 2 ^ uE = 3 * n * 2 ^ uH := by
    rw [← Nat.mul_assoc, Nat.mul_div_cancel _ (p2 uE), Nat.mul_right_comm]
  rw [e]
  exact rep (by omega) (by rw [uH_eq]; decide) (by rw [uH_eq]; decide)
theorem u3999 : 2 ^ uE = 2 * 2 ^ uH := by rw [← Nat.pow_succ', show uE = uH + 1 by rw [uE_eq, uH_eq]]
theorem mulI {a b : Nat} (h : a * b < 2 ^ 53) (ha : a < 2 ^ 53) (hb : b < 2 ^ 53) : mulW (I a) (I b) = I (a * b) := by
  unfold mulW
  rw [V_I ha, V_I hb]
  unfold I
  rw [Nat.mul_mul_mul_comm, ← Nat.mul_assoc, Nat.mul_div_cancel _ (p2 uE)]
theorem gain_le {z m w : Nat} (hz : z ≤ w) (hw : 1 ≤ w ∧ w < 2 ^ 40) (hm : 1 ≤ m ∧ m ≤ 9000) (hz2 : z ≤ 65535) : gainW z m (I w) ≤ I m := by
  have hzm : z * m ≤ 65535 * 9000 := Nat.mul_le_mul hz2 hm.2
  unfold gainW
  rw [mulI (by omega) (by omega) (by omega)]
  refine divW_le (I_lt (by omega)) (I_lt (by omega)) (I_normal hw.1) (I_lt (by omega)) (I_normal hm.1) ?_
  rw [V_I (by omega), V_I (by omega), V_I (by omega)]
  have : z * m ≤ m * w := by rw [Nat.mul_comm z]; exact Nat.mul_le_mul_left _ hz
  rw [Nat.mul_mul_mul_comm, Nat.mul_assoc]
  exact Nat.mul_le_mul_right _ this
theorem mul_small {g c : Nat} (hg : g < inf) (hc : V c ≤ 2 ^ uE) : mulW g c ≤ g := by
  refine Rn_le hg ?_
  refine Nat.div_le_of_le_mul ?_
  rw [Nat.mul_comm]
  exact Nat.mul_le_mul_right _ hc
theorem c917_V : V c917 ≤ 2 ^ uE := by rw [uE_eq]; decide +kernel
theorem c85_V : V c85 ≤ 2 ^ uE := by rw [uE_eq]; decide +kernel
theorem gain2_le {e o g : Nat} (hg : g < inf) : gain2 e o g ≤ g := by
  unfold gain2
  split
  · exact mul_small hg c917_V
  · exact Nat.le_refl _
theorem tgt_b {o e w m : Nat} {d : Int} (hw : 1 ≤ w ∧ w < 2 ^ 40) : I w ≤ tgtW o e d (I w) m ∧ tgtW o e d (I w) m ≤ mulW c15 (I w) := by
  unfold tgtW
  have h1 : I w ≤ mulW c15 (I w) := by
    refine V_le (I_lt (by omega)) (half_rep (by omega)).1 ?_
    rw [(half_rep (by omega)).2, V_I (by omega), u3999, ← Nat.mul_assoc, Nat.mul_comm w 2]
    exact Nat.mul_le_mul_right _ (by omega)
  omega
theorem tgt_lt {o e w m : Nat} {d : Int} (hw : 1 ≤ w ∧ w < 2 ^ 40) : tgtW o e d (I w) m < inf := Nat.lt_of_le_of_lt (tgt_b hw).2 (half_rep (by omega)).1
/-- What is won is half of what was acknowledged, at most. -/
theorem halfI {n : Nat} (h : n < 2 ^ 53) : Rn (n * 2 ^ uH) < inf ∧ V (Rn (n * 2 ^ uH)) = n * 2 ^ uH := rep h (by rw [uH_eq]; decide) (by rw [uH_eq]; decide)
theorem half_normal {n : Nat} (h : 1 ≤ n) : 2 ^ 52 ≤ Rn (n * 2 ^ uH) := by
  refine le_Rn (by decide) ?_
  obtain ⟨k, hk, e⟩ := V52
  rw [e, ← Nat.pow_add]
  refine Nat.le_trans (pmono ?_) (Nat.le_mul_of_pos_left _ h)
  rw [uH_eq]; omega
theorem way_le {t w : Nat} (hw : 1 ≤ w ∧ w < 2 ^ 40) (ht : t ≤ mulW c15 (I w)) : subW t (I w) ≤ Rn (w * 2 ^ uH) := by
  refine Rn_mono ?_
  have h1 := le_V (Nat.lt_of_le_of_lt ht (half_rep (by omega)).1) (half_rep (by omega)).1 ht
  rw [(half_rep (by omega)).2] at h1
  rw [V_I (by omega), u3999, ← Nat.mul_assoc, Nat.mul_comm w 2]
  rw [Nat.mul_assoc] at h1 ⊢
  generalize w * 2 ^ uH = x at *
  omega
theorem more_le {t w z : Nat} (hw : 1 ≤ w ∧ w < 2 ^ 30) (hz : z ≤ 65535) (h1 : I w ≤ t) (ht : t ≤ mulW c15 (I w)) : moreW t (I w) z ≤ Rn (z * 2 ^ uH) := by
  have hz2 : I z < inf := I_lt (by omega)
  have hway := way_le ⟨hw.1, by omega⟩ ht
  have hwi := (halfI (n := w) (by omega)).1
  have hp : mulW (subW t (I w)) (I z) ≤ Rn (w * z * 2 ^ uH) := by
    refine Nat.le_trans (mulW_mono' hwi hz2 hway (Nat.le_refl _)) (Nat.le_of_eq ?_)
    unfold mulW
    rw [(halfI (n := w) (by omega)).2, V_I (by omega), Nat.mul_mul_mul_comm, ← Nat.mul_assoc, Nat.mul_div_cancel _ (p2 uE)]
  have hwz : w * z < 2 ^ 53 := by
    have := Nat.mul_le_mul (Nat.le_of_lt hw.2) hz
    omega
  have hpi : mulW (subW t (I w)) (I z) < inf := Nat.lt_of_le_of_lt hp (halfI hwz).1
  unfold moreW
  rcases Nat.eq_zero_or_pos z with c | c
  · subst c
    have e : mulW (subW t (I w)) (I 0) = 0 := by
      rw [I_zero]
      unfold mulW
      rw [V0, Nat.mul_zero, Nat.zero_div]; rfl
    rw [e, divW_zero (I_lt (by omega))]
    exact Nat.zero_le _
  · refine divW_le hpi (I_lt (by omega)) (I_normal hw.1) (halfI (by omega)).1 (half_normal c) ?_
    have := le_V hpi (halfI hwz).1 hp
    rw [(halfI hwz).2] at this
    rw [(halfI (n := z) (by omega)).2, V_I (by omega), ← Nat.mul_assoc]
    refine Nat.mul_le_mul_right _ (Nat.le_trans this (Nat.le_of_eq ?_))
    rw [Nat.mul_comm w, Nat.mul_right_comm]
/-- The part that is not whole. -/
theorem part_le {p g z : Nat} (hp : p ≤ I 1) (hz : z ≤ 65535) (hg : g ≤ Rn (z * 2 ^ uH)) : addW p g < inf ∧ 2 * whole (addW p g) ≤ z + 2 := by
  have hpi : p < inf := Nat.lt_of_le_of_lt hp (I_lt (by decide))
  have hgi : g < inf := Nat.lt_of_le_of_lt hg (halfI (by omega)).1
  have h1 := (le_I hpi (by decide)).1 hp
  have h2 := le_V hgi (halfI (by omega)).1 hg
  rw [(halfI (by omega)).2] at h2
  have hr := halfI (n := z + 2) (by omega)
  have h3 : addW p g ≤ Rn ((z + 2) * 2 ^ uH) := by
    refine Rn_mono ?_
    rw [Nat.add_mul z 2, ← u3999]
    omega
  have h4 : addW p g < inf := Nat.lt_of_le_of_lt h3 hr.1
  refine ⟨h4, ?_⟩
  have h5 := le_V h4 hr.1 h3
  rw [hr.2] at h5
  unfold whole
  have h6 := Nat.div_mul_le_self (V (addW p g)) (2 ^ uE)
  generalize V (addW p g) / 2 ^ uE = q at *
  rw [u3999, ← Nat.mul_assoc, Nat.mul_comm q 2] at h6
  exact Nat.le_of_mul_le_mul_right (Nat.le_trans h6 h5) (p2 uH)
theorem rest_le {p : Nat} (hp : p < inf) (hw : whole p < 2 ^ 53) : I (whole p) ≤ p ∧ subW p (I (whole p)) ≤ I 1 := by
  have h6 := Nat.div_mul_le_self (V p) (2 ^ uE)
  have h7 := Nat.lt_mul_div_succ (V p) (p2 uE)
  constructor
  · refine V_le (I_lt hw) hp ?_
    rw [V_I hw]; exact h6
  · refine Rn_mono ?_
    rw [V_I hw, Nat.one_mul]
    unfold whole
    rw [Nat.mul_add, Nat.mul_one, Nat.mul_comm] at h7
    omega
end Fl
end Go.Proofs.Ythpnbajhogoinaa
