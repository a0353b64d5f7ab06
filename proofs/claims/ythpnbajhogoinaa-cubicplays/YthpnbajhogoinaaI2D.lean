/- What the document's Acked reckons. -/
import Derived.Test.YthpnbajhogoinaaI2C
namespace Go.Proofs.Ythpnbajhogoinaa
open Go.RowKit Fl
set_option linter.unusedVariables false
set_option maxRecDepth 100000
set_option maxHeartbeats 4000000

abbrev hiOf (s : Cs) : Nat := hiW s.og (s.clock - s.ep - s.wt) s.mtu.toNat
abbrev hrOf (s : Cs) : Nat := hraw s.og (s.clock - s.ep - s.wt) s.mtu.toNat
abbrev cuOf (s : Cs) : Nat := sg (s.clock - s.ep - s.wt) (cubeW (s.clock - s.ep - s.wt).natAbs s.mtu.toNat)
/-- Each operation; g the gain, L the plain controller's, T the target, P what is won. -/
structure Rck (s : Cs) (z : Int) (g L T P : Nat) : Prop where
  sz : floatOfInt .f64 s.size = sI s
  zz : floatOfInt .f64 z = I z.toNat
  mm : floatOfInt .f64 s.mtu = I s.mtu.toNat
  m1 : ∀ w, (binOp .mul 31 (.float .f64 (I z.toNat)) (.float .f64 (I s.mtu.toNat))).run Try.prog w = .ok (.float .f64 (mulW (I z.toNat) (I s.mtu.toNat))) w
  q1 : ∀ w, (binOp .quo 31 (.float .f64 (mulW (I z.toNat) (I s.mtu.toNat))) (.float .f64 (sI s))).run Try.prog w = .ok (.float .f64 g) w
  ol : (FloatKind.f64.format.order s.pl s.og == some .lt) = decide (s.pl < s.og)
  g9 : ∀ w, (binOp .mul 31 (.float .f64 g) (.float .f64 c917)).run Try.prog w = .ok (.float .f64 (mulW g c917)) w
  ad : ∀ w, (binOp .add 31 (.float .f64 s.pl) (.float .f64 (gain2 s.pl s.og g))).run Try.prog w = .ok (.float .f64 L) w
  cb : ∀ W, Calls Try.prog 45 #[.int .i64 (s.clock - s.ep - s.wt), .int .i64 s.mtu] W fun e w' => e = .returned (fv (cuOf s)) ∧ w' = W
  ha : ∀ w, (binOp .add 31 (.float .f64 s.og) (.float .f64 (cuOf s))).run Try.prog w = .ok (.float .f64 (hrOf s)) w
  o14 : (FloatKind.f64.format.order (hrOf s) L == some .lt) = decide (hiOf s < L)
  hH : ¬ hiOf s < L → hrOf s = hiOf s
  o16 : (FloatKind.f64.format.order (max (hiOf s) L) (sI s) == some .lt) = decide (max (hiOf s) L < sI s)
  tp : ∀ w, (binOp .mul 31 (.float .f64 c15) (.float .f64 (sI s))).run Try.prog w = .ok (.float .f64 (mulW c15 (sI s))) w
  o19 : (FloatKind.f64.format.order (max (max (hiOf s) L) (sI s)) (mulW c15 (sI s)) == some .gt) = decide (mulW c15 (sI s) < max (max (hiOf s) L) (sI s))
  tge : T = min (max (max (hiOf s) L) (sI s)) (mulW c15 (sI s))
  s1 : ∀ w, (binOp .sub 31 (.float .f64 T) (.float .f64 (sI s))).run Try.prog w = .ok (.float .f64 (subW T (sI s))) w
  m2 : ∀ w, (binOp .mul 31 (.float .f64 (subW T (sI s))) (.float .f64 (I z.toNat))).run Try.prog w = .ok (.float .f64 (mulW (subW T (sI s)) (I z.toNat))) w
  q2 : ∀ w, (binOp .quo 31 (.float .f64 (mulW (subW T (sI s)) (I z.toNat))) (.float .f64 (sI s))).run Try.prog w = .ok (.float .f64 (moreW T (sI s) z.toNat)) w
  a2 : ∀ w, (binOp .add 31 (.float .f64 s.pt) (.float .f64 (moreW T (sI s) z.toNat))).run Try.prog w = .ok (.float .f64 P) w
  cv : ∀ W : World, (convert 31 2 (.float .f64 P)).run Try.prog W = .ok (.int .i64 ((whole P : Nat) : Int)) W
  s3 : ∀ w, (binOp .sub 31 (.float .f64 P) (.float .f64 (floatOfInt .f64 ((whole P : Nat) : Int)))).run Try.prog w = .ok (.float .f64 (subW P (I (whole P)))) w
  ww : IntKind.i64.wrap (s.size + (whole P : Int)) = s.size + (whole P : Int)
  d1 : IntKind.i64.wrap (s.clock - s.ep) = s.clock - s.ep
  d2 : IntKind.i64.wrap (s.clock - s.ep - s.wt) = s.clock - s.ep - s.wt
theorem conv_any {P : Nat} (h : P < inf) (hw : whole P ≤ 65536) (W : World) : (convert 31 2 (.float .f64 P)).run Try.prog W = .ok (.int .i64 ((whole P : Nat) : Int)) W := by
  refine run_convert_float_int W _ _ .f64 .i64 _ _ (by kernel_rfl) (by kernel_rfl) ?_
  unfold floatToIntVal
  rw [show (FloatKind.f64.decode P).toInt .zero = some ((whole P : Nat) : Int) from toInt_eq h]
  dsimp only
  rw [if_pos]
  generalize whole P = q at *
  exact ⟨by show (-9223372036854775808 : Int) ≤ (q : Int); omega, by show (q : Int) ≤ 9223372036854775807; omega⟩
theorem rck {n : Nat} {S : Cs} (ok : S.Ok n) (hn : n ≤ 9999) (he : 0 ≤ S.ep) {z : Int} (hz : 0 ≤ z ∧ z ≤ 65535 ∧ z ≤ S.size) : Rck S z (gnF z S) (goF (gnF z S) S).pl (tgF (goF (gnF z S) S)) (addW S.pt (moreW (tgF (goF (gnF z S) S)) (sI S) z.toNat)) := by
  obtain ⟨k1, k2, k3, k4, k5, -, -, k6, k7, k8, -⟩ := clm ok hn he hz 0
  have hs := ok.z
  have hm := ok.m
  have hg := gn_le ok (by omega) hz
  have hmb := more_b ok hn (gnF z S) ⟨hz.1, hz.2.1⟩
  generalize gnF z S = g at *
  have hgi : g < inf := Nat.lt_of_le_of_lt hg (I_lt (by decide))
  have okg := go_ok ok hn hg
  have hsi := sI_lt ok (by omega)
  have hpl := pl_lt ok (by omega)
  have hog := og_lt ok (by omega)
  have hLi : (goF g S).pl < inf := pl_lt okg (by omega)
  have hL0 : 0 < (goF g S).pl := okg.l0 he
  have hd := ok.c
  have hep := ok.e
  have hwt := ok.w
  have hoB : S.og ≤ I 1099511627776 := Nat.le_trans ok.o (big_I (by omega))
  have hdn : (S.clock - S.ep - S.wt).natAbs ≤ D51 := by unfold D51; omega
  have hmn : S.mtu.toNat ≤ 9000 := by omega
  have em : ((S.mtu.toNat : Nat) : Int) = S.mtu := by omega
  have hhi : hiOf S < inf := hi_lt hoB hdn hmn
  obtain ⟨p1, p2, r1, r2⟩ := win_b okg (by omega) hmb
  have ept : (goF g S).pt = S.pt := rfl
  rw [ept] at p1 p2 r1 r2
  have htop : mulW c15 (sI S) < inf := (half_rep (n := S.size.toNat) (by omega)).1
  have g2 := gain2_le (e := S.pl) (o := S.og) hgi
  have hc := cube_lt hdn hmn
  have hH : ¬ hiOf S < (goF g S).pl → hrOf S = hiOf S := by
    intro k
    show hraw _ _ _ = hiW _ _ _
    unfold hraw hiW
    by_cases c : 0 ≤ S.clock - S.ep - S.wt
    · rw [if_pos c, if_pos c]
    · rw [if_neg c, if_neg c]
      by_cases c2 : cubeW (S.clock - S.ep - S.wt).natAbs S.mtu.toNat ≤ S.og
      · rw [if_pos c2, if_pos c2]
      · exfalso
        have e0 : hiOf S = 0 := by show hiW _ _ _ = 0; unfold hiW; rw [if_neg c, if_neg c2]
        omega
  have o14 : (FloatKind.f64.format.order (hrOf S) (goF g S).pl == some .lt) = decide (hiOf S < (goF g S).pl) := by
    by_cases c : hrOf S = hiOf S
    · rw [c]; exact olt hhi hLi
    · have hlt : hiOf S < (goF g S).pl := by
        by_cases k : hiOf S < (goF g S).pl
        · exact k
        · exact absurd (hH k) c
      rw [decide_eq_true hlt]
      have e : hrOf S = neg (subW (cubeW (S.clock - S.ep - S.wt).natAbs S.mtu.toNat) S.og) := by
        show hraw _ _ _ = _
        unfold hraw
        have c' : ¬ hraw S.og (S.clock - S.ep - S.wt) S.mtu.toNat = hiW S.og (S.clock - S.ep - S.wt) S.mtu.toNat := c
        unfold hraw hiW at c'
        by_cases d1 : 0 ≤ S.clock - S.ep - S.wt
        · rw [if_pos d1, if_pos d1] at c'; exact absurd rfl c'
        · rw [if_neg d1] at c' ⊢
          by_cases d2 : cubeW (S.clock - S.ep - S.wt).natAbs S.mtu.toNat ≤ S.og
          · rw [if_pos d2, if_neg d1, if_pos d2] at c'; exact absurd rfl c'
          · rw [if_neg d2]
      rw [e, show FloatKind.f64.format.order (neg (subW (cubeW (S.clock - S.ep - S.wt).natAbs S.mtu.toNat) S.og)) (goF g S).pl = some .lt from order_neg (Nat.lt_of_le_of_lt (subW_le hc) hc) hLi hL0]
      rfl
  have hmx : max (hiOf S) (goF g S).pl < inf := by omega
  have hmx2 : max (max (hiOf S) (goF g S).pl) (sI S) < inf := by omega
  have hwh : whole (addW S.pt (moreW (tgF (goF g S)) (sI S) z.toNat)) ≤ 65536 := by omega
  have CU := fun W => rcube_any (S.clock - S.ep - S.wt) hdn S.mtu.toNat hmn W
  rw [em] at CU
  refine ⟨k1, k2, k3, k4, k5, olt hpl hog, fmul hgi (by decide), fadd hpl (Nat.lt_of_le_of_lt g2 hgi), CU, h_add hog hdn hmn, o14, hH, olt hmx hsi, fmul (by decide) hsi, ogt hmx2 htop, rfl, k6, k7, k8, fadd (pt_lt ok) (Nat.lt_of_le_of_lt hmb (halfI (by omega)).1), ?_, ?_, ?_, ?_, ?_⟩
  · exact conv_any p1 hwh
  · intro W
    rw [ofNat_eq]
    exact fsub p1 (I_lt (by omega)) r1 W
  · generalize addW S.pt (moreW (tgF (goF g S)) (sI S) z.toNat) = P at *
    generalize whole P = q at *
    rw [IntKind.wrap_i64]; omega
  · rw [IntKind.wrap_i64]; omega
  · rw [IntKind.wrap_i64]; omega
theorem climbG_eq (z : Int) (s : Cs) : climbG z s = { goF (gnF z s) s with size := s.size + (whole (addW s.pt (moreW (tgF (goF (gnF z s) s)) (sI s) z.toNat)) : Int), pt := subW (addW s.pt (moreW (tgF (goF (gnF z s) s)) (sI s) z.toNat)) (I (whole (addW s.pt (moreW (tgF (goF (gnF z s) s)) (sI s) z.toNat)))) } := rfl
end Go.Proofs.Ythpnbajhogoinaa
