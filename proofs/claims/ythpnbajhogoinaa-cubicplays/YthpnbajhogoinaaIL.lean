/- climb. -/
import Derived.Test.YthpnbajhogoinaaIK
namespace Go.Proofs.Ythpnbajhogoinaa
open Go.RowKit Fl
set_option linter.unusedVariables false
set_option maxRecDepth 100000
set_option maxHeartbeats 4000000
attribute [local go_sem] run_store_float

theorem ofI {z : Int} (h : 0 ≤ z) : floatOfInt .f64 z = I z.toNat := by
  have e : ((z.toNat : Nat) : Int) = z := by omega
  rw [← ofNat_eq, e]
/-- What the way up holds, once the curve has begun. -/
structure Clm (b : Nat) (S : Cs) (z : Int) : Prop where
  sz : floatOfInt .f64 S.size = sI S
  zz : floatOfInt .f64 z = I z.toNat
  mm : floatOfInt .f64 S.mtu = I S.mtu.toNat
  m1 : ∀ w, (binOp .mul 31 (.float .f64 (I z.toNat)) (.float .f64 (I S.mtu.toNat))).run Try.prog w = .ok (.float .f64 (mulW (I z.toNat) (I S.mtu.toNat))) w
  q1 : ∀ w, (binOp .quo 31 (.float .f64 (mulW (I z.toNat) (I S.mtu.toNat))) (.float .f64 (sI S))).run Try.prog w = .ok (.float .f64 (gnF z S)) w
  go : ∀ W, CB W b S → Calls Try.prog 50 #[cur b, fv (gnF z S)] W fun e w' => e = .returned (.tuple #[]) ∧ CB w' b (goF (gnF z S) S) ∧ W.grownBy w' (some b)
  tg : ∀ W, CB W b (goF (gnF z S) S) → Calls Try.prog 51 #[cur b, .int .i64 S.clock, fv (sI S), .int .i64 S.mtu] W fun e w' => e = .returned (fv (tgF (goF (gnF z S) S))) ∧ ∃ m, w' = W.drewN m
  s1 : ∀ w, (binOp .sub 31 (.float .f64 (tgF (goF (gnF z S) S))) (.float .f64 (sI S))).run Try.prog w = .ok (.float .f64 (subW (tgF (goF (gnF z S) S)) (sI S))) w
  m2 : ∀ w, (binOp .mul 31 (.float .f64 (subW (tgF (goF (gnF z S) S)) (sI S))) (.float .f64 (I z.toNat))).run Try.prog w = .ok (.float .f64 (mulW (subW (tgF (goF (gnF z S) S)) (sI S)) (I z.toNat))) w
  q2 : ∀ w, (binOp .quo 31 (.float .f64 (mulW (subW (tgF (goF (gnF z S) S)) (sI S)) (I z.toNat))) (.float .f64 (sI S))).run Try.prog w = .ok (.float .f64 (moreW (tgF (goF (gnF z S) S)) (sI S) z.toNat)) w
  wn : ∀ W, CB W b (goF (gnF z S) S) → Calls Try.prog 52 #[ptr b, fv (moreW (tgF (goF (gnF z S) S)) (sI S) z.toNat)] W fun e w' => e = .returned (.tuple #[]) ∧ CB w' b (climbG z S) ∧ W.grownBy w' (some b)

theorem way_lt {n : Nat} {S : Cs} (h : S.Ok n) (hn : n ≤ 9999) (g : Nat) {z : Int} (hz : 0 ≤ z ∧ z ≤ 65535) : mulW (subW (tgF (goF g S)) (sI S)) (I z.toNat) < inf := by
  obtain ⟨-, t2⟩ := go_tg h hn g
  have hs := h.z
  have hm := h.m
  have h1 := way_le (w := S.size.toNat) ⟨by omega, by omega⟩ t2
  have hw := halfI (n := S.size.toNat) (by omega)
  refine Nat.lt_of_le_of_lt (mulW_mono' hw.1 (I_lt (by omega)) h1 (Nat.le_refl _)) ?_
  unfold mulW
  rw [hw.2, V_I (by omega), Nat.mul_mul_mul_comm, ← Nat.mul_assoc, Nat.mul_div_cancel _ (p2 uE)]
  refine (halfI ?_).1
  have : S.size.toNat * z.toNat ≤ 700000000 * 65535 := Nat.mul_le_mul (by omega) (by omega)
  omega
theorem clm {n : Nat} {S : Cs} (ok : S.Ok n) (hn : n ≤ 9999) (he : 0 ≤ S.ep) {z : Int} (hz : 0 ≤ z ∧ z ≤ 65535 ∧ z ≤ S.size) (b : Nat) : Clm b S z := by
  have hs := ok.z
  have hm := ok.m
  have hg := gn_le ok (by omega) hz
  have hgi : gnF z S < inf := Nat.lt_of_le_of_lt hg (I_lt (by decide))
  have okg := go_ok ok hn hg
  have hsi := sI_lt ok (by omega)
  have hnm := sI_nm ok
  have hzi : I z.toNat < inf := I_lt (by omega)
  have hmi : I S.mtu.toNat < inf := I_lt (by omega)
  have hmu : mulW (I z.toNat) (I S.mtu.toNat) < inf := by
    have : z.toNat * S.mtu.toNat ≤ 65535 * 9000 := Nat.mul_le_mul (by omega) (by omega)
    rw [mulI (by omega) (by omega) (by omega)]
    exact I_lt (by omega)
  obtain ⟨t1, t2⟩ := go_tg ok hn (gnF z S)
  have hti : tgF (goF (gnF z S) S) < inf := Nat.lt_of_le_of_lt t2 (half_rep (n := S.size.toNat) (by omega)).1
  have hwi : subW (tgF (goF (gnF z S) S)) (sI S) < inf := Nat.lt_of_le_of_lt (subW_le hti) hti
  have hway := way_lt ok hn (gnF z S) ⟨hz.1, hz.2.1⟩
  have hmb := more_b ok hn (gnF z S) ⟨hz.1, hz.2.1⟩
  obtain ⟨p1, p2, r1, r2⟩ := win_b okg (by omega) hmb
  refine ⟨ofI (by omega), ofI hz.1, ofI (by omega), fmul hzi hmi, fdiv hmu hsi hnm, ?_, ?_, fsub hti hsi t1, fmul hwi hzi, fdiv hway hsi hnm, ?_⟩
  · intro W hW
    exact goOn_any b S _ W hW hgi (pl_lt ok (by omega)) (og_lt ok (by omega))
  · intro W hW
    refine target_any b (goF (gnF z S) S) W hW ⟨ok.c, ok.e, ok.w⟩ ok.m (Nat.le_trans ok.o (big_I (by omega))) (pl_lt okg (by omega)) (okg.l0 he) ?_
    show 1 ≤ S.size.toNat ∧ S.size.toNat < 2 ^ 40
    omega
  · intro W hW
    refine win_any b (goF (gnF z S) S) _ W hW (pt_lt okg) (Nat.lt_of_le_of_lt hmb (halfI (by omega)).1) p1 ?_ r1 ?_
    · generalize whole _ = q at *
      omega
    · show 0 ≤ S.size ∧ S.size ≤ 1099511627776
      omega

theorem climb_on (b : Nat) (s : Cs) (z : Int) (w : World) (h : CB w b s) (n : Nat) (ok : s.Ok n) (hn : n ≤ 9999) (hz : 0 ≤ z ∧ z ≤ 65535 ∧ z ≤ s.size) (he : 0 ≤ s.ep) : Calls Try.prog 47 #[ptr b, .int .i64 z] w fun e w' => e = .returned (.tuple #[]) ∧ CB w' b (climbG z s) ∧ w.grownBy w' (some b) := by
  obtain ⟨sz, zz, mm, m1, q1, go, tg, s1, m2, q2, wn⟩ := clm ok hn he hz b
  obtain ⟨t, c0, c1, c2, -⟩ := h.full
  obtain ⟨-, c7, -⟩ := h.more
  have hlt : ¬ s.ep < 0 := by omega
  have H := hide h
  have P1 : Hid (∀ W, CB W b (goF (gnF z s) s) → W.cell? ⟨b, 0, none⟩ = some (.int .i64 s.mtu) ∧ W.cell? ⟨b, 1, none⟩ = some (.int .i64 s.clock)) := fun W hW => ⟨hW.full.2.1, hW.full.2.2.1⟩
  clear ok hz hn h
  generalize climbG z s = s3 at *
  generalize moreW (tgF (goF (gnF z s) s)) (sI s) z.toNat = y5 at *
  generalize mulW (subW (tgF (goF (gnF z s) s)) (sI s)) (I z.toNat) = y4 at *
  generalize subW (tgF (goF (gnF z s) s)) (sI s) = y3 at *
  generalize tgF (goF (gnF z s) s) = y2 at *
  generalize goF (gnF z s) s = s2 at *
  generalize gnF z s = y1 at *
  generalize mulW (I z.toNat) (I s.mtu.toNat) = y0 at *
  generalize I s.mtu.toNat = im at *
  generalize I z.toNat = iz at *
  generalize sI s = is at *
  generalize hmt : s.mtu = mt at *
  generalize hsz : s.size = sze at *
  generalize hep : s.ep = ep at *
  generalize hcl : s.clock = cl at *
  clear hmt hsz hep hcl he
  go_enter Try.func47, Try.ntmps47
  go_wp2_with fail
  refine (go _ (unhide H)).mono ?_
  rintro e W1 ⟨rfl, h1, g1⟩
  have G1 := hide g1
  obtain ⟨t', -⟩ := h1.full
  obtain ⟨e0, e1⟩ := unhide P1 W1 h1
  have TG := fun q => tg (W1.drewN q) h1
  have H1 := hide h1
  clear go t c0 c1 c2 c7 h1 g1 P1 tg H
  go_wp2_with fail
  go_quiet (exact Calls.quiet_of (TG _))
  have WN := wn (W1.drewN nq) (unhide H1)
  have G2 := hide (grown_drewS' (unhide G1) nq)
  clear TG wn H1 G1
  go_wp2_with fail
  refine WN.mono ?_
  rintro e W2 ⟨rfl, h2, g2⟩
  go_wp2_with fail
  refine bodyPost_end (results_none rfl _ _ _) rfl ?_
  exact ⟨rfl, h2, gtrans (unhide G2) g2⟩
end Go.Proofs.Ythpnbajhogoinaa
