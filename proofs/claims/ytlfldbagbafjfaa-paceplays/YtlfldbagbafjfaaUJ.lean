/- Two pacers side by side; PaceWhen. -/
import Derived.Test.YtlfldbagbafjfaaUH
import Derived.Test.YtlfldbagbafjfaaUA2
import Derived.Deep.DeepCutAuto
namespace Go.Proofs.Ytlfldbagbafjfaa
open Go.RowKit
set_option linter.unusedVariables false
set_option maxRecDepth 100000
set_option maxHeartbeats 4000000

/-- Two pacers beside one another. -/
structure TQ (w wr : World) (a b : Nat) (s t : Ps) : Prop where
  qa : QE w wr a s
  qb : QE w wr b t
  ne : a ≠ b
theorem TQ.keep {w wr wr' : World} {a b : Nat} {s t : Ps} (h : TQ w wr a b s t) (g : wr.grownBy wr' none) : TQ w wr' a b s t := ⟨h.qa.keep g, h.qb.keep g, h.ne⟩
theorem TQ.drew {w wr : World} {a b : Nat} {s t : Ps} (h : TQ w wr a b s t) : TQ w wr.drew a b s t := h.keep ⟨rfl, rfl, rfl, Nat.le_refl _, fun _ _ _ => rfl⟩
theorem TQ.swap {w wr : World} {a b : Nat} {s t : Ps} (h : TQ w wr a b s t) : TQ w wr b a t s := ⟨h.qb, h.qa, h.ne.symm⟩
theorem TQ.toA {w wr wr' : World} {a b : Nat} {s t s' : Ps} (h : TQ w wr a b s t) (q : QE w wr' a s') (g : wr.grownBy wr' (some a)) : TQ w wr' a b s' t := ⟨q, h.qb.far g h.ne.symm h.qa.new, h.ne⟩
theorem TQ.toB {w wr wr' : World} {a b : Nat} {s t t' : Ps} (h : TQ w wr a b s t) (q : QE w wr' b t') (g : wr.grownBy wr' (some b)) : TQ w wr' a b s t' := ⟨h.qa.far g h.ne h.qb.new, q, h.ne⟩
theorem tq_left {w wr : World} {a b : Nat} {s t : Ps} (h : TQ w wr a b s t) (x : Int) : Calls Try.prog 19 #[ptr a, .int .i64 x] wr fun e w' => e = .returned (.int .i64 (fillF x s).left) ∧ TQ w w' a b (fillF x s) t :=
  (qe_left h.qa x).mono fun e w' ⟨he, q, g⟩ => ⟨he, h.toA q g⟩
theorem tq_when {w wr : World} {a b : Nat} {s t : Ps} (h : TQ w wr a b s t) (x z : Int) : Calls Try.prog 15 #[ptr a, .int .i64 x, .int .i64 z] wr fun e w' => e = .returned (.int .i64 (whenF x z s)) ∧ TQ w w' a b (fillF x s) t :=
  (qe_when h.qa x z).mono fun e w' ⟨he, q, g⟩ => ⟨he, h.toA q g⟩
theorem tq_played {w wr : World} {a b : Nat} {s t : Ps} (h : TQ w wr a b s t) (a0 : Option Addr) (len cap : Nat) (ol : List OpE) (hi : IsOps w a0 len cap ol) : Calls Try.prog 21 #[ptr a, .slice a0 len cap] wr fun e w' => e = .returned (.tuple #[]) ∧ TQ w w' a b (playF (ol.take 2000) s) t :=
  (played_any h.qa a0 len cap ol hi).mono fun e w' ⟨he, p⟩ => ⟨he, h.toA p.q p.g⟩
theorem two_start {w wr : World} (g : w.grownBy wr none) (n : Int) (hn : i64B n) : Calls Try.prog 10 #[.int .i64 n] wr fun e w' => ∃ a, e = .returned (ptr a) ∧ QE w w' a (ps0 (bF n)) ∧ a < w'.heap.size :=
  (qe_pacer g n hn).mono fun e w' ⟨he, q, _⟩ => ⟨_, he, q, q.at_.lt⟩

theorem ret_dec {p : Prop} [Decidable p] (h : p) : Ending.returned (.bool (decide p)) = Ending.returned (.bool true) := by rw [decide_eq_true h]

theorem when_walk (n : Int) (a0 : Option Addr) (len cap : Nat) (ol : List OpE) (z : Int) (w : World) (hn : i64B n) (h : IsOps w a0 len cap ol) (hz : i64B z) :
    Calls Try.prog 4 #[.int .i64 n, .slice a0 len cap, .int .i64 z] w fun e w' => e = .returned (.bool true) ∧ w.grownBy w' none := by
  have sh := shown_any w
  have HO := hide h
  have bu := burst_any n hn
  have NW := hide (fun (W : World) (g : w.grownBy W none) => two_start g n hn)
  have bf := bF_fits n
  clear h
  go_enter Try.func4, Try.ntmps4
  go_wp2_with fail
  refine sh.mono ?_
  rintro e w1 ⟨rfl, g1⟩
  clear sh
  go_wp2_with fail
  refine (unhide NW w1 g1).mono ?_
  rintro e w2 ⟨a, rfl, q2, l2⟩
  clear g1
  go_wp2_with fail
  refine (qe_pacer q2.grown n hn).mono ?_
  rintro e w3 ⟨rfl, q3, g3⟩
  have T := TQ.mk (q2.keep g3) q3 (by omega)
  clear q2 q3 g3 NW
  generalize w2.heap.size = b at *
  go_wp2_with fail
  refine (tq_played T a0 len cap ol (unhide HO)).mono ?_
  rintro e w4 ⟨rfl, T4⟩
  clear T
  go_wp2_with fail
  refine (tq_played T4.swap a0 len cap ol (unhide HO)).mono ?_
  rintro e w5 ⟨rfl, T5⟩
  have T5 := T5.swap
  clear T4
  obtain ⟨P, hP⟩ : ∃ P, P = playF (ol.take 2000) (ps0 (bF n)) := ⟨_, rfl⟩
  have hb : P.burst = bF n := by rw [hP]; exact play_burst _ _
  rw [← hP] at T5
  clear hP
  have ok := T5.qa.ok
  have e0 : fillF 0 P = P := fill_now ok ok.c.1
  have bf := ok.b
  obtain ⟨Z, hZ⟩ : ∃ Z, Z = win z 0 P.burst := ⟨_, rfl⟩
  have Zb := win_b (x := z) (show (0 : Int) ≤ P.burst by omega)
  have WG := hide (fun x => show whenF x z P = whenG z (fillF x P) from rfl)
  have WE : whenF 0 z P = if Z ≤ P.left then P.clock else if P.rise = 0 then 4611686018427387904 else P.clock + ((Z - P.left) * P.span - P.rest + P.rise - 1) / P.rise := by
    rw [unhide WG, e0, hZ]; rfl
  rw [← hZ] at Zb
  have HZ : Hid (max 0 (min z (bF n)) = Z) := by show _ = _; rw [hZ, hb]; unfold win; omega
  replace hZ := hide hZ
  replace hb := hide hb
  go_upto_region 8 with fail
  go_cut [10] (fun v wc => v = .int .i64 Z ∧ wc = w5)
  case first =>
    clear WE WG
    go_wp2_with fail
    refine (bu _).mono ?_
    rintro e w6 ⟨rfl, hw6⟩
    replace hw6 := hw6.symm
    subst hw6
    go_wp2_with fail
    go_meet
    case rel => exact ⟨congrArg _ (unhide HZ), rfl⟩
  case rest =>
    obtain ⟨rfl, hwc⟩ := hcut
    replace hwc := hwc.symm
    subst hwc
    obtain ⟨Zb1, Zb2⟩ := Zb
    obtain ⟨cb1, cb2⟩ := ok.c
    clear bu bf
    go_wp2_with fail
    refine (tq_left T5 0).mono ?_
    rintro e w6 ⟨rfl, T6⟩
    rw [e0] at T6
    rw [e0]
    clear T5
    go_wp2_with fail
    refine (tq_when T6 0 z).mono ?_
    rintro e w7 ⟨rfl, T7⟩
    rw [e0] at T7
    rw [WE]
    clear T6
    by_cases c1 : Z ≤ P.left
    · rw [if_pos c1]
      have e1 : fillF P.clock P = P := fill_now ok (Int.le_refl _)
      have W1 : whenF P.clock z P = P.clock := by rw [unhide WG, e1, ← e0, ← unhide WG, WE, if_pos c1, e0]
      go_wp2_with fail
      refine (tq_when T7 P.clock z).mono ?_
      rintro e w8 ⟨rfl, T8⟩
      rw [e1] at T8
      rw [W1]
      clear T7
      go_wp2_with fail
      refine (tq_left T8 P.clock).mono ?_
      rintro e w9 ⟨rfl, T9⟩
      rw [e1]
      have EN := hide T9.qa.grown
      clear T8 T9
      go_wp2_with fail
      go_ret
      first | exact ⟨rfl, unhide EN⟩ | exact ⟨ret_dec c1, unhide EN⟩
    · rw [if_neg c1]
      by_cases cz : P.rise = 0
      · rw [if_pos cz]
        have lt := when_zero ok 1125899906842624 Z (by omega) Zb2 cz
        go_wp2_with fail
        refine (tq_left T7 1125899906842624).mono ?_
        rintro e w8 ⟨rfl, T8⟩
        have EN := hide T8.qa.grown
        clear T7 T8
        generalize (fillF 1125899906842624 P).left = LL at *
        go_wp2_with fail
        go_ret
        first | exact ⟨rfl, unhide EN⟩ | exact ⟨ret_dec lt, unhide EN⟩
      · rw [if_neg cz]
        have key := fun x => when_ge ok x Z (by omega) Zb2 cz
        have pe := ok.e
        have WC : ((Z - P.left) * P.span - P.rest + P.rise - 1) / P.rise ≤ 576466250 * 1000000000 := by
          have l := lacks_b (z := Z) (l := P.left) (sp := P.span) (r := P.rest) (by omega) (by have := ok.b; omega) (by have := ok.b; have := ok.l; omega) ok.p ok.r
          have := Int.ediv_le_self P.rise (show 0 ≤ (Z - P.left) * P.span - P.rest + P.rise - 1 by omega)
          have := ok.r
          generalize (Z - P.left) * P.span = M at *
          omega
        have C1 : 1 ≤ ((Z - P.left) * P.span - P.rest + P.rise - 1) / P.rise := by
          have l := lacks_b (z := Z) (l := P.left) (sp := P.span) (r := P.rest) (by omega) (by have := ok.b; omega) (by have := ok.b; have := ok.l; omega) ok.p ok.r
          rw [Int.le_ediv_iff_mul_le (by omega)]
          omega
        have cpos : 0 < P.rise := by omega
        clear WE
        generalize hC : ((Z - P.left) * P.span - P.rest + P.rise - 1) / P.rise = C at *
        obtain ⟨t, ht⟩ : ∃ t, t = P.clock + C := ⟨_, rfl⟩
        rw [← ht] at key ⊢
        by_cases cT : 1125899906842624 < t
        · have lt : (fillF 1125899906842624 P).left < Z := by
            have k := key 1125899906842624
            have : tmF 1125899906842624 P = 1125899906842624 := by unfold tmF win; omega
            rw [this] at k
            omega
          clear ht hC
          go_wp2_with fail
          refine (tq_left T7 1125899906842624).mono ?_
          rintro e w8 ⟨rfl, T8⟩
          have EN := hide T8.qa.grown
          clear T7 T8 key
          generalize (fillF 1125899906842624 P).left = LL at *
          go_wp2_with fail
          go_ret
          first | exact ⟨rfl, unhide EN⟩ | exact ⟨ret_dec lt, unhide EN⟩
        · have lt : (fillF (t - 1) P).left < Z := by
            have k := key (t - 1)
            have : tmF (t - 1) P = t - 1 := by unfold tmF win; omega
            rw [this] at k
            omega
          have tmt : tmF t P = t := by unfold tmF win; omega
          have ge : Z ≤ (fillF t P).left := by
            have k := key t
            rw [tmt] at k
            omega
          have i1 : IntKind.i64.wrap (t - 1) = t - 1 := by rw [IntKind.wrap_i64]; omega
          have ok2 := fill_ok ok t
          have e2 : fillF 0 (fillF t P) = fillF t P := fill_now ok2 ok2.c.1
          have W2 : whenF 0 z (fillF t P) = t := by
            show whenG z (fillF 0 (fillF t P)) = t
            rw [e2]
            unfold whenG
            rw [fill_burst, ← unhide hZ, if_pos ge, fill_clock, tmt]
          clear key hC hZ ht WC C1
          go_wp2_with fail
          refine (tq_left T7.swap (t - 1)).mono ?_
          rintro e w8 ⟨rfl, T8⟩
          clear T7
          go_wp2_with fail
          refine (tq_left T8.swap t).mono ?_
          rintro e w9 ⟨rfl, T9⟩
          clear T8
          generalize (fillF (t - 1) P).left = LL at *
          have GE := ge
          generalize (fillF t P).left = LR at GE ⊢
          go_wp2_with fail
          refine (tq_when T9 0 z).mono ?_
          rintro e w10 ⟨rfl, T10⟩
          rw [W2]
          have EN := hide T10.qa.grown
          clear T9 T10
          go_wp2_with fail
          go_ret
          first | exact ⟨rfl, unhide EN⟩ | exact ⟨by simp, unhide EN⟩
end Go.Proofs.Ytlfldbagbafjfaa
