/- CubicWaits. -/
import Derived.Test.YthpnbajhogoinaaIY1
namespace Go.Proofs.Ythpnbajhogoinaa
open Go.RowKit Fl
set_option linter.unusedVariables false
set_option maxRecDepth 100000
set_option maxHeartbeats 4000000

theorem fld0 (v1 v2 v3 : Value) (n : Int) (W : World) : (Instr.field 33 (.agg #[.int .i64 n, v1, v2, v3]) 0).run Try.prog W = .ok (.int .i64 n) W := by
  unfold Instr.field
  simp [asAgg, part]
/-- Ahead of the cut. -/
structure Pre (m : Int) (s : Cs) : Prop where
  mt : s.mtu = m
  th : s.thr = 4611686018427387903
  bg : s.began = -1
  pk : s.pk = 0
  ep : s.ep = -1
  cl : s.clock = 0
theorem pre_ack {m : Int} {n : Nat} {s : Cs} (h : Pre m s) (ok : s.Ok n) (hn : n ≤ 9999) (z : Int) : Pre m (ackF 0 0 z false s) := by
  have hbg := h.bg
  have hz := ok.z
  have na : ¬ aheadF 0 s := fun k => by have := k.1; omega
  unfold ackF
  rw [if_neg (by rintro (k | k); cases k; exact na k)]
  unfold raiseF
  rw [if_pos (show (landF z (tickF 0 s)).size < (landF z (tickF 0 s)).thr by show s.size < s.thr; rw [h.th]; omega)]
  exact ⟨h.mt, h.th, h.bg, h.pk, h.ep, by show max s.clock (sp 0) = 0; rw [h.cl]; decide⟩
theorem pre_event {m : Nat} {n : Nat} {s : Cs} (h : Pre (m : Int) s) (ok : s.Ok n) : Wt s.size.toNat (eventF 10 10 s).size.toNat m 0 (eventF 10 10 s).size.toNat (eventF 10 10 s) := by
  have hbg := h.bg
  have hz := ok.z
  have hm := ok.m
  have hcl := h.cl
  have na : ¬ aheadF 10 s := fun k => by have := k.1; omega
  have e : eventF 10 10 s = leaveF (cutF (tickF 10 s)) := by unfold eventF; rw [if_neg na]
  have e1 : (eventF 10 10 s).size = max (7 * s.size / 10) (2 * s.mtu) := by rw [e]; rfl
  have e2 : (eventF 10 10 s).thr = 7 * s.size / 10 := by rw [e]; rfl
  have e3 : (eventF 10 10 s).began = max s.clock (sp 10) := by rw [e]; rfl
  have e4 : (eventF 10 10 s).clock = max s.clock (sp 10) := by rw [e]; rfl
  have e5 : (eventF 10 10 s).ep = -1 ∧ (eventF 10 10 s).pt = 0 ∧ (eventF 10 10 s).mtu = s.mtu := by rw [e]; exact ⟨rfl, rfl, rfl⟩
  have e6 : (eventF 10 10 s).pk = peakF (tickF 10 s) := by rw [e]; rfl
  have e7 : peakF (tickF 10 s) = I s.size.toNat := by
    unfold peakF
    rw [if_neg (show ¬ sI (tickF 10 s) < (tickF 10 s).pk by show ¬ sI (tickF 10 s) < s.pk; rw [h.pk]; omega)]
    rfl
  rw [hcl, show sp 10 = 10 by decide] at e3 e4
  obtain ⟨e5, e8, e9⟩ := e5
  generalize eventF 10 10 s = s1 at *
  refine ⟨by rw [e9]; exact h.mt, by omega, by rw [e3]; decide, by omega, by omega, ?_, .inl ⟨e5, by rw [e4]; decide, by omega, by rw [e6, e7], rfl, rfl⟩⟩
  rw [e8]
  exact Nat.lt_of_lt_of_le (p2 52) (I_normal (Nat.le_refl 1))

theorem waits_walk (n : Int) (a0 : Option Addr) (len cap : Nat) (xl : List Int) (a1 : Option Addr) (len1 cap1 : Nat) (yl : List Int) (w : World) (hn : i64B n) (h : IsInts w a0 len cap xl) (h1 : IsInts w a1 len1 cap1 yl) :
    Calls Try.prog 8 #[.int .i64 n, .slice a0 len cap, .slice a1 len1 cap1] w fun e w' => e = .returned (.bool true) ∧ w.grownBy w' none := by
  have sh := shown_any w
  have HO := hide h
  have HO1 := hide h1
  have hl := h.hlen
  have hcap := h.hcap
  have hl1 := h1.hlen
  have hcap1 := h1.hcap
  have lenI : ¬ (9223372036854775807 : Int) < (len : Int) := by omega
  have lenI1 : ¬ (9223372036854775807 : Int) < (len1 : Int) := by omega
  have CT := hide (fun (W : World) (g : w.grownBy W none) => qe_ctl g n hn)
  have MT := mtu_any n hn
  obtain ⟨M1, M2⟩ := mtu_fits n
  have E0 : Pre (mtuF n) (cs0 (mtuF n)) := ⟨rfl, rfl, rfl, rfl, rfl, rfl⟩
  have SZ := fun x => size_any x
  have fl := fun v1 v2 v3 n W => fld0 v1 v2 v3 n W
  clear h h1
  generalize cs0 (mtuF n) = s0 at *
  obtain ⟨m, hm⟩ : ∃ m : Nat, mtuF n = (m : Int) := ⟨(mtuF n).toNat, by omega⟩
  rw [hm] at MT M1 M2 E0
  clear hm
  go_enter Try.func8, Try.ntmps8
  go_wp2_with fail
  refine sh.mono ?_
  rintro e w1 ⟨rfl, g1⟩
  clear sh
  go_wp2_with fail
  refine (unhide CT w1 g1).mono ?_
  rintro e w2 ⟨b, -, rfl, q2, -⟩
  have S0 := hide (And.intro q2 E0)
  clear CT g1 q2 E0
  go_wp2_with fail
  go_loopw [9] (fun i wr => ∃ (k : Nat) (s : Cs), k ≤ len ∧ k ≤ 4000 ∧ i = .int .i64 k ∧ Hid (QE w wr b k s ∧ Pre (m : Int) s)) (fun i _ => len - (intOf i).toNat)
  case atStart => exact ⟨0, _, Nat.zero_le _, Nat.zero_le _, rfl, S0⟩
  case round =>
    clear S0
    obtain ⟨k, s, hk, hk4, rfl, H⟩ := hrel
    by_cases hlt : k < len ∧ k < 4000
    · obtain ⟨bo, off, rfl, hcs⟩ := (unhide HO).cell.resolve_left (by omega)
      have hx' : xl[k]? = some xl[k] := List.getElem?_eq_getElem _
      have hcx := hcs k _ hx'
      generalize xl[k] = x at *
      have kn : (k : Int) < (len : Int) := by omega
      have k4 : (k : Int) < 4000 := by omega
      have HLT := hide hlt
      obtain ⟨q, hp⟩ := unhide H
      have c0 := cell_grown hcx q.grown
      have AK := qe_acked q (by omega) 0 0 x false
      have PA := hide (pre_ack hp q.ok (by omega) x)
      clear hcs hcx hx' hlt hk H q hp
      generalize ackF 0 0 x false s = s1 at *
      go_wp2_with fail
      refine AK.mono ?_
      rintro e W1 ⟨rfl, p1, -⟩
      have R := hide (And.intro p1 (unhide PA))
      clear AK c0 p1 PA
      go_wp2_with fail
      go_roundw
      case rel => exact ⟨k + 1, _, (unhide HLT).1, (unhide HLT).2, by go_num, R⟩
      case measure => have := unhide HLT; simp [intOf]; omega
    · have alt : (¬ (k : Int) < (len : Int)) ∨ ((k : Int) < (len : Int) ∧ ¬ (k : Int) < 4000) := by omega
      obtain ⟨q, hp⟩ := unhide H
      have WT := pre_event hp q.ok
      have zb := q.ok.z
      have V := qe_view q
      unfold vwc at V
      have EV := hide (fun W (p : QE w W b k s) => qe_event p (by omega) 10 10)
      have K4 : k ≤ 4000 := hk4
      obtain ⟨top, htop⟩ : ∃ t : Nat, s.size = (t : Int) := ⟨s.size.toNat, by have := q.ok.m; omega⟩
      rw [htop] at V WT zb
      rw [show ((top : Nat) : Int).toNat = top by omega] at WT
      have okE := event_ok q.ok (by omega) 10 10
      have zE := okE.z
      have mE := okE.m
      clear H hlt q hp htop okE
      generalize eventF 10 10 s = s1 at *
      generalize (!aheadB 10 s) = B at *
      obtain ⟨S, hS⟩ : ∃ t : Nat, s1.size = (t : Int) := ⟨s1.size.toNat, by omega⟩
      rw [hS] at WT zE
      rw [show ((S : Nat) : Int).toNat = S by omega] at WT
      have hS1 : 2400 ≤ S := by omega
      have hS2 : S ≤ 262160000 := by omega
      have hT2 : top ≤ 262160000 := by omega
      clear zE mE zb
      rcases alt with e1 | ⟨e1, e2⟩
      all_goals as_aux_lemma =>
        go_wp2_with fail
        refine V.mono ?_
        rintro e W3 ⟨rfl, p3, -⟩
        have EV' := unhide EV W3 p3
        clear V EV p3
        go_wp2_with fail
        refine EV'.mono ?_
        rintro e W4 ⟨rfl, p4, -⟩
        have V4 := qe_view p4
        unfold vwc at V4
        rw [hS] at V4
        clear EV' p4
        go_wp2_with fail
        refine V4.mono ?_
        rintro e W5 ⟨rfl, p5, -⟩
        have S1 : Hid (QE w W5 b (4000 + 0) s1 ∧ Wt top S m 0 S s1 ∧ S ≤ S + 300000 * 0) := ⟨p5.up (by omega), WT, by omega⟩
        clear V4 p5 WT hS
        go_wp2_with fail
        refine (MT _).mono ?_
        rintro e X0 ⟨rfl, hX0⟩
        replace hX0 := hX0.symm
        subst hX0
        go_wp2_with fail
        go_loopw [13, 14] (fun v i wr => ∃ (j E : Nat) (s : Cs), j ≤ len1 ∧ j ≤ 400 ∧ v = .int .i64 E ∧ i = .int .i64 j ∧ Hid (QE w wr b (4000 + j) s ∧ Wt top S m j E s ∧ E ≤ S + 300000 * j)) (fun _ i _ => len1 - (intOf i).toNat)
        case atStart => exact ⟨0, S, _, Nat.zero_le _, Nat.zero_le _, rfl, rfl, S1⟩
        case round =>
          clear S1
          obtain ⟨j, E, s2, hj, hj4, rfl, rfl, H⟩ := hrel
          by_cases hlt : j < len1 ∧ j < 400
          · obtain ⟨bo, off, rfl, hcs⟩ := (unhide HO1).cell.resolve_left (by omega)
            have hx' : yl[j]? = some yl[j] := List.getElem?_eq_getElem _
            have hcx := hcs j _ hx'
            generalize yl[j] = x at *
            have kn : (j : Int) < (len1 : Int) := by omega
            have k4 : (j : Int) < 400 := by omega
            have HLT := hide hlt
            obtain ⟨q, wt, hE⟩ := unhide H
            have c0 := cell_grown hcx q.grown
            have Z := SZ x
            obtain ⟨P, hP⟩ : ∃ P : Nat, szz x = (P : Int) := ⟨(szz x).toNat, by have := szb x; omega⟩
            have hP2 : P ≤ 65535 := by have := szb x; omega
            rw [hP] at Z
            have AK := qe_acked q (by omega) 20 20 (P : Int) false
            have WS := wt_step (p := P) wt q.ok (by omega) (by omega) (by omega) (by omega) hP2
            have hPm : P * m ≤ 65535 * 9000 := Nat.mul_le_mul hP2 (by omega)
            have hQ : P * m / S ≤ 250000 := Nat.div_le_of_le_mul (by have := Nat.mul_le_mul_right 250000 hS1; omega)
            have hRQ : ((P : Int) * (m : Int)) = ((P * m : Nat) : Int) := by rw [Int.natCast_mul]
            have hTQ : (((P * m : Nat) : Int)).tdiv (S : Int) = ((P * m / S : Nat) : Int) := by rw [Int.tdiv_eq_ediv_of_nonneg (Int.natCast_nonneg _), Int.natCast_ediv]
            have hDQ : (((P * m : Nat) : Int)) / (S : Int) = ((P * m / S : Nat) : Int) := by rw [Int.natCast_ediv]
            generalize P * m / S = Q at *
            generalize P * m = R at *
            generalize ackF 20 20 (P : Int) false s2 = s3 at *
            have zN : ¬ ((S : Int) = 0) := by omega
            have hw0 : IntKind.i64.wrap ((R : Nat) : Int) = (R : Int) := by rw [IntKind.wrap_i64]; omega
            have hw1 : IntKind.i64.wrap ((Q : Nat) : Int) = (Q : Int) := by rw [IntKind.wrap_i64]; omega
            have hw2 : IntKind.i64.wrap ((E : Int) + (Q : Int)) = (E : Int) + (Q : Int) := by rw [IntKind.wrap_i64]; omega
            have hw3 : IntKind.i64.wrap ((E : Int) + (Q : Int) + 2) = (E : Int) + (Q : Int) + 2 := by rw [IntKind.wrap_i64]; omega
            have BQ := hide (And.intro hE hQ)
            clear hcs hcx hx' hlt hj H q wt hE hQ hPm hP hP2 hS2 hT2
            go_wp2_with fail
            refine (Z _).mono ?_
            rintro e X0 ⟨rfl, hX0⟩
            replace hX0 := hX0.symm
            subst hX0
            clear Z c0
            go_wp2_with fail
            refine AK.mono ?_
            rintro e W6 ⟨rfl, p6, -⟩
            have V6 := qe_view p6
            obtain ⟨Y, hY⟩ : ∃ Y, s3.size = Y := ⟨_, rfl⟩
            have hYE := WS.hi
            unfold vwc at V6
            rw [hY] at V6 hYE
            have hYE' : Y ≤ (E : Int) + (Q : Int) + 2 := by omega
            clear AK p6 hY hYE
            go_wp2_with fail
            refine V6.mono ?_
            rintro e W7 ⟨rfl, p7, -⟩
            have R : Hid (QE w W7 b (4000 + (j + 1)) s3 ∧ Wt top S m (j + 1) (E + Q + 2) s3 ∧ E + Q + 2 ≤ S + 300000 * (j + 1)) := ⟨p7, WS, by have := unhide BQ; omega⟩
            clear V6 p7 WS BQ hRQ hTQ hDQ hw0 hw1 hw2 hw3 zN
            have eE : (E : Int) + (Q : Int) + 2 = ((E + Q + 2 : Nat) : Int) := by omega
            rw [eE] at hYE' ⊢
            generalize E + Q + 2 = E' at *
            clear eE
            by_cases hmx : (top : Int) < (E' : Int)
            · have n1 : ¬ (E' : Int) < Y := by omega
              clear hYE'
              go_wp2_with fail
              first
                | (go_roundw
                   case rel => exact ⟨j + 1, E', s3, (unhide HLT).1, (unhide HLT).2, rfl, by go_num, R⟩
                   case measure => have := unhide HLT; simp [intOf]; omega)
                | exact ⟨⟨j + 1, E', s3, (unhide HLT).1, (unhide HLT).2, rfl, by go_num, R⟩, by have := unhide HLT; simp [intOf]; omega⟩
            · have n1 : ¬ (top : Int) < Y := by omega
              clear hYE'
              go_wp2_with fail
              first
                | (go_roundw
                   case rel => exact ⟨j + 1, E', s3, (unhide HLT).1, (unhide HLT).2, rfl, by go_num, R⟩
                   case measure => have := unhide HLT; simp [intOf]; omega)
                | exact ⟨⟨j + 1, E', s3, (unhide HLT).1, (unhide HLT).2, rfl, by go_num, R⟩, by have := unhide HLT; simp [intOf]; omega⟩
          · have alt : (¬ (j : Int) < (len1 : Int)) ∨ ((j : Int) < (len1 : Int) ∧ ¬ (j : Int) < 400) := by omega
            have EN := hide (unhide H).1.grown
            clear H hlt
            rcases alt with e1 | ⟨e1, e2⟩
            all_goals
              go_wp2_with fail
              go_ret
              exact ⟨rfl, unhide EN⟩
end Go.Proofs.Ythpnbajhogoinaa
