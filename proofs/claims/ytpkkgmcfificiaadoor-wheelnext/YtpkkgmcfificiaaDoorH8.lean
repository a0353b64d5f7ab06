/- WheelNext, walked. -/
import Derived.Test.YtpkkgmcfificiaaDoorH6
import Derived.Deep.CutRange
namespace Go.Proofs.YtpkkgmcfificiaaDoor
open Go.RowKit Go.Shelf Go.Maps
set_option linter.unusedVariables false
set_option maxRecDepth 100000
set_option maxHeartbeats 2000000

def NI (w : World) (len W k c : Nat) (T : List Tm) (wr : World) : Prop := QI w wr W c T ∧ T.length + k ≤ len

theorem adv_n {w X : World} {len W k c : Nat} {q : Tm} {t : List Tm} (h0 : 0 < w.heap.size) (hq : QI w X W c (q :: t)) (hk : (q :: t).length + k ≤ len) (h50 : q.2 ≤ 2 ^ 50) :
    Calls Tryd.prog 13 #[ptr W, .int .i64 (q.2 : Int)] X fun e Y => ∃ g m c', e = .returned (.slice (some ⟨g, 0, none⟩) m c') ∧ 0 < m ∧ (m ≤ t.length + 1 ∧ t.length < 4096) ∧ m ≤ c' ∧ c' ≤ 9223372036854775807 ∧ Y.cell? ⟨g, 0, none⟩ = some (.int .i64 (q.1 : Int)) ∧
      Hid (Calls Tryd.prog 20 #[ptr W, .int .i64 (q.1 : Int)] Y fun e Z => e = .returned (.tuple #[.int .i64 0, .int .i64 4]) ∧ Hid (Calls Tryd.prog 18 #[ptr W] Z fun e U => e = .returned (.int .i64 (((t.length + 1 : Nat) : Int) - (m : Int))) ∧ ∃ c2 T2, NI w len W (k + 1) c2 T2 U)) := by
  obtain ⟨ok, c50⟩ := hq.ok
  have hadv : q.2 ≤ adv c q.2 := by unfold adv; omega
  refine (qi_adv hq h0 q.2).mono ?_
  rintro e Y ⟨a, m, c', rfl, hm, ro, qy⟩
  rw [idT_ints] at ro
  obtain ⟨rd, rl, rc⟩ := rd_caps ro
  obtain ⟨r, hr⟩ := due_first ok (adv c q.2) hadv
  have hl := due_late_len (q :: t) (adv c q.2)
  have dl : (dueT (q :: t) (adv c q.2)).length ≤ 4096 := by
    have := hq.wl
    obtain ⟨S, wl⟩ := this
    exact Nat.le_trans (List.length_filter_le _ _) wl.in_.2.2
  have dl2 : (q :: t).length ≤ 4096 := by
    obtain ⟨S, wl⟩ := hq.wl
    exact wl.in_.2.2
  rcases rd with h | ⟨g, rfl, hc⟩
  · rw [hr] at h; cases h
  · have m1 : 0 < m := by rw [← hm, hr]; simp
    refine ⟨g, m, c', rfl, m1, ⟨by simp only [List.length_cons] at hl; omega, by simp only [List.length_cons] at dl2; omega⟩, rc.1, rc.2, hc 0 _ (by rw [hr]; rfl), ?_⟩
    refine (qi_when qy (q.1 : Int) (wfI_nat (ok.lt q (by simp)).1)).mono ?_
    rintro e Z ⟨rfl, rfl⟩
    rw [when_late ok (i := q.1) (a := q.2) (by simp) hadv]
    refine ⟨rfl, ?_⟩
    refine (qi_len qy).mono ?_
    rintro e U ⟨rfl, rfl⟩
    simp only [List.length_cons] at hl hk
    refine ⟨?_, _, _, qy, by omega⟩
    have : ((lateT (q :: t) (adv c q.2)).length : Int) = ((t.length + 1 : Nat) : Int) - (m : Int) := by omega
    rw [this]

theorem least_end {q : Tm} {t : List Tm} (h : TOk (q :: t)) {j : Nat} (hj : j = 4096) : leastT (q :: t) q.2 j = q.1 := by
  subst hj
  exact least_first h

theorem wheelnext_walk (now : Int) (a0 : Option Addr) (len cap : Nat) (ol : List OpD) (w : World) (h : IsOps w a0 len cap ol) (ht : Tb w) :
    Calls Tryd.prog 5 #[.int .i64 now, .slice a0 len cap] w fun e w' => e = .returned (.bool true) ∧ Below w.heap.size w w' := by
  have h0 := ht.lt
  have sh := shown_any w ht
  have HO := hide h; have HT := hide ht
  have hl := h.hlen
  have hcap := h.hcap
  have lenI : ¬ (9223372036854775807 : Int) < (len : Int) := by omega
  clear h ht
  go_enter Tryd.func5, Tryd.ntmps5
  go_wp2_with fail
  refine sh.mono ?_
  rintro e w1 ⟨rfl, g1⟩
  have l1 := laid_any w.heap.size now a0 len cap ol w1 ((unhide HO).bel (grown_bel g1) (Nat.le_refl _)) ((unhide HT).grown g1) g1.size
  have G1 := hide g1
  clear sh g1
  go_wp2_with fail
  refine l1.mono ?_
  rintro e w2 ⟨W, rfl, li⟩
  have st : NI w len W 0 (laidF now ol).1 (laidF now ol).2 w2 := by
    obtain ⟨S, wl, hS⟩ := li.wl
    rw [List.take_of_length_le (by omega)] at wl
    have b : Below w.heap.size w w2 := (grown_bel (unhide G1)).trans (li.bel.mono (unhide G1).size)
    exact ⟨⟨⟨S, wl⟩, b, (unhide HT).bel b h0⟩, by have := laid_len now ol; omega⟩
  have ST := hide st
  clear st li l1 G1
  go_wp2_with fail
  go_loopw [7] (fun kv wr => ∃ (k c : Nat) (T : List Tm), Hid (NI w len W k c T wr) ∧ kv = .int .i64 k) (fun kv _ => len + 1 - (intOf kv).toNat)
  case atStart => exact ⟨0, _, _, unhide ST, rfl⟩
  case round =>
    obtain ⟨k, c, T, H, rfl⟩ := hrel
    clear ST
    have hkl : k ≤ len := by have := (unhide H).2; omega
    have kI : (k : Int) ≤ (len : Int) := by omega
    have n1 := qi_next (unhide H).1
    have TL := hide (unhide H).2
    clear H
    go_wp2_with fail
    refine n1.mono ?_
    rintro e w3 ⟨rfl, q3⟩
    have n2 := qi_now q3
    have n3 := qi_len q3
    obtain ⟨ok, c50⟩ := q3.ok
    have Q3 := hide q3
    clear n1 q3
    cases T with
    | nil =>
      have AD : Calls Tryd.prog 13 #[ptr W, .int .i64 4611686018427387904] w3 fun e Y => ∃ a c', e = .returned (.slice a 0 c') ∧ Below w.heap.size w Y := by
        refine (qi_adv (unhide Q3) h0 4611686018427387904).mono ?_
        rintro e Y ⟨a, m, c', rfl, hm, -, qy⟩
        obtain rfl : m = 0 := hm.symm
        exact ⟨a, c', rfl, qy.bel⟩
      have e1 : ((nextT [] : Nat) : Int) = 4611686018427387904 := rfl
      have e2 : ((([] : List Tm).length : Nat) : Int) = 0 := rfl
      rw [e1]
      rw [e2] at n3
      clear ok
      go_wp2_with fail
      refine n2.mono ?_
      rintro e X ⟨rfl, hX⟩
      replace hX := hX.symm
      subst hX
      go_wp2_with fail
      refine n3.mono ?_
      rintro e X ⟨rfl, hX⟩
      replace hX := hX.symm
      subst hX
      clear n2 n3
      go_wp2_with fail
      refine AD.mono ?_
      rintro e Y ⟨a, c', rfl, hb⟩
      have E := hide hb
      clear AD hb
      go_wp2_with fail
      go_ret
      exact ⟨rfl, unhide E⟩
    | cons q t =>
      have e1 : ((nextT (q :: t) : Nat) : Int) = (q.2 : Int) := rfl
      have e2 : (((q :: t).length : Nat) : Int) = ((t.length + 1 : Nat) : Int) := rfl
      rw [e1]
      rw [e2] at n3
      have q62 := (ok.lt q (by simp)).2
      have s0 : (((t.length + 1 : Nat) : Int) == 0) = false := by simp; omega
      have s1 : ((q.2 : Int) == 4611686018427387904) = false := by simp; omega
      have nl := next_le ok
      clear e1 e2
      by_cases hq50 : 1125899906842624 < q.2
      · have qI : (1125899906842624 : Int) < (q.2 : Int) := by omega
        have AD : Calls Tryd.prog 13 #[ptr W, .int .i64 4611686018427387904] w3 fun e Y => ∃ a c', e = .returned (.slice a 0 c') ∧ Below w.heap.size w Y := by
          refine (qi_adv (unhide Q3) h0 4611686018427387904).mono ?_
          rintro e Y ⟨a, m, c', rfl, hm, -, qy⟩
          have : dueT (q :: t) (adv c 4611686018427387904) = [] := (due_none (fun p hp => by
            have h1 : q.2 ≤ p.2 := nl p hp
            have h2 : adv c 4611686018427387904 ≤ 2 ^ 50 := by unfold adv; omega
            omega)).1
          rw [this] at hm
          obtain rfl : m = 0 := hm.symm
          exact ⟨a, c', rfl, qy.bel⟩
        clear ok nl
        generalize t.length + 1 = N at *
        go_wp2_with fail
        refine n2.mono ?_
        rintro e X ⟨rfl, hX⟩
        replace hX := hX.symm
        subst hX
        go_wp2_with fail
        refine n3.mono ?_
        rintro e X ⟨rfl, hX⟩
        replace hX := hX.symm
        subst hX
        clear n2 n3
        go_wp2_with fail
        refine AD.mono ?_
        rintro e Y ⟨a, c', rfl, hb⟩
        have E := hide hb
        clear AD hb
        go_wp2_with fail
        go_ret
        exact ⟨rfl, unhide E⟩
      · have qI : ¬ (1125899906842624 : Int) < (q.2 : Int) := by omega
        have ADV : Hid (∀ c X, QI w X W c (q :: t) → Calls Tryd.prog 13 #[ptr W, .int .i64 (q.2 : Int)] X fun e Y => ∃ g m c', e = .returned (.slice (some ⟨g, 0, none⟩) m c') ∧ 0 < m ∧ (m ≤ t.length + 1 ∧ t.length < 4096) ∧ m ≤ c' ∧ c' ≤ 9223372036854775807 ∧ Y.cell? ⟨g, 0, none⟩ = some (.int .i64 (q.1 : Int)) ∧
            Hid (Calls Tryd.prog 20 #[ptr W, .int .i64 (q.1 : Int)] Y fun e Z => e = .returned (.tuple #[.int .i64 0, .int .i64 4]) ∧ Hid (Calls Tryd.prog 18 #[ptr W] Z fun e U => e = .returned (.int .i64 (((t.length + 1 : Nat) : Int) - (m : Int))) ∧ ∃ c2 T2, NI w len W (k + 1) c2 T2 U))) := fun c X qx => adv_n h0 qx (unhide TL) (by omega)
        have kk : k + 1 ≤ len := by
          have := unhide TL
          simp only [List.length_cons] at this
          omega
        have kkI : (k : Int) + 1 ≤ (len : Int) := by omega
        have ADP : c < q.2 → Calls Tryd.prog 13 #[ptr W, .int .i64 ((q.2 : Int) - 1)] w3 fun e Y => ∃ a c' c2, e = .returned (.slice a 0 c') ∧ QI w Y W c2 (q :: t) := by
          intro hqc
          refine (qi_adv (unhide Q3) h0 ((q.2 : Int) - 1)).mono ?_
          rintro e Y ⟨a, m, c', rfl, hm, -, qy⟩
          have dn := due_none (T := q :: t) (t := adv c ((q.2 : Int) - 1)) (fun p hp => by
            have h1 : q.2 ≤ p.2 := nl p hp
            have h2 : adv c ((q.2 : Int) - 1) < q.2 := by unfold adv; omega
            omega)
          rw [dn.1] at hm
          rw [dn.2] at qy
          obtain rfl : m = 0 := hm.symm
          exact ⟨a, c', _, rfl, qy⟩
        clear ok nl
        have ADP := hide ADP
        go_wp2_with fail
        refine n2.mono ?_
        rintro e X ⟨rfl, hX⟩
        replace hX := hX.symm
        subst hX
        go_wp2_with fail
        refine n3.mono ?_
        rintro e X ⟨rfl, hX⟩
        replace hX := hX.symm
        subst hX
        clear n2 n3
        go_upto_if 57 with fail
        go_cut [] from 31 to 124 (fun wc => ∃ XX C2, XX = wc ∧ Hid (QI w XX W C2 (q :: t)))
        case first =>
          by_cases hqc : c < q.2
          · have cI : (c : Int) < (q.2 : Int) := by omega
            have AD := unhide ADP hqc
            clear ADP Q3
            go_wp2_with fail
            refine AD.mono ?_
            rintro e XX ⟨a, c', C1, rfl, qx⟩
            have QX := hide qx
            clear AD qx
            go_wp2_with fail
            go_meet
            case rel => exact ⟨_, _, rfl, QX⟩
          · have cI : ¬ (c : Int) < (q.2 : Int) := by omega
            go_wp2_with fail
            go_meet
            case rel => exact ⟨_, _, rfl, Q3⟩
        case rest =>
          obtain ⟨XX, C2, hXX, QX⟩ := hcut
          subst hXX
          clear Q3 ADP
          go_wp2_with fail
          go_loopw [13, 14] (fun lv iv wr => ∃ j : Nat, j ≤ 4096 ∧ iv = .int .i64 j ∧ lv = .int .i64 (leastT (q :: t) q.2 j) ∧ wr = XX) (fun _ iv _ => 4096 - (intOf iv).toNat)
          case atStart => exact ⟨0, by omega, rfl, rfl, rfl⟩
          case round =>
            obtain ⟨j, hj, rfl, rfl, hwr⟩ := hrel
            subst hwr
            by_cases hj4 : j < 4096
            · have jI : (j : Int) < 4096 := by omega
              have wn := qi_when (unhide QX) (j : Int) (wfI_nat hj4)
              have ok := (unhide QX).ok.1
              have ST : leastT (q :: t) q.2 (j + 1) = if leastT (q :: t) q.2 j < 0 ∧ (j, q.2) ∈ q :: t then (j : Int) else leastT (q :: t) q.2 j := rfl
              have STH := hide ST
              have wm := fun a => when_mem ok (i := j) (a := a)
              have nl := next_le ok
              clear ok ST
              generalize leastT (q :: t) q.2 j = L at *
              cases hw : whenT (q :: t) (j : Int) with
              | none =>
                rw [hw] at wn
                have E := hide (show leastT (q :: t) q.2 (j + 1) = L by
                  rw [unhide STH, if_neg (fun h => by have := (wm q.2).2 h.2; rw [hw] at this; cases this)])
                clear wm nl hw STH
                go_wp2_with fail
                refine wn.mono ?_
                rintro e X ⟨rfl, hX⟩
                replace hX := hX.symm
                subst hX
                clear wn
                go_wp2_with fail
                first
                  | exact ⟨⟨j + 1, by omega, by go_num, by rw [unhide E], trivial⟩, by simp [intOf]; omega⟩
                  | (go_roundw; (case rel => exact ⟨j + 1, by omega, by go_num, by rw [unhide E], rfl⟩); (case measure => simp [intOf]; omega))
              | some a =>
                rw [hw] at wn
                have am := (wm a).1 hw
                have al : q.2 ≤ a := nl _ am
                have aI : ¬ (a : Int) < (q.2 : Int) := by omega
                by_cases an : a = q.2
                · have aB : ((a : Int) == (q.2 : Int)) = true := by simp [an]
                  rw [an] at am
                  by_cases hL : L < 0
                  · have E := hide (show leastT (q :: t) q.2 (j + 1) = (j : Int) by rw [unhide STH, if_pos ⟨hL, am⟩])
                    clear wm nl hw STH am an
                    go_wp2_with fail
                    refine wn.mono ?_
                    rintro e X ⟨rfl, hX⟩
                    replace hX := hX.symm
                    subst hX
                    clear wn
                    go_wp2_with fail
                    first
                      | exact ⟨⟨j + 1, by omega, by go_num, by rw [unhide E], trivial⟩, by simp [intOf]; omega⟩
                      | (go_roundw; (case rel => exact ⟨j + 1, by omega, by go_num, by rw [unhide E], rfl⟩); (case measure => simp [intOf]; omega))
                  · have E := hide (show leastT (q :: t) q.2 (j + 1) = L by rw [unhide STH, if_neg (fun h => hL h.1)])
                    clear wm nl hw STH am an
                    go_wp2_with fail
                    refine wn.mono ?_
                    rintro e X ⟨rfl, hX⟩
                    replace hX := hX.symm
                    subst hX
                    clear wn
                    go_wp2_with fail
                    first
                      | exact ⟨⟨j + 1, by omega, by go_num, by rw [unhide E], trivial⟩, by simp [intOf]; omega⟩
                      | (go_roundw; (case rel => exact ⟨j + 1, by omega, by go_num, by rw [unhide E], rfl⟩); (case measure => simp [intOf]; omega))
                · have aB : ((a : Int) == (q.2 : Int)) = false := by simp; omega
                  have E := hide (show leastT (q :: t) q.2 (j + 1) = L by
                    rw [unhide STH, if_neg (fun h => by have := (wm q.2).2 h.2; rw [hw] at this; cases this; exact an rfl)])
                  clear wm nl hw STH am an
                  go_wp2_with fail
                  refine wn.mono ?_
                  rintro e X ⟨rfl, hX⟩
                  replace hX := hX.symm
                  subst hX
                  clear wn
                  go_wp2_with fail
                  first
                    | exact ⟨⟨j + 1, by omega, by go_num, by rw [unhide E], trivial⟩, by simp [intOf]; omega⟩
                    | (go_roundw; (case rel => exact ⟨j + 1, by omega, by go_num, by rw [unhide E], rfl⟩); (case measure => simp [intOf]; omega))
            · have j4 : j = 4096 := by omega
              have jI : ¬ (j : Int) < 4096 := by omega
              have AD := unhide ADV _ _ (unhide QX)
              rw [least_end (unhide QX).ok.1 j4]
              clear QX
              go_wp2_with fail
              refine AD.mono ?_
              rintro e X ⟨g, m, c', rfl, k1, ⟨k2, k2'⟩, k3, k4, x0, WN⟩
              have m0 : ((m : Int) == 0) = false := by simp; omega
              have ml : ¬ (9223372036854775807 : Int) < (m : Int) := by omega
              have mP : (0 : Int) < (m : Int) := by omega
              have ll : ((q.1 : Int) != (q.1 : Int)) = false := by simp
              have zz : ((t.length : Int) + 1 - (m : Int) != (t.length : Int) + 1 - (m : Int)) = false := by simp
              clear AD
              go_wp2_with fail
              refine (unhide WN).mono ?_
              clear WN
              rintro e Y ⟨rfl, LN⟩
              go_wp2_with fail
              refine (unhide LN).mono ?_
              clear LN
              rintro e Z ⟨rfl, qz⟩
              have QZ := hide qz
              clear qz
              go_wp2_with fail
              exact ⟨⟨k + 1, _, _, (unhide QZ).choose_spec.choose_spec, by go_num⟩, by simp [intOf]; omega⟩
end Go.Proofs.YtpkkgmcfificiaaDoor
