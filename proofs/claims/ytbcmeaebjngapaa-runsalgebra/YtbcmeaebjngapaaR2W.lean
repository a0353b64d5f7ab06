/- RunsAlgebra: its walk. -/
import Derived.Test.YtbcmeaebjngapaaR2V
import Derived.Test.YtbcmeaebjngapaaR2Q
import Derived.Test.YtbcmeaebjngapaaSG
namespace Go.Proofs.Ytbcmeaebjngapaa
open Go.RowKit Go.Shelf
set_option linter.unusedVariables false
set_option linter.unusedSimpArgs false
set_option maxHeartbeats 4000000
set_option maxRecDepth 100000

theorem set_s {w W : World} {a : Option Addr} {len cap : Nat} (h : IsOps w a len cap) (g : w.grownBy W none) :
    Calls Try.prog 6 #[.slice a len cap] W fun e w' => ∃ b L, e = .returned (.pointer (some ⟨b, 0, none⟩)) ∧ SS w' b L ∧ GD L ∧ L.length ≤ 2000 ∧ W.grownBy w' none := by
  obtain ⟨K, LO, HI, ops⟩ := h.fn
  refine (set_ok a len cap K LO HI W W (World.grownBy.refl _ _) (ops.keep g)).mono ?_
  rintro e w' ⟨rfl, ls⟩
  have := runL_good (K := K) (LO := LO) (HI := HI) (min len 2000) (fun i hi => by
    obtain ⟨-, -, hc⟩ := ops
    obtain ⟨b, off, -, hc⟩ := hc.resolve_left (by omega)
    obtain ⟨-, -, -, r1, -, -, r4⟩ := hc i (by omega)
    exact ⟨r1, r4⟩)
  exact ⟨_, _, rfl, ss_ls ls, this.1, by have := this.2; omega, ls.grown⟩

/-- All that was made. -/
structure A2 (w W : World) (ba bb bj bm bl bn bo bp : Nat) (ra rb : Value) (La Lb : List Sp) : Prop where
  sa : SS W ba La
  sb : SS W bb Lb
  ra_ : Row W ra La
  rb_ : Row W rb Lb
  sj : SS W bj (joinL La Lb)
  sm : SS W bm (meetL La Lb)
  sl : SS W bl (lessL La Lb)
  sn : SS W bn La
  so : SS W bo La
  sp : SS W bp []
  gr : w.grownBy W none
theorem A2.keep {w W W' : World} {ba bb bj bm bl bn bo bp : Nat} {ra rb : Value} {La Lb : List Sp} (h : A2 w W ba bb bj bm bl bn bo bp ra rb La Lb) (g : W.grownBy W' none) : A2 w W' ba bb bj bm bl bn bo bp ra rb La Lb :=
  ⟨h.sa.keep g, h.sb.keep g, h.ra_.keep g, h.rb_.keep g, h.sj.keep g, h.sm.keep g, h.sl.keep g, h.sn.keep g, h.so.keep g, h.sp.keep g, grown_trans h.gr g⟩

theorem rt_at4 {w W : World} {v : Value} {T : List Int} (x1 x2 x3 x4 : Int) (h : RT w W v T) (hg : w.grownBy W none) (hb : (T.length + 4) * 8 ≤ 140737488355328) :
    ∃ a' c' W', (∀ ty, (Builtin.append_ #[29, 29] ty #[v, .slice (some ⟨W.heap.size, 0, none⟩) 4 4]).run Try.prog (W.drew.alloc (.cells #[.int .i64 x1, .int .i64 x2, .int .i64 x3, .int .i64 x4] 2)) = .ok (.slice a' (T.length + 4) c') W') ∧ RT w W' (.slice a' (T.length + 4) c') (T ++ [x1, x2, x3, x4]) ∧ w.grownBy W' none :=
  rt_app4 (W := W.drew) x1 x2 x3 x4 (h.keep (drew_grown W)) (grown_trans hg (drew_grown W)) hb

theorem row_look {W : World} {a : Option Addr} {n c : Nat} {L : List Sp} (h : Row W (.slice a n c) L) {k : Nat} (hk : k < L.length) : ∃ g, a = some ⟨g, 0, none⟩ ∧ W.cell? ⟨g, k * 2, none⟩ = some (.int .i64 (L.getD k (0, 0)).1) ∧ W.cell? ⟨g, k * 2 + 1, none⟩ = some (.int .i64 (L.getD k (0, 0)).2) := by
  rcases Row.at h with ⟨e1, e2⟩ | ⟨g, c', sp, e1, e2⟩
  · rw [e2] at hk; simp at hk
  · simp only [Value.slice.injEq] at e1
    obtain ⟨rfl, -, rfl⟩ := e1
    exact ⟨g, rfl, e2.cell _ _ (cl_lo L k hk), e2.cell _ _ (cl_hi L k hk)⟩

theorem algebra_walk (a0 : Option Addr) (len0 cap0 : Nat) (a1 : Option Addr) (len1 cap1 : Nat) (x : Int) (w : World) (h1 : IsOps w a0 len0 cap0) (h2 : IsOps w a1 len1 cap1) (hx : -9223372036854775808 ≤ x ∧ x ≤ 9223372036854775807) :
    Calls Try.prog 3 #[.slice a0 len0 cap0, .slice a1 len1 cap1, .int .i64 x] w fun e w' => e = .returned (.bool true) ∧ w.grownBy w' none := by
  have H1 := hide h1
  have H2 := hide h2
  clear h1 h2
  go_enter Try.func3, Try.ntmps3
  go_wp2_with fail
  refine (shown_ok w).mono ?_
  rintro e w1 ⟨rfl, g1⟩
  go_wp2_with fail
  refine (set_s (unhide H1) g1).mono ?_
  rintro e w2 ⟨ba, La, rfl, sa, gA, la, g2⟩
  have g02 := grown_trans g1 g2
  go_wp2_with fail
  refine (set_s (unhide H2) g02).mono ?_
  rintro e w3 ⟨bb, Lb, rfl, sb, gB, lb, g3⟩
  replace sa := hide (sa.keep g3)
  replace sb := hide sb
  have g03 := hide (grown_trans g02 g3)
  clear g1 g2 g3 g02 H1 H2 w1 w2
  go_wp2_with fail
  refine (runs_s (unhide sa) (by omega)).mono ?_
  rintro e w4 ⟨ra, rfl, rowA, g4⟩
  replace sa := hide ((unhide sa).keep g4)
  replace sb := hide ((unhide sb).keep g4)
  replace g03 := hide (grown_trans (unhide g03) g4)
  obtain ⟨aa, ca, rfl, -, cma, nca⟩ := rowA.shape
  replace rowA := hide rowA
  clear g4 w3
  go_wp2_with fail
  refine (runs_s (unhide sb) (by omega)).mono ?_
  rintro e w5 ⟨rb, rfl, rowB, g5⟩
  replace sa := hide ((unhide sa).keep g5)
  replace sb := hide ((unhide sb).keep g5)
  replace rowA := hide ((unhide rowA).keep g5)
  replace g03 := hide (grown_trans (unhide g03) g5)
  obtain ⟨ab, cb, rfl, -, cmb, ncb⟩ := rowB.shape
  replace rowB := hide rowB
  clear g5 w4
  go_wp2_with fail
  refine (join_s (unhide sa) (unhide sb) gA gB (by omega) (by omega)).mono ?_
  rintro e w6 ⟨bj, rfl, sj, g6⟩
  have B1 := hide (And.intro ((unhide sa).keep g6) (And.intro ((unhide sb).keep g6) (And.intro ((unhide rowA).keep g6) (And.intro ((unhide rowB).keep g6) (And.intro sj (grown_trans (unhide g03) g6))))))
  clear g6 w5 sa sb rowA rowB sj g03
  go_wp2_with fail
  refine (meet_s (unhide B1).1 (unhide B1).2.1 gA gB la lb).mono ?_
  rintro e w7 ⟨bm, rfl, sm, g7⟩
  have B2 := hide (And.intro ((unhide B1).1.keep g7) (And.intro ((unhide B1).2.1.keep g7) (And.intro ((unhide B1).2.2.1.keep g7) (And.intro ((unhide B1).2.2.2.1.keep g7) (And.intro ((unhide B1).2.2.2.2.1.keep g7) (And.intro sm (grown_trans (unhide B1).2.2.2.2.2 g7)))))))
  clear g7 w6 B1 sm
  go_wp2_with fail
  refine (less_s (unhide B2).1 (unhide B2).2.1 gA gB la lb).mono ?_
  rintro e w8 ⟨bl, rfl, sl, g8⟩
  have B3 := hide (And.intro ((unhide B2).1.keep g8) (And.intro ((unhide B2).2.1.keep g8) (And.intro ((unhide B2).2.2.1.keep g8) (And.intro ((unhide B2).2.2.2.1.keep g8) (And.intro ((unhide B2).2.2.2.2.1.keep g8) (And.intro ((unhide B2).2.2.2.2.2.1.keep g8) (And.intro sl (grown_trans (unhide B2).2.2.2.2.2.2 g8))))))))
  clear g8 w7 B2 sl
  go_wp2_with fail
  refine (join_sn (unhide B3).1 gA (by omega)).mono ?_
  rintro e w9 ⟨bn, rfl, sn, g9⟩
  go_wp2_with fail
  refine (less_sn ((unhide B3).1.keep g9) gA la).mono ?_
  rintro e w10 ⟨bo, rfl, so, g10⟩
  go_wp2_with fail
  refine (meet_sn (b := bb)).mono ?_
  rintro e w11 ⟨bp, rfl, sp, g11⟩
  have g91 := grown_trans (grown_trans g9 g10) g11
  have A : Hid (A2 w w11 ba bb bj bm bl bn bo bp (.slice aa La.length ca) (.slice ab Lb.length cb) La Lb) := by
    obtain ⟨q1, q2, q3, q4, q5, q6, q7, q8⟩ := unhide B3
    exact ⟨q1.keep g91, q2.keep g91, q3.keep g91, q4.keep g91, q5.keep g91, q6.keep g91, q7.keep g91, sn.keep (grown_trans g10 g11), so.keep g11, sp, grown_trans q8 g91⟩
  clear B3 sn so sp g9 g10 g11 g91 w8 w9 w10
  unfold maxLen at cma cmb
  replace cma : ca ≤ 9223372036854775807 := by omega
  replace cmb : cb ≤ 9223372036854775807 := by omega
  have P0 := hide (And.intro (rt_one w11 x) (World.grownBy_alloc w11 (.cells #[.int .i64 x] 2) none))
  go_wp2_with fail
  obtain ⟨na, hna⟩ : ∃ na, na = La.length := ⟨_, rfl⟩
  obtain ⟨nb, hnb⟩ : ∃ nb, nb = Lb.length := ⟨_, rfl⟩
  rw [← hna] at A nca la ⊢
  rw [← hnb] at A ncb lb ⊢
  have HNA := hide hna
  have HNB := hide hnb
  clear hna hnb
  go_loopw [18, 19] (fun pv iv wr => ∃ (k : Nat) (T : List Int), k ≤ na ∧ iv = .int .i64 k ∧ Hid (RT w11 wr pv T ∧ w11.grownBy wr none ∧ T.length = 1 + 4 * k)) (fun _ iv _ => na - (intOf iv).toNat)
  case atStart => exact ⟨0, [x], Nat.zero_le _, rfl, (unhide P0).1, (unhide P0).2, rfl⟩
  case round =>
    obtain ⟨k, T, hk, rfl, H⟩ := hrel
    clear P0
    by_cases hlt : k < na
    · have hkL : k < La.length := by rw [← unhide HNA]; exact hlt
      have kI : (k : Int) < (na : Int) := by omega
      obtain ⟨hT, gT, lT⟩ := unhide H
      obtain ⟨g, rfl, c0, c1⟩ := row_look (unhide A).ra_ hkL
      obtain ⟨r, hr⟩ : ∃ r, r = La.getD k (0, 0) := ⟨_, rfl⟩
      rw [← hr] at c0 c1
      have y0 := cell_grown_none gT c0
      have y1 := cell_grown_none gT c1
      obtain ⟨a', c', W', hap, rt', gW'⟩ := rt_at4 r.1 (IntKind.i64.wrap (r.1 - 1)) r.2 (IntKind.i64.wrap (r.2 + 1)) hT gT (by omega)
      have z0 := cell_grown_none gW' c0
      have z1 := cell_grown_none gW' c1
      have E := hide (And.intro rt' (And.intro gW' (show (T ++ [r.1, IntKind.i64.wrap (r.1 - 1), r.2, IntKind.i64.wrap (r.2 + 1)]).length = 1 + 4 * (k + 1) by simp [lT]; omega)))
      have HL := hide hlt
      generalize T.length + 4 = m' at *
      clear H hT gT lT c0 c1 rt' gW' hr hlt hkL
      go_wp2_with fail
      go_region_held3 (fun W => W.cell? ⟨g, k * 2, none⟩ = some (.int .i64 r.1) ∧ W.cell? ⟨g, k * 2 + 1, none⟩ = some (.int .i64 r.2)) (go_keep) (refine step_append_run rfl _ _ 29 29 rfl _ _ rfl rfl (hap _) ?_)
      go_wp2_with fail
      exact ⟨⟨k + 1, _, unhide HL, by go_num, unhide E⟩, by simp [intOf]; have := unhide HL; omega⟩
    · obtain rfl : k = na := by omega
      have hno : ¬ (k : Int) < (k : Int) := by omega
      go_wp2_with fail
      go_loopw [18, 20] (fun pv iv wr => ∃ (i : Nat) (T : List Int), i ≤ nb ∧ iv = .int .i64 i ∧ Hid (RT w11 wr pv T ∧ w11.grownBy wr none ∧ T.length = 1 + 4 * k + 4 * i)) (fun _ iv _ => nb - (intOf iv).toNat)
      case atStart => exact ⟨0, T, Nat.zero_le _, rfl, unhide H⟩
      case round =>
        obtain ⟨i, T, hi, rfl, H⟩ := hrel
        by_cases hlt : i < nb
        · have hkL : i < Lb.length := by rw [← unhide HNB]; exact hlt
          have kI : (i : Int) < (nb : Int) := by omega
          obtain ⟨hT, gT, lT⟩ := unhide H
          obtain ⟨g, rfl, c0, c1⟩ := row_look (unhide A).rb_ hkL
          obtain ⟨r, hr⟩ : ∃ r, r = Lb.getD i (0, 0) := ⟨_, rfl⟩
          rw [← hr] at c0 c1
          have y0 := cell_grown_none gT c0
          have y1 := cell_grown_none gT c1
          obtain ⟨a', c', W', hap, rt', gW'⟩ := rt_at4 r.1 (IntKind.i64.wrap (r.1 - 1)) r.2 (IntKind.i64.wrap (r.2 + 1)) hT gT (by omega)
          have z0 := cell_grown_none gW' c0
          have z1 := cell_grown_none gW' c1
          have E := hide (And.intro rt' (And.intro gW' (show (T ++ [r.1, IntKind.i64.wrap (r.1 - 1), r.2, IntKind.i64.wrap (r.2 + 1)]).length = 1 + 4 * k + 4 * (i + 1) by simp [lT]; omega)))
          have HL := hide hlt
          generalize T.length + 4 = m' at *
          clear H hT gT lT c0 c1 rt' gW' hr hlt hkL
          go_wp2_with fail
          go_region_held3 (fun W => W.cell? ⟨g, i * 2, none⟩ = some (.int .i64 r.1) ∧ W.cell? ⟨g, i * 2 + 1, none⟩ = some (.int .i64 r.2)) (go_keep) (refine step_append_run rfl _ _ 29 29 rfl _ _ rfl rfl (hap _) ?_)
          go_wp2_with fail
          exact ⟨⟨i + 1, _, unhide HL, by go_num, unhide E⟩, by simp [intOf]; have := unhide HL; omega⟩
        · obtain rfl : i = nb := by omega
          have hno : ¬ (i : Int) < (i : Int) := by omega
          obtain ⟨hT, gT, lT⟩ := unhide H
          obtain ⟨ap, cp, rfl, kc1, kc2, hcell⟩ := hT.at
          obtain ⟨m, hm⟩ : ∃ m, m = T.length := ⟨_, rfl⟩
          rw [← hm] at kc1 ⊢
          have HT := hide (And.intro hcell (And.intro gT hm))
          have A13 := hide ((unhide A).keep gT)
          have mb : m ≤ 20000 := by omega
          clear H hT gT lT hcell hm A
          generalize wr = w13 at *
          go_wp2_with fail
          go_loopw [21] (fun iv wx => ∃ (q : Nat), q ≤ m ∧ iv = .int .i64 q ∧ Hid (w13.grownBy wx none)) (fun iv _ => m - (intOf iv).toNat)
          case atStart => exact ⟨0, Nat.zero_le _, rfl, World.grownBy.refl _ _⟩
          case round =>
            obtain ⟨q, hq, rfl, G⟩ := hrel
            by_cases hlt : q < m
            · obtain ⟨y, hy⟩ : ∃ y, T[q]? = some y := ⟨T[q]'(by rw [← (unhide HT).2.2]; exact hlt), by simp⟩
              obtain ⟨g, rfl, hcell⟩ := (unhide HT).1.resolve_left (fun e => by rw [e] at hy; simp at hy)
              have cy := cell_grown_none (unhide G) (hcell q y hy)
              have qI : (q : Int) < (m : Int) := by omega
              have HL := hide hlt
              obtain ⟨bu, hbu⟩ : ∃ bu, bu = memB y La := ⟨_, rfl⟩
              obtain ⟨bv, hbv⟩ : ∃ bv, bv = memB y Lb := ⟨_, rfl⟩
              have eJ : memB y (joinL La Lb) = (bu || bv) := by rw [joinL_mem gA gB, hbu, hbv]
              have eM : memB y (meetL La Lb) = (bu && bv) := by rw [meet_mem gA gB, hbu, hbv]
              have eL : memB y (lessL La Lb) = (bu && !bv) := by rw [less_mem gA gB, hbu, hbv]
              have la' : La.length ≤ 2000 := by rw [← unhide HNA]; exact la
              have lb' : Lb.length ≤ 2000 := by rw [← unhide HNB]; exact lb
              have C1 := hide (fun W (gW : w13.grownBy W none) => has_s ((unhide A13).keep gW).sa gA (by omega) y)
              have C2 := hide (fun W (gW : w13.grownBy W none) => has_s ((unhide A13).keep gW).sb gB (by omega) y)
              have C3 := hide (fun W (gW : w13.grownBy W none) => has_s ((unhide A13).keep gW).sj (joinL_good gA gB).1 (by have := (joinL_good gA gB).2; omega) y)
              have C4 := hide (fun W (gW : w13.grownBy W none) => has_s ((unhide A13).keep gW).sm (meet_good gA gB) (by have := meet_len la' lb'; omega) y)
              have C5 := hide (fun W (gW : w13.grownBy W none) => has_s ((unhide A13).keep gW).sl (less_good gA gB) (by have := less_len la' lb'; omega) y)
              rw [← hbu] at C1
              rw [← hbv] at C2
              rw [eJ] at C3
              rw [eM] at C4
              rw [eL] at C5
              clear eJ eM eL hbu hbv hy hcell hlt la' lb'
              go_wp2_with fail
              refine (unhide C1 _ (unhide G)).mono ?_
              rintro e x1 ⟨rfl, g1⟩
              replace G := hide (grown_trans (unhide G) g1)
              clear g1 cy
              go_wp2_with fail
              refine (unhide C2 _ (unhide G)).mono ?_
              rintro e x2 ⟨rfl, g1⟩
              replace G := hide (grown_trans (unhide G) g1)
              clear g1
              go_wp2_with fail
              refine (unhide C3 _ (unhide G)).mono ?_
              rintro e x3 ⟨rfl, g1⟩
              replace G := hide (grown_trans (unhide G) g1)
              clear g1
              go_wp2_with fail
              refine (unhide C4 _ (unhide G)).mono ?_
              rintro e x4 ⟨rfl, g1⟩
              replace G := hide (grown_trans (unhide G) g1)
              clear g1
              go_wp2_with fail
              refine (unhide C5 _ (unhide G)).mono ?_
              rintro e x5 ⟨rfl, g1⟩
              replace G := hide (grown_trans (unhide G) g1)
              clear g1 C1 C2 C3 C4 C5
              cases bu <;> cases bv
              all_goals
                simp only [Bool.or_false, Bool.or_true, Bool.false_or, Bool.true_or, Bool.and_false, Bool.and_true, Bool.false_and, Bool.true_and, Bool.not_false, Bool.not_true]
                go_wp2_with fail
                exact ⟨⟨q + 1, unhide HL, by go_num, unhide G⟩, by simp [intOf]; have := unhide HL; omega⟩
            · obtain rfl : q = m := by omega
              have hno : ¬ (q : Int) < (q : Int) := by omega
              have la' : La.length ≤ 2000 := by rw [← unhide HNA]; exact la
              have lb' : Lb.length ≤ 2000 := by rw [← unhide HNB]; exact lb
              have Z := hide ((unhide A13).keep (unhide G))
              clear A13 G HT
              have mlen := meet_len la' lb'
              have llen := less_len la' lb'
              have jg := joinL_good gA gB
              have mg := meet_good gA gB
              have lg := less_good gA gB
              go_wp2_with fail
              refine (join_s (unhide Z).sm (unhide Z).sl mg lg (by omega) (by omega)).mono ?_
              rintro e y1 ⟨bw, rfl, sw, g1⟩
              rw [join_back gA gB] at sw
              replace Z := hide ((unhide Z).keep g1)
              clear g1
              go_wp2_with fail
              refine (runs_s sw (by omega)).mono ?_
              rintro e y2 ⟨vr, rfl, rw2, g1⟩
              replace Z := hide ((unhide Z).keep g1)
              clear g1
              go_wp2_with fail
              refine (alike_rows rw2 (unhide Z).ra_ (by omega)).mono ?_
              rintro e y3 ⟨rfl, q3, rfl⟩
              replace Z := hide ((unhide Z).keep (grown_drewN _ q3))
              clear rw2 sw
              go_wp2_with fail
              refine (runs_s (unhide Z).sn (by omega)).mono ?_
              rintro e y2 ⟨vr, rfl, rw2, g1⟩
              replace Z := hide ((unhide Z).keep g1)
              clear g1
              go_wp2_with fail
              refine (alike_rows rw2 (unhide Z).ra_ (by omega)).mono ?_
              rintro e y3 ⟨rfl, q3, rfl⟩
              replace Z := hide ((unhide Z).keep (grown_drewN _ q3))
              clear rw2
              go_wp2_with fail
              refine (runs_s (unhide Z).so (by omega)).mono ?_
              rintro e y2 ⟨vr, rfl, rw2, g1⟩
              replace Z := hide ((unhide Z).keep g1)
              clear g1
              go_wp2_with fail
              refine (alike_rows rw2 (unhide Z).ra_ (by omega)).mono ?_
              rintro e y3 ⟨rfl, q3, rfl⟩
              replace Z := hide ((unhide Z).keep (grown_drewN _ q3))
              clear rw2
              go_wp2_with fail
              refine (len_s (unhide Z).sp).mono ?_
              rintro e y4 ⟨rfl, hy4⟩
              subst y4
              go_wp2_with fail
              refine (join_s (unhide Z).sb (unhide Z).sa gB gA (by omega) (by omega)).mono ?_
              rintro e y5 ⟨bt, rfl, s5, g1⟩
              rw [join_turn gA gB] at s5
              replace Z := hide ((unhide Z).keep g1)
              clear g1
              go_wp2_with fail
              refine (runs_s s5 (by omega)).mono ?_
              rintro e y6 ⟨v6, rfl, r6, g1⟩
              replace Z := hide ((unhide Z).keep g1)
              clear g1
              go_wp2_with fail
              refine (runs_s (unhide Z).sj (by omega)).mono ?_
              rintro e y7 ⟨v7, rfl, r7, g1⟩
              replace Z := hide ((unhide Z).keep g1)
              replace r6 := r6.keep g1
              clear g1 s5
              go_wp2_with fail
              refine (alike_rows r6 r7 (by omega)).mono ?_
              rintro e y8 ⟨rfl, q8, rfl⟩
              replace Z := hide ((unhide Z).keep (grown_drewN _ q8))
              clear r6 r7
              go_wp2_with fail
              refine (meet_s (unhide Z).sb (unhide Z).sa gB gA lb' la').mono ?_
              rintro e y5 ⟨bt, rfl, s5, g1⟩
              rw [meet_turn gA gB] at s5
              replace Z := hide ((unhide Z).keep g1)
              clear g1
              go_wp2_with fail
              refine (runs_s s5 (by omega)).mono ?_
              rintro e y6 ⟨v6, rfl, r6, g1⟩
              replace Z := hide ((unhide Z).keep g1)
              clear g1
              go_wp2_with fail
              refine (runs_s (unhide Z).sm (by omega)).mono ?_
              rintro e y7 ⟨v7, rfl, r7, g1⟩
              replace Z := hide ((unhide Z).keep g1)
              replace r6 := r6.keep g1
              clear g1 s5
              go_wp2_with fail
              refine (alike_rows r6 r7 (by omega)).mono ?_
              rintro e y8 ⟨rfl, q8, rfl⟩
              replace Z := hide ((unhide Z).keep (grown_drewN _ q8))
              clear r6 r7
              go_wp2_with fail
              refine (runs_s (unhide Z).sa (by omega)).mono ?_
              rintro e y2 ⟨vr, rfl, rw2, g1⟩
              replace Z := hide ((unhide Z).keep g1)
              clear g1
              go_wp2_with fail
              refine (alike_rows rw2 (unhide Z).ra_ (by omega)).mono ?_
              rintro e y3 ⟨rfl, q3, rfl⟩
              replace Z := hide ((unhide Z).keep (grown_drewN _ q3))
              clear rw2
              go_wp2_with fail
              refine (runs_s (unhide Z).sb (by omega)).mono ?_
              rintro e y2 ⟨vr, rfl, rw2, g1⟩
              replace Z := hide ((unhide Z).keep g1)
              clear g1
              go_wp2_with fail
              refine (alike_rows rw2 (unhide Z).rb_ (by omega)).mono ?_
              rintro e y3 ⟨rfl, q3, rfl⟩
              replace Z := hide ((unhide Z).keep (grown_drewN _ q3))
              clear rw2
              have FG := hide (unhide Z).gr
              clear Z
              go_wp2_with fail
              go_ret
              exact ⟨rfl, unhide FG⟩

end Go.Proofs.Ytbcmeaebjngapaa
