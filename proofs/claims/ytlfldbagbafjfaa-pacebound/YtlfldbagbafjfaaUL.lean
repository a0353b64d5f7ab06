/- PaceBound. -/
import Derived.Test.YtlfldbagbafjfaaUL1
import Derived.Test.YtlfldbagbafjfaaUL2
import Derived.LoopIn
import Derived.Deep.CutRange
import Derived.Deep.DeepCutAuto
namespace Go.Proofs.Ytlfldbagbafjfaa
open Go.RowKit
set_option linter.unusedVariables false
set_option maxRecDepth 100000
set_option maxHeartbeats 4000000

def absF (x : Int) : Int := if x < 0 then -(x + 1) else x
theorem abs_b {x : Int} (h : i64B x) : 0 ≤ absF x ∧ absF x ≤ 9223372036854775807 := by unfold absF; split <;> omega
abbrev ycs (y : OpE) (a b : Int) : Array Value := #[.int .i64 y.kind, .int .i64 y.h, .int .i64 a, .int .i64 b, .int .i64 y.smooth]
theorem Blk.five {W : World} {g : Nat} {t : TypeId} {v0 v1 v2 v3 v4 : Value} (h : Blk W g #[v0, v1, v2, v3, v4] t) : (∀ j, W.frozen? ⟨g, j, none⟩ = false) ∧ W.cell? ⟨g, 0, none⟩ = some v0 ∧ W.cell? ⟨g, 2, none⟩ = some v2 ∧ W.cell? ⟨g, 3, none⟩ = some v3 ∧ W.cell? ⟨g, 4, none⟩ = some v4 :=
  ⟨fun j => h.thaw j, h.cell 0 _ rfl, h.cell 2 _ rfl, h.cell 3 _ rfl, h.cell 4 _ rfl⟩

theorem bound_walk (n : Int) (a0 : Option Addr) (len cap : Nat) (ol : List OpE) (w : World) (hn : i64B n) (h : IsOps w a0 len cap ol) :
    Calls Try.prog 6 #[.int .i64 n, .slice a0 len cap] w fun e w' => e = .returned (.bool true) ∧ w.grownBy w' none := by
  have sh := shown_any w
  have HO := hide h
  have hl := h.hlen
  have hcap := h.hcap
  have lenI : ¬ (9223372036854775807 : Int) < (len : Int) := by omega
  have NW := hide (fun (W : World) (g : w.grownBy W none) => qe_pacer g n hn)
  have bu := burst_any n hn
  have BD := hide (bd0 (bF_fits n))
  have most0 := (bF_fits n).1
  have most1 := (bF_fits n).2
  have PS0 : Hid ((ps0 (bF n)).rise = 0 ∧ (ps0 (bF n)).span = 1 ∧ (ps0 (bF n)).clock = 0) := ⟨rfl, rfl, rfl⟩
  clear h
  generalize ps0 (bF n) = s0 at *
  generalize bF n = most at *
  go_enter Try.func6, Try.ntmps6
  go_wp2_with fail
  refine sh.mono ?_
  rintro e w1 ⟨rfl, g1⟩
  clear sh
  go_wp2_with fail
  refine (unhide NW w1 g1).mono ?_
  rintro e w2 ⟨rfl, q2, -⟩
  clear g1 NW
  generalize w1.heap.size = b at *
  go_wp2_with fail
  refine (bu _).mono ?_
  rintro e w3 ⟨rfl, hw3⟩
  replace hw3 := hw3.symm
  subst hw3
  clear bu
  have S0 : Hid (QE w w2 b s0 ∧ RI w w2 (.slice none 0 0) [] ∧ Bd most 0 s0 []) := ⟨q2, ri_nil _ _, unhide BD⟩
  clear q2 BD
  go_wp2_with fail
  go_loopw [8, 9, 10, 11, 12] (fun rv sv cv lv iv wr => ∃ (k : Nat) (s : Ps) (T : List Int) (ta : Option Addr) (tn tq : Nat), k ≤ len ∧ rv = .int .i64 s.rise ∧ sv = .int .i64 s.span ∧ cv = .int .i64 s.clock ∧ lv = .slice ta tn tq ∧ iv = .int .i64 k ∧ Hid (QE w wr b s ∧ RI w wr (.slice ta tn tq) T ∧ Bd most k s T)) (fun _ _ _ _ i _ => len - (intOf i).toNat)
  case atStart => exact ⟨0, s0, [], none, 0, 0, Nat.zero_le _, by rw [(unhide PS0).1], by rw [(unhide PS0).2.1], by rw [(unhide PS0).2.2], rfl, rfl, S0⟩
  case round =>
    clear S0 PS0
    obtain ⟨k, s, T, ta, tn, tq, hk, rfl, rfl, rfl, rfl, rfl, H⟩ := hrel
    by_cases hlt : k < len ∧ k < 300
    · obtain ⟨bo, off, rfl, hcs⟩ := (unhide HO).cell.resolve_left (by omega)
      have hx' : ol[k]? = some ol[k] := List.getElem?_eq_getElem _
      have hcx := hcs k _ hx'
      have yok := (unhide HO).ok _ (List.mem_of_getElem? hx')
      generalize ol[k] = y at *
      have kn : (k : Int) < (len : Int) := by omega
      have k4 : (k : Int) < 300 := by omega
      have HLT := hide hlt
      have gw := (unhide H).1.grown
      have c0 := cell_grown (hcx 0 _ rfl) gw
      have c1 := cell_grown (hcx 1 _ rfl) gw
      have c2 := cell_grown (hcx 2 _ rfl) gw
      have c3 := cell_grown (hcx 3 _ rfl) gw
      have c4 := cell_grown (hcx 4 _ rfl) gw
      rw [Nat.add_zero] at c0
      obtain ⟨yw1, yw2⟩ := yok.w
      obtain ⟨ys1, ys2⟩ := yok.n
      have AB := hide (abs_b yok.w)
      have AZ := hide (abs_b yok.n)
      clear hcs hcx hx' hlt hk gw yok
      go_upto_region 14 with fail
      have B1 : Hid (BI w (wr.alloc (.cells (ycs y y.now y.size) 37)) b wr.heap.size s (ycs y y.now y.size) (.slice ta tn tq) T) :=
        ⟨(unhide H).1.keep (World.grownBy_alloc _ _ _), Blk.new _ _ _, (unhide H).1.grown.size, (unhide H).2.1.grown (World.grownBy_alloc _ _ _)⟩
      have BD := hide (unhide H).2.2
      clear H c0 c1 c2 c3 c4
      generalize wr.heap.size = o at *
      generalize wr.alloc _ = X1 at *
      obtain ⟨ft, f0, f2, f3, f4⟩ := (unhide B1).op.five
      go_upto_if 47 with fail
      go_cut [] from 31 to 156 (fun wc => ∃ X, X = wc ∧ Hid (BI w X b o s (ycs y (absF y.now) y.size) (.slice ta tn tq) T))
      case first =>
        by_cases yn : y.now < 0
        · have E : Hid (absF y.now = -(y.now + 1)) := if_pos yn
          have i1 : IntKind.i64.wrap (y.now + 1) = y.now + 1 := by rw [IntKind.wrap_i64]; omega
          have i2 : IntKind.i64.wrap (-(y.now + 1)) = -(y.now + 1) := by rw [IntKind.wrap_i64]; omega
          have B2 := hide ((unhide B1).op_set 2 (.int .i64 (-(y.now + 1))))
          rw [← unhide E] at B2
          clear B1
          go_wp2_with fail
          go_meet
          case rel => exact ⟨_, rfl, by rw [unhide E] at B2 ⊢; exact B2⟩
        · have E : Hid (absF y.now = y.now) := if_neg yn
          go_wp2_with fail
          go_meet
          case rel => exact ⟨_, rfl, by rw [unhide E]; exact B1⟩
      case rest =>
        obtain ⟨X, rfl, B2⟩ := hcut
        clear B1 ft f0 f2 f3 f4
        obtain ⟨ft, f0, f2, f3, f4⟩ := (unhide B2).op.five
        obtain ⟨ab1, ab2⟩ := unhide AB
        have zm : Int.tmod (absF y.now) 1073741824 = absF y.now % 1073741824 := Int.tmod_eq_emod_of_nonneg ab1
        have m0 := Int.emod_nonneg (absF y.now) (show (1073741824 : Int) ≠ 0 by decide)
        have m1 := Int.emod_lt_of_pos (absF y.now) (show (0 : Int) < 1073741824 by decide)
        generalize absF y.now % 1073741824 = C at *
        go_upto_if 58 with fail
        go_cut [10, 15, 16] from 31 to 156 (fun cv u1 u2 wc => ∃ (X : World) (T' : List Int) (c : Int), X = wc ∧ cv = .int .i64 c ∧ Hid (BI w X b o s (ycs y (absF y.now) y.size) (.slice ta tn tq) T' ∧ Bd most (k + 1) (fillF c s) (T' ++ [most]) ∧ (fillF c s).clock = c))
        case first =>
          by_cases hc : s.clock < C
          · have bd := unhide BD
            obtain ⟨p0, p1, p2, p3⟩ := flow_b bd hc m1
            have FL := hide (bd.flow hc m1)
            have ok := bd.ok
            have sc := ok.c
            have sp := ok.p
            have nz : s.span ≠ 0 := by omega
            have CK : Hid ((fillF C s).clock = C) := by show _ = _; rw [fill_clock]; unfold tmF win; omega
            have j1 : IntKind.i64.wrap (C - s.clock) = C - s.clock := by rw [IntKind.wrap_i64]; omega
            have j2 : IntKind.i64.wrap ((C - s.clock) * s.rise) = (C - s.clock) * s.rise := by rw [IntKind.wrap_i64]; omega
            have j3 : IntKind.i64.wrap (Int.tdiv ((C - s.clock) * s.rise) s.span) = (C - s.clock) * s.rise / s.span := by
              have e : flowF C s = (C - s.clock) * s.rise / s.span + 1 := rfl
              rw [Int.tdiv_eq_ediv_of_nonneg p0, IntKind.wrap_i64]; omega
            have j4 : IntKind.i64.wrap ((C - s.clock) * s.rise / s.span + 1) = flowF C s := by
              have e : flowF C s = (C - s.clock) * s.rise / s.span + 1 := rfl
              rw [IntKind.wrap_i64]; omega
            have LE := hide (fun x (hx : x ∈ T) => And.intro (bd.le_left hx) (bd.le x hx))
            have left0 := bd.left
            have S1 : Hid (BI w X b o s (ycs y (absF y.now) y.size) (.slice ta tn tq) (mixL (· + flowF C s) 0 T)) := by rw [mix_zero]; exact B2
            have tn' := hide ((unhide B2).r.at.1)
            clear bd ok sc sp B2 BD
            generalize flowF C s = F at *
            generalize (C - s.clock) * s.rise / s.span = Q at *
            go_wp2_with fail
            go_loopw [16] (fun iv wr => ∃ j : Nat, j ≤ tn ∧ iv = .int .i64 j ∧ Hid (BI w wr b o s (ycs y (absF y.now) y.size) (.slice ta tn tq) (mixL (· + F) j T))) (fun iv _ => tn - (intOf iv).toNat)
            case atStart => exact ⟨0, Nat.zero_le _, rfl, S1⟩
            case round =>
              clear S1 ft f0 f2 f3 f4
              obtain ⟨j, hj, rfl, H⟩ := hrel
              by_cases jl : j < tn
              · have hx : T[j]? = some (T[j]'(by have := unhide tn'; omega)) := List.getElem?_eq_getElem _
                have hm := List.mem_of_getElem? hx
                have ST := hide (mix_step (· + F) j T _ hx)
                have AT := mix_at (· + F) j T _ hx
                have XB := unhide LE _ hm
                generalize T[j]'(by have := unhide tn'; omega) = x at *
                obtain ⟨r1, r2, r3, r4⟩ := (unhide H).r.at
                rcases r4 with r4 | ⟨g, cur, rfl, rg, rb, rc⟩
                · exfalso
                  have := unhide tn'
                  rw [← mix_len (· + F) j T, r4] at this
                  simp at this
                  omega
                · have cx := rc j x AT
                  have fz := fun i => Blk.thaw rb i
                  have jn : (j : Int) < (tn : Int) := by omega
                  have i1 : IntKind.i64.wrap (x + F) = x + F := by rw [IntKind.wrap_i64]; omega
                  have R := hide ((unhide H).set j (by rw [mix_len]; have := unhide tn'; omega) (x + F))
                  rw [unhide ST] at R
                  have JL := hide jl
                  have jw : IntKind.i64.wrap ((j : Int) + 1) = (j : Int) + 1 := by unfold maxLen at r3; rw [IntKind.wrap_i64]; omega
                  have jw2 : (j : Int) + 1 ≤ 9223372036854775807 := by unfold maxLen at r3; omega
                  clear H rc rb AT ST r1 r2 r3 XB hx hm jl hj
                  go_wp2_with fail
                  go_roundw
                  case rel => exact ⟨j + 1, unhide JL, by go_num, R⟩
                  case measure => have := unhide JL; simp [intOf]; omega
              · have jn : ¬ (j : Int) < (tn : Int) := by omega
                have H2 : Hid (BI w wr b o s (ycs y (absF y.now) y.size) (.slice ta tn tq) (T.map (· + F))) := by
                  have := unhide tn'
                  have h2 := unhide H
                  rw [show j = T.length by omega, mix_end] at h2
                  exact h2
                clear jl hj H
                go_wp2_with fail
                go_meet
                case rel => exact ⟨_, _, _, rfl, rfl, ⟨unhide H2, unhide FL, unhide CK⟩⟩
          · have bd := unhide BD
            have e0 : fillF s.clock s = s := fill_now bd.ok (Int.le_refl _)
            have R : Hid (BI w X b o s (ycs y (absF y.now) y.size) (.slice ta tn tq) T ∧ Bd most (k + 1) (fillF s.clock s) (T ++ [most]) ∧ (fillF s.clock s).clock = s.clock) := by
              rw [e0]
              exact ⟨unhide B2, bd.stay, rfl⟩
            clear bd e0
            go_wp2_with fail
            go_meet
            case rel => exact ⟨_, _, _, rfl, rfl, R⟩
        case rest =>
          obtain ⟨X2, T', c, rfl, rfl, B3⟩ := hcut
          clear B2 BD ft f0 f2 f3 f4 zm m0 m1 ab1 ab2 AB
          generalize absF y.now = N1 at *
          obtain ⟨b3, bd, ck⟩ := unhide B3
          have hlt' := unhide HLT
          have tl' : (T' ++ [most]).length = k + 1 := bd.len
          obtain ⟨X3, hX3⟩ : ∃ X3, X3 = X2.alloc (.cells #[.int .i64 most] 2) := ⟨_, rfl⟩
          have g3 : X2.grownBy X3 none := by rw [hX3]; exact World.grownBy_alloc _ _ _
          have c5 : X3.cell? ⟨X2.heap.size, 0, none⟩ = some (.int .i64 most) := by rw [hX3]; exact (Blk.new X2 #[.int .i64 most] 2).cell 0 _ rfl
          have tl2 : T'.length = k := by simpa using tl'
          have tn' : tn = T'.length := b3.r.at.1
          obtain ⟨a', c', X4, hap, r4, g4⟩ := ri_app w X3 (.slice ta tn tq) T' most X2.heap.size 1 (b3.r.grown g3) (gtrans b3.q.grown g3) c5 (by omega)
          have B4 := hide ((b3.grown g3).app g4 r4)
          rw [tl2] at hap B4
          have BD := hide bd
          have CK := hide ck
          rw [hX3] at hap
          have HAP := hide hap
          clear hX3 g3 c5 r4 g4 hap bd ck b3 B3 hlt' tl' tl2
          go_upto_region 25 with (at_builtin; refine wpList_append_run _ rfl _ _ 44 44 rfl _ _ rfl rfl (unhide HAP) ?_)
          clear HAP
          generalize T' ++ [most] = T2 at *
          obtain ⟨ft, f0, f2, f3, f4⟩ := (unhide B4).op.five
          have bd := unhide BD
          have fok := bd.ok
          have cb := fok.c
          have cb' := bd.clock
          rw [unhide CK] at cb cb'
          obtain ⟨cb1, cb2⟩ := cb
          clear bd fok
          have bq : ∀ m : Int, y.kind ≠ m → (y.kind == m) = false := fun m hm => by simpa using hm
          by_cases t1 : y.kind = 1
          · have d1 : (y.kind == 1) = true := by simpa using t1
            clear bq t1
            go_upto_if 96 with fail
            go_cut [] from 31 to 156 (fun wc => ∃ X, X = wc ∧ Hid (BI w X b o s (ycs y N1 (absF y.size)) (.slice a' (k + 1) c') T2))
            case first =>
              by_cases yn : y.size < 0
              · have E : Hid (absF y.size = -(y.size + 1)) := if_pos yn
                have i1 : IntKind.i64.wrap (y.size + 1) = y.size + 1 := by rw [IntKind.wrap_i64]; omega
                have i2 : IntKind.i64.wrap (-(y.size + 1)) = -(y.size + 1) := by rw [IntKind.wrap_i64]; omega
                have B5 := hide ((unhide B4).op_set 3 (.int .i64 (-(y.size + 1))))
                rw [← unhide E] at B5
                clear B4
                go_wp2_with fail
                go_meet
                case rel => exact ⟨_, rfl, by rw [unhide E] at B5 ⊢; exact B5⟩
              · have E : Hid (absF y.size = y.size) := if_neg yn
                go_wp2_with fail
                go_meet
                case rel => exact ⟨_, rfl, by rw [unhide E]; exact B4⟩
            case rest =>
              obtain ⟨X5, rfl, B5⟩ := hcut
              clear B4 ft f0 f2 f3 f4
              obtain ⟨ft, f0, f2, f3, f4⟩ := (unhide B5).op.five
              obtain ⟨ab1, ab2⟩ := unhide AZ
              have zm : Int.tmod (absF y.size) 1048576 = absF y.size % 1048576 := Int.tmod_eq_emod_of_nonneg ab1
              have m0 := Int.emod_nonneg (absF y.size) (show (1048576 : Int) ≠ 0 by decide)
              have m1 := Int.emod_lt_of_pos (absF y.size) (show (0 : Int) < 1048576 by decide)
              generalize absF y.size = N2 at *
              generalize N2 % 1048576 = Z at *
              have SC := qe_set (unhide B5).q c Z y.smooth
              have BS := hide ((unhide BD).set Z y.smooth (by omega))
              have wz : IntKind.i64.wrap (5 * Z) = 5 * Z := by rw [IntKind.wrap_i64]; omega
              have wb := win_b (x := y.smooth) (show (1 : Int) ≤ 68719476736 by decide)
              have wm : max 1 (min y.smooth 68719476736) = win y.smooth 1 68719476736 := by unfold win; omega
              have w4 : IntKind.i64.wrap (4 * max 1 (min y.smooth 68719476736)) = 4 * win y.smooth 1 68719476736 := by rw [wm, IntKind.wrap_i64]; omega
              have RE : Hid (5 * Z = (setF c Z y.smooth s).rise) := by show 5 * Z = 5 * win Z 0 1099511627776; unfold win; omega
              have KE : Hid (c = (setF c Z y.smooth s).clock) := (unhide CK).symm
              have SE : Hid (4 * win y.smooth 1 68719476736 = (setF c Z y.smooth s).span) := rfl
              clear wm wb ab1 ab2
              go_wp2_with fail
              refine SC.mono ?_
              rintro e X6 ⟨rfl, q6, g6⟩
              clear SC ft f0 f2 f3 f4
              have b6 := (unhide B5).call q6 g6
              have R : Hid (QE w X6 b (setF c Z y.smooth s) ∧ RI w X6 (.slice a' (k + 1) c') T2 ∧ Bd most (k + 1) (setF c Z y.smooth s) T2) := ⟨q6, b6.r, unhide BS⟩
              obtain ⟨ft, f0, f2, f3, f4⟩ := b6.op.five
              clear b6 q6 g6 B5 BD BS
              go_wp2_with fail
              go_roundw
              case rel => exact ⟨k + 1, setF c Z y.smooth s, T2, a', k + 1, c', (unhide HLT).1, congrArg _ (unhide RE), congrArg _ (unhide SE), congrArg _ (unhide KE), rfl, by go_num, R⟩
              case measure => have := unhide HLT; simp [intOf]; omega
          · have d1 := bq 1 t1
            by_cases t3 : y.kind = 3
            · have d3 : (y.kind == 3) = true := by simpa using t3
              clear bq t1 t3
              have bd := unhide BD
              have fok := bd.ok
              obtain ⟨f, hf⟩ : ∃ f, f = fillF c s := ⟨_, rfl⟩
              have hbu := bd.burst
              have wn := when_now fok y.size
              have ef : fillF c f = f := by rw [hf]; exact fill_now fok (by rw [unhide CK]; exact Int.le_refl _)
              have wh : whenF c y.size s = whenG y.size (fillF c s) := rfl
              have ck := unhide CK
              have fr : (fillF c s).rise = s.rise := fill_rise _ _
              have fs : (fillF c s).span = s.span := fill_span _ _
              rw [← hf] at bd fok hbu wn wh ck fr fs
              rw [hbu, ck, ← wh] at wn
              have WC := qe_when (unhide B4).q c y.size
              rw [← hf] at WC
              have wb := win_b (x := y.size) (show (0 : Int) ≤ most by omega)
              have wm : max 0 (min y.size most) = win y.size 0 most := by unfold win; omega
              have SPE : spendF c y.size f = { f with left := max (f.left - win y.size 0 most) (-most) } := by unfold spendF; rw [ef, ← hbu]
              have FR := hide fr
              have FS := hide fs
              have CF := hide ck
              have BF := hide bd
              have l0 := bd.left
              clear bd fok hbu wh ck fr fs BD hf
              generalize win y.size 0 most = Z at *
              generalize whenF c y.size s = V at *
              by_cases hz : Z ≤ f.left
              · have hV := wn.2 hz
                subst hV
                have SPE2 : spendF V y.size f = { f with left := f.left - Z } := by rw [SPE, show max (f.left - Z) (-most) = f.left - Z by omega]
                have BS := hide ((unhide BF).spend Z ⟨wb.1, hz⟩)
                have LE := hide (fun x (hx : x ∈ T2) => And.intro ((unhide BF).le_left hx) ((unhide BF).le x hx))
                have T2L := hide (unhide BF).len
                obtain ⟨wb1, wb2⟩ := wb
                clear SPE wn
                go_wp2_with fail
                refine WC.mono ?_
                rintro e X5 ⟨rfl, q5, g5⟩
                clear WC ft f0 f2 f3 f4
                have b5 := (unhide B4).call q5 g5
                have SP := qe_spend q5 V y.size
                rw [SPE2] at SP
                obtain ⟨ft, f0, f2, f3, f4⟩ := b5.op.five
                have B5 := hide b5
                clear b5 q5 g5 B4 ef
                go_wp2_with fail
                refine SP.mono ?_
                rintro e X6 ⟨rfl, q6, g6⟩
                clear SP ft f0 f2 f3 f4
                have S1 : Hid (BI w X6 b o { f with left := f.left - Z } (ycs y N1 y.size) (.slice a' (k + 1) c') (mixL (· - Z) 0 T2)) := by rw [mix_zero]; exact (unhide B5).call q6 g6
                have f3 := (unhide S1).op.cell 3 _ rfl
                clear q6 g6 B5 SPE2
                go_wp2_with fail
                go_loopw [19] (fun iv wr => ∃ j : Nat, j ≤ k + 1 ∧ iv = .int .i64 j ∧ Hid (BI w wr b o { f with left := f.left - Z } (ycs y N1 y.size) (.slice a' (k + 1) c') (mixL (· - Z) j T2))) (fun iv _ => k + 1 - (intOf iv).toNat)
                case atStart => exact ⟨0, Nat.zero_le _, rfl, S1⟩
                case round =>
                  clear S1 f3
                  obtain ⟨j, hj, rfl, H⟩ := hrel
                  by_cases jl : j < k + 1
                  · have hx : T2[j]? = some (T2[j]'(by have := unhide T2L; omega)) := List.getElem?_eq_getElem _
                    have hm := List.mem_of_getElem? hx
                    have ST := hide (mix_step (· - Z) j T2 _ hx)
                    have AT := mix_at (· - Z) j T2 _ hx
                    have XB := unhide LE _ hm
                    generalize T2[j]'(by have := unhide T2L; omega) = x at *
                    obtain ⟨r1, r2, r3, r4⟩ := (unhide H).r.at
                    rcases r4 with r4 | ⟨g, cur, rfl, rg, rb, rc⟩
                    · exfalso
                      have := unhide T2L
                      rw [← mix_len (· - Z) j T2, r4] at this
                      simp at this
                    · have cx := rc j x AT
                      have fz := fun i => Blk.thaw rb i
                      have jn : (j : Int) < (k : Int) + 1 := by omega
                      have jn' : (j : Int) < ((k + 1 : Nat) : Int) := by omega
                      have i1 : IntKind.i64.wrap (x - Z) = x - Z := by rw [IntKind.wrap_i64]; omega
                      have xz : ¬ x - Z < 0 := by omega
                      have R := hide ((unhide H).set j (by rw [mix_len]; have := unhide T2L; omega) (x - Z))
                      rw [unhide ST] at R
                      have JL := hide jl
                      have jw : IntKind.i64.wrap ((j : Int) + 1) = (j : Int) + 1 := by rw [IntKind.wrap_i64]; omega
                      have jw2 : (j : Int) + 1 ≤ 9223372036854775807 := by omega
                      clear H rc rb AT ST r1 r2 r3 XB hx hm jl hj
                      go_wp2_with fail
                      go_roundw
                      case rel => exact ⟨j + 1, unhide JL, by go_num, R⟩
                      case measure => have := unhide JL; simp [intOf]; omega
                  · have jn : ¬ (j : Int) < (k : Int) + 1 := by omega
                    have jn' : ¬ (j : Int) < ((k + 1 : Nat) : Int) := by omega
                    have R : Hid (QE w wr b { f with left := f.left - Z } ∧ RI w wr (.slice a' (k + 1) c') (T2.map (· - Z)) ∧ Bd most (k + 1) { f with left := f.left - Z } (T2.map (· - Z))) := by
                      have := unhide T2L
                      have h2 := unhide H
                      rw [show j = T2.length by omega, mix_end] at h2
                      exact ⟨h2.q, h2.r, unhide BS⟩
                    clear jl hj H BS
                    go_wp2_with fail
                    go_roundw
                    case rel => exact ⟨k + 1, { f with left := f.left - Z }, _, _, _, _, (unhide HLT).1, congrArg _ (unhide FR).symm, congrArg _ (unhide FS).symm, congrArg _ (unhide CF).symm, rfl, by go_num, R⟩
                    case measure => have := unhide HLT; simp [intOf]; omega
              · have hV : ¬ V = c := fun e => hz (wn.1 e)
                have hVb : (V == c) = false := by simpa using hV
                obtain ⟨wb1, wb2⟩ := wb
                clear SPE wn
                go_wp2_with fail
                refine WC.mono ?_
                rintro e X5 ⟨rfl, q5, g5⟩
                clear WC ft f0 f2 f3 f4
                have b5 := (unhide B4).call q5 g5
                have R : Hid (QE w X5 b f ∧ RI w X5 (.slice a' (k + 1) c') T2 ∧ Bd most (k + 1) f T2) := ⟨q5, b5.r, unhide BF⟩
                clear b5 q5 g5 B4 BF ef
                go_wp2_with fail
                go_roundw
                case rel => exact ⟨k + 1, f, _, _, _, _, (unhide HLT).1, congrArg _ (unhide FR).symm, congrArg _ (unhide FS).symm, congrArg _ (unhide CF).symm, rfl, by go_num, R⟩
                case measure => have := unhide HLT; simp [intOf]; omega
            · have d3 := bq 3 t3
              clear bq t1 t3
              have LC := qe_left (unhide B4).q c
              go_wp2_with fail
              refine LC.mono ?_
              rintro e X5 ⟨rfl, q5, g5⟩
              have R : Hid (QE w X5 b (fillF c s) ∧ RI w X5 (.slice a' (k + 1) c') T2 ∧ Bd most (k + 1) (fillF c s) T2) := ⟨q5, ((unhide B4).call q5 g5).r, unhide BD⟩
              clear LC q5 g5 B4 BD
              go_wp2_with fail
              go_roundw
              case rel => exact ⟨k + 1, _, _, _, _, _, (unhide HLT).1, by rw [fill_rise], by rw [fill_span], by rw [unhide CK], rfl, by go_num, R⟩
              case measure => have := unhide HLT; simp [intOf]; omega
    · have alt : (¬ (k : Int) < (len : Int)) ∨ ((k : Int) < (len : Int) ∧ ¬ (k : Int) < 300) := by omega
      have EN := hide (unhide H).1.grown
      clear H hlt
      rcases alt with e1 | ⟨e1, e2⟩
      all_goals
        go_wp2_with fail
        go_ret
        exact ⟨rfl, unhide EN⟩
end Go.Proofs.Ytlfldbagbafjfaa
