/- math/bits: Div64: a digit, by numbers; the walk. -/
import Derived.Test.YtlfldbagbafjfaaUM
import Derived.LoopIn
import Derived.Deep.CutRange
import Derived.Deep.CutBlock
import Derived.Deep.DeepCutAuto
namespace Go.Proofs.Ytlfldbagbafjfaa
open Go.RowKit
set_option linter.unusedVariables false
set_option maxRecDepth 100000
set_option maxHeartbeats 1000000

/-- The digit that is sought: u is below the divisor, d the next digit. -/
structure Dg (y1 y0 u d : Int) : Prop where
  hy1 : 2147483648 ≤ y1 ∧ y1 < 4294967296
  hy0 : 0 ≤ y0 ∧ y0 < 4294967296
  hu : 0 ≤ u ∧ u < y1 * 4294967296 + y0
  hd : 0 ≤ d ∧ d < 4294967296
/-- How far the guessing has come. -/
structure DI (y1 y0 u d q r : Int) : Prop where
  eq : q * y1 + r = u
  ge : (u * 4294967296 + d) / (y1 * 4294967296 + y0) ≤ q
  hr : 0 ≤ r ∧ r < 4294967296
  hq : 0 ≤ q ∧ q ≤ 4294967297

theorem Dg.quo {y1 y0 u d : Int} (h : Dg y1 y0 u d) : 0 ≤ (u * 4294967296 + d) / (y1 * 4294967296 + y0) ∧ (u * 4294967296 + d) / (y1 * 4294967296 + y0) < 4294967296 := by
  have a := h.hy1; have b := h.hy0; have c := h.hu; have e := h.hd
  refine ⟨Int.ediv_nonneg (by omega) (by omega), ?_⟩
  rw [Int.ediv_lt_iff_lt_mul (by omega)]
  generalize y1 * 4294967296 + y0 = Y at *
  omega
theorem Dg.start {y1 y0 u d : Int} (h : Dg y1 y0 u d) : DI y1 y0 u d (u / y1) (u % y1) := by
  have a := h.hy1; have b := h.hy0; have c := h.hu; have e := h.hd
  have q0 : 0 ≤ u / y1 := Int.ediv_nonneg c.1 (by omega)
  have r0 := Int.emod_nonneg u (show y1 ≠ 0 by omega)
  have r1 := Int.emod_lt_of_pos u (show 0 < y1 by omega)
  have eq : u / y1 * y1 + u % y1 = u := by have := Int.mul_ediv_add_emod u y1; rw [Int.mul_comm] at this; exact this
  refine ⟨eq, ?_, by omega, q0, ?_⟩
  · have : (u * 4294967296 + d) / (y1 * 4294967296 + y0) < u / y1 + 1 := by
      rw [Int.ediv_lt_iff_lt_mul (by omega), Int.add_mul, Int.one_mul, Int.mul_add, ← Int.mul_assoc]
      have m : 0 ≤ u / y1 * y0 := Int.mul_nonneg q0 b.1
      generalize u / y1 * y0 = M at *
      generalize u / y1 * y1 = K at *
      omega
    omega
  · have : u / y1 < 4294967298 := by
      rw [Int.ediv_lt_iff_lt_mul (by omega)]
      omega
    omega
theorem DI.out {y1 y0 u d q r : Int} (g : Dg y1 y0 u d) (h : DI y1 y0 u d q r) (c : q * y0 ≤ 4294967296 * r + d) : q = (u * 4294967296 + d) / (y1 * 4294967296 + y0) := by
  have a := g.hy1; have b := g.hy0
  have eq := h.eq
  have := h.ge
  have le : q ≤ (u * 4294967296 + d) / (y1 * 4294967296 + y0) := by
    rw [Int.le_ediv_iff_mul_le (by omega), Int.mul_add, ← Int.mul_assoc]
    generalize q * y0 = M at *
    generalize q * y1 = K at *
    omega
  omega
theorem DI.down {y1 y0 u d q r : Int} (g : Dg y1 y0 u d) (h : DI y1 y0 u d q r) (c : 4294967296 ≤ q ∨ 4294967296 * r + d < q * y0) :
    1 ≤ q ∧ (r + y1 < 4294967296 → DI y1 y0 u d (q - 1) (r + y1)) ∧ (4294967296 ≤ r + y1 → q - 1 = (u * 4294967296 + d) / (y1 * 4294967296 + y0)) := by
  have a := g.hy1; have b := g.hy0; have hd := g.hd
  have eq := h.eq
  have hr := h.hr
  have hq := h.hq
  have Q := g.quo
  have lt : (u * 4294967296 + d) / (y1 * 4294967296 + y0) < q := by
    rcases c with c | c
    · omega
    · rw [Int.ediv_lt_iff_lt_mul (by omega), Int.mul_add, ← Int.mul_assoc]
      generalize q * y0 = M at *
      generalize q * y1 = K at *
      omega
  have e1 : (q - 1) * y1 + (r + y1) = u := by rw [Int.sub_mul, Int.one_mul]; omega
  refine ⟨by omega, fun k => ⟨e1, by omega, by omega, by omega⟩, fun k => ?_⟩
  have le : q - 1 ≤ (u * 4294967296 + d) / (y1 * 4294967296 + y0) := by
    rw [Int.le_ediv_iff_mul_le (by omega), Int.mul_add, ← Int.mul_assoc]
    have m : (q - 1) * y0 ≤ 4294967296 * 4294967295 := Int.mul_le_mul (by omega) (by omega) (by omega) (by omega)
    generalize (q - 1) * y0 = M at *
    generalize (q - 1) * y1 = K at *
    omega
  omega
theorem prod_in {a b : Int} (ha : 0 ≤ a ∧ a < 4294967296) (hb : 0 ≤ b ∧ b < 4294967296) : 0 ≤ a * b ∧ a * b < 18446744073709551616 := by
  have := prod_bound a b ha.1 (by omega) hb.1 (by omega)
  omega

theorem div64_walk (hi lo y s Y U L y1 y0 d1 d0 : Int) (hh : 0 < hi ∧ hi < y) (hs : 0 ≤ s ∧ s ≤ 63) (w : World)
    (eY : IntKind.u64.wrap (y * 2 ^ s.toNat) = Y) (eU : bits .or .u64 (IntKind.u64.wrap (hi * 2 ^ s.toNat)) (lo / 2 ^ (64 - s).toNat) = U) (eL : IntKind.u64.wrap (lo * 2 ^ s.toNat) = L)
    (e1 : Y / 4294967296 = y1) (e0 : bits .and .u64 Y 4294967295 = y0) (k1 : L / 4294967296 = d1) (k0 : bits .and .u64 L 4294967295 = d0)
    (hY : Y = y1 * 4294967296 + y0) (g : Dg y1 y0 U d1) (hd : 0 ≤ d0 ∧ d0 < 4294967296)
    (LZ : ∀ W, Calls Try.prog 32 #[.int .u64 y] W fun e w' => e = .returned (.int .i64 s) ∧ w' = W) :
    Calls Try.prog 31 #[.int .u64 hi, .int .u64 lo, .int .u64 y] w fun e w' => e = .returned (.tuple #[.int .u64 ((U * 4294967296 + d1) / Y * 4294967296 + ((U * 4294967296 + d1) % Y * 4294967296 + d0) / Y), .int .u64 (((U * 4294967296 + d1) % Y * 4294967296 + d0) % Y / 2 ^ s.toNat)]) ∧ w' = w := by
  obtain ⟨h1, h2⟩ := hh
  obtain ⟨s1, s2⟩ := hs
  have y1b := g.hy1
  have y0b := g.hy0
  have ub := g.hu
  have db := g.hd
  obtain ⟨y11, y12⟩ := y1b
  obtain ⟨y01, y02⟩ := y0b
  obtain ⟨u1, u2⟩ := ub
  obtain ⟨b1, b2⟩ := db
  obtain ⟨b3, b4⟩ := hd
  have nz : y1 ≠ 0 := by omega
  have Yb : 0 < Y ∧ Y < 18446744073709551616 := by omega
  -- the first digit
  obtain ⟨Q1, hQ1⟩ : ∃ Q1, Q1 = (U * 4294967296 + d1) / Y := ⟨_, rfl⟩
  obtain ⟨R1, hR1⟩ : ∃ R1, R1 = (U * 4294967296 + d1) % Y := ⟨_, rfl⟩
  have R1b : 0 ≤ R1 ∧ R1 < Y := by rw [hR1]; exact ⟨Int.emod_nonneg _ (by omega), Int.emod_lt_of_pos _ (by omega)⟩
  have Q1b : 0 ≤ Q1 ∧ Q1 < 4294967296 := by rw [hQ1, hY]; exact g.quo
  have E1 : IntKind.u64.wrap (IntKind.u64.wrap (IntKind.u64.wrap (U * 4294967296) + d1) - IntKind.u64.wrap (Q1 * Y)) = R1 := by
    have := Int.mul_ediv_add_emod (U * 4294967296 + d1) Y
    rw [← hQ1, ← hR1, Int.mul_comm] at this
    simp only [IntKind.wrap_u64]
    generalize Q1 * Y = M at *
    omega
  have g' : Dg y1 y0 R1 d0 := ⟨g.hy1, g.hy0, by omega, ⟨b3, b4⟩⟩
  obtain ⟨Q0, hQ0⟩ : ∃ Q0, Q0 = (R1 * 4294967296 + d0) / Y := ⟨_, rfl⟩
  obtain ⟨R0, hR0⟩ : ∃ R0, R0 = (R1 * 4294967296 + d0) % Y := ⟨_, rfl⟩
  have Q0b : 0 ≤ Q0 ∧ Q0 < 4294967296 := by rw [hQ0, hY]; exact g'.quo
  have R0b : 0 ≤ R0 ∧ R0 < Y := by rw [hR0]; exact ⟨Int.emod_nonneg _ (by omega), Int.emod_lt_of_pos _ (by omega)⟩
  have E0 : IntKind.u64.wrap (IntKind.u64.wrap (IntKind.u64.wrap (R1 * 4294967296) + d0) - IntKind.u64.wrap (Q0 * Y)) = R0 := by
    have := Int.mul_ediv_add_emod (R1 * 4294967296 + d0) Y
    rw [← hQ0, ← hR0, Int.mul_comm] at this
    simp only [IntKind.wrap_u64]
    generalize Q0 * Y = M at *
    omega
  have E2 : IntKind.u64.wrap (IntKind.u64.wrap (Q1 * 4294967296) + Q0) = Q1 * 4294967296 + Q0 := by
    simp only [IntKind.wrap_u64]
    omega
  rw [← hQ1, ← hR1, ← hQ0, ← hR0]
  have ST1 := hide (show ∃ q r, DI y1 y0 U d1 q r ∧ IntKind.u64.wrap (U.tdiv y1) = q ∧ IntKind.u64.wrap (q * y1) = q * y1 ∧ IntKind.u64.wrap (U - q * y1) = r by
    have st := g.start
    refine ⟨_, _, st, ?_, ?_, ?_⟩
    · rw [Int.tdiv_eq_ediv_of_nonneg u1, IntKind.wrap_u64]; have := st.hq; omega
    · have := st.eq; have := st.hr; have := Int.mul_nonneg st.hq.1 (show 0 ≤ y1 by omega); rw [IntKind.wrap_u64]; generalize U / y1 * y1 = M at *; omega
    · have := st.eq; have := st.hr; rw [IntKind.wrap_u64]; generalize U / y1 * y1 = M at *; omega)
  have ST0 := hide (show ∃ q r, DI y1 y0 R1 d0 q r ∧ IntKind.u64.wrap (R1.tdiv y1) = q ∧ IntKind.u64.wrap (q * y1) = q * y1 ∧ IntKind.u64.wrap (R1 - q * y1) = r by
    have st := g'.start
    have r1 := R1b.1
    refine ⟨_, _, st, ?_, ?_, ?_⟩
    · rw [Int.tdiv_eq_ediv_of_nonneg r1, IntKind.wrap_u64]; have := st.hq; omega
    · have := st.eq; have := st.hr; have := Int.mul_nonneg st.hq.1 (show 0 ≤ y1 by omega); rw [IntKind.wrap_u64]; generalize R1 / y1 * y1 = M at *; omega
    · have := st.eq; have := st.hr; rw [IntKind.wrap_u64]; generalize R1 / y1 * y1 = M at *; omega)
  have OUT1 : Hid (∀ q, q = (U * 4294967296 + d1) / (y1 * 4294967296 + y0) → q = Q1) := by intro q hq; rw [hQ1, hY]; exact hq
  have OUT0 : Hid (∀ q, q = (R1 * 4294967296 + d0) / (y1 * 4294967296 + y0) → q = Q0) := by intro q hq; rw [hQ0, hY]; exact hq
  have G1 := hide g
  have G0 := hide g'
  have HY := hide hY
  clear g g' hY hQ1 hR1 hQ0 hR0 Yb
  obtain ⟨qa, ra, D1, ta, tb, tc⟩ := unhide ST1
  obtain ⟨qb, rb, D0, td, te, tf⟩ := unhide ST0
  have D1 := hide D1
  have D0 := hide D0
  clear ST1 ST0
  obtain ⟨Q11, Q12⟩ := Q1b
  obtain ⟨R11, R12⟩ := R1b
  obtain ⟨Q01, Q02⟩ := Q0b
  obtain ⟨R01, R02⟩ := R0b
  go_enter Try.func31, Try.ntmps31
  go_wp2_with fail
  refine (LZ _).mono ?_
  rintro e W ⟨rfl, rfl⟩
  go_upto_block 0 with fail
  go_cut [15] (fun v wc => v = .int .u64 Q1 ∧ wc = W)
  case first =>
    clear E1 E0 E2 td te tf D0 OUT0 G0
    go_wp2_with fail
    go_loopw [15, 16] (fun qv rv wr => ∃ q r : Int, qv = .int .u64 q ∧ rv = .int .u64 r ∧ Hid (DI y1 y0 U d1 q r) ∧ wr = W) (fun qv _ _ => (intOf qv).toNat)
    case atStart => exact ⟨_, _, rfl, rfl, D1, rfl⟩
    case round =>
      clear D1 ta tb tc
      obtain ⟨q, r, rfl, rfl, D, hwr⟩ := hrel
      subst hwr
      have dr := (unhide D).hr
      have dq := (unhide D).hq
      obtain ⟨r1, r2⟩ := dr
      obtain ⟨q1, q2⟩ := dq
      have wr1 : IntKind.u64.wrap (r + y1) = r + y1 := by rw [IntKind.wrap_u64]; omega
      have wr2 : IntKind.u64.wrap (4294967296 * r) = 4294967296 * r := by rw [IntKind.wrap_u64]; omega
      have wr3 : IntKind.u64.wrap (4294967296 * r + d1) = 4294967296 * r + d1 := by rw [IntKind.wrap_u64]; omega
      by_cases c1 : 4294967296 ≤ q
      · obtain ⟨d1', d2', d3'⟩ := DI.down (unhide G1) (unhide D) (.inl c1)
        have d2' := hide d2'
        have d3' := hide d3'
        have wq : IntKind.u64.wrap (q - 1) = q - 1 := by rw [IntKind.wrap_u64]; omega
        by_cases c2 : 4294967296 ≤ r + y1
        · go_wp2_with fail
          go_meet
          case rel => first | exact ⟨congrArg _ (unhide OUT1 _ (unhide d3' c2)), rfl⟩ | exact ⟨congrArg _ (unhide OUT1 _ rfl), rfl⟩ | exact congrArg _ (unhide OUT1 _ (unhide d3' c2)) | exact congrArg _ (unhide OUT1 _ rfl)
        · go_wp2_with fail
          go_roundw
          case rel => first | exact ⟨_, _, rfl, rfl, unhide d2' (by omega), rfl⟩ | exact ⟨_, _, rfl, rfl, unhide d2' (by omega), trivial⟩
          case measure => simp [intOf]; omega
      · have pb := prod_in (a := q) (b := y0) ⟨q1, by omega⟩ ⟨y01, y02⟩
        obtain ⟨p1, p2⟩ := pb
        have wp : IntKind.u64.wrap (q * y0) = q * y0 := by rw [IntKind.wrap_u64]; exact Int.emod_eq_of_lt p1 p2
        by_cases c3 : 4294967296 * r + d1 < q * y0
        · obtain ⟨d1', d2', d3'⟩ := DI.down (unhide G1) (unhide D) (.inr c3)
          have d2' := hide d2'
          have d3' := hide d3'
          have wq : IntKind.u64.wrap (q - 1) = q - 1 := by rw [IntKind.wrap_u64]; omega
          by_cases c2 : 4294967296 ≤ r + y1
          · go_wp2_with fail
            go_meet
            case rel => first | exact ⟨congrArg _ (unhide OUT1 _ (unhide d3' c2)), rfl⟩ | exact ⟨congrArg _ (unhide OUT1 _ rfl), rfl⟩ | exact congrArg _ (unhide OUT1 _ (unhide d3' c2)) | exact congrArg _ (unhide OUT1 _ rfl)
          · go_wp2_with fail
            go_roundw
            case rel => first | exact ⟨_, _, rfl, rfl, unhide d2' (by omega), rfl⟩ | exact ⟨_, _, rfl, rfl, unhide d2' (by omega), trivial⟩
            case measure => simp [intOf]; omega
        · have fin := hide (DI.out (unhide G1) (unhide D) (by omega))
          go_wp2_with fail
          go_meet
          case rel => first | exact ⟨congrArg _ (unhide OUT1 _ (unhide fin)), rfl⟩ | exact ⟨congrArg _ (unhide OUT1 _ rfl), rfl⟩ | exact congrArg _ (unhide OUT1 _ (unhide fin)) | exact congrArg _ (unhide OUT1 _ rfl)
  case rest =>
    obtain ⟨rfl, hwc⟩ := hcut
    replace hwc := hwc.symm
    subst hwc
    clear ta tb tc D1 OUT1 G1
    go_upto_block 2 with fail
    go_cut [18] (fun v wc => v = .int .u64 Q0 ∧ wc = W)
    case first =>
      clear E1 E0 E2
      go_wp2_with fail
      go_loopw [18, 16] (fun qv rv wr => ∃ q r : Int, qv = .int .u64 q ∧ rv = .int .u64 r ∧ Hid (DI y1 y0 R1 d0 q r) ∧ wr = W) (fun qv _ _ => (intOf qv).toNat)
      case atStart => exact ⟨_, _, rfl, rfl, D0, rfl⟩
      case round =>
        clear D0 td te tf
        obtain ⟨q, r, rfl, rfl, D, hwr⟩ := hrel
        subst hwr
        have dr := (unhide D).hr
        have dq := (unhide D).hq
        obtain ⟨r1, r2⟩ := dr
        obtain ⟨q1, q2⟩ := dq
        have wr1 : IntKind.u64.wrap (r + y1) = r + y1 := by rw [IntKind.wrap_u64]; omega
        have wr2 : IntKind.u64.wrap (4294967296 * r) = 4294967296 * r := by rw [IntKind.wrap_u64]; omega
        have wr3 : IntKind.u64.wrap (4294967296 * r + d0) = 4294967296 * r + d0 := by rw [IntKind.wrap_u64]; omega
        by_cases c1 : 4294967296 ≤ q
        · obtain ⟨d1', d2', d3'⟩ := DI.down (unhide G0) (unhide D) (.inl c1)
          have d2' := hide d2'
          have d3' := hide d3'
          have wq : IntKind.u64.wrap (q - 1) = q - 1 := by rw [IntKind.wrap_u64]; omega
          by_cases c2 : 4294967296 ≤ r + y1
          · go_wp2_with fail
            go_meet
            case rel => first | exact ⟨congrArg _ (unhide OUT0 _ (unhide d3' c2)), rfl⟩ | exact ⟨congrArg _ (unhide OUT0 _ rfl), rfl⟩ | exact congrArg _ (unhide OUT0 _ (unhide d3' c2)) | exact congrArg _ (unhide OUT0 _ rfl)
          · go_wp2_with fail
            go_roundw
            case rel => first | exact ⟨_, _, rfl, rfl, unhide d2' (by omega), rfl⟩ | exact ⟨_, _, rfl, rfl, unhide d2' (by omega), trivial⟩
            case measure => simp [intOf]; omega
        · have pb := prod_in (a := q) (b := y0) ⟨q1, by omega⟩ ⟨y01, y02⟩
          obtain ⟨p1, p2⟩ := pb
          have wp : IntKind.u64.wrap (q * y0) = q * y0 := by rw [IntKind.wrap_u64]; exact Int.emod_eq_of_lt p1 p2
          by_cases c3 : 4294967296 * r + d0 < q * y0
          · obtain ⟨d1', d2', d3'⟩ := DI.down (unhide G0) (unhide D) (.inr c3)
            have d2' := hide d2'
            have d3' := hide d3'
            have wq : IntKind.u64.wrap (q - 1) = q - 1 := by rw [IntKind.wrap_u64]; omega
            by_cases c2 : 4294967296 ≤ r + y1
            · go_wp2_with fail
              go_meet
              case rel => first | exact ⟨congrArg _ (unhide OUT0 _ (unhide d3' c2)), rfl⟩ | exact ⟨congrArg _ (unhide OUT0 _ rfl), rfl⟩ | exact congrArg _ (unhide OUT0 _ (unhide d3' c2)) | exact congrArg _ (unhide OUT0 _ rfl)
            · go_wp2_with fail
              go_roundw
              case rel => first | exact ⟨_, _, rfl, rfl, unhide d2' (by omega), rfl⟩ | exact ⟨_, _, rfl, rfl, unhide d2' (by omega), trivial⟩
              case measure => simp [intOf]; omega
          · have fin := hide (DI.out (unhide G0) (unhide D) (by omega))
            go_wp2_with fail
            go_meet
            case rel => first | exact ⟨congrArg _ (unhide OUT0 _ (unhide fin)), rfl⟩ | exact ⟨congrArg _ (unhide OUT0 _ rfl), rfl⟩ | exact congrArg _ (unhide OUT0 _ (unhide fin)) | exact congrArg _ (unhide OUT0 _ rfl)
    case rest =>
      obtain ⟨rfl, rfl⟩ := hcut
      go_wp2_with fail
      go_ret2
      exact ⟨rfl, rfl⟩
end Go.Proofs.Ytlfldbagbafjfaa
