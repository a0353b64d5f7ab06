/- CreditFlows. -/
import Derived.Test.YtgmjminpgliilaaC7L
import Derived.BigQuiet
import Derived.Deep.DeepCutAuto
import Derived.Deep.CutRange
namespace Go.Proofs.Ytgmjminpgliilaa
open Go.RowKit
set_option linter.unusedVariables false
set_option maxRecDepth 100000
set_option maxHeartbeats 4000000

theorem fi_app {w X : World} {a b : Nat} {s : Ou} {t : Ind} {ta : Option Addr} {tn tq : Nat} {T : List Int} (h : FI w X a b s t (.slice ta tn tq) T) (x : Int) (hb : (T.length + 1) * 8 ≤ 140737488355328) :
    ∃ a' c' X4, (Builtin.append_ #[43, 43] 43 #[.slice ta tn tq, .slice (some ⟨X.heap.size, 0, none⟩) 1 1]).run Try.prog (X.alloc (.cells #[.int .i64 x] 2)) = .ok (.slice a' (T.length + 1) c') X4 ∧ FI w X4 a b s t (.slice a' (T.length + 1) c') (T ++ [x]) := by
  have g3 : X.grownBy (X.alloc (.cells #[.int .i64 x] 2)) none := World.grownBy_alloc _ _ _
  have c5 : (X.alloc (.cells #[.int .i64 x] 2)).cell? ⟨X.heap.size, 0, none⟩ = some (.int .i64 x) := (Blk.new X #[.int .i64 x] 2).cell 0 _ rfl
  obtain ⟨a', c', X4, hap, r4, g4⟩ := ri_app w _ (.slice ta tn tq) T x X.heap.size 1 (h.r.grown g3) (gtrans h.q.g g3) c5 hb
  exact ⟨a', c', X4, hap, (h.keep g3).app g4 r4⟩

theorem flows_no (D : Int) (a0 : Option Addr) (len cap : Nat) (w : World) (hf : ¬ fitsF D) :
    Calls Try.prog 5 #[.int .i64 D, .slice a0 len cap] w fun e w' => e = .returned (.bool true) ∧ w.grownBy w' none := by
  have sh := shown_any w
  have N1 := onew_no D hf
  have N2 := inew_no D hf
  by_cases d : 0 ≤ D
  · have d1 : ¬ D < 4611686018427387904 := by unfold fitsF at hf; omega
    have e1 : decide (0 ≤ D) = true := decide_eq_true d
    have e2 : decide (D < 4611686018427387904) = false := decide_eq_false d1
    clear hf
    go_enter Try.func5, Try.ntmps5
    go_wp2_with fail
    refine sh.mono ?_
    rintro e w1 ⟨rfl, g1⟩
    clear sh
    go_wp2_with fail
    refine (N1 _).mono ?_
    rintro e W ⟨rfl, hW⟩
    replace hW := hW.symm
    subst hW
    go_wp2_with fail
    refine (N2 _).mono ?_
    rintro e W ⟨rfl, hW⟩
    replace hW := hW.symm
    subst hW
    have G := hide g1
    clear g1
    go_wp2_with fail
    go_ret
    exact ⟨rfl, unhide G⟩
  · have e1 : decide (0 ≤ D) = false := decide_eq_false d
    clear hf
    go_enter Try.func5, Try.ntmps5
    go_wp2_with fail
    refine sh.mono ?_
    rintro e w1 ⟨rfl, g1⟩
    clear sh
    go_wp2_with fail
    refine (N1 _).mono ?_
    rintro e W ⟨rfl, hW⟩
    replace hW := hW.symm
    subst hW
    go_wp2_with fail
    refine (N2 _).mono ?_
    rintro e W ⟨rfl, hW⟩
    replace hW := hW.symm
    subst hW
    have G := hide g1
    clear g1
    go_wp2_with fail
    go_ret
    exact ⟨rfl, unhide G⟩

theorem flows_ok (D : Int) (a0 : Option Addr) (len cap : Nat) (ol : List TuE) (w : World) (hf : fitsF D) (h : IsTurns w a0 len cap ol) (big : len * 16 ≤ 140737488355328) :
    Calls Try.prog 5 #[.int .i64 D, .slice a0 len cap] w fun e w' => e = .returned (.bool true) ∧ w.grownBy w' none := by
  have sh := shown_any w
  have HO := hide h
  have hl := h.hlen
  have hcap := h.hcap
  have lenI : ¬ (9223372036854775807 : Int) < (len : Int) := by omega
  have N1 := onew_ok D hf
  have HF := hide hf
  obtain ⟨d1, d2⟩ := hf
  have d3 : D < 4611686018427387904 := by omega
  have BG := hide big
  clear h big
  go_enter Try.func5, Try.ntmps5
  go_wp2_with fail
  refine sh.mono ?_
  rintro e w1 ⟨rfl, g1⟩
  clear sh
  go_wp2_with fail
  refine (N1 _).mono ?_
  rintro e W ⟨rfl, hW⟩
  replace hW := hW.symm
  subst hW
  have N2 := inew_ok D (unhide HF) (w1.alloc (.cells (oc ⟨D, 0, -1⟩) 58))
  rw [alloc_size] at N2
  have S0 := hide (oi_start g1 (unhide HF) (unhide HF))
  go_wp2_with fail
  refine N2.mono ?_
  rintro e W ⟨rfl, hW⟩
  replace hW := hide hW
  have S1 : Hid (FI w W w1.heap.size (w1.heap.size + 1) ⟨D, 0, -1⟩ ⟨D, D, 0, 0, false⟩ (.slice none 0 0) [] ∧ FJ D ⟨D, 0, -1⟩ ⟨D, D, 0, 0, false⟩ 0 0 [] ∧ ([] : List Int).length ≤ 0) := by
    have q := unhide S0
    rw [← unhide hW] at q
    exact ⟨⟨q, ri_nil _ _⟩, fj_start (unhide HF), Nat.le_refl _⟩
  clear hW S0 N1 N2 g1
  generalize w1.heap.size = a at *
  generalize a + 1 = b at *
  go_wp2_with fail
  go_loopw [10, 11, 12, 13] (fun wv uv tv kv wr => ∃ (k : Nat) (wy un : Int) (ta : Option Addr) (tn tq : Nat) (s : Ou) (t : Ind) (T : List Int), k ≤ len ∧ wv = .int .i64 wy ∧ uv = .int .i64 un ∧ tv = .slice ta tn tq ∧ kv = .int .i64 k ∧ Hid (FI w wr a b s t (.slice ta tn tq) T ∧ FJ D s t wy un T ∧ T.length ≤ k)) (fun _ _ _ kv _ => len - (intOf kv).toNat)
  case atStart => exact ⟨0, 0, 0, none, 0, 0, _, _, _, Nat.zero_le _, rfl, rfl, rfl, rfl, S1⟩
  case round =>
    clear S1
    obtain ⟨k, wy, un, ta, tn, tq, s, t, T, hk, rfl, rfl, rfl, rfl, S⟩ := hrel
    obtain ⟨FI0, FJ0, TK⟩ := unhide S
    obtain ⟨b1, b2, b3, b4, b5⟩ := FJ0.b
    have wy0 := FJ0.way0
    have un0 := FJ0.un0
    by_cases hlt : k < len
    · obtain ⟨bo, off, rfl, hcs⟩ := (unhide HO).cell.resolve_left (by omega)
      have hx' : ol[k]? = some ol[k] := List.getElem?_eq_getElem _
      have hcx := hcs k _ hx'
      have hok := (unhide HO).ok _ (List.mem_of_getElem? hx')
      generalize ol[k] = y at *
      have kn : (k : Int) < (len : Int) := by omega
      have HLT := hide hlt
      obtain ⟨R, hR⟩ : ∃ R, R = s.limit - s.used := ⟨_, rfl⟩
      have C := fi_room FI0
      rw [← hR] at C b4 b5
      replace hR := hide hR
      have r0 : ¬ R < 0 := by omega
      have J0 := hide FJ0
      replace TK := hide TK
      have C0 := hide (fun (X : World) (g : w.grownBy X none) => And.intro (show X.cell? ⟨bo, off + k * 2, none⟩ = some (.int .i64 y.what) from cell_grown (hcx 0 _ rfl) g) (show X.cell? ⟨bo, off + k * 2 + 1, none⟩ = some (.int .i64 y.n) from cell_grown (hcx 1 _ rfl) g))
      obtain ⟨yn1, yn2⟩ := hok.n
      have PK := hide (fun W => pick5 y.what W hok.k)
      clear hcs hcx hx' hlt hk S FI0 FJ0 hok
      go_wp2_with fail
      refine C.mono ?_
      rintro e W1 ⟨rfl, F1⟩
      obtain ⟨c0, c1⟩ := unhide C0 _ F1.q.g
      replace F1 := hide F1
      clear C
      go_upto_if 92 with fail
      go_cut [15] from 76 to 179 (fun nv wc => ∃ m : Int, nv = .int .i64 m ∧ 0 ≤ m ∧ m ≤ 9223372036854775807 ∧ wc = W1)
      case first =>
        by_cases yn : y.n < 0
        · have i1 : IntKind.i64.wrap (y.n + 1) = y.n + 1 := by rw [IntKind.wrap_i64]; omega
          have i2 : IntKind.i64.wrap (-(y.n + 1)) = -(y.n + 1) := by rw [IntKind.wrap_i64]; omega
          go_wp2_with fail
          go_meet
          case rel => exact ⟨_, rfl, by omega, by omega, rfl⟩
        · go_wp2_with fail
          go_meet
          case rel => exact ⟨_, rfl, by omega, by omega, rfl⟩
      case rest =>
        obtain ⟨m, rfl, m0, m1, hW⟩ := hcut
        replace hW := hW.symm
        subst hW
        clear yn1 yn2 c1
        go_wp2_with fail
        refine (unhide PK _).mono ?_
        rintro e W ⟨p, rfl, p5, hW⟩
        replace hW := hW.symm
        subst hW
        clear PK c0 C0
        rcases (by omega : p = 0 ∨ p = 1 ∨ p = 2 ∨ p = 3 ∨ p = 4) with rfl | rfl | rfl | rfl | rfl
        · skip
          have nz : ¬ R + 1 = 0 := by omega
          have i1 : IntKind.i64.wrap (R + 1) = R + 1 := by rw [IntKind.wrap_i64]; omega
          have i2 : Int.tmod m (R + 1) = m % (R + 1) := Int.tmod_eq_emod_of_nonneg m0
          have g0 := Int.emod_nonneg m (show R + 1 ≠ 0 from nz)
          have g1 := Int.emod_lt_of_pos m (show 0 < R + 1 by omega)
          generalize m % (R + 1) = G at *
          have i3 : IntKind.i64.wrap G = G := by rw [IntKind.wrap_i64]; omega
          obtain ⟨e1, J1⟩ := fj_use (unhide J0) G g0 (by rw [← unhide hR]; omega)
          have i4 : IntKind.i64.wrap (wy + G) = wy + G := by rw [IntKind.wrap_i64]; omega
          have C := fi_use (unhide F1) G
          rw [e1] at C
          replace J1 := hide J1
          clear e1 F1 J0
          go_wp2_with fail
          refine C.mono ?_
          rintro e W2 ⟨rfl, F2⟩
          have S2 := hide (And.intro F2 (And.intro (unhide J1) (Nat.le_succ_of_le (unhide TK))))
          clear C F2 J1
          go_wp2_with fail
          go_roundw
          case rel => exact ⟨k + 1, _, _, _, _, _, _, _, _, unhide HLT, rfl, rfl, rfl, by go_num, S2⟩
          case measure => have := unhide HLT; simp [intOf]; omega
        · skip
          have nz : ¬ wy + 1 = 0 := by omega
          have i1 : IntKind.i64.wrap (wy + 1) = wy + 1 := by rw [IntKind.wrap_i64]; omega
          have i2 : Int.tmod m (wy + 1) = m % (wy + 1) := Int.tmod_eq_emod_of_nonneg m0
          have g0 := Int.emod_nonneg m (show wy + 1 ≠ 0 from nz)
          have g1 := Int.emod_lt_of_pos m (show 0 < wy + 1 by omega)
          generalize m % (wy + 1) = G at *
          have i3 : IntKind.i64.wrap G = G := by rw [IntKind.wrap_i64]; omega
          obtain ⟨e1, J1⟩ := fj_take (unhide J0) G g0 (by omega)
          have i4 : IntKind.i64.wrap (wy - G) = wy - G := by rw [IntKind.wrap_i64]; omega
          have i5 : IntKind.i64.wrap (un + G) = un + G := by rw [IntKind.wrap_i64]; omega
          have C := fi_take (unhide F1) G
          rw [e1] at C
          replace J1 := hide J1
          clear e1 F1 J0
          go_wp2_with fail
          refine C.mono ?_
          rintro e W2 ⟨rfl, F2⟩
          have S2 := hide (And.intro F2 (And.intro (unhide J1) (Nat.le_succ_of_le (unhide TK))))
          clear C F2 J1
          go_wp2_with fail
          go_roundw
          case rel => exact ⟨k + 1, _, _, _, _, _, _, _, _, unhide HLT, rfl, rfl, rfl, by go_num, S2⟩
          case measure => have := unhide HLT; simp [intOf]; omega
        · skip
          have nz : ¬ un + 1 = 0 := by omega
          have i1 : IntKind.i64.wrap (un + 1) = un + 1 := by rw [IntKind.wrap_i64]; omega
          have i2 : Int.tmod m (un + 1) = m % (un + 1) := Int.tmod_eq_emod_of_nonneg m0
          have g0 := Int.emod_nonneg m (show un + 1 ≠ 0 from nz)
          have g1 := Int.emod_lt_of_pos m (show 0 < un + 1 by omega)
          generalize m % (un + 1) = G at *
          have i3 : IntKind.i64.wrap G = G := by rw [IntKind.wrap_i64]; omega
          obtain ⟨e1, J1⟩ := fj_cons (unhide J0) G g0 (by omega)
          have i4 : IntKind.i64.wrap (un - G) = un - G := by rw [IntKind.wrap_i64]; omega
          have C := fi_cons (unhide F1) G
          rw [e1] at C
          replace J1 := hide J1
          clear e1 F1 J0
          go_wp2_with fail
          refine C.mono ?_
          rintro e W2 ⟨rfl, F2⟩
          have S2 := hide (And.intro F2 (And.intro (unhide J1) (Nat.le_succ_of_le (unhide TK))))
          clear C F2 J1
          go_wp2_with fail
          go_roundw
          case rel => exact ⟨k + 1, _, _, _, _, _, _, _, _, unhide HLT, rfl, rfl, rfl, by go_num, S2⟩
          case measure => have := unhide HLT; simp [intOf]; omega
        · have C := fi_upd (unhide F1)
          clear F1
          cases hw : wantI t with
          | false =>
            rw [hw, upd_no hw] at C
            generalize updN t = V at *
            go_wp2_with fail
            refine C.mono ?_
            rintro e W2 ⟨rfl, F2⟩
            have S2 := hide (And.intro F2 (And.intro (unhide J0) (Nat.le_succ_of_le (unhide TK))))
            clear C F2 J0 hw
            go_wp2_with fail
            go_roundw
            case rel => exact ⟨k + 1, _, _, _, _, _, _, _, _, unhide HLT, rfl, rfl, rfl, by go_num, S2⟩
            case measure => have := unhide HLT; simp [intOf]; omega
          | true =>
            have J1 := hide (fj_upd (unhide J0) hw)
            rw [hw] at C
            generalize updN t = V at *
            generalize updF t = t' at *
            clear J0 hw
            go_wp2_with fail
            refine C.mono ?_
            rintro e W2 ⟨rfl, F2⟩
            obtain ⟨a', c', X4, hap, F4⟩ := fi_app F2 V (by have := unhide TK; have := unhide BG; have := unhide HLT; omega)
            have HAP := hide hap
            have S2 := hide (And.intro F4 (And.intro (unhide J1) (show (T ++ [V]).length ≤ k + 1 by have := unhide TK; simp; omega)))
            clear C F2 F4 J1 hap
            generalize T.length + 1 = tl at *
            go_wp2_with (at_builtin; refine wpList_append_run _ rfl _ _ 43 43 rfl _ _ rfl rfl (unhide HAP) ?_)
            clear HAP
            go_wp2_with fail
            go_roundw
            case rel => exact ⟨k + 1, _, _, _, _, _, _, _, _, unhide HLT, rfl, rfl, rfl, by go_num, S2⟩
            case measure => have := unhide HLT; simp [intOf]; omega
        · obtain ⟨tn', tq1, tq2, alt⟩ := (unhide F1).r.at
          by_cases hT : T = []
          · have z : tn = 0 := by rw [tn', hT]; rfl
            have z1 : ¬ (0 : Int) < (tn : Int) := by omega
            have S2 := hide (And.intro (unhide F1) (And.intro (unhide J0) (Nat.le_succ_of_le (unhide TK))))
            clear tn' alt hT F1 J0 z tq1 tq2
            go_wp2_with fail
            go_roundw
            case rel => exact ⟨k + 1, _, _, _, _, _, _, _, _, unhide HLT, rfl, rfl, rfl, by go_num, S2⟩
            case measure => have := unhide HLT; simp [intOf]; omega
          · obtain ⟨g, cur, rfl, -, -, hc⟩ := alt.resolve_left hT
            have tl0 : 0 < T.length := List.length_pos_iff.2 hT
            obtain ⟨j, hj⟩ : ∃ j : Nat, m % (tn : Int) = (j : Int) := ⟨(m % (tn : Int)).toNat, by have := Int.emod_nonneg m (show (tn : Int) ≠ 0 by omega); omega⟩
            have jl : j < tn := by have := Int.emod_lt_of_pos m (show (0 : Int) < (tn : Int) by omega); omega
            have hx : T[j]? = some T[j] := List.getElem?_eq_getElem (by omega)
            have hm : T[j] ∈ T := List.getElem_mem _
            have c3 := hc j _ hx
            generalize T[j] = x at *
            have z1 : (0 : Int) < (tn : Int) := by omega
            have z2 : ¬ (tn : Int) = 0 := by omega
            have z5 : (j : Int) < (tn : Int) := by omega
            have tnI : (tn : Int) ≤ 9223372036854775807 := by unfold maxLen at tq2; omega
            have i0 : IntKind.i64.wrap (tn : Int) = (tn : Int) := by rw [IntKind.wrap_i64]; omega
            have i2 : Int.tmod m (tn : Int) = (j : Int) := by rw [← hj]; exact Int.tmod_eq_emod_of_nonneg m0
            have i3 : IntKind.i64.wrap (j : Int) = (j : Int) := by rw [IntKind.wrap_i64]; omega
            have J1 := hide (fj_raise (unhide J0) x hm)
            have J2 := hide (fj_agi (unhide J1) x)
            have C := fi_raise (unhide F1) x
            generalize raiseB x s = RB at *
            generalize raiseF x s = s' at *
            clear tn' alt hT hc hx hm hj F1 J0 tq1 tq2 tl0 tnI
            go_wp2_with fail
            refine C.mono ?_
            rintro e W2 ⟨rfl, F2⟩
            have u0 := Int.emod_nonneg m (show (3 : Int) ≠ 0 by decide)
            have u1 := Int.emod_lt_of_pos m (show (0 : Int) < 3 by decide)
            have i5 : Int.tmod m 3 = m % 3 := Int.tmod_eq_emod_of_nonneg m0
            generalize m % 3 = U at *
            have i6 : IntKind.i64.wrap U = U := by rw [IntKind.wrap_i64]; omega
            by_cases hU : U = 0
            · have d5 : (U == 0) = true := by simpa using hU
              have C2 := fi_agi F2 x
              generalize agI x t = t' at *
              clear C F2 J1 hU c3
              go_wp2_with fail
              refine C2.mono ?_
              rintro e W3 ⟨rfl, F3⟩
              have S2 := hide (And.intro F3 (And.intro (unhide J2) (Nat.le_succ_of_le (unhide TK))))
              clear C2 F3 J2
              go_wp2_with fail
              go_roundw
              case rel => exact ⟨k + 1, _, _, _, _, _, _, _, _, unhide HLT, rfl, rfl, rfl, by go_num, S2⟩
              case measure => have := unhide HLT; simp [intOf]; omega
            · have d5 : (U == 0) = false := by simpa using hU
              have S2 := hide (And.intro F2 (And.intro (unhide J1) (Nat.le_succ_of_le (unhide TK))))
              clear C F2 J1 J2 hU c3
              go_wp2_with fail
              go_roundw
              case rel => exact ⟨k + 1, _, _, _, _, _, _, _, _, unhide HLT, rfl, rfl, rfl, by go_num, S2⟩
              case measure => have := unhide HLT; simp [intOf]; omega
    · have kn : ¬ (k : Int) < (len : Int) := by omega
      obtain ⟨e1, J1⟩ := fj_take FJ0 wy wy0 (Int.le_refl _)
      obtain ⟨e2, J2⟩ := fj_cons J1 (un + wy) (by omega) (Int.le_refl _)
      rw [Int.sub_self] at J2
      rw [Int.sub_self] at J2
      have i4 : IntKind.i64.wrap (un + wy) = un + wy := by rw [IntKind.wrap_i64]; omega
      have C := fi_take FI0 wy
      rw [e1] at C
      replace J2 := hide J2
      replace TK := hide (Nat.le_trans TK hk)
      clear hlt S FI0 FJ0 J1 e1 hk
      go_wp2_with fail
      refine C.mono ?_
      rintro e W1 ⟨rfl, F1⟩
      have C2 := fi_cons F1 (un + wy)
      rw [e2] at C2
      clear C F1 e2
      go_wp2_with fail
      refine C2.mono ?_
      rintro e W2 ⟨rfl, F2⟩
      generalize consF (un + wy) (takeF wy t) = t2 at *
      clear C2
      have C3 := fi_upd F2
      clear F2
      cases hw : wantI t2 with
      | false =>
        rw [hw, upd_no hw] at C3
        have NW := hide hw
        generalize updN t2 = V at *
        clear hw
        go_wp2_with fail
        refine C3.mono ?_
        rintro e W4 ⟨rfl, F4⟩
        clear C3
        have C5 := fi_upd F4
        rw [unhide NW, upd_no (unhide NW)] at C5
        clear F4
        go_wp2_with fail
        refine C5.mono ?_
        rintro e W5 ⟨rfl, F5⟩
        clear C5
        obtain ⟨tn', tq1, tq2, alt⟩ := F5.r.at
        by_cases hT : T = []
        · have z : tn = 0 := by rw [tn', hT]; rfl
          have z1 : ¬ (0 : Int) < (tn : Int) := by omega
          have LL := hide (fj_none (hT ▸ unhide J2))
          have J6 := J2
          have F6 := F5
          clear tn' alt hT F5 J2 z tq1 tq2 TK
          go_wp2_with fail
          generalize hs6 : s = s6 at *
          generalize ht6 : t2 = t6 at *
          clear hs6 ht6
          have C7 := fi_room F6
          obtain ⟨v1, v2, v3⟩ := fj_end (unhide J6) (unhide NW) (unhide LL)
          have tak := v1
          obtain ⟨R, hR⟩ : ∃ R, R = s6.limit - s6.used := ⟨_, rfl⟩
          rw [← hR] at C7 v2 v3
          have wn := (unhide J6).win
          clear F6 J6 NW LL hR v1
          go_wp2_with fail
          refine C7.mono ?_
          rintro e W7 ⟨rfl, F7⟩
          have C8 := fi_view F7
          unfold ivc at C8
          rw [tak, wn] at C8
          clear C7 F7 tak wn
          go_wp2_with fail
          refine C8.mono ?_
          rintro e W8 ⟨rfl, F8⟩
          have GE := hide (gtrans F8.q.g (World.grownBy_alloc W8 (.cells #[.int .i64 t6.limit, .int .i64 t6.consumed, .int .i64 t6.consumed, .int .i64 D] 54) none))
          have BV := Blk.new W8 #[.int .i64 t6.limit, .int .i64 t6.consumed, .int .i64 t6.consumed, .int .i64 D] 54
          have v0c := BV.cell 0 _ rfl
          have v1c := BV.cell 1 _ rfl
          have v2c := BV.cell 2 _ rfl
          have v3c := BV.cell 3 _ rfl
          have co := F8.q.to.c
          have i9 : IntKind.i64.wrap (4611686018427387903 - D) = 4611686018427387903 - D := by rw [IntKind.wrap_i64]; omega
          have i10 : Int.tdiv D 2 = D / 2 := Int.tdiv_eq_ediv_of_nonneg d1
          have i11 : IntKind.i64.wrap (D / 2) = D / 2 := by rw [IntKind.wrap_i64]; omega
          have ee : (t6.consumed == t6.consumed) = true := by simp
          generalize t6.limit = L6 at *
          generalize t6.consumed = K6 at *
          clear C8 F8 BV
          have v2' : decide (0 ≤ R) = true := decide_eq_true v2
          by_cases far : K6 ≤ 4611686018427387903 - D
          · have f1 : decide (K6 ≤ 4611686018427387903 - D) = true := decide_eq_true far
            by_cases hz : D = 0
            · have f2 : (D == 0) = true := by simpa using hz
              clear hz v3
              go_wp2_with fail
              go_ret
              exact ⟨by simp, unhide GE⟩
            · have f2 : (D == 0) = false := by simpa using hz
              have f3 := v3 far hz
              have f4 : decide (D / 2 < R) = true := decide_eq_true f3
              clear hz v3
              go_wp2_with fail
              go_ret
              exact ⟨by simp, unhide GE⟩
          · have f1 : decide (K6 ≤ 4611686018427387903 - D) = false := decide_eq_false far
            clear v3
            go_wp2_with fail
            go_ret
            exact ⟨by simp, unhide GE⟩
        · obtain ⟨g, cur, rfl, -, -, hc⟩ := alt.resolve_left hT
          have tl0 : 0 < T.length := List.length_pos_iff.2 hT
          have hx := fj_some (unhide J2) hT
          have c3 := hc _ _ hx
          rw [← tn'] at c3
          have z1 : (0 : Int) < (tn : Int) := by omega
          have tnI : (tn : Int) ≤ 9223372036854775807 := by unfold maxLen at tq2; omega
          have i0 : IntKind.i64.wrap ((tn : Int) - 1) = ((tn - 1 : Nat) : Int) := by rw [IntKind.wrap_i64]; omega
          have z2 : ((tn - 1 : Nat) : Int) < (tn : Int) := by omega
          obtain ⟨J6, LL⟩ := fj_last (unhide J2) hx
          have C6 := fi_raise F5 t2.limit
          replace J6 := hide J6
          replace LL := hide LL
          generalize raiseB t2.limit s = RB at *
          generalize raiseF t2.limit s = s6 at *
          clear tn' alt hT hc hx F5 J2 tq1 tq2 tl0 tnI TK
          generalize tn - 1 = j at *
          go_wp2_with fail
          refine C6.mono ?_
          rintro e W6 ⟨rfl, F6⟩
          generalize ht6 : t2 = t6 at *
          clear C6 ht6 c3
          have C7 := fi_room F6
          obtain ⟨v1, v2, v3⟩ := fj_end (unhide J6) (unhide NW) (unhide LL)
          have tak := v1
          obtain ⟨R, hR⟩ : ∃ R, R = s6.limit - s6.used := ⟨_, rfl⟩
          rw [← hR] at C7 v2 v3
          have wn := (unhide J6).win
          clear F6 J6 NW LL hR v1
          go_wp2_with fail
          refine C7.mono ?_
          rintro e W7 ⟨rfl, F7⟩
          have C8 := fi_view F7
          unfold ivc at C8
          rw [tak, wn] at C8
          clear C7 F7 tak wn
          go_wp2_with fail
          refine C8.mono ?_
          rintro e W8 ⟨rfl, F8⟩
          have GE := hide (gtrans F8.q.g (World.grownBy_alloc W8 (.cells #[.int .i64 t6.limit, .int .i64 t6.consumed, .int .i64 t6.consumed, .int .i64 D] 54) none))
          have BV := Blk.new W8 #[.int .i64 t6.limit, .int .i64 t6.consumed, .int .i64 t6.consumed, .int .i64 D] 54
          have v0c := BV.cell 0 _ rfl
          have v1c := BV.cell 1 _ rfl
          have v2c := BV.cell 2 _ rfl
          have v3c := BV.cell 3 _ rfl
          have co := F8.q.to.c
          have i9 : IntKind.i64.wrap (4611686018427387903 - D) = 4611686018427387903 - D := by rw [IntKind.wrap_i64]; omega
          have i10 : Int.tdiv D 2 = D / 2 := Int.tdiv_eq_ediv_of_nonneg d1
          have i11 : IntKind.i64.wrap (D / 2) = D / 2 := by rw [IntKind.wrap_i64]; omega
          have ee : (t6.consumed == t6.consumed) = true := by simp
          generalize t6.limit = L6 at *
          generalize t6.consumed = K6 at *
          clear C8 F8 BV
          have v2' : decide (0 ≤ R) = true := decide_eq_true v2
          by_cases far : K6 ≤ 4611686018427387903 - D
          · have f1 : decide (K6 ≤ 4611686018427387903 - D) = true := decide_eq_true far
            by_cases hz : D = 0
            · have f2 : (D == 0) = true := by simpa using hz
              clear hz v3
              go_wp2_with fail
              go_ret
              exact ⟨by simp, unhide GE⟩
            · have f2 : (D == 0) = false := by simpa using hz
              have f3 := v3 far hz
              have f4 : decide (D / 2 < R) = true := decide_eq_true f3
              clear hz v3
              go_wp2_with fail
              go_ret
              exact ⟨by simp, unhide GE⟩
          · have f1 : decide (K6 ≤ 4611686018427387903 - D) = false := decide_eq_false far
            clear v3
            go_wp2_with fail
            go_ret
            exact ⟨by simp, unhide GE⟩
      | true =>
        have J3 := hide (fj_upd (unhide J2) hw)
        have NW := hide (upd_upd t2)
        rw [hw] at C3
        generalize updN t2 = V at *
        generalize updF t2 = t6 at *
        clear J2 hw
        go_wp2_with fail
        refine C3.mono ?_
        rintro e W3 ⟨rfl, F3⟩
        obtain ⟨a', c', X4, hap, F4⟩ := fi_app F3 V (by have := unhide TK; have := unhide BG; omega)
        have HAP := hide hap
        have hx := fj_some (unhide J3) (by simp)
        obtain ⟨ta', tb1, tb2, alt⟩ := F4.r.at
        obtain ⟨g, cur, rfl, -, -, hc⟩ := alt.resolve_left (by simp)
        have tnI : ((T.length + 1 : Nat) : Int) ≤ 9223372036854775807 := by unfold maxLen at tb2; omega
        rw [← ta'] at hx
        obtain ⟨tl, htl⟩ : ∃ tl, tl = T.length + 1 := ⟨_, rfl⟩
        have tl0 : 0 < tl := by omega
        rw [← htl] at HAP F4 hx tnI
        obtain ⟨J6, LL⟩ := fj_last (unhide J3) (by rw [← ta', ← htl]; exact hx)
        replace J6 := hide J6
        replace LL := hide LL
        clear C3 F3 hap hc alt ta' tb1 tb2 htl J3
        generalize T ++ [V] = T4 at *
        go_wp2_with (at_builtin; refine wpList_append_run _ rfl _ _ 43 43 rfl _ _ rfl rfl (unhide HAP) ?_)
        clear HAP
        have C5 := fi_upd F4
        rw [unhide NW, upd_no (unhide NW)] at C5
        clear F4
        go_wp2_with fail
        refine C5.mono ?_
        rintro e W5 ⟨rfl, F5⟩
        clear C5
        obtain ⟨tn', tq1, tq2, alt⟩ := F5.r.at
        have hT : T4 ≠ [] := fun e => by rw [e] at hx; simp at hx
        obtain ⟨g2, cur2, e2, -, -, hc⟩ := alt.resolve_left hT
        cases e2
        have c3 := hc _ _ hx
        have z1 : (0 : Int) < (tl : Int) := by omega
        have i0 : IntKind.i64.wrap ((tl : Int) - 1) = ((tl - 1 : Nat) : Int) := by rw [IntKind.wrap_i64]; omega
        have z2 : ((tl - 1 : Nat) : Int) < (tl : Int) := by omega
        have C6 := fi_raise F5 t6.limit
        generalize raiseB t6.limit s = RB at *
        generalize raiseF t6.limit s = s6 at *
        clear tn' alt hT hc hx F5 tq1 tq2 tl0 tnI TK
        generalize tl - 1 = j at *
        go_wp2_with fail
        refine C6.mono ?_
        rintro e W6 ⟨rfl, F6⟩
        clear C6 c3
        have C7 := fi_room F6
        obtain ⟨v1, v2, v3⟩ := fj_end (unhide J6) (unhide NW) (unhide LL)
        have tak := v1
        obtain ⟨R, hR⟩ : ∃ R, R = s6.limit - s6.used := ⟨_, rfl⟩
        rw [← hR] at C7 v2 v3
        have wn := (unhide J6).win
        clear F6 J6 NW LL hR v1
        go_wp2_with fail
        refine C7.mono ?_
        rintro e W7 ⟨rfl, F7⟩
        have C8 := fi_view F7
        unfold ivc at C8
        rw [tak, wn] at C8
        clear C7 F7 tak wn
        go_wp2_with fail
        refine C8.mono ?_
        rintro e W8 ⟨rfl, F8⟩
        have GE := hide (gtrans F8.q.g (World.grownBy_alloc W8 (.cells #[.int .i64 t6.limit, .int .i64 t6.consumed, .int .i64 t6.consumed, .int .i64 D] 54) none))
        have BV := Blk.new W8 #[.int .i64 t6.limit, .int .i64 t6.consumed, .int .i64 t6.consumed, .int .i64 D] 54
        have v0c := BV.cell 0 _ rfl
        have v1c := BV.cell 1 _ rfl
        have v2c := BV.cell 2 _ rfl
        have v3c := BV.cell 3 _ rfl
        have co := F8.q.to.c
        have i9 : IntKind.i64.wrap (4611686018427387903 - D) = 4611686018427387903 - D := by rw [IntKind.wrap_i64]; omega
        have i10 : Int.tdiv D 2 = D / 2 := Int.tdiv_eq_ediv_of_nonneg d1
        have i11 : IntKind.i64.wrap (D / 2) = D / 2 := by rw [IntKind.wrap_i64]; omega
        have ee : (t6.consumed == t6.consumed) = true := by simp
        generalize t6.limit = L6 at *
        generalize t6.consumed = K6 at *
        clear C8 F8 BV
        have v2' : decide (0 ≤ R) = true := decide_eq_true v2
        by_cases far : K6 ≤ 4611686018427387903 - D
        · have f1 : decide (K6 ≤ 4611686018427387903 - D) = true := decide_eq_true far
          by_cases hz : D = 0
          · have f2 : (D == 0) = true := by simpa using hz
            clear hz v3
            go_wp2_with fail
            go_ret
            exact ⟨by simp, unhide GE⟩
          · have f2 : (D == 0) = false := by simpa using hz
            have f3 := v3 far hz
            have f4 : decide (D / 2 < R) = true := decide_eq_true f3
            clear hz v3
            go_wp2_with fail
            go_ret
            exact ⟨by simp, unhide GE⟩
        · have f1 : decide (K6 ≤ 4611686018427387903 - D) = false := decide_eq_false far
          clear v3
          go_wp2_with fail
          go_ret
          exact ⟨by simp, unhide GE⟩

theorem flows_walk (D : Int) (a0 : Option Addr) (len cap : Nat) (ol : List TuE) (w : World) (hD : i64B D) (h : IsTurns w a0 len cap ol) (big : len * 16 ≤ 140737488355328) :
    Calls Try.prog 5 #[.int .i64 D, .slice a0 len cap] w fun e w' => e = .returned (.bool true) ∧ w.grownBy w' none := by
  by_cases hf : fitsF D
  · exact flows_ok D a0 len cap ol w hf h big
  · exact flows_no D a0 len cap w hf
end Go.Proofs.Ytgmjminpgliilaa
