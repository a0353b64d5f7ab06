/- The document's functions (portageref02): with. -/
import Derived.Test.YtcojhjnledeciaaMW
import Derived.Deep.DeepCutAuto
namespace Go.Proofs.Ytcojhjnledeciaa.Kr
open Go.RowKit
set_option linter.unusedVariables false
set_option maxHeartbeats 1600000
set_option maxRecDepth 100000

theorem accF_succ {lo hi : Int} {p : Int × Int} {L : List Sp} {k : Nat} (h : k < L.length) : accF lo hi p (L.take (k + 1)) = if (L.getD k (0, 0)).1 ≤ hi + 1 ∧ lo - 1 ≤ (L.getD k (0, 0)).2 then (min (accF lo hi p (L.take k)).1 (L.getD k (0, 0)).1, max (accF lo hi p (L.take k)).2 (L.getD k (0, 0)).2) else accF lo hi p (L.take k) := by
  have hst : L.take (k + 1) = L.take k ++ [L.getD k (0, 0)] := by rw [List.take_add_one]; simp [List.getD, h]
  rw [hst, accF_append]
  rfl

theorem rdR_take {w : World} {a : Option Addr} {A D : List Sp} (h : RdR w a (A ++ D)) : RdR w a A := fun hne => by
  obtain ⟨b, off, e, hc⟩ := h (fun e => hne (List.append_eq_nil_iff.1 e).1)
  refine ⟨b, off, e, fun i hi => ?_⟩
  have h1 := hc i (by rw [List.length_append]; omega)
  have e2 : (A ++ D).getD i (0, 0) = A.getD i (0, 0) := by simp only [List.getD]; rw [List.getElem?_append_left hi]
  rw [e2] at h1
  exact h1

theorem rdR_drop {w : World} {b off : Nat} {A D : List Sp} (h : RdR w (some ⟨b, off, none⟩) (A ++ D)) : RdR w (some ⟨b, off + A.length * 2, none⟩) D := fun hne => by
  obtain ⟨b', off', e, hc⟩ := h (fun e => hne (List.append_eq_nil_iff.1 e).2)
  simp only [Option.some.injEq, Addr.mk.injEq, and_true] at e
  obtain ⟨rfl, rfl⟩ := e
  refine ⟨b, off + A.length * 2, rfl, fun i hi => ?_⟩
  have h1 := hc (A.length + i) (by rw [List.length_append]; omega)
  have e2 : (A ++ D).getD (A.length + i) (0, 0) = D.getD i (0, 0) := by simp only [List.getD]; rw [List.getElem?_append_right (by omega), Nat.add_sub_cancel_left]
  rw [e2, show off + (A.length + i) * 2 = off + A.length * 2 + i * 2 by omega] at h1
  exact h1

theorem with_ref (a : Option Addr) (n c : Nat) (L : List Sp) (lo hi : Int) (w : World) (hn : L.length = n) (hrd : RdR w a L) (hL : Good 0 18446744073709551615 L) (hc : n ≤ c ∧ c ≤ 9223372036854775807) (hb : n ≤ 2000000000000) (hlo : 0 ≤ lo) (hle : lo ≤ hi) (hhi : hi ≤ 18446744073709551615) :
    Calls Try.prog 59 #[.slice a n c, .int .u64 lo, .int .u64 hi] w fun e w' => ∃ v', e = .returned v' ∧ Row w' v' (Ku.addF lo hi L) ∧ Fresh w v' ∧ w.grownBy w' none := by
  have HRD := hide hrd; have HN := hide hn; have HL := hide hL
  clear hrd hn hL
  go_enter Try.func59, Try.ntmps59
  go_wp2
  go_loopw [7, 8, 9] (fun x y i wr => ∃ (k : Nat) (p q : Int), k ≤ n ∧ i = .int .i64 k ∧ x = .int .u64 p ∧ y = .int .u64 q ∧ (p, q) = accF lo hi (lo, hi) (L.take k) ∧ wr = w) (fun _ _ i _ => n - (intOf i).toNat)
  case atStart => exact ⟨0, lo, hi, Nat.zero_le _, rfl, rfl, rfl, rfl, rfl⟩
  case round =>
    obtain ⟨k, p, q, hk, rfl, rfl, rfl, hpq, hwz⟩ := hrel
    symm at hwz
    subst hwz
    by_cases hlt : k < n
    · have hkL : k < L.length := by rw [unhide HN]; exact hlt
      obtain ⟨g, off, rfl, hcs⟩ := unhide HRD (fun e => by rw [e] at hkL; simp at hkL)
      have c0 := (hcs k hkL).1
      have c1 := (hcs k hkL).2
      have hvb := (unhide HL).mem (s := L.getD k (0, 0)) (by simp [List.getD, hkL])
      have hac := accF_succ (lo := lo) (hi := hi) (p := (lo, hi)) hkL
      rw [← hpq] at hac
      generalize (L.getD k (0, 0)).1 = s1 at *
      generalize (L.getD k (0, 0)).2 = s2 at *
      have hkn : (k : Int) < (n : Int) := by omega
      have HLT := hide hlt; have HAC := hide hac
      clear hcs hac hpq hkL hk
      have hcase : (s1 ≤ hi ∧ lo ≤ s2) ∨ (s1 ≤ hi ∧ s2 < lo ∧ s2 + 1 = lo) ∨ (hi < s1 ∧ s1 - 1 = hi) ∨ ((s1 ≤ hi ∧ s2 < lo ∧ ¬ s2 + 1 = lo) ∨ (hi < s1 ∧ ¬ s1 - 1 = hi)) := by omega
      have hor : (p ≤ s1 ∨ s1 < p) ∧ (q < s2 ∨ s2 ≤ q) := by omega
      have hwa : s2 < lo → IntKind.u64.wrap (s2 + 1) = s2 + 1 := fun h => by rw [IntKind.wrap_u64]; omega
      have hwb : hi < s1 → IntKind.u64.wrap (s1 - 1) = s1 - 1 := fun h => by rw [IntKind.wrap_u64]; omega
      rcases hcase with ⟨t1, t2⟩ | ⟨t1, t2, t3⟩ | ⟨t1, t2⟩ | ht
      · have e1 := (unhide HAC).trans (if_pos (by omega))
        have z1 : decide (s1 ≤ hi) = true := decide_eq_true t1
        have z2 : decide (lo ≤ s2) = true := decide_eq_true t2
        rcases hor with ⟨o1 | o1, o2 | o2⟩
        all_goals
          first
            | rw [Int.min_eq_left (by omega), Int.max_eq_right (by omega)] at e1
            | rw [Int.min_eq_left (by omega), Int.max_eq_left (by omega)] at e1
            | rw [Int.min_eq_right (by omega), Int.max_eq_right (by omega)] at e1
            | rw [Int.min_eq_right (by omega), Int.max_eq_left (by omega)] at e1
          try simp only at e1
          have E := hide e1
          clear e1 HAC hwa hwb
          go_wp2_with fail
          exact ⟨⟨k + 1, _, _, unhide HLT, by go_num, rfl, rfl, (unhide E).symm, trivial⟩, by simp [intOf]; have := unhide HLT; omega⟩
      · have e1 := (unhide HAC).trans (if_pos (by omega))
        have z1 : decide (s1 ≤ hi) = true := decide_eq_true t1
        have z2 : ¬ lo ≤ s2 := Int.not_le.2 t2
        have z3 : decide (lo ≤ s2) = false := decide_eq_false z2
        have z4 : decide (s2 < lo) = true := decide_eq_true t2
        have z5 := hwa t2
        rcases hor with ⟨o1 | o1, o2 | o2⟩
        all_goals
          first
            | rw [Int.min_eq_left (by omega), Int.max_eq_right (by omega)] at e1
            | rw [Int.min_eq_left (by omega), Int.max_eq_left (by omega)] at e1
            | rw [Int.min_eq_right (by omega), Int.max_eq_right (by omega)] at e1
            | rw [Int.min_eq_right (by omega), Int.max_eq_left (by omega)] at e1
          try simp only at e1
          have E := hide e1
          clear e1 HAC hwa hwb
          go_wp2_with fail
          exact ⟨⟨k + 1, _, _, unhide HLT, by go_num, rfl, rfl, (unhide E).symm, trivial⟩, by simp [intOf]; have := unhide HLT; omega⟩
      · have e1 := (unhide HAC).trans (if_pos (by omega))
        have z1 : ¬ s1 ≤ hi := Int.not_le.2 t1
        have z2 : decide (s1 ≤ hi) = false := decide_eq_false z1
        have z3 : ¬ s2 < lo := Int.not_lt.2 (Int.le_trans hle (Int.le_of_lt (Int.lt_of_lt_of_le t1 hvb.2.1)))
        have z4 : decide (s2 < lo) = false := decide_eq_false z3
        have z5 : decide (hi < s1) = true := decide_eq_true t1
        have z6 := hwb t1
        rcases hor with ⟨o1 | o1, o2 | o2⟩
        all_goals
          first
            | rw [Int.min_eq_left (by omega), Int.max_eq_right (by omega)] at e1
            | rw [Int.min_eq_left (by omega), Int.max_eq_left (by omega)] at e1
            | rw [Int.min_eq_right (by omega), Int.max_eq_right (by omega)] at e1
            | rw [Int.min_eq_right (by omega), Int.max_eq_left (by omega)] at e1
          try simp only at e1
          have E := hide e1
          clear e1 HAC hwa hwb
          go_wp2_with fail
          exact ⟨⟨k + 1, _, _, unhide HLT, by go_num, rfl, rfl, (unhide E).symm, trivial⟩, by simp [intOf]; have := unhide HLT; omega⟩
      · have e1 := (unhide HAC).trans (if_neg (by omega))
        have E := hide e1
        clear e1 HAC hor
        rcases ht with ⟨t1, t2, t3⟩ | ⟨t1, t2⟩
        · have z1 : decide (s1 ≤ hi) = true := decide_eq_true t1
          have z2 : ¬ lo ≤ s2 := Int.not_le.2 t2
          have z3 : decide (lo ≤ s2) = false := decide_eq_false z2
          have z4 : decide (s2 < lo) = true := decide_eq_true t2
          have z5 := hwa t2
          have z6 : ¬ hi < s1 := Int.not_lt.2 t1
          have z7 : decide (hi < s1) = false := decide_eq_false z6
          clear hwa hwb
          go_wp2_with fail
          exact ⟨⟨k + 1, _, _, unhide HLT, by go_num, rfl, rfl, (unhide E).symm, trivial⟩, by simp [intOf]; have := unhide HLT; omega⟩
        · have z1 : ¬ s1 ≤ hi := Int.not_le.2 t1
          have z2 : decide (s1 ≤ hi) = false := decide_eq_false z1
          have z3 : ¬ s2 < lo := Int.not_lt.2 (Int.le_trans hle (Int.le_of_lt (Int.lt_of_lt_of_le t1 hvb.2.1)))
          have z4 : decide (s2 < lo) = false := decide_eq_false z3
          have z5 : decide (hi < s1) = true := decide_eq_true t1
          have z6 := hwb t1
          clear hwa hwb
          go_wp2_with fail
          exact ⟨⟨k + 1, _, _, unhide HLT, by go_num, rfl, rfl, (unhide E).symm, trivial⟩, by simp [intOf]; have := unhide HLT; omega⟩
    · obtain rfl : k = n := by omega
      have e : L.take k = L := by rw [← unhide HN]; simp
      rw [e] at hpq
      have hno : ¬ (k : Int) < (k : Int) := by omega
      obtain ⟨A, M, D, hLe, hA, hM, hD⟩ := split3 (lo - 1) (hi + 1) (unhide HL) (by omega)
      have hg := unhide HL
      rw [hLe] at hg
      rw [hLe, accF_grown hg hle hA hM hD] at hpq
      obtain ⟨w1, w2, w3, w4, w5, w6⟩ := without_grown hg hle hlo hhi hA hM hD
      have hadd := Ku.addF_split hg hle hA hM hD
      rw [← hLe] at hadd w1
      rw [← hpq] at w1 w2 w3 w4 w5 w6 hadd
      simp only at w1 w2 w3 w4 w5 w6
      have hwo := without_ref a k c L p q w (unhide HN) (unhide HRD) (good_vb (unhide HL)) hc hb ⟨w4, by omega⟩ ⟨by omega, w6⟩
      rw [w1] at hwo
      have hll : A.length + D.length ≤ 2000000000000 := by have := unhide HN; rw [hLe] at this; simp only [List.length_append] at this; omega
      have HADD := hide hadd
      clear hadd w1 hLe hg hA hM hD hpq e HRD HL HN
      go_wp2_with fail
      refine hwo.mono ?_
      rintro e W1 ⟨v1, rfl, r1, f1, g1⟩
      clear hwo
      obtain ⟨a1, d1, hv1, rd1, hd1, hd2⟩ := r1.rd
      have RD := hide rd1; have HG1 := hide g1
      have HSH : Hid (a1 = none ∧ d1 = 0 ∧ (A ++ D).length = 0 ∨ ∃ g, a1 = some ⟨g, 0, none⟩) := by
        rw [hv1] at r1
        rcases Row.at r1 with ⟨e1, e2⟩ | ⟨g, c', sp, e1, e2⟩
        · simp only [Value.slice.injEq] at e1
          exact .inl ⟨e1.1, e1.2.2, by rw [e2]; rfl⟩
        · simp only [Value.slice.injEq] at e1
          exact .inr ⟨g, e1.1⟩
      have HW2 := hide w2; have HW3 := hide w3
      have HLL := hide (fun (x y : List Sp) (e1 : x = A) (e2 : y = D) => (show x.length + y.length ≤ 2000000000000 by rw [e1, e2]; exact hll))
      have hnl : (A ++ D).length = A.length + D.length := List.length_append
      have HNL := hide hnl
      obtain ⟨nr, hnr⟩ : ∃ nr, (A ++ D).length = nr := ⟨_, rfl⟩
      rw [hnr] at hd1
      have HNR := hide hnr
      rw [hnr] at hv1 HSH
      subst hv1
      clear rd1 r1 f1 g1 w2 w3 hnl hnr
      go_wp2_with fail
      go_loopw [13] (fun i wz => ∃ j : Nat, j ≤ A.length ∧ i = .int .i64 j ∧ wz = W1) (fun i _ => A.length - (intOf i).toNat)
      case atStart => exact ⟨0, Nat.zero_le _, rfl, rfl⟩
      case round =>
        obtain ⟨j, hj, rfl, hwz⟩ := hrel
        symm at hwz
        subst hwz
        have hnl := unhide HNL
        have hnr := unhide HNR
        by_cases hlt : j < A.length
        · have hjr : j < (A ++ D).length := by omega
          obtain ⟨g, off, rfl, hcs⟩ := unhide RD (fun e => by rw [e] at hjr; simp at hjr)
          have c0 := (hcs j hjr).1
          have e2 : (A ++ D).getD j (0, 0) = A.getD j (0, 0) := by simp only [List.getD]; rw [List.getElem?_append_left hlt]
          rw [e2] at c0
          have hx := unhide HW2 (A.getD j (0, 0)) (by simp [List.getD, hlt])
          generalize (A.getD j (0, 0)).1 = x at *
          have hq1 : (j : Int) < (nr : Int) := by omega
          have hq2 : decide ((j : Int) < (nr : Int)) = true := decide_eq_true hq1
          have hq3 : decide (x < p) = true := decide_eq_true hx
          have HLT := hide hlt
          clear hcs e2 hjr hnl hnr hj hlt
          go_wp2_with fail
          exact ⟨⟨j + 1, unhide HLT, by go_num, trivial⟩, by simp [intOf]; have := unhide HLT; omega⟩
        · have hjA : j = A.length := by omega
          have hstop : Hid (j < nr → ∃ g off x, a1 = some ⟨g, off, none⟩ ∧ W1.cell? ⟨g, off + j * 2, none⟩ = some (.int .u64 x) ∧ ¬ x < p) := fun hq => by
            have hjr : j < (A ++ D).length := by omega
            obtain ⟨g, off, e, hcs⟩ := unhide RD (fun e => by rw [e] at hjr; simp at hjr)
            have e2 : (A ++ D).getD j (0, 0) = D.getD 0 (0, 0) := by simp only [List.getD]; rw [List.getElem?_append_right (by omega), hjA, Nat.sub_self]
            have hm := unhide HW3 (D.getD 0 (0, 0)) (by have : 0 < D.length := by omega
                                                        simp [List.getD, this])
            refine ⟨g, off, _, e, (hcs j hjr).1, ?_⟩
            rw [e2]
            omega
          have hnA : A.length ≤ nr := by omega
          have HJA := hide hjA
          have hAD := unhide HLL A D rfl rfl
          obtain ⟨v2, W2, hr2, r2, f2, g2⟩ := app_all (W := W1) (c := d1) (row_nil W1) (fresh_nil W1) (grown_self _ _) rfl (rdR_take (unhide RD)) (by simp; omega)
          rw [List.nil_append] at r2
          obtain ⟨v3, W3, hr3, r3, m3, -⟩ := app_one W2 v2 A p q 26 r2 (by omega)
          obtain ⟨g3, f3⟩ := m3.fresh (grown_trans g2 (grown_alloc _ _)) f2
          have hfin : Hid (∀ v W, Row W v (A ++ [(p, q)] ++ D) → Fresh W1 v → W1.grownBy W none → Row W v (Ku.addF lo hi L) ∧ Fresh w v ∧ w.grownBy W none) := fun v W q1 q2 q3 => ⟨by rw [unhide HADD]; simpa using q1, fun x hx => Nat.le_trans (unhide HG1).size (q2 x hx), grown_trans (unhide HG1) q3⟩
          obtain ⟨a2, d2, rfl, -, -, -⟩ := r2.rd
          obtain ⟨a3, d3, rfl, -, -, -⟩ := r3.rd
          rcases unhide HSH with ⟨ha, hd, hz⟩ | ⟨g, hg⟩
          · subst ha hd
            have hA0 : A.length = 0 := by omega
            have hD0 : D.length = 0 := by omega
            obtain ⟨v4, W4, hr4, r4, f4, g4⟩ := app_all (W := W1) (c := 0) (a := none) (n := 0) (L := D) r3 f3 g3 hD0 (fun e => absurd (List.length_eq_zero_iff.1 hD0) e) (by simp; omega)
            obtain ⟨a4, d4, rfl, -, -, -⟩ := r4.rd
            have F := hide (unhide hfin _ _ r4 f4 g4)
            have hj0 : j = 0 := by omega
            subst hj0 hz
            rw [hA0] at hr2 hr3
            have hno2 : ¬ (0 : Int) < (0 : Int) := by omega
            clear r2 f2 g2 r3 m3 g3 f3 r4 f4 g4 hstop hfin hno
            generalize (A ++ [(p, q)] ++ D).length = n4 at *
            generalize (A ++ [(p, q)]).length = n3 at *
            generalize A.length = nA at *
            have h00 : ((0 : Nat) : Int) = 0 := rfl
            rw [h00]
            clear h00 hjA hA0 hnA hj hlt hnl hnr hAD hll hD0 hd1 hd2
            go_upto_region 15 with fail
            go_upto_region 16 with (at_builtin; refine wpList_append_run _ rfl _ _ 26 26 rfl (.slice none 0 0) (.slice none 0 0) rfl rfl (hr2 _) ?_)
            go_upto_region 17 with (at_builtin; refine wpList_append_run _ rfl _ _ 26 26 rfl (.slice a2 0 d2) (.slice (some ⟨W2.heap.size, 0, none⟩) 1 1) rfl rfl hr3 ?_)
            go_wp2_with (at_builtin; refine wpList_append_run _ rfl _ _ 26 26 rfl (.slice a3 n3 d3) (.slice none 0 0) rfl rfl (hr4 _) ?_)
            go_ret
            exact ⟨_, rfl, unhide F⟩
          · subst hg
            obtain ⟨v4, W4, hr4, r4, f4, g4⟩ := app_all (W := W1) (c := d1 - j) (a := some ⟨g, j * 2, none⟩) (n := nr - j) (L := D) r3 f3 g3 (by omega) (by have := rdR_drop ((unhide RD).grown g3); rw [Nat.zero_add, ← hjA] at this; exact this) (by simp; omega)
            obtain ⟨a4, d4, rfl, -, -, -⟩ := r4.rd
            have F := hide (unhide hfin _ _ r4 f4 g4)
            rw [← hjA] at hr2 hr3
            have hi1 : (j : Int) ≤ (nr : Int) := by omega
            have hi2 : (nr : Int) ≤ (d1 : Int) := by omega
            have hi3 : j ≤ nr := by omega
            have hi4 : nr ≤ d1 := by omega
            by_cases hq : j < nr
            · have hi5 : ¬ d1 = j := by omega
              obtain ⟨g', off', x, e', hc', hx'⟩ := unhide hstop hq
              simp only [Option.some.injEq, Addr.mk.injEq, and_true] at e'
              obtain ⟨rfl, rfl⟩ := e'
              rw [Nat.zero_add] at hc'
              have hq1 : (j : Int) < (nr : Int) := by omega
              have hq2 : decide ((j : Int) < (nr : Int)) = true := decide_eq_true hq1
              have hq3 : decide (x < p) = false := decide_eq_false hx'
              have hq4 : decide (j < nr) = true := decide_eq_true hq
              clear r2 f2 g2 r3 m3 g3 f3 r4 f4 g4 hstop hfin hno hjA hlt hj hnA hnl hnr
              generalize (A ++ [(p, q)] ++ D).length = n4 at *
              generalize (A ++ [(p, q)]).length = n3 at *
              generalize A.length = nA at *
              go_upto_region 15 with fail
              go_upto_region 16 with (at_builtin; refine wpList_append_run _ rfl _ _ 26 26 rfl (.slice none 0 0) (.slice (some ⟨g, 0, none⟩) j d1) rfl rfl (hr2 _) ?_)
              go_upto_region 17 with (at_builtin; refine wpList_append_run _ rfl _ _ 26 26 rfl (.slice a2 j d2) (.slice (some ⟨W2.heap.size, 0, none⟩) 1 1) rfl rfl hr3 ?_)
              go_wp2_with (at_builtin; refine wpList_append_run _ rfl _ _ 26 26 rfl (.slice a3 n3 d3) (.slice (some ⟨g, j * 2, none⟩) (nr - j) (d1 - j)) rfl rfl (hr4 _) ?_)
              go_ret
              exact ⟨_, rfl, unhide F⟩
            · obtain rfl : j = nr := by omega
              have hno2 : ¬ (j : Int) < (j : Int) := by omega
              have hD0 : D.length = 0 := by omega
              by_cases hcj : d1 = j
              · obtain ⟨v5, W5, hr5, r5, f5, g5⟩ := app_all (W := W1) (c := 0) (a := some ⟨g, 0, none⟩) (n := 0) (L := D) r3 f3 g3 hD0 (fun e => absurd (List.length_eq_zero_iff.1 hD0) e) (by simp; omega)
                obtain ⟨a5, d5, rfl, -, -, -⟩ := r5.rd
                have F5 := hide (unhide hfin _ _ r5 f5 g5)
                subst hcj
                clear hr4 F r2 f2 g2 r3 m3 g3 f3 r4 f4 g4 r5 f5 g5 hstop hfin hno hjA hlt hj hnA hnl hnr hq
                generalize (A ++ [(p, q)] ++ D).length = n4 at *
                generalize (A ++ [(p, q)]).length = n3 at *
                generalize A.length = nA at *
                go_upto_region 15 with fail
                go_upto_region 16 with (at_builtin; refine wpList_append_run _ rfl _ _ 26 26 rfl (.slice none 0 0) (.slice (some ⟨g, 0, none⟩) d1 d1) rfl rfl (hr2 _) ?_)
                go_upto_region 17 with (at_builtin; refine wpList_append_run _ rfl _ _ 26 26 rfl (.slice a2 d1 d2) (.slice (some ⟨W2.heap.size, 0, none⟩) 1 1) rfl rfl hr3 ?_)
                go_wp2_with (at_builtin; refine wpList_append_run _ rfl _ _ 26 26 rfl (.slice a3 n3 d3) (.slice (some ⟨g, 0, none⟩) 0 0) rfl rfl (hr5 _) ?_)
                go_ret
                exact ⟨_, rfl, unhide F5⟩
              · rw [Nat.sub_self] at hr4
                clear r2 f2 g2 r3 m3 g3 f3 r4 f4 g4 hstop hfin hno hjA hlt hj hnA hnl hnr hq
                generalize (A ++ [(p, q)] ++ D).length = n4 at *
                generalize (A ++ [(p, q)]).length = n3 at *
                generalize A.length = nA at *
                go_upto_region 15 with fail
                go_upto_region 16 with (at_builtin; refine wpList_append_run _ rfl _ _ 26 26 rfl (.slice none 0 0) (.slice (some ⟨g, 0, none⟩) j d1) rfl rfl (hr2 _) ?_)
                go_upto_region 17 with (at_builtin; refine wpList_append_run _ rfl _ _ 26 26 rfl (.slice a2 j d2) (.slice (some ⟨W2.heap.size, 0, none⟩) 1 1) rfl rfl hr3 ?_)
                go_wp2_with (at_builtin; refine wpList_append_run _ rfl _ _ 26 26 rfl (.slice a3 n3 d3) (.slice (some ⟨g, j * 2, none⟩) 0 (d1 - j)) rfl rfl (hr4 _) ?_)
                go_ret
                exact ⟨_, rfl, unhide F⟩
end Go.Proofs.Ytcojhjnledeciaa.Kr
