/- SeenOnce. -/
import Derived.Test.YtielpjdjlmkejaaZY0
namespace Go.Proofs.Ytielpjdjlmkejaa
open Go.RowKit
set_option linter.unusedVariables false
set_option maxRecDepth 100000
set_option maxHeartbeats 40000000

def OR (w : World) (b k : Nat) (wr : World) (s : Sn) (T : List Int) (ta : Option Addr) (tn tq : Nat) : Prop := QS w wr b s ∧ RT w wr (.slice ta tn tq) T ∧ OI s T ∧ Cb k s ∧ T.length ≤ k

theorem once_walk (space delay : Int) (a0 : Option Addr) (len cap : Nat) (ol : List OpE) (w : World) (h : IsOps w a0 len cap ol) (hbig : len * 8 ≤ 140737488355328) :
    Calls Try.prog 4 #[.int .i64 space, .int .i64 delay, .slice a0 len cap] w fun e w' => e = .returned (.bool true) ∧ w.grownBy w' none := by
  have sh := shown_ok w
  have HO := hide h
  have hl := h.hlen
  have hcap := h.hcap
  have lenI : ¬ (9223372036854775807 : Int) < (len : Int) := by omega
  have HBIG := hide hbig
  clear h hbig
  by_cases hr : rightF space delay
  · obtain ⟨h1, h2, h3, h4⟩ := hr
    have d1 : decide (0 ≤ space) = true := decide_eq_true h1
    have d2 : decide (space ≤ 2) = true := decide_eq_true h2
    have d3 : decide (0 ≤ delay) = true := decide_eq_true h3
    have d4 : decide (delay ≤ 68719476736) = true := decide_eq_true h4
    have hr : rightF space delay := ⟨h1, h2, h3, h4⟩
    have HRR := hide hr
    clear hr
    go_enter Try.func4, Try.ntmps4
    go_wp2_with fail
    refine sh.mono ?_
    rintro e w1 ⟨rfl, g1⟩
    have hn := qs_new g1 (unhide HRR)
    have S0 := hide (oi0 (unhide HRR))
    clear sh g1
    go_wp2_with fail
    refine hn.mono ?_
    rintro e w2 ⟨rfl, q0⟩
    generalize w1.heap.size + 1 = b at *
    have R0 : Hid (OR w b 0 w2 (sn0 space delay) [] none 0 0) := ⟨q0, rt_nil _ _, unhide S0, ⟨Int.le_refl _, Int.le_refl _⟩, Nat.le_refl _⟩
    clear hn q0 S0 HRR
    go_wp2_with fail
    clear d1 d2 d3 d4 h1 h2 h3 h4
    go_loopw [11, 12] (fun t i wr => ∃ (k : Nat) (s : Sn) (T : List Int) (ta : Option Addr) (tn tq : Nat), k ≤ len ∧ t = .slice ta tn tq ∧ i = .int .i64 k ∧ Hid (OR w b k wr s T ta tn tq)) (fun _ i _ => len - (intOf i).toNat)
    case atStart => exact ⟨0, _, [], none, 0, 0, Nat.zero_le _, rfl, rfl, R0⟩
    case round =>
      clear R0
      obtain ⟨k, s, T, ta, tn, tq, hk, rfl, rfl, H⟩ := hrel
      by_cases hlt : k < len
      · obtain ⟨bo, off, rfl, hcs⟩ := (unhide HO).cell.resolve_left (by omega)
        have hx : ol[k]? = some ol[k] := List.getElem?_eq_getElem _
        have hxo := (unhide HO).ok _ (List.mem_of_getElem? hx)
        have hcx := hcs k _ hx
        generalize ol[k] = x at *
        have gr := (unhide H).1.grown
        have c0 : wr.cell? ⟨bo, off + k * 6, none⟩ = some (.int .i64 x.kind) := cell_grown_none gr (hcx 0 _ rfl)
        have c1 : wr.cell? ⟨bo, off + k * 6 + 1, none⟩ = some (.bool x.other) := cell_grown_none gr (hcx 1 _ rfl)
        have c2 : wr.cell? ⟨bo, off + k * 6 + 2, none⟩ = some (.int .i64 x.now) := cell_grown_none gr (hcx 2 _ rfl)
        have c3 : wr.cell? ⟨bo, off + k * 6 + 3, none⟩ = some (.int .i64 x.number) := cell_grown_none gr (hcx 3 _ rfl)
        have c4 : wr.cell? ⟨bo, off + k * 6 + 4, none⟩ = some (.bool x.el) := cell_grown_none gr (hcx 4 _ rfl)
        have c5 : wr.cell? ⟨bo, off + k * 6 + 5, none⟩ = some (.int .i64 x.mark) := cell_grown_none gr (hcx 5 _ rfl)
        have kn : (k : Int) < (len : Int) := by omega
        have pr := pk_range x.kind
        have hp := fun W => pick_any x.kind 6 hxo.k (by decide) W
        have HKK : Hid ((k : Int) < 9223372036854775807) := show _ < _ by omega
        have GA := hide (grown_alloc wr (.cells #[.int .i64 x.kind, .bool x.other, .int .i64 x.now, .int .i64 x.number, .bool x.el, .int .i64 x.mark] 37))
        have BA := hide (Blk.new wr #[.int .i64 x.kind, .bool x.other, .int .i64 x.now, .int .i64 x.number, .bool x.el, .int .i64 x.mark] 37)
        obtain ⟨htn, htc, htm, htr⟩ := (unhide H).2.1.at
        unfold maxLen at htm
        have HTN := hide htn
        have HTB : Hid ((T.length + 1) * 8 ≤ 140737488355328) := by have := (unhide H).2.2.2.2; have := unhide HBIG; show _ ≤ _; omega
        have HLT := hide hlt
        clear hcs hcx hx gr hxo hlt hk htn htr
        go_wp2_with fail
        refine (hp _).mono ?_
        rintro e W1 ⟨rfl, hW1⟩
        clear hp
        rw [← hW1] at GA BA
        have b2 := (unhide BA).cell 2 _ rfl
        have b3 := (unhide BA).cell 3 _ rfl
        have b5 := (unhide BA).cell 5 _ rfl
        clear hW1 c0 c1 c2 c3 c4 c5
        generalize pk x.kind 6 = p at *
        rcases (show p = 0 ∨ p = 1 ∨ p = 5 ∨ p = 3 ∨ p = 4 ∨ p = 2 by omega) with rfl | rfl | rfl | rfl | rfl | rfl
        · as_aux_lemma =>
            have fr1 := of_fresh ((unhide H).1.keep (unhide GA)) (unhide H).2.2.1.ok x.number
            go_wp2_with fail
            refine fr1.mono ?_
            rintro e W2 ⟨rfl, g2⟩
            have tk := of_take (((unhide H).1.keep (unhide GA)).keep g2) (unhide H).2.2.1.ok (unhide H).2.2.2.1 (unhide HKK) x.now x.number x.el x.mark
            have B2 := (unhide BA).grown g2
            have b2' := B2.cell 2 _ rfl
            have b3' := B2.cell 3 _ rfl
            have b4' := B2.cell 4 _ rfl
            have b5' := B2.cell 5 _ rfl
            have B2H := hide B2
            have R2 := hide ((unhide H).2.1.far ((Far.grown (unhide GA)).trans (Far.grown g2)))
            clear fr1 g2 B2 b2 b3 b5 BA
            go_wp2_with fail
            refine tk.mono ?_
            rintro e W3 ⟨rfl, q3, f3⟩
            have ag := of_fresh q3 (sok_take (unhide H).2.2.1.ok x.now x.number x.el x.mark) x.number
            rw [again_not (unhide H).2.2.1 x.now x.number x.el x.mark] at ag
            have B3 := (unhide B2H).far2 f3 (by decide) (by decide) (by decide)
            have b3'' := B3.cell 3 _ rfl
            have B3H := hide B3
            have R3 := hide ((unhide R2).far f3)
            have Q3 := hide q3
            clear tk q3 f3 B3 b2' b3' b4' b5' B2H R2
            go_wp2_with fail
            refine ag.mono ?_
            rintro e W4 ⟨rfl, g4⟩
            have B4 := (unhide B3H).grown g4
            have n4 := B4.cell 3 _ rfl
            have R4 := hide ((unhide R3).far (Far.grown g4))
            have Q4 := hide ((unhide Q3).keep g4)
            clear ag g4 B4 b3'' B3H R3 Q3
            cases hf : freshF s x.number with
            | false =>
              have E : Hid (∀ Y, W4.grownBy Y none → OR w b (k + 1) Y (takeF x.now x.number x.el x.mark s) T ta tn tq) := by
                intro Y hg
                refine ⟨(unhide Q4).keep hg, (unhide R4).far (Far.grown hg), ?_, cb_take (unhide H).2.2.2.1 _ _ _ _, by have := (unhide H).2.2.2.2; omega⟩
                unfold takeF
                rw [show freshF (goF x.now s) x.number = false from hf]
                exact oi_go (unhide H).2.2.1 x.now
              clear H hf R4 Q4
              go_wp2_with fail
              go_loopw [17] (fun j wr2 => ∃ (k2 q : Nat), k2 ≤ tn ∧ j = .int .i64 k2 ∧ wr2 = W4.drewN q) (fun j _ => tn - (intOf j).toNat)
              case atStart => exact ⟨0, 0, Nat.zero_le _, rfl, rfl⟩
              case round =>
                obtain ⟨k2, q, hk2, rfl, rfl⟩ := hrel
                by_cases hlt2 : k2 < tn
                · have kn2 : (k2 : Int) < (tn : Int) := by omega
                  go_wp2_with fail
                  go_quiet (fail)
                  go_wp2_with fail
                  go_roundw
                  case rel => exact ⟨k2 + 1, _, hlt2, by go_num, rfl⟩
                  case measure => simp [intOf]; omega
                · have kn2 : ¬ (k2 : Int) < (tn : Int) := by omega
                  have E2 := hide (unhide E _ (grown_drewN W4 q))
                  clear E n4
                  go_wp2_with fail
                  go_roundw
                  case rel => exact ⟨k + 1, _, _, _, _, _, unhide HLT, rfl, by go_num, E2⟩
                  case measure => have := unhide HLT; simp [intOf]; omega
            | true =>
              obtain ⟨nT, n0, n1⟩ := fresh_new (unhide H).2.2.1 hf
              have e0 : decide (x.number < 0) = false := decide_eq_false (by omega)
              have e1 : decide (4611686018427387904 ≤ x.number) = false := decide_eq_false (by omega)
              have OT : Hid (OI (takeF x.now x.number x.el x.mark s) (T ++ [x.number])) := by
                unfold takeF
                rw [show freshF (goF x.now s) x.number = true from hf]
                exact oi_took (oi_go (unhide H).2.2.1 x.now) hf x.el x.mark
              have CT := hide (cb_take (unhide H).2.2.2.1 x.now x.number x.el x.mark)
              have LT := hide (unhide H).2.2.2.2
              have NT := hide nT
              clear H hf nT
              go_wp2_with fail
              clear e0 e1 n0 n1
              go_loopw [17] (fun j wr2 => ∃ (k2 q : Nat), k2 ≤ tn ∧ j = .int .i64 k2 ∧ wr2 = W4.drewN q) (fun j _ => tn - (intOf j).toNat)
              case atStart => exact ⟨0, 0, Nat.zero_le _, rfl, rfl⟩
              case round =>
                obtain ⟨k2, q, hk2, rfl, rfl⟩ := hrel
                by_cases hlt2 : k2 < tn
                · have kn2 : (k2 : Int) < (tn : Int) := by omega
                  have hkT : k2 < T.length := by rw [← unhide HTN]; exact hlt2
                  obtain ⟨g, hga, hce⟩ : ∃ g, ta = some ⟨g, 0, none⟩ ∧ ∀ j x, T[j]? = some x → W4.cell? ⟨g, j, none⟩ = some (.int .i64 x) := by
                    rcases (unhide R4).at.2.2.2 with e | ⟨g, cur, e1, -, -, e2⟩
                    · rw [e] at hkT; simp at hkT
                    · exact ⟨g, e1, e2⟩
                  subst hga
                  have y1 : W4.cell? ⟨g, k2, none⟩ = some (.int .i64 T[k2]) := hce k2 _ (List.getElem?_eq_getElem hkT)
                  have yn : T[k2] ≠ x.number := fun e => unhide NT (e ▸ List.getElem_mem hkT)
                  have yb : (T[k2] == x.number) = false := by rw [beq_eq_false_iff_ne]; exact yn
                  generalize T[k2] = y at *
                  clear hce hkT yn
                  go_wp2_with fail
                  go_quiet (fail)
                  go_wp2_with fail
                  go_roundw
                  case rel => exact ⟨k2 + 1, _, hlt2, by go_num, rfl⟩
                  case measure => simp [intOf]; omega
                · have kn2 : ¬ (k2 : Int) < (tn : Int) := by omega
                  obtain ⟨W5, hW5⟩ : ∃ W5, W5 = (W4.drewN q).alloc (.cells #[.int .i64 x.number] 2) := ⟨_, rfl⟩
                  have g5 : W4.grownBy W5 none := by rw [hW5]; exact grown_trans (grown_drewN _ _) (grown_alloc _ _)
                  have r5 := (unhide R4).far (Far.grown g5)
                  have c5 : W5.cell? ⟨W4.heap.size, 0, none⟩ = some (.int .i64 x.number) := by rw [hW5]; exact (Blk.new (W4.drewN q) #[.int .i64 x.number] 2).cell 0 _ rfl
                  obtain ⟨a', c', W6, hap, r6, g6⟩ := rt_app w W5 (.slice ta tn tq) T x.number W4.heap.size 1 r5 ((unhide Q4).grown.trans g5) c5 (unhide HTB)
                  have E : Hid (OR w b (k + 1) W6 (takeF x.now x.number x.el x.mark s) (T ++ [x.number]) a' (T.length + 1) c') := ⟨((unhide Q4).keep g5).app r5 g6, r6, unhide OT, unhide CT, by have := unhide LT; simp; omega⟩
                  rw [hW5] at hap
                  have HAP := hide hap
                  clear hW5 g5 r5 c5 r6 g6 hap OT CT R4 Q4
                  go_wp2_with (at_builtin; refine wpList_append_run _ rfl _ _ 41 41 rfl _ _ rfl rfl (unhide HAP) ?_)
                  go_roundw
                  case rel => exact ⟨k + 1, _, _, _, _, _, unhide HLT, rfl, by go_num, E⟩
                  case measure => have := unhide HLT; simp [intOf]; omega
        · as_aux_lemma =>
            have fr1 := of_fresh ((unhide H).1.keep (unhide GA)) (unhide H).2.2.1.ok x.number
            go_wp2_with fail
            refine fr1.mono ?_
            rintro e W2 ⟨rfl, g2⟩
            have tk := of_take (((unhide H).1.keep (unhide GA)).keep g2) (unhide H).2.2.1.ok (unhide H).2.2.2.1 (unhide HKK) x.now x.number x.el x.mark
            have B2 := (unhide BA).grown g2
            have b2' := B2.cell 2 _ rfl
            have b3' := B2.cell 3 _ rfl
            have b4' := B2.cell 4 _ rfl
            have b5' := B2.cell 5 _ rfl
            have B2H := hide B2
            have R2 := hide ((unhide H).2.1.far ((Far.grown (unhide GA)).trans (Far.grown g2)))
            clear fr1 g2 B2 b2 b3 b5 BA
            go_wp2_with fail
            refine tk.mono ?_
            rintro e W3 ⟨rfl, q3, f3⟩
            have ag := of_fresh q3 (sok_take (unhide H).2.2.1.ok x.now x.number x.el x.mark) x.number
            rw [again_not (unhide H).2.2.1 x.now x.number x.el x.mark] at ag
            have B3 := (unhide B2H).far2 f3 (by decide) (by decide) (by decide)
            have b3'' := B3.cell 3 _ rfl
            have B3H := hide B3
            have R3 := hide ((unhide R2).far f3)
            have Q3 := hide q3
            clear tk q3 f3 B3 b2' b3' b4' b5' B2H R2
            go_wp2_with fail
            refine ag.mono ?_
            rintro e W4 ⟨rfl, g4⟩
            have B4 := (unhide B3H).grown g4
            have n4 := B4.cell 3 _ rfl
            have R4 := hide ((unhide R3).far (Far.grown g4))
            have Q4 := hide ((unhide Q3).keep g4)
            clear ag g4 B4 b3'' B3H R3 Q3
            cases hf : freshF s x.number with
            | false =>
              have E : Hid (∀ Y, W4.grownBy Y none → OR w b (k + 1) Y (takeF x.now x.number x.el x.mark s) T ta tn tq) := by
                intro Y hg
                refine ⟨(unhide Q4).keep hg, (unhide R4).far (Far.grown hg), ?_, cb_take (unhide H).2.2.2.1 _ _ _ _, by have := (unhide H).2.2.2.2; omega⟩
                unfold takeF
                rw [show freshF (goF x.now s) x.number = false from hf]
                exact oi_go (unhide H).2.2.1 x.now
              clear H hf R4 Q4
              go_wp2_with fail
              go_loopw [17] (fun j wr2 => ∃ (k2 q : Nat), k2 ≤ tn ∧ j = .int .i64 k2 ∧ wr2 = W4.drewN q) (fun j _ => tn - (intOf j).toNat)
              case atStart => exact ⟨0, 0, Nat.zero_le _, rfl, rfl⟩
              case round =>
                obtain ⟨k2, q, hk2, rfl, rfl⟩ := hrel
                by_cases hlt2 : k2 < tn
                · have kn2 : (k2 : Int) < (tn : Int) := by omega
                  go_wp2_with fail
                  go_quiet (fail)
                  go_wp2_with fail
                  go_roundw
                  case rel => exact ⟨k2 + 1, _, hlt2, by go_num, rfl⟩
                  case measure => simp [intOf]; omega
                · have kn2 : ¬ (k2 : Int) < (tn : Int) := by omega
                  have E2 := hide (unhide E _ (grown_drewN W4 q))
                  clear E n4
                  go_wp2_with fail
                  go_roundw
                  case rel => exact ⟨k + 1, _, _, _, _, _, unhide HLT, rfl, by go_num, E2⟩
                  case measure => have := unhide HLT; simp [intOf]; omega
            | true =>
              obtain ⟨nT, n0, n1⟩ := fresh_new (unhide H).2.2.1 hf
              have e0 : decide (x.number < 0) = false := decide_eq_false (by omega)
              have e1 : decide (4611686018427387904 ≤ x.number) = false := decide_eq_false (by omega)
              have OT : Hid (OI (takeF x.now x.number x.el x.mark s) (T ++ [x.number])) := by
                unfold takeF
                rw [show freshF (goF x.now s) x.number = true from hf]
                exact oi_took (oi_go (unhide H).2.2.1 x.now) hf x.el x.mark
              have CT := hide (cb_take (unhide H).2.2.2.1 x.now x.number x.el x.mark)
              have LT := hide (unhide H).2.2.2.2
              have NT := hide nT
              clear H hf nT
              go_wp2_with fail
              clear e0 e1 n0 n1
              go_loopw [17] (fun j wr2 => ∃ (k2 q : Nat), k2 ≤ tn ∧ j = .int .i64 k2 ∧ wr2 = W4.drewN q) (fun j _ => tn - (intOf j).toNat)
              case atStart => exact ⟨0, 0, Nat.zero_le _, rfl, rfl⟩
              case round =>
                obtain ⟨k2, q, hk2, rfl, rfl⟩ := hrel
                by_cases hlt2 : k2 < tn
                · have kn2 : (k2 : Int) < (tn : Int) := by omega
                  have hkT : k2 < T.length := by rw [← unhide HTN]; exact hlt2
                  obtain ⟨g, hga, hce⟩ : ∃ g, ta = some ⟨g, 0, none⟩ ∧ ∀ j x, T[j]? = some x → W4.cell? ⟨g, j, none⟩ = some (.int .i64 x) := by
                    rcases (unhide R4).at.2.2.2 with e | ⟨g, cur, e1, -, -, e2⟩
                    · rw [e] at hkT; simp at hkT
                    · exact ⟨g, e1, e2⟩
                  subst hga
                  have y1 : W4.cell? ⟨g, k2, none⟩ = some (.int .i64 T[k2]) := hce k2 _ (List.getElem?_eq_getElem hkT)
                  have yn : T[k2] ≠ x.number := fun e => unhide NT (e ▸ List.getElem_mem hkT)
                  have yb : (T[k2] == x.number) = false := by rw [beq_eq_false_iff_ne]; exact yn
                  generalize T[k2] = y at *
                  clear hce hkT yn
                  go_wp2_with fail
                  go_quiet (fail)
                  go_wp2_with fail
                  go_roundw
                  case rel => exact ⟨k2 + 1, _, hlt2, by go_num, rfl⟩
                  case measure => simp [intOf]; omega
                · have kn2 : ¬ (k2 : Int) < (tn : Int) := by omega
                  obtain ⟨W5, hW5⟩ : ∃ W5, W5 = (W4.drewN q).alloc (.cells #[.int .i64 x.number] 2) := ⟨_, rfl⟩
                  have g5 : W4.grownBy W5 none := by rw [hW5]; exact grown_trans (grown_drewN _ _) (grown_alloc _ _)
                  have r5 := (unhide R4).far (Far.grown g5)
                  have c5 : W5.cell? ⟨W4.heap.size, 0, none⟩ = some (.int .i64 x.number) := by rw [hW5]; exact (Blk.new (W4.drewN q) #[.int .i64 x.number] 2).cell 0 _ rfl
                  obtain ⟨a', c', W6, hap, r6, g6⟩ := rt_app w W5 (.slice ta tn tq) T x.number W4.heap.size 1 r5 ((unhide Q4).grown.trans g5) c5 (unhide HTB)
                  have E : Hid (OR w b (k + 1) W6 (takeF x.now x.number x.el x.mark s) (T ++ [x.number]) a' (T.length + 1) c') := ⟨((unhide Q4).keep g5).app r5 g6, r6, unhide OT, unhide CT, by have := unhide LT; simp; omega⟩
                  rw [hW5] at hap
                  have HAP := hide hap
                  clear hW5 g5 r5 c5 r6 g6 hap OT CT R4 Q4
                  go_wp2_with (at_builtin; refine wpList_append_run _ rfl _ _ 41 41 rfl _ _ rfl rfl (unhide HAP) ?_)
                  go_roundw
                  case rel => exact ⟨k + 1, _, _, _, _, _, unhide HLT, rfl, by go_num, E⟩
                  case measure => have := unhide HLT; simp [intOf]; omega
        · as_aux_lemma =>
            have fr1 := of_fresh ((unhide H).1.keep (unhide GA)) (unhide H).2.2.1.ok x.number
            go_wp2_with fail
            refine fr1.mono ?_
            rintro e W2 ⟨rfl, g2⟩
            have tk := of_take (((unhide H).1.keep (unhide GA)).keep g2) (unhide H).2.2.1.ok (unhide H).2.2.2.1 (unhide HKK) x.now x.number x.el x.mark
            have B2 := (unhide BA).grown g2
            have b2' := B2.cell 2 _ rfl
            have b3' := B2.cell 3 _ rfl
            have b4' := B2.cell 4 _ rfl
            have b5' := B2.cell 5 _ rfl
            have B2H := hide B2
            have R2 := hide ((unhide H).2.1.far ((Far.grown (unhide GA)).trans (Far.grown g2)))
            clear fr1 g2 B2 b2 b3 b5 BA
            go_wp2_with fail
            refine tk.mono ?_
            rintro e W3 ⟨rfl, q3, f3⟩
            have ag := of_fresh q3 (sok_take (unhide H).2.2.1.ok x.now x.number x.el x.mark) x.number
            rw [again_not (unhide H).2.2.1 x.now x.number x.el x.mark] at ag
            have B3 := (unhide B2H).far2 f3 (by decide) (by decide) (by decide)
            have b3'' := B3.cell 3 _ rfl
            have B3H := hide B3
            have R3 := hide ((unhide R2).far f3)
            have Q3 := hide q3
            clear tk q3 f3 B3 b2' b3' b4' b5' B2H R2
            go_wp2_with fail
            refine ag.mono ?_
            rintro e W4 ⟨rfl, g4⟩
            have B4 := (unhide B3H).grown g4
            have n4 := B4.cell 3 _ rfl
            have R4 := hide ((unhide R3).far (Far.grown g4))
            have Q4 := hide ((unhide Q3).keep g4)
            clear ag g4 B4 b3'' B3H R3 Q3
            cases hf : freshF s x.number with
            | false =>
              have E : Hid (∀ Y, W4.grownBy Y none → OR w b (k + 1) Y (takeF x.now x.number x.el x.mark s) T ta tn tq) := by
                intro Y hg
                refine ⟨(unhide Q4).keep hg, (unhide R4).far (Far.grown hg), ?_, cb_take (unhide H).2.2.2.1 _ _ _ _, by have := (unhide H).2.2.2.2; omega⟩
                unfold takeF
                rw [show freshF (goF x.now s) x.number = false from hf]
                exact oi_go (unhide H).2.2.1 x.now
              clear H hf R4 Q4
              go_wp2_with fail
              go_loopw [17] (fun j wr2 => ∃ (k2 q : Nat), k2 ≤ tn ∧ j = .int .i64 k2 ∧ wr2 = W4.drewN q) (fun j _ => tn - (intOf j).toNat)
              case atStart => exact ⟨0, 0, Nat.zero_le _, rfl, rfl⟩
              case round =>
                obtain ⟨k2, q, hk2, rfl, rfl⟩ := hrel
                by_cases hlt2 : k2 < tn
                · have kn2 : (k2 : Int) < (tn : Int) := by omega
                  go_wp2_with fail
                  go_quiet (fail)
                  go_wp2_with fail
                  go_roundw
                  case rel => exact ⟨k2 + 1, _, hlt2, by go_num, rfl⟩
                  case measure => simp [intOf]; omega
                · have kn2 : ¬ (k2 : Int) < (tn : Int) := by omega
                  have E2 := hide (unhide E _ (grown_drewN W4 q))
                  clear E n4
                  go_wp2_with fail
                  go_roundw
                  case rel => exact ⟨k + 1, _, _, _, _, _, unhide HLT, rfl, by go_num, E2⟩
                  case measure => have := unhide HLT; simp [intOf]; omega
            | true =>
              obtain ⟨nT, n0, n1⟩ := fresh_new (unhide H).2.2.1 hf
              have e0 : decide (x.number < 0) = false := decide_eq_false (by omega)
              have e1 : decide (4611686018427387904 ≤ x.number) = false := decide_eq_false (by omega)
              have OT : Hid (OI (takeF x.now x.number x.el x.mark s) (T ++ [x.number])) := by
                unfold takeF
                rw [show freshF (goF x.now s) x.number = true from hf]
                exact oi_took (oi_go (unhide H).2.2.1 x.now) hf x.el x.mark
              have CT := hide (cb_take (unhide H).2.2.2.1 x.now x.number x.el x.mark)
              have LT := hide (unhide H).2.2.2.2
              have NT := hide nT
              clear H hf nT
              go_wp2_with fail
              clear e0 e1 n0 n1
              go_loopw [17] (fun j wr2 => ∃ (k2 q : Nat), k2 ≤ tn ∧ j = .int .i64 k2 ∧ wr2 = W4.drewN q) (fun j _ => tn - (intOf j).toNat)
              case atStart => exact ⟨0, 0, Nat.zero_le _, rfl, rfl⟩
              case round =>
                obtain ⟨k2, q, hk2, rfl, rfl⟩ := hrel
                by_cases hlt2 : k2 < tn
                · have kn2 : (k2 : Int) < (tn : Int) := by omega
                  have hkT : k2 < T.length := by rw [← unhide HTN]; exact hlt2
                  obtain ⟨g, hga, hce⟩ : ∃ g, ta = some ⟨g, 0, none⟩ ∧ ∀ j x, T[j]? = some x → W4.cell? ⟨g, j, none⟩ = some (.int .i64 x) := by
                    rcases (unhide R4).at.2.2.2 with e | ⟨g, cur, e1, -, -, e2⟩
                    · rw [e] at hkT; simp at hkT
                    · exact ⟨g, e1, e2⟩
                  subst hga
                  have y1 : W4.cell? ⟨g, k2, none⟩ = some (.int .i64 T[k2]) := hce k2 _ (List.getElem?_eq_getElem hkT)
                  have yn : T[k2] ≠ x.number := fun e => unhide NT (e ▸ List.getElem_mem hkT)
                  have yb : (T[k2] == x.number) = false := by rw [beq_eq_false_iff_ne]; exact yn
                  generalize T[k2] = y at *
                  clear hce hkT yn
                  go_wp2_with fail
                  go_quiet (fail)
                  go_wp2_with fail
                  go_roundw
                  case rel => exact ⟨k2 + 1, _, hlt2, by go_num, rfl⟩
                  case measure => simp [intOf]; omega
                · have kn2 : ¬ (k2 : Int) < (tn : Int) := by omega
                  obtain ⟨W5, hW5⟩ : ∃ W5, W5 = (W4.drewN q).alloc (.cells #[.int .i64 x.number] 2) := ⟨_, rfl⟩
                  have g5 : W4.grownBy W5 none := by rw [hW5]; exact grown_trans (grown_drewN _ _) (grown_alloc _ _)
                  have r5 := (unhide R4).far (Far.grown g5)
                  have c5 : W5.cell? ⟨W4.heap.size, 0, none⟩ = some (.int .i64 x.number) := by rw [hW5]; exact (Blk.new (W4.drewN q) #[.int .i64 x.number] 2).cell 0 _ rfl
                  obtain ⟨a', c', W6, hap, r6, g6⟩ := rt_app w W5 (.slice ta tn tq) T x.number W4.heap.size 1 r5 ((unhide Q4).grown.trans g5) c5 (unhide HTB)
                  have E : Hid (OR w b (k + 1) W6 (takeF x.now x.number x.el x.mark s) (T ++ [x.number]) a' (T.length + 1) c') := ⟨((unhide Q4).keep g5).app r5 g6, r6, unhide OT, unhide CT, by have := unhide LT; simp; omega⟩
                  rw [hW5] at hap
                  have HAP := hide hap
                  clear hW5 g5 r5 c5 r6 g6 hap OT CT R4 Q4
                  go_wp2_with (at_builtin; refine wpList_append_run _ rfl _ _ 41 41 rfl _ _ rfl rfl (unhide HAP) ?_)
                  go_roundw
                  case rel => exact ⟨k + 1, _, _, _, _, _, unhide HLT, rfl, by go_num, E⟩
                  case measure => have := unhide HLT; simp [intOf]; omega
        · as_aux_lemma =>
            have ak := of_ack ((unhide H).1.keep (unhide GA)) (unhide H).2.2.1.ok x.now x.mark
            go_wp2_with fail
            refine ak.mono ?_
            rintro e W2 ⟨cs, rfl, ⟨z1, z2⟩, af, q2, f2⟩
            obtain ⟨ra, rc, r12, rrow⟩ := ack_row af
            have ga := grown_alloc W2 (.cells cs 48)
            have ok' := sok_ack (unhide H).2.2.1.ok x.now
            have OA := hide (oi_ack (unhide H).2.2.1 x.now)
            have eL : (ackF x.now s).L = s.L := by unfold ackF; split <;> rfl
            have q3 := q2.keep ga
            have fl := qs_floor q3
            have ru := qs_runs q3 ok'
            have ER : Hid (∀ Y, (W2.alloc (.cells cs 48)).grownBy Y none → OR w b (k + 1) Y (ackF x.now s) T ta tn tq) := fun Y hg => ⟨q3.keep hg, ((unhide H).2.1.far (((Far.grown (unhide GA)).trans f2).trans (Far.grown ga))).far (Far.grown hg), unhide OA, ack_cb2 (unhide H).2.2.2.1 x.now, by have := (unhide H).2.2.2.2; omega⟩
            have e12 := (Blk.new W2 cs 48).cell 12 _ r12
            have BF := hide (Blk.new W2 cs 48)
            have RR := hide (rrow.kept2 ga)
            have R12 := hide r12
            have LN := hide (unhide H).2.2.1.ok.len
            have eis : decide (s.L ≠ []) = decide ((0 : Int) < (s.L.length : Int)) := by
              cases s.L with
              | nil => rfl
              | cons y l => simp
            rw [eis]
            have gd := hide (unhide H).2.2.1.ok.good
            have flr := hide (unhide H).2.2.1.ok.floor
            have lgr := hide (unhide H).2.2.1.ok.large
            rw [eL] at ru
            generalize hsl : s.L = L at *
            have HSL := hide hsl
            have EL := hide eL
            have HTL := hide (unhide H).2.2.2.2
            clear ak af q2 f2 ga ok' eL q3 rrow r12 e12 eis b2 b3 b5 hsl H
            generalize hqq : L.length = q at *
            have HQQ := hide hqq
            have lnq : ¬ (32 : Int) < (q : Int) := by have := unhide LN; omega
            have lnd : decide ((32 : Int) < (q : Int)) = false := decide_eq_false lnq
            clear hqq
            go_wp2_with (refine wpList_store_row rfl _ _ _ rfl W2.heap.size cs rfl rfl 48 _ (Blk.new W2 fr0 48) (by rw [z1]; exact Try.sizeFr) (by rw [z1]; rfl) z2 ?_; rw [World.setRow_alloc_new])
            generalize hW3 : W2.alloc (.cells cs 48) = W3 at *
            clear z1 z2
            refine fl.mono ?_
            rintro e W3' ⟨rfl, hW3'⟩
            subst hW3'
            clear fl hW3
            go_wp2_with fail
            refine ru.mono ?_
            rintro e W4 ⟨la, lc, rfl, hnc, hcm, lrow, g4⟩
            have f12 : W4.cell? ⟨W2.heap.size, 12, none⟩ = some (.slice ra q rc) := ((unhide BF).grown g4).cell 12 _ (unhide R12)
            have RW := hide ((unhide RR).kept2 g4)
            have LW := hide lrow
            have E4 := hide (unhide ER W4 g4)
            have ERN : Hid (∀ n, OR w b (k + 1) (W4.drewN n) (ackF x.now s) T ta tn tq) := fun n => unhide ER _ (grown_trans g4 (grown_drewN _ _))
            have MEM : Hid (∀ y, y ∈ T → decide ((ackF x.now s).floor < y) = memB y L) := by
              intro y hy
              have := (unhide OA).mem y
              rw [unhide EL] at this
              cases hb : memB y L with
              | true => exact decide_eq_true (this.1 hb).2
              | false => exact decide_eq_false (fun hc => by rw [this.2 ⟨hy, hc⟩] at hb; cases hb)
            have CN : Hid (cnt L = ((T.filter fun y => memB y L).length : Int)) := cnt_row (unhide gd) T (unhide OA).nd (fun y hy => by
              have := (unhide OA).mem y
              rw [unhide EL] at this
              exact (this.1 hy).1)
            have FLO : Hid ((ackF x.now s).floor = s.floor) := by unfold ackF; split <;> rfl
            have LT := HTL
            clear ru g4 lrow ER RR BF R12 hcm hnc OA
            generalize hfv : (ackF x.now s).floor = fv at *
            have HFV := hide hfv
            clear hfv
            go_wp2_with fail
            go_loopw [22, 23] (fun nn j wr3 => ∃ (k3 qd : Nat), k3 ≤ q ∧ nn = .int .u64 (cnt (L.take k3)) ∧ j = .int .i64 k3 ∧ wr3 = W4.drewN qd) (fun _ j _ => q - (intOf j).toNat)
            case atStart => exact ⟨0, 0, Nat.zero_le _, rfl, rfl, rfl⟩
            case round =>
              obtain ⟨k3, qd, hk3, rfl, rfl, rfl⟩ := hrel
              by_cases hlt3 : k3 < q
              · have kn3 : (k3 : Int) < (q : Int) := by omega
                have hkL : k3 < L.length := by rw [unhide HQQ]; exact hlt3
                obtain ⟨gl, hgl, sl, hLR⟩ : ∃ g, la = some ⟨g, 0, none⟩ ∧ ∃ sp, RowAt W4 g lc L sp := by
                  rcases Row.at (unhide LW) with ⟨e1, e2⟩ | ⟨g, c', sp, e1, e2⟩
                  · rw [e2] at hkL; simp at hkL
                  · simp only [Value.slice.injEq] at e1
                    obtain ⟨rfl, -, rfl⟩ := e1
                    exact ⟨g, rfl, sp, e2⟩
                obtain ⟨gq, hgq, sq, hRR⟩ : ∃ g, ra = some ⟨g, 0, none⟩ ∧ ∃ sp, RowAt W4 g rc L.reverse sp := by
                  rcases Row.at (unhide RW) with ⟨e1, e2⟩ | ⟨g, c', sp, e1, e2⟩
                  · rw [List.reverse_eq_nil_iff] at e2; rw [e2] at hkL; simp at hkL
                  · simp only [Value.slice.injEq] at e1
                    obtain ⟨rfl, -, rfl⟩ := e1
                    exact ⟨g, rfl, sp, e2⟩
                subst hgl
                subst hgq
                obtain ⟨j3, hj3⟩ : ∃ j3, j3 = q - 1 - k3 := ⟨_, rfl⟩
                have hjL : j3 < L.reverse.length := by rw [List.length_reverse, unhide HQQ]; omega
                have y0 := hLR.cell (k3 * 2) _ (cl_lo L k3 hkL)
                have y1 := hLR.cell (k3 * 2 + 1) _ (cl_hi L k3 hkL)
                have z0 := hRR.cell (j3 * 2) _ (cl_lo _ j3 hjL)
                have z1 := hRR.cell (j3 * 2 + 1) _ (cl_hi _ j3 hjL)
                have hrv : L.reverse.getD j3 (0, 0) = L.getD k3 (0, 0) := by
                  have := rev_at L k3 hkL
                  rw [unhide HQQ, ← hj3] at this
                  exact this
                rw [hrv] at z0 z1
                have hmm := (unhide gd).mem (s := L.getD k3 (0, 0)) (by rw [List.getD_eq_getElem?_getD, List.getElem?_eq_getElem hkL]; simp)
                have hcs := cnt_step L k3 hkL
                have hct := cnt_take (unhide gd) (by have := unhide flr; omega) (unhide lgr) k3
                have PV : Hid (∀ j1, j1 + 1 = k3 → W4.cell? ⟨gl, j1 * 2 + 1, none⟩ = some (.int .i64 (L.getD j1 (0, 0)).2) ∧ (L.getD j1 (0, 0)).2 + 1 < (L.getD k3 (0, 0)).1) := by
                  rintro j1 rfl
                  exact ⟨hLR.cell (j1 * 2 + 1) _ (cl_hi L j1 (by omega)), pair_at (unhide gd) j1 hkL⟩
                have flr' := unhide flr
                have lgr' := unhide lgr
                have flo := unhide FLO
                generalize hL3 : L.getD k3 (0, 0) = y at *
                generalize hC3 : cnt (L.take k3) = C at *
                obtain ⟨qm, hqm⟩ : ∃ qm, qm + 1 = q := ⟨q - 1, by omega⟩
                have hq1 : (q : Int) - 1 = (qm : Int) := by omega
                have hq2 : (qm : Int) - (k3 : Int) = (j3 : Int) := by omega
                have w5 : IntKind.i64.wrap (qm : Int) = (qm : Int) := by have := unhide LN; rw [IntKind.wrap_i64]; omega
                have w6 : IntKind.i64.wrap (j3 : Int) = (j3 : Int) := by have := unhide LN; rw [IntKind.wrap_i64]; omega
                have hjq : (j3 : Int) < (q : Int) := by omega
                have dhl : decide (y.2 < y.1) = false := decide_eq_false (by omega)
                have dfl : decide (y.1 ≤ fv) = false := decide_eq_false (by have := unhide HFV; omega)
                have w0 : IntKind.i64.wrap (y.2 - y.1) = y.2 - y.1 := by rw [IntKind.wrap_i64]; omega
                have w1 : IntKind.u64.wrap (y.2 - y.1) = y.2 - y.1 := by rw [IntKind.wrap_u64]; omega
                have w2 : IntKind.u64.wrap (C + (y.2 - y.1)) = C + (y.2 - y.1) := by rw [IntKind.wrap_u64]; omega
                have w3 : IntKind.u64.wrap (C + (y.2 - y.1) + 1) = C + (y.2 - y.1) + 1 := by rw [IntKind.wrap_u64]; omega
                have w4 : IntKind.i64.wrap (y.1 - 1) = y.1 - 1 := by rw [IntKind.wrap_i64]; omega
                have HCS := hide hcs
                by_cases hz : k3 = 0
                · have dz : decide ((0 : Int) < (k3 : Int)) = false := decide_eq_false (by omega)
                  have dzN : decide (0 < k3) = false := decide_eq_false (by omega)
                  have dzM : ¬ 0 < k3 := by omega
                  clear hLR hRR hkL hjL hrv hmm hct PV flr' lgr' flo hL3 hC3 hj3 hz hcs hqm
                  go_wp2_with fail
                  go_quiet (fail)
                  go_wp2_with fail
                  go_quiet (fail)
                  go_wp2_with fail
                  go_roundw
                  case rel => exact ⟨k3 + 1, _, hlt3, by rw [unhide HCS], by go_num, rfl⟩
                  case measure => simp [intOf]; omega
                · have dz : decide ((0 : Int) < (k3 : Int)) = true := decide_eq_true (by omega)
                  have dzN : decide (0 < k3) = true := decide_eq_true (by omega)
                  have dzM : 0 < k3 := by omega
                  obtain ⟨j1, hj1⟩ : ∃ j1, j1 + 1 = k3 := ⟨k3 - 1, by omega⟩
                  obtain ⟨p1, p2⟩ := unhide PV j1 hj1
                  have hk1 : (k3 : Int) - 1 = (j1 : Int) := by omega
                  have hj1q : (j1 : Int) < (q : Int) := by omega
                  have hj1n : j1 < q := by omega
                  have w7 : IntKind.i64.wrap (j1 : Int) = (j1 : Int) := by have := unhide LN; rw [IntKind.wrap_i64]; omega
                  have dp : decide (y.1 - 1 ≤ (L.getD j1 (0, 0)).2) = false := decide_eq_false (by omega)
                  generalize (L.getD j1 (0, 0)).2 = pz at *
                  clear hLR hRR hkL hjL hrv hmm hct PV flr' lgr' flo hL3 hC3 hj3 hz hcs hj1 p2 hqm
                  go_wp2_with fail
                  go_quiet (fail)
                  go_wp2_with fail
                  go_quiet (fail)
                  go_wp2_with fail
                  go_roundw
                  case rel => exact ⟨k3 + 1, _, hlt3, by rw [unhide HCS], by go_num, rfl⟩
                  case measure => simp [intOf]; omega
              · have kn3 : ¬ (k3 : Int) < (q : Int) := by omega
                have eC : cnt (L.take k3) = ((T.filter fun y => memB y L).length : Int) := by
                  rw [List.take_of_length_le (by rw [unhide HQQ]; omega)]
                  exact unhide CN
                rw [eC]
                clear eC CN
                have FT : Hid (∀ k4, ((T.take k4).filter fun y => memB y L).length ≤ k4) := fun k4 => Nat.le_trans (List.length_filter_le _ _) (by simp; omega)
                generalize hW5 : W4.drewN qd = W5 at *
                have LW5 : Hid (Row W5 (.slice la q lc) L) := by rw [← hW5]; exact row_kept (unhide LW) (fun _ _ => rfl)
                have R5 : Hid (RT w W5 (.slice ta tn tq) T) := by rw [← hW5]; exact (unhide ERN qd).2.1
                have E5 : Hid (OR w b (k + 1) W5 (ackF x.now s) T ta tn tq) := by rw [← hW5]; exact unhide ERN qd
                clear hW5 hk3 hlt3
                obtain ⟨cn, hcn⟩ : ∃ cn : Nat, cn = (T.filter fun y => memB y L).length := ⟨_, rfl⟩
                rw [← hcn]
                have HCN := hide hcn
                clear hcn
                go_wp2_with fail
                go_loopw [24, 25] (fun mm j wr4 => ∃ (k4 c4 : Nat), k4 ≤ tn ∧ mm = .int .u64 (c4 : Int) ∧ j = .int .i64 k4 ∧ wr4 = W5 ∧ Hid (c4 = ((T.take k4).filter fun y => memB y L).length)) (fun _ j _ => tn - (intOf j).toNat)
                case atStart => exact ⟨0, 0, Nat.zero_le _, rfl, rfl, rfl, rfl⟩
                case round =>
                  obtain ⟨k4, c4, hk4, rfl, rfl, rfl, HC4⟩ := hrel
                  by_cases hlt4 : k4 < tn
                  · have kn4 : (k4 : Int) < (tn : Int) := by omega
                    have hkT : k4 < T.length := by rw [← unhide HTN]; exact hlt4
                    obtain ⟨g, hga, hce⟩ : ∃ g, ta = some ⟨g, 0, none⟩ ∧ ∀ j x, T[j]? = some x → wr.cell? ⟨g, j, none⟩ = some (.int .i64 x) := by
                      rcases (unhide R5).at.2.2.2 with e | ⟨g, cur, e1, -, -, e2⟩
                      · rw [e] at hkT; simp at hkT
                      · exact ⟨g, e1, e2⟩
                    subst hga
                    have y1 := hce k4 _ (List.getElem?_eq_getElem hkT)
                    have dm := unhide MEM T[k4] (List.getElem_mem hkT)
                    have hin := in_any la lc L T[k4] wr (by have := unhide LW5; rw [← unhide HQQ] at this; exact this)
                    rw [unhide HQQ] at hin
                    have hst : ((T.take (k4 + 1)).filter fun y => memB y L).length = ((T.take k4).filter fun y => memB y L).length + (if memB T[k4] L = true then 1 else 0) := by
                      rw [List.take_add_one, List.getElem?_eq_getElem hkT]
                      simp only [Option.toList_some, List.filter_append, List.length_append]
                      cases hb : memB T[k4] L <;> simp [hb]
                    have hbd : c4 + 1 ≤ len := by have := unhide FT k4; have := unhide HC4; have := unhide HTN; have := unhide LT; have := unhide HLT; omega
                    generalize T[k4] = y at *
                    have ST := hide hst
                    have cw : IntKind.u64.wrap ((c4 : Int) + 1) = (c4 : Int) + 1 := by rw [IntKind.wrap_u64]; omega
                    clear hce hkT hst hbd
                    cases hm : memB y L with
                    | true =>
                      rw [hm] at hin dm
                      have S4 : Hid (c4 + 1 = ((T.take (k4 + 1)).filter fun y => memB y L).length) := by rw [unhide ST, if_pos hm, ← unhide HC4]; rfl
                      clear hm ST HC4
                      go_wp2_with fail
                      refine hin.mono ?_
                      rintro e W6 ⟨rfl, rfl⟩
                      clear hin
                      go_wp2_with fail
                      go_roundw
                      case rel => exact ⟨k4 + 1, c4 + 1, hlt4, by go_num, by go_num, trivial, S4⟩
                      case measure => simp [intOf]; omega
                    | false =>
                      rw [hm] at hin dm
                      have S4 : Hid (c4 = ((T.take (k4 + 1)).filter fun y => memB y L).length) := by rw [unhide ST, if_neg (by rw [hm]; decide), ← unhide HC4]; rfl
                      clear hm ST HC4
                      go_wp2_with fail
                      refine hin.mono ?_
                      rintro e W6 ⟨rfl, rfl⟩
                      clear hin
                      go_wp2_with fail
                      go_roundw
                      case rel => exact ⟨k4 + 1, c4, hlt4, rfl, by go_num, trivial, S4⟩
                      case measure => simp [intOf]; omega
                  · have kn4 : ¬ (k4 : Int) < (tn : Int) := by omega
                    obtain rfl : c4 = cn := by
                      have := unhide HC4
                      rw [List.take_of_length_le (by rw [← unhide HTN]; omega)] at this
                      rw [this, unhide HCN]
                    go_wp2_with fail
                    go_roundw
                    case rel => exact ⟨k + 1, _, _, _, _, _, unhide HLT, rfl, by go_num, E5⟩
                    case measure => have := unhide HLT; simp [intOf]; omega
        · have fk := of_forget ((unhide H).1.keep (unhide GA)) (unhide H).2.2.1.ok x.number
          go_wp2_with fail
          refine fk.mono ?_
          rintro e W2 ⟨rfl, q2, f2⟩
          have E : Hid (OR w b (k + 1) W2 (forgetF x.number s) T ta tn tq) := ⟨q2, ((unhide H).2.1.far (Far.grown (unhide GA))).far f2, oi_forget (unhide H).2.2.1 x.number, forget_cb2 (unhide H).2.2.2.1 x.number, by have := (unhide H).2.2.2.2; omega⟩
          clear fk q2 f2 H b2 b3 b5
          go_wp2_with fail
          go_roundw
          case rel => exact ⟨k + 1, _, _, _, _, _, unhide HLT, rfl, by go_num, E⟩
          case measure => have := unhide HLT; simp [intOf]; omega
        · have E : Hid (OR w b (k + 1) W1 s T ta tn tq) := ⟨(unhide H).1.keep (unhide GA), (unhide H).2.1.far (Far.grown (unhide GA)), (unhide H).2.2.1, cb_mono (unhide H).2.2.2.1 (Nat.le_succ k), by have := (unhide H).2.2.2.2; omega⟩
          clear H b2 b3 b5
          go_wp2_with fail
          go_roundw
          case rel => exact ⟨k + 1, _, _, _, _, _, unhide HLT, rfl, by go_num, E⟩
          case measure => have := unhide HLT; simp [intOf]; omega
      · have kn : ¬ (k : Int) < (len : Int) := by omega
        have G := hide (unhide H).1.grown
        clear H
        go_wp2_with fail
        go_ret
        exact ⟨rfl, unhide G⟩
  · have hn := fun W => new_wrong space delay W hr
    unfold rightF at hr
    have hr2 : space < 0 ∨ (0 ≤ space ∧ 2 < space) ∨ (0 ≤ space ∧ space ≤ 2 ∧ delay < 0) ∨ (0 ≤ space ∧ space ≤ 2 ∧ 0 ≤ delay ∧ 68719476736 < delay) := by omega
    clear hr
    rcases hr2 with h1 | ⟨h1, h2⟩ | ⟨h1, h2, h3⟩ | ⟨h1, h2, h3, h4⟩
    · have d1 : decide (0 ≤ space) = false := decide_eq_false (by omega)
      go_enter Try.func4, Try.ntmps4
      go_wp2_with fail
      refine sh.mono ?_
      rintro e w1 ⟨rfl, g1⟩
      have G := hide g1
      clear sh g1
      go_wp2_with fail
      refine (hn _).mono ?_
      rintro e w2 ⟨rfl, rfl⟩
      clear hn
      go_wp2_with fail
      go_ret
      exact ⟨rfl, unhide G⟩
    · have d1 : decide (0 ≤ space) = true := decide_eq_true h1
      have d2 : decide (space ≤ 2) = false := decide_eq_false (by omega)
      go_enter Try.func4, Try.ntmps4
      go_wp2_with fail
      refine sh.mono ?_
      rintro e w1 ⟨rfl, g1⟩
      have G := hide g1
      clear sh g1
      go_wp2_with fail
      refine (hn _).mono ?_
      rintro e w2 ⟨rfl, rfl⟩
      clear hn
      go_wp2_with fail
      go_ret
      exact ⟨rfl, unhide G⟩
    · have d1 : decide (0 ≤ space) = true := decide_eq_true h1
      have d2 : decide (space ≤ 2) = true := decide_eq_true h2
      have d3 : decide (0 ≤ delay) = false := decide_eq_false (by omega)
      go_enter Try.func4, Try.ntmps4
      go_wp2_with fail
      refine sh.mono ?_
      rintro e w1 ⟨rfl, g1⟩
      have G := hide g1
      clear sh g1
      go_wp2_with fail
      refine (hn _).mono ?_
      rintro e w2 ⟨rfl, rfl⟩
      clear hn
      go_wp2_with fail
      go_ret
      exact ⟨rfl, unhide G⟩
    · have d1 : decide (0 ≤ space) = true := decide_eq_true h1
      have d2 : decide (space ≤ 2) = true := decide_eq_true h2
      have d3 : decide (0 ≤ delay) = true := decide_eq_true h3
      have d4 : decide (delay ≤ 68719476736) = false := decide_eq_false (by omega)
      go_enter Try.func4, Try.ntmps4
      go_wp2_with fail
      refine sh.mono ?_
      rintro e w1 ⟨rfl, g1⟩
      have G := hide g1
      clear sh g1
      go_wp2_with fail
      refine (hn _).mono ?_
      rintro e w2 ⟨rfl, rfl⟩
      clear hn
      go_wp2_with fail
      go_ret
      exact ⟨rfl, unhide G⟩
end Go.Proofs.Ytielpjdjlmkejaa
