/- RenoAvoids. -/
import Derived.Test.YtgmnlhbfhdgidaaGJ
namespace Go.Proofs.Ytgmnlhbfhdgidaa
open Go.RowKit
set_option linter.unusedVariables false
set_option maxRecDepth 100000
set_option maxHeartbeats 16000000

theorem does_clock (y : OpE) (s : Cs) : (doesF y s).clock = s.clock ∨ (doesF y s).clock = max s.clock (sp y.now) := by
  unfold doesF
  split
  · exact .inl rfl
  split
  · exact .inr (ack_mtu _ _ _ _ _).2.2.1
  split
  · exact .inl rfl
  split
  · exact .inl rfl
  split
  · exact .inr (event_mtu _ _ _).2.2
  split <;> exact .inl rfl
theorem event_avoid {n : Nat} {s : Cs} (h : s.Ok n) (hc : s.clock < 562949953421312) : (eventF 562949953421312 562949953421312 s).began = 562949953421312 ∧ (eventF 562949953421312 562949953421312 s).thr ≤ (eventF 562949953421312 562949953421312 s).size ∧ (eventF 562949953421312 562949953421312 s).rest = 0 := by
  have hb := h.b
  have e : sp 562949953421312 = 562949953421312 := by decide
  unfold eventF
  rw [if_neg (fun ha => by have := ha.2; rw [e] at this; omega)]
  refine ⟨?_, ?_, rfl⟩
  · show max s.clock (sp 562949953421312) = _
    omega
  · show s.size / 2 ≤ max (s.size / 2) (2 * s.mtu)
    omega
theorem ack_avoid {n : Nat} {s : Cs} (h : s.Ok n) (hb : s.began = 562949953421312) (ht : s.thr ≤ s.size) (p : Int) (hp : 0 ≤ p ∧ p ≤ 65535) :
    (ackF 562949953421313 562949953421313 p false s).began = 562949953421312 ∧ (ackF 562949953421313 562949953421313 p false s).thr = s.thr ∧ (ackF 562949953421313 562949953421313 p false s).mtu = s.mtu ∧
    (p = s.size - s.rest → (ackF 562949953421313 562949953421313 p false s).size = s.size + s.mtu ∧ (ackF 562949953421313 562949953421313 p false s).rest = 0) ∧
    (p < s.size - s.rest → (ackF 562949953421313 562949953421313 p false s).size = s.size ∧ (ackF 562949953421313 562949953421313 p false s).rest = s.rest + p) := by
  obtain ⟨a1, -, -, a2, a3⟩ := ack_mtu 562949953421313 562949953421313 p false s
  refine ⟨a2.trans hb, a3, a1, ?_⟩
  have hr := h.r
  have hm := h.m
  have hz := h.z
  have e : sp 562949953421313 = 562949953421313 := by decide
  have na : ¬ aheadF 562949953421313 s := fun ha => by have := ha.2; rw [e] at this; omega
  have E : ackF 562949953421313 562949953421313 p false s = raiseF p (landF p (tickF 562949953421313 s)) := by
    unfold ackF
    rw [if_neg (by rintro (h | h); cases h; exact na h), szid hp]
  have E2 : raiseF p (landF p (tickF 562949953421313 s)) = { landF p (tickF 562949953421313 s) with size := (riseF s.mtu (s.rest + p) s.size).2, rest := (riseF s.mtu (s.rest + p) s.size).1 } := by
    unfold raiseF
    rw [if_neg (show ¬ (landF p (tickF 562949953421313 s)).size < (landF p (tickF 562949953421313 s)).thr from by show ¬ s.size < s.thr; omega)]
    rfl
  rw [E, E2]
  constructor
  · intro hpe
    have : riseF s.mtu (s.rest + p) s.size = (0, s.size + s.mtu) := by
      unfold riseF
      rw [show s.rest + p = s.size by omega]
      rw [upF_step _ _ _ (show (s.size, s.size).2 ≤ (s.size, s.size).1 from Int.le_refl _)]
      rw [upF_end _ _ _ (show s.size - s.size < s.size + s.mtu by omega)]
      show (s.size - s.size, s.size + s.mtu) = _
      rw [Int.sub_self]
    rw [this]
    exact ⟨rfl, rfl⟩
  · intro hpl
    have : riseF s.mtu (s.rest + p) s.size = (s.rest + p, s.size) := upF_end _ _ _ (show s.rest + p < s.size by omega)
    rw [this]
    exact ⟨rfl, rfl⟩

theorem avoids_walk (n : Int) (a0 : Option Addr) (len cap : Nat) (ol : List OpE) (a1 : Option Addr) (len1 cap1 : Nat) (xl : List Int) (w : World) (hn : i64B n) (h : IsOps w a0 len cap ol) (h1 : IsInts w a1 len1 cap1 xl) :
    Calls Try.prog 7 #[.int .i64 n, .slice a0 len cap, .slice a1 len1 cap1] w fun e w' => e = .returned (.bool true) ∧ w.grownBy w' none := by
  have sh := shown_any w
  have HO := hide h
  have HO1 := hide h1
  have hl := h.hlen
  have hcap := h.hcap
  have hl1 := h1.hlen
  have hcap1 := h1.hcap
  have lenI : ¬ (9223372036854775807 : Int) < (len : Int) := by omega
  have lenI1 : ¬ (9223372036854775807 : Int) < (len1 : Int) := by omega
  have CT := hide (fun (W : World) (g : w.grownBy W none) => qe_ctl g n hn)
  have MT := mtu_any n hn
  have E0 : Hid ((cs0 (mtuF n)).clock < 562949953421312 ∧ (cs0 (mtuF n)).mtu = mtuF n) := ⟨by show (0 : Int) < _; decide, rfl⟩
  obtain ⟨M1, M2⟩ := mtu_fits n
  have SZ := fun x => size_any x
  have TI := fun x => time_any x
  clear h h1
  generalize cs0 (mtuF n) = s0 at *
  generalize mtuF n = M at *
  go_enter Try.func7, Try.ntmps7
  go_wp2_with fail
  refine sh.mono ?_
  rintro e w1 ⟨rfl, g1⟩
  clear sh
  go_wp2_with fail
  refine (unhide CT w1 g1).mono ?_
  rintro e w2 ⟨b, -, rfl, q2, -⟩
  have S0 := hide (And.intro q2 (unhide E0))
  clear CT q2 g1 E0
  go_wp2_with fail
  go_loopw [9] (fun i wr => ∃ (k : Nat) (s : Cs), k ≤ len ∧ k ≤ 2000 ∧ i = .int .i64 k ∧ Hid (QE w wr b k s ∧ s.clock < 562949953421312 ∧ s.mtu = M)) (fun i _ => len - (intOf i).toNat)
  case atStart => exact ⟨0, _, Nat.zero_le _, Nat.zero_le _, rfl, S0⟩
  case round =>
    clear S0
    obtain ⟨k, s, hk, hk4, rfl, H⟩ := hrel
    by_cases hlt : k < len ∧ k < 2000
    · obtain ⟨bo, off, rfl, hcs⟩ := (unhide HO).cell.resolve_left (by omega)
      have hx' : ol[k]? = some ol[k] := List.getElem?_eq_getElem _
      have hcx := hcs k _ hx'
      generalize ol[k] = y at *
      have kn : (k : Int) < (len : Int) := by omega
      have k4 : (k : Int) < 2000 := by omega
      have HLT := hide hlt
      obtain ⟨q, hc, hM⟩ := unhide H
      have gr := q.grown
      have c0 : wr.cell? ⟨bo, off + k * 6, none⟩ = some (.int .i64 y.kind) := cell_grown (hcx 0 _ rfl) gr
      have c1 : wr.cell? ⟨bo, off + k * 6 + 1, none⟩ = some (.int .i64 y.h) := cell_grown (hcx 1 _ rfl) gr
      have c2 : wr.cell? ⟨bo, off + k * 6 + 2, none⟩ = some (.int .i64 y.now) := cell_grown (hcx 2 _ rfl) gr
      have c3 : wr.cell? ⟨bo, off + k * 6 + 3, none⟩ = some (.int .i64 y.sent) := cell_grown (hcx 3 _ rfl) gr
      have c4 : wr.cell? ⟨bo, off + k * 6 + 4, none⟩ = some (.int .i64 y.size) := cell_grown (hcx 4 _ rfl) gr
      have c5 : wr.cell? ⟨bo, off + k * 6 + 5, none⟩ = some (.bool y.lim) := cell_grown (hcx 5 _ rfl) gr
      obtain ⟨t1, t2⟩ := sp_b y.now
      obtain ⟨t3, t4⟩ := sp_b y.sent
      have q' := q.keep (World.grownBy_alloc wr (.cells #[.int .i64 y.kind, .int .i64 y.h, .int .i64 (sp y.now % 562949953421312), .int .i64 (sp y.sent % 562949953421312), .int .i64 y.size, .bool y.lim] 39) none)
      have DO := qe_does q' (by omega) ⟨y.kind, y.h, sp y.now % 562949953421312, sp y.sent % 562949953421312, y.size, y.lim⟩
      have NC : (doesF ⟨y.kind, y.h, sp y.now % 562949953421312, sp y.sent % 562949953421312, y.size, y.lim⟩ s).clock < 562949953421312 ∧ (doesF ⟨y.kind, y.h, sp y.now % 562949953421312, sp y.sent % 562949953421312, y.size, y.lim⟩ s).mtu = M := by
        refine ⟨?_, (does_mtu _ _).trans hM⟩
        rcases does_clock ⟨y.kind, y.h, sp y.now % 562949953421312, sp y.sent % 562949953421312, y.size, y.lim⟩ s with e | e
        · omega
        · rw [e]
          show max s.clock (sp (sp y.now % 562949953421312)) < _
          rw [sp_id (by omega)]
          omega
      clear hcs hcx hx' hlt hk H gr q q' hc hM
      unfold opc at DO
      dsimp only at DO
      go_wp2_with fail
      refine (TI y.now _).mono ?_
      rintro e W2 ⟨rfl, hW⟩
      replace hW := hW.symm
      subst hW
      go_wp2_with fail
      refine (TI y.sent _).mono ?_
      rintro e W2 ⟨rfl, hW⟩
      replace hW := hW.symm
      subst hW
      go_wp2_with fail
      refine DO.mono ?_
      rintro e W3 ⟨rfl, p3, -⟩
      have R := hide (And.intro p3 NC)
      clear DO p3 NC c0 c1 c2 c3 c4 c5
      go_wp2_with fail
      go_roundw
      case rel => exact ⟨k + 1, _, (unhide HLT).1, (unhide HLT).2, by go_num, R⟩
      case measure => have := unhide HLT; simp [intOf]; omega
    · have alt : (¬ (k : Int) < (len : Int)) ∨ ((k : Int) < (len : Int) ∧ ¬ (k : Int) < 2000) := by omega
      have EV := qe_event (unhide H).1 (by omega) 562949953421312 562949953421312
      obtain ⟨LE, LT, LR⟩ := event_avoid (unhide H).1.ok (unhide H).2.1
      have LM : (eventF 562949953421312 562949953421312 s).mtu = M := (event_mtu _ _ _).1.trans (unhide H).2.2
      clear H hlt
      generalize eventF 562949953421312 562949953421312 s = s1 at *
      generalize (!aheadB 562949953421312 s) = B at *
      rcases alt with e1 | ⟨e1, e2⟩
      all_goals as_aux_lemma =>
        go_wp2_with fail
        refine EV.mono ?_
        rintro e W4 ⟨rfl, p4, -⟩
        clear EV
        have V4 := qe_view p4
        obtain ⟨T, hT⟩ : ∃ A, s1.thr = A := ⟨_, rfl⟩
        obtain ⟨F, hF⟩ : ∃ A, s1.flight = A := ⟨_, rfl⟩
        have vE : vwc s1 = #[.int .i64 s1.size, .int .i64 T, .int .i64 F, .int .i64 562949953421312] := by unfold vwc; rw [hT, hF, LE]
        rw [vE] at V4
        clear vE hF
        go_wp2_with fail
        refine V4.mono ?_
        rintro e W5 ⟨rfl, p5, -⟩
        clear V4 p4
        have p6 := p5.keep (World.grownBy_alloc W5 (.cells #[.int .i64 s1.size, .int .i64 T, .int .i64 F, .int .i64 562949953421312] 32) none)
        have B6 := Blk.new W5 #[.int .i64 s1.size, .int .i64 T, .int .i64 F, .int .i64 562949953421312] 32
        have vlt : W5.heap.size ≠ b := by have := p5.at_.lt; omega
        obtain ⟨A0, hA⟩ : ∃ A, s1.size = A := ⟨_, rfl⟩
        have SR : Hid (A0 = s1.size - s1.rest) := by show A0 = _; omega
        have S1 : Hid (QE w (W5.alloc (.cells #[.int .i64 A0, .int .i64 T, .int .i64 F, .int .i64 562949953421312] 32)) b (2000 + 0) s1 ∧ (s1.began = 562949953421312 ∧ s1.thr = T ∧ T ≤ s1.size ∧ s1.mtu = M) ∧ Blk (W5.alloc (.cells #[.int .i64 A0, .int .i64 T, .int .i64 F, .int .i64 562949953421312] 32)) W5.heap.size #[.int .i64 A0, .int .i64 T, .int .i64 F, .int .i64 562949953421312] 32 ∧ W5.heap.size ≠ b) := by
          rw [← hA]
          exact ⟨p6.up (show k ≤ 2000 from hk4), ⟨LE, hT, by omega, LM⟩, B6, vlt⟩
        have HA := hide hA
        rw [hA]
        clear p5 p6 B6 vlt hT LE LT LR LM hA
        go_wp2_with fail
        generalize W5.heap.size = g at *
        generalize W5.alloc _ = W6 at *
        go_loopw [12, 13, 14] (fun a l i wr => ∃ (j : Nat) (s : Cs), j ≤ len1 ∧ j ≤ 4000 ∧ a = .int .i64 s.size ∧ l = .int .i64 (s.size - s.rest) ∧ i = .int .i64 j ∧ Hid (QE w wr b (2000 + j) s ∧ (s.began = 562949953421312 ∧ s.thr = T ∧ T ≤ s.size ∧ s.mtu = M) ∧ Blk wr g #[.int .i64 A0, .int .i64 T, .int .i64 F, .int .i64 562949953421312] 32 ∧ g ≠ b)) (fun _ _ i _ => len1 - (intOf i).toNat)
        case atStart => exact ⟨0, _, Nat.zero_le _, Nat.zero_le _, by rw [unhide HA], by rw [← unhide SR], rfl, S1⟩
        case round =>
          clear S1 HA SR
          obtain ⟨j, s, hj, hj4, rfl, rfl, rfl, H⟩ := hrel
          by_cases hlt : j < len1 ∧ j < 4000
          · obtain ⟨bo, off, rfl, hcs⟩ := (unhide HO1).cell.resolve_left (by omega)
            have hx' : xl[j]? = some xl[j] := List.getElem?_eq_getElem _
            have hcx := hcs j _ hx'
            generalize xl[j] = x at *
            have kn : (j : Int) < (len1 : Int) := by omega
            have k4 : (j : Int) < 4000 := by omega
            have HLT := hide hlt
            obtain ⟨q, ⟨hb, ht, hts, hM⟩, bl, ne⟩ := unhide H
            obtain ⟨ok1, ok2⟩ := q.ok.z
            obtain ⟨or1, or2⟩ := q.ok.r
            have c0 := cell_grown hcx q.grown
            obtain ⟨z1, z2⟩ := szb x
            have AV := hide (fun p hp => ack_avoid q.ok hb (by omega) p hp)
            have AK := hide (fun p => qe_acked q (by omega) 562949953421313 562949953421313 p false)
            clear hcs hcx hx' hlt hj H hb q
            go_wp2_with fail
            refine (SZ x _).mono ?_
            rintro e W2 ⟨rfl, hW⟩
            replace hW := hW.symm
            subst hW
            generalize szz x = z at *
            by_cases hmin : z < s.size - s.rest
            · as_aux_lemma =>
              obtain ⟨y1, y2, y3, -, y4⟩ := unhide AV z ⟨z1, z2⟩
              obtain ⟨y4, y5⟩ := y4 hmin
              have AK1 := unhide AK z
              have nz : ¬ s.size - s.rest - z = 0 := by omega
              generalize ackF 562949953421313 562949953421313 z false s = s3 at *
              have y6 : s3.size - s3.rest = s.size - s.rest - z := by omega
              have PS := hide (And.intro (And.intro y1 (And.intro (y2.trans ht) (And.intro (show T ≤ s3.size by omega) (y3.trans hM)))) (And.intro y4 y6))
              clear AK AV y1 y2 y3 y5 y6
              go_wp2_with fail
              refine AK1.mono ?_
              rintro e W3 ⟨rfl, p3, g3⟩
              have b3 := bl.far g3 ne
              clear AK1 bl g3 c0
              have V3 := qe_view p3
              obtain ⟨F2, hF2⟩ : ∃ A, s3.flight = A := ⟨_, rfl⟩
              rw [show vwc s3 = #[.int .i64 s.size, .int .i64 T, .int .i64 F2, .int .i64 562949953421312] by unfold vwc; rw [(unhide PS).2.1, (unhide PS).1.2.1, hF2, (unhide PS).1.1]] at V3
              clear hF2 p3
              go_wp2_with fail
              refine V3.mono ?_
              rintro e W4 ⟨rfl, p4, g4⟩
              have g5 := g4.trans (World.grownBy_alloc W4 (.cells #[.int .i64 s.size, .int .i64 T, .int .i64 F2, .int .i64 562949953421312] 32) none)
              have p5 := p4.keep (World.grownBy_alloc W4 (.cells #[.int .i64 s.size, .int .i64 T, .int .i64 F2, .int .i64 562949953421312] 32) none)
              have b5 := b3.grown g5
              have v1 := b5.cell 1 _ rfl
              have R := hide (And.intro p5 (And.intro (unhide PS).1 (And.intro b5 ne)))
              have R1 := hide (unhide PS).2
              clear V3 p4 p5 g4 g5 b3 b5 PS y4
              go_wp2_with fail
              go_roundw
              case rel => exact ⟨j + 1, s3, (unhide HLT).1, (unhide HLT).2, by rw [(unhide R1).1], by rw [(unhide R1).2], by go_num, R⟩
              case measure => have := unhide HLT; simp [intOf]; omega
            · by_cases heq : z = s.size - s.rest
              · as_aux_lemma =>
                subst heq
                obtain ⟨y1, y2, y3, y4, -⟩ := unhide AV (s.size - s.rest) (by omega)
                obtain ⟨y4, y5⟩ := y4 rfl
                have AK1 := unhide AK (s.size - s.rest)
                generalize ackF 562949953421313 562949953421313 (s.size - s.rest) false s = s3 at *
                rw [hM] at y4
                have y6 : s3.size - s3.rest = s.size + M := by omega
                have PS := hide (And.intro (And.intro y1 (And.intro (y2.trans ht) (And.intro (show T ≤ s3.size by omega) (y3.trans hM)))) (And.intro y4 y6))
                clear AK AV y1 y2 y3 y5 y6
                go_wp2_with fail
                refine AK1.mono ?_
                rintro e W3 ⟨rfl, p3, g3⟩
                have b3 := bl.far g3 ne
                clear AK1 bl g3 c0
                have V3 := qe_view p3
                obtain ⟨F2, hF2⟩ : ∃ A, s3.flight = A := ⟨_, rfl⟩
                rw [show vwc s3 = #[.int .i64 (s.size + M), .int .i64 T, .int .i64 F2, .int .i64 562949953421312] by unfold vwc; rw [(unhide PS).2.1, (unhide PS).1.2.1, hF2, (unhide PS).1.1]] at V3
                clear hF2 p3
                go_wp2_with fail
                refine (MT _).mono ?_
                rintro e W9 ⟨rfl, hW⟩
                replace hW := hW.symm
                subst hW
                go_wp2_with fail
                refine V3.mono ?_
                rintro e W4 ⟨rfl, p4, g4⟩
                have g5 := g4.trans (World.grownBy_alloc W4 (.cells #[.int .i64 (s.size + M), .int .i64 T, .int .i64 F2, .int .i64 562949953421312] 32) none)
                have p5 := p4.keep (World.grownBy_alloc W4 (.cells #[.int .i64 (s.size + M), .int .i64 T, .int .i64 F2, .int .i64 562949953421312] 32) none)
                have b5 := b3.grown g5
                have v1 := b5.cell 1 _ rfl
                have R := hide (And.intro p5 (And.intro (unhide PS).1 (And.intro b5 ne)))
                have R1 := hide (unhide PS).2
                clear V3 p4 p5 g4 g5 b3 b5 PS y4
                go_wp2_with fail
                go_roundw
                case rel => exact ⟨j + 1, s3, (unhide HLT).1, (unhide HLT).2, by rw [(unhide R1).1], by rw [(unhide R1).2], by go_num, R⟩
                case measure => have := unhide HLT; simp [intOf]; omega
              · as_aux_lemma =>
                obtain ⟨y1, y2, y3, y4, -⟩ := unhide AV (s.size - s.rest) (by omega)
                obtain ⟨y4, y5⟩ := y4 rfl
                have AK1 := unhide AK (s.size - s.rest)
                generalize ackF 562949953421313 562949953421313 (s.size - s.rest) false s = s3 at *
                rw [hM] at y4
                have y6 : s3.size - s3.rest = s.size + M := by omega
                have PS := hide (And.intro (And.intro y1 (And.intro (y2.trans ht) (And.intro (show T ≤ s3.size by omega) (y3.trans hM)))) (And.intro y4 y6))
                have nl : s.size - s.rest < z := by omega
                clear AK AV y1 y2 y3 y5 y6
                go_wp2_with fail
                refine AK1.mono ?_
                rintro e W3 ⟨rfl, p3, g3⟩
                have b3 := bl.far g3 ne
                clear AK1 bl g3 c0
                have V3 := qe_view p3
                obtain ⟨F2, hF2⟩ : ∃ A, s3.flight = A := ⟨_, rfl⟩
                rw [show vwc s3 = #[.int .i64 (s.size + M), .int .i64 T, .int .i64 F2, .int .i64 562949953421312] by unfold vwc; rw [(unhide PS).2.1, (unhide PS).1.2.1, hF2, (unhide PS).1.1]] at V3
                clear hF2 p3
                go_wp2_with fail
                refine (MT _).mono ?_
                rintro e W9 ⟨rfl, hW⟩
                replace hW := hW.symm
                subst hW
                go_wp2_with fail
                refine V3.mono ?_
                rintro e W4 ⟨rfl, p4, g4⟩
                have g5 := g4.trans (World.grownBy_alloc W4 (.cells #[.int .i64 (s.size + M), .int .i64 T, .int .i64 F2, .int .i64 562949953421312] 32) none)
                have p5 := p4.keep (World.grownBy_alloc W4 (.cells #[.int .i64 (s.size + M), .int .i64 T, .int .i64 F2, .int .i64 562949953421312] 32) none)
                have b5 := b3.grown g5
                have v1 := b5.cell 1 _ rfl
                have R := hide (And.intro p5 (And.intro (unhide PS).1 (And.intro b5 ne)))
                have R1 := hide (unhide PS).2
                clear V3 p4 p5 g4 g5 b3 b5 PS y4
                go_wp2_with fail
                go_roundw
                case rel => exact ⟨j + 1, s3, (unhide HLT).1, (unhide HLT).2, by rw [(unhide R1).1], by rw [(unhide R1).2], by go_num, R⟩
                case measure => have := unhide HLT; simp [intOf]; omega
          · have alt : (¬ (j : Int) < (len1 : Int)) ∨ ((j : Int) < (len1 : Int) ∧ ¬ (j : Int) < 4000) := by omega
            have EN := hide (unhide H).1.grown
            clear H hlt
            rcases alt with e1 | ⟨e1, e2⟩
            all_goals
              go_wp2_with fail
              go_ret
              exact ⟨rfl, unhide EN⟩
end Go.Proofs.Ytgmnlhbfhdgidaa
