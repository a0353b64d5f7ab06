/- CubicStarts. -/
import Derived.Test.YthpnbajhogoinaaIT
namespace Go.Proofs.Ythpnbajhogoinaa
open Go.RowKit Fl
set_option linter.unusedVariables false
set_option maxRecDepth 100000
set_option maxHeartbeats 4000000

theorem Try.isz2 : (Try.prog.info? 2).map (·.size) = some 1 := by kernel_rfl
theorem fld0 (v1 v2 v3 : Value) (n : Int) (W : World) : (Instr.field 33 (.agg #[.int .i64 n, v1, v2, v3]) 0).run Try.prog W = .ok (.int .i64 n) W := by
  unfold Instr.field
  simp [asAgg, part]
theorem ack_start {s : Cs} (hb : s.began = -1) (hl : s.size < s.thr) (now sent z : Int) : (ackF now sent z false s).size = s.size + szz z ∧ (ackF now sent z false s).thr = s.thr ∧ (ackF now sent z false s).began = -1 := by
  have na : ¬ aheadF sent s := fun h => by have := h.1; omega
  unfold ackF
  rw [if_neg (by rintro (h | h); cases h; exact na h)]
  unfold raiseF
  rw [if_pos (show (landF z (tickF now s)).size < (landF z (tickF now s)).thr from hl)]
  exact ⟨rfl, rfl, hb⟩

theorem starts_walk (n : Int) (a0 : Option Addr) (len cap : Nat) (xl : List Int) (w : World) (hn : i64B n) (h : IsInts w a0 len cap xl) :
    Calls Try.prog 6 #[.int .i64 n, .slice a0 len cap] w fun e w' => e = .returned (.bool true) ∧ w.grownBy w' none := by
  have sh := shown_any w
  have HO := hide h
  have hl := h.hlen
  have hcap := h.hcap
  have lenI : ¬ (9223372036854775807 : Int) < (len : Int) := by omega
  have CT := hide (fun (W : World) (g : w.grownBy W none) => qe_ctl g n hn)
  have E0 : (cs0 (mtuF n)).thr = 4611686018427387903 ∧ (cs0 (mtuF n)).began = -1 := ⟨rfl, rfl⟩
  have SZ := fun x => size_any x
  have fl := fun v1 v2 v3 n W => fld0 v1 v2 v3 n W
  clear h
  generalize cs0 (mtuF n) = s0 at *
  go_enter Try.func6, Try.ntmps6
  go_wp2_with fail
  refine sh.mono ?_
  rintro e w1 ⟨rfl, g1⟩
  clear sh
  go_wp2_with fail
  refine (unhide CT w1 g1).mono ?_
  rintro e w2 ⟨b, -, rfl, q2, -⟩
  clear CT g1
  have V := qe_view q2
  unfold vwc at V
  go_wp2_with fail
  refine V.mono ?_
  rintro e w3 ⟨rfl, q3, -⟩
  have S0 := hide (And.intro q3 E0)
  clear V q2 q3 E0
  go_wp2_with fail
  go_loopw [7, 8] (fun v i wr => ∃ (k : Nat) (s : Cs), k ≤ len ∧ k ≤ 4000 ∧ v = .int .i64 s.size ∧ i = .int .i64 k ∧ Hid (QE w wr b k s ∧ s.thr = 4611686018427387903 ∧ s.began = -1)) (fun _ i _ => len - (intOf i).toNat)
  case atStart => exact ⟨0, _, Nat.zero_le _, Nat.zero_le _, rfl, rfl, S0⟩
  case round =>
    clear S0
    obtain ⟨k, s, hk, hk4, rfl, rfl, H⟩ := hrel
    by_cases hlt : k < len ∧ k < 4000
    · obtain ⟨bo, off, rfl, hcs⟩ := (unhide HO).cell.resolve_left (by omega)
      have hx' : xl[k]? = some xl[k] := List.getElem?_eq_getElem _
      have hcx := hcs k _ hx'
      generalize xl[k] = x at *
      have kn : (k : Int) < (len : Int) := by omega
      have k4 : (k : Int) < 4000 := by omega
      have HLT := hide hlt
      obtain ⟨q, ht, hb⟩ := unhide H
      have okz := q.ok.z.2
      have okm := q.ok.m.1
      have ok1 := q.ok.z.1
      have c0 := cell_grown hcx q.grown
      have CC : Hid (∀ X : World, w.grownBy X none → X.cell? ⟨bo, off + k, none⟩ = some (.int .i64 x)) := fun X hX => cell_grown hcx hX
      have AK := qe_acked q (by omega) k k x false
      obtain ⟨y1, y2, y3⟩ := ack_start hb (by omega) k k x
      rw [ht] at y2
      clear hcs hcx hx' hlt hk H q ht hb
      generalize ackF k k x false s = s1 at *
      go_wp2_with fail
      refine AK.mono ?_
      rintro e W1 ⟨rfl, p1, -⟩
      clear AK c0
      have c0 := unhide CC _ p1.grown
      go_wp2_with fail
      refine (SZ x _).mono ?_
      rintro e W2 ⟨rfl, hW⟩
      replace hW := hW.symm
      subst hW
      have V := qe_view p1
      unfold vwc at V
      rw [y1] at V
      obtain ⟨z1, z2⟩ := szb x
      have PS := hide (And.intro y1 (And.intro y2 y3))
      clear p1 c0 y1 y2 y3 CC
      generalize szz x = z at *
      go_wp2_with fail
      refine V.mono ?_
      rintro e W3 ⟨rfl, p3, -⟩
      have R := hide (And.intro p3 (unhide PS).2)
      have R1 := hide (unhide PS).1
      clear V p3 PS
      go_wp2_with fail
      exact ⟨⟨k + 1, s1, (unhide HLT).1, (unhide HLT).2, by rw [unhide R1], by go_num, R⟩, by have := unhide HLT; simp [intOf]; omega⟩
    · have alt : (¬ (k : Int) < (len : Int)) ∨ ((k : Int) < (len : Int) ∧ ¬ (k : Int) < 4000) := by omega
      have EV := qe_event (unhide H).1 (by omega) 5000 5000
      clear H hlt
      generalize eventF 5000 5000 s = s1 at *
      generalize (!aheadB 5000 s) = B at *
      rcases alt with e1 | ⟨e1, e2⟩
      all_goals as_aux_lemma =>
        go_wp2_with fail
        refine EV.mono ?_
        rintro e W4 ⟨rfl, p4, -⟩
        clear EV
        have V4 := qe_view p4
        obtain ⟨T, hT⟩ : ∃ A, s1.thr = A := ⟨_, rfl⟩
        have vE : vwc s1 = #[.int .i64 s1.size, .int .i64 T, .int .i64 s1.flight, .int .i64 s1.began] := by unfold vwc; rw [hT]
        rw [vE] at V4
        clear vE
        go_wp2_with fail
        refine V4.mono ?_
        rintro e W5 ⟨rfl, p5, -⟩
        clear V4 p4
        have p6 := p5.keep (World.grownBy_alloc W5 (.cells #[.int .i64 s1.size, .int .i64 T, .int .i64 s1.flight, .int .i64 s1.began] 33) none)
        have B6 := Blk.new W5 #[.int .i64 s1.size, .int .i64 T, .int .i64 s1.flight, .int .i64 s1.began] 33
        have vlt : W5.heap.size ≠ b := by have := p5.at_.lt; omega
        have CO := qe_coll p6
        have cb : (collF s1).began = -1 ∧ (collF s1).thr = T := ⟨rfl, hT⟩
        clear p5 p6 hT
        go_wp2_with fail
        generalize W5.heap.size = g at *
        generalize W5.alloc _ = W6 at *
        refine CO.mono ?_
        rintro e W7 ⟨rfl, p7, g7⟩
        have B7 := B6.far g7 vlt
        clear CO B6 g7
        generalize collF s1 = s2 at *
        generalize s1.size = A1 at *
        generalize s1.flight = F1 at *
        generalize s1.began = G1 at *
        have V := qe_view p7
        unfold vwc at V
        go_wp2_with fail
        refine V.mono ?_
        rintro e W8 ⟨rfl, p8, g8⟩
        have S1 := hide (And.intro (p8.up (show k ≤ 4000 from hk4)) (And.intro (And.intro cb.2 cb.1) (And.intro (B7.grown g8) vlt)))
        clear V p7 p8 g8 B7 cb vlt
        go_wp2_with fail
        go_loopw [7, 10] (fun v i wr => ∃ (j : Nat) (s : Cs), j ≤ len ∧ j ≤ 4000 ∧ v = .int .i64 s.size ∧ i = .int .i64 j ∧ Hid (QE w wr b (4000 + j) s ∧ (s.thr = T ∧ s.began = -1) ∧ Blk wr g #[.int .i64 A1, .int .i64 T, .int .i64 F1, .int .i64 G1] 33 ∧ g ≠ b)) (fun _ i _ => len - (intOf i).toNat)
        case atStart => exact ⟨0, _, Nat.zero_le _, Nat.zero_le _, rfl, rfl, S1⟩
        case round =>
          clear S1
          obtain ⟨j, s, hj, hj4, rfl, rfl, H⟩ := hrel
          by_cases hlt : j < len ∧ j < 4000
          · obtain ⟨bo, off, rfl, hcs⟩ := (unhide HO).cell.resolve_left (by omega)
            have hx' : xl[j]? = some xl[j] := List.getElem?_eq_getElem _
            have hcx := hcs j _ hx'
            generalize xl[j] = x at *
            have kn : (j : Int) < (len : Int) := by omega
            have k4 : (j : Int) < 4000 := by omega
            have HLT := hide hlt
            obtain ⟨q, ⟨ht, hb⟩, bl, ne⟩ := unhide H
            have v1 := bl.cell 1 _ rfl
            by_cases hT : T ≤ s.size
            · have EN := hide q.grown
              clear hcs hcx hx' hlt hj H q ht hb bl ne
              go_wp2_with fail
              go_ret
              exact ⟨rfl, unhide EN⟩
            · have okz := q.ok.z.2
              have okm := q.ok.m.1
              have ok1 := q.ok.z.1
              have c0 := cell_grown hcx q.grown
              have CC : Hid (∀ X : World, w.grownBy X none → X.cell? ⟨bo, off + j, none⟩ = some (.int .i64 x)) := fun X hX => cell_grown hcx hX
              have AK := qe_acked q (by omega) 6000 0 x false
              obtain ⟨y1, y2, y3⟩ := ack_start hb (by omega) 6000 0 x
              rw [ht] at y2
              clear hcs hcx hx' hlt hj H q ht hb
              generalize ackF 6000 0 x false s = s3 at *
              go_wp2_with fail
              refine AK.mono ?_
              rintro e W1 ⟨rfl, p1, g1⟩
              have b1 := bl.far g1 ne
              clear AK c0 v1 bl g1
              have c0 := unhide CC _ p1.grown
              go_wp2_with fail
              refine (SZ x _).mono ?_
              rintro e W2 ⟨rfl, hW⟩
              replace hW := hW.symm
              subst hW
              have V := qe_view p1
              unfold vwc at V
              rw [y1] at V
              obtain ⟨z1, z2⟩ := szb x
              have PS := hide (And.intro y1 (And.intro y2 y3))
              clear p1 c0 y1 y2 y3 CC
              generalize szz x = z at *
              go_wp2_with fail
              refine V.mono ?_
              rintro e W3 ⟨rfl, p3, g3⟩
              have R := hide (And.intro p3 (And.intro (unhide PS).2 (And.intro (b1.grown g3) ne)))
              have R1 := hide (unhide PS).1
              clear V p3 PS b1 g3
              go_wp2_with fail
              exact ⟨⟨j + 1, s3, (unhide HLT).1, (unhide HLT).2, by rw [unhide R1], by go_num, R⟩, by have := unhide HLT; simp [intOf]; omega⟩
          · have alt : (¬ (j : Int) < (len : Int)) ∨ ((j : Int) < (len : Int) ∧ ¬ (j : Int) < 4000) := by omega
            have EN := hide (unhide H).1.grown
            clear H hlt
            rcases alt with e1 | ⟨e1, e2⟩
            all_goals
              go_wp2_with fail
              go_ret
              exact ⟨rfl, unhide EN⟩
end Go.Proofs.Ythpnbajhogoinaa
