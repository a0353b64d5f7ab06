/- CubicFalls. -/
import Derived.Test.YthpnbajhogoinaaIT
namespace Go.Proofs.Ythpnbajhogoinaa
open Go.RowKit Fl
set_option linter.unusedVariables false
set_option maxRecDepth 100000
set_option maxHeartbeats 4000000

theorem Blk.fours {W : World} {g : Nat} {t : TypeId} {v0 v1 v2 v3 : Value} (h : Blk W g #[v0, v1, v2, v3] t) : W.cell? ⟨g, 0, none⟩ = some v0 ∧ W.cell? ⟨g, 1, none⟩ = some v1 ∧ W.cell? ⟨g, 2, none⟩ = some v2 ∧ W.cell? ⟨g, 3, none⟩ = some v3 := ⟨h.cell 0 _ rfl, h.cell 1 _ rfl, h.cell 2 _ rfl, h.cell 3 _ rfl⟩

theorem falls_walk (n : Int) (a0 : Option Addr) (len cap : Nat) (ol : List OpE) (w : World) (hn : i64B n) (h : IsOps w a0 len cap ol) :
    Calls Try.prog 4 #[.int .i64 n, .slice a0 len cap] w fun e w' => e = .returned (.bool true) ∧ w.grownBy w' none := by
  have sh := shown_any w
  have HO := hide h
  have hl := h.hlen
  have hcap := h.hcap
  have lenI : ¬ (9223372036854775807 : Int) < (len : Int) := by omega
  have CT := hide (fun (W : World) (g : w.grownBy W none) => qe_ctl g n hn)
  have MT := mtu_any n hn
  have SZ := fun x => size_any x
  obtain ⟨M1, M2⟩ := mtu_fits n
  have CM : Hid ((cs0 (mtuF n)).mtu = mtuF n) := rfl
  clear h
  generalize cs0 (mtuF n) = s0 at *
  generalize mtuF n = M at *
  go_enter Try.func4, Try.ntmps4
  go_wp2_with fail
  refine sh.mono ?_
  rintro e w1 ⟨rfl, g1⟩
  clear sh
  go_wp2_with fail
  refine (unhide CT w1 g1).mono ?_
  rintro e w2 ⟨b, -, rfl, q2, -⟩
  have S0 := hide (And.intro q2 (unhide CM))
  clear CT CM q2 g1
  go_wp2_with fail
  refine (MT _).mono ?_
  rintro e w3 ⟨rfl, hw3⟩
  replace hw3 := hw3.symm
  subst hw3
  clear MT
  go_wp2_with fail
  go_loopw [8] (fun i wr => ∃ (k : Nat) (s : Cs), k ≤ len ∧ k ≤ 4000 ∧ i = .int .i64 k ∧ Hid (QE w wr b k s ∧ s.mtu = M)) (fun i _ => len - (intOf i).toNat)
  case atStart => exact ⟨0, _, Nat.zero_le _, Nat.zero_le _, rfl, S0⟩
  case round =>
    clear S0
    obtain ⟨k, s, hk, hk4, rfl, H⟩ := hrel
    by_cases hlt : k < len ∧ k < 4000
    · obtain ⟨bo, off, rfl, hcs⟩ := (unhide HO).cell.resolve_left (by omega)
      have hx' : ol[k]? = some ol[k] := List.getElem?_eq_getElem _
      have hcx := hcs k _ hx'
      generalize ol[k] = y at *
      have kn : (k : Int) < (len : Int) := by omega
      have k4 : (k : Int) < 4000 := by omega
      have HLT := hide hlt
      have CC : Hid (∀ X : World, w.grownBy X none → X.cell? ⟨bo, off + k * 6, none⟩ = some (.int .i64 y.kind) ∧ X.cell? ⟨bo, off + k * 6 + 1, none⟩ = some (.int .i64 y.h) ∧ X.cell? ⟨bo, off + k * 6 + 2, none⟩ = some (.int .i64 y.now) ∧ X.cell? ⟨bo, off + k * 6 + 3, none⟩ = some (.int .i64 y.sent) ∧ X.cell? ⟨bo, off + k * 6 + 4, none⟩ = some (.int .i64 y.size) ∧ X.cell? ⟨bo, off + k * 6 + 5, none⟩ = some (.bool y.lim)) := fun X hX => ⟨cell_grown (hcx 0 _ rfl) hX, cell_grown (hcx 1 _ rfl) hX, cell_grown (hcx 2 _ rfl) hX, cell_grown (hcx 3 _ rfl) hX, cell_grown (hcx 4 _ rfl) hX, cell_grown (hcx 5 _ rfl) hX⟩
      clear hcs hcx hx' hlt hk
      have V1 := qe_view (unhide H).1
      go_wp2_with fail
      refine V1.mono ?_
      rintro e W1 ⟨rfl, p1, -⟩
      clear V1
      have p2 := p1.keep (World.grownBy_alloc W1 (.cells (vwc s) 33) none)
      have B2 := Blk.new W1 (vwc s) 33
      have vlt : W1.heap.size ≠ b := by have := p1.at_.lt; omega
      obtain ⟨c0, c1, c2, c3, c4, c5⟩ := unhide CC _ p2.grown
      have DO := qe_does p2 (by omega) y
      have ALT := hide (does_alt p2.ok (by omega) y)
      have FIN := hide (does_ok p2.ok (by omega) y)
      have MM := hide (does_mtu y s)
      have DM := hide (unhide H).2
      have oA1 : 2 * M ≤ s.size := by have := p2.ok.z.1; have := (unhide H).2; omega
      have oA2 : s.size ≤ 300000000 := by have := p2.ok.z.2; omega
      clear p1 p2 H
      unfold vwc opc at *
      go_wp2_with fail
      generalize W1.heap.size = g at *
      refine DO.mono ?_
      rintro e W3 ⟨rfl, p3, g3⟩
      have B3 := Blk.far B2 g3 vlt
      clear DO B2 g3 c0 c1 c2 c3 c4 c5
      have V3 := qe_view p3
      go_wp2_with fail
      refine V3.mono ?_
      rintro e W4 ⟨rfl, p4, g4⟩
      have g5 := g4.trans (World.grownBy_alloc W4 (.cells (vwc (doesF y s)) 33) none)
      have p5 := p4.keep (World.grownBy_alloc W4 (.cells (vwc (doesF y s)) 33) none)
      obtain ⟨v0, v1, v2, v3⟩ := (B3.grown g5).fours
      obtain ⟨c0, c1, c2, c3, c4, c5⟩ := unhide CC _ p5.grown
      obtain ⟨u0, u1, u2, u3⟩ := (Blk.new W4 (vwc (doesF y s)) 33).fours
      have okz := (unhide FIN).z
      have okf := (unhide FIN).f.1
      rw [unhide MM, unhide DM] at okz
      have n1 : ¬ (doesF y s).size < 2 * M := by omega
      have n2 : ¬ (doesF y s).flight < 0 := by omega
      have R := hide (And.intro p5 ((unhide MM).trans (unhide DM)))
      have ALT' := unhide ALT
      rw [unhide DM] at ALT'
      clear V3 B3 p3 p4 p5 g4 g5 CC FIN MM okz okf ALT DM
      obtain ⟨SZ1, SZ2⟩ := szb y.size
      unfold vwc at *
      generalize doesF y s = s' at *
      generalize s'.size = A' at *
      generalize s'.thr = T' at *
      generalize s'.flight = F' at *
      have oB2 : s.size ≤ 300000000 := oA2
      generalize s.size = A at *
      generalize s.thr = TT at *
      generalize s.flight = F at *
      generalize didF y s = ct at *
      rcases ALT' with ⟨rfl, rfl, rfl, ⟨a1, rfl, a2⟩ | ⟨a1, rfl, a2⟩ | ⟨a1, rfl, a2⟩⟩ | ⟨rfl, ⟨a1, a2, a3⟩ | ⟨a1, a2, a3, a4⟩ | ⟨a1, a2, a4⟩ | ⟨a1, a2, a4, a5, a6, a7, a8⟩ | ⟨a1, a2, a4, a5, a6, a7, a8⟩⟩
      · as_aux_lemma =>
        have w7 : IntKind.i64.wrap (7 * A) = 7 * A := by rw [IntKind.wrap_i64]; omega
        have a3 : ¬ A < 2 * M := by omega
        go_wp2_with fail
        go_roundw
        case rel => exact ⟨k + 1, _, (unhide HLT).1, (unhide HLT).2, by go_num, R⟩
        case measure => have := unhide HLT; simp [intOf]; omega
      · as_aux_lemma =>
        have w7 : IntKind.i64.wrap (7 * A) = 7 * A := by rw [IntKind.wrap_i64]; omega
        have nlt : ¬ 2 * M < A := by omega
        have a3 : ¬ A < 2 * M := by omega
        clear a2
        go_wp2_with fail
        go_roundw
        case rel => exact ⟨k + 1, _, (unhide HLT).1, (unhide HLT).2, by go_num, R⟩
        case measure => have := unhide HLT; simp [intOf]; omega
      · as_aux_lemma =>
        have w7 : IntKind.i64.wrap (7 * A) = 7 * A := by rw [IntKind.wrap_i64]; omega
        have a3 : ¬ A < 7 * A / 10 := by omega
        go_wp2_with fail
        go_roundw
        case rel => exact ⟨k + 1, _, (unhide HLT).1, (unhide HLT).2, by go_num, R⟩
        case measure => have := unhide HLT; simp [intOf]; omega
      · as_aux_lemma =>
        rw [a2] at c0
        have a4 : ¬ A < A' := by omega
        go_wp2_with fail
        go_roundw
        case rel => exact ⟨k + 1, _, (unhide HLT).1, (unhide HLT).2, by go_num, R⟩
        case measure => have := unhide HLT; simp [intOf]; omega
      · as_aux_lemma =>
        rw [a3] at c0
        go_wp2_with fail
        go_roundw
        case rel => exact ⟨k + 1, _, (unhide HLT).1, (unhide HLT).2, by go_num, R⟩
        case measure => have := unhide HLT; simp [intOf]; omega
      · as_aux_lemma =>
        go_wp2_with fail
        go_roundw
        case rel => exact ⟨k + 1, _, (unhide HLT).1, (unhide HLT).2, by go_num, R⟩
        case measure => have := unhide HLT; simp [intOf]; omega
      · as_aux_lemma =>
        rw [a5] at c0
        rw [a6] at c5
        have hw1 : IntKind.i64.wrap (A' - A) = A' - A := by rw [IntKind.wrap_i64]; omega
        have ne1 : ((A' - A) == szz y.size) = true := by rw [a8]; simp
        have ne0 : ¬ TT ≤ A := by omega
        go_wp2_with fail
        refine (SZ y.size _).mono ?_
        rintro e W6 ⟨rfl, hW⟩
        replace hW := hW.symm
        subst hW
        generalize szz y.size = zz at *
        go_wp2_with fail
        go_roundw
        case rel => exact ⟨k + 1, _, (unhide HLT).1, (unhide HLT).2, by go_num, R⟩
        case measure => have := unhide HLT; simp [intOf]; omega
      · as_aux_lemma =>
        rw [a5] at c0
        rw [a6] at c5
        have hw1 : IntKind.i64.wrap (A' - A) = A' - A := by rw [IntKind.wrap_i64]; omega
        have hw2 : IntKind.i64.wrap (2 * (A' - A)) = 2 * (A' - A) := by rw [IntKind.wrap_i64]; omega
        have ne0 : TT ≤ A := by omega
        have ne1 : ¬ szz y.size + 2 < 2 * (A' - A) := by omega
        have hw3 : IntKind.i64.wrap (szz y.size + 2) = szz y.size + 2 := by rw [IntKind.wrap_i64]; omega
        go_wp2_with fail
        refine (SZ y.size _).mono ?_
        rintro e W6 ⟨rfl, hW⟩
        replace hW := hW.symm
        subst hW
        generalize szz y.size = zz at *
        go_wp2_with fail
        go_roundw
        case rel => exact ⟨k + 1, _, (unhide HLT).1, (unhide HLT).2, by go_num, R⟩
        case measure => have := unhide HLT; simp [intOf]; omega
    · have alt : (¬ (k : Int) < (len : Int)) ∨ ((k : Int) < (len : Int) ∧ ¬ (k : Int) < 4000) := by omega
      have EN := hide (unhide H).1.grown
      clear H hlt
      rcases alt with e1 | ⟨e1, e2⟩
      all_goals
        go_wp2_with fail
        go_ret
        exact ⟨rfl, unhide EN⟩
end Go.Proofs.Ythpnbajhogoinaa
