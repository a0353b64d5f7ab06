/- played: a script's steps on a pacer. -/
import Derived.Test.YtlfldbagbafjfaaUG
namespace Go.Proofs.Ytlfldbagbafjfaa
open Go.RowKit
set_option linter.unusedVariables false
set_option maxRecDepth 100000
set_option maxHeartbeats 4000000

/-- What a step leaves. -/
def stepF (s : Ps) (y : OpE) : Ps :=
  if y.kind = 1 then setF y.now y.size y.smooth s else if y.kind = 2 then fillF y.now s else if y.kind = 3 then spendF y.now y.size s else if y.kind = 4 then fillF y.now s else s
def playF (l : List OpE) (s : Ps) : Ps := l.foldl stepF s
theorem step_ok {s : Ps} (h : s.Ok) (y : OpE) : (stepF s y).Ok := by
  unfold stepF
  repeat' split
  · exact set_ok h _ _ _
  · exact fill_ok h _
  · exact spend_ok h _ _
  · exact fill_ok h _
  · exact h
theorem play_snoc {ol : List OpE} {k : Nat} {y : OpE} (h : ol[k]? = some y) (s : Ps) : playF (ol.take (k + 1)) s = stepF (playF (ol.take k) s) y := by
  unfold playF
  rw [List.take_add_one, h]
  simp

theorem step_burst (s : Ps) (y : OpE) : (stepF s y).burst = s.burst := by
  unfold stepF
  repeat' split
  · exact fill_burst _ _
  · exact fill_burst _ _
  · exact fill_burst _ _
  · exact fill_burst _ _
  · rfl
theorem play_burst : ∀ (l : List OpE) (s : Ps), (playF l s).burst = s.burst
  | [], _ => rfl
  | y :: l, s => (play_burst l (stepF s y)).trans (step_burst s y)

/-- Behind k steps. -/
structure PL (w w0 wr : World) (b : Nat) (s : Ps) : Prop where
  q : QE w wr b s
  g : w0.grownBy wr (some b)
theorem PL.keep {w w0 wr wr' : World} {b : Nat} {s : Ps} (h : PL w w0 wr b s) (g : wr.grownBy wr' none) : PL w w0 wr' b s := ⟨h.q.keep g, h.g.trans (grown_wk g b)⟩
theorem PL.to {w w0 wr wr' : World} {b : Nat} {s s' : Ps} (h : PL w w0 wr b s) (q : QE w wr' b s') (g : wr.grownBy wr' (some b)) : PL w w0 wr' b s' := ⟨q, h.g.trans g⟩

theorem played_any {w w0 : World} {b : Nat} {s : Ps} (q : QE w w0 b s) (a0 : Option Addr) (len cap : Nat) (ol : List OpE) (h : IsOps w a0 len cap ol) :
    Calls Try.prog 21 #[ptr b, .slice a0 len cap] w0 fun e w' => e = .returned (.tuple #[]) ∧ PL w w0 w' b (playF (ol.take 2000) s) := by
  have HO := hide h
  have hl := h.hlen
  have hcap := h.hcap
  have lenI : ¬ (9223372036854775807 : Int) < (len : Int) := by omega
  have S0 : Hid (PL w w0 w0 b (playF (ol.take 0) s)) := ⟨q, World.grownBy.refl _ _⟩
  clear h q
  go_enter Try.func21, Try.ntmps21
  go_wp2_with fail
  go_loopw [4] (fun i wr => ∃ k : Nat, k ≤ len ∧ k ≤ 2000 ∧ i = .int .i64 k ∧ Hid (PL w w0 wr b (playF (ol.take k) s))) (fun i _ => len - (intOf i).toNat)
  case atStart => exact ⟨0, Nat.zero_le _, Nat.zero_le _, rfl, S0⟩
  case round =>
    clear S0
    obtain ⟨k, hk, hk4, rfl, H⟩ := hrel
    by_cases hlt : k < len ∧ k < 2000
    · obtain ⟨bo, off, rfl, hcs⟩ := (unhide HO).cell.resolve_left (by omega)
      have hx' : ol[k]? = some ol[k] := List.getElem?_eq_getElem _
      have hcx := hcs k _ hx'
      have SN := hide (play_snoc hx' s)
      generalize ol[k] = y at *
      have kn : (k : Int) < (len : Int) := by omega
      have k4 : (k : Int) < 2000 := by omega
      have HLT := hide hlt
      have gw := (unhide H).q.grown
      have c0 := cell_grown (hcx 0 _ rfl) gw
      have c1 := cell_grown (hcx 1 _ rfl) gw
      have c2 := cell_grown (hcx 2 _ rfl) gw
      have c3 := cell_grown (hcx 3 _ rfl) gw
      have c4 := cell_grown (hcx 4 _ rfl) gw
      have P1 := hide ((unhide H).keep (World.grownBy_alloc _ (.cells #[.int .i64 y.kind, .int .i64 y.h, .int .i64 y.now, .int .i64 y.size, .int .i64 y.smooth] 37) none))
      have STP : Hid (∀ s : Ps, stepF s y = if y.kind = 1 then setF y.now y.size y.smooth s else if y.kind = 2 then fillF y.now s else if y.kind = 3 then spendF y.now y.size s else if y.kind = 4 then fillF y.now s else s) := fun _ => rfl
      rw [Nat.add_zero] at c0
      clear hcs hcx hx' hlt hk gw H
      have bq : ∀ m : Int, y.kind ≠ m → (y.kind == m) = false := fun m hm => by simpa using hm
      by_cases t1 : y.kind = 1
      · have b1 : (y.kind == 1) = true := by simpa using t1
        have E : Hid (playF (ol.take (k + 1)) s = setF y.now y.size y.smooth (playF (ol.take k) s)) := by show _ = _; rw [unhide SN, unhide STP]; simp [t1]
        have CL := qe_set (unhide P1).q y.now y.size y.smooth
        clear STP SN bq t1
        go_wp2_with fail
        refine CL.mono ?_
        rintro e W ⟨rfl, q1, g1⟩
        have R := hide ((unhide P1).to q1 g1)
        rw [← unhide E] at R
        clear CL q1 g1 P1 E
        go_wp2_with fail
        go_roundw
        case rel => exact ⟨k + 1, (unhide HLT).1, (unhide HLT).2, by go_num, R⟩
        case measure => have := unhide HLT; simp [intOf]; omega
      · have b1 := bq 1 t1
        by_cases t2 : y.kind = 2
        · have b2 : (y.kind == 2) = true := by simpa using t2
          have E : Hid (playF (ol.take (k + 1)) s = fillF y.now (playF (ol.take k) s)) := by show _ = _; rw [unhide SN, unhide STP]; simp [t2]
          have CL := qe_when (unhide P1).q y.now y.size
          clear STP SN bq t1 t2
          go_wp2_with fail
          refine CL.mono ?_
          rintro e W ⟨rfl, q1, g1⟩
          have R := hide ((unhide P1).to q1 g1)
          rw [← unhide E] at R
          clear CL q1 g1 P1 E
          go_wp2_with fail
          go_roundw
          case rel => exact ⟨k + 1, (unhide HLT).1, (unhide HLT).2, by go_num, R⟩
          case measure => have := unhide HLT; simp [intOf]; omega
        · have b2 := bq 2 t2
          by_cases t3 : y.kind = 3
          · have b3 : (y.kind == 3) = true := by simpa using t3
            have E : Hid (playF (ol.take (k + 1)) s = spendF y.now y.size (playF (ol.take k) s)) := by show _ = _; rw [unhide SN, unhide STP]; simp [t3]
            have CL := qe_spend (unhide P1).q y.now y.size
            clear STP SN bq t1 t2 t3
            go_wp2_with fail
            refine CL.mono ?_
            rintro e W ⟨rfl, q1, g1⟩
            have R := hide ((unhide P1).to q1 g1)
            rw [← unhide E] at R
            clear CL q1 g1 P1 E
            go_wp2_with fail
            go_roundw
            case rel => exact ⟨k + 1, (unhide HLT).1, (unhide HLT).2, by go_num, R⟩
            case measure => have := unhide HLT; simp [intOf]; omega
          · have b3 := bq 3 t3
            by_cases t4 : y.kind = 4
            · have b4 : (y.kind == 4) = true := by simpa using t4
              have E : Hid (playF (ol.take (k + 1)) s = fillF y.now (playF (ol.take k) s)) := by show _ = _; rw [unhide SN, unhide STP]; simp [t4]
              have CL := qe_left (unhide P1).q y.now
              clear STP SN bq t1 t2 t3 t4
              go_wp2_with fail
              refine CL.mono ?_
              rintro e W ⟨rfl, q1, g1⟩
              have R := hide ((unhide P1).to q1 g1)
              rw [← unhide E] at R
              clear CL q1 g1 P1 E
              go_wp2_with fail
              go_roundw
              case rel => exact ⟨k + 1, (unhide HLT).1, (unhide HLT).2, by go_num, R⟩
              case measure => have := unhide HLT; simp [intOf]; omega
            · have b4 := bq 4 t4
              have E : Hid (playF (ol.take (k + 1)) s = playF (ol.take k) s) := by show _ = _; rw [unhide SN, unhide STP]; simp [t1, t2, t3, t4]
              have R := hide (unhide P1)
              rw [← unhide E] at R
              clear STP SN bq t1 t2 t3 t4 P1 E
              go_wp2_with fail
              go_roundw
              case rel => exact ⟨k + 1, (unhide HLT).1, (unhide HLT).2, by go_num, R⟩
              case measure => have := unhide HLT; simp [intOf]; omega
    · have alt : (¬ (k : Int) < (len : Int)) ∨ ((k : Int) < (len : Int) ∧ ¬ (k : Int) < 2000) := by omega
      have tk : ol.take k = ol.take 2000 := by
        rcases (by omega : k = len ∨ k = 2000) with rfl | rfl
        · rw [List.take_of_length_le (by omega), List.take_of_length_le (by omega)]
        · rfl
      rw [tk] at H
      clear hlt tk
      rcases alt with e1 | ⟨e1, e2⟩
      all_goals
        go_wp2_with fail
        refine bodyPost_end (results_none rfl _ _ _) rfl ?_
        exact ⟨rfl, unhide H⟩
end Go.Proofs.Ytlfldbagbafjfaa
