/- PacePieces. -/
import Derived.Test.YtlfldbagbafjfaaUJ
import Derived.LoopIn
import Derived.Deep.CutRange
namespace Go.Proofs.Ytlfldbagbafjfaa
open Go.RowKit
set_option linter.unusedVariables false
set_option maxRecDepth 100000
set_option maxHeartbeats 4000000

/-- In two pieces as in one. -/
theorem fill_fill {s : Ps} (ok : s.Ok) (x y : Int) : fillF y (fillF x s) = fillF (max x y) s := by
  have c := ok.c
  have p := ok.p
  have e := ok.e
  have t1 := tm_b ok x
  have T : tmF y (fillF x s) = tmF (max x y) s := by
    unfold tmF
    rw [fill_clock]
    unfold tmF win
    omega
  have t2 : tmF x s ≤ tmF (max x y) s := by unfold tmF win; omega
  have D0 : 0 ≤ (tmF (max x y) s - tmF x s) * s.rise := Int.mul_nonneg (by omega) e.1
  have N : parts (max x y) s = parts x s + (tmF (max x y) s - tmF x s) * s.rise := by
    unfold parts
    rw [show tmF (max x y) s - s.clock = (tmF x s - s.clock) + (tmF (max x y) s - tmF x s) by omega, Int.add_mul]
    omega
  by_cases f1 : s.burst - s.left ≤ parts x s / s.span
  · have F1 : fillF x s = { s with clock := tmF x s, left := s.burst, rest := 0 } := if_pos f1
    have f2 : s.burst - s.left ≤ parts (max x y) s / s.span := by
      have : parts x s / s.span ≤ parts (max x y) s / s.span := Int.ediv_le_ediv (by omega) (by omega)
      omega
    have F2 : fillF (max x y) s = { s with clock := tmF (max x y) s, left := s.burst, rest := 0 } := if_pos f2
    have P2 : parts y (fillF x s) = (tmF (max x y) s - tmF x s) * s.rise := by
      unfold parts
      rw [T, F1]
      show 0 + (tmF (max x y) s - tmF x s) * s.rise = _
      omega
    have f3 : (fillF x s).burst - (fillF x s).left ≤ parts y (fillF x s) / (fillF x s).span := by
      rw [P2, F1]
      show s.burst - s.burst ≤ _ / s.span
      have := Int.ediv_nonneg D0 (show 0 ≤ s.span by omega)
      omega
    have F3 : fillF y (fillF x s) = { fillF x s with clock := tmF y (fillF x s), left := (fillF x s).burst, rest := 0 } := if_pos f3
    rw [F3, F2, T, F1]
  · have F1 : fillF x s = { s with clock := tmF x s, left := s.left + parts x s / s.span, rest := parts x s % s.span } := if_neg f1
    have P2 : parts y (fillF x s) = parts x s % s.span + (tmF (max x y) s - tmF x s) * s.rise := by
      unfold parts
      rw [T, F1]
      rfl
    have ed := Int.mul_ediv_add_emod (parts x s) s.span
    have eN : parts (max x y) s = parts y (fillF x s) + s.span * (parts x s / s.span) := by omega
    have dq : parts (max x y) s / s.span = parts y (fillF x s) / s.span + parts x s / s.span := by
      rw [eN, Int.add_mul_ediv_left _ _ (by omega)]
    have dm : parts (max x y) s % s.span = parts y (fillF x s) % s.span := by
      rw [eN, Int.add_mul_emod_self_left]
    by_cases f2 : s.burst - s.left ≤ parts (max x y) s / s.span
    · have F2 : fillF (max x y) s = { s with clock := tmF (max x y) s, left := s.burst, rest := 0 } := if_pos f2
      have f3 : (fillF x s).burst - (fillF x s).left ≤ parts y (fillF x s) / (fillF x s).span := by
        rw [fill_span, fill_burst, show (fillF x s).left = s.left + parts x s / s.span by rw [F1]]
        omega
      have F3 : fillF y (fillF x s) = { fillF x s with clock := tmF y (fillF x s), left := (fillF x s).burst, rest := 0 } := if_pos f3
      rw [F3, F2, T, F1]
    · have F2 : fillF (max x y) s = { s with clock := tmF (max x y) s, left := s.left + parts (max x y) s / s.span, rest := parts (max x y) s % s.span } := if_neg f2
      have f3 : ¬ (fillF x s).burst - (fillF x s).left ≤ parts y (fillF x s) / (fillF x s).span := by
        rw [fill_span, fill_burst, show (fillF x s).left = s.left + parts x s / s.span by rw [F1]]
        omega
      have F3 : fillF y (fillF x s) = { fillF x s with clock := tmF y (fillF x s), left := (fillF x s).left + parts y (fillF x s) / (fillF x s).span, rest := parts y (fillF x s) % (fillF x s).span } := if_neg f3
      have h1 : (fillF x s).left = s.left + parts x s / s.span := by rw [F1]
      have h2 : (fillF x s).burst = s.burst := fill_burst _ _
      have h3 : (fillF x s).rise = s.rise := fill_rise _ _
      rw [F3, F2, T, fill_span, dq, dm, h1]
      show (⟨(fillF x s).burst, tmF (max x y) s, _, _, (fillF x s).rise, (fillF x s).span⟩ : Ps) = _
      rw [h2, h3, fill_span, Int.add_assoc, Int.add_comm (parts x s / s.span)]

/-- Asked at moments up to x. -/
def Bf (s t : Ps) (x : Int) : Prop := ∃ z, t = fillF z s ∧ (z ≤ x ∨ z ≤ s.clock)
theorem Bf.self {s : Ps} (ok : s.Ok) (x : Int) : Bf s s x := ⟨s.clock, (fill_now ok (Int.le_refl _)).symm, .inr (Int.le_refl _)⟩
theorem Bf.more {s t : Ps} {x : Int} (ok : s.Ok) (h : Bf s t x) {z : Int} (hz : z ≤ x) : Bf s (fillF z t) x := by
  obtain ⟨u, rfl, hu⟩ := h
  rw [fill_fill ok]
  by_cases c : u ≤ z
  · exact ⟨z, by rw [show max u z = z by omega], .inl hz⟩
  · exact ⟨u, by rw [show max u z = u by omega], hu⟩
theorem Bf.fill {s t : Ps} {x : Int} (ok : s.Ok) (h : Bf s t x) : fillF x t = fillF x s := by
  obtain ⟨u, rfl, hu⟩ := h
  rcases hu with hu | hu
  · rw [fill_fill ok, show max u x = x by omega]
  · rw [fill_now ok hu]
theorem Bf.burst {s t : Ps} {x : Int} (h : Bf s t x) : t.burst = s.burst := by
  obtain ⟨u, rfl, hu⟩ := h
  exact fill_burst _ _
theorem Bf.step {s t : Ps} {y : OpE} (ok : s.Ok) (h : Bf s t y.now) : fillF y.now (stepF t y) = fillF y.now (stepF s y) := by
  have f := h.fill ok
  have b := h.burst
  have e1 : setF y.now y.size y.smooth t = setF y.now y.size y.smooth s := by unfold setF; rw [f]
  have e3 : spendF y.now y.size t = spendF y.now y.size s := by unfold spendF; rw [f, b]
  unfold stepF
  repeat' split
  · rw [e1]
  · rw [f]
  · rw [e3]
  · rw [f]
  · exact f
/-- One step of a script. -/
theorem IsOps.one {w : World} {bo off len cap : Nat} {ol : List OpE} (h : IsOps w (some ⟨bo, off, none⟩) len cap ol) {k : Nat} {y : OpE} (hy : ol[k]? = some y) (c : Nat) (hc : 1 ≤ c ∧ c ≤ 9223372036854775807) : IsOps w (some ⟨bo, off + k * 5, none⟩) 1 c [y] := by
  refine ⟨rfl, hc, fun x hx => ?_, .inr ⟨bo, off + k * 5, rfl, fun i x hi j v hj => ?_⟩⟩
  · simp at hx
    subst hx
    exact h.ok x (List.mem_of_getElem? hy)
  · obtain ⟨hlt, _⟩ := List.getElem?_eq_some_iff.1 hi
    simp at hlt
    subst hlt
    simp at hi
    subst hi
    have hl := h.hlen
    have hk : k < ol.length := (List.getElem?_eq_some_iff.1 hy).1
    rcases h.cell with h0 | ⟨b', o', e, hcs⟩
    · omega
    · simp at e
      obtain ⟨rfl, rfl⟩ := e
      rw [Nat.zero_mul, Nat.add_zero]
      exact hcs k _ hy j v hj

theorem pieces_walk (n : Int) (a0 : Option Addr) (len cap : Nat) (ol : List OpE) (a2 : Option Addr) (len2 cap2 : Nat) (tl : List Int) (w : World) (hn : i64B n) (h : IsOps w a0 len cap ol) (h2 : IsInts w a2 len2 cap2 tl) :
    Calls Try.prog 5 #[.int .i64 n, .slice a0 len cap, .slice a2 len2 cap2] w fun e w' => e = .returned (.bool true) ∧ w.grownBy w' none := by
  have sh := shown_any w
  have HO := hide h
  have HI := hide h2
  have hl := h.hlen
  have hcap := h.hcap
  have hl2 := h2.hlen
  have hcap2 := h2.hcap
  have lenI : ¬ (9223372036854775807 : Int) < (len : Int) := by omega
  have NW := hide (fun (W : World) (g : w.grownBy W none) => two_start g n hn)
  clear h h2
  go_enter Try.func5, Try.ntmps5
  go_wp2_with fail
  refine sh.mono ?_
  rintro e w1 ⟨rfl, g1⟩
  clear sh
  go_wp2_with fail
  refine (unhide NW w1 g1).mono ?_
  rintro e w2 ⟨a, rfl, q2, l2⟩
  clear g1
  go_wp2_with fail
  refine (qe_pacer q2.grown n hn).mono ?_
  rintro e w3 ⟨rfl, q3, g3⟩
  have T := hide (TQ.mk (q2.keep g3) q3 (by omega))
  clear q2 q3 g3 NW l2
  generalize w2.heap.size = b at *
  generalize ps0 (bF n) = s0 at *
  go_wp2_with fail
  go_loopw [10] (fun i wr => ∃ (k : Nat) (s : Ps), k ≤ len ∧ i = .int .i64 k ∧ Hid (TQ w wr a b s s)) (fun i _ => len - (intOf i).toNat)
  case atStart => exact ⟨0, _, Nat.zero_le _, rfl, T⟩
  case round =>
    clear T
    obtain ⟨k, s, hk, rfl, H⟩ := hrel
    by_cases hlt : k < len ∧ k < 1000
    · obtain ⟨bo, off, rfl, hcs⟩ := (unhide HO).cell.resolve_left (by omega)
      have hx' : ol[k]? = some ol[k] := List.getElem?_eq_getElem _
      have hcx := hcs k _ hx'
      have ONE := hide (fun c hc => (unhide HO).one hx' c hc)
      generalize ol[k] = y at *
      have kn : (k : Int) < (len : Int) := by omega
      have k4 : (k : Int) < 1000 := by omega
      have HLT := hide hlt
      have CC : Hid (∀ X : World, w.grownBy X none → X.cell? ⟨bo, off + k * 5 + 2, none⟩ = some (.int .i64 y.now)) := fun X g => cell_grown (hcx 2 _ rfl) g
      have kw : IntKind.i64.wrap ((k : Int) + 1) = (k : Int) + 1 := by rw [IntKind.wrap_i64]; omega
      have kc : (k : Int) + 1 ≤ (cap : Int) := by omega
      clear hcs hcx hx' hlt hk
      have PA := tq_played (unhide H) _ 1 (cap - k) [y] (unhide ONE (cap - k) (by omega))
      have SOK := hide (unhide H).qa.ok
      clear H
      go_wp2_with fail
      refine PA.mono ?_
      rintro e W1 ⟨rfl, T1⟩
      clear PA
      have T1' : Hid (TQ w W1 a b (stepF s y) s ∧ Bf s s y.now) := ⟨T1, Bf.self (unhide SOK) _⟩
      clear T1
      go_wp2_with fail
      go_loopw [11] (fun i wr => ∃ (j : Nat) (t : Ps), j ≤ len2 ∧ i = .int .i64 j ∧ Hid (TQ w wr a b (stepF s y) t ∧ Bf s t y.now)) (fun i _ => len2 - (intOf i).toNat)
      case atStart => exact ⟨0, _, Nat.zero_le _, rfl, T1'⟩
      case round =>
        clear T1'
        obtain ⟨j, t, hj, rfl, H⟩ := hrel
        by_cases jlt : j < len2 ∧ j < 20
        · obtain ⟨bt, ot, rfl, hct⟩ := (unhide HI).cell.resolve_left (by omega)
          have hz' : tl[j]? = some tl[j] := List.getElem?_eq_getElem _
          have hcz := hct j _ hz'
          generalize tl[j] = x at *
          have jn : (j : Int) < (len2 : Int) := by omega
          have j4 : (j : Int) < 20 := by omega
          have JLT := hide jlt
          have gw := (unhide H).1.qa.grown
          have cx := cell_grown hcz gw
          have cy := unhide CC _ gw
          clear hct hcz hz' jlt hj gw
          by_cases y1 : 0 < y.now
          · have dy : decide (0 < y.now) = true := decide_eq_true y1
            by_cases x1 : 0 < x
            · have dx : decide (0 < x) = true := decide_eq_true x1
              have nz : y.now ≠ 0 := by omega
              have zm : Int.tmod x y.now = x % y.now := Int.tmod_eq_emod_of_nonneg (by omega)
              have zlt := Int.emod_lt_of_pos x y1
              have R := hide ((unhide H).2.more (unhide SOK) (show x % y.now ≤ y.now by omega))
              have CL := tq_left (unhide H).1.swap.drew (x % y.now)
              clear H
              go_wp2_with fail
              go_region_with (go_at_call 19; refine CL.mono ?_; rintro e W ⟨rfl, TT⟩)
              all_goals
                have R2 := hide (And.intro TT.swap (unhide R))
                clear TT R CL
                go_wp2_with fail
                go_roundw
                case rel => exact ⟨j + 1, _, (unhide JLT).1, by go_num, R2⟩
                case measure => have := unhide JLT; simp [intOf]; omega
            · have dx : decide (0 < x) = false := decide_eq_false x1
              go_wp2_with fail
              go_roundw
              case rel => exact ⟨j + 1, _, (unhide JLT).1, by go_num, H⟩
              case measure => have := unhide JLT; simp [intOf]; omega
          · have dy : decide (0 < y.now) = false := decide_eq_false y1
            go_wp2_with fail
            go_roundw
            case rel => exact ⟨j + 1, _, (unhide JLT).1, by go_num, H⟩
            case measure => have := unhide JLT; simp [intOf]; omega
        · have alt : (¬ (j : Int) < (len2 : Int)) ∨ ((j : Int) < (len2 : Int) ∧ ¬ (j : Int) < 20) := by omega
          have PB := tq_played (unhide H).1.swap _ 1 (cap - k) [y] (unhide ONE (cap - k) (by omega))
          have EQ := hide ((unhide H).2.step (unhide SOK))
          clear H jlt ONE
          rcases alt with e1 | ⟨e1, e2⟩
          all_goals
            go_wp2_with fail
            refine PB.mono ?_
            rintro e W2 ⟨rfl, T2⟩
            clear PB
            have cy := unhide CC _ T2.qa.grown
            have L1 := tq_left T2.swap y.now
            clear T2
            go_wp2_with fail
            refine L1.mono ?_
            rintro e W3 ⟨rfl, T3⟩
            clear L1 cy
            have cy := unhide CC _ T3.qa.grown
            have L2 := tq_left T3.swap y.now
            clear T3
            go_wp2_with fail
            refine L2.mono ?_
            rintro e W4 ⟨rfl, T4⟩
            clear L2 cy
            have R := hide T4.swap
            rw [show playF ([y].take 2000) t = stepF t y from rfl, unhide EQ] at R
            rw [show playF ([y].take 2000) t = stepF t y from rfl, unhide EQ]
            clear T4 EQ CC
            generalize (fillF y.now (stepF s y)).left = LL at *
            go_wp2_with fail
            go_roundw
            case rel => exact ⟨k + 1, _, (unhide HLT).1, by go_num, R⟩
            case measure => have := unhide HLT; simp [intOf]; omega
    · have alt : (¬ (k : Int) < (len : Int)) ∨ ((k : Int) < (len : Int) ∧ ¬ (k : Int) < 1000) := by omega
      have EN := hide (unhide H).qa.grown
      clear H hlt
      rcases alt with e1 | ⟨e1, e2⟩
      all_goals
        go_wp2_with fail
        go_ret
        exact ⟨rfl, unhide EN⟩
end Go.Proofs.Ytlfldbagbafjfaa
