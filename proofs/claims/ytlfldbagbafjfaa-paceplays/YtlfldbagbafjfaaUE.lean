/- The document's pacer, at place o of two. -/
import Derived.Test.YtlfldbagbafjfaaUC
import Derived.Test.YtlfldbagbafjfaaUA2
namespace Go.Proofs.Ytlfldbagbafjfaa
open Go.RowKit
set_option linter.unusedVariables false
set_option maxRecDepth 100000
set_option maxHeartbeats 4000000

abbrev Sep (o p : Nat) : Prop := (o + 6 ≤ p ∨ p + 6 ≤ o) ∧ o + 6 ≤ 12
/-- Two of the document's pacers, side by side in memory: R at place o, S at place p. -/
def RB (w : World) (b o p : Nat) (R S : Ps) : Prop := ∃ cs : Array Value, Blk w b cs 35 ∧ cs.size = 12 ∧ (∀ j v, j < 6 → (rcc R)[j]? = some v → cs[o + j]? = some v) ∧ (∀ j v, j < 6 → (rcc S)[j]? = some v → cs[p + j]? = some v)
abbrev ptrO (g o : Nat) : Value := .pointer (some ⟨g, o, none⟩)
theorem RB.cell {w : World} {b o p : Nat} {R S : Ps} (h : RB w b o p R S) (j : Nat) (v : Value) (hj : j < 6) (hv : (rcc R)[j]? = some v) : w.cell? ⟨b, o + j, none⟩ = some v := by
  obtain ⟨cs, h1, -, h3, -⟩ := h
  exact h1.cell _ _ (h3 j v hj hv)
theorem RB.thaw {w : World} {b o p : Nat} {R S : Ps} (h : RB w b o p R S) (j : Nat) : w.frozen? ⟨b, j, none⟩ = false := by
  obtain ⟨cs, h1, -⟩ := h
  exact h1.thaw j
theorem RB.full {w : World} {b o p : Nat} {s S : Ps} (h : RB w b o p s S) : (∀ j, w.frozen? ⟨b, j, none⟩ = false) ∧ w.cell? ⟨b, o, none⟩ = some (.int .i64 s.burst) ∧ w.cell? ⟨b, o + 1, none⟩ = some (.int .i64 s.left) ∧ w.cell? ⟨b, o + 2, none⟩ = some (.int .i64 s.rest) ∧ w.cell? ⟨b, o + 3, none⟩ = some (.int .i64 s.rise) ∧ w.cell? ⟨b, o + 4, none⟩ = some (.int .i64 s.span) ∧ w.cell? ⟨b, o + 5, none⟩ = some (.int .i64 s.clock) :=
  ⟨h.thaw, h.cell 0 _ (by decide) rfl, h.cell 1 _ (by decide) rfl, h.cell 2 _ (by decide) rfl, h.cell 3 _ (by decide) rfl, h.cell 4 _ (by decide) rfl, h.cell 5 _ (by decide) rfl⟩
theorem RB.grown {w W : World} {b o p : Nat} {s S : Ps} (h : RB w b o p s S) (g : w.grownBy W none) : RB W b o p s S := by
  obtain ⟨cs, h1, h2, h3, h4⟩ := h
  exact ⟨cs, h1.grown g, h2, h3, h4⟩
theorem RB.far {w W : World} {b c o p : Nat} {s S : Ps} (h : RB w b o p s S) (g : w.grownBy W (some c)) (hn : b ≠ c) : RB W b o p s S := by
  obtain ⟨cs, h1, h2, h3, h4⟩ := h
  exact ⟨cs, Blk.far h1 g hn, h2, h3, h4⟩
theorem RB.swap {w : World} {b o p : Nat} {s S : Ps} (h : RB w b o p s S) : RB w b p o S s := by
  obtain ⟨cs, h1, h2, h3, h4⟩ := h
  exact ⟨cs, h1, h2, h4, h3⟩
theorem RB.drewN {w : World} {b o p : Nat} {s S : Ps} (h : RB w b o p s S) (q : Nat) : RB (w.drewN q) b o p s S := h
theorem RB.drew {w : World} {b o p : Nat} {s S : Ps} (h : RB w b o p s S) : RB w.drew b o p s S := h
theorem RB.lt {w : World} {b o p : Nat} {s S : Ps} (h : RB w b o p s S) : b < w.heap.size := by
  obtain ⟨cs, h1, -⟩ := h
  exact h1.lt
theorem rcc_size (s : Ps) : (rcc s).size = 6 := rfl
/-- One cell is written. -/
theorem RB.set {w : World} {b o p : Nat} {s S : Ps} (h : RB w b o p s S) (hs : Sep o p) (j : Nat) (hj : j < 6) (v : Value) (s' : Ps) (e : rcc s' = (rcc s).setIfInBounds j v) : RB (w.setCell ⟨b, o + j, none⟩ v) b o p s' S := by
  obtain ⟨cs, h1, h2, h3, h4⟩ := h
  refine ⟨cs.setIfInBounds (o + j) v, Blk.setC h1 (o + j) v, by rw [Array.size_setIfInBounds]; exact h2, fun k u hk hu => ?_, fun k u hk hu => ?_⟩
  · rw [e] at hu
    rw [Array.getElem?_setIfInBounds] at hu ⊢
    by_cases c : j = k
    · subst c
      rw [if_pos rfl] at hu ⊢
      rw [if_pos (by rw [rcc_size]; exact hj)] at hu
      rw [if_pos (by rw [h2]; have := hs.2; omega)]
      exact hu
    · rw [if_neg c] at hu
      rw [if_neg (by omega)]
      exact h3 k u hk hu
  · rw [Array.getElem?_setIfInBounds, if_neg (by have := hs.1; omega)]
    exact h4 k u hk hu


/-- What a call of the document's leaves. -/
structure RT (w X : World) (b o p : Nat) (s S : Ps) : Prop where
  at_ : RB X b o p s S
  grown : w.grownBy X (some b)
theorem RT.draw {w X : World} {b o p : Nat} {s S : Ps} (h : RT w X b o p s S) (q : Nat) : RT w (X.drewN q) b o p s S := ⟨h.at_, drewSN h.grown q⟩
theorem RT.drew {w X : World} {b o p : Nat} {s S : Ps} (h : RT w X b o p s S) : RT w X.drew b o p s S := ⟨h.at_, drewS h.grown⟩
theorem RT.set {w X : World} {b o p : Nat} {s S : Ps} (h : RT w X b o p s S) (hs : Sep o p) (j : Nat) (hj : j < 6) (v : Value) (s' : Ps) (e : rcc s' = (rcc s).setIfInBounds j v) : RT w (X.setCell ⟨b, o + j, none⟩ v) b o p s' S := ⟨h.at_.set hs j hj v s' e, grown_at h.grown (o + j) v⟩
theorem RT.left {w X : World} {b o p : Nat} {s S : Ps} (h : RT w X b o p s S) (hs : Sep o p) (v : Int) : RT w (X.setCell ⟨b, o + 1, none⟩ (.int .i64 v)) b o p { s with left := v } S := h.set hs 1 (by decide) _ _ rfl
theorem RT.rest {w X : World} {b o p : Nat} {s S : Ps} (h : RT w X b o p s S) (hs : Sep o p) (v : Int) : RT w (X.setCell ⟨b, o + 2, none⟩ (.int .i64 v)) b o p { s with rest := v } S := h.set hs 2 (by decide) _ _ rfl
theorem RT.rise {w X : World} {b o p : Nat} {s S : Ps} (h : RT w X b o p s S) (hs : Sep o p) (v : Int) : RT w (X.setCell ⟨b, o + 3, none⟩ (.int .i64 v)) b o p { s with rise := v } S := h.set hs 3 (by decide) _ _ rfl
theorem RT.span {w X : World} {b o p : Nat} {s S : Ps} (h : RT w X b o p s S) (hs : Sep o p) (v : Int) : RT w (X.setCell ⟨b, o + 4, none⟩ (.int .i64 v)) b o p { s with span := v } S := h.set hs 4 (by decide) _ _ rfl
theorem RT.clock {w X : World} {b o p : Nat} {s S : Ps} (h : RT w X b o p s S) (hs : Sep o p) (v : Int) : RT w (X.setCell ⟨b, o + 5, none⟩ (.int .i64 v)) b o p { s with clock := v } S := h.set hs 5 (by decide) _ _ rfl
theorem RT.of {w : World} {b o p : Nat} {s S : Ps} (h : RB w b o p s S) : RT w w b o p s S := ⟨h, World.grownBy.refl w (some b)⟩

theorem rfill_any (b o p : Nat) (s S : Ps) (x : Int) (w : World) (h : RB w b o p s S) (hs : Sep o p) (ok : s.Ok) : Calls Try.prog 24 #[ptrO b o, .int .i64 x] w fun e w' => e = .returned (.tuple #[]) ∧ RT w w' b o p (fillF x s) S := by
  have hm := into_any x 0 1125899906842624 (by decide) w
  obtain ⟨t, c0, c1, c2, c3, c4, c5⟩ := h.full
  obtain ⟨k1, k2⟩ := ok.c
  have R0 := RT.of h
  by_cases hT : win x 0 1125899906842624 ≤ s.clock
  · have e : tmF x s = s.clock := by unfold tmF win; unfold win at hT; omega
    rw [fill_same ok e]
    have F := hide R0
    clear h ok R0 e
    generalize win x 0 1125899906842624 = T at *
    go_enter Try.func24, Try.ntmps24
    go_wp2_with fail
    refine hm.mono ?_
    rintro e W ⟨rfl, rfl⟩
    go_wp2_with fail
    refine bodyPost_ret (results_none rfl _ _ _) rfl ?_
    exact ⟨rfl, unhide F⟩
  · have eT : win x 0 1125899906842624 = tmF x s := by unfold tmF win; unfold win at hT; omega
    have hfi := full_iff ok x
    have tb := win_b (x := x) (show (0 : Int) ≤ 1125899906842624 by decide)
    rw [eT] at hT hm tb
    obtain ⟨b1, b2⟩ := ok.b
    obtain ⟨l1, l2⟩ := ok.l
    obtain ⟨r1, r2⟩ := ok.r
    obtain ⟨p1, p2⟩ := ok.p
    obtain ⟨e1, e2⟩ := ok.e
    have hl0 : 0 ≤ (s.burst - s.left) * s.span := Int.mul_nonneg (by omega) (by omega)
    have hl1 : (s.burst - s.left) * s.span ≤ 2097152 * 274877906944 := Int.mul_le_mul (by omega) p2 (by omega) (by omega)
    have ci := fun hr : 0 < s.rise => ceil_iff (d := tmF x s - s.clock) (r := s.rise) (l := (s.burst - s.left) * s.span - s.rest) hr
    have FF : Hid (∀ f, fillF x s = f ↔ (if s.burst - s.left ≤ parts x s / s.span then { s with clock := tmF x s, left := s.burst, rest := 0 } else { s with clock := tmF x s, left := s.left + parts x s / s.span, rest := parts x s % s.span }) = f) := fun f => Iff.rfl
    have R1 := R0.clock hs (tmF x s)
    have i0 : IntKind.i64.wrap (tmF x s - s.clock) = tmF x s - s.clock := by rw [IntKind.wrap_i64]; omega
    have i1 : IntKind.i64.wrap (s.burst - s.left) = s.burst - s.left := by rw [IntKind.wrap_i64]; omega
    have i2 : IntKind.i64.wrap ((s.burst - s.left) * s.span) = (s.burst - s.left) * s.span := by
      generalize (s.burst - s.left) * s.span = M at *
      rw [IntKind.wrap_i64]; omega
    have i3 : IntKind.i64.wrap ((s.burst - s.left) * s.span - s.rest) = (s.burst - s.left) * s.span - s.rest := by
      generalize (s.burst - s.left) * s.span = M at *
      rw [IntKind.wrap_i64]; omega
    have dr0 : 0 ≤ (tmF x s - s.clock) * s.rise := Int.mul_nonneg (by omega) e1
    obtain ⟨tb1, tb2⟩ := tb
    have FY : Hid (∀ q : Nat, s.burst - s.left ≤ parts x s / s.span → RT w ((((w.setCell ⟨b, o + 5, none⟩ (.int .i64 (tmF x s))).drewN q).setCell ⟨b, o + 1, none⟩ (.int .i64 s.burst)).setCell ⟨b, o + 2, none⟩ (.int .i64 0)) b o p (fillF x s) S) := by
      intro q hc
      unfold fillF
      rw [if_pos hc]
      exact ((R1.draw q).left hs s.burst).rest hs 0
    have PE : parts x s = s.rest + (tmF x s - s.clock) * s.rise := rfl
    have FN : Hid (∀ q : Nat, ¬ s.burst - s.left ≤ parts x s / s.span → RT w ((((w.setCell ⟨b, o + 5, none⟩ (.int .i64 (tmF x s))).drewN q).setCell ⟨b, o + 1, none⟩ (.int .i64 (s.left + parts x s / s.span))).setCell ⟨b, o + 2, none⟩ (.int .i64 (parts x s % s.span))) b o p (fillF x s) S) := by
      intro q hc
      unfold fillF
      rw [if_neg hc]
      exact ((R1.draw q).left hs _).rest hs _
    have FZ : Hid (s.rise = 0 → ¬ s.burst - s.left ≤ parts x s / s.span → ∀ q : Nat, RT w ((w.setCell ⟨b, o + 5, none⟩ (.int .i64 (tmF x s))).drewN q) b o p (fillF x s) S) := by
      intro hz hc q
      have e : parts x s = s.rest := by rw [PE, hz, Int.mul_zero, Int.add_zero]
      have d : s.rest / s.span = 0 := Int.ediv_eq_zero_of_lt r1 r2
      have m : s.rest % s.span = s.rest := Int.emod_eq_of_lt r1 r2
      unfold fillF
      rw [if_neg hc, e, d, m, Int.add_zero]
      exact R1.draw q
    have PB1 : (tmF x s - s.clock) * s.rise < (s.burst - s.left) * s.span - s.rest → 0 ≤ parts x s ∧ parts x s < 576460752303423488 := by
      intro hlt
      rw [PE]
      generalize (tmF x s - s.clock) * s.rise = M at *
      generalize (s.burst - s.left) * s.span = N at *
      omega
    clear R0 R1 h ok FF eT
    generalize fillF x s = fs at *
    generalize tmF x s = T at *
    by_cases cL : (s.burst - s.left) * s.span - s.rest ≤ 0
    · have F := unhide FY
      have full := hfi.2 (by omega)
      have F' := hide (fun q => F q full)
      clear FY FN FZ F hfi PE PB1 ci
      go_enter Try.func24, Try.ntmps24
      go_wp2_with fail
      refine hm.mono ?_
      rintro e W ⟨rfl, hW⟩
      replace hW := hW.symm
      subst hW
      go_wp2_with fail
      go_quiet (fail)
      all_goals go_wp2_with fail
      all_goals refine bodyPost_ret (results_none rfl _ _ _) rfl ?_
      all_goals exact ⟨rfl, unhide F' _⟩
    · by_cases cz : s.rise = 0
      · have nf : ¬ s.burst - s.left ≤ parts x s / s.span := by
          rw [hfi, cz, Int.mul_zero]; omega
        have F' := hide (unhide FZ cz nf)
        clear FY FN FZ hfi PE PB1 ci
        rw [cz] at c3
        go_enter Try.func24, Try.ntmps24
        go_wp2_with fail
        refine hm.mono ?_
        rintro e W ⟨rfl, hW⟩
        replace hW := hW.symm
        subst hW
        go_wp2_with fail
        go_quiet (fail)
        go_wp2_with fail
        go_quiet (fail)
        all_goals go_wp2_with fail
        all_goals refine bodyPost_ret (results_none rfl _ _ _) rfl ?_
        all_goals exact ⟨rfl, unhide F' _⟩
      · have cp : 0 < s.rise := by omega
        have ci' := ci cp
        have hd1 : decide (0 < s.rise) = true := decide_eq_true cp
        have hz : (s.rise == 0) = false := by simpa using cz
        have q0 : 0 ≤ ((s.burst - s.left) * s.span - s.rest + s.rise - 1) / s.rise := Int.ediv_nonneg (by omega) (by omega)
        have q1 := Int.ediv_le_self s.rise (show 0 ≤ (s.burst - s.left) * s.span - s.rest + s.rise - 1 by omega)
        have i4 : IntKind.i64.wrap ((s.burst - s.left) * s.span - s.rest + s.rise) = (s.burst - s.left) * s.span - s.rest + s.rise := by
          generalize (s.burst - s.left) * s.span = M at *
          rw [IntKind.wrap_i64]; omega
        have i5 : IntKind.i64.wrap ((s.burst - s.left) * s.span - s.rest + s.rise - 1) = (s.burst - s.left) * s.span - s.rest + s.rise - 1 := by
          generalize (s.burst - s.left) * s.span = M at *
          rw [IntKind.wrap_i64]; omega
        have i6 : IntKind.i64.wrap (Int.tdiv ((s.burst - s.left) * s.span - s.rest + s.rise - 1) s.rise) = ((s.burst - s.left) * s.span - s.rest + s.rise - 1) / s.rise := by
          rw [Int.tdiv_eq_ediv_of_nonneg (by omega), IntKind.wrap_i64]
          generalize (s.burst - s.left) * s.span = M at *
          omega
        by_cases cc : ((s.burst - s.left) * s.span - s.rest + s.rise - 1) / s.rise ≤ T - s.clock
        · have full := hfi.2 (ci'.1 cc)
          have F' := hide (fun q => unhide FY q full)
          clear FY FN FZ hfi PE PB1 ci ci' q0 q1
          generalize ((s.burst - s.left) * s.span - s.rest + s.rise - 1) / s.rise = C at *
          go_enter Try.func24, Try.ntmps24
          go_wp2_with fail
          refine hm.mono ?_
          rintro e W ⟨rfl, hW⟩
          replace hW := hW.symm
          subst hW
          go_wp2_with fail
          go_quiet (fail)
          go_wp2_with fail
          go_quiet (fail)
          all_goals go_wp2_with fail
          all_goals refine bodyPost_ret (results_none rfl _ _ _) rfl ?_
          all_goals exact ⟨rfl, unhide F' _⟩
        · have nfl : ¬ (s.burst - s.left) * s.span - s.rest ≤ (T - s.clock) * s.rise := fun k => cc (ci'.2 k)
          have nf : ¬ s.burst - s.left ≤ parts x s / s.span := fun k => nfl (hfi.1 k)
          have F' := hide (fun q => unhide FN q nf)
          rw [← Int.tmod_eq_emod_of_nonneg (PB1 (by omega)).1] at F'
          obtain ⟨pb0, pb1⟩ := PB1 (by omega)
          have j1 : IntKind.i64.wrap ((T - s.clock) * s.rise) = (T - s.clock) * s.rise := by
            rw [IntKind.wrap_i64]
            generalize (T - s.clock) * s.rise = M at *
            generalize (s.burst - s.left) * s.span = N at *
            omega
          have j2 : IntKind.i64.wrap (s.rest + (T - s.clock) * s.rise) = parts x s := by
            rw [← PE, IntKind.wrap_i64]; omega
          have u0 : 0 ≤ parts x s / s.span := Int.ediv_nonneg pb0 (by omega)
          have u1 := Int.ediv_le_self s.span pb0
          have m0 := Int.emod_nonneg (parts x s) (show s.span ≠ 0 by omega)
          have m1 := Int.emod_lt_of_pos (parts x s) (show 0 < s.span by omega)
          have j3 : IntKind.i64.wrap (Int.tdiv (parts x s) s.span) = parts x s / s.span := by
            rw [Int.tdiv_eq_ediv_of_nonneg pb0, IntKind.wrap_i64]; omega
          have j4 : IntKind.i64.wrap (s.left + parts x s / s.span) = s.left + parts x s / s.span := by
            rw [IntKind.wrap_i64]; omega
          have nz : s.span ≠ 0 := by omega
          clear FY FN FZ hfi PE PB1 ci ci' q0 q1 nf nfl u0 u1 m0 m1 pb0 pb1
          generalize parts x s / s.span = QQ at *
          generalize parts x s = PP at *
          generalize ((s.burst - s.left) * s.span - s.rest + s.rise - 1) / s.rise = C at *
          go_enter Try.func24, Try.ntmps24
          go_wp2_with fail
          refine hm.mono ?_
          rintro e W ⟨rfl, hW⟩
          replace hW := hW.symm
          subst hW
          go_wp2_with fail
          go_quiet (fail)
          go_wp2_with fail
          go_quiet (fail)
          go_wp2_with fail
          go_quiet (fail)
          go_wp2_with fail
          go_region
          all_goals go_wp2_with fail
          all_goals refine bodyPost_end (results_none rfl _ _ _) rfl ?_
          all_goals exact ⟨rfl, unhide F' _⟩
end Go.Proofs.Ytlfldbagbafjfaa
