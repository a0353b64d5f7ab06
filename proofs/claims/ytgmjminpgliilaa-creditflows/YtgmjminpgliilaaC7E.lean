/- In: Wants, Update. -/
import Derived.Test.YtgmjminpgliilaaC7C
import Derived.BigQuiet
namespace Go.Proofs.Ytgmjminpgliilaa
open Go.RowKit
set_option linter.unusedVariables false
set_option maxRecDepth 100000
set_option maxHeartbeats 1000000

theorem wanti_any (b : Nat) (s : Ind) (w : World) (h : IB 64 w b s) (ok : s.Ok) : Calls Try.prog 36 #[ptr b] w fun e w' => e = .returned (.bool (wantI s)) ∧ ∃ q, w' = w.drewN q := by
  have q1 := fun n => next_any b s (w.drewN n) h ok
  have q0 := next_any b s w h ok
  obtain ⟨t, c0, c1, c2, c3, c4⟩ := h.full
  have l := ok.w
  have u := ok.l
  obtain ⟨n1, n2, n3⟩ := next_b ok
  have i1 : IntKind.i64.wrap (nextF s - s.limit) = nextF s - s.limit := by rw [IntKind.wrap_i64]; omega
  have i2 : IntKind.i64.wrap (Int.tdiv s.window 2) = s.window / 2 := by rw [Int.tdiv_eq_ediv_of_nonneg l.1, IntKind.wrap_i64]; omega
  have i2' : Int.tdiv s.window 2 = s.window / 2 := Int.tdiv_eq_ediv_of_nonneg l.1
  have i2'' : IntKind.i64.wrap (s.window / 2) = s.window / 2 := by rw [IntKind.wrap_i64]; omega
  have i3 : IntKind.i64.wrap (s.window - s.window / 2) = s.window - s.window / 2 := by rw [IntKind.wrap_i64]; omega
  have E0 : Hid (∀ z, z = (s.again || decide (0 < nextF s - s.limit ∧ s.window - s.window / 2 ≤ nextF s - s.limit)) → wantI s = z) := by rintro z rfl; rfl
  clear h ok
  generalize nextF s = X at *
  generalize s.limit = L at *
  generalize s.window = D at *
  cases hb : s.again with
  | true =>
    rw [hb] at c4 E0
    have E : Hid (wantI s = true) := unhide E0 true (by simp)
    clear E0 hb
    · skip
      go_enter Try.func36, Try.ntmps36
      go_wp2_with fail
      go_quiet (exact Calls.quiet_of (q1 _))
      go_wp2
      go_ret
      exact ⟨ret_beq' E, _, rfl⟩
  | false =>
    rw [hb] at c4 E0
    by_cases d : 0 < X - L
    · have d1 : decide (0 < X - L) = true := decide_eq_true d
      have e1 : L < X := by omega
      have e2 : decide (L < X) = true := decide_eq_true e1
      by_cases d' : D - D / 2 ≤ X - L
      · have d2 : decide (D - D / 2 ≤ X - L) = true := decide_eq_true d'
        have E : Hid (wantI s = true) := unhide E0 true (by rw [decide_eq_true ⟨d, d'⟩]; rfl)
        clear E0 hb n1 n3
        go_enter Try.func36, Try.ntmps36
        go_wp2_with fail
        go_quiet (exact Calls.quiet_of (q1 _))
        go_wp2
        go_ret
        exact ⟨ret_beq' E, _, rfl⟩
      · have d2 : decide (D - D / 2 ≤ X - L) = false := decide_eq_false d'
        have E : Hid (wantI s = false) := unhide E0 false (by rw [decide_eq_false (fun c => d' c.2)]; rfl)
        clear E0 hb n1 n3
        go_enter Try.func36, Try.ntmps36
        go_wp2_with fail
        go_quiet (exact Calls.quiet_of (q1 _))
        go_wp2
        go_ret
        exact ⟨ret_beq' E, _, rfl⟩
    · have d1 : decide (0 < X - L) = false := decide_eq_false d
      have e1 : ¬ L < X := by omega
      have e2 : decide (L < X) = false := decide_eq_false e1
      have E : Hid (wantI s = false) := unhide E0 false (by rw [decide_eq_false (fun c => d c.1)]; rfl)
      clear E0 hb n1 n3
      go_enter Try.func36, Try.ntmps36
      go_wp2_with fail
      go_quiet (exact Calls.quiet_of (q1 _))
      go_wp2
      go_ret
      exact ⟨ret_beq' E, _, rfl⟩

theorem upd_any (b : Nat) (s : Ind) (w : World) (h : IB 64 w b s) (ok : s.Ok) : Calls Try.prog 18 #[ptr b] w fun e w' => e = .returned (.tuple #[.int .i64 (updN s), .bool (wantI s)]) ∧ IB 64 w' b (updF s) ∧ w.grownBy w' (some b) := by
  have hw := wanti_any b s w h ok
  have hn := fun q => next_any b s (w.drewN q) h ok
  obtain ⟨t, c0, c1, c2, c3, c4⟩ := h.full
  cases hc : wantI s with
  | false =>
    have E : Hid (updN s = 0) := by show _ = _; unfold updN; rw [hc]; rfl
    have F : Hid (∀ q : Nat, IB 64 (w.drewN q) b (updF s) ∧ w.grownBy (w.drewN q) (some b)) := by unfold updF; rw [hc]; exact fun q => ⟨h, drewSN (World.grownBy.refl _ _) q⟩
    rw [hc] at hw
    clear h ok hc
    go_enter Try.func18, Try.ntmps18
    go_wp2_with fail
    refine hw.mono ?_
    rintro e W ⟨rfl, q, rfl⟩
    go_wp2
    go_ret2
    exact ⟨ret_two E (hide rfl), unhide F _⟩
  | true =>
    have E : Hid (updN s = nextF s) := by show _ = _; unfold updN; rw [hc]; rfl
    have F : Hid (∀ q : Nat, IB 64 (((w.drewN q).setCell ⟨b, 1, none⟩ (.int .i64 (nextF s))).setCell ⟨b, 4, none⟩ (.bool false)) b (updF s) ∧ w.grownBy (((w.drewN q).setCell ⟨b, 1, none⟩ (.int .i64 (nextF s))).setCell ⟨b, 4, none⟩ (.bool false)) (some b)) := by
      unfold updF; rw [hc]
      exact fun q => ⟨Blk.setC (Blk.setC (show Blk (w.drewN q) b (ic s) _ from h) 1 (.int .i64 (nextF s))) 4 (.bool false), grown_at (grown_at (drewSN (World.grownBy.refl _ _) q) 1 _) 4 _⟩
    rw [hc] at hw
    generalize nextF s = X at *
    clear h ok hc
    go_enter Try.func18, Try.ntmps18
    go_wp2_with fail
    refine hw.mono ?_
    rintro e W ⟨rfl, q, rfl⟩
    go_wp2_with fail
    refine (hn q).mono ?_
    rintro e W ⟨rfl, q2, rfl⟩
    go_wp2
    go_ret2
    exact ⟨ret_two E (hide rfl), unhide F _⟩

theorem rwanti_any (b : Nat) (s : Ind) (w : World) (h : IB 66 w b s) (ok : s.Ok) : Calls Try.prog 37 #[ptr b] w fun e w' => e = .returned (.bool (wantI s)) ∧ ∃ q, w' = w.drewN q := by
  have q1 := fun n => rnext_any b s (w.drewN n) h ok
  have q0 := rnext_any b s w h ok
  obtain ⟨t, c0, c1, c2, c3, c4⟩ := h.full
  have l := ok.w
  have u := ok.l
  obtain ⟨n1, n2, n3⟩ := next_b ok
  have i1 : IntKind.i64.wrap (nextF s - s.limit) = nextF s - s.limit := by rw [IntKind.wrap_i64]; omega
  have i2 : IntKind.i64.wrap (Int.tdiv s.window 2) = s.window / 2 := by rw [Int.tdiv_eq_ediv_of_nonneg l.1, IntKind.wrap_i64]; omega
  have i2' : Int.tdiv s.window 2 = s.window / 2 := Int.tdiv_eq_ediv_of_nonneg l.1
  have i2'' : IntKind.i64.wrap (s.window / 2) = s.window / 2 := by rw [IntKind.wrap_i64]; omega
  have i3 : IntKind.i64.wrap (s.window - s.window / 2) = s.window - s.window / 2 := by rw [IntKind.wrap_i64]; omega
  have E0 : Hid (∀ z, z = (s.again || decide (0 < nextF s - s.limit ∧ s.window - s.window / 2 ≤ nextF s - s.limit)) → wantI s = z) := by rintro z rfl; rfl
  clear h ok
  generalize nextF s = X at *
  generalize s.limit = L at *
  generalize s.window = D at *
  cases hb : s.again with
  | true =>
    rw [hb] at c4 E0
    have E : Hid (wantI s = true) := unhide E0 true (by simp)
    clear E0 hb
    · skip
      go_enter Try.func37, Try.ntmps37
      go_wp2_with fail
      refine (q0).mono ?_
      rintro e W ⟨rfl, q, rfl⟩
      clear q0
      go_wp2_with fail
      go_quiet (fail)
      go_wp2
      go_ret
      exact ⟨ret_beq' E, _, by first | rfl | (rw [World.drewN_drewN])⟩
  | false =>
    rw [hb] at c4 E0
    by_cases d : 0 < X - L
    · have d1 : decide (0 < X - L) = true := decide_eq_true d
      have e1 : L < X := by omega
      have e2 : decide (L < X) = true := decide_eq_true e1
      by_cases d' : D - D / 2 ≤ X - L
      · have d2 : decide (D - D / 2 ≤ X - L) = true := decide_eq_true d'
        have E : Hid (wantI s = true) := unhide E0 true (by rw [decide_eq_true ⟨d, d'⟩]; rfl)
        clear E0 hb n1 n3
        go_enter Try.func37, Try.ntmps37
        go_wp2_with fail
        refine (q0).mono ?_
        rintro e W ⟨rfl, q, rfl⟩
        clear q0
        go_wp2_with fail
        go_quiet (fail)
        go_wp2
        go_ret
        exact ⟨ret_beq' E, _, by first | rfl | (rw [World.drewN_drewN])⟩
      · have d2 : decide (D - D / 2 ≤ X - L) = false := decide_eq_false d'
        have E : Hid (wantI s = false) := unhide E0 false (by rw [decide_eq_false (fun c => d' c.2)]; rfl)
        clear E0 hb n1 n3
        go_enter Try.func37, Try.ntmps37
        go_wp2_with fail
        refine (q0).mono ?_
        rintro e W ⟨rfl, q, rfl⟩
        clear q0
        go_wp2_with fail
        go_quiet (fail)
        go_wp2
        go_ret
        exact ⟨ret_beq' E, _, by first | rfl | (rw [World.drewN_drewN])⟩
    · have d1 : decide (0 < X - L) = false := decide_eq_false d
      have e1 : ¬ L < X := by omega
      have e2 : decide (L < X) = false := decide_eq_false e1
      have E : Hid (wantI s = false) := unhide E0 false (by rw [decide_eq_false (fun c => d c.1)]; rfl)
      clear E0 hb n1 n3
      go_enter Try.func37, Try.ntmps37
      go_wp2_with fail
      refine (q0).mono ?_
      rintro e W ⟨rfl, q, rfl⟩
      clear q0
      go_wp2_with fail
      go_quiet (fail)
      go_wp2
      go_ret
      exact ⟨ret_beq' E, _, by first | rfl | (rw [World.drewN_drewN])⟩

theorem rupd_any (b : Nat) (s : Ind) (w : World) (h : IB 66 w b s) (ok : s.Ok) : Calls Try.prog 34 #[ptr b] w fun e w' => e = .returned (.tuple #[.int .i64 (updN s), .bool (wantI s)]) ∧ IB 66 w' b (updF s) ∧ w.grownBy w' (some b) := by
  have hw := rwanti_any b s w h ok
  have hn := fun q => rnext_any b s (w.drewN q) h ok
  obtain ⟨t, c0, c1, c2, c3, c4⟩ := h.full
  cases hc : wantI s with
  | false =>
    have E : Hid (updN s = 0) := by show _ = _; unfold updN; rw [hc]; rfl
    have F : Hid (∀ q : Nat, IB 66 (w.drewN q) b (updF s) ∧ w.grownBy (w.drewN q) (some b)) := by unfold updF; rw [hc]; exact fun q => ⟨h, drewSN (World.grownBy.refl _ _) q⟩
    rw [hc] at hw
    clear h ok hc
    go_enter Try.func34, Try.ntmps34
    go_wp2_with fail
    refine hw.mono ?_
    rintro e W ⟨rfl, q, rfl⟩
    go_wp2
    go_ret2
    exact ⟨ret_two E (hide rfl), unhide F _⟩
  | true =>
    have E : Hid (updN s = nextF s) := by show _ = _; unfold updN; rw [hc]; rfl
    have F : Hid (∀ q : Nat, IB 66 (((w.drewN q).setCell ⟨b, 1, none⟩ (.int .i64 (nextF s))).setCell ⟨b, 4, none⟩ (.bool false)) b (updF s) ∧ w.grownBy (((w.drewN q).setCell ⟨b, 1, none⟩ (.int .i64 (nextF s))).setCell ⟨b, 4, none⟩ (.bool false)) (some b)) := by
      unfold updF; rw [hc]
      exact fun q => ⟨Blk.setC (Blk.setC (show Blk (w.drewN q) b (ic s) _ from h) 1 (.int .i64 (nextF s))) 4 (.bool false), grown_at (grown_at (drewSN (World.grownBy.refl _ _) q) 1 _) 4 _⟩
    rw [hc] at hw
    generalize nextF s = X at *
    clear h ok hc
    go_enter Try.func34, Try.ntmps34
    go_wp2_with fail
    refine hw.mono ?_
    rintro e W ⟨rfl, q, rfl⟩
    go_wp2_with fail
    refine (hn q).mono ?_
    rintro e W ⟨rfl, q2, rfl⟩
    go_wp2
    go_ret2
    exact ⟨ret_two E (hide rfl), unhide F _⟩

end Go.Proofs.Ytgmjminpgliilaa
