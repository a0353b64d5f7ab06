/- Out: Wants and Blocked. -/
import Derived.Test.YtgmjminpgliilaaC7B
import Derived.BigQuiet
namespace Go.Proofs.Ytgmjminpgliilaa
open Go.RowKit
set_option linter.unusedVariables false
set_option maxRecDepth 100000
set_option maxHeartbeats 1000000

theorem wants_any (b : Nat) (s : Ou) (w : World) (h : OB 58 w b s) (ok : s.Ok) : Calls Try.prog 29 #[ptr b] w fun e w' => e = .returned (.bool (wantB s)) ∧ ∃ q, w' = w.drewN q := by
  have hr := fun X (g : w.grownBy X none) => room_any b s X (h.grown g) ok
  obtain ⟨t, c0, c1, c2⟩ := h.full
  by_cases d : s.limit - s.used = 0
  · have d1 : (s.limit - s.used == 0) = true := by simpa using d
    have d1' : s.limit - s.used = 0 := d
    by_cases d' : s.limit = s.told
    · have E : Hid (wantB s = false) := by show _ = _; unfold wantB; rw [decide_eq_false (by omega)]
      have d2 : (s.limit != s.told) = false := by simp [d']
      have d3 : (s.limit == s.told) = true := by simpa using d'
      rw [d] at hr
      have q1 := fun n => hr _ (grown_drewN (q := n) (World.grownBy.refl w none))
      generalize s.limit = L at *
      generalize s.used = U at *
      generalize s.told = V at *
      clear h ok hr d d1' d'
      go_enter Try.func29, Try.ntmps29
      go_wp2_with fail
      go_quiet (exact Calls.quiet_of (q1 _))
      go_wp2
      go_ret
      exact ⟨ret_beq' E, _, rfl⟩
    · have E : Hid (wantB s = true) := by show _ = _; unfold wantB; rw [decide_eq_true ⟨d, d'⟩]
      have d2 : (s.limit != s.told) = true := by simpa using d'
      have d3 : (s.limit == s.told) = false := by simpa using d'
      rw [d] at hr
      have q1 := fun n => hr _ (grown_drewN (q := n) (World.grownBy.refl w none))
      generalize s.limit = L at *
      generalize s.used = U at *
      generalize s.told = V at *
      clear h ok hr d d1' d'
      go_enter Try.func29, Try.ntmps29
      go_wp2_with fail
      go_quiet (exact Calls.quiet_of (q1 _))
      go_wp2
      go_ret
      exact ⟨ret_beq' E, _, rfl⟩
  · have d1 : (s.limit - s.used == 0) = false := by simpa using d
    have E : Hid (wantB s = false) := by show _ = _; unfold wantB; rw [decide_eq_false (fun c => d c.1)]
    generalize s.limit - s.used = R at *
    have q1 := fun n => hr _ (grown_drewN (q := n) (World.grownBy.refl w none))
    have d2 : decide (R = 0) = false := decide_eq_false d
    generalize s.limit = L at *
    generalize s.used = U at *
    generalize s.told = V at *
    clear h ok hr
    go_enter Try.func29, Try.ntmps29
    go_wp2_with fail
    go_quiet (exact Calls.quiet_of (q1 _))
    go_wp2
    go_ret
    exact ⟨ret_beq' E, _, rfl⟩

theorem blk_any (b : Nat) (s : Ou) (w : World) (h : OB 58 w b s) (ok : s.Ok) : Calls Try.prog 22 #[ptr b] w fun e w' => e = .returned (.tuple #[.int .i64 (blkN s), .bool (wantB s)]) ∧ OB 58 w' b (blkF s) ∧ w.grownBy w' (some b) := by
  have hw := wants_any b s w h ok
  obtain ⟨t, c0, c1, c2⟩ := h.full
  cases hc : wantB s with
  | false =>
    have E : Hid (blkN s = 0) := by show _ = _; unfold blkN; rw [hc]; rfl
    have F : Hid (∀ q : Nat, OB 58 (w.drewN q) b (blkF s) ∧ w.grownBy (w.drewN q) (some b)) := by unfold blkF; rw [hc]; exact fun q => ⟨h, drewSN (World.grownBy.refl _ _) q⟩
    rw [hc] at hw
    clear h ok hc
    go_enter Try.func22, Try.ntmps22
    go_wp2_with fail
    refine hw.mono ?_
    rintro e W ⟨rfl, q, rfl⟩
    go_wp2
    go_ret2
    exact ⟨ret_two E (hide rfl), unhide F _⟩
  | true =>
    have E : Hid (blkN s = s.limit) := by show _ = _; unfold blkN; rw [hc]; rfl
    have F : Hid (∀ q : Nat, OB 58 ((w.drewN q).setCell ⟨b, 2, none⟩ (.int .i64 s.limit)) b (blkF s) ∧ w.grownBy ((w.drewN q).setCell ⟨b, 2, none⟩ (.int .i64 s.limit)) (some b)) := by unfold blkF; rw [hc]; exact fun q => ⟨Blk.setC (show Blk (w.drewN q) b (oc s) _ from h) 2 _, grown_at (drewSN (World.grownBy.refl _ _) q) 2 _⟩
    rw [hc] at hw
    clear h ok hc
    go_enter Try.func22, Try.ntmps22
    go_wp2_with fail
    refine hw.mono ?_
    rintro e W ⟨rfl, q, rfl⟩
    go_wp2
    go_ret2
    exact ⟨ret_two E (hide rfl), unhide F _⟩

theorem rwants_any (b : Nat) (s : Ou) (w : World) (h : OB 60 w b s) (ok : s.Ok) : Calls Try.prog 30 #[ptr b] w fun e w' => e = .returned (.bool (wantB s)) ∧ ∃ q, w' = w.drewN q := by
  obtain ⟨t, c0, c1, c2⟩ := h.full
  by_cases d : s.limit - s.used = 0
  · have d1 : (s.limit == s.used) = true := by simpa using (by omega : s.limit = s.used)
    by_cases d' : s.limit = s.told
    · have E : Hid (wantB s = false) := by show _ = _; unfold wantB; rw [decide_eq_false (by omega)]
      have d2 : (s.told != s.limit) = false := by simp [d']
      have d3 : (s.told == s.limit) = true := by simp [d']
      generalize s.limit = L at *
      generalize s.used = U at *
      generalize s.told = V at *
      clear h ok d d'
      go_enter Try.func30, Try.ntmps30
      go_wp2_with fail
      go_quiet (fail)
      go_wp2
      go_ret
      exact ⟨ret_beq' E, _, rfl⟩
    · have E : Hid (wantB s = true) := by show _ = _; unfold wantB; rw [decide_eq_true ⟨d, d'⟩]
      have d2 : (s.told != s.limit) = true := by simpa using (by omega : ¬ s.told = s.limit)
      have d3 : (s.told == s.limit) = false := by simpa using (by omega : ¬ s.told = s.limit)
      generalize s.limit = L at *
      generalize s.used = U at *
      generalize s.told = V at *
      clear h ok d d'
      go_enter Try.func30, Try.ntmps30
      go_wp2_with fail
      go_quiet (fail)
      go_wp2
      go_ret
      exact ⟨ret_beq' E, _, rfl⟩
  · have d1 : (s.limit == s.used) = false := by simpa using (by omega : ¬ s.limit = s.used)
    have E : Hid (wantB s = false) := by show _ = _; unfold wantB; rw [decide_eq_false (fun c => d c.1)]
    have d2 : ¬ s.limit = s.used := by omega
    have d3 : decide (s.limit = s.used) = false := decide_eq_false d2
    generalize s.limit = L at *
    generalize s.used = U at *
    generalize s.told = V at *
    clear h ok d
    go_enter Try.func30, Try.ntmps30
    go_wp2_with fail
    go_quiet (fail)
    go_wp2
    go_ret
    exact ⟨ret_beq' E, _, rfl⟩

theorem rblk_any (b : Nat) (s : Ou) (w : World) (h : OB 60 w b s) (ok : s.Ok) : Calls Try.prog 26 #[ptr b] w fun e w' => e = .returned (.tuple #[.int .i64 (blkN s), .bool (wantB s)]) ∧ OB 60 w' b (blkF s) ∧ w.grownBy w' (some b) := by
  have hw := rwants_any b s w h ok
  obtain ⟨t, c0, c1, c2⟩ := h.full
  cases hc : wantB s with
  | false =>
    have E : Hid (blkN s = 0) := by show _ = _; unfold blkN; rw [hc]; rfl
    have F : Hid (∀ q : Nat, OB 60 (w.drewN q) b (blkF s) ∧ w.grownBy (w.drewN q) (some b)) := by unfold blkF; rw [hc]; exact fun q => ⟨h, drewSN (World.grownBy.refl _ _) q⟩
    rw [hc] at hw
    clear h ok hc
    go_enter Try.func26, Try.ntmps26
    go_wp2_with fail
    refine hw.mono ?_
    rintro e W ⟨rfl, q, rfl⟩
    go_wp2
    go_ret2
    exact ⟨ret_two E (hide rfl), unhide F _⟩
  | true =>
    have E : Hid (blkN s = s.limit) := by show _ = _; unfold blkN; rw [hc]; rfl
    have F : Hid (∀ q : Nat, OB 60 ((w.drewN q).setCell ⟨b, 2, none⟩ (.int .i64 s.limit)) b (blkF s) ∧ w.grownBy ((w.drewN q).setCell ⟨b, 2, none⟩ (.int .i64 s.limit)) (some b)) := by unfold blkF; rw [hc]; exact fun q => ⟨Blk.setC (show Blk (w.drewN q) b (oc s) _ from h) 2 _, grown_at (drewSN (World.grownBy.refl _ _) q) 2 _⟩
    rw [hc] at hw
    clear h ok hc
    go_enter Try.func26, Try.ntmps26
    go_wp2_with fail
    refine hw.mono ?_
    rintro e W ⟨rfl, q, rfl⟩
    go_wp2
    go_ret2
    exact ⟨ret_two E (hide rfl), unhide F _⟩

end Go.Proofs.Ytgmjminpgliilaa
