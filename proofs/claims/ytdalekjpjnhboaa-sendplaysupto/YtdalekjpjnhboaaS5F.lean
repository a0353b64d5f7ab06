/- release, done, finWaits, ofSent, Fin, Stop. -/
import Derived.Test.YtdalekjpjnhboaaS5A
import Derived.Test.YtdalekjpjnhboaaS5O
import Derived.BigQuiet
import Derived.Deep.RegionHeld3
namespace Go.Proofs.Ytdalekjpjnhboaa
open Go.RowKit
set_option linter.unusedVariables false
set_option maxHeartbeats 1000000
set_option maxRecDepth 100000

theorem beq_no {x y : Int} (h : ¬ x = y) : (x == y) = false := by simp [h]
theorem beq_yes {x y : Int} (h : x = y) : (x == y) = true := by simp [h]

section
variable {w W : World} {M : Nat → Prop} {b ba bl : Nat} {vh : Value} {S : Sd}

theorem release_at (h : At w M b ba bl vh W S) : Calls Try.prog 46 #[ptr b] W fun e W' => e = .returned (.tuple #[]) ∧ ∃ vh', At w M b ba bl vh' W' S := by
  obtain ⟨c0, c1, c2, c3, c4, c5, c6, c7, c8, c9⟩ := h.cells
  have t1 := h.blk.thaw 1
  have F0 : Hid (∀ q, At w M b ba bl vh (W.drewN q) S) := fun q => h.grown (grown_drewN W q)
  have F1 : Hid (Gone S → ∀ q, At w M b ba bl nilS ((W.drewN q).setCell ⟨b, 1, none⟩ nilS) S) := fun hg q => (h.grown (grown_drewN W q)).held nilS (.inl ⟨rfl, hg⟩) (fun g e => by simp [Value.ownBlock] at e)
  have G := hide (show Gone S = (S.T = [] ∨ S.stopped = true ∨ (S.ended = true ∧ S.base = wr S)) from rfl)
  clear h
  generalize hst : S.stopped = st at *
  generalize hen : S.ended = en at *
  generalize hba : S.base = x at *
  generalize hwr : wr S = y at *
  have HS := hide hst; have HE := hide hen; have HB := hide hba; have HW := hide hwr
  clear hst hen hba hwr c0 c3 c5 c6 c8
  cases st with
  | true =>
    go_enter Try.func46, Try.ntmps46
    go_wp2
    go_quiet (fail)
    go_wp2
    refine bodyPost_end (results_none rfl _ _ _) rfl ?_
    exact ⟨rfl, _, unhide F1 (by rw [unhide G]; exact .inr (.inl trivial)) _⟩
  | false =>
    cases en with
    | false =>
      go_enter Try.func46, Try.ntmps46
      go_wp2
      go_quiet (fail)
      go_wp2
      refine bodyPost_end (results_none rfl _ _ _) rfl ?_
      exact ⟨rfl, _, unhide F0 _⟩
    | true =>
      by_cases hxy : x = y
      · have hq := beq_yes hxy
        have HQ := hide hxy
        clear hxy
        go_enter Try.func46, Try.ntmps46
        go_wp2
        go_quiet (fail)
        go_wp2
        refine bodyPost_end (results_none rfl _ _ _) rfl ?_
        exact ⟨rfl, _, unhide F1 (by rw [unhide G]; exact .inr (.inr ⟨trivial, unhide HQ⟩)) _⟩
      · have hq := beq_no hxy
        go_enter Try.func46, Try.ntmps46
        go_wp2
        go_quiet (fail)
        go_wp2
        refine bodyPost_end (results_none rfl _ _ _) rfl ?_
        exact ⟨rfl, _, unhide F0 _⟩

theorem done_at (h : At w M b ba bl vh W S) : Calls Try.prog 44 #[ptr b] W fun e W' => e = .returned (.bool (doneB S)) ∧ ∃ q, W' = W.drewN q := by
  obtain ⟨c0, c1, c2, c3, c4, c5, c6, c7, c8, c9⟩ := h.cells
  unfold doneB
  clear h c0 c1 c3 c5 c6 c9
  generalize S.ended = en at *
  generalize S.base = x at *
  generalize wr S = y at *
  generalize S.fin = f at *
  cases en with
  | false =>
    go_enter Try.func44, Try.ntmps44
    go_wp2
    go_quiet (fail)
    go_wp2
    go_ret
    exact ⟨by simp, _, rfl⟩
  | true =>
    by_cases hxy : x = y
    · have hq := beq_yes hxy
      have HQ := hide hxy
      clear hxy
      by_cases hf : f = 3
      · have hq2 := beq_yes hf
        have HF := hide hf
        clear hf
        go_enter Try.func44, Try.ntmps44
        go_wp2
        go_quiet (fail)
        go_wp2
        go_ret
        exact ⟨by simp [unhide HQ, unhide HF], _, rfl⟩
      · have hq2 := beq_no hf
        go_enter Try.func44, Try.ntmps44
        go_wp2
        go_quiet (fail)
        go_wp2
        go_ret
        exact ⟨by simp [hf], _, rfl⟩
    · have hq := beq_no hxy
      go_enter Try.func44, Try.ntmps44
      go_wp2
      go_quiet (fail)
      go_wp2
      go_ret
      exact ⟨by simp [hxy], _, rfl⟩

theorem finW_at (h : At w M b ba bl vh W S) : Calls Try.prog 71 #[ptr b] W fun e W' => e = .returned (.bool (finW S)) ∧ ∃ q, W' = W.drewN q := by
  obtain ⟨c0, c1, c2, c3, c4, c5, c6, c7, c8, c9⟩ := h.cells
  unfold finW
  clear h c0 c1 c4 c5 c6 c9
  generalize S.ended = en at *
  generalize S.sent = x at *
  generalize wr S = y at *
  generalize S.fin = f at *
  cases en with
  | false =>
    go_enter Try.func71, Try.ntmps71
    go_wp2
    go_quiet (fail)
    go_wp2
    go_ret
    exact ⟨by simp, _, rfl⟩
  | true =>
    by_cases hxy : x = y
    · have hq := beq_yes hxy
      have HQ := hide hxy
      clear hxy
      by_cases hf : f = 0
      · have hq2 := beq_yes hf
        have HF := hide hf
        clear hf
        go_enter Try.func71, Try.ntmps71
        go_wp2
        go_quiet (fail)
        go_wp2
        go_ret
        exact ⟨by simp [unhide HQ, unhide HF], _, rfl⟩
      · have hq2 := beq_no hf
        by_cases hf2 : f = 2
        · have hq3 := beq_yes hf2
          have HF := hide hf2
          clear hf2 hf
          go_enter Try.func71, Try.ntmps71
          go_wp2
          go_quiet (fail)
          go_wp2
          go_ret
          exact ⟨by simp [unhide HQ, unhide HF], _, rfl⟩
        · have hq3 := beq_no hf2
          go_enter Try.func71, Try.ntmps71
          go_wp2
          go_quiet (fail)
          go_wp2
          go_ret
          exact ⟨by simp [hf, hf2], _, rfl⟩
    · have hq := beq_no hxy
      go_enter Try.func71, Try.ntmps71
      go_wp2
      go_quiet (fail)
      go_wp2
      go_ret
      exact ⟨by simp [hxy], _, rfl⟩

theorem ofSent_at (h : At w M b ba bl vh W S) (h0 : 0 ≤ S.sent ∧ S.sent ≤ 1152921504606846976) (off size : Int) (ho : -9223372036854775808 ≤ off ∧ off ≤ 9223372036854775807) (hs : -9223372036854775808 ≤ size ∧ size ≤ 9223372036854775807) :
    Calls Try.prog 40 #[ptr b, .int .i64 off, .int .i64 size] W fun e W' => e = .returned (.tuple #[.int .i64 (ofS S off size).1, .int .i64 (ofS S off size).2]) ∧ ∃ q, W' = W.drewN q := by
  obtain ⟨c0, c1, c2, c3, c4, c5, c6, c7, c8, c9⟩ := h.cells
  unfold ofS
  clear h c0 c1 c2 c4 c5 c6 c7 c8 c9
  generalize S.sent = x at *
  by_cases h1 : size < 1
  · rw [if_pos h1]
    have d1 : decide (size < 1) = true := decide_eq_true h1
    go_enter Try.func40, Try.ntmps40
    go_wp2
    go_ret2
    exact ⟨rfl, 0, rfl⟩
  · rw [if_neg h1]
    have d1 : decide (size < 1) = false := decide_eq_false h1
    by_cases h2 : off < 0
    · rw [if_pos h2]
      have d2 : decide (off < 0) = true := decide_eq_true h2
      have w1 : IntKind.i64.wrap (off + size) = off + size := by rw [IntKind.wrap_i64]; omega
      have w2 : IntKind.i64.wrap (x - 0) = x := by rw [IntKind.wrap_i64]; omega
      have w2' : IntKind.i64.wrap x = x := by rw [IntKind.wrap_i64]; omega
      by_cases h3 : off + size ≤ x
      · have w3 : IntKind.i64.wrap (off + size - 1) = off + size - 1 := by rw [IntKind.wrap_i64]; omega
        have e3 : min (off + size) x = off + size := by omega
        rw [e3]
        go_enter Try.func40, Try.ntmps40
        go_wp2
        go_region
        all_goals go_wp2
        all_goals go_ret2
        all_goals exact ⟨by simp [*]; try omega, _, rfl⟩
      · have w3 : IntKind.i64.wrap (x - 1) = x - 1 := by rw [IntKind.wrap_i64]; omega
        have e3 : min (off + size) x = x := by omega
        rw [e3]
        go_enter Try.func40, Try.ntmps40
        go_wp2
        go_region
        all_goals go_wp2
        all_goals go_ret2
        all_goals exact ⟨by simp [*]; try omega, _, rfl⟩
    · rw [if_neg h2]
      have d2 : decide (off < 0) = false := decide_eq_false h2
      have w2 : IntKind.i64.wrap (x - off) = x - off := by rw [IntKind.wrap_i64]; omega
      by_cases h3 : size ≤ x - off
      · have w3 : IntKind.i64.wrap (off + size) = off + size := by rw [IntKind.wrap_i64]; omega
        have w4 : IntKind.i64.wrap (off + size - 1) = off + size - 1 := by rw [IntKind.wrap_i64]; omega
        have e3 : min size (x - off) = size := by omega
        rw [e3]
        go_enter Try.func40, Try.ntmps40
        go_wp2
        go_region
        all_goals go_wp2
        all_goals go_ret2
        all_goals exact ⟨by simp [*]; try omega, _, rfl⟩
      · have w3 : IntKind.i64.wrap (off + (x - off)) = off + (x - off) := by rw [IntKind.wrap_i64]; omega
        have w4 : IntKind.i64.wrap (off + (x - off) - 1) = off + (x - off) - 1 := by rw [IntKind.wrap_i64]; omega
        have e3 : min size (x - off) = x - off := by omega
        rw [e3]
        go_enter Try.func40, Try.ntmps40
        go_wp2
        go_region
        all_goals go_wp2
        all_goals go_ret2
        all_goals exact ⟨by simp [*]; try omega, _, rfl⟩
end
end Go.Proofs.Ytdalekjpjnhboaa
