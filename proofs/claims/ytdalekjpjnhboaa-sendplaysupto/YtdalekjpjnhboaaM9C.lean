/- S7D, S7E, S6B, S7F, S7N, S7M, S7H, S7I, S7G, S7L, S7K, one text. -/
import Derived.Test.YtdalekjpjnhboaaM9A
import Derived.BigQuiet
import Derived.Deep.RegionHeld3
import Derived.Laws.IdiomCopy
namespace Go.Proofs.Ytdalekjpjnhboaa
open Go.RowKit
set_option linter.unusedVariables false
set_option maxHeartbeats 4000000
set_option maxRecDepth 100000

theorem results_tmp3 {fn : Func} {t u v : Tmp} (h : fn.results = #[.tmp t, .tmp u, .tmp v]) (tmps : Array Value) (P : Program) (w : World) :
    (results fn tmps).run P w = .ok (.tuple #[tmps.getD t undef, tmps.getD u undef, tmps.getD v undef]) w := by
  simp [results, h]

theorem isAt_not {S : Sd} {x : Int} (h : memB x S.L = false) : isAt S x ≠ 2 := by
  unfold isAt
  split
  · omega
  · split
    · omega
    · rw [h]; simp
theorem isAt_two {S : Sd} (h : SdOk S) {x : Int} (hx : memB x S.L = true) : isAt S x = 2 := by
  have := memB_in h.gL hx
  unfold isAt
  rw [if_neg (by omega), if_neg (by rw [h.dis x hx]; simp), if_pos hx]

/-- What span tells. -/
def SpanP (S : Sd) (most limit : Int) (X : World) (e : Ending) (Y : World) : Prop := ∃ f t : Int, e = .returned (.tuple #[.int .i64 f, .int .i64 t, .bool (dueS S most limit).2.2]) ∧ ((dueS S most limit).2.2 = true → dueS S most limit = (f, t, true)) ∧ X.grownBy Y none

section
variable {n0 : Nat} {X Y : World} {rb : Nat} {vt vi : Value} {S : Sd}

theorem span_stop (h : RS n0 X rb vt vi S) (hs : S.stopped = true) (most limit : Int) : Calls Try.prog 57 #[ptr rb, .int .i64 most, .int .i64 limit] X (SpanP S most limit X) := by
  have c5 : X.cell? ⟨rb, 5, none⟩ = some (.bool S.stopped) := h.cells.2.2.2.2.2.1
  rw [hs] at c5
  have hd : dueS S most limit = (0, 0, false) := by unfold dueS; rw [if_pos hs]
  unfold SpanP
  rw [hd]
  clear h hd hs
  go_enter Try.func57, Try.ntmps57
  go_wp2
  all_goals refine bodyPost_ret (results_tmp3 rfl _ _ _) rfl ?_
  all_goals exact ⟨_, _, rfl, fun e => (by cases e), World.grownBy.refl _ _⟩

theorem span_lost (h : RS n0 X rb vt vi S) (hok : SdOk S) (hs : S.stopped = false) (hbig : wr S ≤ 1000000000) (s : Sp) (L' : List Sp) (hL : S.L = s :: L') (most limit : Int) (hm : -9223372036854775808 ≤ most ∧ most ≤ 9223372036854775807) : Calls Try.prog 57 #[ptr rb, .int .i64 most, .int .i64 limit] X (SpanP S most limit X) := by
  obtain ⟨-, -, -, -, -, c5, -, c7⟩ := h.cells
  have c5' : X.cell? ⟨rb, 5, none⟩ = some (.bool S.stopped) := c5
  have c7' : X.cell? ⟨rb, 7, none⟩ = some (.int .i64 S.sent) := c7
  obtain ⟨ia, ic, rfl, hi1, hi2, hrow⟩ := h.isRow
  have hJ : (rsOf S).J.length = S.T.length := isL_len S
  rw [hJ] at h
  have c2 := h.cells.2.2.1
  rw [hs] at c5'
  have hb0 := hok.b0; have hbs := hok.bs; have hsw := hok.sw
  have hwr : wr S = (S.T.length : Int) := rfl
  have hg := hok.gL
  rw [hL] at hg
  have g1 := hg.1; have g2 := hg.2.1; have g3 := hg.2.2.1
  obtain ⟨n, hn⟩ : ∃ n : Nat, S.sent = (n : Int) := ⟨S.sent.toNat, by omega⟩
  obtain ⟨F, hF⟩ : ∃ F : Nat, s.1 = (F : Int) := ⟨s.1.toNat, by omega⟩
  obtain ⟨cn, hcn⟩ : ∃ cn : Nat, cn = (min (s.2 + 1 - s.1) most).toNat := ⟨_, rfl⟩
  have hnN : n ≤ S.T.length := by omega
  have hFn : F < n := by omega
  have VAL : Hid (∀ k : Nat, k < S.T.length → (rsOf S).J[k]? = some (isAt S (k : Int))) := fun k hk => isL_get S k hk
  have LOW : Hid (∀ k : Nat, k < F → isAt S (k : Int) ≠ 2) := fun k hk => isAt_not (by
    rw [hL]
    refine memB_false fun r hr => ?_
    rcases List.mem_cons.1 hr with rfl | hr
    · right; omega
    · have := hg.2.2.2.mem hr; right; omega)
  have INN : Hid (∀ j : Nat, j ≤ (s.2 - s.1).toNat → isAt S ((F + j : Nat) : Int) = 2) := fun j hj => isAt_two hok (by
    rw [hL]
    exact memB_true (s := s) List.mem_cons_self (by omega) (by omega))
  have END : Hid (isAt S (s.2 + 1) ≠ 2) := isAt_not (by
    rw [hL]
    refine memB_false fun r hr => ?_
    rcases List.mem_cons.1 hr with rfl | hr
    · left; omega
    · have := hg.2.2.2.mem hr; right; omega)
  have hd : dueS S most limit = stretch s.1 (s.2 + 1) most := by unfold dueS; rw [if_neg (by rw [hs]; simp), hL]
  have DUE : Hid ((dueS S most limit).2.2 = decide (F < F + cn) ∧ ((dueS S most limit).2.2 = true → dueS S most limit = ((F : Int), ((F + cn : Nat) : Int), true))) := by
    rw [hd]
    unfold stretch
    by_cases c : 1 ≤ most
    · rw [if_pos c]
      refine ⟨(decide_eq_true (by omega)).symm, fun _ => ?_⟩
      rw [hF]
      congr 2
      omega
    · rw [if_neg c]
      refine ⟨(decide_eq_false (by omega)).symm, fun e => (by cases e)⟩
  have SS : Hid (s.1 = (F : Int) ∧ (s.2 + 1 ≤ (n : Int) ∧ s.1 ≤ s.2) ∧ cn = (min (s.2 + 1 - s.1) most).toNat) := ⟨hF, by omega, hcn⟩
  have hcn1 : F + cn ≤ n := by omega
  have hn9 : n ≤ 1000000000 := by omega
  have hN9 : S.T.length ≤ 1000000000 := by omega
  have HROW := hide hrow
  have HNE : Hid ((rsOf S).J ≠ []) := fun e => by rw [e] at hJ; simp at hJ; omega
  rw [hn] at c7'
  clear h hok hrow hJ hL hs hg g1 g2 g3 hF hcn hd hb0 hbs hsw hn hwr hbig c5 c7
  unfold SpanP
  generalize hNN : S.T.length = N at *
  clear hNN
  go_enter Try.func57, Try.ntmps57
  go_wp2
  go_loopw [9] (fun i wr => ∃ k : Nat, k ≤ F ∧ i = .int .i64 (k : Int) ∧ wr = X) (fun i _ => F + 1 - (intOf i).toNat)
  case atStart => exact ⟨0, Nat.zero_le _, rfl, rfl⟩
  case round =>
    obtain ⟨k, hk, rfl, hwr⟩ := hrel
    subst hwr
    obtain ⟨g, rfl, -, hc⟩ := (unhide HROW).resolve_left (unhide HNE)
    have hkn : (k : Int) < (n : Int) := by omega
    have hk0 : (0 : Int) ≤ (k : Int) := by omega
    have hkN : (k : Int) < (N : Int) := by omega
    have hx := hc k _ (unhide VAL k (by omega))
    by_cases hlt : k < F
    · have hv := unhide LOW k hlt
      have hvb : (isAt S (k : Int) != 2) = true := by simp [hv]
      have HLT := hide hlt
      clear hc hlt hv
      generalize isAt S (k : Int) = v at *
      go_wp2
      exact ⟨⟨k + 1, unhide HLT, by go_num, trivial⟩, by simp [intOf]; have := unhide HLT; omega⟩
    · obtain rfl : k = F := by omega
      have hv := unhide INN 0 (by omega)
      rw [Nat.add_zero] at hv
      rw [hv] at hx
      have hvb : ((2 : Int) != 2) = false := rfl
      clear hlt hv hk
      have HC := hide hc
      clear hc
      go_wp2
      clear hx
      go_loopw [10] (fun i w' => ∃ j : Nat, j ≤ cn ∧ i = .int .i64 ((k + j : Nat) : Int) ∧ w' = wr) (fun i _ => k + cn + 1 - (intOf i).toNat)
      case atStart => exact ⟨0, Nat.zero_le _, rfl, rfl⟩
      case round =>
        obtain ⟨j, hj, rfl, hwr⟩ := hrel
        subst hwr
        obtain ⟨m, hm'⟩ : ∃ m, m = k + j := ⟨_, rfl⟩
        have hmk : (m : Int) - (k : Int) = (j : Int) := by omega
        have hm0 : (0 : Int) ≤ (m : Int) := by omega
        by_cases hlt : j < cn
        · have hmn : (m : Int) < (n : Int) := by omega
          have hmN : (m : Int) < (N : Int) := by omega
          have hx := unhide HC m _ (unhide VAL m (by omega))
          have hv := unhide INN j (by have := (unhide SS).2.2; omega)
          rw [← hm'] at hv ⊢
          rw [hv] at hx
          have hvb : ((2 : Int) == 2) = true := rfl
          have hjm : (j : Int) < most := by have := (unhide SS).2.2; omega
          have hjd : decide ((j : Int) < most) = true := decide_eq_true hjm
          have HM := hide hm'
          have HLT := hide hlt
          clear hv hlt hm' hj
          go_wp2
          exact ⟨⟨j + 1, unhide HLT, by rw [← Nat.add_assoc, ← unhide HM]; go_num, trivial⟩, by simp [intOf]; have := unhide HLT; have := unhide HM; omega⟩
        · obtain rfl : j = cn := by omega
          rw [← hm'] at DUE ⊢
          by_cases hmn : m < n
          · have hmn1 : (m : Int) < (n : Int) := by omega
            have hmN : (m : Int) < (N : Int) := by omega
            have hx := unhide HC m _ (unhide VAL m (by omega))
            by_cases hjm : (j : Int) < most
            · have hv : isAt S (m : Int) ≠ 2 := by
                have e : (m : Int) = s.2 + 1 := by have := (unhide SS).2.2; have := (unhide SS).2.1; have := (unhide SS).1; omega
                rw [e]
                exact unhide END
              have hvb : (isAt S (m : Int) == 2) = false := by simp [hv]
              clear hv hm' hjm hlt hj
              generalize isAt S (m : Int) = v at *
              go_wp2
              all_goals refine bodyPost_ret (results_tmp3 rfl _ _ _) rfl ?_
              all_goals exact ⟨_, _, by rw [(unhide DUE).1]; rfl, (unhide DUE).2, World.grownBy.refl _ _⟩
            · have hjd : decide ((j : Int) < most) = false := decide_eq_false hjm
              have hvv := isAt_val S (m : Int)
              clear hm' hlt hj
              cases hvb : (isAt S (m : Int) == 2) with
              | true =>
                generalize isAt S (m : Int) = v at *
                go_wp2
                all_goals refine bodyPost_ret (results_tmp3 rfl _ _ _) rfl ?_
                all_goals exact ⟨_, _, by rw [(unhide DUE).1]; rfl, (unhide DUE).2, World.grownBy.refl _ _⟩
              | false =>
                generalize isAt S (m : Int) = v at *
                go_wp2
                all_goals refine bodyPost_ret (results_tmp3 rfl _ _ _) rfl ?_
                all_goals exact ⟨_, _, by rw [(unhide DUE).1]; rfl, (unhide DUE).2, World.grownBy.refl _ _⟩
          · have hmn1 : ¬ (m : Int) < (n : Int) := by omega
            clear hm' hlt hj
            go_wp2
            all_goals refine bodyPost_ret (results_tmp3 rfl _ _ _) rfl ?_
            all_goals exact ⟨_, _, by rw [(unhide DUE).1]; rfl, (unhide DUE).2, World.grownBy.refl _ _⟩
end
end Go.Proofs.Ytdalekjpjnhboaa

namespace Go.Proofs.Ytdalekjpjnhboaa
open Go.RowKit
set_option linter.unusedVariables false
set_option maxHeartbeats 4000000
set_option maxRecDepth 100000

section
variable {n0 : Nat} {X Y : World} {rb : Nat} {vt vi : Value} {S : Sd}

theorem span_new (h : RS n0 X rb vt vi S) (hok : SdOk S) (hs : S.stopped = false) (hbig : wr S ≤ 1000000000) (hL : S.L = []) (most limit : Int) (hlt : S.sent < min (wr S) limit) (hm : -9223372036854775808 ≤ most ∧ most ≤ 9223372036854775807) : Calls Try.prog 57 #[ptr rb, .int .i64 most, .int .i64 limit] X (SpanP S most limit X) := by
  obtain ⟨-, -, -, -, -, c5, -, c7⟩ := h.cells
  have c5' : X.cell? ⟨rb, 5, none⟩ = some (.bool S.stopped) := c5
  have c7' : X.cell? ⟨rb, 7, none⟩ = some (.int .i64 S.sent) := c7
  obtain ⟨ia, ic, rfl, hi1, hi2, hrow⟩ := h.isRow
  obtain ⟨ta, tc, rfl, ht1, ht2, -⟩ := h.textRow
  have hJ : (rsOf S).J.length = S.T.length := isL_len S
  rw [hJ] at h
  have c2 := h.cells.2.2.1
  have c1 : X.cell? ⟨rb, 1, none⟩ = some (.slice ta S.T.length tc) := h.cells.2.1
  rw [hs] at c5'
  have hb0 := hok.b0; have hbs := hok.bs; have hsw := hok.sw
  have hwr : wr S = (S.T.length : Int) := rfl
  obtain ⟨n, hn⟩ : ∃ n : Nat, S.sent = (n : Int) := ⟨S.sent.toNat, by omega⟩
  obtain ⟨cn, hcn⟩ : ∃ cn : Nat, cn = (min (min (wr S) limit - S.sent) most).toNat := ⟨_, rfl⟩
  have hnN : n ≤ S.T.length := by omega
  have VAL : Hid (∀ k : Nat, k < S.T.length → (rsOf S).J[k]? = some (isAt S (k : Int))) := fun k hk => isL_get S k hk
  have LOW : Hid (∀ k : Nat, isAt S (k : Int) ≠ 2) := fun k => isAt_not (by rw [hL]; rfl)
  have hd : dueS S most limit = stretch S.sent (min (wr S) limit) most := by unfold dueS; rw [if_neg (by rw [hs]; simp), hL]; simp only; rw [if_pos hlt]
  have DUE : Hid ((dueS S most limit).2.2 = decide (n < n + cn) ∧ ((dueS S most limit).2.2 = true → dueS S most limit = ((n : Int), ((n + cn : Nat) : Int), true))) := by
    rw [hd]
    unfold stretch
    by_cases c : 1 ≤ most
    · rw [if_pos c]
      refine ⟨(decide_eq_true (by omega)).symm, fun _ => ?_⟩
      rw [hn]
      congr 2
      omega
    · rw [if_neg c]
      refine ⟨(decide_eq_false (by omega)).symm, fun e => (by cases e)⟩
  have hl1 : (n : Int) < (S.T.length : Int) := by omega
  have hl2 : (n : Int) < limit := by omega
  have SS : Hid (cn = (min (min (S.T.length : Int) limit - (n : Int)) most).toNat) := by
    rw [hcn, hn, hwr]
    rfl
  have hcn1 : n + cn ≤ S.T.length := by omega
  have hN9 : S.T.length ≤ 1000000000 := by omega
  have HROW := hide hrow
  have HNE : Hid ((rsOf S).J ≠ []) := fun e => by rw [e] at hJ; simp at hJ; omega
  rw [hn] at c7'
  clear h hok hrow hJ hL hs hcn hd hb0 hbs hsw hn hwr hbig c5 c7 hlt
  unfold SpanP
  generalize hNN : S.T.length = N at *
  clear hNN
  go_enter Try.func57, Try.ntmps57
  go_wp2
  go_loopw [9] (fun i wr => ∃ k : Nat, k ≤ n ∧ i = .int .i64 (k : Int) ∧ wr = X) (fun i _ => n + 1 - (intOf i).toNat)
  case atStart => exact ⟨0, Nat.zero_le _, rfl, rfl⟩
  case round =>
    obtain ⟨k, hk, rfl, hwr⟩ := hrel
    subst hwr
    by_cases hlt : k < n
    · obtain ⟨g, rfl, -, hc⟩ := (unhide HROW).resolve_left (unhide HNE)
      have hkn : (k : Int) < (n : Int) := by omega
      have hk0 : (0 : Int) ≤ (k : Int) := by omega
      have hkN : (k : Int) < (N : Int) := by omega
      have hx := hc k _ (unhide VAL k (by omega))
      have hv := unhide LOW k
      have hvb : (isAt S (k : Int) != 2) = true := by simp [hv]
      have HLT := hide hlt
      clear hc hlt hv
      generalize isAt S (k : Int) = v at *
      go_wp2
      exact ⟨⟨k + 1, unhide HLT, by go_num, trivial⟩, by simp [intOf]; have := unhide HLT; omega⟩
    · obtain rfl : k = n := by omega
      have hno : ¬ (k : Int) < (k : Int) := by omega
      have hl1d : decide ((k : Int) < (N : Int)) = true := decide_eq_true hl1
      have hl2d : decide ((k : Int) < limit) = true := decide_eq_true hl2
      clear hlt hk
      go_wp2
      go_quiet (fail)
      go_wp2
      go_loopw [10] (fun i w' => ∃ j : Nat, j ≤ cn ∧ i = .int .i64 ((k + j : Nat) : Int) ∧ w' = wr.drewN nq) (fun i _ => k + cn + 1 - (intOf i).toNat)
      case atStart => exact ⟨0, Nat.zero_le _, rfl, rfl⟩
      case round =>
        obtain ⟨j, hj, rfl, hwr⟩ := hrel
        subst hwr
        obtain ⟨m, hm'⟩ : ∃ m, m = k + j := ⟨_, rfl⟩
        have hmk : (m : Int) - (k : Int) = (j : Int) := by omega
        have hm0 : (0 : Int) ≤ (m : Int) := by omega
        by_cases hlt : j < cn
        · have hmN : (m : Int) < (N : Int) := by have := unhide SS; omega
          have hml : (m : Int) < limit := by have := unhide SS; omega
          have hmld : decide ((m : Int) < limit) = true := decide_eq_true hml
          have hjm : (j : Int) < most := by have := unhide SS; omega
          have hjd : decide ((j : Int) < most) = true := decide_eq_true hjm
          rw [← hm']
          have HM := hide hm'
          have HLT := hide hlt
          clear hlt hm' hj
          go_wp2
          exact ⟨⟨j + 1, unhide HLT, by rw [← Nat.add_assoc, ← unhide HM]; go_num, trivial⟩, by simp [intOf]; have := unhide HLT; have := unhide HM; omega⟩
        · obtain rfl : j = cn := by omega
          rw [← hm'] at DUE ⊢
          by_cases hmN : m < N
          · have hmN1 : (m : Int) < (N : Int) := by omega
            by_cases hml : (m : Int) < limit
            · have hmld : decide ((m : Int) < limit) = true := decide_eq_true hml
              have hjm : ¬ (j : Int) < most := by have := unhide SS; omega
              have hjd : decide ((j : Int) < most) = false := decide_eq_false hjm
              clear hm' hlt hj
              go_wp2
              all_goals refine bodyPost_ret (results_tmp3 rfl _ _ _) rfl ?_
              all_goals exact ⟨_, _, by rw [(unhide DUE).1]; rfl, (unhide DUE).2, grown_drewN _ _⟩
            · have hmld : decide ((m : Int) < limit) = false := decide_eq_false hml
              clear hm' hlt hj
              go_wp2
              all_goals refine bodyPost_ret (results_tmp3 rfl _ _ _) rfl ?_
              all_goals exact ⟨_, _, by rw [(unhide DUE).1]; rfl, (unhide DUE).2, grown_drewN _ _⟩
          · have hmN1 : ¬ (m : Int) < (N : Int) := by omega
            clear hm' hlt hj
            go_wp2
            all_goals refine bodyPost_ret (results_tmp3 rfl _ _ _) rfl ?_
            all_goals exact ⟨_, _, by rw [(unhide DUE).1]; rfl, (unhide DUE).2, grown_drewN _ _⟩

theorem span_bare (h : RS n0 X rb vt vi S) (hok : SdOk S) (hs : S.stopped = false) (hbig : wr S ≤ 1000000000) (hL : S.L = []) (most limit : Int) (hlt : ¬ S.sent < min (wr S) limit) : Calls Try.prog 57 #[ptr rb, .int .i64 most, .int .i64 limit] X (SpanP S most limit X) := by
  obtain ⟨-, -, -, c3, -, c5, c6, c7⟩ := h.cells
  have c3' : X.cell? ⟨rb, 3, none⟩ = some (.bool S.ended) := c3
  have c5' : X.cell? ⟨rb, 5, none⟩ = some (.bool S.stopped) := c5
  have c6' : X.cell? ⟨rb, 6, none⟩ = some (.int .i64 S.fin) := c6
  have c7' : X.cell? ⟨rb, 7, none⟩ = some (.int .i64 S.sent) := c7
  obtain ⟨ia, ic, rfl, hi1, hi2, hrow⟩ := h.isRow
  obtain ⟨ta, tc, rfl, ht1, ht2, -⟩ := h.textRow
  have hJ : (rsOf S).J.length = S.T.length := isL_len S
  rw [hJ] at h
  have c2 := h.cells.2.2.1
  have c1 : X.cell? ⟨rb, 1, none⟩ = some (.slice ta S.T.length tc) := h.cells.2.1
  rw [hs] at c5'
  have hb0 := hok.b0; have hbs := hok.bs; have hsw := hok.sw
  have hwr : wr S = (S.T.length : Int) := rfl
  obtain ⟨n, hn⟩ : ∃ n : Nat, S.sent = (n : Int) := ⟨S.sent.toNat, by omega⟩
  have hnN : n ≤ S.T.length := by omega
  have VAL : Hid (∀ k : Nat, k < S.T.length → (rsOf S).J[k]? = some (isAt S (k : Int))) := fun k hk => isL_get S k hk
  have LOW : Hid (∀ k : Nat, isAt S (k : Int) ≠ 2) := fun k => isAt_not (by rw [hL]; rfl)
  have hd : dueS S most limit = if finW S = true then (wr S, wr S, true) else (0, 0, false) := by unfold dueS; rw [if_neg (by rw [hs]; simp), hL]; simp only; rw [if_neg hlt]
  have hfw : finW S = (S.ended && ((n : Int) == (S.T.length : Int)) && ((S.fin == 0) || (S.fin == 2))) := by
    unfold finW
    rw [hn, hwr]
    rfl
  have DUE : Hid ((dueS S most limit).2.2 = (S.ended && ((n : Int) == (S.T.length : Int)) && ((S.fin == 0) || (S.fin == 2))) ∧ ((dueS S most limit).2.2 = true → dueS S most limit = ((n : Int), (n : Int), true))) := by
    rw [hd, ← hfw]
    cases hf : finW S with
    | true =>
      refine ⟨rfl, fun _ => ?_⟩
      rw [hf] at hfw
      have := hfw.symm
      simp only [Bool.and_eq_true, beq_iff_eq] at this
      have e : wr S = (n : Int) := by rw [hwr]; exact this.1.2.symm
      rw [if_pos rfl, e]
    | false => exact ⟨rfl, fun e => (by cases e)⟩
  have HCASE : Hid (¬ (n : Int) < (S.T.length : Int) ∨ ((n : Int) < (S.T.length : Int) ∧ ¬ (n : Int) < limit)) := by unfold Hid; omega
  have hN9 : S.T.length ≤ 1000000000 := by omega
  have HROW := hide hrow
  have HNE : Hid (0 < S.T.length → (rsOf S).J ≠ []) := fun hp e => by rw [e] at hJ; simp at hJ; omega
  rw [hn] at c7'
  clear h hok hrow hJ hL hs hd hb0 hbs hsw hn hwr hbig c3 c5 c6 c7 hlt hfw
  unfold SpanP
  generalize hNN : S.T.length = N at *
  clear hNN
  generalize S.ended = en at *
  generalize S.fin = f at *
  go_enter Try.func57, Try.ntmps57
  go_wp2
  go_loopw [9] (fun i wr => ∃ k : Nat, k ≤ n ∧ i = .int .i64 (k : Int) ∧ wr = X) (fun i _ => n + 1 - (intOf i).toNat)
  case atStart => exact ⟨0, Nat.zero_le _, rfl, rfl⟩
  case round =>
    obtain ⟨k, hk, rfl, hwr⟩ := hrel
    subst hwr
    by_cases hlt : k < n
    · obtain ⟨g, rfl, -, hc⟩ := (unhide HROW).resolve_left (unhide HNE (by omega))
      have hkn : (k : Int) < (n : Int) := by omega
      have hk0 : (0 : Int) ≤ (k : Int) := by omega
      have hkN : (k : Int) < (N : Int) := by omega
      have hx := hc k _ (unhide VAL k (by omega))
      have hv := unhide LOW k
      have hvb : (isAt S (k : Int) != 2) = true := by simp [hv]
      have HLT := hide hlt
      clear hc hlt hv
      generalize isAt S (k : Int) = v at *
      go_wp2
      exact ⟨⟨k + 1, unhide HLT, by go_num, trivial⟩, by simp [intOf]; have := unhide HLT; omega⟩
    · obtain rfl : k = n := by omega
      have hno : ¬ (k : Int) < (k : Int) := by omega
      have GO : ∃ eN, ((k : Int) == (N : Int)) = eN := ⟨_, rfl⟩
      obtain ⟨eN, hEN⟩ := GO
      have G0 : ∃ f0, (f == 0) = f0 := ⟨_, rfl⟩
      obtain ⟨f0, hf0⟩ := G0
      have G2 : ∃ f2, (f == 2) = f2 := ⟨_, rfl⟩
      obtain ⟨f2, hf2⟩ := G2
      rw [hEN, hf0, hf2] at DUE
      clear hlt hk LOW VAL HROW HNE hi1
      rcases unhide HCASE with q | ⟨q, q2⟩
      · have qd : decide ((k : Int) < (N : Int)) = false := decide_eq_false (by omega)
        have qn : ¬ (k : Int) < (N : Int) := by omega
        have qn2 : ¬ k < N := by omega
        have qd2 : decide (k < N) = false := decide_eq_false qn2
        cases en <;> cases eN <;> cases f0 <;> cases f2
        all_goals go_wp2
        all_goals go_quiet (fail)
        all_goals go_wp2
        all_goals go_quiet (fail)
        all_goals go_wp2
        all_goals refine bodyPost_ret (results_tmp3 rfl _ _ _) rfl ?_
        all_goals exact ⟨_, _, by rw [(unhide DUE).1]; rfl, (unhide DUE).2, by first | exact grown_drewN _ _ | exact grown_trans (grown_drewN _ _) (grown_drewN _ _)⟩
      · have qd : decide ((k : Int) < (N : Int)) = true := decide_eq_true q
        have q2d : decide ((k : Int) < limit) = false := decide_eq_false (by omega)
        cases en <;> cases eN <;> cases f0 <;> cases f2
        all_goals go_wp2
        all_goals go_quiet (fail)
        all_goals go_wp2
        all_goals go_quiet (fail)
        all_goals go_wp2
        all_goals refine bodyPost_ret (results_tmp3 rfl _ _ _) rfl ?_
        all_goals exact ⟨_, _, by rw [(unhide DUE).1]; rfl, (unhide DUE).2, by first | exact grown_drewN _ _ | exact grown_trans (grown_drewN _ _) (grown_drewN _ _)⟩

theorem spanR (h : RS n0 X rb vt vi S) (hok : SdOk S) (hbig : wr S ≤ 1000000000) (most limit : Int) (hm : -9223372036854775808 ≤ most ∧ most ≤ 9223372036854775807) : Calls Try.prog 57 #[ptr rb, .int .i64 most, .int .i64 limit] X (SpanP S most limit X) := by
  cases hs : S.stopped with
  | true => exact span_stop h hs most limit
  | false =>
    cases hL : S.L with
    | cons s L' => exact span_lost h hok hs hbig s L' hL most limit hm
    | nil =>
      by_cases c : S.sent < min (wr S) limit
      · exact span_new h hok hs hbig hL most limit c hm
      · exact span_bare h hok hs hbig hL most limit c

theorem waitsR (h : RS n0 X rb vt vi S) (hok : SdOk S) (hbig : wr S ≤ 1000000000) (limit : Int) : Calls Try.prog 31 #[ptr rb, .int .i64 limit] X fun e Y => e = .returned (.bool (dueS S 1 limit).2.2) ∧ X.grownBy Y none := by
  have hsp := spanR h hok hbig 1 limit (by omega)
  unfold SpanP at hsp
  clear h hok
  generalize (dueS S 1 limit).2.2 = b at *
  go_enter Try.func31, Try.ntmps31
  go_wp2_with fail
  refine hsp.mono ?_
  rintro e Y ⟨f, t, rfl, -, g⟩
  have G := hide g
  clear g hsp
  go_wp2
  go_ret
  exact ⟨rfl, unhide G⟩
end
end Go.Proofs.Ytdalekjpjnhboaa

namespace Go.Proofs.Ytdalekjpjnhboaa
set_option linter.unusedVariables false
set_option maxRecDepth 100000
set_option maxHeartbeats 400000

/-- A piece that was told. -/
structure Pc where
  off : Int
  size : Int
  fin : Bool

/-- A text on its way. -/
structure Bk where
  S : Sd
  T : List Int
  put : Nat
  ended : Bool
  G : List Bool
  fin : Bool
  P : List Pc

def PcOk (S : Sd) (p : Pc) : Prop := 0 ≤ p.off ∧ 0 ≤ p.size ∧ p.off + p.size ≤ S.sent ∧ (p.fin = true → S.fin ≠ 0)
structure BkOk (cap : Int) (B : Bk) : Prop where
  ok : SdOk B.S
  cap : B.S.cap = cap
  st : B.S.stopped = false
  T : B.S.T = B.T.take B.put
  pl : B.put ≤ B.T.length
  en : B.S.ended = B.ended
  full : B.ended = true → B.put = B.T.length
  gl : B.G.length = B.T.length
  got : ∀ x : Nat, x < B.T.length → B.G[x]? = some (memB (x : Int) B.S.A)
  fin : B.fin = decide (B.S.fin = 3)
  f0 : B.S.fin ≠ 0 → B.ended = true
  P : ∀ p ∈ B.P, PcOk B.S p

theorem BkOk.wr {cap : Int} {B : Bk} (h : BkOk cap B) : wr B.S = B.put := by
  have := h.pl
  unfold Go.Proofs.Ytdalekjpjnhboaa.wr
  rw [h.T, List.length_take]
  omega

/-- All that is under way is of one of these pieces. -/
structure Cov (S : Sd) (Q : List Pc) : Prop where
  all : ∀ x, 0 ≤ x → x < S.sent → memB x S.A = true ∨ memB x S.L = true ∨ ∃ p ∈ Q, p.off ≤ x ∧ x < p.off + p.size
  fin : S.fin = 1 → ∃ p ∈ Q, p.fin = true
theorem Cov.mono {S : Sd} {Q Q' : List Pc} (h : Cov S Q) (hq : ∀ p ∈ Q, p ∈ Q') : Cov S Q' :=
  ⟨fun x h0 h1 => by
    rcases h.all x h0 h1 with q | q | ⟨p, hp, q⟩
    · exact .inl q
    · exact .inr (.inl q)
    · exact .inr (.inr ⟨p, hq p hp, q⟩), fun e => by obtain ⟨p, hp, q⟩ := h.fin e; exact ⟨p, hq p hp, q⟩⟩
theorem Cov.clear {S : Sd} (h : Cov S []) : Clear S :=
  ⟨fun x h0 h1 => by
    rcases h.all x h0 h1 with q | q | ⟨p, hp, q⟩
    · exact .inl q
    · exact .inr q
    · simp at hp, fun e => by obtain ⟨p, hp, q⟩ := h.fin e; simp at hp⟩

/-- What feed does. -/
def feedN (cap : Int) (B : Bk) : Nat := (min (cap - ((B.put : Int) - B.S.base)) ((B.T.length : Int) - B.put)).toNat
def feedW (cap : Int) (B : Bk) : Bk := { B with S := writeG B.S ((B.T.drop B.put).take (feedN cap B)), put := B.put + feedN cap B }
def feedF (B : Bk) : Bk := { B with S := finG B.S, ended := true }
def feedB (cap : Int) (may : Bool) (B : Bk) : Bk := if B.ended = true then B else if B.put + feedN cap B < B.T.length ∨ may = false then feedW cap B else feedF (feedW cap B)

theorem feedN_le {cap : Int} {B : Bk} (h : BkOk cap B) : (feedN cap B : Int) = min (cap - ((B.put : Int) - B.S.base)) ((B.T.length : Int) - B.put) ∧ 0 ≤ min (cap - ((B.put : Int) - B.S.base)) ((B.T.length : Int) - B.put) ∧ B.put + feedN cap B ≤ B.T.length ∧ (B.put : Int) - B.S.base + feedN cap B ≤ cap := by
  have h1 := h.ok.wc; have h2 := h.wr; have h3 := h.cap; have h4 := h.pl
  have hq : 0 ≤ min (cap - ((B.put : Int) - B.S.base)) ((B.T.length : Int) - B.put) := by omega
  have he : (feedN cap B : Int) = min (cap - ((B.put : Int) - B.S.base)) ((B.T.length : Int) - B.put) := Int.toNat_of_nonneg hq
  exact ⟨he, hq, by omega, by omega⟩

theorem pcok_same {S S' : Sd} {p : Pc} (h : PcOk S p) (hs : S.sent ≤ S'.sent) (hf : S.fin ≠ 0 → S'.fin ≠ 0) : PcOk S' p := ⟨h.1, h.2.1, by have := h.2.2.1; omega, fun e => hf (h.2.2.2 e)⟩

theorem bk_write {cap : Int} {B : Bk} (h : BkOk cap B) (he : B.ended = false) : BkOk cap (feedW cap B) := by
  obtain ⟨n1, n2, n3, n4⟩ := feedN_le h
  have hw := h.wr; have hc := h.cap
  have hl : ((B.T.drop B.put).take (feedN cap B)).length = feedN cap B := by rw [List.length_take, List.length_drop]; omega
  refine ⟨sdok_write h.ok (by rw [hl]; omega), h.cap, h.st, ?_, n3, h.en, fun e => ?_, h.gl, h.got, h.fin, h.f0, fun p hp => pcok_same (h.P p hp) (Int.le_refl _) id⟩
  · show B.S.T ++ (B.T.drop B.put).take (feedN cap B) = B.T.take (B.put + feedN cap B)
    rw [h.T, List.take_add]
  · have : B.ended = true := e
    rw [he] at this; cases this
theorem bk_fin {cap : Int} {B : Bk} (h : BkOk cap B) (hp : B.put = B.T.length) : BkOk cap (feedF B) :=
  ⟨sdok_fin h.ok, h.cap, h.st, h.T, h.pl, rfl, fun _ => hp, h.gl, h.got, h.fin, fun _ => rfl, fun p hp => pcok_same (h.P p hp) (Int.le_refl _) id⟩
theorem bk_feed {cap : Int} {may : Bool} {B : Bk} (h : BkOk cap B) : BkOk cap (feedB cap may B) := by
  unfold feedB
  split
  · exact h
  · rename_i he
    have he' : B.ended = false := by cases hx : B.ended with | true => exact absurd hx he | false => rfl
    have h1 := bk_write h he'
    split
    · exact h1
    · rename_i hn
      have := (feedN_le h).2.2.1
      exact bk_fin h1 (by show B.put + feedN cap B = B.T.length; omega)
theorem feed_same {cap : Int} {may : Bool} {B : Bk} : (feedB cap may B).S.sent = B.S.sent ∧ (feedB cap may B).S.A = B.S.A ∧ (feedB cap may B).S.L = B.S.L ∧ (feedB cap may B).S.fin = B.S.fin ∧ (feedB cap may B).S.base = B.S.base ∧ (feedB cap may B).G = B.G ∧ (feedB cap may B).T = B.T ∧ (feedB cap may B).P = B.P := by
  unfold feedB
  split
  · exact ⟨rfl, rfl, rfl, rfl, rfl, rfl, rfl, rfl⟩
  · split
    · exact ⟨rfl, rfl, rfl, rfl, rfl, rfl, rfl, rfl⟩
    · exact ⟨rfl, rfl, rfl, rfl, rfl, rfl, rfl, rfl⟩
theorem cov_feed {cap : Int} {may : Bool} {B : Bk} {Q : List Pc} (h : Cov B.S Q) : Cov (feedB cap may B).S Q := by
  obtain ⟨e1, e2, e3, e4, -⟩ := @feed_same cap may B
  exact ⟨fun x => by rw [e1, e2, e3]; exact h.all x, by rw [e4]; exact h.fin⟩
theorem clear_feed {cap : Int} {may : Bool} {B : Bk} (h : Clear B.S) : Clear (feedB cap may B).S := by
  obtain ⟨e1, e2, e3, e4, -⟩ := @feed_same cap may B
  exact ⟨fun x => by rw [e1, e2, e3]; exact h.all x, by rw [e4]; exact h.fin⟩
/-- It is not done by being fed. -/
theorem feed_done {cap : Int} {may : Bool} {B : Bk} (h : BkOk cap B) : doneB (feedB cap may B).S = doneB B.S := by
  by_cases he : B.ended = true
  · unfold feedB; rw [if_pos he]
  · obtain ⟨-, -, -, e4, -⟩ := @feed_same cap may B
    have hf : B.S.fin ≠ 3 := fun e => he (h.f0 (by omega))
    unfold doneB
    rw [e4]
    simp [hf]

/-- What is due. -/
theorem due_le {S : Sd} (h : SdOk S) {most limit f t : Int} (hd : dueS S most limit = (f, t, true)) (hm : 1 ≤ most) (hl : wr S ≤ limit) : f ≤ S.sent ∧ t - f ≤ most ∧ (f < t ∨ (endB S t = true ∧ S.L = [] ∧ S.sent = wr S ∧ f = wr S ∧ t = wr S)) := by
  unfold dueS at hd
  by_cases hs : S.stopped = true
  · rw [if_pos hs] at hd; simp at hd
  · rw [if_neg hs] at hd
    have hsw := h.sw
    cases hL : S.L with
    | cons s L =>
      rw [hL] at hd
      have hg := h.gL
      rw [hL] at hg
      have g2 := hg.2.1; have g3 := hg.2.2.1
      simp only [stretch] at hd
      rw [if_pos hm] at hd
      simp only [Prod.mk.injEq] at hd
      exact ⟨by omega, by omega, .inl (by omega)⟩
    | nil =>
      rw [hL] at hd
      simp only at hd
      split at hd
      · simp only [stretch] at hd
        rw [if_pos hm] at hd
        simp only [Prod.mk.injEq] at hd
        exact ⟨by omega, by omega, .inl (by omega)⟩
      · split at hd
        · rename_i hfw
          simp only [Prod.mk.injEq] at hd
          unfold finW at hfw
          simp only [Bool.and_eq_true, decide_eq_true_eq] at hfw
          refine ⟨by omega, by omega, .inr ⟨?_, rfl, hfw.1.2, by omega, by omega⟩⟩
          unfold endB
          rw [hfw.1.1]
          simp
          omega
        · simp at hd

/-- A piece is told. -/
def askB (B : Bk) (f t : Int) : Bk := { B with S := nextG B.S f t, P := B.P ++ [⟨f, t - f, endB B.S t⟩] }
theorem nextG_fin (S : Sd) (f t : Int) : (nextG S f t).fin = if endB S t = true ∧ S.fin ≠ 3 then 1 else S.fin := rfl
theorem bk_ask {cap : Int} {B : Bk} (h : BkOk cap B) (hw : wr B.S ≤ 1152921504606846976) {most limit f t : Int} (hd : dueS B.S most limit = (f, t, true)) : BkOk cap (askB B f t) := by
  have hdo := due_ok h.ok hd
  have hb := h.ok.b0
  have q1 := hdo.lo; have q2 := hdo.le
  have hn : B.S.fin ≠ 0 → (nextG B.S f t).fin ≠ 0 := fun e => by rw [nextG_fin]; split <;> omega
  refine ⟨sdok_next h.ok hw hdo, h.cap, h.st, h.T, h.pl, h.en, h.full, h.gl, h.got, ?_, fun e => ?_, fun p hp => ?_⟩
  · show B.fin = decide ((nextG B.S f t).fin = 3)
    rw [h.fin, nextG_fin]
    by_cases c : endB B.S t = true ∧ B.S.fin ≠ 3
    · rw [if_pos c]; simp [c.2]
    · rw [if_neg c]
  · have e' : (nextG B.S f t).fin ≠ 0 := e
    rw [nextG_fin] at e'
    by_cases c : endB B.S t = true ∧ B.S.fin ≠ 3
    · have := c.1
      unfold endB at this
      rw [h.en] at this
      simp only [Bool.and_eq_true] at this
      exact this.1
    · rw [if_neg c] at e'; exact h.f0 e'
  · have hp' : p ∈ B.P ++ [⟨f, t - f, endB B.S t⟩] := hp
    rcases List.mem_append.1 hp' with hp | hp
    · exact pcok_same (h.P p hp) (by show B.S.sent ≤ max B.S.sent t; omega) hn
    · simp only [List.mem_singleton] at hp
      subst hp
      refine ⟨by show 0 ≤ f; omega, by show 0 ≤ t - f; omega, by show f + (t - f) ≤ max B.S.sent t; omega, fun e => ?_⟩
      show (nextG B.S f t).fin ≠ 0
      rw [nextG_fin]
      have e' : endB B.S t = true := e
      by_cases c : B.S.fin = 3
      · simp [c]
      · simp [c, e']
theorem cov_ask {cap : Int} {B : Bk} (h : BkOk cap B) (hw : wr B.S ≤ 1152921504606846976) (hc : Cov B.S B.P) {most limit f t : Int} (hd : dueS B.S most limit = (f, t, true)) (hm : 1 ≤ most) (hl : wr B.S ≤ limit) : Cov (askB B f t).S (askB B f t).P := by
  have hdl := (due_le h.ok hd hm hl).1
  have hb := h.ok.b0; have hbs := h.ok.bs; have hsw := h.ok.sw
  have hgL : Gx B.S.L := good_gx h.ok.gL (by omega) (by omega)
  have old : ∀ p ∈ B.P, p ∈ (askB B f t).P := fun p hp => List.mem_append_left _ hp
  have new : (⟨f, t - f, endB B.S t⟩ : Pc) ∈ (askB B f t).P := List.mem_append_right _ (by simp)
  refine ⟨fun x h0 h1 => ?_, fun e => ?_⟩
  · have h1' : x < max B.S.sent t := h1
    show memB x B.S.A = true ∨ memB x (cutS 0 f (t - 1) B.S.L) = true ∨ _
    by_cases c : f ≤ x ∧ x ≤ t - 1
    · exact .inr (.inr ⟨_, new, c.1, by show x < f + (t - f); omega⟩)
    · rcases hc.all x h0 (by omega) with q | q | ⟨p, hp, q⟩
      · exact .inl q
      · exact .inr (.inl ((memB_cutS hgL x).2 ⟨q, c⟩))
      · exact .inr (.inr ⟨p, old p hp, q⟩)
  · have e' : (nextG B.S f t).fin = 1 := e
    rw [nextG_fin] at e'
    by_cases c : endB B.S t = true ∧ B.S.fin ≠ 3
    · exact ⟨_, new, c.1⟩
    · rw [if_neg c] at e'
      obtain ⟨p, hp, q⟩ := hc.fin e'
      exact ⟨p, old p hp, q⟩

/-- Some are marked. -/
def setG (G : List Bool) (o : Nat) : Nat → List Bool
  | 0 => G
  | k + 1 => (setG G o k).set (o + k) true
theorem setG_len (G : List Bool) (o k : Nat) : (setG G o k).length = G.length := by
  induction k with
  | zero => rfl
  | succ k ih => simp only [setG, List.length_set, ih]
theorem setG_get (G : List Bool) (o k x : Nat) (hx : x < G.length) : (setG G o k)[x]? = if o ≤ x ∧ x < o + k then some true else G[x]? := by
  induction k with
  | zero => rw [if_neg (by omega)]; rfl
  | succ k ih =>
    simp only [setG]
    rw [List.getElem?_set]
    by_cases c : o + k = x
    · rw [if_pos c, if_pos (by rw [setG_len]; omega), if_pos (by omega)]
    · rw [if_neg c, ih]
      by_cases c2 : o ≤ x ∧ x < o + k
      · rw [if_pos c2, if_pos (by omega)]
      · rw [if_neg c2, if_neg (by omega)]
/-- How many are left. -/
def leftN : List Bool → Nat
  | [] => 0
  | g :: G => (if g = true then 0 else 1) + leftN G
theorem leftN_le (G : List Bool) : leftN G ≤ G.length := by
  induction G with
  | nil => exact Nat.le_refl _
  | cons g G ih => simp only [leftN, List.length_cons]; split <;> omega
theorem leftN_app (A B : List Bool) : leftN (A ++ B) = leftN A + leftN B := by
  induction A with
  | nil => simp [leftN]
  | cons g A ih => simp only [List.cons_append, leftN, ih]; omega
theorem leftN_set (G : List Bool) (i : Nat) : leftN (G.set i true) ≤ leftN G ∧ (G[i]? = some false → leftN (G.set i true) + 1 = leftN G) := by
  induction G generalizing i with
  | nil => simp [leftN]
  | cons g G ih =>
    cases i with
    | zero =>
      simp only [List.set_cons_zero, leftN, List.getElem?_cons_zero, Option.some.injEq]
      exact ⟨by simp, fun e => by subst e; simp; omega⟩
    | succ i =>
      simp only [List.set_cons_succ, leftN, List.getElem?_cons_succ]
      obtain ⟨h1, h2⟩ := ih i
      exact ⟨by omega, fun e => by have := h2 e; omega⟩
theorem leftN_setG (G : List Bool) (o k : Nat) : leftN (setG G o k) ≤ leftN G ∧ (0 < k → G[o]? = some false → leftN (setG G o k) + 1 ≤ leftN G) := by
  induction k with
  | zero => exact ⟨Nat.le_refl _, fun h => by omega⟩
  | succ k ih =>
    simp only [setG]
    have h1 := leftN_set (setG G o k) (o + k)
    refine ⟨by omega, fun _ e => ?_⟩
    cases k with
    | zero =>
      have := h1.2 e
      simp only [setG] at this ⊢
      omega
    | succ k => have := ih.2 (by omega) e; omega
theorem leftN_all {G : List Bool} (h : ∀ x, x < G.length → G[x]? = some true) : leftN G = 0 := by
  induction G with
  | nil => rfl
  | cons g G ih =>
    have h0 := h 0 (by simp)
    simp only [List.getElem?_cons_zero, Option.some.injEq] at h0
    subst h0
    have := ih fun x hx => by have := h (x + 1) (by simp; omega); simpa using this
    simp only [leftN, this]
    simp

/-- A piece has come. -/
def ackB (B : Bk) (p : Pc) : Bk := { B with S := ackS B.S p.off p.size p.fin, G := setG B.G p.off.toNat p.size.toNat, fin := B.fin || p.fin }
theorem ofS_pc {S : Sd} {p : Pc} (h : PcOk S p) : ofS S p.off p.size = if p.size < 1 then (0, -1) else (p.off, p.off + p.size - 1) := by
  obtain ⟨h1, h2, h3, -⟩ := h
  unfold ofS
  split
  · rfl
  · rw [if_neg (by omega), Int.min_eq_left (by omega)]
theorem ofS_lo {S : Sd} (h : SdOk S) (p : Pc) : 0 ≤ (ofS S p.off p.size).1 ∧ (ofS S p.off p.size).2 ≤ S.sent - 1 := by
  have := ofS_in S p.off p.size (by have := h.b0; have := h.bs; omega)
  exact ⟨this.1, this.2.1⟩
theorem ofS_iff {S : Sd} {p : Pc} (h : PcOk S p) (x : Int) : ((ofS S p.off p.size).1 ≤ x ∧ x ≤ (ofS S p.off p.size).2) ↔ (p.off ≤ x ∧ x < p.off + p.size) := by
  obtain ⟨h1, h2, h3, -⟩ := id h
  rw [ofS_pc h]
  by_cases c : p.size < 1
  · rw [if_pos c]; constructor <;> intro q <;> simp only at q ⊢ <;> omega
  · rw [if_neg c]; constructor <;> intro q <;> simp only at q ⊢ <;> omega
theorem ackS_run {S : Sd} {off size : Int} {fin : Bool} (h : S.stopped = false) : ackS S off size fin = ackG S (ofS S off size) fin := by unfold ackS; rw [if_neg (by rw [h]; simp)]
theorem lostS_run {S : Sd} {off size : Int} {fin : Bool} (h : S.stopped = false) : lostS S off size fin = lostG S (ofS S off size) fin := by unfold lostS; rw [if_neg (by rw [h]; simp)]
theorem bk_ack {cap : Int} {B : Bk} (h : BkOk cap B) (hw : wr B.S ≤ 1152921504606846976) {p : Pc} (hp : PcOk B.S p) : BkOk cap (ackB B p) := by
  have hs := ackS_run (off := p.off) (size := p.size) (fin := p.fin) h.st
  have hlo := ofS_lo h.ok p
  have hb := h.ok.b0; have hbs := h.ok.bs; have hsw := h.ok.sw
  have hgA : Gx B.S.A := good_gx h.ok.gA (by omega) (by omega)
  have hn : B.S.fin ≠ 0 → (ackS B.S p.off p.size p.fin).fin ≠ 0 := fun e => by
    rw [hs]; show (if p.fin = true ∧ B.S.fin ≠ 0 then 3 else B.S.fin) ≠ 0; split <;> omega
  refine ⟨?_, ?_, ?_, ?_, h.pl, ?_, h.full, ?_, fun x hx => ?_, ?_, fun e => ?_, fun q hq => ?_⟩
  · show SdOk (ackS B.S p.off p.size p.fin)
    rw [hs]; exact (sdok_ack h.ok hw hlo p.fin).1
  · show (ackS B.S p.off p.size p.fin).cap = cap
    rw [hs]; exact h.cap
  · show (ackS B.S p.off p.size p.fin).stopped = false
    rw [hs]; exact h.st
  · show (ackS B.S p.off p.size p.fin).T = _
    rw [hs]; exact h.T
  · show (ackS B.S p.off p.size p.fin).ended = _
    rw [hs]; exact h.en
  · show (setG B.G p.off.toNat p.size.toNat).length = _
    rw [setG_len]; exact h.gl
  · have hx' : x < B.T.length := hx
    show (setG B.G p.off.toNat p.size.toNat)[x]? = some (memB (x : Int) (ackS B.S p.off p.size p.fin).A)
    rw [hs, setG_get _ _ _ _ (by rw [h.gl]; exact hx'), h.got x hx']
    have hm := memB_addS (lo := (ofS B.S p.off p.size).1) (hi := (ofS B.S p.off p.size).2) hgA (x : Int)
    rw [ofS_iff hp] at hm
    show _ = some (memB (x : Int) (addS 0 (ofS B.S p.off p.size).1 (ofS B.S p.off p.size).2 B.S.A))
    obtain ⟨h1, h2, h3, -⟩ := hp
    by_cases c : p.off.toNat ≤ x ∧ x < p.off.toNat + p.size.toNat
    · rw [if_pos c, hm.2 (.inr (by omega))]
    · rw [if_neg c]
      congr 1
      cases hA : memB (x : Int) B.S.A with
      | true => exact (hm.2 (.inl hA)).symm
      | false =>
        cases hA' : memB (x : Int) (addS 0 (ofS B.S p.off p.size).1 (ofS B.S p.off p.size).2 B.S.A) with
        | false => rfl
        | true =>
          rcases hm.1 hA' with q | q
          · rw [hA] at q; cases q
          · omega
  · show (B.fin || p.fin) = decide ((ackS B.S p.off p.size p.fin).fin = 3)
    rw [hs, h.fin]
    show _ = decide ((if p.fin = true ∧ B.S.fin ≠ 0 then (3 : Int) else B.S.fin) = 3)
    cases hf : p.fin with
    | true => rw [if_pos ⟨rfl, hp.2.2.2 hf⟩]; simp
    | false => simp
  · have e' : (ackS B.S p.off p.size p.fin).fin ≠ 0 := e
    rw [hs] at e'
    have e2 : (if p.fin = true ∧ B.S.fin ≠ 0 then (3 : Int) else B.S.fin) ≠ 0 := e'
    by_cases c : p.fin = true ∧ B.S.fin ≠ 0
    · exact h.f0 c.2
    · rw [if_neg c] at e2; exact h.f0 e2
  · refine pcok_same (h.P q hq) ?_ hn
    show B.S.sent ≤ (ackS B.S p.off p.size p.fin).sent
    rw [hs]; exact Int.le_refl _
theorem cov_ack {cap : Int} {B : Bk} (h : BkOk cap B) (hw : wr B.S ≤ 1152921504606846976) {p : Pc} (hp : PcOk B.S p) {Q : List Pc} (hc : Cov B.S Q) : Cov (ackB B p).S Q := by
  have hs := ackS_run (off := p.off) (size := p.size) (fin := p.fin) h.st
  have hb := h.ok.b0; have hbs := h.ok.bs; have hsw := h.ok.sw
  have hgA : Gx B.S.A := good_gx h.ok.gA (by omega) (by omega)
  have hgL : Gx B.S.L := good_gx h.ok.gL (by omega) (by omega)
  show Cov (ackS B.S p.off p.size p.fin) Q
  rw [hs]
  refine ⟨fun x h0 h1 => ?_, fun e => ?_⟩
  · have h1' : x < B.S.sent := h1
    show memB x (addS 0 (ofS B.S p.off p.size).1 (ofS B.S p.off p.size).2 B.S.A) = true ∨ memB x (cutS 0 (ofS B.S p.off p.size).1 (ofS B.S p.off p.size).2 B.S.L) = true ∨ _
    by_cases c : (ofS B.S p.off p.size).1 ≤ x ∧ x ≤ (ofS B.S p.off p.size).2
    · exact .inl ((memB_addS hgA x).2 (.inr c))
    · rcases hc.all x h0 h1' with q | q | q
      · exact .inl ((memB_addS hgA x).2 (.inl q))
      · exact .inr (.inl ((memB_cutS hgL x).2 ⟨q, c⟩))
      · exact .inr (.inr q)
  · have e' : (if p.fin = true ∧ B.S.fin ≠ 0 then (3 : Int) else B.S.fin) = 1 := e
    by_cases c : p.fin = true ∧ B.S.fin ≠ 0
    · rw [if_pos c] at e'; omega
    · rw [if_neg c] at e'; exact hc.fin e'

/-- A piece is lost. -/
def lostB (B : Bk) (p : Pc) : Bk := { B with S := lostS B.S p.off p.size p.fin }
theorem lostG_fin (S : Sd) (q : Int × Int) (fin : Bool) : (lostG S q fin).fin = if fin = true ∧ S.fin = 1 then 2 else S.fin := rfl
theorem bk_lost {cap : Int} {B : Bk} (h : BkOk cap B) (hw : wr B.S ≤ 1152921504606846976) (p : Pc) : BkOk cap (lostB B p) := by
  have hs := lostS_run (off := p.off) (size := p.size) (fin := p.fin) h.st
  have hlo := ofS_lo h.ok p
  have hB : lostB B p = { B with S := lostG B.S (ofS B.S p.off p.size) p.fin } := by unfold lostB; rw [hs]
  rw [hB]
  refine ⟨sdok_lost h.ok hw hlo p.fin, h.cap, h.st, h.T, h.pl, h.en, h.full, h.gl, h.got, ?_, fun e => ?_, fun q hq => pcok_same (h.P q hq) (Int.le_refl _) fun e => ?_⟩
  · show B.fin = decide ((lostG B.S (ofS B.S p.off p.size) p.fin).fin = 3)
    rw [h.fin, lostG_fin]
    by_cases c : p.fin = true ∧ B.S.fin = 1
    · rw [if_pos c, c.2]; rfl
    · rw [if_neg c]
  · have e' : (lostG B.S (ofS B.S p.off p.size) p.fin).fin ≠ 0 := e
    rw [lostG_fin] at e'
    by_cases c : p.fin = true ∧ B.S.fin = 1
    · exact h.f0 (by omega)
    · rw [if_neg c] at e'; exact h.f0 e'
  · show (lostG B.S (ofS B.S p.off p.size) p.fin).fin ≠ 0
    rw [lostG_fin]
    split <;> omega
theorem cov_lost {cap : Int} {B : Bk} (h : BkOk cap B) (hw : wr B.S ≤ 1152921504606846976) {p : Pc} (hp : PcOk B.S p) {Q : List Pc} (hc : Cov B.S (p :: Q)) : Cov (lostB B p).S Q := by
  have hs := lostS_run (off := p.off) (size := p.size) (fin := p.fin) h.st
  have hlo := ofS_lo h.ok p
  show Cov (lostS B.S p.off p.size p.fin) Q
  rw [hs]
  refine ⟨fun x h0 h1 => ?_, fun e => ?_⟩
  · have h1' : x < B.S.sent := h1
    show memB x B.S.A = true ∨ _
    cases hA : memB x B.S.A with
    | true => exact .inl rfl
    | false =>
      right
      rcases hc.all x h0 h1' with q | q | ⟨q, hq, hr⟩
      · rw [hA] at q; cases q
      · exact .inl ((lost_mem h.ok hw hlo p.fin x).2 (.inl q))
      · rcases List.mem_cons.1 hq with rfl | hq
        · refine .inl ((lost_mem h.ok hw hlo _ x).2 (.inr ?_))
          have := (ofS_iff hp x).2 hr
          exact ⟨this.1, this.2, hA⟩
        · exact .inr ⟨q, hq, hr⟩
  · have e' : (lostG B.S (ofS B.S p.off p.size) p.fin).fin = 1 := e
    rw [lostG_fin] at e'
    by_cases c : p.fin = true ∧ B.S.fin = 1
    · rw [if_pos c] at e'; omega
    · rw [if_neg c] at e'
      obtain ⟨q, hq, hr⟩ := hc.fin e'
      rcases List.mem_cons.1 hq with rfl | hq
      · exact absurd ⟨hr, e'⟩ c
      · exact ⟨q, hq, hr⟩
theorem cov_lost_all {cap : Int} {B : Bk} (h : BkOk cap B) (hw : wr B.S ≤ 1152921504606846976) {p : Pc} (hp : PcOk B.S p) {Q : List Pc} (hc : Cov B.S Q) : Cov (lostB B p).S Q :=
  cov_lost h hw hp (hc.mono fun q hq => List.mem_cons_of_mem _ hq)

/-- The rounds at the end: there is a piece. -/
theorem end_due {cap : Int} {B : Bk} (h : BkOk cap B) (hc : Clear B.S) {most limit : Int} (hm : 1 ≤ most) (hl : (B.T.length : Int) ≤ limit) (hd : doneB (feedB cap true B).S = false) : (dueS (feedB cap true B).S most limit).2.2 = true := by
  have h1 := @bk_feed cap true B h
  have hc1 := @clear_feed cap true B hc
  have hw := h1.wr
  have hpl := h1.pl
  obtain ⟨-, -, -, -, e5, -, e7, -⟩ := @feed_same cap true B
  rw [e7] at hpl
  by_cases he : (feedB cap true B).S.ended = true
  · exact clear_next h1.ok hc1 h1.st he hd hm (by omega)
  · -- it is full
    have hfull : wr (feedB cap true B).S = (feedB cap true B).S.base + cap := by
      have hB : ¬ B.ended = true := fun e => he (by unfold feedB; rw [if_pos e, h.en]; exact e)
      have n1 := feedN_le h
      have hlt : B.put + feedN cap B < B.T.length := by
        by_cases q : B.put + feedN cap B < B.T.length
        · exact q
        · exfalso
          apply he
          unfold feedB
          rw [if_neg hB, if_neg (by simp; omega)]
          rfl
      have e : feedB cap true B = feedW cap B := by
        unfold feedB
        rw [if_neg hB, if_pos (.inl hlt)]
      rw [hw, e5, e]
      show ((B.put + feedN cap B : Nat) : Int) = B.S.base + cap
      omega
    unfold dueS
    rw [if_neg (by rw [h1.st]; simp)]
    have hcap := h1.ok.cap
    rw [h1.cap] at hcap
    cases hL : (feedB cap true B).S.L with
    | cons s L => simp only [stretch]; rw [if_pos hm]
    | nil =>
      simp only
      have hsw := h1.ok.sw
      by_cases q : (feedB cap true B).S.sent < min (wr (feedB cap true B).S) limit
      · rw [if_pos q]; simp only [stretch]; rw [if_pos hm]
      · exfalso
        have e : (feedB cap true B).S.sent = wr (feedB cap true B).S := by omega
        have := clear_base h1.ok hc1 hL e
        omega

/-- A round: the piece that was told comes at once. -/
theorem end_round {cap : Int} {B : Bk} (h : BkOk cap B) (hw : wr B.S ≤ 1152921504606846976) (hc : Clear B.S) {most limit f t : Int} (hm : 1 ≤ most) (hl : wr B.S ≤ limit) (hd : dueS B.S most limit = (f, t, true)) (hnd : doneB B.S = false) :
    Clear (ackB (askB B f t) ⟨f, t - f, endB B.S t⟩).S ∧ leftN (ackB (askB B f t) ⟨f, t - f, endB B.S t⟩).G + (if doneB (ackB (askB B f t) ⟨f, t - f, endB B.S t⟩).S = true then 0 else 1) ≤ leftN B.G := by
  have h1 := bk_ask h hw hd
  have hdo := due_ok h.ok hd
  obtain ⟨l1, l2, l3⟩ := due_le h.ok hd hm hl
  have hpc : PcOk (askB B f t).S ⟨f, t - f, endB B.S t⟩ := h1.P _ (List.mem_append_right _ (by simp))
  have hs : ackS (askB B f t).S f (t - f) (endB B.S t) = ackG (askB B f t).S (ofS (askB B f t).S f (t - f)) (endB B.S t) := ackS_run h1.st
  have ho := ofS_pc hpc
  simp only at ho
  have q1 := hdo.lo; have q2 := hdo.le; have q3 := hdo.hi; have hb := h.ok.b0
  have hcl := clear_step h.ok hw hc hd (endB B.S t) rfl
  have he : ackG (askB B f t).S (ofS (askB B f t).S f (t - f)) (endB B.S t) = ackG (nextG B.S f t) (f, t - 1) (endB B.S t) := by
    rw [ho]
    by_cases c : t - f < 1
    · rw [if_pos c]
      have a1 : addS 0 0 (-1) B.S.A = addS 0 f (t - 1) B.S.A := by
        unfold addS; rw [if_pos (by omega), if_pos (by omega)]
      have a2 : ∀ L, cutS 0 0 (-1) L = cutS 0 f (t - 1) L := fun L => by
        unfold cutS; rw [if_pos (by omega), if_pos (by omega)]
      show ackG (nextG B.S f t) (0, -1) (endB B.S t) = ackG (nextG B.S f t) (f, t - 1) (endB B.S t)
      unfold ackG
      have a1' : addS 0 0 (-1) (nextG B.S f t).A = addS 0 f (t - 1) (nextG B.S f t).A := a1
      simp only [a1', a2]
    · rw [if_neg c]
      show ackG (nextG B.S f t) (f, f + (t - f) - 1) (endB B.S t) = _
      rw [show f + (t - f) - 1 = t - 1 by omega]
  have hS : (ackB (askB B f t) ⟨f, t - f, endB B.S t⟩).S = ackG (nextG B.S f t) (f, t - 1) (endB B.S t) := hs.trans he
  rw [hS]
  refine ⟨hcl, ?_⟩
  have hG : (ackB (askB B f t) ⟨f, t - f, endB B.S t⟩).G = setG B.G f.toNat (t - f).toNat := rfl
  rw [hG]
  have hlg := leftN_setG B.G f.toNat (t - f).toNat
  rcases l3 with l3 | ⟨l3, l4, l5, l6, l7⟩
  · have hfree := due_free h.ok hd f (Int.le_refl _) (by omega)
    have hpl := h.pl; have hwr := h.wr
    have hgot := h.got f.toNat (by omega)
    rw [Int.toNat_of_nonneg (by omega), hfree] at hgot
    have := hlg.2 (by omega) hgot
    split <;> omega
  · have hbase := clear_base h.ok hc l4 l5
    have hen : B.S.ended = true := by unfold endB at l3; simp only [Bool.and_eq_true] at l3; exact l3.1
    have hdn : doneB (ackG (nextG B.S f t) (f, t - 1) (endB B.S t)) = true := by
      unfold doneB
      have e1 : (ackG (nextG B.S f t) (f, t - 1) (endB B.S t)).ended = true := hen
      have e2 : (ackG (nextG B.S f t) (f, t - 1) (endB B.S t)).base = wr B.S := by
        show baseOf B.S.base (addS 0 f (t - 1) B.S.A) = wr B.S
        have : addS 0 f (t - 1) B.S.A = B.S.A := by unfold addS; rw [if_pos (by omega)]
        rw [this]
        unfold baseOf
        rw [if_neg (by rw [h.ok.top]; simp)]
        exact hbase
      have e3 : (ackG (nextG B.S f t) (f, t - 1) (endB B.S t)).fin = 3 := by
        show (if endB B.S t = true ∧ (nextG B.S f t).fin ≠ 0 then (3 : Int) else (nextG B.S f t).fin) = 3
        have hn : (nextG B.S f t).fin ≠ 0 := by
          rw [nextG_fin]
          by_cases c : B.S.fin = 3
          · simp [c]
          · simp [c, l3]
        rw [if_pos ⟨l3, hn⟩]
      have e4 : wr (ackG (nextG B.S f t) (f, t - 1) (endB B.S t)) = wr B.S := rfl
      rw [e1, e2, e3, e4]
      simp
    rw [if_pos hdn]
    omega

/-- Where it is done, all has come. -/
theorem done_all {cap : Int} {B : Bk} (h : BkOk cap B) (hd : doneB B.S = true) : B.fin = true ∧ leftN B.G = 0 ∧ B.ended = true ∧ B.S.base = B.T.length ∧ B.S.fin = 3 := by
  unfold doneB at hd
  simp only [Bool.and_eq_true, decide_eq_true_eq] at hd
  obtain ⟨⟨h1, h2⟩, h3⟩ := hd
  have hen : B.ended = true := h.en ▸ h1
  have hw := h.wr
  have hf := h.full hen
  refine ⟨by rw [h.fin, h3]; rfl, leftN_all fun x hx => ?_, hen, by omega, h3⟩
  rw [h.gl] at hx
  rw [h.got x hx, h.ok.low (x : Int) (by omega) (by omega)]

/-- A book that was just begun. -/
def bk0 (cap : Int) (T : List Int) : Bk := ⟨new0 cap, T, 0, false, List.replicate T.length false, false, []⟩
theorem bk_new {cap : Int} (hc : 1 ≤ cap ∧ cap ≤ 65536) (T : List Int) : BkOk cap (bk0 cap T) := by
  refine ⟨sdok_new hc, rfl, rfl, ?_, Nat.zero_le _, rfl, fun e => (by cases e), ?_, fun x hx => ?_, rfl, fun e => absurd rfl e, fun p hp => ?_⟩
  · show ([] : List Int) = T.take 0
    simp
  · show (List.replicate T.length false).length = T.length
    simp
  · have hx' : x < T.length := hx
    show (List.replicate T.length false)[x]? = some (memB (x : Int) [])
    rw [List.getElem?_replicate, if_pos hx']
    rfl
  · have : p ∈ ([] : List Pc) := hp
    simp at this
theorem cov_new (cap : Int) (T : List Int) : Cov (bk0 cap T).S (bk0 cap T).P :=
  ⟨fun x h0 h1 => by have : x < 0 := h1; omega, fun e => by have : (0 : Int) = 1 := e; omega⟩
end Go.Proofs.Ytdalekjpjnhboaa

namespace Go.Proofs.Ytdalekjpjnhboaa
open Go.RowKit
set_option linter.unusedVariables false
set_option maxHeartbeats 4000000
set_option maxRecDepth 100000

/-- The first so many are turned. -/
def updL (f : Nat → Int → Int) (J : List Int) : Nat → List Int
  | 0 => J
  | k + 1 => (updL f J k).set k (f k (J.getD k 0))
theorem updL_len (f : Nat → Int → Int) (J : List Int) (k : Nat) : (updL f J k).length = J.length := by
  induction k with
  | zero => rfl
  | succ k ih => simp only [updL, List.length_set, ih]
theorem updL_get (f : Nat → Int → Int) (J : List Int) (k i : Nat) (x : Int) (hx : J[i]? = some x) : (updL f J k)[i]? = some (if i < k then f i x else x) := by
  have hi := (List.getElem?_eq_some_iff.1 hx).1
  induction k with
  | zero => rw [if_neg (by omega)]; exact hx
  | succ k ih =>
    simp only [updL]
    rw [List.getElem?_set]
    by_cases c : k = i
    · subst c
      rw [if_pos rfl, if_pos (by rw [updL_len]; exact hi), if_pos (by omega)]
      simp [List.getD, hx]
    · rw [if_neg c, ih]
      by_cases c2 : i < k
      · rw [if_pos c2, if_pos (by omega)]
      · rw [if_neg c2, if_neg (by omega)]
theorem updL_set (f : Nat → Int → Int) (J : List Int) (k : Nat) (x y : Int) (hx : J[k]? = some x) (hy : f k x = y) : (updL f J k).set k y = updL f J (k + 1) := by
  simp only [updL]
  rw [List.getD_eq_getElem?_getD, hx]
  simp [hy]
theorem updL_skip (f : Nat → Int → Int) (J : List Int) (k : Nat) (x : Int) (hx : J[k]? = some x) (hy : f k x = x) : updL f J k = updL f J (k + 1) := by
  rw [← updL_set f J k x x hx hy]
  have := updL_get f J k k x hx
  rw [if_neg (by omega)] at this
  apply List.ext_getElem?
  intro i
  rw [List.getElem?_set]
  by_cases c : k = i
  · subst c
    rw [if_pos rfl, if_pos (List.getElem?_eq_some_iff.1 this).1, this]
  · rw [if_neg c]
theorem updL_is {f : Nat → Int → Int} {S S' : Sd} (n : Nat) (hT : S'.T = S.T) (h : ∀ x : Nat, x < S.T.length → isAt S' (x : Int) = if x < n then f x (isAt S (x : Int)) else isAt S (x : Int)) : updL f (isL S) n = isL S' := by
  refine isL_eq (by rw [updL_len, isL_len, hT]) fun x hx => ?_
  rw [hT] at hx
  rw [updL_get f (isL S) n x _ (isL_get S x hx), h x hx]

def meantB (x off size : Int) : Bool := decide (off ≤ x) && decide (x - size < off)
theorem meantR (x off size : Int) (w : World) (hx : 0 ≤ x ∧ x ≤ 1000000000000) (hs : 1 ≤ size ∧ size ≤ 9223372036854775807) : Calls Try.prog 58 #[.int .i64 x, .int .i64 off, .int .i64 size] w fun e w' => e = .returned (.bool (meantB x off size)) ∧ w' = w := by
  have w1 : IntKind.i64.wrap (x - size) = x - size := by rw [IntKind.wrap_i64]; omega
  unfold meantB
  cases h1 : decide (off ≤ x)
  all_goals go_enter Try.func58, Try.ntmps58
  all_goals go_wp2
  all_goals go_ret
  all_goals exact ⟨by simp [*], rfl⟩
/-- Is an offset one of those that are told? -/
def isB (off size : Int) (x : Nat) : Bool := decide (0 < size) && meantB (x : Int) off size
theorem isB_iff {S : Sd} (off size : Int) (x : Nat) (h0 : 0 ≤ S.sent) (hx : (x : Int) < S.sent) : isB off size x = true ↔ ((ofS S off size).1 ≤ (x : Int) ∧ (x : Int) ≤ (ofS S off size).2) := by
  unfold isB meantB ofS
  simp only [Bool.and_eq_true, decide_eq_true_eq]
  split
  · constructor <;> intro q <;> simp only at q ⊢ <;> omega
  · split
    · constructor <;> intro q <;> simp only at q ⊢ <;> omega
    · constructor <;> intro q <;> simp only at q ⊢ <;> omega

theorem isAt_ack {S : Sd} (h : SdOk S) (hw : wr S ≤ 1000000000000) (hs : S.stopped = false) (off size : Int) (fin : Bool) (x : Nat) : isAt (ackS S off size fin) (x : Int) = if (x : Int) < S.sent ∧ isB off size x = true then 3 else isAt S (x : Int) := by
  have hb := h.b0; have hbs := h.bs; have hsw := h.sw
  have hgA : Gx S.A := good_gx h.gA (by omega) (by omega)
  have hgL : Gx S.L := good_gx h.gL (by omega) (by omega)
  rw [ackS_run hs]
  show (if S.sent ≤ (x : Int) then 0 else if memB (x : Int) (addS 0 (ofS S off size).1 (ofS S off size).2 S.A) = true then 3 else if memB (x : Int) (cutS 0 (ofS S off size).1 (ofS S off size).2 S.L) = true then 2 else 1) = _
  unfold isAt
  by_cases c : S.sent ≤ (x : Int)
  · rw [if_pos c, if_neg (by omega), if_pos c]
  · rw [if_neg c, if_neg c]
    have hi := isB_iff (S := S) off size x (by omega) (by omega)
    by_cases q : isB off size x = true
    · rw [if_pos ((memB_addS hgA _).2 (.inr (hi.1 q))), if_pos ⟨by omega, q⟩]
    · rw [if_neg (c := (x : Int) < S.sent ∧ isB off size x = true) (fun z => q z.2)]
      have hn : ¬ ((ofS S off size).1 ≤ (x : Int) ∧ (x : Int) ≤ (ofS S off size).2) := fun z => q (hi.2 z)
      have e1 : memB (x : Int) (addS 0 (ofS S off size).1 (ofS S off size).2 S.A) = true ↔ memB (x : Int) S.A = true := by
        rw [memB_addS hgA]
        exact ⟨fun z => z.resolve_right hn, .inl⟩
      have e2 : memB (x : Int) (cutS 0 (ofS S off size).1 (ofS S off size).2 S.L) = true ↔ memB (x : Int) S.L = true := by
        rw [memB_cutS hgL]
        exact ⟨fun z => z.1, fun z => ⟨z, hn⟩⟩
      simp only [e1, e2]
theorem isAt_lost {S : Sd} (h : SdOk S) (hw : wr S ≤ 1000000000000) (hs : S.stopped = false) (off size : Int) (fin : Bool) (x : Nat) : isAt (lostS S off size fin) (x : Int) = if (x : Int) < S.sent ∧ isB off size x = true ∧ isAt S (x : Int) ≠ 3 then 2 else isAt S (x : Int) := by
  have hb := h.b0; have hbs := h.bs; have hsw := h.sw
  rw [lostS_run hs]
  have hlo := ofS_lo h ⟨off, size, fin⟩
  have hm := lost_mem h (by omega) (p := ofS S off size) hlo fin (x : Int)
  show (if S.sent ≤ (x : Int) then 0 else if memB (x : Int) S.A = true then 3 else if memB (x : Int) (lostG S (ofS S off size) fin).L = true then 2 else 1) = _
  unfold isAt
  by_cases c : S.sent ≤ (x : Int)
  · rw [if_pos c, if_neg (by omega), if_pos c]
  · rw [if_neg c, if_neg c]
    have hi := isB_iff (S := S) off size x (by omega) (by omega)
    cases hA : memB (x : Int) S.A with
    | true => simp
    | false =>
      rw [hA] at hm
      by_cases q : isB off size x = true
      · rw [if_neg (by simp), if_pos (hm.2 (.inr ⟨(hi.1 q).1, (hi.1 q).2, rfl⟩)), if_pos ⟨by omega, q, by simp; split <;> omega⟩]
      · rw [if_neg (c := (x : Int) < S.sent ∧ isB off size x = true ∧ _) (fun z => q z.2.1)]
        have e : memB (x : Int) (lostG S (ofS S off size) fin).L = true ↔ memB (x : Int) S.L = true := by
          rw [hm]
          exact ⟨fun z => z.resolve_right (fun y => q (hi.2 ⟨y.1, y.2.1⟩)), .inl⟩
        simp only [e]
theorem isAt_stop {S : Sd} (x : Nat) : isAt (stopG S) (x : Int) = if (x : Int) < S.sent ∧ isAt S (x : Int) = 2 then 1 else isAt S (x : Int) := by
  show (if S.sent ≤ (x : Int) then 0 else if memB (x : Int) S.A = true then 3 else if memB (x : Int) [] = true then 2 else 1) = _
  unfold isAt
  by_cases c : S.sent ≤ (x : Int)
  · rw [if_pos c, if_neg (by omega), if_pos c]
  · rw [if_neg c, if_neg c]
    have e : ¬ memB (x : Int) [] = true := by simp [memB]
    have hx : (x : Int) < S.sent := by omega
    rw [if_neg e]
    by_cases hA : memB (x : Int) S.A = true
    · simp [hA]
    · by_cases hL : memB (x : Int) S.L = true
      · simp [hA, hL, hx]
      · simp [hA, hL]

section
variable {n0 : Nat} {X Y : World} {rb : Nat} {vt vi : Value} {S : Sd}

/-- Between two rounds over what the offsets are. -/
def RW (n0 : Nat) (X : World) (rb : Nat) (vt vi : Value) (R : Rs) (f : Nat → Int → Int) (S : Sd) (k : Nat) (Z : World) : Prop := RF n0 Z rb vt vi { R with J := updL f (isL S) k } ∧ Kp (Rm rb vt vi) X Z
theorem RW.step {R : Rs} {f : Nat → Int → Int} {k g n c : Nat} {Z : World} (h : RW n0 X rb vt (.slice (some ⟨g, 0, none⟩) n c) R f S k Z) (x y : Int) (hx : (isL S)[k]? = some x) (hy : f k x = y) : RW n0 X rb vt (.slice (some ⟨g, 0, none⟩) n c) R f S (k + 1) (Z.setCell ⟨g, k, none⟩ (.int .i64 y)) := by
  have hk := (List.getElem?_eq_some_iff.1 hx).1
  have := h.1.mark k (by show k < (updL f (isL S) k).length; rw [updL_len]; exact hk) y
  refine ⟨?_, h.2.set g k _ (fun _ => .inr (.inr rfl))⟩
  have e : (updL f (isL S) k).set k y = updL f (isL S) (k + 1) := updL_set f (isL S) k x y hx hy
  rw [← e]
  exact this
theorem RW.skip {R : Rs} {f : Nat → Int → Int} {k : Nat} {Z : World} (h : RW n0 X rb vt vi R f S k Z) (x : Int) (hx : (isL S)[k]? = some x) (hy : f k x = x) : RW n0 X rb vt vi R f S (k + 1) Z := by
  refine ⟨?_, h.2⟩
  rw [← updL_skip f (isL S) k x hx hy]
  exact h.1
/-- The row of a round. -/
theorem RW.row {R : Rs} {f : Nat → Int → Int} {k : Nat} {Z : World} (h : RW n0 X rb vt vi R f S k Z) (hk : k < S.T.length) : ∃ g c, vi = .slice (some ⟨g, 0, none⟩) S.T.length c ∧ c ≤ 9223372036854775807 ∧ Z.frozen? ⟨g, k, none⟩ = false ∧ Z.cell? ⟨g, k, none⟩ = some (.int .i64 (isAt S (k : Int))) := by
  obtain ⟨a, c, e, -, h2, h3⟩ := h.1.isRow
  have el : (updL f (isL S) k).length = S.T.length := by rw [updL_len, isL_len]
  simp only [el] at e
  have hx := updL_get f (isL S) k k _ (isL_get S k hk)
  rw [if_neg (by omega)] at hx
  obtain ⟨g, rfl, hf, hc⟩ := h3.resolve_left (fun z => by have z' : updL f (isL S) k = [] := z; rw [z'] at hx; simp at hx)
  exact ⟨g, c, e, h2, hf k, hc k _ hx⟩

theorem acksR (h : RS n0 X rb vt vi S) (hok : SdOk S) (hbig : wr S ≤ 1000000000000) (off size : Int) (fin : Bool) (ho : -9223372036854775808 ≤ off ∧ off ≤ 9223372036854775807) (hz : -9223372036854775808 ≤ size ∧ size ≤ 9223372036854775807) :
    Calls Try.prog 33 #[ptr rb, .int .i64 off, .int .i64 size, .bool fin] X fun e Y => e = .returned (.tuple #[]) ∧ RS n0 Y rb vt vi (ackS S off size fin) ∧ Kp (Rm rb vt vi) X Y := by
  have c5 : X.cell? ⟨rb, 5, none⟩ = some (.bool S.stopped) := h.cells.2.2.2.2.2.1
  cases hs : S.stopped with
  | true =>
    rw [hs] at c5
    have H : Hid (RS n0 X rb vt vi (ackS S off size fin)) := by unfold ackS; rw [if_pos hs]; exact h
    clear h hs
    go_enter Try.func33, Try.ntmps33
    go_wp2
    all_goals refine bodyPost_ret (results_none rfl _ _ _) rfl ?_
    all_goals exact ⟨rfl, unhide H, Kp.refl _ _⟩
  | false =>
    rw [hs] at c5
    have hb0 := hok.b0; have hbs := hok.bs; have hsw := hok.sw
    have hwr : wr S = (S.T.length : Int) := rfl
    obtain ⟨n, hn⟩ : ∃ n : Nat, S.sent = (n : Int) := ⟨S.sent.toNat, by omega⟩
    have hnN : n ≤ S.T.length := by omega
    have I0 : Hid (RW n0 X rb vt vi (rsOf S) (fun x v => if isB off size x = true then 3 else v) S 0 X) := ⟨h, Kp.refl _ _⟩
    have FIN : Hid (∀ Z, RW n0 X rb vt vi (rsOf S) (fun x v => if isB off size x = true then 3 else v) S n Z → RF n0 Z rb vt vi { rsOf S with J := isL (ackS S off size fin) } ∧ Kp (Rm rb vt vi) X Z) := fun Z hZ => by
      refine ⟨?_, hZ.2⟩
      have := hZ.1
      rw [updL_is (S' := ackS S off size fin) n (by rw [ackS_run hs]; rfl) fun x hx => ?_] at this
      · exact this
      · rw [isAt_ack hok hbig hs off size fin x]
        by_cases c : x < n
        · rw [if_pos c]
          by_cases q : isB off size x = true
          · rw [if_pos ⟨by omega, q⟩, if_pos q]
          · rw [if_neg (fun z => q z.2), if_neg q]
        · rw [if_neg c, if_neg (fun z => c (by have := z.1; omega))]
    have ACK : Hid (ackS S off size fin = ackG S (ofS S off size) fin) := ackS_run hs
    have hnb : n ≤ 1000000000000 := by omega
    have HN := hide hn
    clear h hok hb0 hbs hsw hwr hbig
    go_enter Try.func33, Try.ntmps33
    go_wp2
    clear c5
    go_loopw [8] (fun i Z => ∃ k : Nat, k ≤ n ∧ i = .int .i64 (k : Int) ∧ Hid (RW n0 X rb vt vi (rsOf S) (fun x v => if isB off size x = true then 3 else v) S k Z)) (fun i _ => n - (intOf i).toNat)
    case atStart => exact ⟨0, Nat.zero_le _, rfl, I0⟩
    case round =>
      clear I0
      obtain ⟨k, hk, rfl, I⟩ := hrel
      obtain ⟨Z, hZ⟩ : ∃ Z, Z = wr := ⟨_, rfl⟩
      subst hZ
      have c7 : Z.cell? ⟨rb, 7, none⟩ = some (.int .i64 (n : Int)) := by rw [← unhide HN]; exact (unhide I).1.cells.2.2.2.2.2.2.2
      by_cases hlt : k < n
      · obtain ⟨g, c, rfl, hc, hf, hx⟩ := (unhide I).row (k := k) (by omega)
        have c2 : Z.cell? ⟨rb, 2, none⟩ = some (.slice (some ⟨g, 0, none⟩) S.T.length c) := (unhide I).1.cells.2.2.1
        have hget := isL_get S k (by omega)
        have hkn : (k : Int) < (n : Int) := by omega
        have hk0 : (0 : Int) ≤ (k : Int) := by omega
        have hkT : (k : Int) < (S.T.length : Int) := by omega
        by_cases hs0 : 0 < size
        · have hs0d : decide (0 < size) = true := decide_eq_true hs0
          have hm := meantR (k : Int) off size Z (by omega) (by omega)
          have eB : isB off size k = meantB (k : Int) off size := by unfold isB; rw [hs0d]; rfl
          cases hB : meantB (k : Int) off size with
          | true =>
            rw [hB] at hm eB
            have NX := hide ((unhide I).step _ 3 hget (by rw [if_pos eB]))
            clear hget I eB hB FIN
            have HLT := hide hlt
            clear hlt hk
            go_wp2_with fail
            refine hm.mono ?_
            rintro e Z' ⟨rfl, hZ'⟩
            subst Z'
            clear hm
            go_wp2
            exact ⟨⟨k + 1, unhide HLT, by go_num, NX⟩, by simp [intOf]; have := unhide HLT; omega⟩
          | false =>
            rw [hB] at hm eB
            have NX := hide ((unhide I).skip _ hget (by rw [if_neg (by rw [eB]; simp)]))
            clear hget I eB hB FIN
            have HLT := hide hlt
            clear hlt hk
            go_wp2_with fail
            refine hm.mono ?_
            rintro e Z' ⟨rfl, hZ'⟩
            subst Z'
            clear hm
            go_wp2
            exact ⟨⟨k + 1, unhide HLT, by go_num, NX⟩, by simp [intOf]; have := unhide HLT; omega⟩
        · have hs0d : decide (0 < size) = false := decide_eq_false hs0
          have eB : isB off size k = false := by unfold isB; rw [hs0d]; rfl
          have NX := hide ((unhide I).skip _ hget (by rw [if_neg (by rw [eB]; simp)]))
          clear hget I eB FIN
          have HLT := hide hlt
          clear hlt hk
          go_wp2
          exact ⟨⟨k + 1, unhide HLT, by go_num, NX⟩, by simp [intOf]; have := unhide HLT; omega⟩
      · obtain rfl : k = n := by omega
        have hno : ¬ (k : Int) < (k : Int) := by omega
        obtain ⟨hF, hK⟩ := unhide FIN Z (unhide I)
        have c4 : Z.cell? ⟨rb, 4, none⟩ = some (.bool (decide (S.fin ≠ 0))) := hF.cells.2.2.2.2.1
        have f6 := hF.blk.thaw 6
        have c6 : Z.cell? ⟨rb, 6, none⟩ = some (.int .i64 S.fin) := hF.cells.2.2.2.2.2.2.1
        by_cases hfin : fin = true ∧ S.fin ≠ 0
        · have hR : RS n0 (Z.setCell ⟨rb, 6, none⟩ (.int .i64 3)) rb vt vi (ackS S off size fin) := by
            have := hF.put (R' := { rsOf S with J := isL (ackS S off size fin), fin := 3 }) 6 (.int .i64 3) rfl rfl rfl
            have e : rsOf (ackS S off size fin) = { rsOf S with J := isL (ackS S off size fin), fin := 3 } := by
              have e1 : (ackS S off size fin).fin = 3 := by rw [unhide ACK]; show (if fin = true ∧ S.fin ≠ 0 then 3 else S.fin) = 3; rw [if_pos hfin]
              unfold rsOf
              rw [e1, unhide ACK]
              simp [hfin.2, ackG]
            show RF n0 _ rb vt vi (rsOf (ackS S off size fin))
            rw [e]
            exact this
          have HR := hide hR
          have HK : Hid (Kp (Rm rb vt vi) X (Z.setCell ⟨rb, 6, none⟩ (.int .i64 3))) := hK.set rb 6 _ (fun _ => .inl rfl)
          obtain ⟨rfl, hf0⟩ := hfin
          have hf0d : decide (S.fin ≠ 0) = true := decide_eq_true hf0
          rw [hf0d] at c4
          clear hF hK hR FIN I ACK hf0 hf0d HN hn
          generalize S.fin = fz at *
          go_wp2
          all_goals refine bodyPost_end (results_none rfl _ _ _) rfl ?_
          all_goals exact ⟨rfl, unhide HR, unhide HK⟩
        · have hR : RS n0 Z rb vt vi (ackS S off size fin) := by
            have e : rsOf (ackS S off size fin) = { rsOf S with J := isL (ackS S off size fin) } := by
              have e1 : (ackS S off size fin).fin = S.fin := by rw [unhide ACK]; show (if fin = true ∧ S.fin ≠ 0 then 3 else S.fin) = S.fin; rw [if_neg hfin]
              unfold rsOf
              rw [e1, unhide ACK]
              simp [ackG]
            show RF n0 _ rb vt vi (rsOf (ackS S off size fin))
            rw [e]
            exact hF
          have HR := hide hR
          have HK := hide hK
          clear hF hK hR FIN I ACK HN hn f6
          cases fin with
          | false =>
            go_wp2
            all_goals refine bodyPost_end (results_none rfl _ _ _) rfl ?_
            all_goals exact ⟨rfl, unhide HR, unhide HK⟩
          | true =>
            have hf0d : decide (S.fin ≠ 0) = false := decide_eq_false (fun z => hfin ⟨rfl, z⟩)
            rw [hf0d] at c4
            clear hfin hf0d
            go_wp2
            all_goals refine bodyPost_end (results_none rfl _ _ _) rfl ?_
            all_goals exact ⟨rfl, unhide HR, unhide HK⟩
end
end Go.Proofs.Ytdalekjpjnhboaa

namespace Go.Proofs.Ytdalekjpjnhboaa
open Go.RowKit
set_option linter.unusedVariables false
set_option linter.unusedSimpArgs false
set_option maxHeartbeats 4000000
set_option maxRecDepth 100000

theorem isAt_next {S : Sd} (h : SdOk S) (hw : wr S ≤ 1000000000) {most limit f t : Int} (hd : dueS S most limit = (f, t, true)) (hfs : f ≤ S.sent) (x : Int) (h0 : 0 ≤ x) : isAt (nextG S f t) x = if x < t then (if f ≤ x then 1 else isAt S x) else isAt S x := by
  have hdo := due_ok h hd
  have q1 := hdo.lo; have q2 := hdo.le; have q3 := hdo.hi
  have hb := h.b0; have hbs := h.bs; have hsw := h.sw
  have hgL : Gx S.L := good_gx h.gL (by omega) (by omega)
  show (if max S.sent t ≤ x then 0 else if memB x S.A = true then 3 else if memB x (cutS 0 f (t - 1) S.L) = true then 2 else 1) = _
  by_cases c : x < t
  · rw [if_pos c, if_neg (c := max S.sent t ≤ x) (by omega)]
    by_cases d : f ≤ x
    · rw [if_pos d, if_neg (by rw [due_free h hd x d (by omega)]; simp), if_neg (fun q => ((memB_cutS hgL x).1 q).2 ⟨d, by omega⟩)]
    · rw [if_neg d]
      unfold isAt
      rw [if_neg (c := S.sent ≤ x) (by omega)]
      have e : memB x (cutS 0 f (t - 1) S.L) = true ↔ memB x S.L = true := by
        rw [memB_cutS hgL]
        exact ⟨fun z => z.1, fun z => ⟨z, fun y => d y.1⟩⟩
      simp only [e]
  · rw [if_neg c]
    unfold isAt
    by_cases d : S.sent ≤ x
    · rw [if_pos (c := max S.sent t ≤ x) (by omega), if_pos d]
    · rw [if_neg (c := max S.sent t ≤ x) (by omega), if_neg d]
      have e : memB x (cutS 0 f (t - 1) S.L) = true ↔ memB x S.L = true := by
        rw [memB_cutS hgL]
        exact ⟨fun z => z.1, fun z => ⟨z, fun y => by omega⟩⟩
      simp only [e]
theorem due_from {S : Sd} (h : SdOk S) {most limit f t : Int} (hd : dueS S most limit = (f, t, true)) : f ≤ S.sent := by
  unfold dueS at hd
  by_cases hs : S.stopped = true
  · rw [if_pos hs] at hd; simp at hd
  · rw [if_neg hs] at hd
    cases hL : S.L with
    | cons s L =>
      rw [hL] at hd
      have hg := h.gL
      rw [hL] at hg
      have g2 := hg.2.1; have g3 := hg.2.2.1
      simp only [stretch] at hd
      split at hd
      · simp only [Prod.mk.injEq] at hd; omega
      · simp at hd
    | nil =>
      rw [hL] at hd
      simp only at hd
      split at hd
      · simp only [stretch] at hd
        split at hd
        · simp only [Prod.mk.injEq] at hd; omega
        · simp at hd
      · split at hd
        · rename_i hfw
          simp only [Prod.mk.injEq] at hd
          unfold finW at hfw
          simp only [Bool.and_eq_true, decide_eq_true_eq] at hfw
          omega
        · simp at hd

def pc0 : Array Value := #[.int .i64 0, nilS, .bool false, .bool false]
theorem Try.sizeP15 : (Try.prog.info? 78).map (·.size) = some 4 := by kernel_rfl

/-- Bytes of a call's own. -/
structure BV (X : World) (v : Value) (l : List Int) (Y : World) : Prop where
  row : RowV X.heap.size 5 Y v (uV l)
  by_ : ∀ x ∈ l, IsB x

section
variable {n0 : Nat} {X Y : World} {rb : Nat} {vt vi : Value} {S : Sd}

/-- What the document's Next leaves. -/
def NextR (n0 : Nat) (X : World) (rb : Nat) (vt vi : Value) (S : Sd) (most limit : Int) (e : Ending) (Y : World) : Prop :=
  ∃ v, e = .returned (.agg #[.int .i64 (dueS S most limit).1, v, .bool ((dueS S most limit).2.2 && endB S (dueS S most limit).2.1), .bool (dueS S most limit).2.2]) ∧ RS n0 Y rb vt vi (nextS S most limit) ∧ Kp (Rm rb vt vi) X Y ∧ BV X v (if (dueS S most limit).2.2 = true then pieceT S.T (dueS S most limit).1 (dueS S most limit).2.1 else []) Y

theorem nextR_no (h : RS n0 X rb vt vi S) (hok : SdOk S) (hbig : wr S ≤ 1000000000) (most limit : Int) (hm : -9223372036854775808 ≤ most ∧ most ≤ 9223372036854775807) (hd : (dueS S most limit).2.2 = false) :
    Calls Try.prog 32 #[ptr rb, .int .i64 most, .int .i64 limit] X (NextR n0 X rb vt vi S most limit) := by
  have g1 : X.grownBy (X.alloc (.cells pc0 78)) none := grown_alloc _ _
  have h1 := h.grown g1
  have br : Blk (X.alloc (.cells pc0 78)) X.heap.size pc0 78 := Blk.new _ _ _
  obtain ⟨W1, hW1⟩ : ∃ W1, W1 = X.alloc (.cells pc0 78) := ⟨_, rfl⟩
  rw [← hW1] at h1 br g1
  have hsp := spanR h1 hok hbig most limit hm
  unfold SpanP at hsp
  have hz := due_no hd
  unfold NextR nextS
  rw [hd, hz] at *
  simp only [Bool.false_and]
  have POST : Hid (∀ Y, W1.grownBy Y none → Blk Y X.heap.size pc0 78 ∧ RS n0 Y rb vt vi S ∧ Kp (Rm rb vt vi) X Y) := fun Y g => ⟨br.grown g, h1.grown g, Kp.grown (grown_trans g1 g) _⟩
  clear h hok h1 br g1 hd hz
  go_enter Try.func32, Try.ntmps32
  go_wp2_with fail
  rw [show (X.alloc (.cells #[.int .i64 0, .slice none 0 0, .bool false, .bool false] 78)) = W1 from hW1.symm]
  clear hW1
  refine hsp.mono ?_
  rintro e Y ⟨f, t, rfl, -, gY⟩
  obtain ⟨b1, b2, b3⟩ := unhide POST Y gY
  clear hsp gY POST
  have B2 := hide b2
  have B3 := hide b3
  have B1 := hide b1
  have sz := b1.thaws
  have y0 : Y.setCell ⟨X.heap.size, 0, none⟩ (.int .i64 0) = Y := b1.same 0 _ rfl
  have y1 : Y.setCell ⟨X.heap.size, 1, none⟩ (.slice none 0 0) = Y := b1.same 1 _ rfl
  have y2 : Y.setCell ⟨X.heap.size, 2, none⟩ (.bool false) = Y := b1.same 2 _ rfl
  have y3 : Y.setCell ⟨X.heap.size, 3, none⟩ (.bool false) = Y := b1.same 3 _ rfl
  have z0 : Y.cell? ⟨X.heap.size, 0, none⟩ = some (.int .i64 0) := b1.cell 0 _ rfl
  have z1 : Y.cell? ⟨X.heap.size, 1, none⟩ = some (.slice none 0 0) := b1.cell 1 _ rfl
  have z2 : Y.cell? ⟨X.heap.size, 2, none⟩ = some (.bool false) := b1.cell 2 _ rfl
  have z3 : Y.cell? ⟨X.heap.size, 3, none⟩ = some (.bool false) := b1.cell 3 _ rfl
  clear b1 b2 b3
  generalize X.heap.size = r at *
  go_wp2_with fail
  all_goals try rw [y0, y1, y2, y3]
  refine bodyPost_ret (results_cell_row rfl _ _ r 78 _ (0, 0) _ rfl (unhide B1) Try.underlying78 rfl Try.sizeP15) rfl ?_
  exact ⟨nilS, rfl, unhide B2, unhide B3, rowV_nil _ _ _, by simp⟩
end
end Go.Proofs.Ytdalekjpjnhboaa

namespace Go.Proofs.Ytdalekjpjnhboaa
open Go.RowKit
set_option linter.unusedVariables false
set_option linter.unusedSimpArgs false
set_option maxHeartbeats 40000000
set_option maxRecDepth 100000

theorem rowV_ne2 {n0 n1 : Nat} {t t' : TypeId} {X : World} {v v' : Value} {L L' : List Value} (h : RowV n0 t X v L) (h' : RowV n1 t' X v' L') (ht : t' ≠ t) {g : Nat} (e : v'.ownBlock = some g) : v.ownBlock ≠ some g := by
  rcases h'.2 with ⟨rfl, -⟩ | ⟨g', c, cur, rfl, q1, q2, q3⟩
  · cases e
  · cases e
    exact h.ne (show Blk X g' cur t' from q2) ht
theorem nextG_fin15 (S : Sd) (f t : Int) : (nextG S f t).fin = if endB S t = true ∧ S.fin ≠ 3 then 1 else S.fin := rfl
theorem rowKeep {n0 : Nat} {t : TypeId} {X : World} {v : Value} {L : List Value} {rb : Nat} (h : RowV n0 t X v L) (hn : ∀ g, v.ownBlock = some g → g ≠ rb) (j : Nat) (x : Value) : RowV n0 t (X.setCell ⟨rb, j, none⟩ x) v L := h.kept fun g e => set_heap _ _ _ _ _ (hn g e)
def pca4 (F : Int) (vd : Value) (E : Bool) : Array Value := #[.int .i64 F, vd, .bool E, .bool true]
/-- Between two bytes of a piece. -/
structure NI (n0 : Nat) (X : World) (rb : Nat) (vt vi : Value) (S : Sd) (f : Nat → Int → Int) (pb rk F : Nat) (E : Bool) (k : Nat) (vd : Value) (Z : World) : Prop where
  rw : RW n0 X rb vt vi (rsOf S) f S (F + k) Z
  bp : Blk Z pb (pca4 (F : Int) vd E) 78
  rr : Blk Z rk pc0 78
  row : RowV X.heap.size 5 Z vd (uV ((S.T.drop F).take k))
  np : X.heap.size ≤ pb
  nr : X.heap.size ≤ rk
  ne : pb ≠ rk

section
variable {n0 : Nat} {X Y Z : World} {rb : Nat} {vt vi : Value} {S : Sd} {f : Nat → Int → Int} {pb rk F : Nat} {E : Bool} {k : Nat} {vd : Value}

theorem NI.text (h : NI n0 X rb vt vi S f pb rk F E k vd Z) (hl : ∀ g, Rm rb vt vi g → g < X.heap.size) (x : Int) (hx : S.T[F + k]? = some x) (hb : k + 1 ≤ 1000000000) :
    ∃ a' c' W', (Builtin.append_ #[33, 33] 33 #[vd, .slice (some ⟨Z.heap.size, 0, none⟩) 1 1]).run Try.prog (Z.drew.alloc (.cells #[.int .u8 x] 5)) = .ok (.slice a' (k + 1) c') W' ∧ RW n0 X rb vt vi (rsOf S) f S (F + k) (W'.setCell ⟨pb, 1, none⟩ (.slice a' (k + 1) c')) ∧ Blk (W'.setCell ⟨pb, 1, none⟩ (.slice a' (k + 1) c')) pb (pca4 (F : Int) (.slice a' (k + 1) c') E) 78 ∧ Blk (W'.setCell ⟨pb, 1, none⟩ (.slice a' (k + 1) c')) rk pc0 78 ∧ RowV X.heap.size 5 (W'.setCell ⟨pb, 1, none⟩ (.slice a' (k + 1) c')) (.slice a' (k + 1) c') (uV ((S.T.drop F).take (k + 1))) ∧ W'.frozen? ⟨pb, 1, none⟩ = false ∧ (∃ u, W'.cell? ⟨pb, 1, none⟩ = some u) ∧ RF n0 W' rb vt vi { rsOf S with J := updL f (isL S) (F + k) } := by
  have gA : Z.grownBy (Z.drew.alloc (.cells #[.int .u8 x] 5)) none := grown_trans (grown_drew' (World.grownBy.refl Z none)) (grown_alloc Z.drew _)
  have hkz := h.rw.2.size
  have hlen : ((S.T.drop F).take k).length = k := by
    have := (List.getElem?_eq_some_iff.1 hx).1
    rw [List.length_take, List.length_drop]; omega
  have hrow1 : RowV X.heap.size 5 (Z.drew.alloc (.cells #[.int .u8 x] 5)) vd (uV ((S.T.drop F).take k)) := h.row.kept fun g e => gA.block g (h.row.lt g e).2 (by simp)
  obtain ⟨a', c', W', hr, hrow, hg, ho⟩ := rowV_app X.heap.size (Z.drew.alloc (.cells #[.int .u8 x] 5)) 33 5 (.int .u8 0) 1 vd (uV ((S.T.drop F).take k)) (.int .u8 x) Z.heap.size 1 Try.underlying33 Try.infoB rfl rfl (by decide) hrow1 (Nat.le_trans hkz gA.size) (by simp only [World.cell?]; rw [show (Z.drew.alloc (.cells #[.int .u8 x] 5)).heap[Z.heap.size]? = _ from heap_alloc_new Z.drew _]; rfl) (by rw [List.length_map, hlen]; omega)
  rw [List.length_map, hlen] at hr hrow ho
  have e : uV ((S.T.drop F).take k) ++ [.int .u8 x] = uV ((S.T.drop F).take (k + 1)) := by
    have : (S.T.drop F)[k]? = some x := by rw [List.getElem?_drop]; exact hx
    rw [List.take_add_one, this]
    simp [uV]
  rw [e] at hrow
  have nb : ∀ {g : Nat} {cs : Array Value} {t : TypeId}, Blk Z g cs t → t ≠ 5 → Blk W' g cs t := fun {g cs t} hb ht => by
    have hb2 := hb.grown gA
    exact (hg.block g hb2.lt (fun q => hrow1.ne hb2 ht q.symm)).trans hb2
  have hpb := nb h.bp (by decide)
  have hrr := nb h.rr (by decide)
  have hvd : ∀ g, vd.ownBlock = some g → X.heap.size ≤ g := fun g q => (h.row.lt g q).1
  have hkW : Kp (Rm rb vt vi) X W' := kp_own (h.rw.2.nothing gA) hg (fun g q => .inr (hvd g q))
  have hRF : RF n0 W' rb vt vi { rsOf S with J := updL f (isL S) (F + k) } := by
    have h1 := h.rw.1.grown gA
    exact h1.kept fun g q => hg.block g (h1.lt g q).2 (fun z => by have := hl g q; have := hvd g z.symm; omega)
  have hRF2 : RF n0 (W'.setCell ⟨pb, 1, none⟩ (.slice a' (k + 1) c')) rb vt vi { rsOf S with J := updL f (isL S) (F + k) } := hRF.kept fun g q => set_heap _ _ _ _ _ (fun z => by have := hl g q; have := h.np; omega)
  refine ⟨a', c', W', hr, ⟨hRF2, hkW.set pb 1 _ (fun q => by have := h.np; omega)⟩, ?_, hrr.setO pb 1 _ h.ne, hrow.kept fun g eg => set_heap _ _ _ _ _ (fun q => hrow.ne hpb (by decide) (q ▸ eg)), hpb.thaw 1, ⟨_, hpb.cell 1 _ rfl⟩, hRF⟩
  have := hpb.setC 1 (.slice a' (k + 1) c')
  exact this
end

section
variable {n0 : Nat} {X Y : World} {rb : Nat} {vt vi : Value} {S : Sd}

theorem nextR_yes (h : RS n0 X rb vt vi S) (hok : SdOk S) (hn0 : n0 ≤ X.heap.size) (hbig : wr S ≤ 1000000000) (htb : ∀ x ∈ S.T, IsB x) (most limit : Int) (hm : -9223372036854775808 ≤ most ∧ most ≤ 9223372036854775807) (f t : Int) (hd : dueS S most limit = (f, t, true)) :
    Calls Try.prog 32 #[ptr rb, .int .i64 most, .int .i64 limit] X (NextR n0 X rb vt vi S most limit) := by
  have g1 : X.grownBy (X.alloc (.cells pc0 78)) none := grown_alloc _ _
  have h1 := h.grown g1
  have br : Blk (X.alloc (.cells pc0 78)) X.heap.size pc0 78 := Blk.new _ _ _
  have hsz : (X.alloc (.cells pc0 78)).heap.size = X.heap.size + 1 := alloc_size _ _
  obtain ⟨W1, hW1⟩ : ∃ W1, W1 = X.alloc (.cells pc0 78) := ⟨_, rfl⟩
  rw [← hW1] at h1 br g1 hsz
  have hsp := spanR h1 hok hbig most limit hm
  unfold SpanP at hsp
  have hdo := due_ok hok hd
  have hfs := due_from hok hd
  have q1 := hdo.lo; have q2 := hdo.le; have q3 := hdo.hi; have hb0 := hok.b0; have hsw := hok.sw; have hbs := hok.bs
  have hwr : wr S = (S.T.length : Int) := rfl
  obtain ⟨F, hF⟩ : ∃ F : Nat, f = (F : Int) := ⟨f.toNat, by omega⟩
  obtain ⟨m, hm'⟩ : ∃ m : Nat, t - f = (m : Int) := ⟨(t - f).toNat, by omega⟩
  have ht : t = ((F + m : Nat) : Int) := by omega
  have htN : F + m ≤ S.T.length := by omega
  unfold NextR nextS
  rw [hd] at hsp ⊢
  simp only [if_true, Bool.true_and] at hsp ⊢
  rw [show pieceT S.T f t = (S.T.drop F).take m by unfold pieceT; rw [show f.toNat = F by omega, show (t - f).toNat = m by omega]]
  have hE : endB S t = (S.ended && (((F + m : Nat) : Int) == (S.T.length : Int))) := by unfold endB; rw [ht]; rfl
  obtain ⟨fu, hfu⟩ : ∃ fu : Nat → Int → Int, fu = fun x v => if F ≤ x then 1 else v := ⟨_, rfl⟩
  have HFU := hide hfu
  have LT : Hid (∀ g, Rm rb vt vi g → g < X.heap.size) := fun g q => (h.lt g q).2
  have UP0 : updL fu (isL S) F = isL S := by
    refine updL_is (S := S) (S' := S) F rfl fun x hx => ?_
    rw [hfu]
    show _ = if x < F then (if F ≤ x then 1 else isAt S (x : Int)) else isAt S (x : Int)
    split
    · rw [if_neg (by omega)]
    · rfl
  have UP1 : Hid (updL fu (isL S) (F + m) = isL (nextG S f t)) := updL_is (S := S) (S' := nextG S f t) (F + m) rfl fun x hx => by
    rw [isAt_next hok hbig hd hfs (x : Int) (by omega), hfu]
    show _ = if x < F + m then (if F ≤ x then 1 else isAt S (x : Int)) else isAt S (x : Int)
    by_cases c : x < F + m
    · rw [if_pos (by omega), if_pos c]
      by_cases d : F ≤ x
      · rw [if_pos (by omega), if_pos d]
      · rw [if_neg (by omega), if_neg d]
    · rw [if_neg (by omega), if_neg c]
  have I0 : Hid (∀ Y, W1.grownBy Y none → NI n0 X rb vt vi S fu Y.heap.size X.heap.size F (endB S t) 0 nilS (Y.alloc (.cells (pca4 (F : Int) nilS (endB S t)) 78))) := fun Y g => by
    have gX := grown_trans g1 (grown_trans g (grown_alloc Y (.cells (pca4 (F : Int) nilS (endB S t)) 78)))
    have s1 := g.size
    refine ⟨⟨?_, Kp.grown gX _⟩, Blk.new _ _ _, (br.grown g).grown (grown_alloc _ _), rowV_nil _ _ _, by omega, Nat.le_refl _, by omega⟩
    have := h.grown gX
    rw [Nat.add_zero, UP0]
    exact this
  obtain ⟨ta, tc, rfl, ht1, ht2, htr⟩ := h.textRow
  have CL : Hid (∀ Y, W1.grownBy Y none → Y.cell? ⟨rb, 3, none⟩ = some (.bool S.ended) ∧ Y.cell? ⟨rb, 1, none⟩ = some (.slice ta S.T.length tc)) := fun Y g => ⟨(h1.grown g).cells.2.2.2.1, (h1.grown g).cells.2.1⟩
  have hN9 : S.T.length ≤ 1000000000 := by omega
  have TB : Hid (∀ x ∈ (S.T.drop F).take m, IsB x) := fun x hx => htb x (List.mem_of_mem_drop (List.mem_of_mem_take hx))
  have FINN : Hid (nextG S f t = { S with L := cutS 0 f (t - 1) S.L, sent := max S.sent t, fin := if endB S t = true ∧ S.fin ≠ 3 then 1 else S.fin }) := rfl
  have HNN : Hid (0 < S.T.length → S.T ≠ []) := fun hp e => by rw [e] at hp; simp at hp
  have HE := hide hE
  have HS : Hid (0 ≤ S.sent ∧ S.sent ≤ (S.T.length : Int)) := by unfold Hid; omega
  have HD := hide hd
  clear h hok h1 br g1 hdo q1 q2 q3 hb0 hsw hbs hwr hbig hfs htb hE hd UP0 hfu hm' htr
  obtain ⟨tN, htN2⟩ : ∃ tN : Nat, tN = F + m := ⟨_, rfl⟩
  rw [← htN2] at ht htN UP1 HE
  have HTN := hide htN2
  subst hF
  subst ht
  clear htN2
  go_enter Try.func32, Try.ntmps32
  go_wp2_with fail
  rw [show (X.alloc (.cells #[.int .i64 0, .slice none 0 0, .bool false, .bool false] 78)) = W1 from hW1.symm]
  clear hW1
  refine hsp.mono ?_
  rintro e Y ⟨f', t', rfl, hft, gY⟩
  have e2 := (Prod.mk.inj (hft trivial))
  have e3 := (Prod.mk.inj e2.2).1
  obtain ⟨e4, -⟩ := e2
  subst e4
  subst e3
  obtain ⟨c3, c1⟩ := unhide CL Y gY
  have I1 := hide (unhide I0 Y gY)
  have sY := gY.size
  clear hsp I0 gY hft CL
  generalize hNN : S.T.length = N at *
  have HNL := hide hNN
  clear hNN
  have hpbr : X.heap.size < Y.heap.size := by omega
  obtain ⟨pb, hpb⟩ : ∃ pb, pb = Y.heap.size := ⟨_, rfl⟩
  obtain ⟨Z0, hZ0⟩ : ∃ Z0, Z0 = Y.alloc (.cells (pca4 (F : Int) nilS (endB S (tN : Int))) 78) := ⟨_, rfl⟩
  rw [← hZ0, ← hpb] at I1
  have HZ0 := hide hZ0
  have HPB := hide hpb
  clear hZ0 hpb
  generalize hr : X.heap.size = rk at *
  have HR := hide hr
  clear hr
  obtain ⟨E, hE⟩ : ∃ E, E = endB S (tN : Int) := ⟨_, rfl⟩
  rw [← hE] at I1 HZ0 HE FINN
  have HEE := hide hE
  clear hE
  go_upto_region 4 with fail
  go_cut [10] from 12 to 37 (fun v wc => v = .pointer (some ⟨pb, 0, none⟩) ∧ wc = Z0)
  case first =>
    cases hen : S.ended with
    | false =>
      rw [hen] at c3
      have eE : E = false := by rw [unhide HE, hen]; rfl
      subst eE
      unfold pca4 at HZ0
      go_wp2_with fail
      go_meet
      case rel => exact ⟨by rw [unhide HPB], (unhide HZ0).symm⟩
    | true =>
      rw [hen] at c3
      cases hb : ((tN : Int) == (N : Int)) with
      | false =>
        have eE : E = false := by rw [unhide HE, hen, hb]; rfl
        subst eE
        unfold pca4 at HZ0
        go_wp2_with fail
        go_meet
        case rel => exact ⟨by rw [unhide HPB], (unhide HZ0).symm⟩
      | true =>
        have eE : E = true := by rw [unhide HE, hen, hb]; rfl
        subst eE
        unfold pca4 at HZ0
        go_wp2_with fail
        go_meet
        case rel => exact ⟨by rw [unhide HPB], (unhide HZ0).symm⟩
  case rest =>
    obtain ⟨rfl, hwc⟩ := hcut
    subst hwc
    clear c3 c1 HZ0 HPB
    go_wp2
    go_loopw [11] (fun i Z => ∃ (k : Nat) (vd : Value), k ≤ m ∧ i = .int .i64 ((F + k : Nat) : Int) ∧ Hid (NI n0 X rb (.slice ta (rsOf S).T.length tc) vi S fu pb rk F E k vd Z)) (fun i _ => F + m + 1 - (intOf i).toNat)
    case atStart => exact ⟨0, nilS, Nat.zero_le _, rfl, I1⟩
    case round =>
      clear I1
      obtain ⟨k, vd, hk, rfl, I⟩ := hrel
      obtain ⟨Z, hZ⟩ : ∃ Z, Z = wr := ⟨_, rfl⟩
      subst hZ
      have hI := unhide I
      obtain ⟨j, hj⟩ : ∃ j, j = F + k := ⟨_, rfl⟩
      by_cases hlt : k < m
      · have hjN : j < S.T.length := by rw [unhide HNL]; have := unhide HTN; omega
        obtain ⟨x, hx⟩ : ∃ x, S.T[j]? = some x := ⟨_, List.getElem?_eq_getElem hjN⟩
        obtain ⟨a1, k1, W1', hap, t1, t2, t3, t4, fz, ⟨u1, hu1⟩, t5⟩ := hI.text (by rw [unhide HR]; exact unhide LT) x (by rw [← hj]; exact hx) (by have := unhide HTN; omega)
        obtain ⟨da, dc, rfl, -, hdc, -⟩ := hI.row.at
        have el : ((S.T.drop F).take k).length = k := by rw [List.length_take, List.length_drop]; omega
        rw [List.length_map, el] at hap I hI
        have TXT : Hid (∀ W, RF n0 W rb (.slice ta (rsOf S).T.length tc) vi { rsOf S with J := updL fu (isL S) (F + k) } → ∃ tg, ta = some ⟨tg, 0, none⟩ ∧ W.cell? ⟨rb, 1, none⟩ = some (.slice (some ⟨tg, 0, none⟩) N tc) ∧ W.cell? ⟨tg, j, none⟩ = some (.int .u8 x)) := fun W hW => by
          obtain ⟨a0, c0, e0, -, -, h0⟩ := hW.textRow
          obtain ⟨tg, rfl, hc⟩ := h0.resolve_left (unhide HNN (by rw [← unhide HNL]; omega))
          injection e0 with e1 e2 e3
          have := hW.cells.2.1
          rw [show (rsOf S).T.length = N from unhide HNL, e1] at this
          exact ⟨tg, e1, this, hc j x hx⟩
        have ZA : Z.grownBy (Z.drew.alloc (.cells #[.int .u8 x] 5)) none := grown_trans (grown_drew' (World.grownBy.refl Z none)) (grown_alloc Z.drew _)
        obtain ⟨tg, rfl, q0, q0'⟩ := unhide TXT Z hI.rw.1
        obtain ⟨tg2, e2, qA, qA'⟩ := unhide TXT _ (hI.rw.1.grown ZA)
        cases e2
        obtain ⟨tg3, e3, qW, qW'⟩ := unhide TXT _ t5
        cases e3
        obtain ⟨tg4, e4, qF, qF'⟩ := unhide TXT _ t1.1
        cases e4
        have z1 : Z.cell? ⟨pb, 1, none⟩ = some (.slice da k dc) := hI.bp.cell 1 _ rfl
        have z1A : (Z.drew.alloc (.cells #[.int .u8 x] 5)).cell? ⟨pb, 1, none⟩ = some (.slice da k dc) := (hI.bp.grown ZA).cell 1 _ rfl
        have z1B : (Z.alloc (.cells #[.int .u8 x] 5)).cell? ⟨pb, 1, none⟩ = some (.slice da k dc) := z1A
        obtain ⟨Z1, hZ1⟩ : ∃ Z1, Z1 = W1'.setCell ⟨pb, 1, none⟩ (.slice a1 (k + 1) k1) := ⟨_, rfl⟩
        have HZ1 := hide hZ1
        rw [← hZ1] at t1 t2 t3 t4
        obtain ⟨ig, ic, rfl, hic, fi, ci⟩ := t1.row (k := F + k) (by rw [← hj]; exact hjN)
        have ci2 : Z1.cell? ⟨rb, 2, none⟩ = some (.slice (some ⟨ig, 0, none⟩) N ic) := by have := t1.1.cells.2.2.1; rw [unhide HNL] at this; exact this
        rw [← hj] at fi ci
        have hgI : ig ≠ pb := fun e => t1.1.ir.ne t2 (by decide) (by rw [← e]; rfl)
        have hgR : ig ≠ rk := fun e => t1.1.ir.ne t3 (by decide) (by rw [← e]; rfl)
        have NX : Hid (NI n0 X rb (.slice (some ⟨tg, 0, none⟩) (rsOf S).T.length tc) (.slice (some ⟨ig, 0, none⟩) S.T.length ic) S fu pb rk F E (k + 1) (.slice a1 (k + 1) k1) (Z1.setCell ⟨ig, j, none⟩ (.int .i64 1))) := by
          refine ⟨?_, t2.setO ig j _ hgI, t3.setO ig j _ hgR, t4.kept fun g eg => set_heap _ _ _ _ _ (fun q => ?_), hI.np, hI.nr, hI.ne⟩
          · have := t1.step (isAt S ((F + k : Nat) : Int)) 1 (isL_get S (F + k) (by rw [← hj]; exact hjN)) (by rw [unhide HFU]; show (if F ≤ F + k then 1 else _) = 1; rw [if_pos (by omega)])
            rw [← Nat.add_assoc, hj]
            exact this
          · subst q
            exact rowV_ne2 t4 t1.1.ir (by decide) (g := g) rfl eg
        have hjm : (j : Int) < (tN : Int) := by have := unhide HTN; omega
        have hj0 : (0 : Int) ≤ (j : Int) := by omega
        have hjN1 : (j : Int) < (N : Int) := by rw [unhide HNL] at hjN; omega
        have HLT := hide hlt
        have HJ := hide hj
        rw [← hj]
        generalize isAt S ((F + k : Nat) : Int) = vv at *
        clear hI I t1 t2 t3 t4 t5 TXT ZA hx hjN hlt hk hj el hZ1 hgI hgR
        go_upto_region 8 with fail
        refine wp_region_held_drew (S := fun W => W.cell? ⟨rb, 1, none⟩ = some (.slice (some ⟨tg, 0, none⟩) N tc) ∧ W.cell? ⟨tg, j, none⟩ = some (.int .u8 x)) (by kernel_rfl) ⟨q0, q0'⟩ (fun hHeld => ?_)
        refine wpAnyH_take (i := 0) (v := ?_) rfl (by as_aux_lemma => kernel_rfl) (by as_aux_lemma => kernel_rfl) (by as_aux_lemma => kernel_rfl) (fun _ _ _ h => h) (Or.inl ⟨by rfl, ?_⟩) (by assumption) ?_
        rotate_left
        · intro wH hSw
          try dsimp only at hSw
          obtain ⟨s0q, s1q⟩ := hSw
          go_simp
          try with_reducible rfl
        try simp only [Act.put, List.setIfInBounds_toArray, List.set_cons_zero, List.set_cons_succ]
        refine wpAnyH_take (i := 2) (v := ?_) rfl (by as_aux_lemma => kernel_rfl) (by as_aux_lemma => kernel_rfl) (by as_aux_lemma => kernel_rfl) (fun _ _ _ h => h) (Or.inl ⟨by rfl, ?_⟩) (by assumption) ?_
        rotate_left
        · intro wH hSw
          try dsimp only at hSw
          obtain ⟨s0q, s1q⟩ := hSw
          go_simp
          try with_reducible rfl
        try simp only [Act.put, List.setIfInBounds_toArray, List.set_cons_zero, List.set_cons_succ]
        refine wpAnyH_take (i := 3) (v := ?_) rfl (by as_aux_lemma => kernel_rfl) (by as_aux_lemma => kernel_rfl) (by as_aux_lemma => kernel_rfl) (fun _ _ _ h => h) (Or.inl ⟨by rfl, ?_⟩) (by assumption) ?_
        rotate_left
        · intro wH hSw
          try dsimp only at hSw
          obtain ⟨s0q, s1q⟩ := hSw
          go_simp
          try with_reducible rfl
        try simp only [Act.put, List.setIfInBounds_toArray, List.set_cons_zero, List.set_cons_succ]
        refine wpAnyH_take (i := 4) (v := ?_) rfl (by as_aux_lemma => kernel_rfl) (by as_aux_lemma => kernel_rfl) (by as_aux_lemma => kernel_rfl) (fun _ _ _ h => h) (Or.inl ⟨by rfl, ?_⟩) (by assumption) ?_
        rotate_left
        · intro wH hSw
          try dsimp only at hSw
          obtain ⟨s0q, s1q⟩ := hSw
          go_simp
          try with_reducible rfl
        try simp only [Act.put, List.setIfInBounds_toArray, List.set_cons_zero, List.set_cons_succ]
        refine wpAnyH_take (i := 5) (v := ?_) rfl (by as_aux_lemma => kernel_rfl) (by as_aux_lemma => kernel_rfl) (by as_aux_lemma => kernel_rfl) (fun _ _ _ h => h) (Or.inl ⟨by rfl, ?_⟩) (by assumption) ?_
        rotate_left
        · intro wH hSw
          try dsimp only at hSw
          obtain ⟨s0q, s1q⟩ := hSw
          go_simp
          try with_reducible rfl
        try simp only [Act.put, List.setIfInBounds_toArray, List.set_cons_zero, List.set_cons_succ]
        refine wpAnyH_take (i := 6) (v := ?_) rfl (by as_aux_lemma => kernel_rfl) (by as_aux_lemma => kernel_rfl) (by as_aux_lemma => kernel_rfl) (fun _ _ _ h => h) (Or.inl ⟨by rfl, ?_⟩) (by assumption) ?_
        rotate_left
        · intro wH hSw
          try dsimp only at hSw
          obtain ⟨s0q, s1q⟩ := hSw
          go_simp
          try with_reducible rfl
        try simp only [Act.put, List.setIfInBounds_toArray, List.set_cons_zero, List.set_cons_succ]
        refine wpAnyH_take (i := 7) (v := ?_) rfl (by as_aux_lemma => kernel_rfl) (by as_aux_lemma => kernel_rfl) (by as_aux_lemma => kernel_rfl) (fun _ _ _ h => h) (Or.inl ⟨by rfl, ?_⟩) (by assumption) ?_
        rotate_left
        · intro wH hSw
          try dsimp only at hSw
          obtain ⟨s0q, s1q⟩ := hSw
          go_simp
          try with_reducible rfl
        try simp only [Act.put, List.setIfInBounds_toArray, List.set_cons_zero, List.set_cons_succ]
        refine wpAnyH_take (i := 8) (v := ?_) rfl (by as_aux_lemma => kernel_rfl) (by as_aux_lemma => kernel_rfl) (by as_aux_lemma => kernel_rfl) (fun _ _ _ h => h) (Or.inl ⟨by rfl, ?_⟩) (by assumption) ?_
        rotate_left
        · intro wH hSw
          try dsimp only at hSw
          obtain ⟨s0q, s1q⟩ := hSw
          go_simp
          try with_reducible rfl
        try simp only [Act.put, List.setIfInBounds_toArray, List.set_cons_zero, List.set_cons_succ]
        refine wpAnyH_ready (rs := [1, 9]) (by as_aux_lemma => kernel_rfl) (by simp) ?_
        refine AllReadyH.cons rfl (fun KH hKH => ?_) (AllReadyH.cons rfl (fun KH hKH => ?_) AllReadyH.nil)
        · go_simp
          refine hKH.out _ _ ⟨q0, q0'⟩ (fun hHeld1 => ?_)
          clear hKH KH
          try simp only [Act.put, List.setIfInBounds_toArray, List.set_cons_zero, List.set_cons_succ]
          refine wpAnyH_ready (rs := [9]) (by as_aux_lemma => kernel_rfl) (by simp) ?_
          refine AllReadyH.cons rfl (fun KH hKH => ?_) AllReadyH.nil
          go_simp
          refine hKH.out _ _ ⟨qA, qA'⟩ (fun hHeld9 => ?_)
          clear hKH KH
          try simp only [Act.put, List.setIfInBounds_toArray, List.set_cons_zero, List.set_cons_succ]
          refine wpAnyH_ready (rs := [10]) (by as_aux_lemma => kernel_rfl) (by simp) ?_
          refine AllReadyH.cons rfl (fun KH hKH => ?_) AllReadyH.nil
          refine step_append_run rfl (Operand.tmp 45) (Operand.tmp 53) 33 33 rfl (.slice da k dc) (.slice (some ⟨Z.heap.size, 0, none⟩) 1 1) rfl rfl hap ?_
          refine hKH.out _ _ ⟨qW, qW'⟩ (fun hHeld10 => ?_)
          clear hKH KH
          try simp only [Act.put, List.setIfInBounds_toArray, List.set_cons_zero, List.set_cons_succ]
          refine wpAnyH_ready (rs := [11]) (by as_aux_lemma => kernel_rfl) (by simp) ?_
          refine AllReadyH.cons rfl (fun KH hKH => ?_) AllReadyH.nil
          go_simp
          refine hKH.out _ _ ⟨qW, qW'⟩ (fun hHeld11 => ?_)
          clear hKH KH
          try simp only [Act.put, List.setIfInBounds_toArray, List.set_cons_zero, List.set_cons_succ]
          refine wpAnyH_ready (rs := [12]) (by as_aux_lemma => kernel_rfl) (by simp) ?_
          refine AllReadyH.cons rfl (fun KH hKH => ?_) AllReadyH.nil
          go_simp
          refine hKH.out _ _ ⟨qF, qF'⟩ (fun hHeld12 => ?_)
          clear hKH KH
          try simp only [Act.put, List.setIfInBounds_toArray, List.set_cons_zero, List.set_cons_succ]
          refine wpAnyH_done (by as_aux_lemma => kernel_rfl) ?_ _
          clear qF qW qA q0 qF' qW' qA' q0' z1 z1A z1B hap fz hu1
          go_upto_region 9 with fail
          rw [← unhide HZ1]
          go_wp2
          exact ⟨⟨k + 1, _, unhide HLT, by rw [← Nat.add_assoc, ← unhide HJ]; go_num, NX⟩, by simp [intOf]; have := unhide HLT; have := unhide HJ; omega⟩
        · go_simp
          refine hKH.out _ _ ⟨qA, qA'⟩ (fun hHeld9 => ?_)
          clear hKH KH
          try simp only [Act.put, List.setIfInBounds_toArray, List.set_cons_zero, List.set_cons_succ]
          refine wpAnyH_ready (rs := [1]) (by as_aux_lemma => kernel_rfl) (by simp) ?_
          refine AllReadyH.cons rfl (fun KH hKH => ?_) AllReadyH.nil
          go_simp
          refine hKH.out _ _ ⟨qA, qA'⟩ (fun hHeld1 => ?_)
          clear hKH KH
          try simp only [Act.put, List.setIfInBounds_toArray, List.set_cons_zero, List.set_cons_succ]
          refine wpAnyH_ready (rs := [10]) (by as_aux_lemma => kernel_rfl) (by simp) ?_
          refine AllReadyH.cons rfl (fun KH hKH => ?_) AllReadyH.nil
          refine step_append_run rfl (Operand.tmp 45) (Operand.tmp 53) 33 33 rfl (.slice da k dc) (.slice (some ⟨Z.heap.size, 0, none⟩) 1 1) rfl rfl hap ?_
          refine hKH.out _ _ ⟨qW, qW'⟩ (fun hHeld10 => ?_)
          clear hKH KH
          try simp only [Act.put, List.setIfInBounds_toArray, List.set_cons_zero, List.set_cons_succ]
          refine wpAnyH_ready (rs := [11]) (by as_aux_lemma => kernel_rfl) (by simp) ?_
          refine AllReadyH.cons rfl (fun KH hKH => ?_) AllReadyH.nil
          go_simp
          refine hKH.out _ _ ⟨qW, qW'⟩ (fun hHeld11 => ?_)
          clear hKH KH
          try simp only [Act.put, List.setIfInBounds_toArray, List.set_cons_zero, List.set_cons_succ]
          refine wpAnyH_ready (rs := [12]) (by as_aux_lemma => kernel_rfl) (by simp) ?_
          refine AllReadyH.cons rfl (fun KH hKH => ?_) AllReadyH.nil
          go_simp
          refine hKH.out _ _ ⟨qF, qF'⟩ (fun hHeld12 => ?_)
          clear hKH KH
          try simp only [Act.put, List.setIfInBounds_toArray, List.set_cons_zero, List.set_cons_succ]
          refine wpAnyH_done (by as_aux_lemma => kernel_rfl) ?_ _
          clear qF qW qA q0 qF' qW' qA' q0' z1 z1A z1B hap fz hu1
          go_upto_region 9 with fail
          rw [← unhide HZ1]
          go_wp2
          exact ⟨⟨k + 1, _, unhide HLT, by rw [← Nat.add_assoc, ← unhide HJ]; go_num, NX⟩, by simp [intOf]; have := unhide HLT; have := unhide HJ; omega⟩
      · obtain rfl : k = m := by omega
        obtain rfl : j = tN := by rw [unhide HTN]; exact hj
        rw [← hj]
        have hno : ¬ (j : Int) < (j : Int) := by omega
        have hrw : RF n0 Z rb (.slice ta (rsOf S).T.length tc) vi { rsOf S with J := isL (nextG S (F : Int) (j : Int)) } := by
          have := hI.rw.1
          rw [← hj, unhide UP1] at this
          exact this
        have hkp := hI.rw.2
        obtain ⟨da, dc, rfl, -, hdc, -⟩ := hI.row.at
        have el : ((S.T.drop F).take k).length = k := by rw [List.length_take, List.length_drop, unhide HNL]; omega
        rw [List.length_map, el] at hI
        have hrp : rb ≠ pb := fun e => by have := unhide LT rb (.inl rfl); have := hI.np; rw [unhide HR] at this; omega
        have hrk : rb ≠ rk := fun e => by have := unhide LT rb (.inl rfl); omega
        have hpr := hrp.symm
        have hkr := hrk.symm
        have hpk := hI.ne
        have hkpb := hpk.symm
        have hrb : ∀ g, (Value.slice da k dc).ownBlock = some g → g ≠ rb := fun g e q => by have := (hI.row.lt g e).1; rw [unhide HR] at this; have := unhide LT rb (.inl rfl); omega
        have FINAL : Hid (∀ Z', RS n0 Z' rb (.slice ta (rsOf S).T.length tc) vi (nextG S (F : Int) (j : Int)) → Kp (Rm rb (.slice ta (rsOf S).T.length tc) vi) X Z' → Blk Z' pb (pca4 (F : Int) (.slice da k dc) E) 78 → Blk Z' rk pc0 78 → RowV X.heap.size 5 Z' (.slice da k dc) (uV ((S.T.drop F).take k)) → Blk ((((Z'.setCell ⟨rk, 0, none⟩ (.int .i64 (F : Int))).setCell ⟨rk, 1, none⟩ (.slice da k dc)).setCell ⟨rk, 2, none⟩ (.bool E)).setCell ⟨rk, 3, none⟩ (.bool true)) rk #[.int .i64 (F : Int), .slice da k dc, .bool E, .bool true] 78 ∧ RS n0 ((((Z'.setCell ⟨rk, 0, none⟩ (.int .i64 (F : Int))).setCell ⟨rk, 1, none⟩ (.slice da k dc)).setCell ⟨rk, 2, none⟩ (.bool E)).setCell ⟨rk, 3, none⟩ (.bool true)) rb (.slice ta (rsOf S).T.length tc) vi (nextG S (F : Int) (j : Int)) ∧ Kp (Rm rb (.slice ta (rsOf S).T.length tc) vi) X ((((Z'.setCell ⟨rk, 0, none⟩ (.int .i64 (F : Int))).setCell ⟨rk, 1, none⟩ (.slice da k dc)).setCell ⟨rk, 2, none⟩ (.bool E)).setCell ⟨rk, 3, none⟩ (.bool true)) ∧ RowV X.heap.size 5 ((((Z'.setCell ⟨rk, 0, none⟩ (.int .i64 (F : Int))).setCell ⟨rk, 1, none⟩ (.slice da k dc)).setCell ⟨rk, 2, none⟩ (.bool E)).setCell ⟨rk, 3, none⟩ (.bool true)) (.slice da k dc) (uV ((S.T.drop F).take k)) ∧ ∀ x ∈ (S.T.drop F).take k, IsB x) := fun Z' a1 a2 a3 a4 a5 => by
          have far : ∀ g, Rm rb (.slice ta (rsOf S).T.length tc) vi g → g ≠ rk := fun g q => by have := unhide LT g q; omega
          have hXk : X.heap.size < rk → False := fun z => by rw [unhide HR] at z; omega
          have nk : rk < X.heap.size → Rm rb (.slice ta (rsOf S).T.length tc) vi rk := fun z => by rw [unhide HR] at z; omega
          have b0 : Blk (Z'.setCell ⟨rk, 0, none⟩ (.int .i64 (F : Int))) rk #[.int .i64 (F : Int), nilS, .bool false, .bool false] 78 := a4.setC 0 _
          have b1 : Blk _ rk #[.int .i64 (F : Int), .slice da k dc, .bool false, .bool false] 78 := b0.setC 1 (.slice da k dc)
          have b2 : Blk _ rk #[.int .i64 (F : Int), .slice da k dc, .bool E, .bool false] 78 := b1.setC 2 (.bool E)
          have b3 : Blk _ rk #[.int .i64 (F : Int), .slice da k dc, .bool E, .bool true] 78 := b2.setC 3 (.bool true)
          have hne : ∀ g, (Value.slice da k dc).ownBlock = some g → g ≠ rk := fun g e q => a5.ne a4 (by decide) (q ▸ e)
          refine ⟨b3, a1.kept fun g q => ?_, (((a2.set rk 0 _ nk).set rk 1 _ nk).set rk 2 _ nk).set rk 3 _ nk, a5.kept fun g e => ?_, unhide TB⟩
          · rw [set_heap _ _ _ _ _ (far g q), set_heap _ _ _ _ _ (far g q), set_heap _ _ _ _ _ (far g q), set_heap _ _ _ _ _ (far g q)]
          · rw [set_heap _ _ _ _ _ (hne g e), set_heap _ _ _ _ _ (hne g e), set_heap _ _ _ _ _ (hne g e), set_heap _ _ _ _ _ (hne g e)]
        have c7 : Z.cell? ⟨rb, 7, none⟩ = some (.int .i64 S.sent) := hrw.cells.2.2.2.2.2.2.2
        have c6 : Z.cell? ⟨rb, 6, none⟩ = some (.int .i64 S.fin) := hrw.cells.2.2.2.2.2.2.1
        have c4 : Z.cell? ⟨rb, 4, none⟩ = some (.bool (decide (S.fin ≠ 0))) := hrw.cells.2.2.2.2.1
        have ft := hrw.blk.thaws
        have fk := hI.rr.thaws
        have p0 : Z.cell? ⟨pb, 0, none⟩ = some (.int .i64 (F : Int)) := hI.bp.cell 0 _ rfl
        have p1 : Z.cell? ⟨pb, 1, none⟩ = some (.slice da k dc) := hI.bp.cell 1 _ rfl
        have p2 : Z.cell? ⟨pb, 2, none⟩ = some (.bool E) := hI.bp.cell 2 _ rfl
        have p3 : Z.cell? ⟨pb, 3, none⟩ = some (.bool true) := hI.bp.cell 3 _ rfl
        have k0 : Z.cell? ⟨rk, 0, none⟩ = some (.int .i64 0) := hI.rr.cell 0 _ rfl
        have k1 : Z.cell? ⟨rk, 1, none⟩ = some (.slice none 0 0) := hI.rr.cell 1 _ rfl
        have k2 : Z.cell? ⟨rk, 2, none⟩ = some (.bool false) := hI.rr.cell 2 _ rfl
        have k3 : Z.cell? ⟨rk, 3, none⟩ = some (.bool false) := hI.rr.cell 3 _ rfl
        have hs0 := unhide HS
        by_cases hgt : S.sent < (j : Int)
        · have hgd : decide (S.sent < (j : Int)) = true := decide_eq_true hgt
          cases hE1 : E with
          | false =>
            subst hE1
            have r1 : RF n0 (Z.setCell ⟨rb, 7, none⟩ (.int .i64 (j : Int))) rb (.slice ta (rsOf S).T.length tc) vi { rsOf S with J := isL (nextG S (F : Int) (j : Int)), sent := (j : Int) } := hrw.put 7 _ rfl rfl rfl
            have eR : rsOf (nextG S (F : Int) (j : Int)) = { rsOf S with J := isL (nextG S (F : Int) (j : Int)), sent := (j : Int) } := by
              have e1 : (nextG S (F : Int) (j : Int)).fin = S.fin := by rw [nextG_fin15, ← unhide HEE]; simp
              have e2 : (nextG S (F : Int) (j : Int)).sent = (j : Int) := by show max S.sent (j : Int) = _; omega
              unfold rsOf
              rw [e1, e2]
              simp [nextG]
            have rS : RS n0 (Z.setCell ⟨rb, 7, none⟩ (.int .i64 (j : Int))) rb (.slice ta (rsOf S).T.length tc) vi (nextG S (F : Int) (j : Int)) := by show RF n0 _ rb (.slice ta (rsOf S).T.length tc) vi (rsOf _); rw [eR]; exact r1
            have HRS := hide rS
            have KPF : Hid (Kp (Rm rb (.slice ta (rsOf S).T.length tc) vi) X (Z.setCell ⟨rb, 7, none⟩ (.int .i64 (j : Int))) ∧ Blk (Z.setCell ⟨rb, 7, none⟩ (.int .i64 (j : Int))) pb (pca4 (F : Int) (.slice da k dc) false) 78 ∧ Blk (Z.setCell ⟨rb, 7, none⟩ (.int .i64 (j : Int))) rk pc0 78 ∧ RowV X.heap.size 5 (Z.setCell ⟨rb, 7, none⟩ (.int .i64 (j : Int))) (.slice da k dc) (uV ((S.T.drop F).take k))) := by
              exact ⟨(hkp.set rb 7 (.int .i64 (j : Int)) (fun _ => .inl rfl)), (hI.bp.setO rb 7 (.int .i64 (j : Int)) hrp), (hI.rr.setO rb 7 (.int .i64 (j : Int)) hrk), (rowKeep hI.row hrb 7 (.int .i64 (j : Int)))⟩
            obtain ⟨P1, P2, P3, P4, P5⟩ := unhide FINAL _ (unhide HRS) (unhide KPF).1 (unhide KPF).2.1 (unhide KPF).2.2.1 (unhide KPF).2.2.2
            have P1 := hide P1; have P2 := hide P2; have P3 := hide P3; have P4 := hide P4; have P5 := hide P5
            clear hj el hI I hrw hkp eR rS HRS KPF FINAL r1
            go_wp2
            refine bodyPost_ret (results_cell_row rfl _ _ rk 78 _ (0, 0) _ rfl (unhide P1) Try.underlying78 rfl Try.sizeP15) rfl ?_
            exact ⟨_, by rw [← unhide HEE], unhide P2, unhide P3, unhide P4, unhide P5⟩
          | true =>
            subst hE1
            by_cases hf3 : S.fin = 3
            · have hfb : (S.fin != 3) = false := by simp [hf3]
              have r1 : RF n0 (Z.setCell ⟨rb, 7, none⟩ (.int .i64 (j : Int))) rb (.slice ta (rsOf S).T.length tc) vi { rsOf S with J := isL (nextG S (F : Int) (j : Int)), sent := (j : Int) } := hrw.put 7 _ rfl rfl rfl
              have r2 : RF n0 ((Z.setCell ⟨rb, 7, none⟩ (.int .i64 (j : Int))).setCell ⟨rb, 4, none⟩ (.bool true)) rb (.slice ta (rsOf S).T.length tc) vi { rsOf S with J := isL (nextG S (F : Int) (j : Int)), sent := (j : Int), ever := true } := r1.put 4 _ rfl rfl rfl
              have eR : rsOf (nextG S (F : Int) (j : Int)) = { rsOf S with J := isL (nextG S (F : Int) (j : Int)), sent := (j : Int), ever := true } := by
                have e1 : (nextG S (F : Int) (j : Int)).fin = S.fin := by rw [nextG_fin15, ← unhide HEE]; simp [hf3]
                have e2 : (nextG S (F : Int) (j : Int)).sent = (j : Int) := by show max S.sent (j : Int) = _; omega
                unfold rsOf
                rw [e1, e2]
                simp [nextG, hf3]
              have rS : RS n0 ((Z.setCell ⟨rb, 7, none⟩ (.int .i64 (j : Int))).setCell ⟨rb, 4, none⟩ (.bool true)) rb (.slice ta (rsOf S).T.length tc) vi (nextG S (F : Int) (j : Int)) := by show RF n0 _ rb (.slice ta (rsOf S).T.length tc) vi (rsOf _); rw [eR]; exact r2
              have HRS := hide rS
              have KPF : Hid (Kp (Rm rb (.slice ta (rsOf S).T.length tc) vi) X ((Z.setCell ⟨rb, 7, none⟩ (.int .i64 (j : Int))).setCell ⟨rb, 4, none⟩ (.bool true)) ∧ Blk ((Z.setCell ⟨rb, 7, none⟩ (.int .i64 (j : Int))).setCell ⟨rb, 4, none⟩ (.bool true)) pb (pca4 (F : Int) (.slice da k dc) true) 78 ∧ Blk ((Z.setCell ⟨rb, 7, none⟩ (.int .i64 (j : Int))).setCell ⟨rb, 4, none⟩ (.bool true)) rk pc0 78 ∧ RowV X.heap.size 5 ((Z.setCell ⟨rb, 7, none⟩ (.int .i64 (j : Int))).setCell ⟨rb, 4, none⟩ (.bool true)) (.slice da k dc) (uV ((S.T.drop F).take k))) := by
                exact ⟨((hkp.set rb 7 (.int .i64 (j : Int)) (fun _ => .inl rfl)).set rb 4 (.bool true) (fun _ => .inl rfl)), ((hI.bp.setO rb 7 (.int .i64 (j : Int)) hrp).setO rb 4 (.bool true) hrp), ((hI.rr.setO rb 7 (.int .i64 (j : Int)) hrk).setO rb 4 (.bool true) hrk), (rowKeep (rowKeep hI.row hrb 7 (.int .i64 (j : Int))) hrb 4 (.bool true))⟩
              obtain ⟨P1, P2, P3, P4, P5⟩ := unhide FINAL _ (unhide HRS) (unhide KPF).1 (unhide KPF).2.1 (unhide KPF).2.2.1 (unhide KPF).2.2.2
              have P1 := hide P1; have P2 := hide P2; have P3 := hide P3; have P4 := hide P4; have P5 := hide P5
              clear hj el hI I hrw hkp eR rS HRS KPF FINAL r1 r2
              go_wp2
              refine bodyPost_ret (results_cell_row rfl _ _ rk 78 _ (0, 0) _ rfl (unhide P1) Try.underlying78 rfl Try.sizeP15) rfl ?_
              exact ⟨_, by rw [← unhide HEE], unhide P2, unhide P3, unhide P4, unhide P5⟩
            · have hfb : (S.fin != 3) = true := by simp [hf3]
              have r1 : RF n0 (Z.setCell ⟨rb, 7, none⟩ (.int .i64 (j : Int))) rb (.slice ta (rsOf S).T.length tc) vi { rsOf S with J := isL (nextG S (F : Int) (j : Int)), sent := (j : Int) } := hrw.put 7 _ rfl rfl rfl
              have r2 : RF n0 ((Z.setCell ⟨rb, 7, none⟩ (.int .i64 (j : Int))).setCell ⟨rb, 4, none⟩ (.bool true)) rb (.slice ta (rsOf S).T.length tc) vi { rsOf S with J := isL (nextG S (F : Int) (j : Int)), sent := (j : Int), ever := true } := r1.put 4 _ rfl rfl rfl
              have r3 : RF n0 (((Z.setCell ⟨rb, 7, none⟩ (.int .i64 (j : Int))).setCell ⟨rb, 4, none⟩ (.bool true)).setCell ⟨rb, 6, none⟩ (.int .i64 1)) rb (.slice ta (rsOf S).T.length tc) vi { rsOf S with J := isL (nextG S (F : Int) (j : Int)), sent := (j : Int), ever := true, fin := 1 } := r2.put 6 _ rfl rfl rfl
              have eR : rsOf (nextG S (F : Int) (j : Int)) = { rsOf S with J := isL (nextG S (F : Int) (j : Int)), sent := (j : Int), ever := true, fin := 1 } := by
                have e1 : (nextG S (F : Int) (j : Int)).fin = 1 := by rw [nextG_fin15, ← unhide HEE]; simp [hf3]
                have e2 : (nextG S (F : Int) (j : Int)).sent = (j : Int) := by show max S.sent (j : Int) = _; omega
                unfold rsOf
                rw [e1, e2]
                simp [nextG]
              have rS : RS n0 (((Z.setCell ⟨rb, 7, none⟩ (.int .i64 (j : Int))).setCell ⟨rb, 4, none⟩ (.bool true)).setCell ⟨rb, 6, none⟩ (.int .i64 1)) rb (.slice ta (rsOf S).T.length tc) vi (nextG S (F : Int) (j : Int)) := by show RF n0 _ rb (.slice ta (rsOf S).T.length tc) vi (rsOf _); rw [eR]; exact r3
              have HRS := hide rS
              have KPF : Hid (Kp (Rm rb (.slice ta (rsOf S).T.length tc) vi) X (((Z.setCell ⟨rb, 7, none⟩ (.int .i64 (j : Int))).setCell ⟨rb, 4, none⟩ (.bool true)).setCell ⟨rb, 6, none⟩ (.int .i64 1)) ∧ Blk (((Z.setCell ⟨rb, 7, none⟩ (.int .i64 (j : Int))).setCell ⟨rb, 4, none⟩ (.bool true)).setCell ⟨rb, 6, none⟩ (.int .i64 1)) pb (pca4 (F : Int) (.slice da k dc) true) 78 ∧ Blk (((Z.setCell ⟨rb, 7, none⟩ (.int .i64 (j : Int))).setCell ⟨rb, 4, none⟩ (.bool true)).setCell ⟨rb, 6, none⟩ (.int .i64 1)) rk pc0 78 ∧ RowV X.heap.size 5 (((Z.setCell ⟨rb, 7, none⟩ (.int .i64 (j : Int))).setCell ⟨rb, 4, none⟩ (.bool true)).setCell ⟨rb, 6, none⟩ (.int .i64 1)) (.slice da k dc) (uV ((S.T.drop F).take k))) := by
                exact ⟨(((hkp.set rb 7 (.int .i64 (j : Int)) (fun _ => .inl rfl)).set rb 4 (.bool true) (fun _ => .inl rfl)).set rb 6 (.int .i64 1) (fun _ => .inl rfl)), (((hI.bp.setO rb 7 (.int .i64 (j : Int)) hrp).setO rb 4 (.bool true) hrp).setO rb 6 (.int .i64 1) hrp), (((hI.rr.setO rb 7 (.int .i64 (j : Int)) hrk).setO rb 4 (.bool true) hrk).setO rb 6 (.int .i64 1) hrk), (rowKeep (rowKeep (rowKeep hI.row hrb 7 (.int .i64 (j : Int))) hrb 4 (.bool true)) hrb 6 (.int .i64 1))⟩
              obtain ⟨P1, P2, P3, P4, P5⟩ := unhide FINAL _ (unhide HRS) (unhide KPF).1 (unhide KPF).2.1 (unhide KPF).2.2.1 (unhide KPF).2.2.2
              have P1 := hide P1; have P2 := hide P2; have P3 := hide P3; have P4 := hide P4; have P5 := hide P5
              clear hj el hI I hrw hkp eR rS HRS KPF FINAL r1 r2 r3
              go_wp2
              refine bodyPost_ret (results_cell_row rfl _ _ rk 78 _ (0, 0) _ rfl (unhide P1) Try.underlying78 rfl Try.sizeP15) rfl ?_
              exact ⟨_, by rw [← unhide HEE], unhide P2, unhide P3, unhide P4, unhide P5⟩
        · have hgd : decide (S.sent < (j : Int)) = false := decide_eq_false hgt
          cases hE1 : E with
          | false =>
            subst hE1
            have eR : rsOf (nextG S (F : Int) (j : Int)) = { rsOf S with J := isL (nextG S (F : Int) (j : Int)) } := by
              have e1 : (nextG S (F : Int) (j : Int)).fin = S.fin := by rw [nextG_fin15, ← unhide HEE]; simp
              have e2 : (nextG S (F : Int) (j : Int)).sent = S.sent := by show max S.sent (j : Int) = _; omega
              unfold rsOf
              rw [e1, e2]
              simp [nextG]
            have rS : RS n0 Z rb (.slice ta (rsOf S).T.length tc) vi (nextG S (F : Int) (j : Int)) := by show RF n0 _ rb (.slice ta (rsOf S).T.length tc) vi (rsOf _); rw [eR]; exact hrw
            have HRS := hide rS
            have KPF : Hid (Kp (Rm rb (.slice ta (rsOf S).T.length tc) vi) X Z ∧ Blk Z pb (pca4 (F : Int) (.slice da k dc) false) 78 ∧ Blk Z rk pc0 78 ∧ RowV X.heap.size 5 Z (.slice da k dc) (uV ((S.T.drop F).take k))) := by
              exact ⟨hkp, hI.bp, hI.rr, hI.row⟩
            obtain ⟨P1, P2, P3, P4, P5⟩ := unhide FINAL _ (unhide HRS) (unhide KPF).1 (unhide KPF).2.1 (unhide KPF).2.2.1 (unhide KPF).2.2.2
            have P1 := hide P1; have P2 := hide P2; have P3 := hide P3; have P4 := hide P4; have P5 := hide P5
            clear hj el hI I hrw hkp eR rS HRS KPF FINAL
            go_wp2
            refine bodyPost_ret (results_cell_row rfl _ _ rk 78 _ (0, 0) _ rfl (unhide P1) Try.underlying78 rfl Try.sizeP15) rfl ?_
            exact ⟨_, by rw [← unhide HEE], unhide P2, unhide P3, unhide P4, unhide P5⟩
          | true =>
            subst hE1
            by_cases hf3 : S.fin = 3
            · have hfb : (S.fin != 3) = false := by simp [hf3]
              have r1 : RF n0 (Z.setCell ⟨rb, 4, none⟩ (.bool true)) rb (.slice ta (rsOf S).T.length tc) vi { rsOf S with J := isL (nextG S (F : Int) (j : Int)), ever := true } := hrw.put 4 _ rfl rfl rfl
              have eR : rsOf (nextG S (F : Int) (j : Int)) = { rsOf S with J := isL (nextG S (F : Int) (j : Int)), ever := true } := by
                have e1 : (nextG S (F : Int) (j : Int)).fin = S.fin := by rw [nextG_fin15, ← unhide HEE]; simp [hf3]
                have e2 : (nextG S (F : Int) (j : Int)).sent = S.sent := by show max S.sent (j : Int) = _; omega
                unfold rsOf
                rw [e1, e2]
                simp [nextG, hf3]
              have rS : RS n0 (Z.setCell ⟨rb, 4, none⟩ (.bool true)) rb (.slice ta (rsOf S).T.length tc) vi (nextG S (F : Int) (j : Int)) := by show RF n0 _ rb (.slice ta (rsOf S).T.length tc) vi (rsOf _); rw [eR]; exact r1
              have HRS := hide rS
              have KPF : Hid (Kp (Rm rb (.slice ta (rsOf S).T.length tc) vi) X (Z.setCell ⟨rb, 4, none⟩ (.bool true)) ∧ Blk (Z.setCell ⟨rb, 4, none⟩ (.bool true)) pb (pca4 (F : Int) (.slice da k dc) true) 78 ∧ Blk (Z.setCell ⟨rb, 4, none⟩ (.bool true)) rk pc0 78 ∧ RowV X.heap.size 5 (Z.setCell ⟨rb, 4, none⟩ (.bool true)) (.slice da k dc) (uV ((S.T.drop F).take k))) := by
                exact ⟨(hkp.set rb 4 (.bool true) (fun _ => .inl rfl)), (hI.bp.setO rb 4 (.bool true) hrp), (hI.rr.setO rb 4 (.bool true) hrk), (rowKeep hI.row hrb 4 (.bool true))⟩
              obtain ⟨P1, P2, P3, P4, P5⟩ := unhide FINAL _ (unhide HRS) (unhide KPF).1 (unhide KPF).2.1 (unhide KPF).2.2.1 (unhide KPF).2.2.2
              have P1 := hide P1; have P2 := hide P2; have P3 := hide P3; have P4 := hide P4; have P5 := hide P5
              clear hj el hI I hrw hkp eR rS HRS KPF FINAL r1
              go_wp2
              refine bodyPost_ret (results_cell_row rfl _ _ rk 78 _ (0, 0) _ rfl (unhide P1) Try.underlying78 rfl Try.sizeP15) rfl ?_
              exact ⟨_, by rw [← unhide HEE], unhide P2, unhide P3, unhide P4, unhide P5⟩
            · have hfb : (S.fin != 3) = true := by simp [hf3]
              have r1 : RF n0 (Z.setCell ⟨rb, 4, none⟩ (.bool true)) rb (.slice ta (rsOf S).T.length tc) vi { rsOf S with J := isL (nextG S (F : Int) (j : Int)), ever := true } := hrw.put 4 _ rfl rfl rfl
              have r2 : RF n0 ((Z.setCell ⟨rb, 4, none⟩ (.bool true)).setCell ⟨rb, 6, none⟩ (.int .i64 1)) rb (.slice ta (rsOf S).T.length tc) vi { rsOf S with J := isL (nextG S (F : Int) (j : Int)), ever := true, fin := 1 } := r1.put 6 _ rfl rfl rfl
              have eR : rsOf (nextG S (F : Int) (j : Int)) = { rsOf S with J := isL (nextG S (F : Int) (j : Int)), ever := true, fin := 1 } := by
                have e1 : (nextG S (F : Int) (j : Int)).fin = 1 := by rw [nextG_fin15, ← unhide HEE]; simp [hf3]
                have e2 : (nextG S (F : Int) (j : Int)).sent = S.sent := by show max S.sent (j : Int) = _; omega
                unfold rsOf
                rw [e1, e2]
                simp [nextG]
              have rS : RS n0 ((Z.setCell ⟨rb, 4, none⟩ (.bool true)).setCell ⟨rb, 6, none⟩ (.int .i64 1)) rb (.slice ta (rsOf S).T.length tc) vi (nextG S (F : Int) (j : Int)) := by show RF n0 _ rb (.slice ta (rsOf S).T.length tc) vi (rsOf _); rw [eR]; exact r2
              have HRS := hide rS
              have KPF : Hid (Kp (Rm rb (.slice ta (rsOf S).T.length tc) vi) X ((Z.setCell ⟨rb, 4, none⟩ (.bool true)).setCell ⟨rb, 6, none⟩ (.int .i64 1)) ∧ Blk ((Z.setCell ⟨rb, 4, none⟩ (.bool true)).setCell ⟨rb, 6, none⟩ (.int .i64 1)) pb (pca4 (F : Int) (.slice da k dc) true) 78 ∧ Blk ((Z.setCell ⟨rb, 4, none⟩ (.bool true)).setCell ⟨rb, 6, none⟩ (.int .i64 1)) rk pc0 78 ∧ RowV X.heap.size 5 ((Z.setCell ⟨rb, 4, none⟩ (.bool true)).setCell ⟨rb, 6, none⟩ (.int .i64 1)) (.slice da k dc) (uV ((S.T.drop F).take k))) := by
                exact ⟨((hkp.set rb 4 (.bool true) (fun _ => .inl rfl)).set rb 6 (.int .i64 1) (fun _ => .inl rfl)), ((hI.bp.setO rb 4 (.bool true) hrp).setO rb 6 (.int .i64 1) hrp), ((hI.rr.setO rb 4 (.bool true) hrk).setO rb 6 (.int .i64 1) hrk), (rowKeep (rowKeep hI.row hrb 4 (.bool true)) hrb 6 (.int .i64 1))⟩
              obtain ⟨P1, P2, P3, P4, P5⟩ := unhide FINAL _ (unhide HRS) (unhide KPF).1 (unhide KPF).2.1 (unhide KPF).2.2.1 (unhide KPF).2.2.2
              have P1 := hide P1; have P2 := hide P2; have P3 := hide P3; have P4 := hide P4; have P5 := hide P5
              clear hj el hI I hrw hkp eR rS HRS KPF FINAL r1 r2
              go_wp2
              refine bodyPost_ret (results_cell_row rfl _ _ rk 78 _ (0, 0) _ rfl (unhide P1) Try.underlying78 rfl Try.sizeP15) rfl ?_
              exact ⟨_, by rw [← unhide HEE], unhide P2, unhide P3, unhide P4, unhide P5⟩
end
end Go.Proofs.Ytdalekjpjnhboaa

namespace Go.Proofs.Ytdalekjpjnhboaa
open Go.RowKit
set_option linter.unusedVariables false
set_option maxHeartbeats 4000000
set_option maxRecDepth 100000

/-- The runs below a number. -/
def belowR (k : Int) : List Sp → List Sp
  | [] => []
  | s :: L => if s.1 < k then (s.1, min s.2 (k - 1)) :: belowR k L else []
theorem belowR_none {mn mx k : Int} {L : List Sp} (h : Good mn mx L) (hk : k ≤ mn) : belowR k L = [] := by
  cases L with
  | nil => rfl
  | cons s L => have := h.1; simp only [belowR]; rw [if_neg (by omega)]
theorem belowR_all {mn mx k : Int} {L : List Sp} (h : Good mn mx L) (hk : mx < k) : belowR k L = L := by
  induction L generalizing mn with
  | nil => rfl
  | cons s L ih =>
    have h1 := h.1; have h2 := h.2.1; have h3 := h.2.2.1
    simp only [belowR]
    rw [if_pos (by omega), ih h.2.2.2, Int.min_eq_left (by omega)]
theorem belowR_not {mn mx k : Int} {L : List Sp} (h : Good mn mx L) (hk : memB k L = false) : belowR (k + 1) L = belowR k L := by
  induction L generalizing mn with
  | nil => rfl
  | cons s L ih =>
    have h1 := h.1; have h2 := h.2.1; have h3 := h.2.2.1
    rw [memB_cons, Bool.or_eq_false_iff] at hk
    have hn : ¬ (s.1 ≤ k ∧ k ≤ s.2) := fun q => by
      have := hk.1
      rw [decide_eq_true q.1, decide_eq_true q.2] at this
      cases this
    simp only [belowR]
    by_cases c : s.1 < k
    · rw [if_pos (by omega), if_pos c, ih h.2.2.2 hk.2, Int.min_eq_left (by omega), Int.min_eq_left (by omega)]
    · rw [if_neg (by omega), if_neg c]
theorem belowR_in {mn mx k : Int} {L : List Sp} (h : Good mn mx L) (hk : memB k L = true) :
    (∃ A lo, belowR k L = A ++ [(lo, k - 1)] ∧ belowR (k + 1) L = A ++ [(lo, k)]) ∨ ((∀ A s, belowR k L = A ++ [s] → s.2 + 1 ≠ k) ∧ belowR (k + 1) L = belowR k L ++ [(k, k)]) := by
  induction L generalizing mn with
  | nil => simp [memB] at hk
  | cons s L ih =>
    have h1 := h.1; have h2 := h.2.1; have h3 := h.2.2.1
    by_cases c : s.1 ≤ k ∧ k ≤ s.2
    · have e0 : belowR k L = [] := belowR_none h.2.2.2 (by omega)
      have e1 : belowR (k + 1) L = [] := belowR_none h.2.2.2 (by omega)
      by_cases d : s.1 < k
      · left
        refine ⟨[], s.1, ?_, ?_⟩
        · simp only [belowR]
          rw [if_pos d, e0, Int.min_eq_right (by omega)]
          rfl
        · simp only [belowR]
          rw [if_pos (by omega), e1, Int.min_eq_right (by omega)]
          show [(s.1, k + 1 - 1)] = [(s.1, k)]
          rw [show k + 1 - 1 = k by omega]
      · right
        have e : belowR k (s :: L) = [] := by simp only [belowR]; rw [if_neg d]
        refine ⟨fun A t q => ?_, ?_⟩
        · rw [e] at q; simp at q
        · rw [e]
          simp only [belowR]
          rw [if_pos (by omega), e1, Int.min_eq_right (by omega)]
          show [(s.1, k + 1 - 1)] = [(k, k)]
          rw [show k + 1 - 1 = k by omega, show s.1 = k by omega]
    · have hk2 : memB k L = true := by
        rw [memB_cons, Bool.or_eq_true] at hk
        refine hk.resolve_left (fun q => c ?_)
        simpa using q
      have hlo := memB_in h.2.2.2 hk2
      have e0 : belowR k (s :: L) = s :: belowR k L := by simp only [belowR]; rw [if_pos (by omega), Int.min_eq_left (by omega)]
      have e1 : belowR (k + 1) (s :: L) = s :: belowR (k + 1) L := by simp only [belowR]; rw [if_pos (by omega), Int.min_eq_left (by omega)]
      rw [e0, e1]
      rcases ih h.2.2.2 hk2 with ⟨A, lo, q1, q2⟩ | ⟨q1, q2⟩
      · left
        exact ⟨s :: A, lo, by rw [q1]; rfl, by rw [q2]; rfl⟩
      · right
        refine ⟨fun A t q => ?_, by rw [q2]; rfl⟩
        cases A with
        | nil =>
          simp at q
          obtain ⟨rfl, -⟩ := q
          omega
        | cons a A =>
          simp at q
          exact q1 A t q.2
theorem belowR_len {mn mx k : Int} {L : List Sp} (h : Good mn mx L) : (belowR k L).length ≤ L.length := by
  induction L generalizing mn with
  | nil => exact Nat.le_refl _
  | cons s L ih =>
    simp only [belowR]
    split
    · have := ih h.2.2.2
      simp only [List.length_cons]
      omega
    · exact Nat.zero_le _

theorem belowR_mem {mn mx k : Int} {L : List Sp} (h : Good mn mx L) : ∀ t ∈ belowR k L, mn ≤ t.2 ∧ t.2 < k := by
  induction L generalizing mn with
  | nil => intro t ht; simp [belowR] at ht
  | cons s L ih =>
    have h1 := h.1; have h2 := h.2.1; have h3 := h.2.2.1
    intro t ht
    simp only [belowR] at ht
    split at ht
    · rcases List.mem_cons.1 ht with rfl | ht
      · simp only; omega
      · have := ih h.2.2.2 t ht; omega
    · simp at ht
theorem own_low {w : World} {b : Nat} {e : TypeId} {sz n : Nat} {v : Value} {xs : List Value} (h : w.ownsRow b e sz v n xs) : w.ownsRow 0 e sz v n xs := by
  refine ⟨h.1, ?_⟩
  rcases h.2 with h2 | ⟨g, c, cur, e1, q1, q2⟩
  · exact .inl h2
  · exact .inr ⟨g, c, cur, e1, Nat.zero_le _, q2⟩

/-- Runs that a call collects. -/
structure RC (X : World) (v : Value) (L : List Sp) (Z : World) : Prop where
  row : Z.ownsRow X.heap.size 86 2 v L.length (cl L)
  gr : X.grownBy Z none
theorem rc_nil (X : World) : RC X nilS [] X := ⟨⟨rfl, .inl ⟨rfl, rfl⟩⟩, World.grownBy.refl _ _⟩
theorem RC.shape {X Z : World} {v : Value} {L : List Sp} (h : RC X v L Z) : ∃ a c, v = .slice a L.length c ∧ L.length ≤ c ∧ c ≤ 9223372036854775807 ∧ (L = [] ∨ ∃ g, a = some ⟨g, 0, none⟩) := by
  rcases h.row.2 with ⟨e1, e2⟩ | ⟨g, c', cur, e1, q1, q2, q3, q4, q5, q6⟩
  · have : L = [] := List.length_eq_zero_iff.1 e2
    subst this
    exact ⟨none, 0, e1, Nat.le_refl _, Nat.zero_le _, .inl rfl⟩
  · exact ⟨_, c', e1, q3, by unfold maxLen at q4; omega, .inr ⟨g, rfl⟩⟩
theorem RC.app {X Z : World} {v : Value} {L : List Sp} (h : RC X v L Z) (x : Int) (hb : L.length + 1 ≤ 1000000000) :
    ∃ a' c' W', (Builtin.append_ #[34, 34] 34 #[v, .slice (some ⟨Z.heap.size, 0, none⟩) 1 1]).run Try.prog (Z.alloc (.cells #[.int .i64 x, .int .i64 x] 86)) = .ok (.slice a' (L.length + 1) c') W' ∧ RC X (.slice a' (L.length + 1) c') (L ++ [(x, x)]) W' := by
  obtain ⟨i, hi, hz, hs, hby⟩ := info_parts Try.infoS
  have gA := grown_alloc Z (.cells #[.int .i64 x, .int .i64 x] 86)
  have hrow : (Z.alloc (.cells #[.int .i64 x, .int .i64 x] 86)).ownsRow X.heap.size 86 2 v L.length (cl L) := World.ownsRow.kept h.row gA (by cases v.ownBlock <;> simp)
  obtain ⟨v', W', hr, ho, hgr, hnil⟩ := run_append_own (P := Try.prog) (Z.alloc (.cells #[.int .i64 x, .int .i64 x] 86)) X.heap.size 34 34 86 i _ 2 16 Try.underlying34 hi hz hs hby rfl (by decide) v L.length (cl L) hrow ⟨Z.heap.size, 0, none⟩ 1 1 [.int .i64 x, .int .i64 x] rfl (fun j u hj => by
    have hb2 := Blk.new Z #[.int .i64 x, .int .i64 x] 86
    have := hb2.cell j u (by
      match j, hj with
      | 0, hj => exact hj
      | 1, hj => exact hj)
    simpa only [Addr.add_lit, Nat.zero_add] using this) (by simp [Value.oneCell']) (by unfold maxLen; omega) (by omega) (Nat.le_trans h.gr.size gA.size)
  have e : cl L ++ [.int .i64 x, .int .i64 x] = cl (L ++ [(x, x)]) := by rw [cl_append]; rfl
  have e2 : (L ++ [(x, x)]).length = L.length + 1 := by simp
  rw [e] at ho
  obtain ⟨a', c', rfl⟩ : ∃ a' c', v' = .slice a' (L.length + 1) c' := by
    rcases ho.2 with ⟨-, e⟩ | ⟨g', c', cur, e1, -⟩
    · omega
    · exact ⟨_, _, e1⟩
  refine ⟨a', c', W', hr, by rw [e2]; exact ho, ?_⟩
  have hg2 := grown_trans h.gr gA
  exact ⟨hgr.os.trans hg2.os, hgr.tape.trans hg2.tape, hgr.output.trans hg2.output, Nat.le_trans hg2.size hgr.size, fun g hg hn => by
    rw [hgr.block g (Nat.lt_of_lt_of_le hg hg2.size) (fun e => by have := (h.row.lt g e.symm).1; omega)]
    exact hg2.block g hg hn⟩
theorem RC.last {X Z : World} {g n c : Nat} {A : List Sp} {lo hi : Int} (h : RC X (.slice (some ⟨g, 0, none⟩) n c) (A ++ [(lo, hi)]) Z) : n = A.length + 1 ∧ Z.cell? ⟨g, A.length * 2 + 1, none⟩ = some (.int .i64 hi) ∧ Z.frozen? ⟨g, A.length * 2 + 1, none⟩ = false ∧ ∀ y, RC X (.slice (some ⟨g, 0, none⟩) n c) (A ++ [(lo, y)]) (Z.setCell ⟨g, A.length * 2 + 1, none⟩ (.int .i64 y)) := by
  have hn : n = A.length + 1 := by
    rcases h.row.2 with ⟨e1, e2⟩ | ⟨g', c', cur, e1, -⟩
    · cases e1
    · injection e1 with _ e1 _
      rw [e1]; simp
  subst hn
  have hrow := h.row
  have el : (A ++ [(lo, hi)]).length = A.length + 1 := by simp
  rw [el] at hrow
  have hlen : (cl A).length = A.length * 2 := cl_length A
  refine ⟨rfl, ?_, World.ownsRow.frozenAt hrow _, fun y => ⟨?_, grown_set h.gr g _ _ (hrow.lt g rfl).1⟩⟩
  · rw [World.ownsRow.cellAt hrow (A.length * 2 + 1) (by omega), cl_append, List.getElem?_append_right (by omega), hlen, show A.length * 2 + 1 - A.length * 2 = 1 by omega]
    rfl
  · have := (World.ownsRow.stored hrow (A.length * 2 + 1) (.int .i64 y)).1
    have e : (cl (A ++ [(lo, hi)])).set (A.length * 2 + 1) (.int .i64 y) = cl (A ++ [(lo, y)]) := by
      rw [cl_append, cl_append, List.set_append_right _ _ (by omega), hlen, show A.length * 2 + 1 - A.length * 2 = 1 by omega]
      rfl
    rw [e] at this
    have el2 : (A ++ [(lo, y)]).length = A.length + 1 := by simp
    rw [el2]
    exact this

section
variable {n0 : Nat} {X Y : World} {rb : Nat} {vt vi : Value} {S : Sd}

theorem runsR (h : RS n0 X rb vt vi S) (hn0 : n0 ≤ X.heap.size) (hbig : S.T.length ≤ 1000000000) (what : Int) (LL : List Sp) (mx : Int) (hg : Good 0 mx LL) (hmx : mx < S.T.length) (hiff : ∀ k : Nat, (isAt S (k : Int) == what) = memB (k : Int) LL) (hlen : LL.length ≤ 100000000) :
    Calls Try.prog 60 #[ptr rb, .int .i64 what] X fun e Y => ∃ v, e = .returned v ∧ Row Y v LL ∧ Fresh X v ∧ X.grownBy Y none := by
  obtain ⟨ia, ic, rfl, hi1, hi2, hrow⟩ := h.isRow
  have hJ : (rsOf S).J.length = S.T.length := isL_len S
  rw [hJ] at h
  have H := hide h
  have VAL : Hid (∀ k : Nat, k < S.T.length → (rsOf S).J[k]? = some (isAt S (k : Int))) := fun k hk => isL_get S k hk
  have HG := hide hg
  have HMX := hide hmx
  have HIFF := hide hiff
  have HNE : Hid (0 < S.T.length → (rsOf S).J ≠ []) := fun hp e => by rw [e] at hJ; simp at hJ; omega
  have I0 : Hid (RC X nilS (belowR ((0 : Nat) : Int) LL) X) := by
    have : belowR ((0 : Nat) : Int) LL = [] := belowR_none hg (Int.le_refl _)
    rw [this]
    exact rc_nil X
  have hlb : Hid (∀ k : Int, (belowR k LL).length ≤ 100000000) := fun k => Nat.le_trans (belowR_len hg) hlen
  clear h hJ hg hmx hiff hrow hi1
  generalize hNN : S.T.length = N at *
  clear hNN
  go_enter Try.func60, Try.ntmps60
  go_wp2
  go_loopw [5, 6] (fun l i Z => ∃ k : Nat, k ≤ N ∧ i = .int .i64 (k : Int) ∧ Hid (RC X l (belowR (k : Int) LL) Z)) (fun _ i _ => N - (intOf i).toNat)
  case atStart => exact ⟨0, Nat.zero_le _, rfl, I0⟩
  case round =>
    clear I0
    obtain ⟨k, hk, rfl, I⟩ := hrel
    obtain ⟨Z, hZ⟩ : ∃ Z, Z = wr := ⟨_, rfl⟩
    subst hZ
    obtain ⟨la, lc, rfl, hl1, hl2, hl3⟩ := (unhide I).shape
    have hR := (unhide H).grown (unhide I).gr
    have c2 := hR.cells.2.2.1
    by_cases hlt : k < N
    · obtain ⟨ia', ic', e0, -, -, hrow⟩ := hR.isRow
      obtain ⟨g, eg, -, hc⟩ := hrow.resolve_left (unhide HNE (by omega))
      injection e0 with e1 e2 e3
      subst e1
      subst eg
      have hx := hc k _ (unhide VAL k hlt)
      have hi := unhide HIFF k
      have hkN : (k : Int) < (N : Int) := by omega
      have hk0 : (0 : Int) ≤ (k : Int) := by omega
      have HLT := hide hlt
      clear hrow hc hR hk hlt e2
      cases hB : memB (k : Int) LL with
      | false =>
        rw [hB] at hi
        have NX : Hid (RC X (.slice la (belowR (k : Int) LL).length lc) (belowR ((k + 1 : Nat) : Int) LL) Z) := by
          rw [show ((k + 1 : Nat) : Int) = (k : Int) + 1 by omega, belowR_not (unhide HG) hB]
          exact unhide I
        clear I hB
        generalize isAt S (k : Int) = v at *
        generalize (belowR (k : Int) LL).length = ln at *
        go_wp2
        exact ⟨⟨k + 1, unhide HLT, by go_num, NX⟩, by simp [intOf]; have := unhide HLT; omega⟩
      | true =>
        rw [hB] at hi
        rcases belowR_in (unhide HG) hB with ⟨A, lo, q1, q2⟩ | ⟨q1, q2⟩
        · rw [q1] at I hl3
          obtain ⟨g2, rfl⟩ := hl3.resolve_left (by simp)
          obtain ⟨en, z1, fz, hst⟩ := (unhide I).last
          have NX : Hid (RC X (.slice (some ⟨g2, 0, none⟩) (belowR (k : Int) LL).length lc) (belowR ((k + 1 : Nat) : Int) LL) (Z.setCell ⟨g2, A.length * 2 + 1, none⟩ (.int .i64 (k : Int)))) := by
            rw [show ((k + 1 : Nat) : Int) = (k : Int) + 1 by omega, q2]
            have := hst (k : Int)
            rw [← q1] at this
            exact this
          rw [← q1] at en
          have hlb' := unhide hlb (k : Int)
          generalize hln : (belowR (k : Int) LL).length = ln at *
          generalize hAn : A.length = an at *
          have hln1 : (ln : Int) - 1 = (an : Int) := by omega
          have hp0 : (0 : Int) < (ln : Int) := by omega
          have hp0d : decide ((0 : Int) < (ln : Int)) = true := decide_eq_true hp0
          have ha0 : (0 : Int) ≤ (an : Int) := by omega
          have hal : (an : Int) < (ln : Int) := by omega
          have hz1 : (k : Int) - 1 + 1 = (k : Int) := by omega
          have hzb : ((k : Int) == (k : Int)) = true := by simp
          have wz : IntKind.i64.wrap ((k : Int) - 1 + 1) = (k : Int) := by rw [IntKind.wrap_i64]; omega
          clear I q1 q2 hB hst hln hAn en hl1
          generalize isAt S (k : Int) = v at *
          go_wp2
          exact ⟨⟨k + 1, unhide HLT, by go_num, NX⟩, by simp [intOf]; have := unhide HLT; omega⟩
        · have hlb' := unhide hlb (k : Int)
          obtain ⟨a2, k2, W2, hap, h2⟩ := (unhide I).app (k : Int) (by omega)
          have NX : Hid (RC X (.slice a2 ((belowR (k : Int) LL).length + 1) k2) (belowR ((k + 1 : Nat) : Int) LL) W2) := by
            rw [show ((k + 1 : Nat) : Int) = (k : Int) + 1 by omega, q2]
            exact h2
          have HAP := hide hap
          clear hap h2
          by_cases hz : (belowR (k : Int) LL).length = 0
          · rw [hz] at HAP NX
            have e0 : ∀ a c, Value.slice a (belowR (k : Int) LL).length c = .slice a 0 c := fun a c => by rw [hz]
            rw [e0]
            clear I q1 q2 hB hl1 hlb' e0 hz
            generalize isAt S (k : Int) = v at *
            go_wp2_with (at_builtin; refine wpList_append_run _ rfl _ _ 34 34 rfl _ _ rfl rfl (unhide HAP) ?_)
            exact ⟨⟨k + 1, unhide HLT, by go_num, NX⟩, by simp [intOf]; have := unhide HLT; omega⟩
          · obtain ⟨A, t, hAt⟩ : ∃ A t, belowR (k : Int) LL = A ++ [t] := (List.eq_nil_or_concat (belowR (k : Int) LL)).resolve_left (fun e => hz (by rw [e]; rfl)) |>.imp fun A ⟨t, e⟩ => ⟨t, by rw [e, List.concat_eq_append]⟩
            have hne := q1 A t hAt
            obtain ⟨g2, rfl⟩ := hl3.resolve_left (fun e => hz (by rw [e]; rfl))
            have I2 := unhide I
            rw [hAt] at I2
            obtain ⟨en, z1, -, -⟩ := RC.last (lo := t.1) (hi := t.2) I2
            rw [← hAt] at en
            have tb : 0 ≤ t.2 ∧ t.2 ≤ 1000000000 := by
              have := belowR_mem (k := (k : Int)) (unhide HG) t (by rw [hAt]; simp)
              have := unhide HLT
              omega
            generalize hln : (belowR (k : Int) LL).length = ln at *
            generalize hAn : A.length = an at *
            have hln1 : (ln : Int) - 1 = (an : Int) := by omega
            have hp0 : (0 : Int) < (ln : Int) := by omega
            have hp0d : decide ((0 : Int) < (ln : Int)) = true := decide_eq_true hp0
            have ha0 : (0 : Int) ≤ (an : Int) := by omega
            have hal : (an : Int) < (ln : Int) := by omega
            have hzb : (t.2 + 1 == (k : Int)) = false := by simp; exact hne
            clear I I2 q1 q2 hB hln hAn en hl1 hz hAt hne
            generalize isAt S (k : Int) = v at *
            generalize t.2 = th at *
            go_wp2_with (at_builtin; refine wpList_append_run _ rfl _ _ 34 34 rfl _ _ rfl rfl (unhide HAP) ?_)
            exact ⟨⟨k + 1, unhide HLT, by go_num, NX⟩, by simp [intOf]; have := unhide HLT; omega⟩
    · obtain rfl : k = N := by omega
      have hno : ¬ (k : Int) < (k : Int) := by omega
      have hall : belowR (k : Int) LL = LL := belowR_all (unhide HG) (unhide HMX)
      have hI := unhide I
      have FIN : Hid (Row Z (.slice la (belowR (k : Int) LL).length lc) LL ∧ Fresh X (.slice la (belowR (k : Int) LL).length lc) ∧ X.grownBy Z none) := by
        rw [hall] at hI ⊢
        exact ⟨own_low hI.row, fun g e => (hI.row.lt g e).1, hI.gr⟩
      clear hI I hall hR hl1
      generalize (belowR (k : Int) LL).length = ln at *
      go_wp2
      go_ret
      exact ⟨_, rfl, unhide FIN⟩
end
end Go.Proofs.Ytdalekjpjnhboaa

namespace Go.Proofs.Ytdalekjpjnhboaa
open Go.RowKit
set_option linter.unusedVariables false
set_option linter.unusedSimpArgs false
set_option maxHeartbeats 20000000
set_option maxRecDepth 100000

theorem gr_todrew {A B : World} {r : Option Nat} (h : A.grownBy B r) : A.grownBy B.drew r := ⟨h.os, h.tape, h.output, h.size, h.block⟩
theorem isAt_three {S : Sd} (h : SdOk S) (k : Nat) : (isAt S (k : Int) == 3) = memB (k : Int) S.A := by
  cases hA : memB (k : Int) S.A with
  | true =>
    have := memB_in h.gA hA
    have e : isAt S (k : Int) = 3 := by unfold isAt; rw [if_neg (by omega), if_pos hA]
    rw [e]; rfl
  | false =>
    have e : isAt S (k : Int) ≠ 3 := by
      unfold isAt
      rw [hA]
      split
      · omega
      · rw [if_neg (by simp)]
        split <;> omega
    simp [e]
theorem isAt_twos {S : Sd} (h : SdOk S) (k : Nat) : (isAt S (k : Int) == 2) = memB (k : Int) S.L := by
  cases hL : memB (k : Int) S.L with
  | true =>
    have := memB_in h.gL hL
    have e : isAt S (k : Int) = 2 := by unfold isAt; rw [if_neg (by omega), if_neg (by rw [h.dis _ hL]; simp), if_pos hL]
    rw [e]; rfl
  | false =>
    have e : isAt S (k : Int) ≠ 2 := by
      unfold isAt
      rw [hL]
      split
      · omega
      · split
        · omega
        · simp
    simp [e]

section
variable {n0 : Nat} {X Y : World} {rb : Nat} {vt vi : Value} {S : Sd}

theorem viewR (h : RS n0 X rb vt vi S) (hok : SdOk S) (hn0 : n0 ≤ X.heap.size) (hbig : wr S ≤ 1000000000) :
    Calls Try.prog 36 #[ptr rb] X fun e Y => ∃ va vl, e = .returned (.agg (viewC S va vl)) ∧ Row Y va S.A ∧ Row Y vl S.L ∧ Fresh X va ∧ Fresh X vl ∧ (∀ g, va.ownBlock = some g → vl.ownBlock ≠ some g) ∧ X.grownBy Y none := by
  have g1 : X.grownBy (X.alloc (.cells view0 36)) none := grown_alloc _ _
  have h1 := h.grown g1
  have br : Blk (X.alloc (.cells view0 36)) X.heap.size view0 36 := Blk.new _ _ _
  have hsz : (X.alloc (.cells view0 36)).heap.size = X.heap.size + 1 := alloc_size _ _
  obtain ⟨W1, hW1⟩ : ∃ W1, W1 = X.alloc (.cells view0 36) := ⟨_, rfl⟩
  rw [← hW1] at h1 br g1 hsz
  have hb0 := hok.b0; have hbs := hok.bs; have hsw := hok.sw
  have hwr : wr S = (S.T.length : Int) := rfl
  have lA := hok.lenA; have lL := hok.lenL; have lc := hok.cap
  have hA := runsR h1 (by omega) (by omega) 3 S.A (S.sent - 1) hok.gA (by omega) (isAt_three hok) (by omega)
  have hL := fun Z (g : W1.grownBy Z none) => runsR (h1.grown g) (by have := g.size; omega) (by omega) 2 S.L (S.sent - 1) hok.gL (by omega) (isAt_twos hok) (by omega)
  have hB := fun Z (g : W1.grownBy Z none) => baseR (h1.grown g) hok (by omega)
  have hD := fun Z (g : W1.grownBy Z none) => doneR (h1.grown g) hok (by omega)
  obtain ⟨ta, tc, rfl, ht1, ht2, -⟩ := h.textRow
  have HK : Hid (∀ Z, W1.grownBy Z none → Z.cell? ⟨rb, 1, none⟩ = some (.slice ta S.T.length tc) ∧ Z.cell? ⟨rb, 3, none⟩ = some (.bool S.ended) ∧ Z.cell? ⟨rb, 5, none⟩ = some (.bool S.stopped) ∧ Z.cell? ⟨rb, 6, none⟩ = some (.int .i64 S.fin) ∧ Z.cell? ⟨rb, 7, none⟩ = some (.int .i64 S.sent) ∧ Blk Z X.heap.size view0 36) := fun Z g => by
    obtain ⟨-, c1, -, c3, -, c5, c6, c7⟩ := (h1.grown g).cells
    exact ⟨c1, c3, c5, c6, c7, br.grown g⟩
  have hbr : rb ≠ X.heap.size := by have := h.blk.lt; omega
  have G1 := hide g1
  have HSZ := hide hsz
  have HV : Hid (∀ va vl, viewC S va vl = #[.int .i64 (S.T.length : Int), .int .i64 S.sent, .int .i64 S.base, va, vl, .bool S.ended, .bool ((S.fin == 1) || (S.fin == 3)), .bool (S.fin == 3), .bool S.stopped, .bool (doneB S)]) := fun va vl => rfl
  clear h hok h1 br g1 hsz hb0 hbs hsw lA lL lc ht1
  go_enter Try.func36, Try.ntmps36
  go_wp2_with fail
  rw [show (X.alloc (.cells #[.int .i64 0, .int .i64 0, .int .i64 0, .slice none 0 0, .slice none 0 0, .bool false, .bool false, .bool false, .bool false, .bool false] 36)) = W1 from hW1.symm]
  clear hW1
  refine hA.mono ?_
  rintro e Z1 ⟨va, rfl, r1, f1, k1⟩
  have hL1 := hL Z1 k1
  have K1 := hide k1
  obtain ⟨a1, c1, rfl, -⟩ := r1.shape
  have R1 := hide r1
  have F1 := hide f1
  clear hA hL k1 r1 f1
  go_wp2_with fail
  refine hL1.mono ?_
  rintro e Z2 ⟨vl, rfl, r2, f2, k2⟩
  have k12 := grown_trans (unhide K1) k2
  have hB1 := hB Z2 k12
  have hD1 := hD Z2 k12
  obtain ⟨a2, c2, rfl, -⟩ := r2.shape
  have R2 := hide r2
  have F2 := hide f2
  have K2 := hide k2
  obtain ⟨x1, x3, x5, x6, x7, xb⟩ := unhide HK Z2 k12
  have XB := hide xb
  clear hL1 hB hD r2 f2 k2 k12 HK xb
  go_wp2_with fail
  refine hB1.mono ?_
  rintro e Z2' ⟨rfl, hZ2'⟩
  subst Z2'
  clear hB1
  go_wp2_with fail
  refine hD1.mono ?_
  rintro e Z2' ⟨rfl, hZ2'⟩
  subst Z2'
  clear hD1
  have FIN : Hid (∀ W', Z2.grownBy W' (some X.heap.size) → Row W' (.slice a1 S.A.length c1) S.A ∧ Row W' (.slice a2 S.L.length c2) S.L ∧ Fresh X (.slice a1 S.A.length c1) ∧ Fresh X (.slice a2 S.L.length c2) ∧ (∀ g, (Value.slice a1 S.A.length c1).ownBlock = some g → (Value.slice a2 S.L.length c2).ownBlock ≠ some g) ∧ X.grownBy W' none) := fun W' p2 => by
    have s1 := (unhide K1).size
    have s0 := unhide HSZ
    refine ⟨((unhide R1).keep (unhide K2)).keepBut p2 (ne_r (unhide F1) (unhide HSZ) rfl), (unhide R2).keepBut p2 (ne_r (fun k e => Nat.le_trans s1 (unhide F2 k e)) (unhide HSZ) rfl), fun k e => Nat.le_trans (unhide G1).size (unhide F1 k e), fun k e => Nat.le_trans (unhide G1).size (Nat.le_trans s1 (unhide F2 k e)), fun g e1 e2 => ?_, ?_⟩
    · have := row_lt (unhide R1) g e1
      have := unhide F2 g e2
      omega
    · have gA := grown_trans (unhide G1) (grown_trans (unhide K1) (unhide K2))
      exact ⟨p2.os.trans gA.os, p2.tape.trans gA.tape, p2.output.trans gA.output, Nat.le_trans gA.size p2.size, fun g hg hn => by
        rw [p2.block g (Nat.lt_of_lt_of_le hg gA.size) (fun e => by cases e; omega)]
        exact gA.block g hg hn⟩
  generalize hr : X.heap.size = r at *
  clear hr R1 R2 F1 F2 K1 K2 G1 HSZ hwr hbig
  have hrb : r ≠ rb := hbr.symm
  have tt : ∀ j, Z2.frozen? ⟨r, j, none⟩ = false := (unhide XB).thaws
  have z0 := (unhide XB).cell 0 _ rfl
  have z1 := (unhide XB).cell 1 _ rfl
  have z2 := (unhide XB).cell 2 _ rfl
  have z3 := (unhide XB).cell 3 _ rfl
  have z4 := (unhide XB).cell 4 _ rfl
  have z5 := (unhide XB).cell 5 _ rfl
  have z6 := (unhide XB).cell 6 _ rfl
  have z7 := (unhide XB).cell 7 _ rfl
  have z8 := (unhide XB).cell 8 _ rfl
  have z9 := (unhide XB).cell 9 _ rfl
  generalize doneB S = dn at *
  generalize S.stopped = st at *
  generalize S.ended = en at *
  generalize S.base = bs at *
  generalize S.sent = sn at *
  generalize hTN : S.T.length = N at *
  clear hTN
  generalize S.fin = ff at *
  by_cases hf1 : ff = 1
  · have q1 := beq_yes hf1
    have q3 : (ff == 3) = false := by rw [hf1]; rfl
    subst hf1
    have far : ∀ j, (Z2.drew.setRow r #[.int .i64 (N : Int), .int .i64 sn, .int .i64 bs, .slice a1 S.A.length c1, .slice a2 S.L.length c2, .bool en, .bool true, .bool false, .bool st, .bool dn]).cell? ⟨rb, j, none⟩ = Z2.drew.cell? ⟨rb, j, none⟩ := fun j => World.cell?_of_block (w := Z2.drew) (setRow_other Z2.drew _ rb _ hbr)
    have hSF : (Z2.drew.setRow r #[.int .i64 (N : Int), .int .i64 sn, .int .i64 bs, .slice a1 S.A.length c1, .slice a2 S.L.length c2, .bool en, .bool true, .bool false, .bool st, .bool dn]).cell? ⟨rb, 1, none⟩ = some (.slice ta N tc) ∧ (Z2.drew.setRow r #[.int .i64 (N : Int), .int .i64 sn, .int .i64 bs, .slice a1 S.A.length c1, .slice a2 S.L.length c2, .bool en, .bool true, .bool false, .bool st, .bool dn]).cell? ⟨rb, 3, none⟩ = some (.bool en) ∧ (Z2.drew.setRow r #[.int .i64 (N : Int), .int .i64 sn, .int .i64 bs, .slice a1 S.A.length c1, .slice a2 S.L.length c2, .bool en, .bool true, .bool false, .bool st, .bool dn]).cell? ⟨rb, 5, none⟩ = some (.bool st) ∧ (Z2.drew.setRow r #[.int .i64 (N : Int), .int .i64 sn, .int .i64 bs, .slice a1 S.A.length c1, .slice a2 S.L.length c2, .bool en, .bool true, .bool false, .bool st, .bool dn]).cell? ⟨rb, 6, none⟩ = some (.int .i64 1) ∧ (Z2.drew.setRow r #[.int .i64 (N : Int), .int .i64 sn, .int .i64 bs, .slice a1 S.A.length c1, .slice a2 S.L.length c2, .bool en, .bool true, .bool false, .bool st, .bool dn]).cell? ⟨rb, 7, none⟩ = some (.int .i64 sn) := ⟨(far 1).trans x1, (far 3).trans x3, (far 5).trans x5, (far 6).trans x6, (far 7).trans x7⟩
    clear far z0 z1 z2 z3 z4 z5 z6 z7 z8 z9
    go_upto_region 5 with fail
    refine wp_region_held_drew (S := fun Z => Z.cell? ⟨rb, 1, none⟩ = some (.slice ta N tc) ∧ Z.cell? ⟨rb, 3, none⟩ = some (.bool en) ∧ Z.cell? ⟨rb, 5, none⟩ = some (.bool st) ∧ Z.cell? ⟨rb, 6, none⟩ = some (.int .i64 1) ∧ Z.cell? ⟨rb, 7, none⟩ = some (.int .i64 sn)) (by kernel_rfl) ⟨x1, x3, x5, x6, x7⟩ (fun hHeld => ?_)
    refine wpAnyH_take (i := 0) (oi := { dst := some 15, op := Op.move (Operand.tmp 0), type := 28, pos := "ref.go:224", after := #[], guard := none }) (v := ptr rb) rfl (by kernel_rfl) (by kernel_rfl) (by kernel_rfl) (fun _ _ _ h => h) (Or.inl ⟨by rfl, ?_⟩) hHeld ?_
    · intro w' hSw
      obtain ⟨y1, y3, y5, y6, y7⟩ := hSw
      go_simp
    simp only [Act.put, List.setIfInBounds_toArray, List.set_cons_zero, List.set_cons_succ]
    refine wpAnyH_take (i := 1) (oi := { dst := some 16, op := Op.nilCheck (Operand.tmp 15), type := 0, pos := "ref.go:224", after := #[{ on := 0, ground := Ground.data }], guard := none }) (v := .pointer (some ⟨rb, 0, none⟩)) rfl (by kernel_rfl) (by kernel_rfl) (by kernel_rfl) (fun _ _ _ h => h) (Or.inl ⟨by rfl, ?_⟩) hHeld ?_
    · intro w' hSw
      obtain ⟨y1, y3, y5, y6, y7⟩ := hSw
      go_simp
    simp only [Act.put, List.setIfInBounds_toArray, List.set_cons_zero, List.set_cons_succ]
    refine wpAnyH_take (i := 2) (oi := { dst := some 17, op := Op.fieldAddr 75 (Operand.tmp 16) 1, type := 0, pos := "ref.go:224", after := #[{ on := 1, ground := Ground.data }], guard := none }) (v := .pointer (some ⟨rb, 1, none⟩)) rfl (by kernel_rfl) (by kernel_rfl) (by kernel_rfl) (fun _ _ _ h => h) (Or.inl ⟨by rfl, ?_⟩) hHeld ?_
    · intro w' hSw
      obtain ⟨y1, y3, y5, y6, y7⟩ := hSw
      go_simp
    simp only [Act.put, List.setIfInBounds_toArray, List.set_cons_zero, List.set_cons_succ]
    refine wpAnyH_take (i := 3) (oi := { dst := some 18, op := Op.load 33 (Operand.tmp 17), type := 33, pos := "ref.go:224", after := #[{ on := 2, ground := Ground.data }], guard := none }) (v := .slice ta N tc) rfl (by kernel_rfl) (by kernel_rfl) (by kernel_rfl) (fun _ _ _ h => h) (Or.inl ⟨by rfl, ?_⟩) hHeld ?_
    · intro w' hSw
      obtain ⟨y1, y3, y5, y6, y7⟩ := hSw
      go_simp
    simp only [Act.put, List.setIfInBounds_toArray, List.set_cons_zero, List.set_cons_succ]
    refine wpAnyH_take (i := 4) (oi := { dst := some 19, op := Op.call { callee := Callee.builtin Builtin.len, args := #[Operand.tmp 18], argTypes := #[33] }, type := 3, pos := "ref.go:224", after := #[{ on := 3, ground := Ground.data }], guard := none }) (v := .int .i64 (N : Int)) rfl (by kernel_rfl) (by kernel_rfl) (by kernel_rfl) (fun _ _ _ h => h) (Or.inl ⟨by rfl, ?_⟩) hHeld ?_
    · intro w' hSw
      obtain ⟨y1, y3, y5, y6, y7⟩ := hSw
      go_simp
    simp only [Act.put, List.setIfInBounds_toArray, List.set_cons_zero, List.set_cons_succ]
    refine wpAnyH_take (i := 5) (oi := { dst := some 20, op := Op.move (Operand.tmp 0), type := 28, pos := "ref.go:224", after := #[], guard := none }) (v := ptr rb) rfl (by kernel_rfl) (by kernel_rfl) (by kernel_rfl) (fun _ _ _ h => h) (Or.inl ⟨by rfl, ?_⟩) hHeld ?_
    · intro w' hSw
      obtain ⟨y1, y3, y5, y6, y7⟩ := hSw
      go_simp
    simp only [Act.put, List.setIfInBounds_toArray, List.set_cons_zero, List.set_cons_succ]
    refine wpAnyH_take (i := 6) (oi := { dst := some 21, op := Op.nilCheck (Operand.tmp 20), type := 0, pos := "ref.go:224", after := #[{ on := 5, ground := Ground.data }], guard := none }) (v := .pointer (some ⟨rb, 0, none⟩)) rfl (by kernel_rfl) (by kernel_rfl) (by kernel_rfl) (fun _ _ _ h => h) (Or.inl ⟨by rfl, ?_⟩) hHeld ?_
    · intro w' hSw
      obtain ⟨y1, y3, y5, y6, y7⟩ := hSw
      go_simp
    simp only [Act.put, List.setIfInBounds_toArray, List.set_cons_zero, List.set_cons_succ]
    refine wpAnyH_take (i := 7) (oi := { dst := some 22, op := Op.fieldAddr 75 (Operand.tmp 21) 7, type := 0, pos := "ref.go:224", after := #[{ on := 6, ground := Ground.data }], guard := none }) (v := .pointer (some ⟨rb, 7, none⟩)) rfl (by kernel_rfl) (by kernel_rfl) (by kernel_rfl) (fun _ _ _ h => h) (Or.inl ⟨by rfl, ?_⟩) hHeld ?_
    · intro w' hSw
      obtain ⟨y1, y3, y5, y6, y7⟩ := hSw
      go_simp
    simp only [Act.put, List.setIfInBounds_toArray, List.set_cons_zero, List.set_cons_succ]
    refine wpAnyH_take (i := 8) (oi := { dst := some 23, op := Op.load 3 (Operand.tmp 22), type := 3, pos := "ref.go:224", after := #[{ on := 7, ground := Ground.data }], guard := none }) (v := .int .i64 sn) rfl (by kernel_rfl) (by kernel_rfl) (by kernel_rfl) (fun _ _ _ h => h) (Or.inl ⟨by rfl, ?_⟩) hHeld ?_
    · intro w' hSw
      obtain ⟨y1, y3, y5, y6, y7⟩ := hSw
      go_simp
    simp only [Act.put, List.setIfInBounds_toArray, List.set_cons_zero, List.set_cons_succ]
    refine wpAnyH_take (i := 9) (oi := { dst := some 24, op := Op.move (Operand.tmp 5), type := 3, pos := "ref.go:224", after := #[], guard := none }) (v := .int .i64 bs) rfl (by kernel_rfl) (by kernel_rfl) (by kernel_rfl) (fun _ _ _ h => h) (Or.inl ⟨by rfl, ?_⟩) hHeld ?_
    · intro w' hSw
      obtain ⟨y1, y3, y5, y6, y7⟩ := hSw
      go_simp
    simp only [Act.put, List.setIfInBounds_toArray, List.set_cons_zero, List.set_cons_succ]
    refine wpAnyH_take (i := 10) (oi := { dst := some 25, op := Op.move (Operand.tmp 3), type := 34, pos := "ref.go:224", after := #[], guard := none }) (v := .slice a1 S.A.length c1) rfl (by kernel_rfl) (by kernel_rfl) (by kernel_rfl) (fun _ _ _ h => h) (Or.inl ⟨by rfl, ?_⟩) hHeld ?_
    · intro w' hSw
      obtain ⟨y1, y3, y5, y6, y7⟩ := hSw
      go_simp
    simp only [Act.put, List.setIfInBounds_toArray, List.set_cons_zero, List.set_cons_succ]
    refine wpAnyH_take (i := 11) (oi := { dst := some 26, op := Op.move (Operand.tmp 4), type := 34, pos := "ref.go:224", after := #[], guard := none }) (v := .slice a2 S.L.length c2) rfl (by kernel_rfl) (by kernel_rfl) (by kernel_rfl) (fun _ _ _ h => h) (Or.inl ⟨by rfl, ?_⟩) hHeld ?_
    · intro w' hSw
      obtain ⟨y1, y3, y5, y6, y7⟩ := hSw
      go_simp
    simp only [Act.put, List.setIfInBounds_toArray, List.set_cons_zero, List.set_cons_succ]
    refine wpAnyH_take (i := 12) (oi := { dst := some 27, op := Op.move (Operand.tmp 0), type := 28, pos := "ref.go:224", after := #[], guard := none }) (v := ptr rb) rfl (by kernel_rfl) (by kernel_rfl) (by kernel_rfl) (fun _ _ _ h => h) (Or.inl ⟨by rfl, ?_⟩) hHeld ?_
    · intro w' hSw
      obtain ⟨y1, y3, y5, y6, y7⟩ := hSw
      go_simp
    simp only [Act.put, List.setIfInBounds_toArray, List.set_cons_zero, List.set_cons_succ]
    refine wpAnyH_take (i := 13) (oi := { dst := some 28, op := Op.nilCheck (Operand.tmp 27), type := 0, pos := "ref.go:224", after := #[{ on := 12, ground := Ground.data }], guard := none }) (v := .pointer (some ⟨rb, 0, none⟩)) rfl (by kernel_rfl) (by kernel_rfl) (by kernel_rfl) (fun _ _ _ h => h) (Or.inl ⟨by rfl, ?_⟩) hHeld ?_
    · intro w' hSw
      obtain ⟨y1, y3, y5, y6, y7⟩ := hSw
      go_simp
    simp only [Act.put, List.setIfInBounds_toArray, List.set_cons_zero, List.set_cons_succ]
    refine wpAnyH_take (i := 14) (oi := { dst := some 29, op := Op.fieldAddr 75 (Operand.tmp 28) 3, type := 0, pos := "ref.go:224", after := #[{ on := 13, ground := Ground.data }], guard := none }) (v := .pointer (some ⟨rb, 3, none⟩)) rfl (by kernel_rfl) (by kernel_rfl) (by kernel_rfl) (fun _ _ _ h => h) (Or.inl ⟨by rfl, ?_⟩) hHeld ?_
    · intro w' hSw
      obtain ⟨y1, y3, y5, y6, y7⟩ := hSw
      go_simp
    simp only [Act.put, List.setIfInBounds_toArray, List.set_cons_zero, List.set_cons_succ]
    refine wpAnyH_take (i := 15) (oi := { dst := some 30, op := Op.load 4 (Operand.tmp 29), type := 4, pos := "ref.go:224", after := #[{ on := 14, ground := Ground.data }], guard := none }) (v := .bool en) rfl (by kernel_rfl) (by kernel_rfl) (by kernel_rfl) (fun _ _ _ h => h) (Or.inl ⟨by rfl, ?_⟩) hHeld ?_
    · intro w' hSw
      obtain ⟨y1, y3, y5, y6, y7⟩ := hSw
      go_simp
    simp only [Act.put, List.setIfInBounds_toArray, List.set_cons_zero, List.set_cons_succ]
    refine wpAnyH_take (i := 16) (oi := { dst := some 31, op := Op.move (Operand.tmp 0), type := 28, pos := "ref.go:224", after := #[], guard := none }) (v := ptr rb) rfl (by kernel_rfl) (by kernel_rfl) (by kernel_rfl) (fun _ _ _ h => h) (Or.inl ⟨by rfl, ?_⟩) hHeld ?_
    · intro w' hSw
      obtain ⟨y1, y3, y5, y6, y7⟩ := hSw
      go_simp
    simp only [Act.put, List.setIfInBounds_toArray, List.set_cons_zero, List.set_cons_succ]
    refine wpAnyH_take (i := 17) (oi := { dst := some 32, op := Op.nilCheck (Operand.tmp 31), type := 0, pos := "ref.go:224", after := #[{ on := 16, ground := Ground.data }], guard := none }) (v := .pointer (some ⟨rb, 0, none⟩)) rfl (by kernel_rfl) (by kernel_rfl) (by kernel_rfl) (fun _ _ _ h => h) (Or.inl ⟨by rfl, ?_⟩) hHeld ?_
    · intro w' hSw
      obtain ⟨y1, y3, y5, y6, y7⟩ := hSw
      go_simp
    simp only [Act.put, List.setIfInBounds_toArray, List.set_cons_zero, List.set_cons_succ]
    refine wpAnyH_take (i := 18) (oi := { dst := some 33, op := Op.fieldAddr 75 (Operand.tmp 32) 6, type := 0, pos := "ref.go:224", after := #[{ on := 17, ground := Ground.data }], guard := none }) (v := .pointer (some ⟨rb, 6, none⟩)) rfl (by kernel_rfl) (by kernel_rfl) (by kernel_rfl) (fun _ _ _ h => h) (Or.inl ⟨by rfl, ?_⟩) hHeld ?_
    · intro w' hSw
      obtain ⟨y1, y3, y5, y6, y7⟩ := hSw
      go_simp
    simp only [Act.put, List.setIfInBounds_toArray, List.set_cons_zero, List.set_cons_succ]
    refine wpAnyH_take (i := 19) (oi := { dst := some 34, op := Op.load 3 (Operand.tmp 33), type := 3, pos := "ref.go:224", after := #[{ on := 18, ground := Ground.data }], guard := none }) (v := .int .i64 1) rfl (by kernel_rfl) (by kernel_rfl) (by kernel_rfl) (fun _ _ _ h => h) (Or.inl ⟨by rfl, ?_⟩) hHeld ?_
    · intro w' hSw
      obtain ⟨y1, y3, y5, y6, y7⟩ := hSw
      go_simp
    simp only [Act.put, List.setIfInBounds_toArray, List.set_cons_zero, List.set_cons_succ]
    refine wpAnyH_take (i := 20) (oi := { dst := some 35, op := Op.binOp BinOp.eql 3 (Operand.tmp 34) (Operand.const (Value.int IntKind.i64 1)) 3, type := 4, pos := "ref.go:224", after := #[{ on := 19, ground := Ground.data }], guard := none }) (v := .bool true) rfl (by kernel_rfl) (by kernel_rfl) (by kernel_rfl) (fun _ _ _ h => h) (Or.inl ⟨by rfl, ?_⟩) hHeld ?_
    · intro w' hSw
      obtain ⟨y1, y3, y5, y6, y7⟩ := hSw
      go_simp
    simp only [Act.put, List.setIfInBounds_toArray, List.set_cons_zero, List.set_cons_succ]
    refine wpAnyH_take (i := 21) (oi := { dst := some 36, op := Op.move (Operand.tmp 35), type := 4, pos := "ref.go:224", after := #[{ on := 20, ground := Ground.data }], guard := none }) (v := .bool true) rfl (by kernel_rfl) (by kernel_rfl) (by kernel_rfl) (fun _ _ _ h => h) (Or.inl ⟨by rfl, ?_⟩) hHeld ?_
    · intro w' hSw
      obtain ⟨y1, y3, y5, y6, y7⟩ := hSw
      go_simp
    simp only [Act.put, List.setIfInBounds_toArray, List.set_cons_zero, List.set_cons_succ]
    refine wpAnyH_take (i := 22) (oi := { dst := some 37, op := Op.move (Operand.tmp 0), type := 28, pos := "ref.go:224", after := #[{ on := 21, ground := Ground.guard }], guard := some (21, false) }) (v := undef) rfl (by kernel_rfl) (by kernel_rfl) (by kernel_rfl) (fun _ _ _ h => h) (Or.inr ⟨by rfl, rfl⟩) hHeld ?_
    simp only [Act.put, List.setIfInBounds_toArray, List.set_cons_zero, List.set_cons_succ]
    refine wpAnyH_take (i := 23) (oi := { dst := some 38, op := Op.nilCheck (Operand.tmp 37), type := 0, pos := "ref.go:224", after := #[{ on := 22, ground := Ground.data }, { on := 21, ground := Ground.guard }], guard := some (21, false) }) (v := undef) rfl (by kernel_rfl) (by kernel_rfl) (by kernel_rfl) (fun _ _ _ h => h) (Or.inr ⟨by rfl, rfl⟩) hHeld ?_
    simp only [Act.put, List.setIfInBounds_toArray, List.set_cons_zero, List.set_cons_succ]
    refine wpAnyH_take (i := 24) (oi := { dst := some 39, op := Op.fieldAddr 75 (Operand.tmp 38) 6, type := 0, pos := "ref.go:224", after := #[{ on := 23, ground := Ground.data }, { on := 21, ground := Ground.guard }], guard := some (21, false) }) (v := undef) rfl (by kernel_rfl) (by kernel_rfl) (by kernel_rfl) (fun _ _ _ h => h) (Or.inr ⟨by rfl, rfl⟩) hHeld ?_
    simp only [Act.put, List.setIfInBounds_toArray, List.set_cons_zero, List.set_cons_succ]
    refine wpAnyH_take (i := 25) (oi := { dst := some 40, op := Op.load 3 (Operand.tmp 39), type := 3, pos := "ref.go:224", after := #[{ on := 24, ground := Ground.data }, { on := 21, ground := Ground.guard }], guard := some (21, false) }) (v := undef) rfl (by kernel_rfl) (by kernel_rfl) (by kernel_rfl) (fun _ _ _ h => h) (Or.inr ⟨by rfl, rfl⟩) hHeld ?_
    simp only [Act.put, List.setIfInBounds_toArray, List.set_cons_zero, List.set_cons_succ]
    refine wpAnyH_take (i := 26) (oi := { dst := some 41, op := Op.binOp BinOp.eql 3 (Operand.tmp 40) (Operand.const (Value.int IntKind.i64 3)) 3, type := 4, pos := "ref.go:224", after := #[{ on := 25, ground := Ground.data }, { on := 21, ground := Ground.guard }], guard := some (21, false) }) (v := undef) rfl (by kernel_rfl) (by kernel_rfl) (by kernel_rfl) (fun _ _ _ h => h) (Or.inr ⟨by rfl, rfl⟩) hHeld ?_
    simp only [Act.put, List.setIfInBounds_toArray, List.set_cons_zero, List.set_cons_succ]
    refine wpAnyH_take (i := 27) (oi := { dst := some 42, op := Op.pick (Operand.tmp 36) (Operand.const (Value.bool true)) (Operand.tmp 41), type := 4, pos := "ref.go:224", after := #[{ on := 21, ground := Ground.data }, { on := 26, ground := Ground.data }], guard := none }) (v := .bool true) rfl (by kernel_rfl) (by kernel_rfl) (by kernel_rfl) (fun _ _ _ h => h) (Or.inl ⟨by rfl, ?_⟩) hHeld ?_
    · intro w' hSw
      obtain ⟨y1, y3, y5, y6, y7⟩ := hSw
      go_simp
    simp only [Act.put, List.setIfInBounds_toArray, List.set_cons_zero, List.set_cons_succ]
    refine wpAnyH_take (i := 28) (oi := { dst := some 43, op := Op.move (Operand.tmp 0), type := 28, pos := "ref.go:224", after := #[], guard := none }) (v := ptr rb) rfl (by kernel_rfl) (by kernel_rfl) (by kernel_rfl) (fun _ _ _ h => h) (Or.inl ⟨by rfl, ?_⟩) hHeld ?_
    · intro w' hSw
      obtain ⟨y1, y3, y5, y6, y7⟩ := hSw
      go_simp
    simp only [Act.put, List.setIfInBounds_toArray, List.set_cons_zero, List.set_cons_succ]
    refine wpAnyH_take (i := 29) (oi := { dst := some 44, op := Op.nilCheck (Operand.tmp 43), type := 0, pos := "ref.go:224", after := #[{ on := 28, ground := Ground.data }], guard := none }) (v := .pointer (some ⟨rb, 0, none⟩)) rfl (by kernel_rfl) (by kernel_rfl) (by kernel_rfl) (fun _ _ _ h => h) (Or.inl ⟨by rfl, ?_⟩) hHeld ?_
    · intro w' hSw
      obtain ⟨y1, y3, y5, y6, y7⟩ := hSw
      go_simp
    simp only [Act.put, List.setIfInBounds_toArray, List.set_cons_zero, List.set_cons_succ]
    refine wpAnyH_take (i := 30) (oi := { dst := some 45, op := Op.fieldAddr 75 (Operand.tmp 44) 6, type := 0, pos := "ref.go:224", after := #[{ on := 29, ground := Ground.data }], guard := none }) (v := .pointer (some ⟨rb, 6, none⟩)) rfl (by kernel_rfl) (by kernel_rfl) (by kernel_rfl) (fun _ _ _ h => h) (Or.inl ⟨by rfl, ?_⟩) hHeld ?_
    · intro w' hSw
      obtain ⟨y1, y3, y5, y6, y7⟩ := hSw
      go_simp
    simp only [Act.put, List.setIfInBounds_toArray, List.set_cons_zero, List.set_cons_succ]
    refine wpAnyH_take (i := 31) (oi := { dst := some 46, op := Op.load 3 (Operand.tmp 45), type := 3, pos := "ref.go:224", after := #[{ on := 30, ground := Ground.data }], guard := none }) (v := .int .i64 1) rfl (by kernel_rfl) (by kernel_rfl) (by kernel_rfl) (fun _ _ _ h => h) (Or.inl ⟨by rfl, ?_⟩) hHeld ?_
    · intro w' hSw
      obtain ⟨y1, y3, y5, y6, y7⟩ := hSw
      go_simp
    simp only [Act.put, List.setIfInBounds_toArray, List.set_cons_zero, List.set_cons_succ]
    refine wpAnyH_take (i := 32) (oi := { dst := some 47, op := Op.binOp BinOp.eql 3 (Operand.tmp 46) (Operand.const (Value.int IntKind.i64 3)) 3, type := 4, pos := "ref.go:224", after := #[{ on := 31, ground := Ground.data }], guard := none }) (v := .bool false) rfl (by kernel_rfl) (by kernel_rfl) (by kernel_rfl) (fun _ _ _ h => h) (Or.inl ⟨by rfl, ?_⟩) hHeld ?_
    · intro w' hSw
      obtain ⟨y1, y3, y5, y6, y7⟩ := hSw
      go_simp
    simp only [Act.put, List.setIfInBounds_toArray, List.set_cons_zero, List.set_cons_succ]
    refine wpAnyH_take (i := 33) (oi := { dst := some 48, op := Op.move (Operand.tmp 0), type := 28, pos := "ref.go:224", after := #[], guard := none }) (v := ptr rb) rfl (by kernel_rfl) (by kernel_rfl) (by kernel_rfl) (fun _ _ _ h => h) (Or.inl ⟨by rfl, ?_⟩) hHeld ?_
    · intro w' hSw
      obtain ⟨y1, y3, y5, y6, y7⟩ := hSw
      go_simp
    simp only [Act.put, List.setIfInBounds_toArray, List.set_cons_zero, List.set_cons_succ]
    refine wpAnyH_take (i := 34) (oi := { dst := some 49, op := Op.nilCheck (Operand.tmp 48), type := 0, pos := "ref.go:224", after := #[{ on := 33, ground := Ground.data }], guard := none }) (v := .pointer (some ⟨rb, 0, none⟩)) rfl (by kernel_rfl) (by kernel_rfl) (by kernel_rfl) (fun _ _ _ h => h) (Or.inl ⟨by rfl, ?_⟩) hHeld ?_
    · intro w' hSw
      obtain ⟨y1, y3, y5, y6, y7⟩ := hSw
      go_simp
    simp only [Act.put, List.setIfInBounds_toArray, List.set_cons_zero, List.set_cons_succ]
    refine wpAnyH_take (i := 35) (oi := { dst := some 50, op := Op.fieldAddr 75 (Operand.tmp 49) 5, type := 0, pos := "ref.go:224", after := #[{ on := 34, ground := Ground.data }], guard := none }) (v := .pointer (some ⟨rb, 5, none⟩)) rfl (by kernel_rfl) (by kernel_rfl) (by kernel_rfl) (fun _ _ _ h => h) (Or.inl ⟨by rfl, ?_⟩) hHeld ?_
    · intro w' hSw
      obtain ⟨y1, y3, y5, y6, y7⟩ := hSw
      go_simp
    simp only [Act.put, List.setIfInBounds_toArray, List.set_cons_zero, List.set_cons_succ]
    refine wpAnyH_take (i := 36) (oi := { dst := some 51, op := Op.load 4 (Operand.tmp 50), type := 4, pos := "ref.go:224", after := #[{ on := 35, ground := Ground.data }], guard := none }) (v := .bool st) rfl (by kernel_rfl) (by kernel_rfl) (by kernel_rfl) (fun _ _ _ h => h) (Or.inl ⟨by rfl, ?_⟩) hHeld ?_
    · intro w' hSw
      obtain ⟨y1, y3, y5, y6, y7⟩ := hSw
      go_simp
    simp only [Act.put, List.setIfInBounds_toArray, List.set_cons_zero, List.set_cons_succ]
    refine wpAnyH_take (i := 37) (oi := { dst := some 52, op := Op.move (Operand.tmp 6), type := 4, pos := "ref.go:224", after := #[], guard := none }) (v := .bool dn) rfl (by kernel_rfl) (by kernel_rfl) (by kernel_rfl) (fun _ _ _ h => h) (Or.inl ⟨by rfl, ?_⟩) hHeld ?_
    · intro w' hSw
      obtain ⟨y1, y3, y5, y6, y7⟩ := hSw
      go_simp
    simp only [Act.put, List.setIfInBounds_toArray, List.set_cons_zero, List.set_cons_succ]
    refine wpAnyH_take (i := 38) (oi := { dst := some 53, op := Op.build 36 #[(0, Operand.tmp 19), (1, Operand.tmp 23), (2, Operand.tmp 24), (3, Operand.tmp 25), (4, Operand.tmp 26), (5, Operand.tmp 30), (6, Operand.tmp 42), (7, Operand.tmp 47), (8, Operand.tmp 51), (9, Operand.tmp 52)], type := 36, pos := "ref.go:224", after := #[{ on := 4, ground := Ground.data }, { on := 8, ground := Ground.data }, { on := 9, ground := Ground.data }, { on := 10, ground := Ground.data }, { on := 11, ground := Ground.data }, { on := 15, ground := Ground.data }, { on := 27, ground := Ground.data }, { on := 32, ground := Ground.data }, { on := 36, ground := Ground.data }, { on := 37, ground := Ground.data }], guard := none }) (v := .agg #[.int .i64 (N : Int), .int .i64 sn, .int .i64 bs, .slice a1 S.A.length c1, .slice a2 S.L.length c2, .bool en, .bool true, .bool false, .bool st, .bool dn]) rfl (by kernel_rfl) (by kernel_rfl) (by kernel_rfl) (fun _ _ _ h => h) (Or.inl ⟨by rfl, ?_⟩) hHeld ?_
    · intro w' hSw
      obtain ⟨y1, y3, y5, y6, y7⟩ := hSw
      go_simp
    simp only [Act.put, List.setIfInBounds_toArray, List.set_cons_zero, List.set_cons_succ]
    refine wpAnyH_ready (rs := [39]) (by kernel_rfl) (by simp) ?_
    refine AllReadyH.cons rfl (fun KH hKH => ?_) AllReadyH.nil
    refine step_store_row rfl _ _ _ rfl r #[.int .i64 (N : Int), .int .i64 sn, .int .i64 bs, .slice a1 S.A.length c1, .slice a2 S.L.length c2, .bool en, .bool true, .bool false, .bool st, .bool dn] view0 rfl rfl 36 (unhide XB).drew Try.sizeV rfl (by simp [Value.oneCell']) ?_
    refine hKH.out _ _ hSF (fun hHeld2 => ?_)
    clear hKH KH
    simp only [Act.put]
    refine wpAnyH_done (by kernel_rfl) ?_ _
    clear x1 x3 x5 x6 x7
    have FF1 := (unhide XB).drew.row #[.int .i64 (N : Int), .int .i64 sn, .int .i64 bs, .slice a1 S.A.length c1, .slice a2 S.L.length c2, .bool en, .bool true, .bool false, .bool st, .bool dn]
    have FF2 := grown_setRow Z2.drew r #[.int .i64 (N : Int), .int .i64 sn, .int .i64 bs, .slice a1 S.A.length c1, .slice a2 S.L.length c2, .bool en, .bool true, .bool false, .bool st, .bool dn]
    have w9 : Z2.grownBy (Z2.drew.setRow r #[.int .i64 (N : Int), .int .i64 sn, .int .i64 bs, .slice a1 S.A.length c1, .slice a2 S.L.length c2, .bool en, .bool true, .bool false, .bool st, .bool dn]) (some r) := ⟨FF2.os, FF2.tape, FF2.output, FF2.size, FF2.block⟩
    obtain ⟨w1, w2, w3, w4, w5, w6⟩ := unhide FIN _ w9
    go_wp2_with fail
    refine bodyPost_ret (results_cell_row rfl _ _ r 36 _ (0, 0) _ rfl FF1 Try.underlying36 rfl Try.sizeV) rfl ?_
    exact ⟨_, _, by rw [unhide HV]; simp [*], w1, w2, w3, w4, w5, w6⟩
  · by_cases hf3 : ff = 3
    · have q1 := beq_no hf1
      have q3 := beq_yes hf3
      clear hf1 hf3
      go_upto_region 5 with fail
      go_region_held3 (fun Z => Z.cell? ⟨rb, 1, none⟩ = some (.slice ta N tc) ∧ Z.cell? ⟨rb, 3, none⟩ = some (.bool en) ∧ Z.cell? ⟨rb, 5, none⟩ = some (.bool st) ∧ Z.cell? ⟨rb, 6, none⟩ = some (.int .i64 ff) ∧ Z.cell? ⟨rb, 7, none⟩ = some (.int .i64 sn)) (go_keep) (fail)
      clear z0 z1 z2 z3 z4 z5 z6 z7 z8 z9 x1 x3 x5 x6 x7
      go_wp2_with fail
      obtain ⟨w7, w8⟩ := put10_blk (unhide XB) (.int .i64 (N : Int)) (.int .i64 sn) (.int .i64 bs) (.slice a1 S.A.length c1) (.slice a2 S.L.length c2) (.bool en) (.bool true) (.bool true) (.bool st) (.bool dn)
      have w9 : Z2.grownBy (put10 Z2 r (.int .i64 (N : Int)) (.int .i64 sn) (.int .i64 bs) (.slice a1 S.A.length c1) (.slice a2 S.L.length c2) (.bool en) (.bool true) (.bool true) (.bool st) (.bool dn)).drew (some r) := gr_todrew w8
      obtain ⟨w1, w2, w3, w4, w5, w6⟩ := unhide FIN _ w9
      refine bodyPost_ret (results_cell_row rfl _ _ r 36 _ (0, 0) _ rfl w7.drew Try.underlying36 rfl Try.sizeV) rfl ?_
      exact ⟨_, _, by rw [unhide HV]; simp [*], w1, w2, w3, w4, w5, w6⟩
    · have q1 := beq_no hf1
      have q3 := beq_no hf3
      clear hf1 hf3
      go_upto_region 5 with fail
      go_region_held3 (fun Z => Z.cell? ⟨rb, 1, none⟩ = some (.slice ta N tc) ∧ Z.cell? ⟨rb, 3, none⟩ = some (.bool en) ∧ Z.cell? ⟨rb, 5, none⟩ = some (.bool st) ∧ Z.cell? ⟨rb, 6, none⟩ = some (.int .i64 ff) ∧ Z.cell? ⟨rb, 7, none⟩ = some (.int .i64 sn)) (go_keep) (fail)
      clear z0 z1 z2 z3 z4 z5 z6 z7 z8 z9 x1 x3 x5 x6 x7
      go_wp2_with fail
      obtain ⟨w7, w8⟩ := put10_blk (unhide XB) (.int .i64 (N : Int)) (.int .i64 sn) (.int .i64 bs) (.slice a1 S.A.length c1) (.slice a2 S.L.length c2) (.bool en) (.bool false) (.bool false) (.bool st) (.bool dn)
      have w9 : Z2.grownBy (put10 Z2 r (.int .i64 (N : Int)) (.int .i64 sn) (.int .i64 bs) (.slice a1 S.A.length c1) (.slice a2 S.L.length c2) (.bool en) (.bool false) (.bool false) (.bool st) (.bool dn)).drew (some r) := gr_todrew w8
      obtain ⟨w1, w2, w3, w4, w5, w6⟩ := unhide FIN _ w9
      refine bodyPost_ret (results_cell_row rfl _ _ r 36 _ (0, 0) _ rfl w7.drew Try.underlying36 rfl Try.sizeV) rfl ?_
      exact ⟨_, _, by rw [unhide HV]; simp [*], w1, w2, w3, w4, w5, w6⟩
end
end Go.Proofs.Ytdalekjpjnhboaa

namespace Go.Proofs.Ytdalekjpjnhboaa
open Go.RowKit
set_option linter.unusedVariables false
set_option maxHeartbeats 4000000
set_option maxRecDepth 100000

section
variable {n0 : Nat} {X Y : World} {rb : Nat} {vt vi : Value} {S : Sd}

theorem losesR (h : RS n0 X rb vt vi S) (hok : SdOk S) (hbig : wr S ≤ 1000000000000) (off size : Int) (fin : Bool) (ho : -9223372036854775808 ≤ off ∧ off ≤ 9223372036854775807) (hz : -9223372036854775808 ≤ size ∧ size ≤ 9223372036854775807) :
    Calls Try.prog 34 #[ptr rb, .int .i64 off, .int .i64 size, .bool fin] X fun e Y => e = .returned (.tuple #[]) ∧ RS n0 Y rb vt vi (lostS S off size fin) ∧ Kp (Rm rb vt vi) X Y := by
  have c5 : X.cell? ⟨rb, 5, none⟩ = some (.bool S.stopped) := h.cells.2.2.2.2.2.1
  cases hs : S.stopped with
  | true =>
    rw [hs] at c5
    have H : Hid (RS n0 X rb vt vi (lostS S off size fin)) := by unfold lostS; rw [if_pos hs]; exact h
    clear h hs
    go_enter Try.func34, Try.ntmps34
    go_wp2
    all_goals refine bodyPost_ret (results_none rfl _ _ _) rfl ?_
    all_goals exact ⟨rfl, unhide H, Kp.refl _ _⟩
  | false =>
    rw [hs] at c5
    have hb0 := hok.b0; have hbs := hok.bs; have hsw := hok.sw
    have hwr : wr S = (S.T.length : Int) := rfl
    obtain ⟨n, hn⟩ : ∃ n : Nat, S.sent = (n : Int) := ⟨S.sent.toNat, by omega⟩
    have hnN : n ≤ S.T.length := by omega
    obtain ⟨f, hfd⟩ : ∃ f : Nat → Int → Int, f = fun x v => if isB off size x = true ∧ v ≠ 3 then 2 else v := ⟨_, rfl⟩
    have HF := hide hfd
    have I0 : Hid (RW n0 X rb vt vi (rsOf S) f S 0 X) := ⟨h, Kp.refl _ _⟩
    have FIN : Hid (∀ Z, RW n0 X rb vt vi (rsOf S) f S n Z → RF n0 Z rb vt vi { rsOf S with J := isL (lostS S off size fin) } ∧ Kp (Rm rb vt vi) X Z) := fun Z hZ => by
      refine ⟨?_, hZ.2⟩
      have := hZ.1
      rw [updL_is (S' := lostS S off size fin) n (by rw [lostS_run hs]; rfl) fun x hx => ?_] at this
      · exact this
      · rw [isAt_lost hok hbig hs off size fin x, hfd]
        show _ = if x < n then (if isB off size x = true ∧ isAt S (x : Int) ≠ 3 then 2 else isAt S (x : Int)) else isAt S (x : Int)
        by_cases c : x < n
        · rw [if_pos c]
          by_cases q : isB off size x = true ∧ isAt S (x : Int) ≠ 3
          · rw [if_pos ⟨by omega, q⟩, if_pos q]
          · rw [if_neg (fun z => q z.2), if_neg q]
        · rw [if_neg c, if_neg (fun z => c (by have := z.1; omega))]
    have ACK : Hid (lostS S off size fin = lostG S (ofS S off size) fin) := lostS_run hs
    have hnb : n ≤ 1000000000000 := by omega
    have HN := hide hn
    clear h hok hb0 hbs hsw hwr hbig hfd
    go_enter Try.func34, Try.ntmps34
    go_wp2
    clear c5
    go_loopw [8] (fun i Z => ∃ k : Nat, k ≤ n ∧ i = .int .i64 (k : Int) ∧ Hid (RW n0 X rb vt vi (rsOf S) f S k Z)) (fun i _ => n - (intOf i).toNat)
    case atStart => exact ⟨0, Nat.zero_le _, rfl, I0⟩
    case round =>
      clear I0
      obtain ⟨k, hk, rfl, I⟩ := hrel
      obtain ⟨Z, hZ⟩ : ∃ Z, Z = wr := ⟨_, rfl⟩
      subst hZ
      have c7 : Z.cell? ⟨rb, 7, none⟩ = some (.int .i64 (n : Int)) := by rw [← unhide HN]; exact (unhide I).1.cells.2.2.2.2.2.2.2
      by_cases hlt : k < n
      · obtain ⟨g, c, rfl, hc, hf, hx⟩ := (unhide I).row (k := k) (by omega)
        have c2 : Z.cell? ⟨rb, 2, none⟩ = some (.slice (some ⟨g, 0, none⟩) S.T.length c) := (unhide I).1.cells.2.2.1
        have hget := isL_get S k (by omega)
        have hkn : (k : Int) < (n : Int) := by omega
        have hk0 : (0 : Int) ≤ (k : Int) := by omega
        have hkT : (k : Int) < (S.T.length : Int) := by omega
        by_cases hs0 : 0 < size
        · have hs0d : decide (0 < size) = true := decide_eq_true hs0
          have hm := meantR (k : Int) off size Z (by omega) (by omega)
          have eB : isB off size k = meantB (k : Int) off size := by unfold isB; rw [hs0d]; rfl
          cases hB : meantB (k : Int) off size with
          | true =>
            rw [hB] at hm eB
            by_cases h3 : isAt S (k : Int) = 3
            · have NX := hide ((unhide I).skip _ hget (by rw [unhide HF]; simp [h3]))
              have h3b : (isAt S (k : Int) != 3) = false := by simp [h3]
              clear hget I eB hB FIN
              have HLT := hide hlt
              clear hlt hk h3
              generalize isAt S (k : Int) = v at *
              go_wp2_with fail
              refine hm.mono ?_
              rintro e Z' ⟨rfl, hZ'⟩
              subst Z'
              clear hm
              go_wp2
              exact ⟨⟨k + 1, unhide HLT, by go_num, NX⟩, by simp [intOf]; have := unhide HLT; omega⟩
            · have NX := hide ((unhide I).step _ 2 hget (by rw [unhide HF]; simp [h3, eB]))
              have h3b : (isAt S (k : Int) != 3) = true := by simp [h3]
              clear hget I eB hB FIN
              have HLT := hide hlt
              clear hlt hk h3
              generalize isAt S (k : Int) = v at *
              go_wp2_with fail
              refine hm.mono ?_
              rintro e Z' ⟨rfl, hZ'⟩
              subst Z'
              clear hm
              go_wp2
              exact ⟨⟨k + 1, unhide HLT, by go_num, NX⟩, by simp [intOf]; have := unhide HLT; omega⟩
          | false =>
            rw [hB] at hm eB
            have NX := hide ((unhide I).skip _ hget (by rw [unhide HF]; simp [eB]))
            clear hget I eB hB FIN
            have HLT := hide hlt
            clear hlt hk
            generalize isAt S (k : Int) = v at *
            go_wp2_with fail
            refine hm.mono ?_
            rintro e Z' ⟨rfl, hZ'⟩
            subst Z'
            clear hm
            go_wp2
            exact ⟨⟨k + 1, unhide HLT, by go_num, NX⟩, by simp [intOf]; have := unhide HLT; omega⟩
        · have hs0d : decide (0 < size) = false := decide_eq_false hs0
          have eB : isB off size k = false := by unfold isB; rw [hs0d]; rfl
          have NX := hide ((unhide I).skip _ hget (by rw [unhide HF]; simp [eB]))
          clear hget I eB FIN
          have HLT := hide hlt
          clear hlt hk
          generalize isAt S (k : Int) = v at *
          go_wp2
          exact ⟨⟨k + 1, unhide HLT, by go_num, NX⟩, by simp [intOf]; have := unhide HLT; omega⟩
      · obtain rfl : k = n := by omega
        have hno : ¬ (k : Int) < (k : Int) := by omega
        obtain ⟨hF, hK⟩ := unhide FIN Z (unhide I)
        have f6 := hF.blk.thaw 6
        have c6 : Z.cell? ⟨rb, 6, none⟩ = some (.int .i64 S.fin) := hF.cells.2.2.2.2.2.2.1
        by_cases hfin : fin = true ∧ S.fin = 1
        · have hR : RS n0 (Z.setCell ⟨rb, 6, none⟩ (.int .i64 2)) rb vt vi (lostS S off size fin) := by
            have := hF.put (R' := { rsOf S with J := isL (lostS S off size fin), fin := 2 }) 6 (.int .i64 2) rfl rfl rfl
            have e : rsOf (lostS S off size fin) = { rsOf S with J := isL (lostS S off size fin), fin := 2 } := by
              have e1 : (lostS S off size fin).fin = 2 := by rw [unhide ACK]; show (if fin = true ∧ S.fin = 1 then 2 else S.fin) = 2; rw [if_pos hfin]
              unfold rsOf
              rw [e1, unhide ACK]
              simp [hfin.2, lostG]
            show RF n0 _ rb vt vi (rsOf (lostS S off size fin))
            rw [e]
            exact this
          have HR := hide hR
          have HK : Hid (Kp (Rm rb vt vi) X (Z.setCell ⟨rb, 6, none⟩ (.int .i64 2))) := hK.set rb 6 _ (fun _ => .inl rfl)
          obtain ⟨rfl, hf0⟩ := hfin
          have hf0d := beq_yes hf0
          clear hF hK hR FIN I ACK hf0 HN hn
          generalize S.fin = fz at *
          go_wp2
          all_goals refine bodyPost_end (results_none rfl _ _ _) rfl ?_
          all_goals exact ⟨rfl, unhide HR, unhide HK⟩
        · have hR : RS n0 Z rb vt vi (lostS S off size fin) := by
            have e : rsOf (lostS S off size fin) = { rsOf S with J := isL (lostS S off size fin) } := by
              have e1 : (lostS S off size fin).fin = S.fin := by rw [unhide ACK]; show (if fin = true ∧ S.fin = 1 then 2 else S.fin) = S.fin; rw [if_neg hfin]
              unfold rsOf
              rw [e1, unhide ACK]
              simp [lostG]
            show RF n0 _ rb vt vi (rsOf (lostS S off size fin))
            rw [e]
            exact hF
          have HR := hide hR
          have HK := hide hK
          clear hF hK hR FIN I ACK HN hn f6
          cases fin with
          | false =>
            go_wp2
            all_goals refine bodyPost_end (results_none rfl _ _ _) rfl ?_
            all_goals exact ⟨rfl, unhide HR, unhide HK⟩
          | true =>
            have hf0d := beq_no (fun z => hfin ⟨rfl, z⟩)
            clear hfin
            generalize S.fin = fz at *
            go_wp2
            all_goals refine bodyPost_end (results_none rfl _ _ _) rfl ?_
            all_goals exact ⟨rfl, unhide HR, unhide HK⟩

theorem stopR (h : RS n0 X rb vt vi S) (hok : SdOk S) (hbig : wr S ≤ 1000000000000) :
    Calls Try.prog 35 #[ptr rb] X fun e Y => e = .returned (.tuple #[]) ∧ RS n0 Y rb vt vi (if S.stopped = true then S else stopS S) ∧ Kp (Rm rb vt vi) X Y := by
  have c5 : X.cell? ⟨rb, 5, none⟩ = some (.bool S.stopped) := h.cells.2.2.2.2.2.1
  have hd := doneR h hok hbig
  cases hdn : doneB S with
  | true =>
    rw [hdn] at hd
    have H := hide h
    have eS : (if S.stopped = true then S else stopS S) = S := by unfold stopS; rw [if_pos hdn]; simp
    rw [eS]
    clear h hdn eS
    generalize S.stopped = st at *
    go_enter Try.func35, Try.ntmps35
    go_wp2_with fail
    refine hd.mono ?_
    rintro e Y ⟨rfl, hY⟩
    subst hY
    clear hd
    go_wp2
    all_goals refine bodyPost_ret (results_none rfl _ _ _) rfl ?_
    all_goals exact ⟨rfl, unhide H, Kp.refl _ _⟩
  | false =>
    rw [hdn] at hd
    cases hs : S.stopped with
    | true =>
      rw [hs] at c5
      have H : Hid (RS n0 X rb vt vi (if true = true then S else stopS S)) := by simp; exact h
      clear h hdn hs
      go_enter Try.func35, Try.ntmps35
      go_wp2_with fail
      refine hd.mono ?_
      rintro e Y ⟨rfl, hY⟩
      subst hY
      clear hd
      go_wp2
      all_goals refine bodyPost_ret (results_none rfl _ _ _) rfl ?_
      all_goals exact ⟨rfl, unhide H, Kp.refl _ _⟩
    | false =>
      rw [hs] at c5
      have eS : (if false = true then S else stopS S) = stopG S := by unfold stopS; rw [if_neg (by simp), if_neg (by rw [hdn]; simp)]
      rw [eS]
      have hb0 := hok.b0; have hbs := hok.bs; have hsw := hok.sw
      have hwr : wr S = (S.T.length : Int) := rfl
      obtain ⟨n, hn⟩ : ∃ n : Nat, S.sent = (n : Int) := ⟨S.sent.toNat, by omega⟩
      have hnN : n ≤ S.T.length := by omega
      obtain ⟨f, hfd⟩ : ∃ f : Nat → Int → Int, f = fun x v => if v = 2 then 1 else v := ⟨_, rfl⟩
      have HF := hide hfd
      have f5 := h.blk.thaw 5
      have I0 : Hid (RW n0 X rb vt vi { rsOf S with stopped := true } f S 0 (X.setCell ⟨rb, 5, none⟩ (.bool true))) := ⟨h.put 5 _ rfl rfl rfl, (Kp.refl _ X).set rb 5 _ (fun _ => .inl rfl)⟩
      have FIN : Hid (∀ Z, RW n0 X rb vt vi { rsOf S with stopped := true } f S n Z → RF n0 Z rb vt vi { rsOf S with stopped := true, J := isL (stopG S) } ∧ Kp (Rm rb vt vi) X Z) := fun Z hZ => by
        refine ⟨?_, hZ.2⟩
        have := hZ.1
        rw [updL_is (S := S) (S' := stopG S) n rfl fun x hx => ?_] at this
        · exact this
        · rw [isAt_stop x, hfd]
          show _ = if x < n then (if isAt S (x : Int) = 2 then 1 else isAt S (x : Int)) else isAt S (x : Int)
          by_cases c : x < n
          · rw [if_pos c]
            by_cases q : isAt S (x : Int) = 2
            · rw [if_pos ⟨by omega, q⟩, if_pos q]
            · rw [if_neg (fun z => q z.2), if_neg q]
          · rw [if_neg c, if_neg (fun z => c (by have := z.1; omega))]
      have hnb : n ≤ 1000000000000 := by omega
      have HN := hide hn
      clear h hok hb0 hbs hsw hwr hbig hfd hdn eS
      go_enter Try.func35, Try.ntmps35
      go_wp2_with fail
      refine hd.mono ?_
      rintro e Y ⟨rfl, hY⟩
      subst hY
      clear hd
      go_wp2
      clear c5 f5
      go_loopw [3] (fun i Z => ∃ k : Nat, k ≤ n ∧ i = .int .i64 (k : Int) ∧ Hid (RW n0 Y rb vt vi { rsOf S with stopped := true } f S k Z)) (fun i _ => n - (intOf i).toNat)
      case atStart => exact ⟨0, Nat.zero_le _, rfl, I0⟩
      case round =>
        clear I0
        obtain ⟨k, hk, rfl, I⟩ := hrel
        obtain ⟨Z, hZ⟩ : ∃ Z, Z = wr := ⟨_, rfl⟩
        subst hZ
        have c7 : Z.cell? ⟨rb, 7, none⟩ = some (.int .i64 (n : Int)) := by rw [← unhide HN]; exact (unhide I).1.cells.2.2.2.2.2.2.2
        by_cases hlt : k < n
        · obtain ⟨g, c, rfl, hc, hf, hx⟩ := (unhide I).row (k := k) (by omega)
          have c2 : Z.cell? ⟨rb, 2, none⟩ = some (.slice (some ⟨g, 0, none⟩) S.T.length c) := (unhide I).1.cells.2.2.1
          have hget := isL_get S k (by omega)
          have hkn : (k : Int) < (n : Int) := by omega
          have hk0 : (0 : Int) ≤ (k : Int) := by omega
          have hkT : (k : Int) < (S.T.length : Int) := by omega
          by_cases h3 : isAt S (k : Int) = 2
          · have NX := hide ((unhide I).step _ 1 hget (by rw [unhide HF]; simp [h3]))
            have h3b := beq_yes h3
            clear hget I FIN
            have HLT := hide hlt
            clear hlt hk h3
            generalize isAt S (k : Int) = v at *
            go_wp2
            exact ⟨⟨k + 1, unhide HLT, by go_num, NX⟩, by simp [intOf]; have := unhide HLT; omega⟩
          · have NX := hide ((unhide I).skip _ hget (by rw [unhide HF]; simp [h3]))
            have h3b := beq_no h3
            clear hget I FIN
            have HLT := hide hlt
            clear hlt hk h3
            generalize isAt S (k : Int) = v at *
            go_wp2
            exact ⟨⟨k + 1, unhide HLT, by go_num, NX⟩, by simp [intOf]; have := unhide HLT; omega⟩
        · obtain rfl : k = n := by omega
          have hno : ¬ (k : Int) < (k : Int) := by omega
          obtain ⟨hF, hK⟩ := unhide FIN Z (unhide I)
          have f6 := hF.blk.thaw 6
          have c6 : Z.cell? ⟨rb, 6, none⟩ = some (.int .i64 S.fin) := hF.cells.2.2.2.2.2.2.1
          by_cases hfin : S.fin = 2
          · have hR : RS n0 (Z.setCell ⟨rb, 6, none⟩ (.int .i64 1)) rb vt vi (stopG S) := by
              have := hF.put (R' := { rsOf S with stopped := true, J := isL (stopG S), fin := 1 }) 6 (.int .i64 1) rfl rfl rfl
              have e : rsOf (stopG S) = { rsOf S with stopped := true, J := isL (stopG S), fin := 1 } := by
                have e1 : (stopG S).fin = 1 := by show (if S.fin = 2 then 1 else S.fin) = 1; rw [if_pos hfin]
                unfold rsOf
                rw [e1]
                simp [hfin, stopG]
              show RF n0 _ rb vt vi (rsOf (stopG S))
              rw [e]
              exact this
            have HR := hide hR
            have HK : Hid (Kp (Rm rb vt vi) Y (Z.setCell ⟨rb, 6, none⟩ (.int .i64 1))) := hK.set rb 6 _ (fun _ => .inl rfl)
            have hf0d := beq_yes hfin
            clear hF hK hR FIN I HN hn hfin
            generalize S.fin = fz at *
            go_wp2
            all_goals refine bodyPost_end (results_none rfl _ _ _) rfl ?_
            all_goals exact ⟨rfl, unhide HR, unhide HK⟩
          · have hR : RS n0 Z rb vt vi (stopG S) := by
              have e : rsOf (stopG S) = { rsOf S with stopped := true, J := isL (stopG S) } := by
                have e1 : (stopG S).fin = S.fin := by show (if S.fin = 2 then 1 else S.fin) = S.fin; rw [if_neg hfin]
                unfold rsOf
                rw [e1]
                simp [stopG]
              show RF n0 _ rb vt vi (rsOf (stopG S))
              rw [e]
              exact hF
            have HR := hide hR
            have HK := hide hK
            have hf0d := beq_no hfin
            clear hF hK hR FIN I HN hn f6 hfin
            generalize S.fin = fz at *
            go_wp2
            all_goals refine bodyPost_end (results_none rfl _ _ _) rfl ?_
            all_goals exact ⟨rfl, unhide HR, unhide HK⟩
end
end Go.Proofs.Ytdalekjpjnhboaa

namespace Go.Proofs.Ytdalekjpjnhboaa
open Go.RowKit
set_option linter.unusedVariables false
set_option maxHeartbeats 4000000
set_option maxRecDepth 100000

/-- The room behind bytes that are lent is marked. -/
def lentL (p : List Int) (k : Nat) : List Int := p ++ (List.replicate k 201 ++ List.replicate (8 - k) 0)
theorem lentL_len (p : List Int) (k : Nat) (hk : k ≤ 8) : (lentL p k).length = p.length + 8 := by unfold lentL; simp; omega
theorem lentL_set (p : List Int) (k : Nat) (hk : k < 8) : (lentL p k).set (p.length + k) 201 = lentL p (k + 1) := by
  unfold lentL
  rw [List.set_append_right _ _ (by omega), show p.length + k - p.length = k by omega, List.set_append_right _ _ (by simp)]
  have e : 8 - k = (8 - (k + 1)) + 1 := by omega
  rw [List.length_replicate, Nat.sub_self, e, List.replicate_succ, List.set_cons_zero, List.replicate_succ' (n := k)]
  simp
theorem by8_set (l : List Int) (i : Nat) (x : Int) : (by8 l).setIfInBounds i (.int .u8 x) = by8 (l.set i x) := by
  unfold by8
  rw [List.map_set]
  simp

theorem lent_any (X : World) (a : Option Addr) (n c : Nat) (p : List Int) (hp : Rd X a p) (hn : p.length = n) (hb : n ≤ 1000000000) :
    Calls Try.prog 27 #[.slice a n c] X fun e Y => ∃ g, e = .returned (.slice (some ⟨g, 0, none⟩) n (n + 8)) ∧ Blk Y g (by8 (p ++ List.replicate 8 201)) 5 ∧ X.heap.size ≤ g ∧ X.grownBy Y none := by
  have hmk := fun Z => mk_zeros (n + 8) (by omega) Z
  obtain ⟨W0, hW0⟩ : ∃ W0, W0 = X.alloc (.cells (by8 (List.replicate (n + 8) 0)) 5) := ⟨_, rfl⟩
  have g0 : X.grownBy W0 none := by rw [hW0]; exact grown_alloc _ _
  have b0 : Blk W0 X.heap.size (by8 (List.replicate (n + 8) 0)) 5 := by rw [hW0]; exact Blk.new _ _ _
  obtain ⟨g, hg⟩ : ∃ g, g = X.heap.size := ⟨_, rfl⟩
  have hcp : ∃ W1, (Builtin.copy_ #[33, 33] 3 #[.slice (some ⟨g, 0, none⟩) (n + 8) (n + 8), .slice a n c]).run Try.prog W0 = .ok (goInt n) W1 ∧ Blk W1 g (by8 (lentL p 0)) 5 ∧ X.grownBy W1 none := by
    rw [← hg] at b0
    by_cases hz : n = 0
    · have hp0 : p = [] := List.length_eq_zero_iff.1 (by omega)
      have := run_copy_none (P := Try.prog) W0 33 33 3 5 (some ⟨g, 0, none⟩) a (n + 8) (n + 8) n c Try.underlying33 (by kernel_rfl) (by rw [hz]; simp)
      refine ⟨W0, by rw [this, hz]; rfl, ?_, g0⟩
      have e : lentL p 0 = List.replicate (n + 8) 0 := by unfold lentL; rw [hp0, hz]; rfl
      rw [e]
      exact b0
    · obtain ⟨pb, off, rfl, hc⟩ := hp.2 (fun e => hz (by rw [← hn, e]; rfl))
      have hmin : Nat.min n (n + 8) = n := Nat.min_eq_left (by omega)
      have := run_copy8 W0 3 g 0 (n + 8) (n + 8) ⟨pb, off, none⟩ n c [] (List.replicate n 0) (List.replicate 8 0) p (by rw [List.nil_append, List.replicate_append_replicate]; exact b0) rfl (by simp [hn]) (by rw [hmin]; exact hn) (fun j x hj => by
        rw [Addr.add_lit]
        exact (hp.grow g0).cell hj)
      rw [hmin] at this
      refine ⟨_, this, ?_, ?_⟩
      · have := b0.row (by8 ([] ++ (p ++ List.replicate 8 0)))
        exact this
      · exact grown_row g0 g _ (by omega)
  obtain ⟨W1, hr, b1, g1⟩ := hcp
  have HR := hide hr
  have I0 : Hid (Blk W1 g (by8 (lentL p 0)) 5 ∧ X.grownBy W1 none) := ⟨b1, g1⟩
  have HN := hide hn
  have HW0 := hide hW0
  have HG := hide hg
  clear hr b1 g1 b0 g0 hp hn hW0 hg
  go_enter Try.func27, Try.ntmps27
  go_upto_region 2 with (at_make; refine wpList_make_run _ rfl 33 _ _ rfl _ _ rfl rfl (hmk _) ?_)
  rw [← unhide HW0, ← unhide HG]
  clear hmk
  have hr := unhide HR
  unfold goInt at hr
  go_wp2
  clear hr
  go_loopw [4] (fun i Z => ∃ k : Nat, k ≤ 8 ∧ i = .int .i64 ((n + k : Nat) : Int) ∧ Hid (Blk Z g (by8 (lentL p k)) 5 ∧ X.grownBy Z none)) (fun i _ => n + 9 - (intOf i).toNat)
  case atStart => exact ⟨0, Nat.zero_le _, rfl, I0⟩
  case round =>
    clear I0
    obtain ⟨k, hk, rfl, I⟩ := hrel
    obtain ⟨Z, hZ⟩ : ∃ Z, Z = wr := ⟨_, rfl⟩
    subst hZ
    obtain ⟨j, hj⟩ : ∃ j, j = n + k := ⟨_, rfl⟩
    rw [← hj]
    by_cases hlt : k < 8
    · obtain ⟨hb1, hg1⟩ := unhide I
      have fz := hb1.thaw j
      have hcx : ∃ v, Z.cell? ⟨g, j, none⟩ = some v := by
        have : j < (lentL p k).length := by rw [lentL_len p k hk, unhide HN]; omega
        exact ⟨_, hb1.cell j _ (by8_get _ _ _ (List.getElem?_eq_getElem this))⟩
      obtain ⟨v, hv⟩ := hcx
      have NX : Hid (Blk (Z.setCell ⟨g, j, none⟩ (.int .u8 201)) g (by8 (lentL p (k + 1))) 5 ∧ X.grownBy (Z.setCell ⟨g, j, none⟩ (.int .u8 201)) none) := by
        refine ⟨?_, grown_set hg1 g j _ (by rw [unhide HG]; exact Nat.le_refl _)⟩
        rw [← lentL_set p k hlt, ← by8_set, unhide HN, ← hj]
        exact hb1.setC j _
      have hjn : (j : Int) < ((n + 8 : Nat) : Int) := by omega
      have hjn2 : (j : Int) < (n : Int) + 8 := by omega
      have hj0 : (0 : Int) ≤ (j : Int) := by omega
      have hj8 : j < n + 8 := by omega
      have HJ := hide hj
      have HLT := hide hlt
      clear hb1 hg1 I hk hlt hj
      go_wp2
      exact ⟨⟨k + 1, unhide HLT, by rw [← Nat.add_assoc, ← unhide HJ]; go_num, NX⟩, by simp [intOf]; have := unhide HJ; have := unhide HLT; omega⟩
    · obtain rfl : k = 8 := by omega
      have hno : ¬ (j : Int) < ((n + 8 : Nat) : Int) := by omega
      have hno2 : ¬ (j : Int) < (n : Int) + 8 := by omega
      have hno3 : ¬ j < n + 8 := by omega
      have FIN : Hid (Blk Z g (by8 (p ++ List.replicate 8 201)) 5 ∧ X.heap.size ≤ g ∧ X.grownBy Z none) := by
        refine ⟨?_, by rw [unhide HG]; exact Nat.le_refl _, (unhide I).2⟩
        have := (unhide I).1
        have e : lentL p 8 = p ++ List.replicate 8 201 := by unfold lentL; simp
        rw [e] at this
        exact this
      have hn8 : (n : Int) ≤ (n : Int) + 8 := by omega
      have hn0 : (0 : Int) ≤ (n : Int) := by omega
      have hn9 : (n : Int) ≤ ((n + 8 : Nat) : Int) := by omega
      clear I hj hk hlt
      go_wp2
      go_ret
      exact ⟨g, rfl, unhide FIN⟩
end Go.Proofs.Ytdalekjpjnhboaa

namespace Go.Proofs.Ytdalekjpjnhboaa
open Go.RowKit
set_option linter.unusedVariables false
set_option maxHeartbeats 4000000
set_option maxRecDepth 100000

def backL (l : List Int) (k : Nat) : List Int := List.replicate k 202 ++ l.drop k
theorem backL_len (l : List Int) (k : Nat) (hk : k ≤ l.length) : (backL l k).length = l.length := by unfold backL; simp; omega
theorem backL_get (l : List Int) (k : Nat) (x : Int) (hx : l[k]? = some x) : (backL l k)[k]? = some x := by
  unfold backL
  rw [List.getElem?_append_right (by simp), List.length_replicate, Nat.sub_self, List.getElem?_drop, Nat.add_zero]
  exact hx
theorem backL_set (l : List Int) (k : Nat) (hk : k < l.length) : (backL l k).set k 202 = backL l (k + 1) := by
  unfold backL
  rw [List.set_append_right _ _ (by simp), List.length_replicate, Nat.sub_self, List.drop_eq_getElem_cons hk, List.set_cons_zero, List.replicate_succ' (n := k)]
  simp

theorem back_any (X : World) (g : Nat) (a : Option Addr) (n c : Nat) (p : List Int) (hg : Blk X g (by8 (p ++ List.replicate 8 201)) 5) (hp : Rd X a p) (hne : ∀ b off, a = some ⟨b, off, none⟩ → p ≠ [] → b ≠ g) (hn : p.length = n) (hb : n ≤ 1000000000) :
    Calls Try.prog 28 #[.slice (some ⟨g, 0, none⟩) n (n + 8), .slice a n c] X fun e Y => e = .returned (.bool true) ∧ X.grownBy Y (some g) := by
  obtain ⟨q, hq⟩ : ∃ q, q = p ++ List.replicate 8 201 := ⟨_, rfl⟩
  have hql : q.length = n + 8 := by rw [hq]; simp [hn]
  have I0 : Hid (Blk X g (by8 (backL q 0)) 5 ∧ X.grownBy X (some g)) := by
    refine ⟨?_, World.grownBy.refl _ _⟩
    have e : backL q 0 = p ++ List.replicate 8 201 := by unfold backL; simp [hq]
    rw [e]
    exact hg
  have QP : Hid (∀ k, k < n → ∃ x b off, q[k]? = some x ∧ a = some ⟨b, off, none⟩ ∧ ∀ Z, X.grownBy Z (some g) → Z.cell? ⟨b, off + k, none⟩ = some (.int .u8 x)) := fun k hk => by
    obtain ⟨x, hx⟩ : ∃ x, p[k]? = some x := ⟨_, List.getElem?_eq_getElem (by omega)⟩
    have hpn : p ≠ [] := fun e => by rw [e] at hx; simp at hx
    obtain ⟨b, off, e, hc⟩ := hp.2 hpn
    refine ⟨x, b, off, by rw [hq, List.getElem?_append_left (by omega)]; exact hx, e, fun Z gz => ?_⟩
    have hlt := World.block_lt_of_cell? _ _ (hc k (by omega))
    rw [World.cell?_of_block (w := X) (w' := Z) (gz.block b hlt (fun z => by cases z; exact hne _ off e hpn rfl)), hc k (by omega)]
    simp [List.getD, hx]
  have QR : Hid (∀ k, n ≤ k → k < n + 8 → q[k]? = some 201) := fun k h1 h2 => by
    rw [hq, List.getElem?_append_right (by omega), List.getElem?_replicate, if_pos (by omega)]
  have HQL := hide hql
  clear hq hp hne hn hg hql
  have s1 : (0 : Int) ≤ (n : Int) + 8 := by omega
  have s2 : (n : Int) + 8 ≤ ((n + 8 : Nat) : Int) := by omega
  go_enter Try.func28, Try.ntmps28
  go_wp2
  go_loopw [6, 7] (fun o i Z => ∃ k : Nat, k ≤ n + 8 ∧ o = .bool true ∧ i = .int .i64 (k : Int) ∧ Hid (Blk Z g (by8 (backL q k)) 5 ∧ X.grownBy Z (some g))) (fun _ i _ => n + 9 - (intOf i).toNat)
  case atStart => exact ⟨0, Nat.zero_le _, rfl, rfl, I0⟩
  case round =>
    clear I0
    obtain ⟨k, hk, rfl, rfl, I⟩ := hrel
    obtain ⟨Z, hZ⟩ : ∃ Z, Z = wr := ⟨_, rfl⟩
    subst hZ
    by_cases hlt : k < n + 8
    · obtain ⟨hb1, hg1⟩ := unhide I
      have hkq : k < q.length := by rw [unhide HQL]; exact hlt
      have NX : Hid (∀ r, Blk ((Z.drewN r).setCell ⟨g, k, none⟩ (.int .u8 202)) g (by8 (backL q (k + 1))) 5 ∧ X.grownBy ((Z.drewN r).setCell ⟨g, k, none⟩ (.int .u8 202)) (some g)) := fun r => by
        refine ⟨?_, grown_at (grown_drewS hg1 r) k _⟩
        rw [← backL_set q k hkq, ← by8_set]
        exact (hb1.drewN r).setC k _
      have fz : ∀ r, (Z.drewN r).frozen? ⟨g, k, none⟩ = false := fun r => (hb1.drewN r).thaw k
      have fz0 := hb1.thaw k
      have hk0 : (0 : Int) ≤ (k : Int) := by omega
      have hk8 : (k : Int) < (n : Int) + 8 := by omega
      have hk9 : (k : Int) < ((n + 8 : Nat) : Int) := by omega
      by_cases hkn : k < n
      · obtain ⟨x, b, off, hx, rfl, hc⟩ := unhide QP k hkn
        have c0 := hb1.cell k _ (by8_get _ _ _ (backL_get q k x hx))
        have c1 := hc Z hg1
        have hkn1 : (k : Int) < (n : Int) := by omega
        have hkd : decide ((k : Int) < (n : Int)) = true := decide_eq_true hkn1
        have hxx : (x == x) = true := by simp
        have HLT := hide hlt
        clear hb1 hg1 I hk hlt hc hx hkq
        go_wp2
        go_quiet (fail)
        go_wp2
        exact ⟨⟨k + 1, unhide HLT, rfl, by go_num, unhide NX _⟩, by simp [intOf]; have := unhide HLT; omega⟩
      · have hx := unhide QR k (by omega) hlt
        have c0 := hb1.cell k _ (by8_get _ _ _ (backL_get q k 201 hx))
        have hkn1 : ¬ (k : Int) < (n : Int) := by omega
        have hkd : decide ((k : Int) < (n : Int)) = false := decide_eq_false hkn1
        have hge : (n : Int) ≤ (k : Int) := by omega
        have hged : decide ((n : Int) ≤ (k : Int)) = true := decide_eq_true hge
        have hkn2 : ¬ k < n := hkn
        have hge2 : n ≤ k := by omega
        have HLT := hide hlt
        clear hb1 hg1 I hk hlt hx hkq hkn
        go_wp2
        go_quiet (fail)
        go_wp2
        exact ⟨⟨k + 1, unhide HLT, rfl, by go_num, unhide NX _⟩, by simp [intOf]; have := unhide HLT; omega⟩
    · obtain rfl : k = n + 8 := by omega
      have hno : ¬ ((n + 8 : Nat) : Int) < ((n + 8 : Nat) : Int) := by omega
      have hno2 : ¬ ((n + 8 : Nat) : Int) < (n : Int) + 8 := by omega
      have G := hide (unhide I).2
      clear I
      go_wp2
      go_ret
      exact ⟨rfl, unhide G⟩
end Go.Proofs.Ytdalekjpjnhboaa
