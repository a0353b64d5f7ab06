/- A nil set: reach, Within, Holes. -/
import Derived.Test.YtbcmeaebjngapaaSU
namespace Go.Proofs.Ytbcmeaebjngapaa
open Go.RowKit
set_option linter.unusedVariables false
set_option maxHeartbeats 400000
set_option maxRecDepth 100000

theorem reach_nil (lo hi : Int) (w : World) :
    Calls Try.prog 24 #[.pointer none, .int .i64 lo, .int .i64 hi] w fun e w' => e = .returned (.tuple #[.int .i64 0, .int .i64 0]) ∧ w.grownBy w' none := by
  obtain ⟨W1, hW1⟩ : ∃ W1, W1 = (w.alloc (.cells #[.int .i64 lo] 2)).alloc (.cells #[.int .i64 hi] 2) := ⟨_, rfl⟩
  have hg1 : w.grownBy W1 none := by rw [hW1]; exact grown_trans (grown_alloc _ _) (grown_alloc _ _)
  have hl := list_nil W1
  obtain ⟨W2, hW2⟩ : ∃ W2, W2 = W1.alloc (.cells #[.slice none 0 0] 26) := ⟨_, rfl⟩
  have hg2 : w.grownBy W2 none := by rw [hW2]; exact grown_trans hg1 (grown_alloc _ _)
  have hN1 : W1.heap.size = w.heap.size + 2 := by rw [hW1]; simp
  have c2 : W2.cell? ⟨w.heap.size + 2, 0, none⟩ = some (.slice none 0 0) := by
    have := box_cell W1 W2 _ _ _ _ rfl rfl (by rw [hW2]; exact grown_self _ _)
    rwa [hN1] at this
  have hs1 : Calls Try.prog 31 #[.int .i64 ((0 : Nat) : Int), .func (.func 38) #[] #[.pointer (some ⟨w.heap.size + 2, 0, none⟩), .pointer (some ⟨w.heap.size, 0, none⟩)]] W2 fun e w' => e = .returned (.int .i64 ((0 : Nat) : Int)) ∧ ∃ q, w' = W2.drewN q :=
    search_any _ _ _ 0 W2 (by simp) eg_reach1 (by omega) fun q i hi => absurd hi (by omega)
  have hs2 : ∀ q0, Calls Try.prog 31 #[.int .i64 ((0 : Nat) : Int), .func (.func 39) #[] #[.pointer (some ⟨w.heap.size + 2, 0, none⟩), .pointer (some ⟨w.heap.size + 1, 0, none⟩)]] (W2.drewN q0) fun e w' => e = .returned (.int .i64 ((0 : Nat) : Int)) ∧ ∃ q, w' = (W2.drewN q0).drewN q := fun q0 =>
    search_any _ _ _ 0 (W2.drewN q0) (by simp) eg_reach2 (by omega) fun q i hin => absurd hin (by omega)
  have hfin := hide hg2
  clear hg1 hg2
  subst hW1
  go_enter Try.func24, Try.ntmps24
  go_wp2_with (refine hl.mono ?_; rintro e w' ⟨rfl, hw'⟩; subst w')
  rw [← hW2]
  have HW2 := hide hW2
  clear hW2 hl hN1
  refine hs1.mono ?_
  rintro e w' ⟨rfl, q1, rfl⟩
  have hs2 := hs2 q1
  have c2' : (W2.drewN q1).cell? ⟨w.heap.size + 2, 0, none⟩ = some (.slice none 0 0) := c2
  go_wp2_with (refine hs2.mono ?_; rintro e w' ⟨rfl, q2, rfl⟩)
  all_goals go_ret2
  all_goals exact ⟨rfl, grown_trans (unhide hfin) (grown_drewN _ _)⟩

theorem within_nil (lo hi : Int) (w : World) (hlh : lo ≤ hi) :
    Calls Try.prog 22 #[.pointer none, .int .i64 lo, .int .i64 hi] w fun e w' => ∃ v', e = .returned v' ∧ Row w' v' [] ∧ Fresh w v' ∧ w.grownBy w' none := by
  have hre := reach_nil lo hi w
  have hd1 : decide (hi < lo) = false := decide_eq_false (by omega)
  go_enter Try.func22, Try.ntmps22
  go_wp2_with (go_at_call 24; refine hre.mono ?_; rintro e W1 ⟨rfl, hg⟩)
  all_goals go_wp2_with (first | (go_at_call 20; refine (list_nil _).mono ?_; rintro e w' ⟨rfl, hw'⟩; subst w') | (go_at_call 19; refine (clone_nil _ _ _).mono ?_; rintro e w' ⟨rfl, hw'⟩; subst w'))
  all_goals go_ret
  all_goals exact ⟨_, rfl, row_nil _, fresh_nil _, hg⟩

set_option maxRecDepth 100000 in
theorem holes_gen (p : Option Addr) (lo hi : Int) (R : List Sp) (w : World) (hwi : Calls Try.prog 22 #[.pointer p, .int .i64 lo, .int .i64 hi] w fun e w' => ∃ v', e = .returned v' ∧ Row w' v' R ∧ Fresh w v' ∧ w.grownBy w' none)
    (hgR : Good lo hi R) (hRl : R.length ≤ 8000000000000) (hlh : lo ≤ hi) (hlo : -9223372036854775808 ≤ lo) (hhi : hi ≤ 9223372036854775807) :
    Calls Try.prog 23 #[.pointer p, .int .i64 lo, .int .i64 hi] w fun e w' => ∃ v', e = .returned v' ∧ Row w' v' (holesGo hi lo R) ∧ Fresh w v' ∧ w.grownBy w' none := by
  have hd1 : decide (hi < lo) = false := decide_eq_false (by omega)
  have hFF := hide (And.intro hgR (And.intro hRl (And.intro hlo (And.intro hhi hlh))))
  clear hgR hRl hlo hhi hlh
  go_enter Try.func23, Try.ntmps23
  go_wp2_with (refine hwi.mono ?_; rintro e W1 ⟨v1, rfl, k1, k2, k3⟩; obtain ⟨a, c, rfl, hcells, hcm, hnc⟩ := k1.shape)
  have HC := hide hcells
  have K := hide (And.intro k2 k3)
  unfold maxLen at hcm
  clear hcells k1 k2 k3 hwi
  generalize hn : R.length = n at *
  have HN := hide hn
  clear hn
  go_loopw [7, 8, 20] (fun l x i wr => ∃ (k : Nat) (nx : Int) (H : List Sp), k ≤ n ∧ i = .int .i64 k ∧ x = .int .i64 nx ∧ HS W1 wr R lo hi k nx l H) (fun _ _ i _ => n - (intOf i).toNat)
  case atStart =>
    obtain ⟨f1, f2, f3, f4, f5⟩ := unhide hFF
    exact ⟨0, lo, [], Nat.zero_le _, rfl, rfl, ⟨rfl, f1, f5, Int.le_refl _, grown_self _ _, row_nil _, fresh_nil _⟩⟩
  case round =>
    obtain ⟨k, nx, H, hk, rfl, rfl, hs⟩ := hrel
    obtain ⟨f1, f2, f3, f4, f5⟩ := unhide hFF
    by_cases hlt : k < n
    · have hkL : k < R.length := by rw [unhide HN]; exact hlt
      obtain ⟨g, rfl, hcs⟩ : ∃ g, a = some ⟨g, 0, none⟩ ∧ _ := (unhide HC).resolve_left (fun e => by rw [e] at hkL; simp at hkL)
      have c0 := cell_grown_none hs.grown (hcs k hlt).1
      have c1 := cell_grown_none hs.grown (hcs k hlt).2
      have hdr := drop_cons_getD R k hkL
      generalize R.getD k (0, 0) = s at *
      obtain ⟨r1, r2⟩ := s
      simp only at c0 c1
      have hgd := hs.good
      rw [hdr] at hgd
      have q1 : nx ≤ r1 := hgd.1
      have q2 : r1 ≤ r2 := hgd.2.1
      have q3 : r2 ≤ hi := hgd.2.2.1
      have q4 : Good (r2 + 2) hi (R.drop (k + 1)) := hgd.2.2.2
      have q5 := hs.ge
      have heq := hs.eq
      rw [hdr] at heq
      simp only [holesGo] at heq
      have hkn : (k : Int) < (n : Int) := by omega
      have hw1 : IntKind.i64.wrap (r1 - 1) = r1 - 1 ∨ ¬ nx < r1 := by
        by_cases hh : nx < r1
        · left; rw [IntKind.wrap_i64]; omega
        · exact .inr hh
      have HR : R.length ≤ 8000000000000 := by rw [unhide HN]; exact f2
      have hw2 : IntKind.i64.wrap (r2 + 1) = r2 + 1 ∨ r2 = hi := by
        by_cases hh : r2 = hi
        · exact .inr hh
        · left; rw [IntKind.wrap_i64]; omega
      by_cases hB : r2 = hi
      · rw [if_pos hB, List.append_nil] at heq
        subst hB
        by_cases hA : nx < r1
        · rw [if_pos hA] at heq
          have hw1 := hw1.resolve_right (fun h => h hA)
          obtain ⟨v', w', hr, e1, e2, e3, e4⟩ := hs.app HR nx (r1 - 1) (.cells #[.int .i64 r1, .int .i64 r2] 31)
          have E := hide (And.intro e1 (And.intro e2 (And.intro e3 heq)))
          have d1 := (box2 e4).2
          clear hs hgd q1 q2 q3 q4 q5 e1 e2 e3 e4 heq hcs hdr f1 f2 f3 f4 f5 hkL HR hw2
          go_wp2_with (at_builtin; refine wpList_append_run _ rfl _ _ 26 26 rfl _ _ rfl rfl (hr _) ?_)
          all_goals go_ret
          obtain ⟨e1, e2, e3, e4⟩ := unhide E
          exact ⟨_, rfl, by rw [e4]; exact e1, fun q hq => Nat.le_trans (unhide K).2.size (e3 q hq), grown_trans (unhide K).2 e2⟩
        · rw [if_neg hA, List.append_nil] at heq
          have E := hide (And.intro hs heq)
          clear hs hgd q1 q2 q3 q4 q5 heq hcs hdr f1 f2 f3 f4 f5 hkL HR hw2 hw1
          go_wp2
          all_goals go_ret
          obtain ⟨hs, e4⟩ := unhide E
          exact ⟨_, rfl, by rw [e4]; exact hs.row.keep (grown_alloc _ _), fun q hq => Nat.le_trans (unhide K).2.size (hs.fresh q hq), grown_trans (grown_trans (unhide K).2 hs.grown) (grown_alloc _ _)⟩
      · rw [if_neg hB] at heq
        have hw2 := hw2.resolve_right hB
        by_cases hA : nx < r1
        · rw [if_pos hA] at heq
          have hw1 := hw1.resolve_right (fun h => h hA)
          obtain ⟨v', w', hr, e1, e2, e3, e4⟩ := hs.app HR nx (r1 - 1) (.cells #[.int .i64 r1, .int .i64 r2] 31)
          have E : Hid (HS W1 w' R lo hi (k + 1) (r2 + 1) v' (H ++ [(nx, r1 - 1)])) := ⟨by rw [heq]; simp, q4.mono (by omega), by omega, by omega, e2, e1, e3⟩
          have d1 := (box2 e4).2
          clear hs hgd q1 q2 q3 q4 q5 e1 e2 e3 e4 heq hcs hdr f1 f2 f3 f4 f5 hkL HR
          go_wp2_with (at_builtin; refine wpList_append_run _ rfl _ _ 26 26 rfl _ _ rfl rfl (hr _) ?_)
          exact ⟨⟨k + 1, r2 + 1, _, by omega, by go_num, rfl, unhide E⟩, by simp [intOf]; omega⟩
        · rw [if_neg hA, List.nil_append] at heq
          have E : Hid (HS W1 (wr.alloc (.cells #[.int .i64 r1, .int .i64 r2] 31)) R lo hi (k + 1) (r2 + 1) _ H) := ⟨heq, q4.mono (by omega), by omega, by omega, grown_trans hs.grown (grown_alloc _ _), hs.row.keep (grown_alloc _ _), hs.fresh⟩
          clear hs hgd q1 q2 q3 q4 q5 heq hcs hdr f1 f2 f3 f4 f5 hkL HR hw1
          go_wp2
          exact ⟨⟨k + 1, r2 + 1, _, by omega, by go_num, rfl, unhide E⟩, by simp [intOf]; omega⟩
    · obtain rfl : k = n := by omega
      have HR : R.length ≤ 8000000000000 := by rw [unhide HN]; exact f2
      have heq := hs.eq
      rw [List.drop_eq_nil_of_le (by rw [unhide HN]; exact Nat.le_refl _)] at heq
      simp only [holesGo] at heq
      obtain ⟨v', w', hr, e1, e2, e3⟩ := hs.last HR nx hi
      have E := hide (And.intro e1 (And.intro e2 (And.intro e3 heq)))
      clear hs e1 e2 e3 heq f1 f2 f3 f4 f5 HR
      go_wp2_with (at_builtin; refine wpList_append_run _ rfl _ _ 26 26 rfl _ _ rfl rfl (hr _) ?_)
      all_goals go_ret
      obtain ⟨e1, e2, e3, e4⟩ := unhide E
      exact ⟨_, rfl, by rw [e4]; exact e1, fun q hq => Nat.le_trans (unhide K).2.size (e3 q hq), grown_trans (unhide K).2 e2⟩


theorem holes_nil (lo hi : Int) (w : World) (hlh : lo ≤ hi) (hlo : -9223372036854775808 ≤ lo) (hhi : hi ≤ 9223372036854775807) :
    Calls Try.prog 23 #[.pointer none, .int .i64 lo, .int .i64 hi] w fun e w' => ∃ v', e = .returned v' ∧ Row w' v' [(lo, hi)] ∧ Fresh w v' ∧ w.grownBy w' none :=
  holes_gen none lo hi [] w (within_nil lo hi w hlh) trivial (by simp) hlh hlo hhi
end Go.Proofs.Ytbcmeaebjngapaa
