/- due, Waits, Next, Fin, Stop, New. -/
import Derived.Test.YtdalekjpjnhboaaS5I
import Derived.Test.YtdalekjpjnhboaaS5J
namespace Go.Proofs.Ytdalekjpjnhboaa
open Go.RowKit
set_option linter.unusedVariables false
set_option maxHeartbeats 1000000
set_option maxRecDepth 100000

section
variable {w W : World} {M : Nat → Prop} {b ba bl : Nat} {vh : Value} {S : Sd}

theorem due_at (h : At w M b ba bl vh W S) (hok : SdOk S) (hbig : wr S ≤ 1152921504606846976) (most limit : Int) (hl : -9223372036854775808 ≤ limit ∧ limit ≤ 9223372036854775807) :
    Calls Try.prog 47 #[ptr b, .int .i64 most, .int .i64 limit] W fun e W' => e = .returned (.tuple #[.int .i64 (dueS S most limit).1, .int .i64 (dueS S most limit).2.1, .bool (dueS S most limit).2.2]) ∧ W.grownBy W' none := by
  obtain ⟨c0, c1, c2, c3, c4, c5, c6, c7, c8, c9⟩ := h.cells
  have hb0 := hok.b0; have hbs := hok.bs; have hsw := hok.sw
  have hlen := fun q => lenL_at (h.grown (grown_drewN W q))
  have hfw := fun q => finW_at (h.grown (grown_drewN W q))
  have hrn := fun q => runsL_at (h.grown (grown_drewN W q)) (hok.okL hbig)
  have hgL := hok.gL
  unfold dueS
  by_cases hmn : wr S ≤ limit
  · have emin : min (wr S) limit = wr S := by omega
    rw [emin]
    cases hs : S.stopped with
    | true =>
      rw [hs] at c9
      rw [if_pos rfl]
      clear h hok hlen hfw hrn c0 c1 c4 c5 c7 c8 hgL hb0 hbs hsw hs emin
      generalize wr S = t at *
      generalize S.sent = x at *
      go_enter Try.func47, Try.ntmps47
      go_wp2
      go_region
      all_goals go_wp2
      all_goals go_ret3
      all_goals exact ⟨rfl, grown_drewN _ _⟩
    | false =>
      rw [hs] at c9
      rw [if_neg (by simp)]
      cases hL : S.L with
      | nil =>
        rw [hL] at hlen
        simp only [List.length_nil, Int.ofNat_zero] at hlen
        generalize finW S = fw at *
        have FB := hide (And.intro hb0 (And.intro hbs hsw))
        clear h hok hrn c0 c1 c4 c5 c7 c8 hgL hs hL
        by_cases hc : S.sent < (wr S)
        · rw [if_pos hc]
          have dc : decide (S.sent < (wr S)) = true := decide_eq_true hc
          unfold stretch
          by_cases hm : 1 ≤ most
          · rw [if_pos hm]
            have dm : decide (1 ≤ most) = true := decide_eq_true hm
            have w1 : IntKind.i64.wrap ((wr S) - S.sent) = (wr S) - S.sent := by rw [IntKind.wrap_i64]; omega
            by_cases hq : (wr S) - S.sent ≤ most
            · have w2 : IntKind.i64.wrap (S.sent + ((wr S) - S.sent)) = S.sent + ((wr S) - S.sent) := by rw [IntKind.wrap_i64]; omega
              have e2 : min ((wr S) - S.sent) most = (wr S) - S.sent := by omega
              rw [e2]
              clear hb0 hbs hsw emin
              generalize wr S = t at *
              generalize S.sent = x at *
              go_enter Try.func47, Try.ntmps47
              go_wp2
              go_region
              all_goals go_wp2_with (go_at_call 70; refine (hlen _).mono ?_; rintro e W' ⟨rfl, hw'⟩; subst W')
              all_goals go_ret3
              all_goals exact ⟨by simp [*], grown_drewN _ _⟩
            · have w2 : IntKind.i64.wrap (S.sent + most) = S.sent + most := by rw [IntKind.wrap_i64]; omega
              have e2 : min ((wr S) - S.sent) most = most := by omega
              rw [e2]
              clear hb0 hbs hsw emin
              generalize wr S = t at *
              generalize S.sent = x at *
              go_enter Try.func47, Try.ntmps47
              go_wp2
              go_region
              all_goals go_wp2_with (go_at_call 70; refine (hlen _).mono ?_; rintro e W' ⟨rfl, hw'⟩; subst W')
              all_goals go_ret3
              all_goals exact ⟨by simp [*], grown_drewN _ _⟩
          · rw [if_neg hm]
            have dm : decide (1 ≤ most) = false := decide_eq_false hm
            clear hb0 hbs hsw emin
            generalize wr S = t at *
            generalize S.sent = x at *
            go_enter Try.func47, Try.ntmps47
            go_wp2
            go_region
            all_goals go_wp2_with (go_at_call 70; refine (hlen _).mono ?_; rintro e W' ⟨rfl, hw'⟩; subst W')
            all_goals go_ret3
            all_goals exact ⟨rfl, grown_drewN _ _⟩
        · rw [if_neg hc]
          have dc : decide (S.sent < (wr S)) = false := decide_eq_false hc
          clear hb0 hbs hsw emin
          generalize wr S = t at *
          generalize S.sent = x at *
          cases fw with
          | false =>
            rw [if_neg (by simp)]
            go_enter Try.func47, Try.ntmps47
            go_wp2
            go_region
            all_goals go_wp2_with (first | (go_at_call 70; refine (hlen _).mono ?_; rintro e W' ⟨rfl, hw'⟩; subst W') | (go_at_call 71; refine (hfw _).mono ?_; rintro e W' ⟨rfl, q, rfl⟩))
            all_goals go_ret3
            all_goals exact ⟨rfl, grown_drewN _ _⟩
          | true =>
            rw [if_pos rfl]
            go_enter Try.func47, Try.ntmps47
            go_wp2
            go_region
            all_goals go_wp2_with (first | (go_at_call 70; refine (hlen _).mono ?_; rintro e W' ⟨rfl, hw'⟩; subst W') | (go_at_call 71; refine (hfw _).mono ?_; rintro e W' ⟨rfl, q, rfl⟩))
            all_goals go_quiet (fail)
            all_goals go_wp2
            all_goals go_ret3
            all_goals exact ⟨rfl, grown_trans (grown_drewN _ _) (grown_drewN _ _)⟩
      | cons s L =>
        rw [hL] at hgL hlen hrn
        have g1 := hgL.1; have g2 := hgL.2.1; have g3 := hgL.2.2.1
        have hN : (0 : Int) < ((s :: L).length : Int) := by simp only [List.length_cons]; omega
        have dN : decide ((0 : Int) < ((s :: L).length : Int)) = true := decide_eq_true hN
        have hN1 : 0 < (s :: L).length := by simp
        simp only
        unfold stretch
        have w0 : IntKind.i64.wrap (s.2 + 1) = s.2 + 1 := by rw [IntKind.wrap_i64]; omega
        have w1 : IntKind.i64.wrap (s.2 + 1 - s.1) = s.2 + 1 - s.1 := by rw [IntKind.wrap_i64]; omega
        have hsh : ∀ X v, Row X v (s :: L) → ∃ g c, v = .slice (some ⟨g, 0, none⟩) (s :: L).length c ∧ X.cell? ⟨g, 0, none⟩ = some (.int .i64 s.1) ∧ X.cell? ⟨g, 1, none⟩ = some (.int .i64 s.2) := fun X v hr => by
          rcases Row.at hr with ⟨_, e⟩ | ⟨g, c, sp, e, hR⟩
          · cases e
          · exact ⟨g, c, e, hR.cell 0 _ rfl, hR.cell 1 _ rfl⟩
        clear h hok hfw c0 c1 c4 c5 c7 c8 hgL hs hL
        generalize hLN : (s :: L).length = N at *
        clear hLN
        by_cases hm : 1 ≤ most
        · rw [if_pos hm]
          have dm : decide (1 ≤ most) = true := decide_eq_true hm
          by_cases hq : s.2 + 1 - s.1 ≤ most
          · have w2 : IntKind.i64.wrap (s.1 + (s.2 + 1 - s.1)) = s.1 + (s.2 + 1 - s.1) := by rw [IntKind.wrap_i64]; omega
            have e2 : min (s.2 + 1 - s.1) most = s.2 + 1 - s.1 := by omega
            rw [e2]
            clear hb0 hbs hsw emin g1 g2 g3
            generalize wr S = t at *
            generalize S.sent = x at *
            go_enter Try.func47, Try.ntmps47
            go_wp2
            go_region
            all_goals go_wp2_with (first | (go_at_call 70; refine (hlen _).mono ?_; rintro e W' ⟨rfl, hw'⟩; subst W') | (go_at_call 43; refine (hrn _).mono ?_; rintro e W' ⟨v', rfl, k1, k2, k3⟩; obtain ⟨gg, cc, rfl, y0, y1⟩ := hsh _ _ k1; have GG := hide (grown_trans (grown_trans (grown_drewN W 1) k3) (grown_alloc W' (.cells #[.int .i64 s.1, .int .i64 s.2] 86))); clear k1 k2 k3))
            all_goals go_quiet (fail)
            all_goals go_wp2
            all_goals go_ret3
            all_goals exact ⟨by simp [*], grown_trans (unhide GG) (grown_drewN _ _)⟩
          · have w2 : IntKind.i64.wrap (s.1 + most) = s.1 + most := by rw [IntKind.wrap_i64]; omega
            have e2 : min (s.2 + 1 - s.1) most = most := by omega
            rw [e2]
            clear hb0 hbs hsw emin g1 g2 g3
            generalize wr S = t at *
            generalize S.sent = x at *
            go_enter Try.func47, Try.ntmps47
            go_wp2
            go_region
            all_goals go_wp2_with (first | (go_at_call 70; refine (hlen _).mono ?_; rintro e W' ⟨rfl, hw'⟩; subst W') | (go_at_call 43; refine (hrn _).mono ?_; rintro e W' ⟨v', rfl, k1, k2, k3⟩; obtain ⟨gg, cc, rfl, y0, y1⟩ := hsh _ _ k1; have GG := hide (grown_trans (grown_trans (grown_drewN W 1) k3) (grown_alloc W' (.cells #[.int .i64 s.1, .int .i64 s.2] 86))); clear k1 k2 k3))
            all_goals go_quiet (fail)
            all_goals go_wp2
            all_goals go_ret3
            all_goals exact ⟨by simp [*], grown_trans (unhide GG) (grown_drewN _ _)⟩
        · rw [if_neg hm]
          have dm : decide (1 ≤ most) = false := decide_eq_false hm
          clear hb0 hbs hsw emin g1 g2 g3
          generalize wr S = t at *
          generalize S.sent = x at *
          go_enter Try.func47, Try.ntmps47
          go_wp2
          go_region
          all_goals go_wp2_with (first | (go_at_call 70; refine (hlen _).mono ?_; rintro e W' ⟨rfl, hw'⟩; subst W') | (go_at_call 43; refine (hrn _).mono ?_; rintro e W' ⟨v', rfl, k1, k2, k3⟩; obtain ⟨gg, cc, rfl, y0, y1⟩ := hsh _ _ k1; have GG := hide (grown_trans (grown_trans (grown_drewN W 1) k3) (grown_alloc W' (.cells #[.int .i64 s.1, .int .i64 s.2] 86))); clear k1 k2 k3))
          all_goals go_quiet (fail)
          all_goals go_wp2
          all_goals go_ret3
          all_goals exact ⟨rfl, grown_trans (unhide GG) (grown_drewN _ _)⟩
  · have emin : min (wr S) limit = limit := by omega
    rw [emin]
    cases hs : S.stopped with
    | true =>
      rw [hs] at c9
      rw [if_pos rfl]
      clear h hok hlen hfw hrn c0 c1 c4 c5 c7 c8 hgL hb0 hbs hsw hs emin
      generalize wr S = t at *
      generalize S.sent = x at *
      go_enter Try.func47, Try.ntmps47
      go_wp2
      go_region
      all_goals go_wp2
      all_goals go_ret3
      all_goals exact ⟨rfl, grown_drewN _ _⟩
    | false =>
      rw [hs] at c9
      rw [if_neg (by simp)]
      cases hL : S.L with
      | nil =>
        rw [hL] at hlen
        simp only [List.length_nil, Int.ofNat_zero] at hlen
        generalize finW S = fw at *
        have FB := hide (And.intro hb0 (And.intro hbs hsw))
        clear h hok hrn c0 c1 c4 c5 c7 c8 hgL hs hL
        by_cases hc : S.sent < (limit)
        · rw [if_pos hc]
          have dc : decide (S.sent < (limit)) = true := decide_eq_true hc
          unfold stretch
          by_cases hm : 1 ≤ most
          · rw [if_pos hm]
            have dm : decide (1 ≤ most) = true := decide_eq_true hm
            have w1 : IntKind.i64.wrap ((limit) - S.sent) = (limit) - S.sent := by rw [IntKind.wrap_i64]; omega
            by_cases hq : (limit) - S.sent ≤ most
            · have w2 : IntKind.i64.wrap (S.sent + ((limit) - S.sent)) = S.sent + ((limit) - S.sent) := by rw [IntKind.wrap_i64]; omega
              have e2 : min ((limit) - S.sent) most = (limit) - S.sent := by omega
              rw [e2]
              clear hb0 hbs hsw emin
              generalize wr S = t at *
              generalize S.sent = x at *
              go_enter Try.func47, Try.ntmps47
              go_wp2
              go_region
              all_goals go_wp2_with (go_at_call 70; refine (hlen _).mono ?_; rintro e W' ⟨rfl, hw'⟩; subst W')
              all_goals go_ret3
              all_goals exact ⟨by simp [*], grown_drewN _ _⟩
            · have w2 : IntKind.i64.wrap (S.sent + most) = S.sent + most := by rw [IntKind.wrap_i64]; omega
              have e2 : min ((limit) - S.sent) most = most := by omega
              rw [e2]
              clear hb0 hbs hsw emin
              generalize wr S = t at *
              generalize S.sent = x at *
              go_enter Try.func47, Try.ntmps47
              go_wp2
              go_region
              all_goals go_wp2_with (go_at_call 70; refine (hlen _).mono ?_; rintro e W' ⟨rfl, hw'⟩; subst W')
              all_goals go_ret3
              all_goals exact ⟨by simp [*], grown_drewN _ _⟩
          · rw [if_neg hm]
            have dm : decide (1 ≤ most) = false := decide_eq_false hm
            clear hb0 hbs hsw emin
            generalize wr S = t at *
            generalize S.sent = x at *
            go_enter Try.func47, Try.ntmps47
            go_wp2
            go_region
            all_goals go_wp2_with (go_at_call 70; refine (hlen _).mono ?_; rintro e W' ⟨rfl, hw'⟩; subst W')
            all_goals go_ret3
            all_goals exact ⟨rfl, grown_drewN _ _⟩
        · rw [if_neg hc]
          have dc : decide (S.sent < (limit)) = false := decide_eq_false hc
          clear hb0 hbs hsw emin
          generalize wr S = t at *
          generalize S.sent = x at *
          cases fw with
          | false =>
            rw [if_neg (by simp)]
            go_enter Try.func47, Try.ntmps47
            go_wp2
            go_region
            all_goals go_wp2_with (first | (go_at_call 70; refine (hlen _).mono ?_; rintro e W' ⟨rfl, hw'⟩; subst W') | (go_at_call 71; refine (hfw _).mono ?_; rintro e W' ⟨rfl, q, rfl⟩))
            all_goals go_ret3
            all_goals exact ⟨rfl, grown_drewN _ _⟩
          | true =>
            rw [if_pos rfl]
            go_enter Try.func47, Try.ntmps47
            go_wp2
            go_region
            all_goals go_wp2_with (first | (go_at_call 70; refine (hlen _).mono ?_; rintro e W' ⟨rfl, hw'⟩; subst W') | (go_at_call 71; refine (hfw _).mono ?_; rintro e W' ⟨rfl, q, rfl⟩))
            all_goals go_quiet (fail)
            all_goals go_wp2
            all_goals go_ret3
            all_goals exact ⟨rfl, grown_trans (grown_drewN _ _) (grown_drewN _ _)⟩
      | cons s L =>
        rw [hL] at hgL hlen hrn
        have g1 := hgL.1; have g2 := hgL.2.1; have g3 := hgL.2.2.1
        have hN : (0 : Int) < ((s :: L).length : Int) := by simp only [List.length_cons]; omega
        have dN : decide ((0 : Int) < ((s :: L).length : Int)) = true := decide_eq_true hN
        have hN1 : 0 < (s :: L).length := by simp
        simp only
        unfold stretch
        have w0 : IntKind.i64.wrap (s.2 + 1) = s.2 + 1 := by rw [IntKind.wrap_i64]; omega
        have w1 : IntKind.i64.wrap (s.2 + 1 - s.1) = s.2 + 1 - s.1 := by rw [IntKind.wrap_i64]; omega
        have hsh : ∀ X v, Row X v (s :: L) → ∃ g c, v = .slice (some ⟨g, 0, none⟩) (s :: L).length c ∧ X.cell? ⟨g, 0, none⟩ = some (.int .i64 s.1) ∧ X.cell? ⟨g, 1, none⟩ = some (.int .i64 s.2) := fun X v hr => by
          rcases Row.at hr with ⟨_, e⟩ | ⟨g, c, sp, e, hR⟩
          · cases e
          · exact ⟨g, c, e, hR.cell 0 _ rfl, hR.cell 1 _ rfl⟩
        clear h hok hfw c0 c1 c4 c5 c7 c8 hgL hs hL
        generalize hLN : (s :: L).length = N at *
        clear hLN
        by_cases hm : 1 ≤ most
        · rw [if_pos hm]
          have dm : decide (1 ≤ most) = true := decide_eq_true hm
          by_cases hq : s.2 + 1 - s.1 ≤ most
          · have w2 : IntKind.i64.wrap (s.1 + (s.2 + 1 - s.1)) = s.1 + (s.2 + 1 - s.1) := by rw [IntKind.wrap_i64]; omega
            have e2 : min (s.2 + 1 - s.1) most = s.2 + 1 - s.1 := by omega
            rw [e2]
            clear hb0 hbs hsw emin g1 g2 g3
            generalize wr S = t at *
            generalize S.sent = x at *
            go_enter Try.func47, Try.ntmps47
            go_wp2
            go_region
            all_goals go_wp2_with (first | (go_at_call 70; refine (hlen _).mono ?_; rintro e W' ⟨rfl, hw'⟩; subst W') | (go_at_call 43; refine (hrn _).mono ?_; rintro e W' ⟨v', rfl, k1, k2, k3⟩; obtain ⟨gg, cc, rfl, y0, y1⟩ := hsh _ _ k1; have GG := hide (grown_trans (grown_trans (grown_drewN W 1) k3) (grown_alloc W' (.cells #[.int .i64 s.1, .int .i64 s.2] 86))); clear k1 k2 k3))
            all_goals go_quiet (fail)
            all_goals go_wp2
            all_goals go_ret3
            all_goals exact ⟨by simp [*], grown_trans (unhide GG) (grown_drewN _ _)⟩
          · have w2 : IntKind.i64.wrap (s.1 + most) = s.1 + most := by rw [IntKind.wrap_i64]; omega
            have e2 : min (s.2 + 1 - s.1) most = most := by omega
            rw [e2]
            clear hb0 hbs hsw emin g1 g2 g3
            generalize wr S = t at *
            generalize S.sent = x at *
            go_enter Try.func47, Try.ntmps47
            go_wp2
            go_region
            all_goals go_wp2_with (first | (go_at_call 70; refine (hlen _).mono ?_; rintro e W' ⟨rfl, hw'⟩; subst W') | (go_at_call 43; refine (hrn _).mono ?_; rintro e W' ⟨v', rfl, k1, k2, k3⟩; obtain ⟨gg, cc, rfl, y0, y1⟩ := hsh _ _ k1; have GG := hide (grown_trans (grown_trans (grown_drewN W 1) k3) (grown_alloc W' (.cells #[.int .i64 s.1, .int .i64 s.2] 86))); clear k1 k2 k3))
            all_goals go_quiet (fail)
            all_goals go_wp2
            all_goals go_ret3
            all_goals exact ⟨by simp [*], grown_trans (unhide GG) (grown_drewN _ _)⟩
        · rw [if_neg hm]
          have dm : decide (1 ≤ most) = false := decide_eq_false hm
          clear hb0 hbs hsw emin g1 g2 g3
          generalize wr S = t at *
          generalize S.sent = x at *
          go_enter Try.func47, Try.ntmps47
          go_wp2
          go_region
          all_goals go_wp2_with (first | (go_at_call 70; refine (hlen _).mono ?_; rintro e W' ⟨rfl, hw'⟩; subst W') | (go_at_call 43; refine (hrn _).mono ?_; rintro e W' ⟨v', rfl, k1, k2, k3⟩; obtain ⟨gg, cc, rfl, y0, y1⟩ := hsh _ _ k1; have GG := hide (grown_trans (grown_trans (grown_drewN W 1) k3) (grown_alloc W' (.cells #[.int .i64 s.1, .int .i64 s.2] 86))); clear k1 k2 k3))
          all_goals go_quiet (fail)
          all_goals go_wp2
          all_goals go_ret3
          all_goals exact ⟨rfl, grown_trans (unhide GG) (grown_drewN _ _)⟩
end
end Go.Proofs.Ytdalekjpjnhboaa
