import Derived.Test.YtommpeibdohdjaaWN
namespace Go.Proofs.Ytommpeibdohdjaa
open Go.RowKit
set_option linter.unusedVariables false

/-- A round's state: the bytes are lent, and as they were. -/
def getsSt (w w1 wr : World) (n : Nat) : Prop := ∃ gf cf gw cw F, Lent w1 w1.heap.size wr w1.heap.size n gf cf gw cw F F ∧ ∀ x ∈ F, IsB x

set_option maxHeartbeats 3200000 in
theorem gets_walk (a : Option Addr) (l : List Int) (cap : Nat) (i : Int) (w : World) (hr : Rd w a l) (hm : l.length + 80 ≤ 140737488355328) :
    Calls Try.prog 4 #[.slice a l.length cap, .int .i64 i] w fun e w' => e = .returned (.bool true) ∧ Below w.heap.size w w' := by
  have HR := hide hr
  clear hr
  go_enter Try.func4, Try.ntmps4
  go_wp2_with fail
  refine (awake_any _).mono ?_
  rintro e w1 ⟨rfl, b1⟩
  go_wp2_with fail
  refine (lend_any a l cap w1 (rd_below (unhide HR) b1) hm).mono ?_
  rintro e w2 ⟨fv, wv, rfl, lp⟩
  have st0 : getsSt w w1 w2 l.length := by
    obtain ⟨gf, cf, rfl, -⟩ := ownsRow_open lp.full (by omega)
    obtain ⟨gw, cw, rfl, -⟩ := ownsRow_open lp.was (by omega)
    exact ⟨gf, cf, gw, cw, _, lp, lentL_byte l (unhide HR).1⟩
  have ST0 := hide st0
  have B1 := hide b1
  clear lp st0 b1
  go_wp2_with fail
  go_loopw [7] (fun i wr => ∃ k : Nat, k ≤ 3 ∧ i = .int .i64 k ∧ getsSt w w1 wr l.length) (fun i _ => 3 - (intOf i).toNat)
  case atStart => exact ⟨0, by omega, rfl, unhide ST0⟩
  case round =>
    obtain ⟨k, hk, rfl, st⟩ := hrel
    by_cases hlt : k < 3
    · obtain ⟨gf, cf, gw, cw, F, lent, hF⟩ := st
      have hlen := lent.tlen
      obtain ⟨-, -, -, hc1, hc2, -, -⟩ := lent.ne
      have LE := hide lent; have HF := hide hF; have HLEN := hide hlen; have HC1 := hide hc1; have HC2 := hide hc2
      clear lent hF hlen hc1 hc2
      go_wp2_with fail
      refine (bytes_any w1 wr _ _ _ _ _ _ _ F F (unhide LE)).mono ?_
      rintro e w3 ⟨rfl, q1, rfl⟩
      have LE2 := hide ((unhide LE).drewN q1)
      generalize wr.drewN q1 = W3 at LE2 ⊢
      go_wp2_with fail
      have c1 := rget_any (some ⟨gf, 0, none⟩) (F.take l.length) cf i W3 ((unhide LE2).rd (unhide HF)) (by rw [unhide HLEN]; unfold maxLen; omega)
      rw [unhide HLEN] at c1
      refine c1.mono ?_
      clear c1
      rintro e w4 ⟨rfl, bb⟩
      have LE3 := hide ((unhide LE2).below bb)
      clear bb
      clear LE LE2
      go_wp2_with fail
      refine (bytes_any w1 _ _ _ _ _ _ _ _ F F (unhide LE3)).mono ?_
      rintro e w5 ⟨rfl, q2, rfl⟩
      have LE4 := hide ((unhide LE3).drewN q2)
      generalize w4.drewN q2 = W5 at LE4 ⊢
      go_wp2_with fail
      have c2 := get_any (some ⟨gf, 0, none⟩) (F.take l.length) cf i _ ((unhide LE4).rd (unhide HF)) (by rw [unhide HLEN]; have := unhide HC1; omega) (unhide HC2)
      rw [unhide HLEN] at c2
      refine c2.mono ?_
      clear c2
      rintro e w6 ⟨rfl, q3, rfl⟩
      have LE5 := hide ((unhide LE4).drewN q3)
      generalize W5.drewN q3 = W6 at LE5 ⊢
      clear LE3 LE4
      go_wp2_with fail
      refine (kept_any w1 _ _ _ _ _ _ _ _ F (unhide LE5)).mono ?_
      rintro e w7 ⟨rfl, q4, rfl⟩
      have LE6 := hide ((unhide LE5).drewN q4)
      clear LE5
      generalize getF (F.take l.length) i = R
      generalize W6.drewN q4 = W7 at LE6 ⊢
      have : k = 0 ∨ k = 1 ∨ k = 2 := by omega
      rcases this with rfl | rfl | rfl
      · go_wp2_with (go_at_call 17; refine (code_any _ _).mono ?_; rintro e w' ⟨rfl, hw⟩; subst w')
        go_roundw
        case rel => exact ⟨1, by omega, rfl, gf, cf, gw, cw, F, unhide LE6, unhide HF⟩
        case measure => simp [intOf]
      · go_wp2_with (first
          | (go_at_call 17; refine (code_any _ _).mono ?_; rintro e w' ⟨rfl, hw⟩; subst w')
          | (go_at_call 24; refine (turn_any w1 _ _ _ _ _ _ _ _ 1 F (unhide LE6) (unhide HF) (by decide) (by decide)).mono ?_; rintro e w8 ⟨rfl, F2, l2, hF2⟩; have LE7 := hide l2; have HF7 := hide hF2; clear l2 hF2))
        go_roundw
        case rel => exact ⟨2, by omega, rfl, gf, cf, gw, cw, F2, unhide LE7, unhide HF7⟩
        case measure => simp [intOf]
      · go_wp2_with (go_at_call 17; refine (code_any _ _).mono ?_; rintro e w' ⟨rfl, hw⟩; subst w')
        go_roundw
        case rel => exact ⟨3, by omega, rfl, gf, cf, gw, cw, F, unhide LE6, unhide HF⟩
        case measure => simp [intOf]
    · obtain ⟨gf, cf, gw, cw, F, lent, hF⟩ := st
      have bel := (unhide B1).trans (lent.bel.mono (unhide B1).size)
      clear lent hF
      go_wp2_with fail
      go_ret
      exact ⟨rfl, bel⟩
end Go.Proofs.Ytommpeibdohdjaa
