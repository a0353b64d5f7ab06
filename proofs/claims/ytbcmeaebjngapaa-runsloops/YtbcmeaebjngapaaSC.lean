/- shown: the document's example. -/
import Derived.Test.YtbcmeaebjngapaaSA
import Derived.Laws.StructEq
namespace Go.Proofs.Ytbcmeaebjngapaa
open Go.RowKit
set_option linter.unusedVariables false
set_option maxRecDepth 100000
set_option maxHeartbeats 400000

theorem ok_of {L : List Sp} (h : Good (-9223372036854775808) 9223372036854775807 L) (hn : L.length ≤ 8000000000000) : Ok L := ⟨h, hn⟩

set_option maxRecDepth 100000 in
theorem shown_ok (w : World) : Calls Try.prog 5 #[] w fun e w' => e = .returned (.bool true) ∧ w.grownBy w' none := by
  have hnew := new_ls w w 2 (by decide) (grown_self w none)
  have e1 : addS 2 5 7 [] = [(5, 7)] ∧ addN 5 7 [] = 3 := by decide
  have e2 : addS 2 9 9 [(5, 7)] = [(5, 7), (9, 9)] ∧ addN 9 9 [(5, 7)] = 1 := by decide
  have e3 : addS 2 8 8 [(5, 7), (9, 9)] = [(5, 9)] ∧ addN 8 8 [(5, 7), (9, 9)] = 1 := by decide
  have e4 : addS 2 6 12 [(5, 9)] = [(5, 12)] ∧ addN 6 12 [(5, 9)] = 3 := by decide
  have e5 : cutS 2 7 8 [(5, 12)] = [(5, 6), (9, 12)] ∧ cutN 7 8 [(5, 12)] = 2 := by decide
  have e6 : addS 2 20 20 [(5, 6), (9, 12)] = [(9, 12), (20, 20)] ∧ addN 20 20 [(5, 6), (9, 12)] = 1 := by decide
  have E := hide (And.intro e1 (And.intro e2 (And.intro e3 (And.intro e4 (And.intro e5 e6)))))
  clear e1 e2 e3 e4 e5 e6
  go_enter Try.func5, Try.ntmps5
  go_wp2_with fail
  refine hnew.mono ?_
  rintro e W0 ⟨rfl, l0⟩
  clear hnew
  go_wp2_with fail
  refine (add_ls l0 (ok_of trivial (by simp)) 5 7 (by decide) (by decide)).mono ?_
  rintro e W1 ⟨rfl, l1⟩
  rw [(unhide E).1.1] at l1
  rw [(unhide E).1.2]
  clear l0
  go_wp2_with fail
  refine (add_ls l1 (ok_of (by simp [Good]) (by simp)) 9 9 (by decide) (by decide)).mono ?_
  rintro e W2 ⟨rfl, l2⟩
  rw [(unhide E).2.1.1] at l2
  rw [(unhide E).2.1.2]
  clear l1
  go_wp2_with fail
  refine (add_ls l2 (ok_of (by simp [Good]) (by simp)) 8 8 (by decide) (by decide)).mono ?_
  rintro e W3 ⟨rfl, l3⟩
  rw [(unhide E).2.2.1.1] at l3
  rw [(unhide E).2.2.1.2]
  clear l2
  go_wp2_with fail
  refine (add_ls l3 (ok_of (by simp [Good]) (by simp)) 6 12 (by decide) (by decide)).mono ?_
  rintro e W4 ⟨rfl, l4⟩
  rw [(unhide E).2.2.2.1.1] at l4
  rw [(unhide E).2.2.2.1.2]
  clear l3
  go_wp2_with fail
  refine (cut_ls l4 (ok_of (by simp [Good]) (by simp)) 7 8 (by decide) (by decide)).mono ?_
  rintro e W5 ⟨rfl, l5⟩
  rw [(unhide E).2.2.2.2.1.1] at l5
  rw [(unhide E).2.2.2.2.1.2]
  clear l4
  go_wp2_with fail
  refine (add_ls l5 (ok_of (by simp [Good]) (by simp)) 20 20 (by decide) (by decide)).mono ?_
  rintro e W6 ⟨rfl, l6⟩
  rw [(unhide E).2.2.2.2.2.1] at l6
  rw [(unhide E).2.2.2.2.2.2]
  clear l5 E
  go_wp2_with fail
  refine (runs_ls l6 (ok_of (by simp [Good]) (by simp))).mono ?_
  rintro e W7 ⟨v', rfl, hr, _, l7⟩
  rcases Row.at hr with ⟨_, h1⟩ | ⟨g, c, sp, rfl, hR⟩
  · cases h1
  have c0 : W7.cell? ⟨g, 0, none⟩ = some (.int .i64 9) := hR.cell 0 _ rfl
  have c1 : W7.cell? ⟨g, 1, none⟩ = some (.int .i64 12) := hR.cell 1 _ rfl
  have c2 : W7.cell? ⟨g, 2, none⟩ = some (.int .i64 20) := hR.cell 2 _ rfl
  have c3 : W7.cell? ⟨g, 3, none⟩ = some (.int .i64 20) := hR.cell 3 _ rfl
  have L7 := hide l7
  clear l6 l7 hr hR
  simp only [List.length_cons, List.length_nil]
  go_wp2
  all_goals go_ret
  all_goals exact ⟨rfl, (unhide L7).grown⟩
end Go.Proofs.Ytbcmeaebjngapaa
