/- Decode's deferred function. -/
import Derived.Test.YtggjeamondampaaFK
import Derived.Defers
import Derived.Recover
namespace Go.Proofs.Ytggjeamondampaa
open Go.RowKit
set_option linter.unusedVariables false
set_option linter.unusedSimpArgs false
set_option maxRecDepth 100000
set_option maxHeartbeats 400000
theorem catch_idle (p0 p1 p2 p3 : Value) (w : World) :
    CallsD Try.prog 57 #[p0, p1, p2, p3] .returning w fun e u' w' => e = .returned (.tuple #[]) ∧ u' = .returning ∧ w' = w := by
  refine callsD_of_wpS Try.func57 rfl fun c₀ cs hu => ?_
  apply wpS_seq
  apply wpS_region
  simp [wpOpsS, go_sem, recoverD, hu, Try.ntmps57, Exit.thenS]
  refine wpS_cond (t := false) (by simp [Act.eval, Array.replicate]) ?_
  simp only [Bool.false_eq_true, if_false]
  refine wpS_of_wp (wp_skip ?_)
  cases c₀
  simp_all [bodyPostS, results, Try.results57]

theorem catch_panicking (gR g g4 g5 g6 : Nat) (x5 x6 why at_ : Int) (s : Value) (cs4 : Array Value) (h17 : cs4.size = 17) (u : TypeId) (pv : Value) (older : List PanicEntry) (w : World)
    (hr : w.cell? ⟨gR, 0, none⟩ = some (.pointer (some ⟨g, 0, none⟩))) (hb : Blk w g (rdr s at_ why) 105) (h4 : Blk w g4 cs4 26)
    (h5 : Blk w g5 #[.int .i64 x5] 3) (h6 : Blk w g6 #[.int .i64 x6] 32) (n45 : g4 ≠ g5) (n46 : g4 ≠ g6) (n56 : g5 ≠ g6) :
    CallsD Try.prog 57 #[.pointer (some ⟨gR, 0, none⟩), .pointer (some ⟨g4, 0, none⟩), .pointer (some ⟨g5, 0, none⟩), .pointer (some ⟨g6, 0, none⟩)] (.panicking ({ v := .iface u pv, recovered := false } :: older)) w fun e u' w' =>
      e = .returned (.tuple #[]) ∧ u' = .panicking ({ v := .iface u pv, recovered := true } :: older) ∧ w' = ((w.setRow g4 (Fr.zero.cs nilS nilS)).setCell ⟨g5, 0, none⟩ (.int .i64 0)).setCell ⟨g6, 0, none⟩ (.int .i64 why) := by
  have c2 := hb.cell 2 (.int .i64 why) rfl
  have H4 := hide h4
  have b5 := h5.rowO g4 (Fr.zero.cs nilS nilS) n45
  have b6 := (h6.rowO g4 (Fr.zero.cs nilS nilS) n46).setO g5 0 (.int .i64 0) n56
  have c5 := b5.cell 0 (.int .i64 x5) rfl
  have t5 := b5.thaws
  have c6 := b6.cell 0 (.int .i64 x6) rfl
  have t6 := b6.thaws
  have HH := hide h17
  clear h4 h5 h6 hb b5 b6 h17
  refine callsD_of_wpS Try.func57 rfl fun c₀ cs hu => ?_
  apply wpS_seq
  apply wpS_region
  simp [wpOpsS, go_sem, recoverD, hu, Try.ntmps57, Exit.thenS]
  refine wpS_cond (t := true) (by simp [Act.eval, Array.replicate]) ?_
  simp only [if_true]
  refine wpS_of_wp ?_
  have et : (#[Value.pointer (some ⟨gR, 0, none⟩), .pointer (some ⟨g4, 0, none⟩), .pointer (some ⟨g5, 0, none⟩), .pointer (some ⟨g6, 0, none⟩)] ++ ((Array.replicate 7 undef).setIfInBounds 0 (Value.iface u pv)).setIfInBounds 1 (Value.bool true)) = #[Value.pointer (some ⟨gR, 0, none⟩), .pointer (some ⟨g4, 0, none⟩), .pointer (some ⟨g5, 0, none⟩), .pointer (some ⟨g6, 0, none⟩), .iface u pv, .bool true, undef, undef, undef, undef, undef] := rfl
  rw [et]
  clear et
  go_wp2_with (first | (refine wpList_store_row rfl _ _ _ rfl g4 (Fr.zero.cs nilS nilS) rfl rfl 26 _ (unhide H4) Try.size26 (by rw [unhide HH]; rfl) (one17 _ _ _ rfl rfl) ?_))
  simp_all [bodyPostS, results, Try.results57]
end Go.Proofs.Ytggjeamondampaa
