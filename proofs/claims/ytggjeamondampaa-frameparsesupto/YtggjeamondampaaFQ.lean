/- takeOut. -/
import Derived.Test.YtggjeamondampaaFP
import Derived.Test.YtggjeamondampaaFI
namespace Go.Proofs.Ytggjeamondampaa
open Go.RowKit
set_option linter.unusedVariables false
set_option maxRecDepth 100000
set_option maxHeartbeats 2000000

def takeD (p : Nat) (d : Value) : Value := if p = 11 ∨ p = 12 ∨ p = 13 then nilS else d
def takeR (p : Nat) (r : Value) : Value := if p = 9 then nilS else r

theorem takeOut_0 (g : Nat) (f : Fr) (d r : Value) (w : World) (h : Blk w g (f.cs d r) 26) : Calls Try.prog 88 #[.pointer (some ⟨g, 0, none⟩), .int .i64 0] w fun e w' => e = .returned (.tuple #[]) ∧ Blk w' g ((takeF f 0).cs (takeD 0 d) (takeR 0 r)) 26 ∧ w.grownBy w' (some g) := by
  obtain ⟨e0, e1, e2, e3, e4, e5, e6, e7, e8, e9, e10, e11, e12, e13, e14, e15, e16⟩ := h.cells
  have th := h.thaws
  have H := hide h
  clear h
  go_enter Try.func88, Try.ntmps88
  go_wp2
  go_end0
  exact ⟨rfl, unhide H, (World.grownBy.refl _ (some g))⟩

theorem takeOut_8 (g : Nat) (f : Fr) (d r : Value) (w : World) (h : Blk w g (f.cs d r) 26) : Calls Try.prog 88 #[.pointer (some ⟨g, 0, none⟩), .int .i64 8] w fun e w' => e = .returned (.tuple #[]) ∧ Blk w' g ((takeF f 8).cs (takeD 8 d) (takeR 8 r)) 26 ∧ w.grownBy w' (some g) := by
  obtain ⟨e0, e1, e2, e3, e4, e5, e6, e7, e8, e9, e10, e11, e12, e13, e14, e15, e16⟩ := h.cells
  have th := h.thaws
  have H := hide h
  clear h
  go_enter Try.func88, Try.ntmps88
  go_wp2
  go_end0
  exact ⟨rfl, unhide H, (World.grownBy.refl _ (some g))⟩

theorem takeOut_9 (g : Nat) (f : Fr) (d r : Value) (w : World) (h : Blk w g (f.cs d r) 26) : Calls Try.prog 88 #[.pointer (some ⟨g, 0, none⟩), .int .i64 9] w fun e w' => e = .returned (.tuple #[]) ∧ Blk w' g ((takeF f 9).cs (takeD 9 d) (takeR 9 r)) 26 ∧ w.grownBy w' (some g) := by
  obtain ⟨e0, e1, e2, e3, e4, e5, e6, e7, e8, e9, e10, e11, e12, e13, e14, e15, e16⟩ := h.cells
  have th := h.thaws
  have H := hide h
  clear h
  go_enter Try.func88, Try.ntmps88
  go_wp2
  go_end0
  exact ⟨rfl, (unhide H).setC 12 nilS, grown_at (World.grownBy.refl _ (some g)) 12 _⟩

theorem takeOut_10 (g : Nat) (f : Fr) (d r : Value) (w : World) (h : Blk w g (f.cs d r) 26) : Calls Try.prog 88 #[.pointer (some ⟨g, 0, none⟩), .int .i64 10] w fun e w' => e = .returned (.tuple #[]) ∧ Blk w' g ((takeF f 10).cs (takeD 10 d) (takeR 10 r)) 26 ∧ w.grownBy w' (some g) := by
  obtain ⟨e0, e1, e2, e3, e4, e5, e6, e7, e8, e9, e10, e11, e12, e13, e14, e15, e16⟩ := h.cells
  have th := h.thaws
  have H := hide h
  clear h
  go_enter Try.func88, Try.ntmps88
  go_wp2
  go_end0
  exact ⟨rfl, (((unhide H).setC 14 (.int .i64 0)).setC 15 (.int .i64 0)).setC 16 (.int .i64 0), grown_at (grown_at (grown_at (World.grownBy.refl _ (some g)) 14 _) 15 _) 16 _⟩

theorem takeOut_11 (g : Nat) (f : Fr) (d r : Value) (w : World) (h : Blk w g (f.cs d r) 26) : Calls Try.prog 88 #[.pointer (some ⟨g, 0, none⟩), .int .i64 11] w fun e w' => e = .returned (.tuple #[]) ∧ Blk w' g ((takeF f 11).cs (takeD 11 d) (takeR 11 r)) 26 ∧ w.grownBy w' (some g) := by
  obtain ⟨e0, e1, e2, e3, e4, e5, e6, e7, e8, e9, e10, e11, e12, e13, e14, e15, e16⟩ := h.cells
  have th := h.thaws
  have H := hide h
  clear h
  go_enter Try.func88, Try.ntmps88
  go_wp2
  go_end0
  exact ⟨rfl, (unhide H).setC 3 nilS, grown_at (World.grownBy.refl _ (some g)) 3 _⟩

theorem takeOut_12 (g : Nat) (f : Fr) (d r : Value) (w : World) (h : Blk w g (f.cs d r) 26) : Calls Try.prog 88 #[.pointer (some ⟨g, 0, none⟩), .int .i64 12] w fun e w' => e = .returned (.tuple #[]) ∧ Blk w' g ((takeF f 12).cs (takeD 12 d) (takeR 12 r)) 26 ∧ w.grownBy w' (some g) := by
  obtain ⟨e0, e1, e2, e3, e4, e5, e6, e7, e8, e9, e10, e11, e12, e13, e14, e15, e16⟩ := h.cells
  have th := h.thaws
  have H := hide h
  clear h
  go_enter Try.func88, Try.ntmps88
  go_wp2
  go_end0
  exact ⟨rfl, (unhide H).setC 3 nilS, grown_at (World.grownBy.refl _ (some g)) 3 _⟩

theorem takeOut_13 (g : Nat) (f : Fr) (d r : Value) (w : World) (h : Blk w g (f.cs d r) 26) : Calls Try.prog 88 #[.pointer (some ⟨g, 0, none⟩), .int .i64 13] w fun e w' => e = .returned (.tuple #[]) ∧ Blk w' g ((takeF f 13).cs (takeD 13 d) (takeR 13 r)) 26 ∧ w.grownBy w' (some g) := by
  obtain ⟨e0, e1, e2, e3, e4, e5, e6, e7, e8, e9, e10, e11, e12, e13, e14, e15, e16⟩ := h.cells
  have th := h.thaws
  have H := hide h
  clear h
  go_enter Try.func88, Try.ntmps88
  go_wp2
  go_end0
  exact ⟨rfl, (unhide H).setC 3 nilS, grown_at (World.grownBy.refl _ (some g)) 3 _⟩

theorem takeOut_1 (g : Nat) (f : Fr) (d r : Value) (w : World) (h : Blk w g (f.cs d r) 26) : Calls Try.prog 88 #[.pointer (some ⟨g, 0, none⟩), .int .i64 1] w fun e w' => e = .returned (.tuple #[]) ∧ Blk w' g ((takeF f 1).cs (takeD 1 d) (takeR 1 r)) 26 ∧ w.grownBy w' (some g) := by
  obtain ⟨e0, e1, e2, e3, e4, e5, e6, e7, e8, e9, e10, e11, e12, e13, e14, e15, e16⟩ := h.cells
  have th := h.thaws
  have H := hide h
  have hfi : ∀ W, Calls Try.prog 70 #[.pointer (some ⟨g, 0, none⟩), .int .i64 1] W fun e w' => e = .returned (.pointer (some ⟨g, 1, none⟩)) ∧ w' = W := fun W => field_any _ 1 W (by omega)
  clear h
  go_enter Try.func88, Try.ntmps88
  go_wp2_with (first | (go_at_call 70; refine (hfi _).mono ?_; rintro e W1 ⟨rfl, hw⟩; subst hw))
  go_end0
  exact ⟨rfl, (unhide H).setC 1 (.int .i64 0), grown_at (World.grownBy.refl _ (some g)) 1 _⟩

theorem takeOut_2 (g : Nat) (f : Fr) (d r : Value) (w : World) (h : Blk w g (f.cs d r) 26) : Calls Try.prog 88 #[.pointer (some ⟨g, 0, none⟩), .int .i64 2] w fun e w' => e = .returned (.tuple #[]) ∧ Blk w' g ((takeF f 2).cs (takeD 2 d) (takeR 2 r)) 26 ∧ w.grownBy w' (some g) := by
  obtain ⟨e0, e1, e2, e3, e4, e5, e6, e7, e8, e9, e10, e11, e12, e13, e14, e15, e16⟩ := h.cells
  have th := h.thaws
  have H := hide h
  have hfi : ∀ W, Calls Try.prog 70 #[.pointer (some ⟨g, 0, none⟩), .int .i64 2] W fun e w' => e = .returned (.pointer (some ⟨g, 2, none⟩)) ∧ w' = W := fun W => field_any _ 2 W (by omega)
  clear h
  go_enter Try.func88, Try.ntmps88
  go_wp2_with (first | (go_at_call 70; refine (hfi _).mono ?_; rintro e W1 ⟨rfl, hw⟩; subst hw))
  go_end0
  exact ⟨rfl, (unhide H).setC 2 (.int .i64 0), grown_at (World.grownBy.refl _ (some g)) 2 _⟩

theorem takeOut_3 (g : Nat) (f : Fr) (d r : Value) (w : World) (h : Blk w g (f.cs d r) 26) : Calls Try.prog 88 #[.pointer (some ⟨g, 0, none⟩), .int .i64 3] w fun e w' => e = .returned (.tuple #[]) ∧ Blk w' g ((takeF f 3).cs (takeD 3 d) (takeR 3 r)) 26 ∧ w.grownBy w' (some g) := by
  obtain ⟨e0, e1, e2, e3, e4, e5, e6, e7, e8, e9, e10, e11, e12, e13, e14, e15, e16⟩ := h.cells
  have th := h.thaws
  have H := hide h
  have hfi : ∀ W, Calls Try.prog 70 #[.pointer (some ⟨g, 0, none⟩), .int .i64 3] W fun e w' => e = .returned (.pointer (some ⟨g, 7, none⟩)) ∧ w' = W := fun W => field_any _ 3 W (by omega)
  clear h
  go_enter Try.func88, Try.ntmps88
  go_wp2_with (first | (go_at_call 70; refine (hfi _).mono ?_; rintro e W1 ⟨rfl, hw⟩; subst hw))
  go_end0
  exact ⟨rfl, (unhide H).setC 7 (.int .i64 0), grown_at (World.grownBy.refl _ (some g)) 7 _⟩

theorem takeOut_4 (g : Nat) (f : Fr) (d r : Value) (w : World) (h : Blk w g (f.cs d r) 26) : Calls Try.prog 88 #[.pointer (some ⟨g, 0, none⟩), .int .i64 4] w fun e w' => e = .returned (.tuple #[]) ∧ Blk w' g ((takeF f 4).cs (takeD 4 d) (takeR 4 r)) 26 ∧ w.grownBy w' (some g) := by
  obtain ⟨e0, e1, e2, e3, e4, e5, e6, e7, e8, e9, e10, e11, e12, e13, e14, e15, e16⟩ := h.cells
  have th := h.thaws
  have H := hide h
  have hfi : ∀ W, Calls Try.prog 70 #[.pointer (some ⟨g, 0, none⟩), .int .i64 4] W fun e w' => e = .returned (.pointer (some ⟨g, 7, none⟩)) ∧ w' = W := fun W => field_any _ 4 W (by omega)
  clear h
  go_enter Try.func88, Try.ntmps88
  go_wp2_with (first | (go_at_call 70; refine (hfi _).mono ?_; rintro e W1 ⟨rfl, hw⟩; subst hw))
  go_end0
  exact ⟨rfl, (unhide H).setC 7 (.int .i64 0), grown_at (World.grownBy.refl _ (some g)) 7 _⟩

theorem takeOut_5 (g : Nat) (f : Fr) (d r : Value) (w : World) (h : Blk w g (f.cs d r) 26) : Calls Try.prog 88 #[.pointer (some ⟨g, 0, none⟩), .int .i64 5] w fun e w' => e = .returned (.tuple #[]) ∧ Blk w' g ((takeF f 5).cs (takeD 5 d) (takeR 5 r)) 26 ∧ w.grownBy w' (some g) := by
  obtain ⟨e0, e1, e2, e3, e4, e5, e6, e7, e8, e9, e10, e11, e12, e13, e14, e15, e16⟩ := h.cells
  have th := h.thaws
  have H := hide h
  have hfi : ∀ W, Calls Try.prog 70 #[.pointer (some ⟨g, 0, none⟩), .int .i64 5] W fun e w' => e = .returned (.pointer (some ⟨g, 9, none⟩)) ∧ w' = W := fun W => field_any _ 5 W (by omega)
  clear h
  go_enter Try.func88, Try.ntmps88
  go_wp2_with (first | (go_at_call 70; refine (hfi _).mono ?_; rintro e W1 ⟨rfl, hw⟩; subst hw))
  go_end0
  exact ⟨rfl, (unhide H).setC 9 (.int .i64 0), grown_at (World.grownBy.refl _ (some g)) 9 _⟩

theorem takeOut_6 (g : Nat) (f : Fr) (d r : Value) (w : World) (h : Blk w g (f.cs d r) 26) : Calls Try.prog 88 #[.pointer (some ⟨g, 0, none⟩), .int .i64 6] w fun e w' => e = .returned (.tuple #[]) ∧ Blk w' g ((takeF f 6).cs (takeD 6 d) (takeR 6 r)) 26 ∧ w.grownBy w' (some g) := by
  obtain ⟨e0, e1, e2, e3, e4, e5, e6, e7, e8, e9, e10, e11, e12, e13, e14, e15, e16⟩ := h.cells
  have th := h.thaws
  have H := hide h
  have hfi : ∀ W, Calls Try.prog 70 #[.pointer (some ⟨g, 0, none⟩), .int .i64 6] W fun e w' => e = .returned (.pointer (some ⟨g, 4, none⟩)) ∧ w' = W := fun W => field_any _ 6 W (by omega)
  clear h
  go_enter Try.func88, Try.ntmps88
  go_wp2_with (first | (go_at_call 70; refine (hfi _).mono ?_; rintro e W1 ⟨rfl, hw⟩; subst hw))
  go_end0
  exact ⟨rfl, (unhide H).setC 4 (.int .i64 0), grown_at (World.grownBy.refl _ (some g)) 4 _⟩

theorem takeOut_7 (g : Nat) (f : Fr) (d r : Value) (w : World) (h : Blk w g (f.cs d r) 26) : Calls Try.prog 88 #[.pointer (some ⟨g, 0, none⟩), .int .i64 7] w fun e w' => e = .returned (.tuple #[]) ∧ Blk w' g ((takeF f 7).cs (takeD 7 d) (takeR 7 r)) 26 ∧ w.grownBy w' (some g) := by
  obtain ⟨e0, e1, e2, e3, e4, e5, e6, e7, e8, e9, e10, e11, e12, e13, e14, e15, e16⟩ := h.cells
  have th := h.thaws
  have H := hide h
  have hfi : ∀ W, Calls Try.prog 70 #[.pointer (some ⟨g, 0, none⟩), .int .i64 7] W fun e w' => e = .returned (.pointer (some ⟨g, 11, none⟩)) ∧ w' = W := fun W => field_any _ 7 W (by omega)
  clear h
  go_enter Try.func88, Try.ntmps88
  go_wp2_with (first | (go_at_call 70; refine (hfi _).mono ?_; rintro e W1 ⟨rfl, hw⟩; subst hw))
  go_end0
  exact ⟨rfl, (unhide H).setC 11 (.int .i64 0), grown_at (World.grownBy.refl _ (some g)) 11 _⟩

theorem takeOut_14 (g : Nat) (f : Fr) (d r : Value) (w : World) (h : Blk w g (f.cs d r) 26) : Calls Try.prog 88 #[.pointer (some ⟨g, 0, none⟩), .int .i64 14] w fun e w' => e = .returned (.tuple #[]) ∧ Blk w' g ((takeF f 14).cs (takeD 14 d) (takeR 14 r)) 26 ∧ w.grownBy w' (some g) := by
  obtain ⟨e0, e1, e2, e3, e4, e5, e6, e7, e8, e9, e10, e11, e12, e13, e14, e15, e16⟩ := h.cells
  have th := h.thaws
  have H := hide h
  have hfi : ∀ W, Calls Try.prog 70 #[.pointer (some ⟨g, 0, none⟩), .int .i64 14] W fun e w' => e = .returned (.pointer (some ⟨g, 4, none⟩)) ∧ w' = W := fun W => field_any _ 14 W (by omega)
  clear h
  go_enter Try.func88, Try.ntmps88
  go_wp2_with (first | (go_at_call 70; refine (hfi _).mono ?_; rintro e W1 ⟨rfl, hw⟩; subst hw))
  go_end0
  exact ⟨rfl, (unhide H).setC 4 (.int .i64 0), grown_at (World.grownBy.refl _ (some g)) 4 _⟩

end Go.Proofs.Ytggjeamondampaa
