/- What came in: a step, and Turns, by value. -/
import Derived.Test.YtmcodfkmdpbjiaaJI
namespace Go.Proofs.Ytmcodfkmdpbjiaa
open Go.ChangeShapes Go.WideShapes Go.ChangeAt Go.RowKit
set_option linter.unusedVariables false
set_option maxRecDepth 100000
set_option maxHeartbeats 1000000
section
variable {H : Type} {enc : TypeId × Value → H} {w : World} {base : Nat} {spare : Nat → Bool} {held : Bool}
theorem open_op {v : Value} {r : Reach} {b0 : Nat} (hv : Value.okWide Try.prog w r b0 36 v) {d : DataW H} {ps : List MemPlace} (hd : DataW.Trod enc Try.prog w base (fun _ => true) held 36 v d ps) :
    ∃ (x : OpE), v = .agg #[.bool x.rs, .int .i64 x.h, .int .i64 x.now, .int .i64 x.latest, .int .i64 x.delay] := by
  have cP : Try.prog.cellsOf 36 = 5 := by kernel_rfl
  simp only [Value.okWide, Try.underlying36] at hv
  obtain ⟨cs, rfl, hs, -⟩ := hv
  rw [cP] at hs
  obtain ⟨fuel, hf⟩ := hd
  obtain ⟨cs⟩ := cs
  have hl : cs.length = 5 := hs
  have hf' : DataW.trod enc Try.prog w base (fun _ => true) held fuel 36 cs = some (d, ps) := by simpa [Value.cells] using hf
  obtain ⟨x, -, e⟩ := op_cells hf' hl
  exact ⟨x, by rw [e]; rfl⟩
theorem open_turns {v : Value} {r : Reach} {b0 : Nat} (hv : Value.okWide Try.prog w r b0 42 v) {d : DataW H} {ps : List MemPlace} (hd : DataW.Trod enc Try.prog w base (fun _ => true) held 42 v d ps) :
    ∃ (c m : Int), v = .agg #[.int .i64 c, .int .i64 m] ∧ i64B c ∧ i64B m := by
  have cP : Try.prog.cellsOf 42 = 2 := by kernel_rfl
  have c3 : Try.prog.cellsOf 3 = 1 := by kernel_rfl
  have c2 : Try.prog.cellsOf 2 = 1 := by kernel_rfl
  simp only [Value.okWide, Try.underlying42] at hv
  obtain ⟨cs, rfl, hs, -⟩ := hv
  rw [cP] at hs
  obtain ⟨fuel, hf⟩ := hd
  obtain ⟨cs⟩ := cs
  match cs, hs with
  | [v0, v1], _ =>
    have hf' : DataW.trod enc Try.prog w base (fun _ => true) held fuel 42 [v0, v1] = some (d, ps) := by simpa [Value.cells] using hf
    obtain ⟨xs, m, -, hx, -, hxl, hff⟩ := DataW.trod_struct Try.underlying42 hf'
    match xs, hxl with
    | [y0, y1], _ =>
      have f0 := hff 0 _ rfl
      have f1 := hff 1 _ rfl
      simp [c2, c3] at f0 f1
      obtain ⟨a0, e0, _, r0⟩ := DataW.trod_int Try.underlying3 f0
      obtain ⟨a1, e1, _, r1⟩ := DataW.trod_int Try.underlying2 f1
      simp only [List.cons.injEq, and_true] at e0 e1
      subst e0 e1
      exact ⟨a0, a1, rfl, wf_i64 r0, wf_i64 r1⟩
end
end Go.Proofs.Ytmcodfkmdpbjiaa
