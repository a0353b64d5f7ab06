/- A list of steps that came in, opened. -/
import Derived.Test.YtbcmeaebjngapaaRows
import Derived.ProofKit
import Derived.OpenShut
import Derived.ShutString
import Derived.ChangeOld
import Derived.SizedLaws
import Derived.Deep.Slices
namespace Go.Proofs.Ytbcmeaebjngapaa
open Go.ChangeShapes Go.WideShapes Go.ChangeAt Go.RowKit
set_option linter.unusedVariables false
set_option maxRecDepth 100000

/-- A list of steps that came in. -/
def IsOps (w : World) (a : Option Addr) (len cap : Nat) : Prop :=
  len ≤ cap ∧ cap ≤ maxLen ∧ (len = 0 ∨ ∃ b off, a = some ⟨b, off, none⟩ ∧ ∀ i, i < len → ∃ k h lo hi : Int, w.cell? ⟨b, off + i * 4, none⟩ = some (.int .i64 k) ∧ w.cell? ⟨b, off + i * 4 + 1, none⟩ = some (.int .i64 h) ∧ w.cell? ⟨b, off + i * 4 + 2, none⟩ = some (.int .i64 lo) ∧ w.cell? ⟨b, off + i * 4 + 3, none⟩ = some (.int .i64 hi) ∧ -9223372036854775808 ≤ lo ∧ lo ≤ 9223372036854775807 ∧ -9223372036854775808 ≤ hi ∧ hi ≤ 9223372036854775807)


theorem wf_i64 {z : Int} (h : (Lit.int .i64 z).wf = true) : -9223372036854775808 ≤ z ∧ z ≤ 9223372036854775807 := by
  simp [Lit.wf, IntKind.min, IntKind.max] at h
  exact ⟨of_decide_eq_true h.1, of_decide_eq_true h.2⟩

section
variable {H : Type} {enc : TypeId × Value → H} {w : World} {base : Nat} {spare : Nat → Bool} {held : Bool}

theorem op_cells {n : Nat} {cs : List Value} {y : DataW H × List MemPlace} (h2 : DataW.trod enc Try.prog w base spare held n 40 cs = some y) (hl : cs.length = 4) :
    ∃ k h lo hi : Int, cs = [.int .i64 k, .int .i64 h, .int .i64 lo, .int .i64 hi] ∧ -9223372036854775808 ≤ lo ∧ lo ≤ 9223372036854775807 ∧ -9223372036854775808 ≤ hi ∧ hi ≤ 9223372036854775807 := by
  obtain ⟨xs, m, hk, hxy, hcl, hxl, hf⟩ := DataW.trod_struct Try.underlying40 h2
  have c3 : Try.prog.cellsOf 3 = 1 := by kernel_rfl
  have c2 : Try.prog.cellsOf 2 = 1 := by kernel_rfl
  match xs, hxl, cs, hl with
  | [y0, y1, y2, y3], _, [v0, v1, v2, v3], _ =>
    have f0 := hf 0 _ rfl
    have f1 := hf 1 _ rfl
    have f2 := hf 2 _ rfl
    have f3 := hf 3 _ rfl
    simp [c2, c3] at f0 f1 f2 f3
    obtain ⟨k, e0, _, _⟩ := DataW.trod_int Try.underlying3 f0
    obtain ⟨h, e1, _, _⟩ := DataW.trod_int Try.underlying3 f1
    obtain ⟨lo, e2, _, r2⟩ := DataW.trod_int Try.underlying2 f2
    obtain ⟨hi, e3, _, r3⟩ := DataW.trod_int Try.underlying2 f3
    simp only [List.cons.injEq, and_true] at e0 e1 e2 e3
    subst e0 e1 e2 e3
    exact ⟨k, h, lo, hi, rfl, (wf_i64 r2).1, (wf_i64 r2).2, (wf_i64 r3).1, (wf_i64 r3).2⟩

theorem open_ops {a : Option Addr} {len cap fuel : Nat} {x : DataW H × List MemPlace} (hf : DataW.trod enc Try.prog w base spare held fuel 22 [.slice a len cap] = some x) : IsOps w a len cap := by
  have c4 : Try.prog.cellsOf 40 = 4 := by kernel_rfl
  rcases Go.Deep.open_slice Try.underlying22 hf with ⟨hcs, _⟩ | ⟨ad, l, c, m, n, D, Pl, hcs, _, hl, hm, hmm, _, hx⟩
  · simp at hcs
    obtain ⟨rfl, rfl, rfl⟩ := hcs
    exact ⟨Nat.le_refl _, Nat.zero_le _, .inl rfl⟩
  · simp at hcs
    obtain ⟨rfl, rfl, rfl⟩ := hcs
    refine ⟨hl, hm, ?_⟩
    by_cases h0 : len = 0
    · exact .inl h0
    · right
      have hlm : len ≤ m := by rw [hmm]; split <;> omega
      have each : ∀ i, i < len → ∃ k h lo hi : Int, (∀ j v, [Value.int .i64 k, .int .i64 h, .int .i64 lo, .int .i64 hi][j]? = some v → w.cell? (ad.add (i * 4) |>.add j) = some v) ∧ -9223372036854775808 ≤ lo ∧ lo ≤ 9223372036854775807 ∧ -9223372036854775808 ≤ hi ∧ hi ≤ 9223372036854775807 := fun i hi => by
        obtain ⟨cs', h1, h2⟩ := hx i (by omega)
        rw [c4] at h1
        obtain ⟨_, hlen, hcell⟩ := World.cells?_some h1
        obtain ⟨k, h, lo, hi', rfl, r⟩ := op_cells h2 hlen
        exact ⟨k, h, lo, hi', fun j v hj => by rw [hcell j (by have := (List.getElem?_eq_some_iff.1 hj).1; simpa using this)]; exact hj, r⟩
      obtain ⟨k, h, lo, hi, hc, _⟩ := each 0 (by omega)
      have hs : ad.spot = none := by
        have := hc 0 _ rfl
        unfold World.cell? at this
        split at this
        · split at this
          · cases this
          · rename_i hsp
            cases hsq : ad.spot with
            | none => rfl
            | some q => simp [Addr.add, hsq] at hsp
        · cases this
      obtain ⟨bb, off, sp⟩ := ad
      simp only at hs
      subst hs
      refine ⟨bb, off, rfl, fun i hi => ?_⟩
      obtain ⟨k, h, lo, hi', hc, r⟩ := each i hi
      have q0 := hc 0 _ rfl
      have q1 := hc 1 _ rfl
      have q2 := hc 2 _ rfl
      have q3 := hc 3 _ rfl
      simp only [Addr.add_lit, Nat.add_zero] at q0 q1 q2 q3
      exact ⟨k, h, lo, hi', q0, q1, q2, q3, r⟩
end
end Go.Proofs.Ytbcmeaebjngapaa
