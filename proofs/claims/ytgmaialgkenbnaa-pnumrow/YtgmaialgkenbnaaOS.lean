/- A row of steps that came in, opened. -/
import Derived.Test.YtgmaialgkenbnaaRows
import Derived.ProofKit
import Derived.OpenShut
import Derived.ShutString
import Derived.ChangeOld
import Derived.SizedLaws
import Derived.Deep.Slices
namespace Go.Proofs.Ytgmaialgkenbnaa
open Go.ChangeShapes Go.WideShapes Go.ChangeAt Go.RowKit
set_option linter.unusedVariables false
set_option maxRecDepth 100000

/-- A row of steps that came in. -/
def IsSteps (w : World) (a : Option Addr) (len cap : Nat) : Prop :=
  len ≤ cap ∧ cap ≤ maxLen ∧ (len = 0 ∨ ∃ b off, a = some ⟨b, off, none⟩ ∧ ∀ i, i < len → ∃ (g : Int) (c k : Bool), w.cell? ⟨b, off + i * 3, none⟩ = some (.int .u32 g) ∧ w.cell? ⟨b, off + i * 3 + 1, none⟩ = some (.bool c) ∧ w.cell? ⟨b, off + i * 3 + 2, none⟩ = some (.bool k) ∧ 0 ≤ g ∧ g < 4294967296)

theorem wf_u32 {z : Int} (h : (Lit.int .u32 z).wf = true) : 0 ≤ z ∧ z ≤ 4294967295 := by
  simp [Lit.wf, IntKind.min, IntKind.max] at h
  exact ⟨of_decide_eq_true h.1, of_decide_eq_true h.2⟩

section
variable {H : Type} {enc : TypeId × Value → H} {w : World} {base : Nat} {spare : Nat → Bool} {held : Bool}

theorem step_cells {n : Nat} {cs : List Value} {y : DataW H × List MemPlace} (h2 : DataW.trod enc Try.prog w base spare held n 45 cs = some y) (hl : cs.length = 3) :
    ∃ (g : Int) (c k : Bool), cs = [.int .u32 g, .bool c, .bool k] ∧ 0 ≤ g ∧ g < 4294967296 := by
  obtain ⟨xs, m, hk, hxy, hcl, hxl, hf⟩ := DataW.trod_struct Try.underlying45 h2
  have c3 : Try.prog.cellsOf 30 = 1 := by kernel_rfl
  have c2 : Try.prog.cellsOf 4 = 1 := by kernel_rfl
  match xs, hxl, cs, hl with
  | [y0, y1, y2], _, [v0, v1, v2], _ =>
    have f0 := hf 0 _ rfl
    have f1 := hf 1 _ rfl
    have f2 := hf 2 _ rfl
    simp [c2, c3] at f0 f1 f2
    obtain ⟨g, e0, _, r0⟩ := DataW.trod_int Try.underlying30 f0
    obtain ⟨c, e1, _⟩ := DataW.trod_bool Try.underlying4 f1
    obtain ⟨k, e2, _⟩ := DataW.trod_bool Try.underlying4 f2
    simp only [List.cons.injEq, and_true] at e0 e1 e2
    subst e0 e1 e2
    have := wf_u32 r0
    exact ⟨g, c, k, rfl, by omega, by omega⟩

theorem open_steps {a : Option Addr} {len cap fuel : Nat} {x : DataW H × List MemPlace} (hf : DataW.trod enc Try.prog w base spare held fuel 43 [.slice a len cap] = some x) : IsSteps w a len cap := by
  have c4 : Try.prog.cellsOf 45 = 3 := by kernel_rfl
  rcases Go.Deep.open_slice Try.underlying43 hf with ⟨hcs, _⟩ | ⟨ad, l, c, m, n, D, Pl, hcs, _, hl, hm, hmm, _, hx⟩
  · simp at hcs
    obtain ⟨rfl, rfl, rfl⟩ := hcs
    exact ⟨Nat.le_refl _, Nat.zero_le _, .inl rfl⟩
  · simp at hcs
    obtain ⟨rfl, rfl, rfl⟩ := hcs
    refine ⟨hl, hm, ?_⟩
    by_cases h0 : len = 0
    · exact .inl h0
    · right
      have hlm : len ≤ m := by rw [hmm]; split <;> omega
      have each : ∀ i, i < len → ∃ (g : Int) (c k : Bool), (∀ j v, [Value.int .u32 g, .bool c, .bool k][j]? = some v → w.cell? (ad.add (i * 3) |>.add j) = some v) ∧ 0 ≤ g ∧ g < 4294967296 := fun i hi => by
        obtain ⟨cs', h1, h2⟩ := hx i (by omega)
        rw [c4] at h1
        obtain ⟨_, hlen, hcell⟩ := World.cells?_some h1
        obtain ⟨g, c, k, rfl, r⟩ := step_cells h2 hlen
        exact ⟨g, c, k, fun j v hj => by rw [hcell j (by have := (List.getElem?_eq_some_iff.1 hj).1; simpa using this)]; exact hj, r⟩
      obtain ⟨g, c, k, hc, _⟩ := each 0 (by omega)
      have hs : ad.spot = none := by
        have := hc 0 _ rfl
        unfold World.cell? at this
        split at this
        · split at this
          · cases this
          · rename_i hsp
            cases hsq : ad.spot with
            | none => rfl
            | some q => simp [Addr.add, hsq] at hsp
        · cases this
      obtain ⟨bb, off, sp⟩ := ad
      simp only at hs
      subst hs
      refine ⟨bb, off, rfl, fun i hi => ?_⟩
      obtain ⟨g, c, k, hc, r⟩ := each i hi
      have q0 := hc 0 _ rfl
      have q1 := hc 1 _ rfl
      have q2 := hc 2 _ rfl
      simp only [Addr.add_lit, Nat.add_zero] at q0 q1 q2
      exact ⟨g, c, k, q0, q1, q2, r⟩
end
end Go.Proofs.Ytgmaialgkenbnaa
