/- A script that came in; a pacer that a call has made. -/
import Derived.Test.YtlfldbagbafjfaaUD
import Derived.Test.YtlfldbagbafjfaaUD2
import Derived.ProofKit
import Derived.OpenShut
import Derived.ShutString
import Derived.ChangeOld
import Derived.SizedLaws
import Derived.Deep.Slices
namespace Go.Proofs.Ytlfldbagbafjfaa
open Go.ChangeShapes Go.WideShapes Go.ChangeAt Go.RowKit
set_option linter.unusedVariables false
set_option maxRecDepth 100000
set_option maxHeartbeats 1000000

/-- A step of a script. -/
structure OpE where
  kind : Int
  h : Int
  now : Int
  size : Int
  smooth : Int
abbrev i64B (x : Int) : Prop := -9223372036854775808 ≤ x ∧ x ≤ 9223372036854775807
structure OpE.Ok (x : OpE) : Prop where
  k : i64B x.kind
  h : i64B x.h
  w : i64B x.now
  n : i64B x.size
  m : i64B x.smooth
def OpE.cs (x : OpE) : List Value := [.int .i64 x.kind, .int .i64 x.h, .int .i64 x.now, .int .i64 x.size, .int .i64 x.smooth]
/-- A script that came in. -/
structure IsOps (w : World) (a : Option Addr) (len cap : Nat) (ol : List OpE) : Prop where
  hlen : ol.length = len
  hcap : len ≤ cap ∧ cap ≤ 9223372036854775807
  ok : ∀ x ∈ ol, x.Ok
  cell : len = 0 ∨ ∃ b off, a = some ⟨b, off, none⟩ ∧ ∀ i x, ol[i]? = some x → ∀ j v, x.cs[j]? = some v → w.cell? ⟨b, off + i * 5 + j, none⟩ = some v
theorem IsOps.keep {w w' : World} {a : Option Addr} {len cap : Nat} {ol : List OpE} (h : IsOps w a len cap ol) (hg : w.grownBy w' none) : IsOps w' a len cap ol :=
  ⟨h.hlen, h.hcap, h.ok, h.cell.imp id fun ⟨b, off, e, hc⟩ => ⟨b, off, e, fun i x hi j v hj => cell_grown (hc i x hi j v hj) hg⟩⟩

/-- A list of numbers that came in. -/
structure IsInts (w : World) (a : Option Addr) (len cap : Nat) (ol : List Int) : Prop where
  hlen : ol.length = len
  hcap : len ≤ cap ∧ cap ≤ 9223372036854775807
  ok : ∀ x ∈ ol, i64B x
  cell : len = 0 ∨ ∃ b off, a = some ⟨b, off, none⟩ ∧ ∀ i x, ol[i]? = some x → w.cell? ⟨b, off + i, none⟩ = some (.int .i64 x)

theorem wf_i64 {z : Int} (h : (Lit.int .i64 z).wf = true) : -9223372036854775808 ≤ z ∧ z ≤ 9223372036854775807 := by
  simp [Lit.wf, IntKind.min, IntKind.max] at h
  exact ⟨of_decide_eq_true h.1, of_decide_eq_true h.2⟩

section
variable {H : Type} {enc : TypeId × Value → H} {w : World} {base : Nat} {spare : Nat → Bool} {held : Bool}

theorem op_cells {n : Nat} {cs : List Value} {y : DataW H × List MemPlace} (h2 : DataW.trod enc Try.prog w base spare held n 37 cs = some y) (hl : cs.length = 5) : ∃ x : OpE, x.Ok ∧ cs = x.cs := by
  obtain ⟨xs, m, hk, hxy, hcl, hxl, hf⟩ := DataW.trod_struct Try.underlying37 h2
  have c3 : Try.prog.cellsOf 3 = 1 := by kernel_rfl
  have c2 : Try.prog.cellsOf 2 = 1 := by kernel_rfl
  match xs, hxl, cs, hl with
  | [y0, y1, y2, y3, y4], _, [v0, v1, v2, v3, v4], _ =>
    have f0 := hf 0 _ rfl
    have f1 := hf 1 _ rfl
    have f2 := hf 2 _ rfl
    have f3 := hf 3 _ rfl
    have f4 := hf 4 _ rfl
    simp [c2, c3] at f0 f1 f2 f3 f4
    obtain ⟨o, e0, _, r0⟩ := DataW.trod_int Try.underlying3 f0
    obtain ⟨k, e1, _, r1⟩ := DataW.trod_int Try.underlying3 f1
    obtain ⟨i, e2, _, r2⟩ := DataW.trod_int Try.underlying2 f2
    obtain ⟨a, e3, _, r3⟩ := DataW.trod_int Try.underlying2 f3
    obtain ⟨l, e4, _, r4⟩ := DataW.trod_int Try.underlying2 f4
    simp only [List.cons.injEq, and_true] at e0 e1 e2 e3 e4
    subst e0 e1 e2 e3 e4
    exact ⟨⟨o, k, i, a, l⟩, ⟨wf_i64 r0, wf_i64 r1, wf_i64 r2, wf_i64 r3, wf_i64 r4⟩, rfl⟩

theorem list_of {A : Type} {P : Nat → A → Prop} : ∀ n : Nat, (∀ i, i < n → ∃ x, P i x) → ∃ l : List A, l.length = n ∧ ∀ i x, l[i]? = some x → P i x
  | 0, _ => ⟨[], rfl, fun i x h => by simp at h⟩
  | n + 1, h => by
    obtain ⟨l, hl, hP⟩ := list_of n (fun i hi => h i (by omega))
    obtain ⟨x, hx⟩ := h n (by omega)
    refine ⟨l ++ [x], by simp [hl], fun i y hy => ?_⟩
    by_cases c : i < n
    · rw [List.getElem?_append_left (by omega)] at hy
      exact hP i y hy
    · have hi : i < (l ++ [x]).length := (List.getElem?_eq_some_iff.1 hy).1
      simp [hl] at hi
      obtain rfl : i = n := by omega
      rw [List.getElem?_append_right (by omega), hl] at hy
      simp at hy
      subst hy
      exact hx

theorem open_ops {a : Option Addr} {len cap fuel : Nat} {x : DataW H × List MemPlace} (hf : DataW.trod enc Try.prog w base spare held fuel 22 [.slice a len cap] = some x) : ∃ ol, IsOps w a len cap ol := by
  have c6 : Try.prog.cellsOf 37 = 5 := by kernel_rfl
  rcases Go.Deep.open_slice Try.underlying22 hf with ⟨hcs, _⟩ | ⟨ad, l, c, m, n, D, Pl, hcs, _, hl, hm, hmm, _, hx⟩
  · simp at hcs
    obtain ⟨rfl, rfl, rfl⟩ := hcs
    exact ⟨[], rfl, by omega, by simp, .inl rfl⟩
  · simp at hcs
    obtain ⟨rfl, rfl, rfl⟩ := hcs
    have hlm : len ≤ m := by rw [hmm]; split <;> omega
    have each : ∀ i, i < len → ∃ x : OpE, x.Ok ∧ ∀ j v, x.cs[j]? = some v → w.cell? (ad.add (i * 5) |>.add j) = some v := fun i hi => by
      obtain ⟨cs', h1, h2⟩ := hx i (by omega)
      rw [c6] at h1
      obtain ⟨_, hlen, hcell⟩ := World.cells?_some h1
      obtain ⟨x, ok, rfl⟩ := op_cells h2 hlen
      exact ⟨x, ok, fun j v hj => by rw [hcell j (by have := (List.getElem?_eq_some_iff.1 hj).1; simpa [OpE.cs] using this)]; exact hj⟩
    obtain ⟨ol, hol, hP⟩ := list_of len each
    refine ⟨ol, hol, ⟨hl, by unfold maxLen at hm; omega⟩, fun x hx => ?_, ?_⟩
    · obtain ⟨i, hi⟩ := List.getElem?_of_mem hx
      exact (hP i x hi).1
    · by_cases h0 : len = 0
      · exact .inl h0
      · right
        obtain ⟨x, ok, hc⟩ := each 0 (by omega)
        have hs : ad.spot = none := by
          have := hc 0 _ rfl
          unfold World.cell? at this
          split at this
          · split at this
            · cases this
            · rename_i hsp
              cases hsq : ad.spot with
              | none => rfl
              | some q => simp [Addr.add, hsq] at hsp
          · cases this
        obtain ⟨bb, off, sp⟩ := ad
        simp only at hs
        subst hs
        refine ⟨bb, off, rfl, fun i x hi => ?_⟩
        intro j v hj
        have := (hP i x hi).2 j v hj
        simpa only [Addr.add_lit] using this
theorem open_ints {a : Option Addr} {len cap fuel : Nat} {x : DataW H × List MemPlace} (hf : DataW.trod enc Try.prog w base spare held fuel 44 [.slice a len cap] = some x) : ∃ ol, IsInts w a len cap ol := by
  have c6 : Try.prog.cellsOf 2 = 1 := by kernel_rfl
  rcases Go.Deep.open_slice Try.underlying44 hf with ⟨hcs, _⟩ | ⟨ad, l, c, m, n, D, Pl, hcs, _, hl, hm, hmm, _, hx⟩
  · simp at hcs
    obtain ⟨rfl, rfl, rfl⟩ := hcs
    exact ⟨[], rfl, by omega, by simp, .inl rfl⟩
  · simp at hcs
    obtain ⟨rfl, rfl, rfl⟩ := hcs
    have hlm : len ≤ m := by rw [hmm]; split <;> omega
    have each : ∀ i, i < len → ∃ x : Int, i64B x ∧ w.cell? (ad.add (i * 1) |>.add 0) = some (.int .i64 x) := fun i hi => by
      obtain ⟨cs', h1, h2⟩ := hx i (by omega)
      rw [c6] at h1
      obtain ⟨_, hlen, hcell⟩ := World.cells?_some h1
      obtain ⟨x, e0, _, r0⟩ := DataW.trod_int Try.underlying2 h2
      subst e0
      refine ⟨x, wf_i64 r0, ?_⟩
      have := hcell 0 (by omega)
      simpa using this
    obtain ⟨ol, hol, hP⟩ := list_of len each
    refine ⟨ol, hol, ⟨hl, by unfold maxLen at hm; omega⟩, fun x hx => ?_, ?_⟩
    · obtain ⟨i, hi⟩ := List.getElem?_of_mem hx
      exact (hP i x hi).1
    · by_cases h0 : len = 0
      · exact .inl h0
      · right
        obtain ⟨x, ok, hc⟩ := each 0 (by omega)
        have hs : ad.spot = none := by
          have := hc
          unfold World.cell? at this
          split at this
          · split at this
            · cases this
            · rename_i hsp
              cases hsq : ad.spot with
              | none => rfl
              | some q => simp [Addr.add, hsq] at hsp
          · cases this
        obtain ⟨bb, off, sp⟩ := ad
        simp only at hs
        subst hs
        refine ⟨bb, off, rfl, fun i x hi => ?_⟩
        have := (hP i x hi).2
        simpa only [Addr.add_lit, Nat.mul_one, Nat.add_zero] using this
end
end Go.Proofs.Ytlfldbagbafjfaa
