/- What came in: bytes, with their bulk. -/
import Derived.Test.YtihhgminbmngcaaNA
import Derived.Test.YtihhgminbmngcaaBK
import Derived.ProofKit
import Derived.OpenShut
import Derived.ShutString
import Derived.ChangeOld
import Derived.SizedLaws
import Derived.Deep.Slices
namespace Go.Proofs.Ytihhgminbmngcaa
open Go.ChangeShapes Go.WideShapes Go.ChangeAt Go.RowKit
set_option linter.unusedVariables false
set_option maxRecDepth 100000
set_option maxHeartbeats 1000000

theorem wf_i64 {z : Int} (h : (Lit.int .i64 z).wf = true) : -9223372036854775808 ≤ z ∧ z ≤ 9223372036854775807 := by
  simp [Lit.wf, IntKind.min, IntKind.max] at h
  exact ⟨of_decide_eq_true h.1, of_decide_eq_true h.2⟩
theorem wf_u8 {z : Int} (h : (Lit.int .u8 z).wf = true) : 0 ≤ z ∧ z ≤ 255 := by
  simp [Lit.wf, IntKind.min, IntKind.max] at h
  exact ⟨of_decide_eq_true h.1, of_decide_eq_true h.2⟩

theorem list_gen {α : Type} {P : Nat → α → Prop} : ∀ n : Nat, (∀ i, i < n → ∃ x, P i x) → ∃ l : List α, l.length = n ∧ ∀ i x, l[i]? = some x → P i x
  | 0, _ => ⟨[], rfl, fun i x h => by simp at h⟩
  | n + 1, h => by
    obtain ⟨l, hl, hP⟩ := list_gen n (fun i hi => h i (by omega))
    obtain ⟨x, hx⟩ := h n (by omega)
    refine ⟨l ++ [x], by simp [hl], fun i y hy => ?_⟩
    by_cases c : i < n
    · rw [List.getElem?_append_left (by omega)] at hy
      exact hP i y hy
    · have hi : i < (l ++ [x]).length := (List.getElem?_eq_some_iff.1 hy).1
      simp [hl] at hi
      obtain rfl : i = n := by omega
      rw [List.getElem?_append_right (by omega), hl] at hy
      simp at hy
      subst hy
      exact hx

theorem add_0 (ad : Addr) : ad.add 0 = ad := by simp [Addr.add]
theorem spot_none {w : World} {ad : Addr} {v : Value} (h : w.cell? ad = some v) : ad.spot = none := by
  unfold World.cell? at h
  split at h
  · split at h
    · cases h
    · rename_i hsp
      simpa using hsp
  · cases h

section
variable {H : Type} {enc : TypeId × Value → H} {w : World} {base : Nat} {spare : Nat → Bool} {held : Bool}
theorem data_bulk {n : Nat} {v : Value} {y : DataW H × List MemPlace} (h : DataW.trod enc Try.prog w base spare held n 22 [v] = some y) (hw : ∀ k ∈ y.1.weights Try.prog 22, k ≤ reachBytes) :
    ∃ a l c p, v = .slice a l c ∧ p.length = l ∧ Rd w a p ∧ (l ≤ c ∧ c ≤ 9223372036854775807) ∧ l ≤ 140737488355328 ∧ l ≤ Rows.uptoBulk y.1 := by
  have c5 : Try.prog.cellsOf 5 = 1 := by kernel_rfl
  rcases Go.Deep.open_slice Try.underlying22 h with ⟨hcs, _⟩ | ⟨ad, l, c, m, nn, D, Pl, hcs, _, hl, hm, hmm, hxe, hx⟩
  · simp at hcs
    subst hcs
    exact ⟨none, 0, 0, [], rfl, rfl, ⟨fun x hx => (by cases hx), fun hne => absurd rfl hne⟩, by omega, by omega, by omega⟩
  · simp at hcs
    subst hcs
    have hlm : l ≤ m := by rw [hmm]; split <;> omega
    have each : ∀ i, i < l → ∃ x : Int, IsB x ∧ w.cell? (ad.add i) = some (.int .u8 x) := fun i hi => by
      obtain ⟨cs', h1, h2⟩ := hx i (by omega)
      rw [c5] at h1
      obtain ⟨_, hlen, hcell⟩ := World.cells?_some h1
      obtain ⟨z, e, _, r⟩ := DataW.trod_int Try.underlying5 h2
      subst e
      refine ⟨z, wf_u8 r, ?_⟩
      have := hcell 0 (by omega)
      rw [Nat.mul_one] at this
      rw [add_0] at this
      exact this
    obtain ⟨p, hp, hP⟩ := list_gen l each
    refine ⟨_, _, _, p, rfl, hp, ⟨fun x hx => ?_, fun hne => ?_⟩, ⟨hl, by unfold maxLen at hm; omega⟩, ?_, ?_⟩
    · obtain ⟨i, hi⟩ := List.getElem?_of_mem hx
      exact (hP i x hi).1
    · have h0 : 0 < l := by rw [← hp]; exact List.length_pos_iff.2 hne
      obtain ⟨x, _, hc⟩ := each 0 h0
      rw [add_0] at hc
      have hs := spot_none hc
      obtain ⟨bb, off, sp⟩ := ad
      simp only at hs
      subst hs
      refine ⟨bb, off, rfl, fun i hi => ?_⟩
      have hv : p[i]? = some (p[i]'hi) := List.getElem?_eq_getElem _
      have := (hP i _ hv).2
      rw [Addr.add_lit] at this
      rw [this]
      simp [List.getD, hv]
    · have hb : Try.prog.bytesOf 5 = 1 := by kernel_rfl
      have := hw ((m : Nat) * 1) (by
        rw [hxe]
        simp only [DataW.weights, Try.underlying22, List.mem_cons]
        left
        rw [hb]
        simp only [List.length_map, List.length_range]
        omega)
      unfold reachBytes at this
      omega
    · rw [hxe]
      have := bulk_slice (H := H) ((List.range l).map D) ((List.range (m - l)).map fun j => D (l + j))
      simp only [List.length_map, List.length_range] at this
      exact Nat.le_of_lt (Nat.lt_of_le_of_lt (Nat.le_add_right _ _) this)

end
end Go.Proofs.Ytihhgminbmngcaa
