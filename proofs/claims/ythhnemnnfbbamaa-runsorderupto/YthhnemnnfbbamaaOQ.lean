/- A list of runs that came in, opened. -/
import Derived.Test.YthhnemnnfbbamaaTE
import Derived.Test.YthhnemnnfbbamaaTB0
import Derived.Test.YthhnemnnfbbamaaBK
import Derived.Test.YthhnemnnfbbamaaOP
namespace Go.Proofs.Ythhnemnnfbbamaa
open Go.ChangeShapes Go.WideShapes Go.ChangeAt Go.RowKit
set_option linter.unusedVariables false
set_option maxRecDepth 100000

theorem list_of {α : Type} (d : α) (n : Nat) (p : Nat → α → Prop) (h : ∀ i, i < n → ∃ s, p i s) : ∃ L : List α, L.length = n ∧ ∀ i, i < n → p i (L.getD i d) := by
  induction n with
  | zero => exact ⟨[], rfl, fun i hi => by omega⟩
  | succ n ih =>
    obtain ⟨L, hL, hp⟩ := ih fun i hi => h i (by omega)
    obtain ⟨s, hs⟩ := h n (by omega)
    refine ⟨L ++ [s], by simp [hL], fun i hi => ?_⟩
    by_cases hin : i < n
    · have e : (L ++ [s]).getD i d = L.getD i d := by
        simp only [List.getD]
        rw [List.getElem?_append_left (by omega)]
      rw [e]
      exact hp i hin
    · obtain rfl : i = n := by omega
      have e : (L ++ [s]).getD i d = s := by
        simp only [List.getD]
        rw [List.getElem?_append_right (by omega), hL]
        simp
      rw [e]
      exact hs

section
variable {H : Type} {enc : TypeId × Value → H} {w : World} {base : Nat} {spare : Nat → Bool} {held : Bool}

theorem span_cells {n : Nat} {cs : List Value} {y : DataW H × List MemPlace} (h2 : DataW.trod enc Try.prog w base spare held n 64 cs = some y) (hl : cs.length = 2) :
    ∃ lo hi : Int, cs = [.int .i64 lo, .int .i64 hi] ∧ -9223372036854775808 ≤ lo ∧ hi ≤ 9223372036854775807 := by
  obtain ⟨xs, m, hk, hxy, hcl, hxl, hf⟩ := DataW.trod_struct Try.underlying64 h2
  have c2 : Try.prog.cellsOf 2 = 1 := by kernel_rfl
  match xs, hxl, cs, hl with
  | [y0, y1], _, [v0, v1], _ =>
    have f0 := hf 0 _ rfl
    have f1 := hf 1 _ rfl
    simp [c2] at f0 f1
    obtain ⟨lo, e0, _, r0⟩ := DataW.trod_int Try.underlying2 f0
    obtain ⟨hi, e1, _, r1⟩ := DataW.trod_int Try.underlying2 f1
    simp only [List.cons.injEq, and_true] at e0 e1
    subst e0 e1
    exact ⟨lo, hi, rfl, (wf_i64 r0).1, (wf_i64 r1).2⟩

theorem open_spans {a : Option Addr} {len cap fuel : Nat} {x : DataW H × List MemPlace} (hf : DataW.trod enc Try.prog w base spare held fuel 61 [.slice a len cap] = some x) (hk : Rows.uptoBulk x.1 ≤ 1048576) :
    ∃ L : List Sp, L.length = len ∧ RdS w a L ∧ InB L ∧ len ≤ 1048576 ∧ len ≤ cap ∧ cap ≤ 9223372036854775807 := by
  have c4 : Try.prog.cellsOf 64 = 2 := by kernel_rfl
  rcases Go.Deep.open_slice Try.underlying61 hf with ⟨hcs, _⟩ | ⟨ad, l, c, m, n, D, Pl, hcs, _, hl, hm, hmm, hxx, hx⟩
  · simp at hcs
    obtain ⟨rfl, rfl, rfl⟩ := hcs
    exact ⟨[], rfl, fun h => absurd rfl h, (fun s hs => by cases hs), by omega, by omega, by omega⟩
  · simp at hcs
    obtain ⟨rfl, rfl, rfl⟩ := hcs
    have hlen : len ≤ 1048576 := by
      rw [hxx] at hk
      have := bulk_slice (H := H) ((List.range len).map D) ((List.range (m - len)).map fun j => D (len + j))
      simp only [List.length_map, List.length_range] at this
      simp only at hk
      omega
    unfold maxLen at hm
    have hlm : len ≤ m := by rw [hmm]; split <;> omega
    have each : ∀ i, i < len → ∃ s : Sp, (∀ j v, [Value.int .i64 s.1, .int .i64 s.2][j]? = some v → w.cell? (ad.add (i * 2) |>.add j) = some v) ∧ -9223372036854775808 ≤ s.1 ∧ s.2 ≤ 9223372036854775807 := fun i hi => by
      obtain ⟨cs', h1, h2⟩ := hx i (by omega)
      rw [c4] at h1
      obtain ⟨_, hlen, hcell⟩ := World.cells?_some h1
      obtain ⟨lo, hi', rfl, r⟩ := span_cells h2 hlen
      exact ⟨(lo, hi'), fun j v hj => by rw [hcell j (by have := (List.getElem?_eq_some_iff.1 hj).1; simpa using this)]; exact hj, r⟩
    obtain ⟨L, hL, hp⟩ := list_of (0, 0) len _ each
    refine ⟨L, hL, fun hne => ?_, fun s hs => ?_, hlen, hl, by omega⟩
    · have h0 : 0 < len := by
        rw [← hL]
        exact List.length_pos_iff.2 hne
      have hs : ad.spot = none := by
        have := (hp 0 h0).1 0 _ rfl
        unfold World.cell? at this
        split at this
        · split at this
          · cases this
          · rename_i hsp
            cases hsq : ad.spot with
            | none => rfl
            | some q => simp [Addr.add, hsq] at hsp
        · cases this
      obtain ⟨bb, off, sp⟩ := ad
      simp only at hs
      subst hs
      refine ⟨bb, off, rfl, fun i hi => ?_⟩
      have q0 := (hp i (by omega)).1 0 _ rfl
      have q1 := (hp i (by omega)).1 1 _ rfl
      simp only [Addr.add_lit, Nat.add_zero] at q0 q1
      exact ⟨q0, q1⟩
    · obtain ⟨i, hi, rfl⟩ := List.mem_iff_getElem.1 hs
      have := (hp i (by omega)).2
      simpa [List.getD, hi] using this
end
end Go.Proofs.Ythhnemnnfbbamaa
