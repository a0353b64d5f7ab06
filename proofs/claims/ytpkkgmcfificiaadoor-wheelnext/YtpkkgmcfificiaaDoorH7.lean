/- What came in: the table, a script. -/
import Derived.Test.YtpkkgmcfificiaaDoorHZ
import Derived.Test.YtpkkgmcfificiaaDoorCards
import Derived.ProofKit
import Derived.OpenShut
import Derived.ShutString
import Derived.ChangeOld
import Derived.SizedLaws
import Derived.Deep.Slices
import Derived.Deep.DeepHandedRow
import Derived.Lib.LaidTab
namespace Go.Proofs.YtpkkgmcfificiaaDoor
open Go.ChangeShapes Go.WideShapes Go.ChangeAt Go.RowKit
set_option linter.unusedVariables false
set_option maxRecDepth 100000
set_option maxHeartbeats 1000000

theorem gTab : Tryd.prog.globalNamed "math/bits.deBruijn64tab" = some 0 := by kernel_rfl
theorem gTabType : (Tryd.prog.globals[0]?).map (·.type) = some 100 := by kernel_rfl
theorem cells5 : Tryd.prog.cellsOf 5 = 1 := by kernel_rfl
theorem cells64 : Tryd.prog.cellsOf 100 = 64 := by kernel_rfl
theorem laid_deb {H : Type} : Rows.laid_math_bits_deBruijn64tab (H := H) = .agg (deb.map fun (n : Nat) => .lit (.int .u8 (n : Int))) := rfl

theorem tab_of {W : World} (h0 : laidMetH Tryd.prog [("math/bits.deBruijn64tab", Rows.laid_math_bits_deBruijn64tab)] W) : Tb W := by
  have h : laidMet Tryd.prog [("math/bits.deBruijn64tab", Rows.laid_math_bits_deBruijn64tab)] W := h0
  obtain ⟨ps, ⟨g', t', cs, fuel, p, q, hg', ht', hvar, hd, _, _⟩, _⟩ := h
  obtain rfl := Option.some.inj (gTab.symm.trans hg')
  obtain rfl := Option.some.inj (gTabType.symm.trans ht')
  obtain ⟨xs, n, rfl, hx, hl, hn, hf⟩ := DataW.trod_array Tryd.underlying100 hd
  rw [cells64] at hl
  simp only [cells5] at hf
  rw [laid_deb] at hx
  simp only [Prod.mk.injEq, DataW.agg.injEq] at hx
  have hcs : cs = debA := by
    have hT : cs.toList = debA.toList := by
      apply List.ext_getElem?
      intro j
      by_cases hj : j < 64
      · have hh := hf j hj
        have hxj : xs[j]? = some (xs[j]'(by omega)) := List.getElem?_eq_getElem _
        rw [hxj] at hh
        obtain ⟨v, e1, e2, -⟩ := DataW.trod_int Tryd.underlying5 hh
        have e3 : (xs.map Prod.fst)[j]? = (deb.map fun (n : Nat) => (DataW.lit (.int .u8 (n : Int)) : DataW Unit))[j]? := by rw [hx.1]
        have dl : deb.length = 64 := rfl
        rw [List.getElem?_map, hxj, Option.map_some, e2, List.getElem?_map, List.getElem?_eq_getElem (by omega)] at e3
        simp only [Option.map_some, Option.some.injEq, DataW.lit.injEq, Lit.int.injEq, true_and] at e3
        have e4 : (cs.toList.drop (j * 1)).take 1 = [.int .u8 v] := e1
        rw [Nat.mul_one] at e4
        have e5 : cs.toList[j]? = some (.int .u8 v) := by
          have : ((cs.toList.drop j).take 1)[0]? = some (.int .u8 v) := by rw [e4]; rfl
          rw [List.getElem?_take, if_pos (by omega), List.getElem?_drop] at this
          simpa using this
        rw [e5, e3]
        simp only [debA, List.getElem?_map]
        rw [List.getElem?_eq_getElem (by omega)]
        rfl
      · rw [List.getElem?_eq_none (by omega), List.getElem?_eq_none (by show debA.toList.length ≤ j; have : debA.toList.length = 64 := rfl; omega)]
    exact Array.toList_inj.1 hT
  subst hcs
  unfold World.var? at hvar
  rw [gTab] at hvar
  simp only [Option.bind_some] at hvar
  split at hvar
  · rename_i c t f e
    injection hvar with hvar
    exact ⟨t, f, by rw [e, hvar]⟩
  · cases hvar

theorem wf_i64 {z : Int} (h : (Lit.int .i64 z).wf = true) : -9223372036854775808 ≤ z ∧ z ≤ 9223372036854775807 := by
  simp [Lit.wf, IntKind.min, IntKind.max] at h
  exact ⟨of_decide_eq_true h.1, of_decide_eq_true h.2⟩

section
variable {H : Type} {enc : TypeId × Value → H} {w : World} {base : Nat} {spare : Nat → Bool} {held : Bool}

theorem op_cells {n : Nat} {cs : List Value} {y : DataW H × List MemPlace} (h2 : DataW.trod enc Tryd.prog w base spare held n 34 cs = some y) (hl : cs.length = 4) :
    ∃ x : OpD, x.Ok ∧ cs = [.int .i64 x.kind, .bool x.other, .int .i64 x.id, .int .i64 x.at_] := by
  obtain ⟨xs, m, hk, hxy, hcl, hxl, hf⟩ := DataW.trod_struct Tryd.underlying34 h2
  have c3 : Tryd.prog.cellsOf 3 = 1 := by kernel_rfl
  have c2 : Tryd.prog.cellsOf 2 = 1 := by kernel_rfl
  have c4 : Tryd.prog.cellsOf 4 = 1 := by kernel_rfl
  match xs, hxl, cs, hl with
  | [y0, y1, y2, y3], _, [v0, v1, v2, v3], _ =>
    have f0 := hf 0 _ rfl
    have f1 := hf 1 _ rfl
    have f2 := hf 2 _ rfl
    have f3 := hf 3 _ rfl
    simp [c2, c3, c4] at f0 f1 f2 f3
    obtain ⟨k, e0, _, r0⟩ := DataW.trod_int Tryd.underlying3 f0
    obtain ⟨o, e1, _⟩ := DataW.trod_bool Tryd.underlying4 f1
    obtain ⟨i, e2, _, r2⟩ := DataW.trod_int Tryd.underlying3 f2
    obtain ⟨a, e3, _, r3⟩ := DataW.trod_int Tryd.underlying2 f3
    simp only [List.cons.injEq, and_true] at e0 e1 e2 e3
    subst e0 e1 e2 e3
    exact ⟨⟨k, o, i, a⟩, ⟨wf_i64 r0, r2, wf_i64 r3⟩, rfl⟩

theorem list_of {P : Nat → OpD → Prop} : ∀ n : Nat, (∀ i, i < n → ∃ x, P i x) → ∃ l : List OpD, l.length = n ∧ ∀ i x, l[i]? = some x → P i x
  | 0, _ => ⟨[], rfl, fun i x h => by simp at h⟩
  | n + 1, h => by
    obtain ⟨l, hl, hP⟩ := list_of n (fun i hi => h i (by omega))
    obtain ⟨x, hx⟩ := h n (by omega)
    refine ⟨l ++ [x], by simp [hl], fun i y hy => ?_⟩
    by_cases c : i < n
    · rw [List.getElem?_append_left (by omega)] at hy
      exact hP i y hy
    · have hi : i < (l ++ [x]).length := (List.getElem?_eq_some_iff.1 hy).1
      simp [hl] at hi
      obtain rfl : i = n := by omega
      rw [List.getElem?_append_right (by omega), hl] at hy
      simp at hy
      subst hy
      exact hx

theorem open_ops {a : Option Addr} {len cap fuel : Nat} {x : DataW H × List MemPlace} (hf : DataW.trod enc Tryd.prog w base spare held fuel 22 [.slice a len cap] = some x) : ∃ ol, IsOps w a len cap ol := by
  have c4 : Tryd.prog.cellsOf 34 = 4 := by kernel_rfl
  rcases Go.Deep.open_slice Tryd.underlying22 hf with ⟨hcs, _⟩ | ⟨ad, l, c, m, n, D, Pl, hcs, _, hl, hm, hmm, _, hx⟩
  · simp at hcs
    obtain ⟨rfl, rfl, rfl⟩ := hcs
    exact ⟨[], rfl, by omega, by simp, .inl rfl⟩
  · simp at hcs
    obtain ⟨rfl, rfl, rfl⟩ := hcs
    have hlm : len ≤ m := by rw [hmm]; split <;> omega
    have each : ∀ i, i < len → ∃ x : OpD, x.Ok ∧ ∀ j v, [Value.int .i64 x.kind, .bool x.other, .int .i64 x.id, .int .i64 x.at_][j]? = some v → w.cell? (ad.add (i * 4) |>.add j) = some v := fun i hi => by
      obtain ⟨cs', h1, h2⟩ := hx i (by omega)
      rw [c4] at h1
      obtain ⟨_, hlen, hcell⟩ := World.cells?_some h1
      obtain ⟨x, ok, rfl⟩ := op_cells h2 hlen
      exact ⟨x, ok, fun j v hj => by rw [hcell j (by have := (List.getElem?_eq_some_iff.1 hj).1; simpa using this)]; exact hj⟩
    obtain ⟨ol, hol, hP⟩ := list_of len each
    refine ⟨ol, hol, ⟨hl, by unfold maxLen at hm; omega⟩, fun x hx => ?_, ?_⟩
    · obtain ⟨i, hi⟩ := List.getElem?_of_mem hx
      exact (hP i x hi).1
    · by_cases h0 : len = 0
      · exact .inl h0
      · right
        obtain ⟨x, ok, hc⟩ := each 0 (by omega)
        have hs : ad.spot = none := by
          have := hc 0 _ rfl
          unfold World.cell? at this
          split at this
          · split at this
            · cases this
            · rename_i hsp
              cases hsq : ad.spot with
              | none => rfl
              | some q => simp [Addr.add, hsq] at hsp
          · cases this
        obtain ⟨bb, off, sp⟩ := ad
        simp only at hs
        subst hs
        refine ⟨bb, off, rfl, fun i x hi => ?_⟩
        have hc := (hP i x hi).2
        have q0 := hc 0 _ rfl
        have q1 := hc 1 _ rfl
        have q2 := hc 2 _ rfl
        have q3 := hc 3 _ rfl
        simp only [Addr.add_lit, Nat.add_zero] at q0 q1 q2 q3
        exact ⟨q0, q1, q2, q3⟩
end
end Go.Proofs.YtpkkgmcfificiaaDoor
