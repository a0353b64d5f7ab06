/- Road: what came in. -/
import Derived.Test.YtbdjlhkgpblebaaDoorY2R
import Derived.Test.YtbdjlhkgpblebaaDoorCards
import Derived.ProofKit
import Derived.OpenShut
import Derived.ShutString
import Derived.ChangeOld
import Derived.SizedLaws
import Derived.Deep.Slices
import Derived.Deep.DeepHandedRow
import Derived.Lib.LaidTab
namespace Go.Proofs.YtbdjlhkgpblebaaDoor
open Go.ChangeShapes Go.WideShapes Go.ChangeAt Go.RowKit
set_option linter.unusedVariables false
set_option linter.unusedSimpArgs false
set_option maxRecDepth 100000
set_option maxHeartbeats 1000000

theorem gTab : Tryd.prog.globalNamed "math/bits.deBruijn64tab" = some 0 := by kernel_rfl
theorem gTabType : (Tryd.prog.globals[0]?).map (·.type) = some 111 := by kernel_rfl
theorem cells5 : Tryd.prog.cellsOf 5 = 1 := by kernel_rfl
theorem cells64 : Tryd.prog.cellsOf 111 = 64 := by kernel_rfl
theorem laid_deb {H : Type} : Rows.laid_math_bits_deBruijn64tab (H := H) = .agg (deb.map fun (n : Nat) => .lit (.int .u8 (n : Int))) := rfl

theorem tab_of {W : World} (h0 : laidMetH Tryd.prog [("math/bits.deBruijn64tab", Rows.laid_math_bits_deBruijn64tab)] W) : Tb W := by
  have h : laidMet Tryd.prog [("math/bits.deBruijn64tab", Rows.laid_math_bits_deBruijn64tab)] W := h0
  obtain ⟨ps, ⟨g', t', cs, fuel, p, q, hg', ht', hvar, hd, _, _⟩, _⟩ := h
  obtain rfl := Option.some.inj (gTab.symm.trans hg')
  obtain rfl := Option.some.inj (gTabType.symm.trans ht')
  obtain ⟨xs, n, rfl, hx, hl, hn, hf⟩ := DataW.trod_array Tryd.underlying111 hd
  rw [cells64] at hl
  simp only [cells5] at hf
  rw [laid_deb] at hx
  simp only [Prod.mk.injEq, DataW.agg.injEq] at hx
  have hcs : cs = debA := by
    have hT : cs.toList = debA.toList := by
      apply List.ext_getElem?
      intro j
      by_cases hj : j < 64
      · have hh := hf j hj
        have hxj : xs[j]? = some (xs[j]'(by omega)) := List.getElem?_eq_getElem _
        rw [hxj] at hh
        obtain ⟨v, e1, e2, -⟩ := DataW.trod_int Tryd.underlying5 hh
        have e3 : (xs.map Prod.fst)[j]? = (deb.map fun (n : Nat) => (DataW.lit (.int .u8 (n : Int)) : DataW Unit))[j]? := by rw [hx.1]
        have dl : deb.length = 64 := rfl
        rw [List.getElem?_map, hxj, Option.map_some, e2, List.getElem?_map, List.getElem?_eq_getElem (by omega)] at e3
        simp only [Option.map_some, Option.some.injEq, DataW.lit.injEq, Lit.int.injEq, true_and] at e3
        have e4 : (cs.toList.drop (j * 1)).take 1 = [.int .u8 v] := e1
        rw [Nat.mul_one] at e4
        have e5 : cs.toList[j]? = some (.int .u8 v) := by
          have : ((cs.toList.drop j).take 1)[0]? = some (.int .u8 v) := by rw [e4]; rfl
          rw [List.getElem?_take, if_pos (by omega), List.getElem?_drop] at this
          simpa using this
        rw [e5, e3]
        simp only [debA, List.getElem?_map]
        rw [List.getElem?_eq_getElem (by omega)]
        rfl
      · rw [List.getElem?_eq_none (by omega), List.getElem?_eq_none (by show debA.toList.length ≤ j; have : debA.toList.length = 64 := rfl; omega)]
    exact Array.toList_inj.1 hT
  subst hcs
  unfold World.var? at hvar
  rw [gTab] at hvar
  simp only [Option.bind_some] at hvar
  split at hvar
  · rename_i c t f e
    injection hvar with hvar
    exact ⟨t, f, by rw [e, hvar]⟩
  · cases hvar

abbrev i64B (x : Int) : Prop := -9223372036854775808 ≤ x ∧ x ≤ 9223372036854775807
structure OpR where
  kind : Int
  to : Int
  mark : Int
  id : Int
  at_ : Int
  raw : Bool
  da : Option Addr
  dn : Nat
  dc : Nat
  p : List Int
structure OpR.Ok (w : World) (x : OpR) : Prop where
  k : i64B x.kind
  t : i64B x.to
  m : i64B x.mark
  i : i64B x.id
  a : i64B x.at_
  len : x.p.length = x.dn
  cap : x.dn ≤ x.dc ∧ x.dc ≤ 9223372036854775807
  big : x.dn ≤ 140737488355328
  rd : Rd w x.da x.p
def OpR.cs (x : OpR) : List Value := [.int .i64 x.kind, .int .i64 x.to, .int .i64 x.mark, .int .i64 x.id, .int .i64 x.at_, .bool x.raw, .slice x.da x.dn x.dc]
/-- A script that came in. -/
structure IsOpR (w : World) (a : Option Addr) (len cap : Nat) (ol : List OpR) : Prop where
  hlen : ol.length = len
  hcap : len ≤ cap ∧ cap ≤ 9223372036854775807
  ok : ∀ x ∈ ol, x.Ok w
  cell : len = 0 ∨ ∃ b off, a = some ⟨b, off, none⟩ ∧ ∀ i x, ol[i]? = some x → ∀ j v, x.cs[j]? = some v → w.cell? ⟨b, off + i * 7 + j, none⟩ = some v

theorem wf_i64 {z : Int} (h : (Lit.int .i64 z).wf = true) : -9223372036854775808 ≤ z ∧ z ≤ 9223372036854775807 := by
  simp [Lit.wf, IntKind.min, IntKind.max] at h
  exact ⟨of_decide_eq_true h.1, of_decide_eq_true h.2⟩
theorem wf_u8 {z : Int} (h : (Lit.int .u8 z).wf = true) : 0 ≤ z ∧ z ≤ 255 := by
  simp [Lit.wf, IntKind.min, IntKind.max] at h
  exact ⟨of_decide_eq_true h.1, of_decide_eq_true h.2⟩

theorem list_gen {α : Type} {P : Nat → α → Prop} : ∀ n : Nat, (∀ i, i < n → ∃ x, P i x) → ∃ l : List α, l.length = n ∧ ∀ i x, l[i]? = some x → P i x
  | 0, _ => ⟨[], rfl, fun i x h => by simp at h⟩
  | n + 1, h => by
    obtain ⟨l, hl, hP⟩ := list_gen n (fun i hi => h i (by omega))
    obtain ⟨x, hx⟩ := h n (by omega)
    refine ⟨l ++ [x], by simp [hl], fun i y hy => ?_⟩
    by_cases c : i < n
    · rw [List.getElem?_append_left (by omega)] at hy
      exact hP i y hy
    · have hi : i < (l ++ [x]).length := (List.getElem?_eq_some_iff.1 hy).1
      simp [hl] at hi
      obtain rfl : i = n := by omega
      rw [List.getElem?_append_right (by omega), hl] at hy
      simp at hy
      subst hy
      exact hx

theorem add_0 (ad : Addr) : ad.add 0 = ad := by simp [Addr.add]
theorem spot_none {w : World} {ad : Addr} {v : Value} (h : w.cell? ad = some v) : ad.spot = none := by
  unfold World.cell? at h
  split at h
  · split at h
    · cases h
    · rename_i hsp
      simpa using hsp
  · cases h

section
variable {H : Type} {enc : TypeId × Value → H} {w : World} {base : Nat} {spare : Nat → Bool} {held : Bool}

theorem data_cells {n : Nat} {v : Value} {y : DataW H × List MemPlace} (h : DataW.trod enc Tryd.prog w base spare held n 29 [v] = some y) (hw : ∀ k ∈ y.1.weights Tryd.prog 29, k ≤ reachBytes) :
    ∃ a l c p, v = .slice a l c ∧ p.length = l ∧ Rd w a p ∧ (l ≤ c ∧ c ≤ 9223372036854775807) ∧ l ≤ 140737488355328 := by
  have c5 : Tryd.prog.cellsOf 5 = 1 := by kernel_rfl
  rcases Go.Deep.open_slice Tryd.underlying29 h with ⟨hcs, _⟩ | ⟨ad, l, c, m, nn, D, Pl, hcs, _, hl, hm, hmm, hxe, hx⟩
  · simp at hcs
    subst hcs
    exact ⟨none, 0, 0, [], rfl, rfl, ⟨fun x hx => (by cases hx), fun hne => absurd rfl hne⟩, by omega, by omega⟩
  · simp at hcs
    subst hcs
    have hlm : l ≤ m := by rw [hmm]; split <;> omega
    have each : ∀ i, i < l → ∃ x : Int, IsB x ∧ w.cell? (ad.add i) = some (.int .u8 x) := fun i hi => by
      obtain ⟨cs', h1, h2⟩ := hx i (by omega)
      rw [c5] at h1
      obtain ⟨_, hlen, hcell⟩ := World.cells?_some h1
      obtain ⟨z, e, _, r⟩ := DataW.trod_int Tryd.underlying5 h2
      subst e
      refine ⟨z, wf_u8 r, ?_⟩
      have := hcell 0 (by omega)
      rw [Nat.mul_one] at this
      rw [add_0] at this
      exact this
    obtain ⟨p, hp, hP⟩ := list_gen l each
    refine ⟨_, _, _, p, rfl, hp, ⟨fun x hx => ?_, fun hne => ?_⟩, ⟨hl, by unfold maxLen at hm; omega⟩, ?_⟩
    · obtain ⟨i, hi⟩ := List.getElem?_of_mem hx
      exact (hP i x hi).1
    · have h0 : 0 < l := by rw [← hp]; exact List.length_pos_iff.2 hne
      obtain ⟨x, _, hc⟩ := each 0 h0
      rw [add_0] at hc
      have hs := spot_none hc
      obtain ⟨bb, off, sp⟩ := ad
      simp only at hs
      subst hs
      refine ⟨bb, off, rfl, fun i hi => ?_⟩
      have hv : p[i]? = some (p[i]'hi) := List.getElem?_eq_getElem _
      have := (hP i _ hv).2
      rw [Addr.add_lit] at this
      rw [this]
      simp [List.getD, hv]
    · have hb : Tryd.prog.bytesOf 5 = 1 := by kernel_rfl
      have := hw ((m : Nat) * 1) (by
        rw [hxe]
        simp only [DataW.weights, Tryd.underlying29, List.mem_cons]
        left
        rw [hb]
        simp only [List.length_map, List.length_range]
        omega)
      unfold reachBytes at this
      omega

theorem op_cells {n : Nat} {cs : List Value} {y : DataW H × List MemPlace} (h2 : DataW.trod enc Tryd.prog w base spare held n 31 cs = some y) (hl : cs.length = 7) (hw : ∀ k ∈ y.1.weights Tryd.prog 31, k ≤ reachBytes) : ∃ x : OpR, x.Ok w ∧ cs = x.cs := by
  obtain ⟨xs, m, hk, hxy, hcl, hxl, hf⟩ := DataW.trod_struct Tryd.underlying31 h2
  have c3 : Tryd.prog.cellsOf 3 = 1 := by kernel_rfl
  have c2 : Tryd.prog.cellsOf 2 = 1 := by kernel_rfl
  have c4 : Tryd.prog.cellsOf 4 = 1 := by kernel_rfl
  have cB : Tryd.prog.cellsOf 29 = 1 := by kernel_rfl
  match xs, hxl, cs, hl with
  | [y0, y1, y2, y3, y4, y5, y6], _, [v0, v1, v2, v3, v4, v5, v6], _ =>
    have f0 := hf 0 _ rfl
    have f1 := hf 1 _ rfl
    have f2 := hf 2 _ rfl
    have f3 := hf 3 _ rfl
    have f4 := hf 4 _ rfl
    have f5 := hf 5 _ rfl
    have f6 := hf 6 _ rfl
    simp [c2, c3, c4, cB] at f0 f1 f2 f3 f4 f5 f6
    obtain ⟨k, e0, _, r0⟩ := DataW.trod_int Tryd.underlying3 f0
    obtain ⟨t, e1, _, r1⟩ := DataW.trod_int Tryd.underlying3 f1
    obtain ⟨m, e2, _, r2⟩ := DataW.trod_int Tryd.underlying3 f2
    obtain ⟨i, e3, _, r3⟩ := DataW.trod_int Tryd.underlying2 f3
    obtain ⟨s, e4, _, r4⟩ := DataW.trod_int Tryd.underlying2 f4
    obtain ⟨l, e5, _⟩ := DataW.trod_bool Tryd.underlying4 f5
    have hy : y.1 = .agg [y0.1, y1.1, y2.1, y3.1, y4.1, y5.1, y6.1] := by rw [hxy]; rfl
    obtain ⟨a, dn, dc, p, e6, hp, hrd, hcp, hbig⟩ := data_cells f6 (fun k hk => hw k (by
      rw [hy]
      simp only [DataW.weights, Tryd.underlying31]
      exact DataW.weights_mem_each (j := 6) (t := 29) (d := y6.1) rfl rfl k hk))
    simp only [List.cons.injEq, and_true] at e0 e1 e2 e3 e4 e5 e6
    subst e0 e1 e2 e3 e4 e5 e6
    exact ⟨⟨k, t, m, i, s, l, a, dn, dc, p⟩, ⟨wf_i64 r0, wf_i64 r1, wf_i64 r2, wf_i64 r3, wf_i64 r4, hp, hcp, hbig, hrd⟩, rfl⟩

theorem weights_all {P : Program} {e : TypeId} : ∀ {l : List (DataW H)} {d : DataW H}, d ∈ l → ∀ k ∈ d.weights P e, k ∈ DataW.weightsAll P e l
  | d0 :: l, d, h, k, hk => by
    simp only [DataW.weightsAll, List.mem_append]
    rcases List.mem_cons.1 h with rfl | h
    · exact .inl hk
    · exact .inr (weights_all h k hk)

theorem open_ops {a : Option Addr} {len cap fuel : Nat} {x : DataW H × List MemPlace} (hf : DataW.trod enc Tryd.prog w base spare held fuel 22 [.slice a len cap] = some x) (hw : ∀ k ∈ x.1.weights Tryd.prog 22, k ≤ reachBytes) : (∃ ol, IsOpR w a len cap ol) ∧ len * 72 ≤ 140737488355328 := by
  have c7 : Tryd.prog.cellsOf 31 = 7 := by kernel_rfl
  rcases Go.Deep.open_slice Tryd.underlying22 hf with ⟨hcs, _⟩ | ⟨ad, l, c, m, n, D, Pl, hcs, _, hl, hm, hmm, hxe, hx⟩
  · simp at hcs
    obtain ⟨rfl, rfl, rfl⟩ := hcs
    exact ⟨⟨[], rfl, by omega, by simp, .inl rfl⟩, by omega⟩
  · simp at hcs
    obtain ⟨rfl, rfl, rfl⟩ := hcs
    have hlm : len ≤ m := by rw [hmm]; split <;> omega
    have hx1 : x.1 = .slice ((List.range len).map D) ((List.range (m - len)).map fun j => D (len + j)) := by rw [hxe]
    have hb : Tryd.prog.bytesOf 31 = 72 := by kernel_rfl
    have hD : ∀ i, i < len → ∀ k ∈ (D i).weights Tryd.prog 31, k ≤ reachBytes := fun i hi k hk => hw k (by
      rw [hx1]
      simp only [DataW.weights, Tryd.underlying22, List.mem_cons, List.mem_append]
      exact .inr (.inl (weights_all (d := D i) (List.mem_map.2 ⟨i, by simpa using hi, rfl⟩) k hk)))
    have each : ∀ i, i < len → ∃ x : OpR, x.Ok w ∧ ∀ j v, x.cs[j]? = some v → w.cell? (ad.add (i * 7) |>.add j) = some v := fun i hi => by
      obtain ⟨cs', h1, h2⟩ := hx i (by omega)
      rw [c7] at h1
      obtain ⟨_, hlen, hcell⟩ := World.cells?_some h1
      obtain ⟨x, ok, rfl⟩ := op_cells h2 hlen (hD i hi)
      exact ⟨x, ok, fun j v hj => by rw [hcell j (by have := (List.getElem?_eq_some_iff.1 hj).1; simpa [OpR.cs] using this)]; exact hj⟩
    obtain ⟨ol, hol, hP⟩ := list_gen len each
    refine ⟨⟨ol, hol, ⟨hl, by unfold maxLen at hm; omega⟩, fun x hx => ?_, ?_⟩, ?_⟩
    · obtain ⟨i, hi⟩ := List.getElem?_of_mem hx
      exact (hP i x hi).1
    · by_cases h0 : len = 0
      · exact .inl h0
      · right
        obtain ⟨x, ok, hc⟩ := each 0 (by omega)
        have hs : ad.spot = none := by
          have := hc 0 _ rfl
          rw [Nat.zero_mul, add_0, add_0] at this
          exact spot_none this
        obtain ⟨bb, off, sp⟩ := ad
        simp only at hs
        subst hs
        refine ⟨bb, off, rfl, fun i x hi => ?_⟩
        intro j v hj
        have := (hP i x hi).2 j v hj
        simpa only [Addr.add_lit] using this
    · have := hw (m * 72) (by
        rw [hx1]
        simp only [DataW.weights, Tryd.underlying22, List.mem_cons]
        left
        rw [hb]
        simp only [List.length_map, List.length_range]
        omega)
      unfold reachBytes at this
      omega
end
end Go.Proofs.YtbdjlhkgpblebaaDoor
