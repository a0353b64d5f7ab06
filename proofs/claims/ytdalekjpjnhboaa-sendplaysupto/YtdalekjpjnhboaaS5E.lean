/- What came in: a script. -/
import Derived.Test.YtdalekjpjnhboaaS5I
import Derived.ProofKit
import Derived.OpenShut
import Derived.ShutString
import Derived.ChangeOld
import Derived.SizedLaws
import Derived.Deep.Slices
namespace Go.Proofs.Ytdalekjpjnhboaa
open Go.ChangeShapes Go.WideShapes Go.ChangeAt Go.RowKit
set_option linter.unusedVariables false
set_option maxRecDepth 100000
set_option maxHeartbeats 1000000

abbrev i64B (x : Int) : Prop := -9223372036854775808 ≤ x ∧ x ≤ 9223372036854775807
structure OpE where
  kind : Int
  other : Bool
  da : Option Addr
  dn : Nat
  dc : Nat
  off : Int
  size : Int
  fin : Bool
  most : Int
  p : List Int
structure OpE.Ok (w : World) (x : OpE) : Prop where
  k : i64B x.kind
  o : i64B x.off
  s : i64B x.size
  m : i64B x.most
  len : x.p.length = x.dn
  cap : x.dn ≤ x.dc ∧ x.dc ≤ 9223372036854775807
  big : x.dn ≤ 140737488355328
  rd : Rd w x.da x.p
def OpE.cs (x : OpE) : List Value := [.int .i64 x.kind, .bool x.other, .slice x.da x.dn x.dc, .int .i64 x.off, .int .i64 x.size, .bool x.fin, .int .i64 x.most]
/-- A script that came in. -/
structure IsOps (w : World) (a : Option Addr) (len cap : Nat) (ol : List OpE) : Prop where
  hlen : ol.length = len
  hcap : len ≤ cap ∧ cap ≤ 9223372036854775807
  ok : ∀ x ∈ ol, x.Ok w
  cell : len = 0 ∨ ∃ b off, a = some ⟨b, off, none⟩ ∧ ∀ i x, ol[i]? = some x → ∀ j v, x.cs[j]? = some v → w.cell? ⟨b, off + i * 7 + j, none⟩ = some v

theorem wf_i64 {z : Int} (h : (Lit.int .i64 z).wf = true) : -9223372036854775808 ≤ z ∧ z ≤ 9223372036854775807 := by
  simp [Lit.wf, IntKind.min, IntKind.max] at h
  exact ⟨of_decide_eq_true h.1, of_decide_eq_true h.2⟩
theorem wf_u8 {z : Int} (h : (Lit.int .u8 z).wf = true) : 0 ≤ z ∧ z ≤ 255 := by
  simp [Lit.wf, IntKind.min, IntKind.max] at h
  exact ⟨of_decide_eq_true h.1, of_decide_eq_true h.2⟩

theorem list_gen {α : Type} {P : Nat → α → Prop} : ∀ n : Nat, (∀ i, i < n → ∃ x, P i x) → ∃ l : List α, l.length = n ∧ ∀ i x, l[i]? = some x → P i x
  | 0, _ => ⟨[], rfl, fun i x h => by simp at h⟩
  | n + 1, h => by
    obtain ⟨l, hl, hP⟩ := list_gen n (fun i hi => h i (by omega))
    obtain ⟨x, hx⟩ := h n (by omega)
    refine ⟨l ++ [x], by simp [hl], fun i y hy => ?_⟩
    by_cases c : i < n
    · rw [List.getElem?_append_left (by omega)] at hy
      exact hP i y hy
    · have hi : i < (l ++ [x]).length := (List.getElem?_eq_some_iff.1 hy).1
      simp [hl] at hi
      obtain rfl : i = n := by omega
      rw [List.getElem?_append_right (by omega), hl] at hy
      simp at hy
      subst hy
      exact hx

theorem add_0 (ad : Addr) : ad.add 0 = ad := by simp [Addr.add]
theorem spot_none {w : World} {ad : Addr} {v : Value} (h : w.cell? ad = some v) : ad.spot = none := by
  unfold World.cell? at h
  split at h
  · split at h
    · cases h
    · rename_i hsp
      simpa using hsp
  · cases h

section
variable {H : Type} {enc : TypeId × Value → H} {w : World} {base : Nat} {spare : Nat → Bool} {held : Bool}

theorem data_cells {n : Nat} {v : Value} {y : DataW H × List MemPlace} (h : DataW.trod enc Try.prog w base spare held n 33 [v] = some y) (hw : ∀ k ∈ y.1.weights Try.prog 33, k ≤ reachBytes) :
    ∃ a l c p, v = .slice a l c ∧ p.length = l ∧ Rd w a p ∧ (l ≤ c ∧ c ≤ 9223372036854775807) ∧ l ≤ 140737488355328 := by
  have c5 : Try.prog.cellsOf 5 = 1 := by kernel_rfl
  rcases Go.Deep.open_slice Try.underlying33 h with ⟨hcs, _⟩ | ⟨ad, l, c, m, nn, D, Pl, hcs, _, hl, hm, hmm, hxe, hx⟩
  · simp at hcs
    subst hcs
    exact ⟨none, 0, 0, [], rfl, rfl, ⟨fun x hx => (by cases hx), fun hne => absurd rfl hne⟩, by omega, by omega⟩
  · simp at hcs
    subst hcs
    have hlm : l ≤ m := by rw [hmm]; split <;> omega
    have each : ∀ i, i < l → ∃ x : Int, IsB x ∧ w.cell? (ad.add i) = some (.int .u8 x) := fun i hi => by
      obtain ⟨cs', h1, h2⟩ := hx i (by omega)
      rw [c5] at h1
      obtain ⟨_, hlen, hcell⟩ := World.cells?_some h1
      obtain ⟨z, e, _, r⟩ := DataW.trod_int Try.underlying5 h2
      subst e
      refine ⟨z, wf_u8 r, ?_⟩
      have := hcell 0 (by omega)
      rw [Nat.mul_one] at this
      rw [add_0] at this
      exact this
    obtain ⟨p, hp, hP⟩ := list_gen l each
    refine ⟨_, _, _, p, rfl, hp, ⟨fun x hx => ?_, fun hne => ?_⟩, ⟨hl, by unfold maxLen at hm; omega⟩, ?_⟩
    · obtain ⟨i, hi⟩ := List.getElem?_of_mem hx
      exact (hP i x hi).1
    · have h0 : 0 < l := by rw [← hp]; exact List.length_pos_iff.2 hne
      obtain ⟨x, _, hc⟩ := each 0 h0
      rw [add_0] at hc
      have hs := spot_none hc
      obtain ⟨bb, off, sp⟩ := ad
      simp only at hs
      subst hs
      refine ⟨bb, off, rfl, fun i hi => ?_⟩
      have hv : p[i]? = some (p[i]'hi) := List.getElem?_eq_getElem _
      have := (hP i _ hv).2
      rw [Addr.add_lit] at this
      rw [this]
      simp [List.getD, hv]
    · have hb : Try.prog.bytesOf 5 = 1 := by kernel_rfl
      have := hw ((m : Nat) * 1) (by
        rw [hxe]
        simp only [DataW.weights, Try.underlying33, List.mem_cons]
        left
        rw [hb]
        simp only [List.length_map, List.length_range]
        omega)
      unfold reachBytes at this
      omega

theorem op_cells {n : Nat} {cs : List Value} {y : DataW H × List MemPlace} (h2 : DataW.trod enc Try.prog w base spare held n 40 cs = some y) (hl : cs.length = 7) (hw : ∀ k ∈ y.1.weights Try.prog 40, k ≤ reachBytes) : ∃ x : OpE, x.Ok w ∧ cs = x.cs := by
  obtain ⟨xs, m, hk, hxy, hcl, hxl, hf⟩ := DataW.trod_struct Try.underlying40 h2
  have c3 : Try.prog.cellsOf 3 = 1 := by kernel_rfl
  have c2 : Try.prog.cellsOf 2 = 1 := by kernel_rfl
  have c4 : Try.prog.cellsOf 4 = 1 := by kernel_rfl
  have cB : Try.prog.cellsOf 33 = 1 := by kernel_rfl
  match xs, hxl, cs, hl with
  | [y0, y1, y2, y3, y4, y5, y6], _, [v0, v1, v2, v3, v4, v5, v6], _ =>
    have f0 := hf 0 _ rfl
    have f1 := hf 1 _ rfl
    have f2 := hf 2 _ rfl
    have f3 := hf 3 _ rfl
    have f4 := hf 4 _ rfl
    have f5 := hf 5 _ rfl
    have f6 := hf 6 _ rfl
    simp [c2, c3, c4, cB] at f0 f1 f2 f3 f4 f5 f6
    obtain ⟨k, e0, _, r0⟩ := DataW.trod_int Try.underlying3 f0
    obtain ⟨o, e1, _⟩ := DataW.trod_bool Try.underlying4 f1
    obtain ⟨i, e3, _, r3⟩ := DataW.trod_int Try.underlying2 f3
    obtain ⟨s, e4, _, r4⟩ := DataW.trod_int Try.underlying2 f4
    obtain ⟨l, e5, _⟩ := DataW.trod_bool Try.underlying4 f5
    obtain ⟨mo, e6, _, r6⟩ := DataW.trod_int Try.underlying3 f6
    have hy : y.1 = .agg [y0.1, y1.1, y2.1, y3.1, y4.1, y5.1, y6.1] := by rw [hxy]; rfl
    obtain ⟨a, dn, dc, p, e2, hp, hrd, hcp, hbig⟩ := data_cells f2 (fun k hk => hw k (by
      rw [hy]
      simp only [DataW.weights, Try.underlying40]
      exact DataW.weights_mem_each (j := 2) (t := 33) (d := y2.1) rfl rfl k hk))
    simp only [List.cons.injEq, and_true] at e0 e1 e3 e4 e5 e6
    subst e0 e1 e2 e3 e4 e5 e6
    exact ⟨⟨k, o, a, dn, dc, i, s, l, mo, p⟩, ⟨wf_i64 r0, wf_i64 r3, wf_i64 r4, wf_i64 r6, hp, hcp, hbig, hrd⟩, rfl⟩

theorem weights_all {P : Program} {e : TypeId} : ∀ {l : List (DataW H)} {d : DataW H}, d ∈ l → ∀ k ∈ d.weights P e, k ∈ DataW.weightsAll P e l
  | d0 :: l, d, h, k, hk => by
    simp only [DataW.weightsAll, List.mem_append]
    rcases List.mem_cons.1 h with rfl | h
    · exact .inl hk
    · exact .inr (weights_all h k hk)

theorem open_ops {a : Option Addr} {len cap fuel : Nat} {x : DataW H × List MemPlace} (hf : DataW.trod enc Try.prog w base spare held fuel 22 [.slice a len cap] = some x) (hw : ∀ k ∈ x.1.weights Try.prog 22, k ≤ reachBytes) : (∃ ol, IsOps w a len cap ol) ∧ len * 8 ≤ 140737488355328 := by
  have c7 : Try.prog.cellsOf 40 = 7 := by kernel_rfl
  rcases Go.Deep.open_slice Try.underlying22 hf with ⟨hcs, _⟩ | ⟨ad, l, c, m, n, D, Pl, hcs, _, hl, hm, hmm, hxe, hx⟩
  · simp at hcs
    obtain ⟨rfl, rfl, rfl⟩ := hcs
    exact ⟨⟨[], rfl, by omega, by simp, .inl rfl⟩, by omega⟩
  · simp at hcs
    obtain ⟨rfl, rfl, rfl⟩ := hcs
    have hlm : len ≤ m := by rw [hmm]; split <;> omega
    have hx1 : x.1 = .slice ((List.range len).map D) ((List.range (m - len)).map fun j => D (len + j)) := by rw [hxe]
    have hb : Try.prog.bytesOf 40 = 72 := by kernel_rfl
    have hD : ∀ i, i < len → ∀ k ∈ (D i).weights Try.prog 40, k ≤ reachBytes := fun i hi k hk => hw k (by
      rw [hx1]
      simp only [DataW.weights, Try.underlying22, List.mem_cons, List.mem_append]
      exact .inr (.inl (weights_all (d := D i) (List.mem_map.2 ⟨i, by simpa using hi, rfl⟩) k hk)))
    have each : ∀ i, i < len → ∃ x : OpE, x.Ok w ∧ ∀ j v, x.cs[j]? = some v → w.cell? (ad.add (i * 7) |>.add j) = some v := fun i hi => by
      obtain ⟨cs', h1, h2⟩ := hx i (by omega)
      rw [c7] at h1
      obtain ⟨_, hlen, hcell⟩ := World.cells?_some h1
      obtain ⟨x, ok, rfl⟩ := op_cells h2 hlen (hD i hi)
      exact ⟨x, ok, fun j v hj => by rw [hcell j (by have := (List.getElem?_eq_some_iff.1 hj).1; simpa [OpE.cs] using this)]; exact hj⟩
    obtain ⟨ol, hol, hP⟩ := list_gen len each
    refine ⟨⟨ol, hol, ⟨hl, by unfold maxLen at hm; omega⟩, fun x hx => ?_, ?_⟩, ?_⟩
    · obtain ⟨i, hi⟩ := List.getElem?_of_mem hx
      exact (hP i x hi).1
    · by_cases h0 : len = 0
      · exact .inl h0
      · right
        obtain ⟨x, ok, hc⟩ := each 0 (by omega)
        have hs : ad.spot = none := by
          have := hc 0 _ rfl
          rw [Nat.zero_mul, add_0, add_0] at this
          exact spot_none this
        obtain ⟨bb, off, sp⟩ := ad
        simp only at hs
        subst hs
        refine ⟨bb, off, rfl, fun i x hi => ?_⟩
        intro j v hj
        have := (hP i x hi).2 j v hj
        simpa only [Addr.add_lit] using this
    · have := hw (m * 72) (by
        rw [hx1]
        simp only [DataW.weights, Try.underlying22, List.mem_cons]
        left
        rw [hb]
        simp only [List.length_map, List.length_range]
        omega)
      unfold reachBytes at this
      omega
end
end Go.Proofs.Ytdalekjpjnhboaa
