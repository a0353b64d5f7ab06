/- Scripts that came in. -/
import Derived.Test.YtgmjminpgliilaaC7H
import Derived.ProofKit
import Derived.OpenShut
import Derived.ShutString
import Derived.ChangeOld
import Derived.SizedLaws
import Derived.Deep.Slices
namespace Go.Proofs.Ytgmjminpgliilaa
open Go.ChangeShapes Go.WideShapes Go.ChangeAt Go.RowKit
set_option linter.unusedVariables false
set_option maxRecDepth 100000
set_option maxHeartbeats 1000000

theorem wf_i64 {z : Int} (h : (Lit.int .i64 z).wf = true) : -9223372036854775808 ≤ z ∧ z ≤ 9223372036854775807 := by
  simp [Lit.wf, IntKind.min, IntKind.max] at h
  exact ⟨of_decide_eq_true h.1, of_decide_eq_true h.2⟩
/-- A step of a script. -/
structure OpE where
  kind : Int
  oth : Bool
  n : Int
structure OpE.Ok (x : OpE) : Prop where
  k : i64B x.kind
  n : i64B x.n
def OpE.cs (x : OpE) : List Value := [.int .i64 x.kind, .bool x.oth, .int .i64 x.n]
structure TuE where
  what : Int
  n : Int
structure TuE.Ok (x : TuE) : Prop where
  k : i64B x.what
  n : i64B x.n
def TuE.cs (x : TuE) : List Value := [.int .i64 x.what, .int .i64 x.n]
structure IsOps (w : World) (a : Option Addr) (len cap : Nat) (ol : List OpE) : Prop where
  hlen : ol.length = len
  hcap : len ≤ cap ∧ cap ≤ 9223372036854775807
  ok : ∀ x ∈ ol, x.Ok
  cell : len = 0 ∨ ∃ b off, a = some ⟨b, off, none⟩ ∧ ∀ i x, ol[i]? = some x → ∀ j v, x.cs[j]? = some v → w.cell? ⟨b, off + i * 3 + j, none⟩ = some v
structure IsTurns (w : World) (a : Option Addr) (len cap : Nat) (ol : List TuE) : Prop where
  hlen : ol.length = len
  hcap : len ≤ cap ∧ cap ≤ 9223372036854775807
  ok : ∀ x ∈ ol, x.Ok
  cell : len = 0 ∨ ∃ b off, a = some ⟨b, off, none⟩ ∧ ∀ i x, ol[i]? = some x → ∀ j v, x.cs[j]? = some v → w.cell? ⟨b, off + i * 2 + j, none⟩ = some v

section
variable {H : Type} {enc : TypeId × Value → H} {w : World} {base : Nat} {spare : Nat → Bool} {held : Bool}

theorem op_cells {n : Nat} {cs : List Value} {y : DataW H × List MemPlace} (h2 : DataW.trod enc Try.prog w base spare held n 32 cs = some y) (hl : cs.length = 3) : ∃ x : OpE, x.Ok ∧ cs = x.cs := by
  obtain ⟨xs, m, hk, hxy, hcl, hxl, hf⟩ := DataW.trod_struct Try.underlying32 h2
  have c3 : Try.prog.cellsOf 3 = 1 := by kernel_rfl
  have c2 : Try.prog.cellsOf 2 = 1 := by kernel_rfl
  have c4 : Try.prog.cellsOf 4 = 1 := by kernel_rfl
  match xs, hxl, cs, hl with
  | [y0, y1, y2], _, [v0, v1, v2], _ =>
    have f0 := hf 0 _ rfl
    have f1 := hf 1 _ rfl
    have f2 := hf 2 _ rfl
    simp [c2, c3, c4] at f0 f1 f2
    obtain ⟨k, e0, _, r0⟩ := DataW.trod_int Try.underlying3 f0
    obtain ⟨o, e1, _⟩ := DataW.trod_bool Try.underlying4 f1
    obtain ⟨i, e2, _, r2⟩ := DataW.trod_int Try.underlying2 f2
    simp only [List.cons.injEq, and_true] at e0 e1 e2
    subst e0 e1 e2
    exact ⟨⟨k, o, i⟩, ⟨wf_i64 r0, wf_i64 r2⟩, rfl⟩
theorem tu_cells {n : Nat} {cs : List Value} {y : DataW H × List MemPlace} (h2 : DataW.trod enc Try.prog w base spare held n 46 cs = some y) (hl : cs.length = 2) : ∃ x : TuE, x.Ok ∧ cs = x.cs := by
  obtain ⟨xs, m, hk, hxy, hcl, hxl, hf⟩ := DataW.trod_struct Try.underlying46 h2
  have c3 : Try.prog.cellsOf 3 = 1 := by kernel_rfl
  match xs, hxl, cs, hl with
  | [y0, y1], _, [v0, v1], _ =>
    have f0 := hf 0 _ rfl
    have f1 := hf 1 _ rfl
    simp [c3] at f0 f1
    obtain ⟨k, e0, _, r0⟩ := DataW.trod_int Try.underlying3 f0
    obtain ⟨i, e1, _, r1⟩ := DataW.trod_int Try.underlying3 f1
    simp only [List.cons.injEq, and_true] at e0 e1
    subst e0 e1
    exact ⟨⟨k, i⟩, ⟨wf_i64 r0, wf_i64 r1⟩, rfl⟩

theorem list_of {A : Type} {P : Nat → A → Prop} : ∀ n : Nat, (∀ i, i < n → ∃ x, P i x) → ∃ l : List A, l.length = n ∧ ∀ i x, l[i]? = some x → P i x
  | 0, _ => ⟨[], rfl, fun i x h => by simp at h⟩
  | n + 1, h => by
    obtain ⟨l, hl, hP⟩ := list_of n (fun i hi => h i (by omega))
    obtain ⟨x, hx⟩ := h n (by omega)
    refine ⟨l ++ [x], by simp [hl], fun i y hy => ?_⟩
    by_cases c : i < n
    · rw [List.getElem?_append_left (by omega)] at hy
      exact hP i y hy
    · have hi : i < (l ++ [x]).length := (List.getElem?_eq_some_iff.1 hy).1
      simp [hl] at hi
      obtain rfl : i = n := by omega
      rw [List.getElem?_append_right (by omega), hl] at hy
      simp at hy
      subst hy
      exact hx

theorem open_ops {a : Option Addr} {len cap fuel : Nat} {x : DataW H × List MemPlace} (hf : DataW.trod enc Try.prog w base spare held fuel 22 [.slice a len cap] = some x) : ∃ ol, IsOps w a len cap ol := by
  have c6 : Try.prog.cellsOf 32 = 3 := by kernel_rfl
  rcases Go.Deep.open_slice Try.underlying22 hf with ⟨hcs, _⟩ | ⟨ad, l, c, m, n, D, Pl, hcs, _, hl, hm, hmm, _, hx⟩
  · simp at hcs
    obtain ⟨rfl, rfl, rfl⟩ := hcs
    exact ⟨[], rfl, by omega, by simp, .inl rfl⟩
  · simp at hcs
    obtain ⟨rfl, rfl, rfl⟩ := hcs
    have hlm : len ≤ m := by rw [hmm]; split <;> omega
    have each : ∀ i, i < len → ∃ x : OpE, x.Ok ∧ ∀ j v, x.cs[j]? = some v → w.cell? (ad.add (i * 3) |>.add j) = some v := fun i hi => by
      obtain ⟨cs', h1, h2⟩ := hx i (by omega)
      rw [c6] at h1
      obtain ⟨_, hlen, hcell⟩ := World.cells?_some h1
      obtain ⟨x, ok, rfl⟩ := op_cells h2 hlen
      exact ⟨x, ok, fun j v hj => by rw [hcell j (by have := (List.getElem?_eq_some_iff.1 hj).1; simpa [OpE.cs] using this)]; exact hj⟩
    obtain ⟨ol, hol, hP⟩ := list_of len each
    refine ⟨ol, hol, ⟨hl, by unfold maxLen at hm; omega⟩, fun x hx => ?_, ?_⟩
    · obtain ⟨i, hi⟩ := List.getElem?_of_mem hx
      exact (hP i x hi).1
    · by_cases h0 : len = 0
      · exact .inl h0
      · right
        obtain ⟨x, ok, hc⟩ := each 0 (by omega)
        have hs : ad.spot = none := by
          have := hc 0 _ rfl
          unfold World.cell? at this
          split at this
          · split at this
            · cases this
            · rename_i hsp
              cases hsq : ad.spot with
              | none => rfl
              | some q => simp [Addr.add, hsq] at hsp
          · cases this
        obtain ⟨bb, off, sp⟩ := ad
        simp only at hs
        subst hs
        refine ⟨bb, off, rfl, fun i x hi => ?_⟩
        intro j v hj
        have := (hP i x hi).2 j v hj
        simpa only [Addr.add_lit] using this
theorem open_turns {a : Option Addr} {len cap fuel : Nat} {x : DataW H × List MemPlace} (hf : DataW.trod enc Try.prog w base spare held fuel 42 [.slice a len cap] = some x) : ∃ ol, IsTurns w a len cap ol := by
  have c6 : Try.prog.cellsOf 46 = 2 := by kernel_rfl
  rcases Go.Deep.open_slice Try.underlying42 hf with ⟨hcs, _⟩ | ⟨ad, l, c, m, n, D, Pl, hcs, _, hl, hm, hmm, _, hx⟩
  · simp at hcs
    obtain ⟨rfl, rfl, rfl⟩ := hcs
    exact ⟨[], rfl, by omega, by simp, .inl rfl⟩
  · simp at hcs
    obtain ⟨rfl, rfl, rfl⟩ := hcs
    have hlm : len ≤ m := by rw [hmm]; split <;> omega
    have each : ∀ i, i < len → ∃ x : TuE, x.Ok ∧ ∀ j v, x.cs[j]? = some v → w.cell? (ad.add (i * 2) |>.add j) = some v := fun i hi => by
      obtain ⟨cs', h1, h2⟩ := hx i (by omega)
      rw [c6] at h1
      obtain ⟨_, hlen, hcell⟩ := World.cells?_some h1
      obtain ⟨x, ok, rfl⟩ := tu_cells h2 hlen
      exact ⟨x, ok, fun j v hj => by rw [hcell j (by have := (List.getElem?_eq_some_iff.1 hj).1; simpa [TuE.cs] using this)]; exact hj⟩
    obtain ⟨ol, hol, hP⟩ := list_of len each
    refine ⟨ol, hol, ⟨hl, by unfold maxLen at hm; omega⟩, fun x hx => ?_, ?_⟩
    · obtain ⟨i, hi⟩ := List.getElem?_of_mem hx
      exact (hP i x hi).1
    · by_cases h0 : len = 0
      · exact .inl h0
      · right
        obtain ⟨x, ok, hc⟩ := each 0 (by omega)
        have hs : ad.spot = none := by
          have := hc 0 _ rfl
          unfold World.cell? at this
          split at this
          · split at this
            · cases this
            · rename_i hsp
              cases hsq : ad.spot with
              | none => rfl
              | some q => simp [Addr.add, hsq] at hsp
          · cases this
        obtain ⟨bb, off, sp⟩ := ad
        simp only at hs
        subst hs
        refine ⟨bb, off, rfl, fun i x hi => ?_⟩
        intro j v hj
        have := (hP i x hi).2 j v hj
        simpa only [Addr.add_lit] using this
theorem turns_size {a : Option Addr} {len cap fuel : Nat} {x : DataW H × List MemPlace} (hf : DataW.trod enc Try.prog w base spare held fuel 42 [.slice a len cap] = some x) {ts : List TypeId} {ds : List (DataW H)} {j : Nat} (hs : (DataW.weightsEach Try.prog ts ds).all (· ≤ reachBytes) = true) (ht : ts[j]? = some 42) (hd : ds[j]? = some x.1) : len * 16 ≤ 140737488355328 := by
  rcases Go.Deep.open_slice Try.underlying42 hf with ⟨hcs, _⟩ | ⟨ad, l, c, m, n, D, Pl, hcs, _, hl, hm, hmm, rfl, hx⟩
  · simp at hcs
    omega
  · simp at hcs
    obtain ⟨rfl, rfl, rfl⟩ := hcs
    have h := sized_slice hs ht hd Try.underlying42
    have hb : Try.prog.bytesOf 46 = 16 := by kernel_rfl
    rw [hb] at h
    simp only [List.length_map, List.length_range] at h
    unfold reachBytes at h
    omega
end
end Go.Proofs.Ytgmjminpgliilaa
