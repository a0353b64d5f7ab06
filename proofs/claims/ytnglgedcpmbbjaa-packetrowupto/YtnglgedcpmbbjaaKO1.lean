/- Slices and arrays that came in, opened. -/
import Derived.Test.YtnglgedcpmbbjaaWR
import Derived.Test.YtnglgedcpmbbjaaKZ
import Derived.Test.YtnglgedcpmbbjaaKX
import Derived.ProofKit
import Derived.OpenShut
import Derived.ShutString
import Derived.ChangeOld
import Derived.SizedLaws
import Derived.Laws.IdiomArrays
namespace Go.Proofs.Ytnglgedcpmbbjaa
open Go.ChangeShapes Go.WideShapes Go.ChangeAt Go.RowKit
set_option linter.unusedVariables false
set_option maxRecDepth 100000

theorem cell_lt {w : World} {b o : Nat} {v : Value} (h : w.cell? ⟨b, o, none⟩ = some v) : b < w.heap.size := by
  by_cases c : b < w.heap.size
  · exact c
  · have e : w.heap[b]? = none := by simp; omega
    simp [World.cell?, e] at h

theorem isRow_in {w : World} {a : Option Addr} {len cap : Nat} {zs : List Int} (h : IsRow .u8 w a len cap zs) : InB w (.slice a len cap) (zs.take len) := by
  obtain ⟨h1, h2, h3, h4, h5⟩ := isRow_rd h
  refine ⟨a, cap, by rw [h1], h2, by rw [h1]; exact h3, h4, fun x e hc => ?_⟩
  subst e
  rcases h with ⟨h, -⟩ | ⟨x', e, -, -, hz, hcell, -⟩
  · cases h
  · cases e
    obtain ⟨b, off, spot⟩ := x
    have h0 := hcell 0 (by omega)
    have hs : spot = none := by simpa [Addr.add] using World.cell?_spot h0
    subst hs
    rw [show (⟨b, off, none⟩ : Addr).add 0 = ⟨b, off, none⟩ by simp [Addr.add]] at h0
    have := cell_lt h0
    exact ⟨this, Nat.ne_of_lt this, _, _, rfl⟩

section
variable {H : Type} {enc : TypeId × Value → H} {w : World} {base : Nat} {spare : Nat → Bool} {held : Bool}

theorem open_arr3 {v : Value} {r : Reach} {b0 : Nat} (hv : Value.okWide Try.prog w r b0 23 v) {d : DataW H} {ps : List MemPlace} (hd : DataW.Trod enc Try.prog w base spare held 23 v d ps) : ∃ G : Lg, v = G.v := by
  have c2 : Try.prog.cellsOf 2 = 1 := by kernel_rfl
  have c46 : Try.prog.cellsOf 23 = 3 := by kernel_rfl
  simp only [Value.okWide, Try.underlying23] at hv
  obtain ⟨cs, rfl, hs, -⟩ := hv
  rw [c46] at hs
  obtain ⟨fuel, hf⟩ := hd
  obtain ⟨cs⟩ := cs
  match cs, hs with
  | [x, y, z], _ =>
    have hf' : DataW.trod enc Try.prog w base spare held fuel 23 [x, y, z] = some (d, ps) := by simpa [Value.cells] using hf
    obtain ⟨y0, y1, y2, n, -, f0, f1, f2⟩ := trod_array3 Try.underlying23 c2 hf'
    obtain ⟨a0, e0, -⟩ := DataW.trod_int Try.underlying2 f0
    obtain ⟨a1, e1, -⟩ := DataW.trod_int Try.underlying2 f1
    obtain ⟨a2, e2, -⟩ := DataW.trod_int Try.underlying2 f2
    simp only [List.cons.injEq, and_true] at e0 e1 e2
    subst e0 e1 e2
    exact ⟨(a0, a1, a2), rfl⟩

theorem open_row {a : Option Addr} {len cap : Nat} {d : DataW H} {ps : List MemPlace} (hd : DataW.Trod enc Try.prog w base (fun _ => true) held 24 (.slice a len cap) d ps) : ∃ zs, IsRow .u8 w a len cap zs ∧ (d = .nil ∧ zs = [] ∨ d = .slice (lits .u8 (zs.take len)) (lits .u8 (zs.drop len))) := by
  obtain ⟨fuel, hf⟩ := hd
  rcases open_ints Try.underlying24 Try.underlying5 (by kernel_rfl) hf with ⟨hcs, hx⟩ | ⟨x, l, c, zs, hcs, _, hl, hm, hz, hx, hcell, hwz⟩
  · simp [Value.cells] at hcs
    obtain ⟨rfl, rfl, rfl⟩ := hcs
    simp only [Prod.mk.injEq] at hx
    exact ⟨[], .inl ⟨rfl, rfl, rfl, rfl⟩, .inl ⟨hx.1, rfl⟩⟩
  · simp [Value.cells] at hcs
    obtain ⟨rfl, rfl, rfl⟩ := hcs
    simp only [Prod.mk.injEq] at hx
    exact ⟨zs, .inr ⟨_, rfl, hl, hm, by simpa using hz, hcell, hwz⟩, .inr hx.1⟩

theorem row_size {ts : List TypeId} {ds : List (DataW H)} (hsz : (DataW.weightsEach Try.prog ts ds).all (· ≤ reachBytes) = true) {j len : Nat} {zs : List Int} {d : DataW H} (ht : ts[j]? = some 24) (hd : ds[j]? = some d)
    (h : d = .nil ∧ zs = [] ∨ d = .slice (lits .u8 (zs.take len)) (lits .u8 (zs.drop len))) : zs.length ≤ 140737488351232 := by
  rcases h with ⟨-, rfl⟩ | h
  · simp
  · have hb : Try.prog.bytesOf 5 = 1 := by kernel_rfl
    subst h
    have := sized_slice hsz ht hd Try.underlying24
    rw [hb] at this
    simp only [lits, List.length_map, List.length_take, List.length_drop, reachBytes] at this
    omega
end
end Go.Proofs.Ytnglgedcpmbbjaa
