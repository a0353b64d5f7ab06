/- A packet that came in, opened. -/
import Derived.Test.YtnglgedcpmbbjaaKO1
import Derived.Test.YtnglgedcpmbbjaaBK
namespace Go.Proofs.Ytnglgedcpmbbjaa
open Go.ChangeShapes Go.WideShapes Go.ChangeAt Go.RowKit
set_option linter.unusedVariables false
set_option maxRecDepth 100000

section
variable {H : Type} {enc : TypeId × Value → H} {w : World} {base : Nat} {spare : Nat → Bool} {held : Bool}

theorem row_cells {fuel : Nat} {cs : List Value} {x : DataW H × List MemPlace} (hf : DataW.trod enc Try.prog w base (fun _ => true) held fuel 24 cs = some x) :
    ∃ a len cap zs, cs = [.slice a len cap] ∧ IsRow .u8 w a len cap zs ∧ (x.1 = .nil ∧ zs = [] ∨ x.1 = .slice (lits .u8 (zs.take len)) (lits .u8 (zs.drop len))) := by
  rcases open_ints Try.underlying24 Try.underlying5 (by kernel_rfl) hf with ⟨hcs, hx⟩ | ⟨x', l, c, zs, hcs, _, hl, hm, hz, hx, hcell, hwz⟩
  · subst hcs hx
    exact ⟨none, 0, 0, [], rfl, .inl ⟨rfl, rfl, rfl, rfl⟩, .inl ⟨rfl, rfl⟩⟩
  · subst hcs hx
    exact ⟨_, l, c, zs, rfl, .inr ⟨_, rfl, hl, hm, by simpa using hz, hcell, hwz⟩, .inr rfl⟩

theorem row_bulk {len : Nat} {zs : List Int} {d : DataW H} (h : d = .nil ∧ zs = [] ∨ d = .slice (lits .u8 (zs.take len)) (lits .u8 (zs.drop len))) : (zs.take len).length ≤ Rows.uptoBulk d := by
  rcases h with ⟨e, e2⟩ | e
  · rw [e2]; simp
  · rw [e]
    have := bulk_slice (H := H) (lits .u8 (zs.take len)) (lits .u8 (zs.drop len))
    simp only [lits, List.length_map] at this ⊢
    omega

theorem open_packet {v : Value} {r : Reach} {b0 : Nat} (hv : Value.okWide Try.prog w r b0 30 v) {d : DataW H} {ps : List MemPlace} (hd : DataW.Trod enc Try.prog w base (fun _ => true) held 30 v d ps)
    (hw : ∀ n ∈ d.weights Try.prog 30, decide (n ≤ reachBytes) = true) :
    ∃ (P : Pk) (x y u : Value), v = P.val x y u ∧ InB w x P.dst ∧ InB w y P.src ∧ InB w u P.payload ∧ P.dst.length ≤ 140737488351232 ∧ P.src.length ≤ 140737488351232 ∧ P.payload.length ≤ 140737488351232 ∧ P.payload.length ≤ Rows.uptoBulk d := by
  have cP : Try.prog.cellsOf 30 = 6 := by kernel_rfl
  have c3 : Try.prog.cellsOf 3 = 1 := by kernel_rfl
  have c2 : Try.prog.cellsOf 2 = 1 := by kernel_rfl
  have cB : Try.prog.cellsOf 24 = 1 := by kernel_rfl
  simp only [Value.okWide, Try.underlying30] at hv
  obtain ⟨cs, rfl, hs, -⟩ := hv
  rw [cP] at hs
  obtain ⟨fuel, hf⟩ := hd
  obtain ⟨cs⟩ := cs
  match cs, hs with
  | [v0, v1, v2, v3, v4, v5], _ =>
    have hf' : DataW.trod enc Try.prog w base (fun _ => true) held fuel 30 [v0, v1, v2, v3, v4, v5] = some (d, ps) := by simpa [Value.cells] using hf
    obtain ⟨xs, m, -, hx, -, hxl, hff⟩ := DataW.trod_struct Try.underlying30 hf'
    match xs, hxl with
    | [y0, y1, y2, y3, y4, y5], _ =>
      have f0 := hff 0 _ rfl
      have f1 := hff 1 _ rfl
      have f2 := hff 2 _ rfl
      have f3 := hff 3 _ rfl
      have f4 := hff 4 _ rfl
      have f5 := hff 5 _ rfl
      simp [c2, c3, cB] at f0 f1 f2 f3 f4 f5
      obtain ⟨a0, e0, -⟩ := DataW.trod_int Try.underlying3 f0
      obtain ⟨a3, e3, -⟩ := DataW.trod_int Try.underlying2 f3
      obtain ⟨a4, e4, -⟩ := DataW.trod_int Try.underlying3 f4
      obtain ⟨p1, l1, k1, z1, e1, r1, q1⟩ := row_cells f1
      obtain ⟨p2, l2, k2, z2, e2, r2, q2⟩ := row_cells f2
      obtain ⟨p5, l5, k5, z5, e5, r5, q5⟩ := row_cells f5
      simp only [List.cons.injEq, and_true] at e0 e1 e2 e3 e4 e5
      subst e0 e1 e2 e3 e4 e5
      simp only [List.map_cons, List.map_nil, Prod.mk.injEq] at hx
      obtain ⟨rfl, -⟩ := hx
      have hw' : (DataW.weightsEach Try.prog [3, 24, 24, 2, 3, 24] [y0.1, y1.1, y2.1, y3.1, y4.1, y5.1]).all (· ≤ reachBytes) = true := by
        apply List.all_eq_true.2
        intro n hn
        refine hw n ?_
        unfold DataW.weights
        rw [Try.underlying30]
        exact hn
      have s1 := row_size hw' (j := 1) (zs := z1) rfl rfl q1
      have s2 := row_size hw' (j := 2) (zs := z2) rfl rfl q2
      have s5 := row_size hw' (j := 5) (zs := z5) rfl rfl q5
      have bk : (z5.take l5).length ≤ Rows.uptoBulk (.agg [y0.1, y1.1, y2.1, y3.1, y4.1, y5.1]) := by
        have h1 := bulk_among (d := y5.1) (l := [y0.1, y1.1, y2.1, y3.1, y4.1, y5.1]) (by simp)
        have h2 : (z5.take l5).length ≤ Rows.uptoBulk y5.1 := row_bulk q5
        have h3 : Rows.uptoBulk (.agg [y0.1, y1.1, y2.1, y3.1, y4.1, y5.1]) = Rows.uptoBulkAll [y0.1, y1.1, y2.1, y3.1, y4.1, y5.1] + 1 := by rw [Rows.uptoBulk]
        omega
      exact ⟨⟨a0, z1.take l1, z2.take l2, a3, a4, z5.take l5⟩, _, _, _, rfl, isRow_in r1, isRow_in r2, isRow_in r5, by simp only [List.length_take]; omega, by simp only [List.length_take]; omega, by simp only [List.length_take]; omega, bk⟩
end
end Go.Proofs.Ytnglgedcpmbbjaa
