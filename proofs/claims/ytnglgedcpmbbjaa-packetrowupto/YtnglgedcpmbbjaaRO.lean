/- A row of packets that came in, opened. -/
import Derived.Test.YtnglgedcpmbbjaaKO2
import Derived.Test.YtnglgedcpmbbjaaRJ
import Derived.Deep.Slices
namespace Go.Proofs.Ytnglgedcpmbbjaa
open Go.ChangeShapes Go.WideShapes Go.ChangeAt Go.RowKit
set_option linter.unusedVariables false
set_option maxRecDepth 100000
set_option maxHeartbeats 1000000

theorem tot_bulk {H : Type} : ∀ (xs : List PV) (ds : List (DataW H)), xs.length = ds.length → (∀ (i : Nat) (x : PV) (d : DataW H), xs[i]? = some x → ds[i]? = some d → x.p.payload.length ≤ Rows.uptoBulk d) → tot xs ≤ 61 * Rows.uptoBulkAll ds
  | [], _, _, _ => Nat.zero_le _
  | x :: xs, [], hl, _ => by simp at hl
  | x :: xs, d :: ds, hl, h => by
    have h1 := h 0 x d rfl rfl
    have h2 := bulk_pos d
    have h3 := tot_bulk xs ds (by simpa using hl) (fun i y e hy he => h (i + 1) y e (by simpa using hy) (by simpa using he))
    simp only [tot, Rows.uptoBulkAll]
    omega

section
variable {H : Type} {enc : TypeId × Value → H} {w : World} {base : Nat} {held : Bool}

theorem pk_cells {n : Nat} {cs : List Value} {y : DataW H × List MemPlace} (h2 : DataW.trod enc Try.prog w base (fun _ => true) held n 30 cs = some y) (hl : cs.length = 6) :
    ∃ x : PV, Lists w x ∧ cs = x.cl ∧ x.p.dst.length ≤ Rows.uptoBulk y.1 ∧ x.p.src.length ≤ Rows.uptoBulk y.1 ∧ x.p.payload.length ≤ Rows.uptoBulk y.1 := by
  have c3 : Try.prog.cellsOf 3 = 1 := by kernel_rfl
  have c2 : Try.prog.cellsOf 2 = 1 := by kernel_rfl
  have cB : Try.prog.cellsOf 24 = 1 := by kernel_rfl
  obtain ⟨xs, m, -, hx, -, hxl, hff⟩ := DataW.trod_struct Try.underlying30 h2
  match cs, hl, xs, hxl with
  | [v0, v1, v2, v3, v4, v5], _, [y0, y1, y2, y3, y4, y5], _ =>
    have f0 := hff 0 _ rfl
    have f1 := hff 1 _ rfl
    have f2 := hff 2 _ rfl
    have f3 := hff 3 _ rfl
    have f4 := hff 4 _ rfl
    have f5 := hff 5 _ rfl
    simp [c2, c3, cB] at f0 f1 f2 f3 f4 f5
    obtain ⟨a0, e0, -⟩ := DataW.trod_int Try.underlying3 f0
    obtain ⟨a3, e3, -⟩ := DataW.trod_int Try.underlying2 f3
    obtain ⟨a4, e4, -⟩ := DataW.trod_int Try.underlying3 f4
    obtain ⟨p1, l1, k1, z1, e1, r1, q1⟩ := row_cells f1
    obtain ⟨p2, l2, k2, z2, e2, r2, q2⟩ := row_cells f2
    obtain ⟨p5, l5, k5, z5, e5, r5, q5⟩ := row_cells f5
    simp only [List.cons.injEq, and_true] at e0 e1 e2 e3 e4 e5
    subst e0 e1 e2 e3 e4 e5
    have hy : y.1 = .agg [y0.1, y1.1, y2.1, y3.1, y4.1, y5.1] := by rw [hx]; rfl
    have h3 : Rows.uptoBulk y.1 = Rows.uptoBulkAll [y0.1, y1.1, y2.1, y3.1, y4.1, y5.1] + 1 := by rw [hy, Rows.uptoBulk]
    have b1 := Nat.le_trans (row_bulk q1) (bulk_among (d := y1.1) (l := [y0.1, y1.1, y2.1, y3.1, y4.1, y5.1]) (by simp))
    have b2 := Nat.le_trans (row_bulk q2) (bulk_among (d := y2.1) (l := [y0.1, y1.1, y2.1, y3.1, y4.1, y5.1]) (by simp))
    have b5 := Nat.le_trans (row_bulk q5) (bulk_among (d := y5.1) (l := [y0.1, y1.1, y2.1, y3.1, y4.1, y5.1]) (by simp))
    exact ⟨⟨⟨a0, z1.take l1, z2.take l2, a3, a4, z5.take l5⟩, _, _, _⟩, ⟨isRow_in r1, isRow_in r2, isRow_in r5⟩, rfl, by show (z1.take l1).length ≤ _; omega, by show (z2.take l2).length ≤ _; omega, by show (z5.take l5).length ≤ _; omega⟩

theorem list_of {P : Nat → PV → Prop} : ∀ n : Nat, (∀ i, i < n → ∃ x, P i x) → ∃ l : List PV, l.length = n ∧ ∀ i x, l[i]? = some x → P i x
  | 0, _ => ⟨[], rfl, fun i x h => by simp at h⟩
  | n + 1, h => by
    obtain ⟨l, hl, hP⟩ := list_of n (fun i hi => h i (by omega))
    obtain ⟨x, hx⟩ := h n (by omega)
    refine ⟨l ++ [x], by simp [hl], fun i y hy => ?_⟩
    by_cases c : i < n
    · rw [List.getElem?_append_left (by omega)] at hy
      exact hP i y hy
    · have hi : i < (l ++ [x]).length := (List.getElem?_eq_some_iff.1 hy).1
      simp [hl] at hi
      obtain rfl : i = n := by omega
      rw [List.getElem?_append_right (by omega), hl] at hy
      simp at hy
      subst hy
      exact hx

theorem open_pks {a : Option Addr} {len cap fuel : Nat} {x : DataW H × List MemPlace} (hf : DataW.trod enc Try.prog w base (fun _ => true) held fuel 22 [.slice a len cap] = some x) (hb : Rows.uptoBulk x.1 ≤ 1048576) :
    ∃ xs, IsPks w a len cap xs ∧ tot xs ≤ 70000000 ∧ len ≤ 1048576 := by
  have c6 : Try.prog.cellsOf 30 = 6 := by kernel_rfl
  rcases Go.Deep.open_slice Try.underlying22 hf with ⟨hcs, _⟩ | ⟨ad, l, c, m, n, D, Pl, hcs, _, hl, hm, hmm, hxe, hx⟩
  · simp at hcs
    obtain ⟨rfl, rfl, rfl⟩ := hcs
    exact ⟨[], ⟨rfl, by omega, by simp, by simp, .inl rfl⟩, by simp [tot], by omega⟩
  · simp at hcs
    obtain ⟨rfl, rfl, rfl⟩ := hcs
    have hlm : len ≤ m := by rw [hmm]; split <;> omega
    have bk : Rows.uptoBulkAll ((List.range len).map D) ≤ 1048575 := by
      have : x.1 = .slice ((List.range len).map D) ((List.range (m - len)).map fun j => D (len + j)) := by rw [hxe]
      rw [this] at hb
      simp only [Rows.uptoBulk] at hb
      omega
    have each : ∀ i, i < len → ∃ x : PV, (Lists w x ∧ x.p.dst.length ≤ Rows.uptoBulk (D i) ∧ x.p.src.length ≤ Rows.uptoBulk (D i) ∧ x.p.payload.length ≤ Rows.uptoBulk (D i)) ∧ ∀ j v, x.cl[j]? = some v → w.cell? (ad.add (i * 6) |>.add j) = some v := fun i hi => by
      obtain ⟨cs', h1, h2⟩ := hx i (by omega)
      rw [c6] at h1
      obtain ⟨_, hlen, hcell⟩ := World.cells?_some h1
      obtain ⟨x, ok, rfl, b1, b2, b3⟩ := pk_cells h2 hlen
      exact ⟨x, ⟨ok, b1, b2, b3⟩, fun j v hj => by rw [hcell j (by have := (List.getElem?_eq_some_iff.1 hj).1; exact this)]; exact hj⟩
    obtain ⟨xs, hxs, hP⟩ := list_of len each
    have small : ∀ i, i < len → Rows.uptoBulk (D i) ≤ 1048575 := fun i hi => Nat.le_trans (bulk_among (List.mem_map.2 ⟨i, by simpa using hi, rfl⟩)) bk
    have tl : len ≤ 1048576 := by
      have := bulk_count ((List.range len).map D)
      simp only [List.length_map, List.length_range] at this
      omega
    have tt := tot_bulk xs ((List.range len).map D) (by simp [hxs]) (fun i x d hxi hd => by
      have hi : i < len := by rw [← hxs]; exact (List.getElem?_eq_some_iff.1 hxi).1
      rw [List.getElem?_map, List.getElem?_range hi] at hd
      simp only [Option.map_some, Option.some.injEq] at hd
      subst hd
      exact (hP i x hxi).1.2.2.2)
    refine ⟨xs, ⟨hxs, ⟨hl, by unfold maxLen at hm; omega⟩, fun x hx => ?_, fun x hx => ?_, ?_⟩, by omega, tl⟩
    · obtain ⟨i, hi⟩ := List.getElem?_of_mem hx
      exact (hP i x hi).1.1
    · obtain ⟨i, hi⟩ := List.getElem?_of_mem hx
      have hil : i < len := by rw [← hxs]; exact (List.getElem?_eq_some_iff.1 hi).1
      have := (hP i x hi).1
      have := small i hil
      omega
    · by_cases h0 : len = 0
      · exact .inl h0
      · right
        obtain ⟨x, ok, hc⟩ := each 0 (by omega)
        have hs : ad.spot = none := by
          have := hc 0 _ rfl
          unfold World.cell? at this
          split at this
          · split at this
            · cases this
            · rename_i hsp
              cases hsq : ad.spot with
              | none => rfl
              | some q => simp [Addr.add, hsq] at hsp
          · cases this
        obtain ⟨bb, off, sp⟩ := ad
        simp only at hs
        subst hs
        refine ⟨bb, off, rfl, fun i x hx j hj => ?_⟩
        have h6 : x.cl.length = 6 := rfl
        have hv : x.cl[j]? = some (x.cl[j]'(by omega)) := List.getElem?_eq_getElem _
        have := (hP i x hx).2 j _ hv
        simp only [Addr.add_lit] at this
        rw [hv, ← this]
end
end Go.Proofs.Ytnglgedcpmbbjaa
