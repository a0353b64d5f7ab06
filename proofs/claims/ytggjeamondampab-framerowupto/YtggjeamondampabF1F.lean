/- A frame that came in, opened. -/
import Derived.Test.YtggjeamondampabWR
import Derived.Test.YtggjeamondampabBK
import Derived.Test.YtggjeamondampabFX6
import Derived.ProofKit
import Derived.OpenShut
import Derived.ShutString
import Derived.ChangeOld
import Derived.SizedLaws
import Derived.Laws.IdiomArrays
import Derived.Deep.Slices
namespace Go.Proofs.Ytggjeamondampab
open Go.ChangeShapes Go.WideShapes Go.ChangeAt Go.RowKit
set_option linter.unusedVariables false
set_option maxRecDepth 100000

theorem cell_lt {w : World} {b o : Nat} {v : Value} (h : w.cell? ⟨b, o, none⟩ = some v) : b < w.heap.size := by
  by_cases c : b < w.heap.size
  · exact c
  · have e : w.heap[b]? = none := by simp; omega
    simp [World.cell?, e] at h

theorem grown_bel {w W : World} (h : w.grownBy W none) : Below w.heap.size w W := ⟨h.os, h.tape, h.output, h.size, fun i hi => h.block i hi (by simp)⟩

/-- Bytes that came in. -/
structure InS (w : World) (v : Value) (l : List Int) : Prop where
  ex : ∃ a c, v = .slice a l.length c ∧ Rd w a l ∧ l.length ≤ c ∧ c ≤ maxLen ∧ (∀ x, a = some x → c ≠ 0 → x.block < w.heap.size ∧ ∃ b o, x = ⟨b, o, none⟩)

theorem isRow_in {w : World} {a : Option Addr} {len cap : Nat} {zs : List Int} (h : IsRow .u8 w a len cap zs) : InS w (.slice a len cap) (zs.take len) := by
  obtain ⟨h1, h2, h3, h4, h5⟩ := isRow_rd h
  refine ⟨a, cap, by rw [h1], h2, by rw [h1]; exact h3, h4, fun x e hc => ?_⟩
  subst e
  rcases h with ⟨h, -⟩ | ⟨x', e, -, -, hz, hcell, -⟩
  · cases h
  · cases e
    obtain ⟨b, off, spot⟩ := x
    have h0 := hcell 0 (by omega)
    have hs : spot = none := by simpa [Addr.add] using World.cell?_spot h0
    subst hs
    rw [show (⟨b, off, none⟩ : Addr).add 0 = ⟨b, off, none⟩ by simp [Addr.add]] at h0
    exact ⟨cell_lt h0, _, _, rfl⟩

theorem list_of {α : Type} (d : α) (n : Nat) (p : Nat → α → Prop) (h : ∀ i, i < n → ∃ s, p i s) : ∃ L : List α, L.length = n ∧ ∀ i, i < n → p i (L.getD i d) := by
  induction n with
  | zero => exact ⟨[], rfl, fun i hi => by omega⟩
  | succ n ih =>
    obtain ⟨L, hL, hp⟩ := ih fun i hi => h i (by omega)
    obtain ⟨s, hs⟩ := h n (by omega)
    refine ⟨L ++ [s], by simp [hL], fun i hi => ?_⟩
    by_cases hin : i < n
    · have e : (L ++ [s]).getD i d = L.getD i d := by
        simp only [List.getD]
        rw [List.getElem?_append_left (by omega)]
      rw [e]
      exact hp i hin
    · obtain rfl : i = n := by omega
      have e : (L ++ [s]).getD i d = s := by
        simp only [List.getD]
        rw [List.getElem?_append_right (by omega), hL]
        simp
      rw [e]
      exact hs

section
variable {H : Type} {enc : TypeId × Value → H} {w : World} {base : Nat} {spare : Nat → Bool} {held : Bool}

theorem open_row {a : Option Addr} {len cap : Nat} {d : DataW H} {ps : List MemPlace} (hd : DataW.Trod enc Try.prog w base (fun _ => true) held 22 (.slice a len cap) d ps) : ∃ zs, IsRow .u8 w a len cap zs ∧ (d = .nil ∧ zs = [] ∨ d = .slice (lits .u8 (zs.take len)) (lits .u8 (zs.drop len))) := by
  obtain ⟨fuel, hf⟩ := hd
  rcases open_ints Try.underlying22 Try.underlying5 (by kernel_rfl) hf with ⟨hcs, hx⟩ | ⟨x, l, c, zs, hcs, _, hl, hm, hz, hx, hcell, hwz⟩
  · simp [Value.cells] at hcs
    obtain ⟨rfl, rfl, rfl⟩ := hcs
    simp only [Prod.mk.injEq] at hx
    exact ⟨[], .inl ⟨rfl, rfl, rfl, rfl⟩, .inl ⟨hx.1, rfl⟩⟩
  · simp [Value.cells] at hcs
    obtain ⟨rfl, rfl, rfl⟩ := hcs
    simp only [Prod.mk.injEq] at hx
    exact ⟨zs, .inr ⟨_, rfl, hl, hm, by simpa using hz, hcell, hwz⟩, .inr hx.1⟩

theorem row_size {ts : List TypeId} {ds : List (DataW H)} (hsz : (DataW.weightsEach Try.prog ts ds).all (· ≤ reachBytes) = true) {j len : Nat} {zs : List Int} {d : DataW H} (ht : ts[j]? = some 22) (hd : ds[j]? = some d)
    (h : d = .nil ∧ zs = [] ∨ d = .slice (lits .u8 (zs.take len)) (lits .u8 (zs.drop len))) : zs.length ≤ 140737488351232 := by
  rcases h with ⟨-, rfl⟩ | h
  · simp
  · have hb : Try.prog.bytesOf 5 = 1 := by kernel_rfl
    subst h
    have := sized_slice hsz ht hd Try.underlying22
    rw [hb] at this
    simp only [lits, List.length_map, List.length_take, List.length_drop, reachBytes] at this
    omega

theorem row_bulk {len : Nat} {zs : List Int} {d : DataW H} (h : d = .nil ∧ zs = [] ∨ d = .slice (lits .u8 (zs.take len)) (lits .u8 (zs.drop len))) : (zs.take len).length ≤ Rows.uptoBulk d := by
  rcases h with ⟨e, e2⟩ | e
  · rw [e2]; simp
  · rw [e]
    have := bulk_slice (H := H) (lits .u8 (zs.take len)) (lits .u8 (zs.drop len))
    simp only [lits, List.length_map] at this ⊢
    omega

theorem row_cells {fuel : Nat} {cs : List Value} {x : DataW H × List MemPlace} (hf : DataW.trod enc Try.prog w base (fun _ => true) held fuel 22 cs = some x) :
    ∃ a len cap zs, cs = [.slice a len cap] ∧ IsRow .u8 w a len cap zs ∧ (x.1 = .nil ∧ zs = [] ∨ x.1 = .slice (lits .u8 (zs.take len)) (lits .u8 (zs.drop len))) := by
  rcases open_ints Try.underlying22 Try.underlying5 (by kernel_rfl) hf with ⟨hcs, hx⟩ | ⟨x', l, c, zs, hcs, _, hl, hm, hz, hx, hcell, hwz⟩
  · subst hcs hx
    exact ⟨none, 0, 0, [], rfl, .inl ⟨rfl, rfl, rfl, rfl⟩, .inl ⟨rfl, rfl⟩⟩
  · subst hcs hx
    exact ⟨_, l, c, zs, rfl, .inr ⟨_, rfl, hl, hm, by simpa using hz, hcell, hwz⟩, .inr rfl⟩

theorem wf_i64 {z : Int} (h : (Lit.int .i64 z).wf = true) : -9223372036854775808 ≤ z ∧ z ≤ 9223372036854775807 := by
  simp [Lit.wf, IntKind.min, IntKind.max] at h
  exact ⟨of_decide_eq_true h.1, of_decide_eq_true h.2⟩

theorem span_cells {n : Nat} {cs : List Value} {y : DataW H × List MemPlace} (h2 : DataW.trod enc Try.prog w base spare held n 57 cs = some y) (hl : cs.length = 2) :
    ∃ lo hi : Int, cs = [.int .i64 lo, .int .i64 hi] ∧ -9223372036854775808 ≤ lo ∧ lo ≤ 9223372036854775807 := by
  obtain ⟨xs, m, hk, hxy, hcl, hxl, hf⟩ := DataW.trod_struct Try.underlying57 h2
  have c2 : Try.prog.cellsOf 2 = 1 := by kernel_rfl
  match xs, hxl, cs, hl with
  | [y0, y1], _, [v0, v1], _ =>
    have f0 := hf 0 _ rfl
    have f1 := hf 1 _ rfl
    simp [c2] at f0 f1
    obtain ⟨lo, e0, _, r0⟩ := DataW.trod_int Try.underlying2 f0
    obtain ⟨hi, e1, _, r1⟩ := DataW.trod_int Try.underlying2 f1
    simp only [List.cons.injEq, and_true] at e0 e1
    subst e0 e1
    exact ⟨lo, hi, rfl, wf_i64 r0⟩

/-- Runs that came in. -/
theorem span_row {fuel : Nat} {cs : List Value} {x : DataW H × List MemPlace} (hf : DataW.trod enc Try.prog w base spare held fuel 23 cs = some x) :
    ∃ (a : Option Addr) (len cap : Nat) (L : List (Int × Int)), cs = [.slice a len cap] ∧ L.length = len ∧ RdR w a L ∧ len ≤ cap ∧ cap ≤ 9223372036854775807 ∧ (∀ s ∈ L, -9223372036854775808 ≤ s.1 ∧ s.1 ≤ 9223372036854775807) ∧ len ≤ Rows.uptoBulk x.1 ∧ (x.1 = .nil ∧ len = 0 ∨ ∃ e s : List (DataW H), x.1 = .slice e s ∧ e.length = len) := by
  have c4 : Try.prog.cellsOf 57 = 2 := by kernel_rfl
  rcases Go.Deep.open_slice Try.underlying23 hf with ⟨hcs, hxn⟩ | ⟨ad, l, c, m, n, D, Pl, hcs, _, hl, hm, hmm, hxx, hx⟩
  · subst hcs
    refine ⟨none, 0, 0, [], rfl, rfl, fun h => absurd rfl h, by omega, by omega, (fun s hs => by cases hs), by omega, .inl ⟨?_, rfl⟩⟩
    rw [hxn]
  · subst hcs
    unfold maxLen at hm
    have hlm : l ≤ m := by rw [hmm]; split <;> omega
    have each : ∀ i, i < l → ∃ s : Int × Int, (∀ j v, [Value.int .i64 s.1, .int .i64 s.2][j]? = some v → w.cell? (ad.add (i * 2) |>.add j) = some v) ∧ -9223372036854775808 ≤ s.1 ∧ s.1 ≤ 9223372036854775807 := fun i hi => by
      obtain ⟨cs', h1, h2⟩ := hx i (by omega)
      rw [c4] at h1
      obtain ⟨_, hlen, hcell⟩ := World.cells?_some h1
      obtain ⟨lo, hi', rfl, r⟩ := span_cells h2 hlen
      exact ⟨(lo, hi'), fun j v hj => by rw [hcell j (by have := (List.getElem?_eq_some_iff.1 hj).1; simpa using this)]; exact hj, r⟩
    obtain ⟨L, hL, hp⟩ := list_of (0, 0) l _ each
    have sp : 0 < l → ad.spot = none := fun h0 => by
      have := (hp 0 h0).1 0 _ rfl
      unfold World.cell? at this
      split at this
      · split at this
        · cases this
        · rename_i hsp
          cases hsq : ad.spot with
          | none => rfl
          | some q => simp [Addr.add, hsq] at hsp
      · cases this
    refine ⟨some ad, l, c, L, rfl, hL, fun hne => ?_, hl, by omega, fun s hs => ?_, ?_, .inr ?_⟩
    · have h0 : 0 < l := by
        rw [← hL]
        exact List.length_pos_iff.2 hne
      have hs := sp h0
      obtain ⟨bb, off, sp⟩ := ad
      simp only at hs
      subst hs
      refine ⟨bb, off, rfl, fun i hi => ?_⟩
      have q0 := (hp i (by omega)).1 0 _ rfl
      have q1 := (hp i (by omega)).1 1 _ rfl
      simp only [Addr.add_lit, Nat.add_zero] at q0 q1
      exact ⟨q0, q1⟩
    · obtain ⟨i, hi, rfl⟩ := List.mem_iff_getElem.1 hs
      have := (hp i (by omega)).2
      simpa [List.getD, hi] using this
    · rw [hxx]
      have := bulk_slice (H := H) ((List.range l).map D) ((List.range (m - l)).map fun j => D (l + j))
      simp only [List.length_map, List.length_range] at this
      simp only
      omega
    · exact ⟨_, _, by rw [hxx], by simp⟩

theorem open_frame {v : Value} {r : Reach} {b0 : Nat} (hv : Value.okWide Try.prog w r b0 26 v) {d : DataW H} {ps : List MemPlace} (hd : DataW.Trod enc Try.prog w base (fun _ => true) held 26 v d ps)
    (hw : ∀ n ∈ d.weights Try.prog 26, decide (n ≤ reachBytes) = true) :
    ∃ (f : Fr) (x y : Value), v = f.val x y ∧ FrIn w f x y ∧ TS w x f.data ∧ (-9223372036854775808 ≤ f.kind ∧ f.kind ≤ 9223372036854775807) ∧ f.data.length ≤ 140737488351232 ∧ f.runs.length * 16 ≤ 140737488351232 ∧ f.data.length ≤ Rows.uptoBulk d ∧ f.runs.length ≤ Rows.uptoBulk d := by
  have cP : Try.prog.cellsOf 26 = 17 := by kernel_rfl
  have c3 : Try.prog.cellsOf 3 = 1 := by kernel_rfl
  have c2 : Try.prog.cellsOf 2 = 1 := by kernel_rfl
  have c4 : Try.prog.cellsOf 4 = 1 := by kernel_rfl
  have cB : Try.prog.cellsOf 22 = 1 := by kernel_rfl
  have cS : Try.prog.cellsOf 23 = 1 := by kernel_rfl
  have cA : Try.prog.cellsOf 24 = 3 := by kernel_rfl
  simp only [Value.okWide, Try.underlying26] at hv
  obtain ⟨cs, rfl, hs, -⟩ := hv
  rw [cP] at hs
  obtain ⟨fuel, hf⟩ := hd
  obtain ⟨cs⟩ := cs
  match cs, hs with
  | [v0, v1, v2, v3, v4, v5, v6, v7, v8, v9, v10, v11, v12, v13, v14, v15, v16], _ =>
    have hf' : DataW.trod enc Try.prog w base (fun _ => true) held fuel 26 [v0, v1, v2, v3, v4, v5, v6, v7, v8, v9, v10, v11, v12, v13, v14, v15, v16] = some (d, ps) := by simpa [Value.cells] using hf
    obtain ⟨xs, m, -, hx, -, hxl, hff⟩ := DataW.trod_struct Try.underlying26 hf'
    match xs, hxl with
    | [y0, y1, y2, y3, y4, y5, y6, y7, y8, y9, y10, y11, y12, y13, y14], _ =>
      have f0 := hff 0 _ rfl
      have f1 := hff 1 _ rfl
      have f2 := hff 2 _ rfl
      have f3 := hff 3 _ rfl
      have f4 := hff 4 _ rfl
      have f5 := hff 5 _ rfl
      have f6 := hff 6 _ rfl
      have f7 := hff 7 _ rfl
      have f8 := hff 8 _ rfl
      have f9 := hff 9 _ rfl
      have f10 := hff 10 _ rfl
      have f11 := hff 11 _ rfl
      have f12 := hff 12 _ rfl
      have f13 := hff 13 _ rfl
      have f14 := hff 14 _ rfl
      simp [c2, c3, c4, cB, cS, cA] at f0 f1 f2 f3 f4 f5 f6 f7 f8 f9 f10 f11 f12 f13 f14
      obtain ⟨a0, e0, -, w0⟩ := DataW.trod_int Try.underlying3 f0
      obtain ⟨a1, e1, -⟩ := DataW.trod_int Try.underlying2 f1
      obtain ⟨a2, e2, -⟩ := DataW.trod_int Try.underlying2 f2
      obtain ⟨a4, e4, -⟩ := DataW.trod_int Try.underlying2 f4
      obtain ⟨a5, e5, -⟩ := DataW.trod_bool Try.underlying4 f5
      obtain ⟨a6, e6, -⟩ := DataW.trod_bool Try.underlying4 f6
      obtain ⟨a7, e7, -⟩ := DataW.trod_int Try.underlying2 f7
      obtain ⟨a8, e8, -⟩ := DataW.trod_bool Try.underlying4 f8
      obtain ⟨a9, e9, -⟩ := DataW.trod_int Try.underlying2 f9
      obtain ⟨a10, e10, -⟩ := DataW.trod_bool Try.underlying4 f10
      obtain ⟨a11, e11, -⟩ := DataW.trod_int Try.underlying2 f11
      obtain ⟨a13, e13, -⟩ := DataW.trod_bool Try.underlying4 f13
      obtain ⟨p3, l3, k3, z3, e3, r3, q3⟩ := row_cells f3
      obtain ⟨p12, l12, k12, L, e12, hL, rL, lc, lm, l64, lb, lw⟩ := span_row f12
      obtain ⟨u0, u1, u2, n, -, g0, g1, g2⟩ := trod_array3 Try.underlying24 c2 f14
      obtain ⟨b0, e14, -⟩ := DataW.trod_int Try.underlying2 g0
      obtain ⟨b1, e15, -⟩ := DataW.trod_int Try.underlying2 g1
      obtain ⟨b2, e16, -⟩ := DataW.trod_int Try.underlying2 g2
      simp only [List.cons.injEq, and_true] at e0 e1 e2 e3 e4 e5 e6 e7 e8 e9 e10 e11 e12 e13 e14 e15 e16
      subst e0 e1 e2 e3 e4 e5 e6 e7 e8 e9 e10 e11 e12 e13 e14 e15 e16
      simp only [List.map_cons, List.map_nil, Prod.mk.injEq] at hx
      obtain ⟨rfl, -⟩ := hx
      have hw' : (DataW.weightsEach Try.prog [3, 2, 2, 22, 2, 4, 4, 2, 4, 2, 4, 2, 23, 4, 24] [y0.1, y1.1, y2.1, y3.1, y4.1, y5.1, y6.1, y7.1, y8.1, y9.1, y10.1, y11.1, y12.1, y13.1, y14.1]).all (· ≤ reachBytes) = true := by
        apply List.all_eq_true.2
        intro n hn
        refine hw n ?_
        unfold DataW.weights
        rw [Try.underlying26]
        exact hn
      have s3 := row_size hw' (j := 3) (zs := z3) rfl rfl q3
      have s12 : L.length * 16 ≤ 140737488351232 := by
        rcases lw with ⟨-, e⟩ | ⟨e, s, hxe, hle⟩
        · omega
        · have hb : Try.prog.bytesOf 57 = 16 := by kernel_rfl
          have := sized_slice hw' (j := 12) (t := 23) (e := 57) rfl (by rw [← hxe]; rfl) Try.underlying23
          rw [hb] at this
          simp only [reachBytes] at this
          omega
      have h3 : Rows.uptoBulk (.agg [y0.1, y1.1, y2.1, y3.1, y4.1, y5.1, y6.1, y7.1, y8.1, y9.1, y10.1, y11.1, y12.1, y13.1, y14.1]) = Rows.uptoBulkAll [y0.1, y1.1, y2.1, y3.1, y4.1, y5.1, y6.1, y7.1, y8.1, y9.1, y10.1, y11.1, y12.1, y13.1, y14.1] + 1 := by rw [Rows.uptoBulk]
      have bk : (z3.take l3).length ≤ Rows.uptoBulk (.agg [y0.1, y1.1, y2.1, y3.1, y4.1, y5.1, y6.1, y7.1, y8.1, y9.1, y10.1, y11.1, y12.1, y13.1, y14.1]) := by
        have h1 := bulk_among (d := y3.1) (l := [y0.1, y1.1, y2.1, y3.1, y4.1, y5.1, y6.1, y7.1, y8.1, y9.1, y10.1, y11.1, y12.1, y13.1, y14.1]) (by simp)
        have h2 : (z3.take l3).length ≤ Rows.uptoBulk y3.1 := row_bulk q3
        omega
      have bk2 : L.length ≤ Rows.uptoBulk (.agg [y0.1, y1.1, y2.1, y3.1, y4.1, y5.1, y6.1, y7.1, y8.1, y9.1, y10.1, y11.1, y12.1, y13.1, y14.1]) := by
        have h1 := bulk_among (d := y12.1) (l := [y0.1, y1.1, y2.1, y3.1, y4.1, y5.1, y6.1, y7.1, y8.1, y9.1, y10.1, y11.1, y12.1, y13.1, y14.1]) (by simp)
        omega
      obtain ⟨i1, i2, i3, i4, i5⟩ := isRow_rd r3
      have i4' : k3 ≤ 9223372036854775807 := by unfold maxLen at i4; omega
      subst hL
      refine ⟨⟨a0, a1, a2, z3.take l3, a4, a5, a6, a7, a8, a9, a10, a11, L, a13, b0, b1, b2⟩, .slice p3 l3 k3, .slice p12 L.length k12, rfl, ⟨⟨p3, k3, by rw [i1], by rw [i1]; exact i3, i4'⟩, ⟨p12, k12, rfl, rL, lc, lm⟩, l64⟩, ⟨p3, k3, by rw [i1], i2, by rw [i1]; exact i3, i4'⟩, wf_i64 w0, by simp only [List.length_take]; omega, s12, bk, bk2⟩
end
end Go.Proofs.Ytggjeamondampab
