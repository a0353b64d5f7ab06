/- WR, KO1, BK, KO2, PKRoo, one text. -/
import Derived.Test.YtpcnpdippnljpaaBase
import Derived.ProofKit
import Derived.OpenShut
import Derived.Test.YtpcnpdippnljpaaKZ
import Derived.Test.YtpcnpdippnljpaaKX5
import Derived.ShutString
import Derived.ChangeOld
import Derived.SizedLaws
import Derived.Laws.IdiomArrays
import Derived.Test.YtpcnpdippnljpaaRows
import Derived.Test.YtpcnpdippnljpaaM2D
namespace Go.Proofs.Ytpcnpdippnljpaa
open Go.ChangeShapes Go.WideShapes Go.ChangeAt Go.RowKit
set_option linter.unusedVariables false
set_option maxRecDepth 100000

/-- Nil; or it leads to a row of 'cap' cells, the numbers 'zs'. -/
def IsRow (k : IntKind) (w : World) (a : Option Addr) (len cap : Nat) (zs : List Int) : Prop :=
  (a = none ∧ len = 0 ∧ cap = 0 ∧ zs = []) ∨
  ∃ x, a = some x ∧ len ≤ cap ∧ cap ≤ maxLen ∧ zs.length = cap ∧ (∀ i, i < zs.length → w.cell? (x.add i) = some (.int k (zs.getD i 0))) ∧ ∀ n ∈ zs, (Lit.int k n).wf = true

theorem isRow_rd {w : World} {a : Option Addr} {len cap : Nat} {zs : List Int} (h : IsRow .u8 w a len cap zs) : (zs.take len).length = len ∧ Rd w a (zs.take len) ∧ len ≤ cap ∧ cap ≤ maxLen ∧ zs.length = cap := by
  rcases h with ⟨rfl, rfl, rfl, rfl⟩ | ⟨x, rfl, hl, hm, hz, hc, hw⟩
  · exact ⟨rfl, ⟨by simp, by simp⟩, Nat.le_refl _, by decide, rfl⟩
  · refine ⟨by simp; omega, ⟨fun y hy => ?_, fun hne => ?_⟩, hl, hm, hz⟩
    · exact bounds_u8 (hw y (List.mem_of_mem_take hy))
    · have hlen : 0 < len := by
        rcases Nat.eq_zero_or_pos len with h | h
        · subst h; simp at hne
        · exact h
      obtain ⟨b, off, spot⟩ := x
      have h0 := hc 0 (by omega)
      have hs : spot = none := by simpa [Addr.add] using World.cell?_spot h0
      subst hs
      refine ⟨b, off, rfl, fun i hi => ?_⟩
      have hi' : i < len := by simp at hi; omega
      have := hc i (by omega)
      rw [show (⟨b, off, none⟩ : Addr).add i = ⟨b, off + i, none⟩ by simp [Addr.add]] at this
      rw [this]
      congr 2
      simp [List.getD, hi']
end Go.Proofs.Ytpcnpdippnljpaa

namespace Go.Proofs.Ytpcnpdippnljpaa
open Go.ChangeShapes Go.WideShapes Go.ChangeAt Go.RowKit
set_option linter.unusedVariables false
set_option maxRecDepth 100000

theorem cell_lt {w : World} {b o : Nat} {v : Value} (h : w.cell? ⟨b, o, none⟩ = some v) : b < w.heap.size := by
  by_cases c : b < w.heap.size
  · exact c
  · have e : w.heap[b]? = none := by simp; omega
    simp [World.cell?, e] at h

theorem isRow_in {w : World} {a : Option Addr} {len cap : Nat} {zs : List Int} (h : IsRow .u8 w a len cap zs) : InB w (.slice a len cap) (zs.take len) := by
  obtain ⟨h1, h2, h3, h4, h5⟩ := isRow_rd h
  refine ⟨a, cap, by rw [h1], h2, by rw [h1]; exact h3, h4, fun x e hc => ?_⟩
  subst e
  rcases h with ⟨h, -⟩ | ⟨x', e, -, -, hz, hcell, -⟩
  · cases h
  · cases e
    obtain ⟨b, off, spot⟩ := x
    have h0 := hcell 0 (by omega)
    have hs : spot = none := by simpa [Addr.add] using World.cell?_spot h0
    subst hs
    rw [show (⟨b, off, none⟩ : Addr).add 0 = ⟨b, off, none⟩ by simp [Addr.add]] at h0
    have := cell_lt h0
    exact ⟨this, Nat.ne_of_lt this, _, _, rfl⟩

section
variable {H : Type} {enc : TypeId × Value → H} {w : World} {base : Nat} {spare : Nat → Bool} {held : Bool}

theorem open_arr3 {v : Value} {r : Reach} {b0 : Nat} (hv : Value.okWide Try.prog w r b0 49 v) {d : DataW H} {ps : List MemPlace} (hd : DataW.Trod enc Try.prog w base spare held 49 v d ps) : ∃ G : Lg, v = G.v := by
  have c2 : Try.prog.cellsOf 2 = 1 := by kernel_rfl
  have c46 : Try.prog.cellsOf 49 = 3 := by kernel_rfl
  simp only [Value.okWide, Try.underlying49] at hv
  obtain ⟨cs, rfl, hs, -⟩ := hv
  rw [c46] at hs
  obtain ⟨fuel, hf⟩ := hd
  obtain ⟨cs⟩ := cs
  match cs, hs with
  | [x, y, z], _ =>
    have hf' : DataW.trod enc Try.prog w base spare held fuel 49 [x, y, z] = some (d, ps) := by simpa [Value.cells] using hf
    obtain ⟨y0, y1, y2, n, -, f0, f1, f2⟩ := trod_array3 Try.underlying49 c2 hf'
    obtain ⟨a0, e0, -⟩ := DataW.trod_int Try.underlying2 f0
    obtain ⟨a1, e1, -⟩ := DataW.trod_int Try.underlying2 f1
    obtain ⟨a2, e2, -⟩ := DataW.trod_int Try.underlying2 f2
    simp only [List.cons.injEq, and_true] at e0 e1 e2
    subst e0 e1 e2
    exact ⟨(a0, a1, a2), rfl⟩

theorem open_row {a : Option Addr} {len cap : Nat} {d : DataW H} {ps : List MemPlace} (hd : DataW.Trod enc Try.prog w base (fun _ => true) held 27 (.slice a len cap) d ps) : ∃ zs, IsRow .u8 w a len cap zs ∧ (d = .nil ∧ zs = [] ∨ d = .slice (lits .u8 (zs.take len)) (lits .u8 (zs.drop len))) := by
  obtain ⟨fuel, hf⟩ := hd
  rcases open_ints Try.underlying27 Try.underlying5 (by kernel_rfl) hf with ⟨hcs, hx⟩ | ⟨x, l, c, zs, hcs, _, hl, hm, hz, hx, hcell, hwz⟩
  · simp [Value.cells] at hcs
    obtain ⟨rfl, rfl, rfl⟩ := hcs
    simp only [Prod.mk.injEq] at hx
    exact ⟨[], .inl ⟨rfl, rfl, rfl, rfl⟩, .inl ⟨hx.1, rfl⟩⟩
  · simp [Value.cells] at hcs
    obtain ⟨rfl, rfl, rfl⟩ := hcs
    simp only [Prod.mk.injEq] at hx
    exact ⟨zs, .inr ⟨_, rfl, hl, hm, by simpa using hz, hcell, hwz⟩, .inr hx.1⟩

theorem row_size {ts : List TypeId} {ds : List (DataW H)} (hsz : (DataW.weightsEach Try.prog ts ds).all (· ≤ reachBytes) = true) {j len : Nat} {zs : List Int} {d : DataW H} (ht : ts[j]? = some 27) (hd : ds[j]? = some d)
    (h : d = .nil ∧ zs = [] ∨ d = .slice (lits .u8 (zs.take len)) (lits .u8 (zs.drop len))) : zs.length ≤ 140737488351232 := by
  rcases h with ⟨-, rfl⟩ | h
  · simp
  · have hb : Try.prog.bytesOf 5 = 1 := by kernel_rfl
    subst h
    have := sized_slice hsz ht hd Try.underlying27
    rw [hb] at this
    simp only [lits, List.length_map, List.length_take, List.length_drop, reachBytes] at this
    omega
end
end Go.Proofs.Ytpcnpdippnljpaa

namespace Go.Proofs.Ytpcnpdippnljpaa
set_option maxRecDepth 100000

theorem bulk_pos {H : Type} (d : DataW H) : 0 < Rows.uptoBulk d := by
  cases d with
  | lit l => cases l <;> simp [Rows.uptoBulk]
  | _ => simp [Rows.uptoBulk]

theorem bulk_count {H : Type} : ∀ l : List (DataW H), l.length ≤ Rows.uptoBulkAll l
  | [] => Nat.zero_le _
  | d :: r => by
    have h1 := bulk_pos d
    have h2 := bulk_count r
    simp only [Rows.uptoBulkAll, List.length_cons]
    omega

theorem bulk_slice {H : Type} (e s : List (DataW H)) : e.length + s.length < Rows.uptoBulk (.slice e s) := by
  have h1 := bulk_count e
  have h2 := bulk_count s
  simp only [Rows.uptoBulk]
  omega

theorem bulk_among {H : Type} {d : DataW H} : ∀ {l : List (DataW H)}, d ∈ l → Rows.uptoBulk d ≤ Rows.uptoBulkAll l
  | x :: r, h => by
    simp only [Rows.uptoBulkAll]
    rcases List.mem_cons.1 h with e | e
    · subst e; omega
    · have := bulk_among e; omega

theorem bulk_mem {H : Type} {d : DataW H} {l : List (DataW H)} (hk : Rows.uptoSmall H l = true) (h : d ∈ l) : Rows.uptoBulk d ≤ 1048576 := by
  have h1 : Rows.uptoBulkAll l ≤ 1048576 := of_decide_eq_true hk
  have h2 := bulk_among h
  omega
end Go.Proofs.Ytpcnpdippnljpaa

namespace Go.Proofs.Ytpcnpdippnljpaa
open Go.ChangeShapes Go.WideShapes Go.ChangeAt Go.RowKit
set_option linter.unusedVariables false
set_option maxRecDepth 100000

section
variable {H : Type} {enc : TypeId × Value → H} {w : World} {base : Nat} {spare : Nat → Bool} {held : Bool}

theorem row_cells {fuel : Nat} {cs : List Value} {x : DataW H × List MemPlace} (hf : DataW.trod enc Try.prog w base (fun _ => true) held fuel 27 cs = some x) :
    ∃ a len cap zs, cs = [.slice a len cap] ∧ IsRow .u8 w a len cap zs ∧ (x.1 = .nil ∧ zs = [] ∨ x.1 = .slice (lits .u8 (zs.take len)) (lits .u8 (zs.drop len))) := by
  rcases open_ints Try.underlying27 Try.underlying5 (by kernel_rfl) hf with ⟨hcs, hx⟩ | ⟨x', l, c, zs, hcs, _, hl, hm, hz, hx, hcell, hwz⟩
  · subst hcs hx
    exact ⟨none, 0, 0, [], rfl, .inl ⟨rfl, rfl, rfl, rfl⟩, .inl ⟨rfl, rfl⟩⟩
  · subst hcs hx
    exact ⟨_, l, c, zs, rfl, .inr ⟨_, rfl, hl, hm, by simpa using hz, hcell, hwz⟩, .inr rfl⟩

theorem row_bulk {len : Nat} {zs : List Int} {d : DataW H} (h : d = .nil ∧ zs = [] ∨ d = .slice (lits .u8 (zs.take len)) (lits .u8 (zs.drop len))) : (zs.take len).length ≤ Rows.uptoBulk d := by
  rcases h with ⟨e, e2⟩ | e
  · rw [e2]; simp
  · rw [e]
    have := bulk_slice (H := H) (lits .u8 (zs.take len)) (lits .u8 (zs.drop len))
    simp only [lits, List.length_map] at this ⊢
    omega

theorem open_packet {v : Value} {r : Reach} {b0 : Nat} (hv : Value.okWide Try.prog w r b0 29 v) {d : DataW H} {ps : List MemPlace} (hd : DataW.Trod enc Try.prog w base (fun _ => true) held 29 v d ps)
    (hw : ∀ n ∈ d.weights Try.prog 29, decide (n ≤ reachBytes) = true) :
    ∃ (P : Pk) (x y u : Value), v = P.val x y u ∧ InB w x P.dst ∧ InB w y P.src ∧ InB w u P.payload ∧ P.dst.length ≤ 140737488351232 ∧ P.src.length ≤ 140737488351232 ∧ P.payload.length ≤ 140737488351232 ∧ P.payload.length ≤ Rows.uptoBulk d := by
  have cP : Try.prog.cellsOf 29 = 6 := by kernel_rfl
  have c3 : Try.prog.cellsOf 3 = 1 := by kernel_rfl
  have c2 : Try.prog.cellsOf 2 = 1 := by kernel_rfl
  have cB : Try.prog.cellsOf 27 = 1 := by kernel_rfl
  simp only [Value.okWide, Try.underlying29] at hv
  obtain ⟨cs, rfl, hs, -⟩ := hv
  rw [cP] at hs
  obtain ⟨fuel, hf⟩ := hd
  obtain ⟨cs⟩ := cs
  match cs, hs with
  | [v0, v1, v2, v3, v4, v5], _ =>
    have hf' : DataW.trod enc Try.prog w base (fun _ => true) held fuel 29 [v0, v1, v2, v3, v4, v5] = some (d, ps) := by simpa [Value.cells] using hf
    obtain ⟨xs, m, -, hx, -, hxl, hff⟩ := DataW.trod_struct Try.underlying29 hf'
    match xs, hxl with
    | [y0, y1, y2, y3, y4, y5], _ =>
      have f0 := hff 0 _ rfl
      have f1 := hff 1 _ rfl
      have f2 := hff 2 _ rfl
      have f3 := hff 3 _ rfl
      have f4 := hff 4 _ rfl
      have f5 := hff 5 _ rfl
      simp [c2, c3, cB] at f0 f1 f2 f3 f4 f5
      obtain ⟨a0, e0, -⟩ := DataW.trod_int Try.underlying3 f0
      obtain ⟨a3, e3, -⟩ := DataW.trod_int Try.underlying2 f3
      obtain ⟨a4, e4, -⟩ := DataW.trod_int Try.underlying3 f4
      obtain ⟨p1, l1, k1, z1, e1, r1, q1⟩ := row_cells f1
      obtain ⟨p2, l2, k2, z2, e2, r2, q2⟩ := row_cells f2
      obtain ⟨p5, l5, k5, z5, e5, r5, q5⟩ := row_cells f5
      simp only [List.cons.injEq, and_true] at e0 e1 e2 e3 e4 e5
      subst e0 e1 e2 e3 e4 e5
      simp only [List.map_cons, List.map_nil, Prod.mk.injEq] at hx
      obtain ⟨rfl, -⟩ := hx
      have hw' : (DataW.weightsEach Try.prog [3, 27, 27, 2, 3, 27] [y0.1, y1.1, y2.1, y3.1, y4.1, y5.1]).all (· ≤ reachBytes) = true := by
        apply List.all_eq_true.2
        intro n hn
        refine hw n ?_
        unfold DataW.weights
        rw [Try.underlying29]
        exact hn
      have s1 := row_size hw' (j := 1) (zs := z1) rfl rfl q1
      have s2 := row_size hw' (j := 2) (zs := z2) rfl rfl q2
      have s5 := row_size hw' (j := 5) (zs := z5) rfl rfl q5
      have bk : (z5.take l5).length ≤ Rows.uptoBulk (.agg [y0.1, y1.1, y2.1, y3.1, y4.1, y5.1]) := by
        have h1 := bulk_among (d := y5.1) (l := [y0.1, y1.1, y2.1, y3.1, y4.1, y5.1]) (by simp)
        have h2 : (z5.take l5).length ≤ Rows.uptoBulk y5.1 := row_bulk q5
        have h3 : Rows.uptoBulk (.agg [y0.1, y1.1, y2.1, y3.1, y4.1, y5.1]) = Rows.uptoBulkAll [y0.1, y1.1, y2.1, y3.1, y4.1, y5.1] + 1 := by rw [Rows.uptoBulk]
        omega
      exact ⟨⟨a0, z1.take l1, z2.take l2, a3, a4, z5.take l5⟩, _, _, _, rfl, isRow_in r1, isRow_in r2, isRow_in r5, by simp only [List.length_take]; omega, by simp only [List.length_take]; omega, by simp only [List.length_take]; omega, bk⟩
end
end Go.Proofs.Ytpcnpdippnljpaa

namespace Go.Proofs.Ytpcnpdippnljpaa
open Go.ChangeShapes Go.WideShapes Go.ChangeAt Go.RowKit
set_option linter.unusedVariables false
set_option maxRecDepth 100000
namespace packRoomsFrame

theorem own : ownKnob Try.prog.godebug = none := by kernel_rfl
theorem laidOut : laidOutB Try.prog = true := by kernel_rfl

set_option maxRecDepth 100000 in
theorem lifted (os : Os) (started : os.Started) (H : Type) (enc : TypeId × Value → H) :
    ReturnsInHanded {} Try.checked os 4 .any (Rows.packRoomsSpec.pre6 enc Try.prog Try.f4 Rows.packRoomsRow.domain false) (Rows.packRoomsSpec.post enc Try.prog Try.f4 false true false false) := by
  refine returnsInHanded_of_change_sized (C := Try.checked) own started (by kernel_rfl) Try.func4
    (ChangeSpec.witness6 (enc := enc) (C := Try.checked) false ⟨#[], #[.int .i64 0, .agg #[.int .i64 0, .slice none 0 0, .slice none 0 0, .int .i64 0, .int .i64 0, .slice none 0 0], .int .i64 0], []⟩ 8 (by kernel_rfl) (by kernel_rfl) (by kernel_rfl) (by kernel_rfl)) ?_
  intro W base args ds gs before hval0 hW hcnd hsz0 _
  have hsz : (DataW.weightsEach Try.prog (Try.f4.params.toList ++ Rows.packRoomsSpec.plain.varTypes Try.prog) (ds ++ gs)).all (· ≤ reachBytes) = true := hsz0
  have hval : ∀ (j : Nat) t v, Try.f4.params[j]? = some t → args[j]? = some v → Value.okWide Try.prog W .any base t v := hval0
  have hW' := hW
  obtain ⟨p, q, hA0, hV, rfl, hfz, hnd⟩ := hW
  have hA : DataW.TrodAll enc Try.prog W 0 (fun _ => true) true Try.f4.params.toList args.toList ds p := hA0
  rw [Try.params4] at hA hval hsz
  obtain ⟨v0, vs0, d0, ds0, p0, q0, hargs, rfl, rfl, h0, r0⟩ := trodAll_cons hA
  obtain ⟨v1, vs1, d1, ds1, p1, q1, rfl, rfl, rfl, h1, r1⟩ := trodAll_cons r0
  obtain ⟨v2, vs2, d2, ds2, p2, q2, rfl, rfl, rfl, h2, r2⟩ := trodAll_cons r1
  obtain ⟨rfl, rfl, rfl⟩ := trodAll_nil r2
  obtain rfl : args = #[v0, v1, v2] := by cases args; simp_all
  obtain ⟨rfl, rfl⟩ := trodVars_none hV
  have k0 := h0
  have lt0 : ∀ x ∈ p0, x.block < W.heap.size := by obtain ⟨m, hm⟩ := k0; exact DataW.trod_lt m _ _ _ hm
  obtain ⟨a0, rfl, rfl, rfl, w0⟩ := open_int Try.underlying3 (hval 0 3 v0 rfl rfl) h0
  have k1 := h1
  have lt1 : ∀ x ∈ p1, x.block < W.heap.size := by obtain ⟨m, hm⟩ := k1; exact DataW.trod_lt m _ _ _ hm
  obtain ⟨P1, x1, y1, u1, rfl, i1, j1, l1, m1, n1, o1, b1⟩ := open_packet (hval 1 29 v1 rfl rfl) h1 (fun n hn => List.all_eq_true.1 hsz n (DataW.weights_mem_each (j := 1) rfl rfl n hn))
  have k2 := h2
  have lt2 : ∀ x ∈ p2, x.block < W.heap.size := by obtain ⟨m, hm⟩ := k2; exact DataW.trod_lt m _ _ _ hm
  obtain ⟨a2, rfl, rfl, rfl, w2⟩ := open_int Try.underlying3 (hval 2 3 v2 rfl rfl) h2
  clear hA0 hval0
  refine (rooms_walk a0 a2 P1 x1 y1 u1 W i1 j1 l1 m1 n1 o1 (wf_in w0).2).mono fun e W' ⟨he, gr⟩ => ?_
  have bel := grown_bel gr
  subst he
  exact ⟨_, rfl, _, _, _, [], _, [], hW', trodAll_mk1 (shut_bool Try.underlying4 _), (trodAll_cons_mk (shut_int Try.underlying3 w0) (trodAll_cons_mk (Below.trod laidOut (by kernel_rfl) (of_decide_eq_true (by kernel_rfl)) k1 bel lt1) (trodAll_cons_mk (shut_int Try.underlying3 w2) trodAll_mk0))), rfl, bel.frame _, fun h => by cases h⟩

theorem over : Rows.packRoomsRow.holds Try.pinned (OpenSpec.ofChange Rows.packRoomsSpec) :=
  OpenClaim.holds_of_wide 4 Try.f4 rfl rfl rfl rfl rfl rfl rfl ⟨rfl, rfl, rfl, rfl, rfl⟩ rfl rfl rfl rfl rfl (by kernel_rfl) Try.func4 (by kernel_rfl)
    (of_decide_eq_true (by kernel_rfl)) (by unfold Func.isWrapper; first | (rw [if_pos (by decide +kernel)]; kernel_rfl) | (rw [if_neg (by decide +kernel)]; exact ⟨rfl, rfl⟩))
    (fun os started H enc _ => lifted os started H enc)
end packRoomsFrame

/-- THE STATEMENT -/
theorem packRooms_holds : Rows.PackRoomsSaid := packRoomsFrame.over
end Go.Proofs.Ytpcnpdippnljpaa
