/- WR, KO1, BK, KO2, RJp, ROp, B2I, B2J, B2K, B2L, PKBac, one text. -/
import Derived.Test.YtpcnpdippnljpaaBase
import Derived.ProofKit
import Derived.OpenShut
import Derived.Test.YtpcnpdippnljpaaKZ
import Derived.Test.YtpcnpdippnljpaaKX5
import Derived.ShutString
import Derived.ChangeOld
import Derived.SizedLaws
import Derived.Laws.IdiomArrays
import Derived.Test.YtpcnpdippnljpaaRows
import Derived.Test.YtpcnpdippnljpaaM2C
import Derived.Deep.Slices
import Derived.Test.YtpcnpdippnljpaaM2D
import Derived.Deep.RegionHeld3
import Derived.JoinedCond
import Derived.Deep.CondSized
namespace Go.Proofs.Ytpcnpdippnljpaa
open Go.ChangeShapes Go.WideShapes Go.ChangeAt Go.RowKit
set_option linter.unusedVariables false
set_option maxRecDepth 100000

/-- Nil; or it leads to a row of 'cap' cells, the numbers 'zs'. -/
def IsRow (k : IntKind) (w : World) (a : Option Addr) (len cap : Nat) (zs : List Int) : Prop :=
  (a = none ∧ len = 0 ∧ cap = 0 ∧ zs = []) ∨
  ∃ x, a = some x ∧ len ≤ cap ∧ cap ≤ maxLen ∧ zs.length = cap ∧ (∀ i, i < zs.length → w.cell? (x.add i) = some (.int k (zs.getD i 0))) ∧ ∀ n ∈ zs, (Lit.int k n).wf = true

theorem isRow_rd {w : World} {a : Option Addr} {len cap : Nat} {zs : List Int} (h : IsRow .u8 w a len cap zs) : (zs.take len).length = len ∧ Rd w a (zs.take len) ∧ len ≤ cap ∧ cap ≤ maxLen ∧ zs.length = cap := by
  rcases h with ⟨rfl, rfl, rfl, rfl⟩ | ⟨x, rfl, hl, hm, hz, hc, hw⟩
  · exact ⟨rfl, ⟨by simp, by simp⟩, Nat.le_refl _, by decide, rfl⟩
  · refine ⟨by simp; omega, ⟨fun y hy => ?_, fun hne => ?_⟩, hl, hm, hz⟩
    · exact bounds_u8 (hw y (List.mem_of_mem_take hy))
    · have hlen : 0 < len := by
        rcases Nat.eq_zero_or_pos len with h | h
        · subst h; simp at hne
        · exact h
      obtain ⟨b, off, spot⟩ := x
      have h0 := hc 0 (by omega)
      have hs : spot = none := by simpa [Addr.add] using World.cell?_spot h0
      subst hs
      refine ⟨b, off, rfl, fun i hi => ?_⟩
      have hi' : i < len := by simp at hi; omega
      have := hc i (by omega)
      rw [show (⟨b, off, none⟩ : Addr).add i = ⟨b, off + i, none⟩ by simp [Addr.add]] at this
      rw [this]
      congr 2
      simp [List.getD, hi']
end Go.Proofs.Ytpcnpdippnljpaa

namespace Go.Proofs.Ytpcnpdippnljpaa
open Go.ChangeShapes Go.WideShapes Go.ChangeAt Go.RowKit
set_option linter.unusedVariables false
set_option maxRecDepth 100000

theorem cell_lt {w : World} {b o : Nat} {v : Value} (h : w.cell? ⟨b, o, none⟩ = some v) : b < w.heap.size := by
  by_cases c : b < w.heap.size
  · exact c
  · have e : w.heap[b]? = none := by simp; omega
    simp [World.cell?, e] at h

theorem isRow_in {w : World} {a : Option Addr} {len cap : Nat} {zs : List Int} (h : IsRow .u8 w a len cap zs) : InB w (.slice a len cap) (zs.take len) := by
  obtain ⟨h1, h2, h3, h4, h5⟩ := isRow_rd h
  refine ⟨a, cap, by rw [h1], h2, by rw [h1]; exact h3, h4, fun x e hc => ?_⟩
  subst e
  rcases h with ⟨h, -⟩ | ⟨x', e, -, -, hz, hcell, -⟩
  · cases h
  · cases e
    obtain ⟨b, off, spot⟩ := x
    have h0 := hcell 0 (by omega)
    have hs : spot = none := by simpa [Addr.add] using World.cell?_spot h0
    subst hs
    rw [show (⟨b, off, none⟩ : Addr).add 0 = ⟨b, off, none⟩ by simp [Addr.add]] at h0
    have := cell_lt h0
    exact ⟨this, Nat.ne_of_lt this, _, _, rfl⟩

section
variable {H : Type} {enc : TypeId × Value → H} {w : World} {base : Nat} {spare : Nat → Bool} {held : Bool}

theorem open_arr3 {v : Value} {r : Reach} {b0 : Nat} (hv : Value.okWide Try.prog w r b0 49 v) {d : DataW H} {ps : List MemPlace} (hd : DataW.Trod enc Try.prog w base spare held 49 v d ps) : ∃ G : Lg, v = G.v := by
  have c2 : Try.prog.cellsOf 2 = 1 := by kernel_rfl
  have c46 : Try.prog.cellsOf 49 = 3 := by kernel_rfl
  simp only [Value.okWide, Try.underlying49] at hv
  obtain ⟨cs, rfl, hs, -⟩ := hv
  rw [c46] at hs
  obtain ⟨fuel, hf⟩ := hd
  obtain ⟨cs⟩ := cs
  match cs, hs with
  | [x, y, z], _ =>
    have hf' : DataW.trod enc Try.prog w base spare held fuel 49 [x, y, z] = some (d, ps) := by simpa [Value.cells] using hf
    obtain ⟨y0, y1, y2, n, -, f0, f1, f2⟩ := trod_array3 Try.underlying49 c2 hf'
    obtain ⟨a0, e0, -⟩ := DataW.trod_int Try.underlying2 f0
    obtain ⟨a1, e1, -⟩ := DataW.trod_int Try.underlying2 f1
    obtain ⟨a2, e2, -⟩ := DataW.trod_int Try.underlying2 f2
    simp only [List.cons.injEq, and_true] at e0 e1 e2
    subst e0 e1 e2
    exact ⟨(a0, a1, a2), rfl⟩

theorem open_row {a : Option Addr} {len cap : Nat} {d : DataW H} {ps : List MemPlace} (hd : DataW.Trod enc Try.prog w base (fun _ => true) held 27 (.slice a len cap) d ps) : ∃ zs, IsRow .u8 w a len cap zs ∧ (d = .nil ∧ zs = [] ∨ d = .slice (lits .u8 (zs.take len)) (lits .u8 (zs.drop len))) := by
  obtain ⟨fuel, hf⟩ := hd
  rcases open_ints Try.underlying27 Try.underlying5 (by kernel_rfl) hf with ⟨hcs, hx⟩ | ⟨x, l, c, zs, hcs, _, hl, hm, hz, hx, hcell, hwz⟩
  · simp [Value.cells] at hcs
    obtain ⟨rfl, rfl, rfl⟩ := hcs
    simp only [Prod.mk.injEq] at hx
    exact ⟨[], .inl ⟨rfl, rfl, rfl, rfl⟩, .inl ⟨hx.1, rfl⟩⟩
  · simp [Value.cells] at hcs
    obtain ⟨rfl, rfl, rfl⟩ := hcs
    simp only [Prod.mk.injEq] at hx
    exact ⟨zs, .inr ⟨_, rfl, hl, hm, by simpa using hz, hcell, hwz⟩, .inr hx.1⟩

theorem row_size {ts : List TypeId} {ds : List (DataW H)} (hsz : (DataW.weightsEach Try.prog ts ds).all (· ≤ reachBytes) = true) {j len : Nat} {zs : List Int} {d : DataW H} (ht : ts[j]? = some 27) (hd : ds[j]? = some d)
    (h : d = .nil ∧ zs = [] ∨ d = .slice (lits .u8 (zs.take len)) (lits .u8 (zs.drop len))) : zs.length ≤ 140737488351232 := by
  rcases h with ⟨-, rfl⟩ | h
  · simp
  · have hb : Try.prog.bytesOf 5 = 1 := by kernel_rfl
    subst h
    have := sized_slice hsz ht hd Try.underlying27
    rw [hb] at this
    simp only [lits, List.length_map, List.length_take, List.length_drop, reachBytes] at this
    omega
end
end Go.Proofs.Ytpcnpdippnljpaa

namespace Go.Proofs.Ytpcnpdippnljpaa
set_option maxRecDepth 100000

theorem bulk_pos {H : Type} (d : DataW H) : 0 < Rows.uptoBulk d := by
  cases d with
  | lit l => cases l <;> simp [Rows.uptoBulk]
  | _ => simp [Rows.uptoBulk]

theorem bulk_count {H : Type} : ∀ l : List (DataW H), l.length ≤ Rows.uptoBulkAll l
  | [] => Nat.zero_le _
  | d :: r => by
    have h1 := bulk_pos d
    have h2 := bulk_count r
    simp only [Rows.uptoBulkAll, List.length_cons]
    omega

theorem bulk_slice {H : Type} (e s : List (DataW H)) : e.length + s.length < Rows.uptoBulk (.slice e s) := by
  have h1 := bulk_count e
  have h2 := bulk_count s
  simp only [Rows.uptoBulk]
  omega

theorem bulk_among {H : Type} {d : DataW H} : ∀ {l : List (DataW H)}, d ∈ l → Rows.uptoBulk d ≤ Rows.uptoBulkAll l
  | x :: r, h => by
    simp only [Rows.uptoBulkAll]
    rcases List.mem_cons.1 h with e | e
    · subst e; omega
    · have := bulk_among e; omega

theorem bulk_mem {H : Type} {d : DataW H} {l : List (DataW H)} (hk : Rows.uptoSmall H l = true) (h : d ∈ l) : Rows.uptoBulk d ≤ 1048576 := by
  have h1 : Rows.uptoBulkAll l ≤ 1048576 := of_decide_eq_true hk
  have h2 := bulk_among h
  omega
end Go.Proofs.Ytpcnpdippnljpaa

namespace Go.Proofs.Ytpcnpdippnljpaa
open Go.ChangeShapes Go.WideShapes Go.ChangeAt Go.RowKit
set_option linter.unusedVariables false
set_option maxRecDepth 100000

section
variable {H : Type} {enc : TypeId × Value → H} {w : World} {base : Nat} {spare : Nat → Bool} {held : Bool}

theorem row_cells {fuel : Nat} {cs : List Value} {x : DataW H × List MemPlace} (hf : DataW.trod enc Try.prog w base (fun _ => true) held fuel 27 cs = some x) :
    ∃ a len cap zs, cs = [.slice a len cap] ∧ IsRow .u8 w a len cap zs ∧ (x.1 = .nil ∧ zs = [] ∨ x.1 = .slice (lits .u8 (zs.take len)) (lits .u8 (zs.drop len))) := by
  rcases open_ints Try.underlying27 Try.underlying5 (by kernel_rfl) hf with ⟨hcs, hx⟩ | ⟨x', l, c, zs, hcs, _, hl, hm, hz, hx, hcell, hwz⟩
  · subst hcs hx
    exact ⟨none, 0, 0, [], rfl, .inl ⟨rfl, rfl, rfl, rfl⟩, .inl ⟨rfl, rfl⟩⟩
  · subst hcs hx
    exact ⟨_, l, c, zs, rfl, .inr ⟨_, rfl, hl, hm, by simpa using hz, hcell, hwz⟩, .inr rfl⟩

theorem row_bulk {len : Nat} {zs : List Int} {d : DataW H} (h : d = .nil ∧ zs = [] ∨ d = .slice (lits .u8 (zs.take len)) (lits .u8 (zs.drop len))) : (zs.take len).length ≤ Rows.uptoBulk d := by
  rcases h with ⟨e, e2⟩ | e
  · rw [e2]; simp
  · rw [e]
    have := bulk_slice (H := H) (lits .u8 (zs.take len)) (lits .u8 (zs.drop len))
    simp only [lits, List.length_map] at this ⊢
    omega

theorem open_packet {v : Value} {r : Reach} {b0 : Nat} (hv : Value.okWide Try.prog w r b0 29 v) {d : DataW H} {ps : List MemPlace} (hd : DataW.Trod enc Try.prog w base (fun _ => true) held 29 v d ps)
    (hw : ∀ n ∈ d.weights Try.prog 29, decide (n ≤ reachBytes) = true) :
    ∃ (P : Pk) (x y u : Value), v = P.val x y u ∧ InB w x P.dst ∧ InB w y P.src ∧ InB w u P.payload ∧ P.dst.length ≤ 140737488351232 ∧ P.src.length ≤ 140737488351232 ∧ P.payload.length ≤ 140737488351232 ∧ P.payload.length ≤ Rows.uptoBulk d := by
  have cP : Try.prog.cellsOf 29 = 6 := by kernel_rfl
  have c3 : Try.prog.cellsOf 3 = 1 := by kernel_rfl
  have c2 : Try.prog.cellsOf 2 = 1 := by kernel_rfl
  have cB : Try.prog.cellsOf 27 = 1 := by kernel_rfl
  simp only [Value.okWide, Try.underlying29] at hv
  obtain ⟨cs, rfl, hs, -⟩ := hv
  rw [cP] at hs
  obtain ⟨fuel, hf⟩ := hd
  obtain ⟨cs⟩ := cs
  match cs, hs with
  | [v0, v1, v2, v3, v4, v5], _ =>
    have hf' : DataW.trod enc Try.prog w base (fun _ => true) held fuel 29 [v0, v1, v2, v3, v4, v5] = some (d, ps) := by simpa [Value.cells] using hf
    obtain ⟨xs, m, -, hx, -, hxl, hff⟩ := DataW.trod_struct Try.underlying29 hf'
    match xs, hxl with
    | [y0, y1, y2, y3, y4, y5], _ =>
      have f0 := hff 0 _ rfl
      have f1 := hff 1 _ rfl
      have f2 := hff 2 _ rfl
      have f3 := hff 3 _ rfl
      have f4 := hff 4 _ rfl
      have f5 := hff 5 _ rfl
      simp [c2, c3, cB] at f0 f1 f2 f3 f4 f5
      obtain ⟨a0, e0, -⟩ := DataW.trod_int Try.underlying3 f0
      obtain ⟨a3, e3, -⟩ := DataW.trod_int Try.underlying2 f3
      obtain ⟨a4, e4, -⟩ := DataW.trod_int Try.underlying3 f4
      obtain ⟨p1, l1, k1, z1, e1, r1, q1⟩ := row_cells f1
      obtain ⟨p2, l2, k2, z2, e2, r2, q2⟩ := row_cells f2
      obtain ⟨p5, l5, k5, z5, e5, r5, q5⟩ := row_cells f5
      simp only [List.cons.injEq, and_true] at e0 e1 e2 e3 e4 e5
      subst e0 e1 e2 e3 e4 e5
      simp only [List.map_cons, List.map_nil, Prod.mk.injEq] at hx
      obtain ⟨rfl, -⟩ := hx
      have hw' : (DataW.weightsEach Try.prog [3, 27, 27, 2, 3, 27] [y0.1, y1.1, y2.1, y3.1, y4.1, y5.1]).all (· ≤ reachBytes) = true := by
        apply List.all_eq_true.2
        intro n hn
        refine hw n ?_
        unfold DataW.weights
        rw [Try.underlying29]
        exact hn
      have s1 := row_size hw' (j := 1) (zs := z1) rfl rfl q1
      have s2 := row_size hw' (j := 2) (zs := z2) rfl rfl q2
      have s5 := row_size hw' (j := 5) (zs := z5) rfl rfl q5
      have bk : (z5.take l5).length ≤ Rows.uptoBulk (.agg [y0.1, y1.1, y2.1, y3.1, y4.1, y5.1]) := by
        have h1 := bulk_among (d := y5.1) (l := [y0.1, y1.1, y2.1, y3.1, y4.1, y5.1]) (by simp)
        have h2 : (z5.take l5).length ≤ Rows.uptoBulk y5.1 := row_bulk q5
        have h3 : Rows.uptoBulk (.agg [y0.1, y1.1, y2.1, y3.1, y4.1, y5.1]) = Rows.uptoBulkAll [y0.1, y1.1, y2.1, y3.1, y4.1, y5.1] + 1 := by rw [Rows.uptoBulk]
        omega
      exact ⟨⟨a0, z1.take l1, z2.take l2, a3, a4, z5.take l5⟩, _, _, _, rfl, isRow_in r1, isRow_in r2, isRow_in r5, by simp only [List.length_take]; omega, by simp only [List.length_take]; omega, by simp only [List.length_take]; omega, bk⟩
end
end Go.Proofs.Ytpcnpdippnljpaa

namespace Go.Proofs.Ytpcnpdippnljpaa
open Go.RowKit
set_option linter.unusedVariables false
set_option maxRecDepth 100000
set_option maxHeartbeats 1000000

abbrev lay (qs : List PV) : List Int := (qs.map PV.p).flatMap bytesP
def Lists (w : World) (x : PV) : Prop := InB w x.d x.p.dst ∧ InB w x.s x.p.src ∧ InB w x.y x.p.payload

structure RowI (w : World) (gG : Nat) (G : Lg) (xs : List PV) (wr : World) (k : Nat) (bv wv : Value) (n : Int) (s : Bool) (qs : List PV) : Prop where
  hb : OwnB (gG + 1) wr bv (lay qs)
  row : wr.ownsRow (gG + 1) 29 6 wv qs.length (qs.flatMap PV.cl)
  in_ : ∀ x ∈ qs, Lists w x
  few : qs.length ≤ k
  tt : (lay qs).length + tot (xs.drop k) ≤ tot xs
  ld : Rw.Laid n G s (qs.map PV.p)
  ns : s = false → n = 0 ∧ LaidF G (qs.map PV.p)
  n20 : 0 ≤ n ∧ n ≤ 20
  bG : Blk wr gG #[.int .i64 G.1, .int .i64 G.2.1, .int .i64 G.2.2] 49
  gr : w.grownBy wr none
  hB : gG + 1 ≤ wr.heap.size

theorem drop_at {xs : List PV} {k : Nat} {x : PV} (hx : xs[k]? = some x) : xs.drop k = x :: xs.drop (k + 1) := by
  obtain ⟨h, e⟩ := List.getElem?_eq_some_iff.1 hx
  rw [List.drop_eq_getElem_cons h, e]

theorem RowI.next {w wr W : World} {gG k : Nat} {G : Lg} {xs qs : List PV} {bv wv : Value} {n : Int} {s : Bool} (h : RowI w gG G xs wr k bv wv n s qs) (gW : wr.grownBy W none) {x : PV} (hx : xs[k]? = some x) : RowI w gG G xs W (k + 1) bv wv n s qs := by
  have ht := h.tt
  rw [drop_at hx] at ht
  simp only [tot] at ht
  exact ⟨h.hb.kept (fun g e => gW.block g (h.hb.lt g e).2 (by simp)), row_kpt h.row (fun i _ hi _ => gW.block i hi (by simp)), h.in_, Nat.le_succ_of_le h.few, by omega, h.ld, h.ns, h.n20, h.bG.grown gW, h.gr.trans gW, Nat.le_trans h.hB gW.size⟩

theorem lay_snoc (qs : List PV) (x : PV) : lay (qs ++ [x]) = lay qs ++ bytesP x.p := by simp [lay]

theorem row_step {w wr W : World} {gG k : Nat} {G : Lg} {xs qs : List PV} {bv wv : Value} {n : Int} (h : RowI w gG G xs wr k bv wv n false qs) (hg : gG = w.heap.size) {x : PV} (hx : xs[k]? = some x) (ix : Lists w x) (g : Good x.p) (hf : foundB x.p G = true) (gW : wr.grownBy W none) {cv : Value} (hc : InB W cv (bytesP x.p)) (ht : tot xs ≤ 70000000) (hk : k ≤ 1048576) :
    ∃ v' W1, (Builtin.append_ #[27, 27] 27 #[bv, cv]).run Try.prog W = .ok v' W1 ∧ w.grownBy W1 none ∧
      ∃ g' c' W2, (Builtin.append_ #[22, 22] 22 #[wv, .slice (some ⟨W1.heap.size, 0, none⟩) 1 1]).run Try.prog (W1.alloc (.cells (x.p.cs x.d x.s x.y) 29)) = .ok (.slice (some ⟨g', 0, none⟩) (qs.length + 1) c') W2 ∧ w.grownBy W2 none ∧
        (x.p.space ≠ 2 → RowI w gG G xs W2 (k + 1) v' (.slice (some ⟨g', 0, none⟩) (qs.length + 1) c') 0 false (qs ++ [x])) ∧ (x.p.space = 2 → RowI w gG G xs W2 (k + 1) v' (.slice (some ⟨g', 0, none⟩) (qs.length + 1) c') (x.p.dst.length : Int) true (qs ++ [x])) := by
  have tt := h.tt
  rw [drop_at hx] at tt
  simp only [tot] at tt
  have bl := bytesP_lt x.p g
  have hbW : OwnB (gG + 1) W bv (lay qs) := h.hb.kept (fun g e => gW.block g (h.hb.lt g e).2 (by simp))
  have hrW := row_kpt h.row (w' := W) (fun i _ hi _ => gW.block i hi (by simp))
  have hBW := Nat.le_trans h.hB gW.size
  obtain ⟨v', W1, r1, o1, g1⟩ := app_rd W (gG + 1) 27 bv (lay qs) hbW cv (bytesP x.p) hc (by omega) hBW
  have b1 : Below (gG + 1) W W1 := (Below.refl (gG + 1) W).grown g1 hBW (fun k e => (World.ownsRow.lt hbW k e).1)
  have row1 := row_kpt hrW (w' := W1) (fun g _ hl e => g1.block g hl (row_ne hrW hbW (by decide) e))
  have hB1 := Nat.le_trans hBW b1.size
  have one : ∀ u ∈ x.cl, u.oneCell' = true := fun u hu => by
    simp only [PV.cl, List.mem_cons, List.not_mem_nil, or_false] at hu
    rcases hu with rfl | rfl | rfl | rfl | rfl | rfl
    · rfl
    · exact InB.one ix.1
    · exact InB.one ix.2.1
    · rfl
    · rfl
    · exact InB.one ix.2.2
  obtain ⟨g', c', W2, r2, o2, b2, k2⟩ := row_push row1 x one (by have := h.few; omega) hB1
  have B1 : Below w.heap.size w W1 := (grown_bel (h.gr.trans gW)).trans (b1.mono (by omega))
  have B2 : Below w.heap.size w W2 := B1.trans (b2.mono (by omega))
  have bG2 : Blk W2 gG #[.int .i64 G.1, .int .i64 G.2.1, .int .i64 G.2.2] 49 := (b2.block gG (Nat.lt_succ_self _)).trans ((b1.block gG (Nat.lt_succ_self _)).trans (h.bG.grown gW))
  have hb2 : OwnB (gG + 1) W2 v' (lay (qs ++ [x])) := by rw [lay_snoc]; exact k2 _ _ _ o1
  have in2 : ∀ y ∈ qs ++ [x], Lists w y := fun y hy => by
    rcases List.mem_append.1 hy with hy | hy
    · exact h.in_ y hy
    · simp only [List.mem_singleton] at hy; subst hy; exact ix
  have tt2 : (lay (qs ++ [x])).length + tot (xs.drop (k + 1)) ≤ tot xs := by rw [lay_snoc, List.length_append]; omega
  have few2 : (qs ++ [x]).length ≤ k + 1 := by have := h.few; simp; omega
  have em : (qs ++ [x]).map PV.p = qs.map PV.p ++ [x.p] := by simp
  have fp := found_p hf
  refine ⟨v', W1, r1, below_grown B1, g', c', W2, r2, below_grown B2, fun h2 => ?_, fun h2 => ?_⟩
  · have L : LaidF G ((qs ++ [x]).map PV.p) := by rw [em]; exact (h.ns rfl).2.snoc g fp h2
    exact ⟨hb2, o2, in2, few2, tt2, laid_of L, fun _ => ⟨rfl, L⟩, ⟨by omega, by omega⟩, bG2, below_grown B2, Nat.le_trans hB1 b2.size⟩
  · have gd := g.d
    exact ⟨hb2, o2, in2, few2, tt2, by rw [em]; exact laid_last g fp h2 (h.ns rfl).2, (fun e => by cases e), ⟨by omega, by omega⟩, bG2, below_grown B2, Nat.le_trans hB1 b2.size⟩

theorem laid_good {n : Int} {G : Lg} {s : Bool} {ps : List Pk} (h : Rw.Laid n G s ps) : ∀ p ∈ ps, Good p := by
  induction h with
  | nil => intro p hp; cases hp
  | last p h hf h2 hn => intro q hq; simp only [List.mem_singleton] at hq; subst hq; exact h
  | cons s p ps h hf h2 t ih =>
    intro q hq
    rcases List.mem_cons.1 hq with rfl | hq
    · exact h
    · exact ih q hq
theorem lay_count : ∀ (ps : List Pk), (∀ p ∈ ps, Good p) → ps.length ≤ (ps.flatMap bytesP).length
  | [], _ => Nat.le_refl _
  | p :: ps, h => by
    have h1 := Rw.bytesP_pos p (h p (by simp))
    have h2 := lay_count ps (fun q hq => h q (by simp [hq]))
    simp only [List.flatMap_cons, List.length_append, List.length_cons]
    omega

structure TailI (w : World) (gG : Nat) (G : Lg) (n : Int) (s : Bool) (qs : List PV) (R : List Int) (wv : Value) (v : Value) (wc : World) : Prop where
  hb : OwnB (gG + 1) wc v (lay qs ++ R)
  row : wc.ownsRow (gG + 1) 29 6 wv qs.length (qs.flatMap PV.cl)
  in_ : ∀ x ∈ qs, Lists w x
  ld : Rw.Laid n G s (qs.map PV.p)
  n20 : 0 ≤ n ∧ n ≤ 20
  bG : Blk wc gG #[.int .i64 G.1, .int .i64 G.2.1, .int .i64 G.2.2] 49
  gr : w.grownBy wc none
  hs : s = true → R = []
  hR : R = [] ∨ ∃ x R', R = x :: R' ∧ 0 ≤ x ∧ x < 64
  by_ : ∀ x ∈ R, IsB x
  ln : (lay qs ++ R).length ≤ 80000000

theorem lay_bytes {w : World} {qs : List PV} (hg : ∀ p ∈ qs.map PV.p, Good p) (hi : ∀ x ∈ qs, Lists w x) : ∀ x ∈ lay qs, IsB x := by
  intro x hx
  obtain ⟨p, hp, hx⟩ := List.mem_flatMap.1 hx
  have g := hg p hp
  obtain ⟨y, hy, rfl⟩ := List.mem_map.1 hp
  obtain ⟨i1, i2, i3⟩ := hi y hy
  exact bytesP_byte g i1.bytes i2.bytes i3.bytes x hx

theorem row_shape {B : Nat} {w : World} {wv : Value} {n : Nat} {e : TypeId} {sz : Nat} {xs : List Value} (h : w.ownsRow B e sz wv n xs) : ∃ a c, wv = .slice a n c := by
  rcases h.2 with ⟨rfl, rfl⟩ | ⟨g, cap, cur, rfl, -⟩
  · exact ⟨_, _, rfl⟩
  · exact ⟨_, _, rfl⟩

end Go.Proofs.Ytpcnpdippnljpaa

namespace Go.Proofs.Ytpcnpdippnljpaa
open Go.ChangeShapes Go.WideShapes Go.ChangeAt Go.RowKit
set_option linter.unusedVariables false
set_option maxRecDepth 100000
set_option maxHeartbeats 1000000

theorem tot_bulk {H : Type} : ∀ (xs : List PV) (ds : List (DataW H)), xs.length = ds.length → (∀ (i : Nat) (x : PV) (d : DataW H), xs[i]? = some x → ds[i]? = some d → x.p.payload.length ≤ Rows.uptoBulk d) → tot xs ≤ 61 * Rows.uptoBulkAll ds
  | [], _, _, _ => Nat.zero_le _
  | x :: xs, [], hl, _ => by simp at hl
  | x :: xs, d :: ds, hl, h => by
    have h1 := h 0 x d rfl rfl
    have h2 := bulk_pos d
    have h3 := tot_bulk xs ds (by simpa using hl) (fun i y e hy he => h (i + 1) y e (by simpa using hy) (by simpa using he))
    simp only [tot, Rows.uptoBulkAll]
    omega

section
variable {H : Type} {enc : TypeId × Value → H} {w : World} {base : Nat} {held : Bool}

theorem pk_cells {n : Nat} {cs : List Value} {y : DataW H × List MemPlace} (h2 : DataW.trod enc Try.prog w base (fun _ => true) held n 29 cs = some y) (hl : cs.length = 6) :
    ∃ x : PV, Lists w x ∧ cs = x.cl ∧ x.p.dst.length ≤ Rows.uptoBulk y.1 ∧ x.p.src.length ≤ Rows.uptoBulk y.1 ∧ x.p.payload.length ≤ Rows.uptoBulk y.1 := by
  have c3 : Try.prog.cellsOf 3 = 1 := by kernel_rfl
  have c2 : Try.prog.cellsOf 2 = 1 := by kernel_rfl
  have cB : Try.prog.cellsOf 27 = 1 := by kernel_rfl
  obtain ⟨xs, m, -, hx, -, hxl, hff⟩ := DataW.trod_struct Try.underlying29 h2
  match cs, hl, xs, hxl with
  | [v0, v1, v2, v3, v4, v5], _, [y0, y1, y2, y3, y4, y5], _ =>
    have f0 := hff 0 _ rfl
    have f1 := hff 1 _ rfl
    have f2 := hff 2 _ rfl
    have f3 := hff 3 _ rfl
    have f4 := hff 4 _ rfl
    have f5 := hff 5 _ rfl
    simp [c2, c3, cB] at f0 f1 f2 f3 f4 f5
    obtain ⟨a0, e0, -⟩ := DataW.trod_int Try.underlying3 f0
    obtain ⟨a3, e3, -⟩ := DataW.trod_int Try.underlying2 f3
    obtain ⟨a4, e4, -⟩ := DataW.trod_int Try.underlying3 f4
    obtain ⟨p1, l1, k1, z1, e1, r1, q1⟩ := row_cells f1
    obtain ⟨p2, l2, k2, z2, e2, r2, q2⟩ := row_cells f2
    obtain ⟨p5, l5, k5, z5, e5, r5, q5⟩ := row_cells f5
    simp only [List.cons.injEq, and_true] at e0 e1 e2 e3 e4 e5
    subst e0 e1 e2 e3 e4 e5
    have hy : y.1 = .agg [y0.1, y1.1, y2.1, y3.1, y4.1, y5.1] := by rw [hx]; rfl
    have h3 : Rows.uptoBulk y.1 = Rows.uptoBulkAll [y0.1, y1.1, y2.1, y3.1, y4.1, y5.1] + 1 := by rw [hy, Rows.uptoBulk]
    have b1 := Nat.le_trans (row_bulk q1) (bulk_among (d := y1.1) (l := [y0.1, y1.1, y2.1, y3.1, y4.1, y5.1]) (by simp))
    have b2 := Nat.le_trans (row_bulk q2) (bulk_among (d := y2.1) (l := [y0.1, y1.1, y2.1, y3.1, y4.1, y5.1]) (by simp))
    have b5 := Nat.le_trans (row_bulk q5) (bulk_among (d := y5.1) (l := [y0.1, y1.1, y2.1, y3.1, y4.1, y5.1]) (by simp))
    exact ⟨⟨⟨a0, z1.take l1, z2.take l2, a3, a4, z5.take l5⟩, _, _, _⟩, ⟨isRow_in r1, isRow_in r2, isRow_in r5⟩, rfl, by show (z1.take l1).length ≤ _; omega, by show (z2.take l2).length ≤ _; omega, by show (z5.take l5).length ≤ _; omega⟩

theorem list_of {P : Nat → PV → Prop} : ∀ n : Nat, (∀ i, i < n → ∃ x, P i x) → ∃ l : List PV, l.length = n ∧ ∀ i x, l[i]? = some x → P i x
  | 0, _ => ⟨[], rfl, fun i x h => by simp at h⟩
  | n + 1, h => by
    obtain ⟨l, hl, hP⟩ := list_of n (fun i hi => h i (by omega))
    obtain ⟨x, hx⟩ := h n (by omega)
    refine ⟨l ++ [x], by simp [hl], fun i y hy => ?_⟩
    by_cases c : i < n
    · rw [List.getElem?_append_left (by omega)] at hy
      exact hP i y hy
    · have hi : i < (l ++ [x]).length := (List.getElem?_eq_some_iff.1 hy).1
      simp [hl] at hi
      obtain rfl : i = n := by omega
      rw [List.getElem?_append_right (by omega), hl] at hy
      simp at hy
      subst hy
      exact hx

theorem open_pks {a : Option Addr} {len cap fuel : Nat} {x : DataW H × List MemPlace} (hf : DataW.trod enc Try.prog w base (fun _ => true) held fuel 22 [.slice a len cap] = some x) (hb : Rows.uptoBulk x.1 ≤ 1048576) :
    ∃ xs, IsPks w a len cap xs ∧ tot xs ≤ 70000000 ∧ len ≤ 1048576 := by
  have c6 : Try.prog.cellsOf 29 = 6 := by kernel_rfl
  rcases Go.Deep.open_slice Try.underlying22 hf with ⟨hcs, _⟩ | ⟨ad, l, c, m, n, D, Pl, hcs, _, hl, hm, hmm, hxe, hx⟩
  · simp at hcs
    obtain ⟨rfl, rfl, rfl⟩ := hcs
    exact ⟨[], ⟨rfl, by omega, by simp, by simp, .inl rfl⟩, by simp [tot], by omega⟩
  · simp at hcs
    obtain ⟨rfl, rfl, rfl⟩ := hcs
    have hlm : len ≤ m := by rw [hmm]; split <;> omega
    have bk : Rows.uptoBulkAll ((List.range len).map D) ≤ 1048575 := by
      have : x.1 = .slice ((List.range len).map D) ((List.range (m - len)).map fun j => D (len + j)) := by rw [hxe]
      rw [this] at hb
      simp only [Rows.uptoBulk] at hb
      omega
    have each : ∀ i, i < len → ∃ x : PV, (Lists w x ∧ x.p.dst.length ≤ Rows.uptoBulk (D i) ∧ x.p.src.length ≤ Rows.uptoBulk (D i) ∧ x.p.payload.length ≤ Rows.uptoBulk (D i)) ∧ ∀ j v, x.cl[j]? = some v → w.cell? (ad.add (i * 6) |>.add j) = some v := fun i hi => by
      obtain ⟨cs', h1, h2⟩ := hx i (by omega)
      rw [c6] at h1
      obtain ⟨_, hlen, hcell⟩ := World.cells?_some h1
      obtain ⟨x, ok, rfl, b1, b2, b3⟩ := pk_cells h2 hlen
      exact ⟨x, ⟨ok, b1, b2, b3⟩, fun j v hj => by rw [hcell j (by have := (List.getElem?_eq_some_iff.1 hj).1; exact this)]; exact hj⟩
    obtain ⟨xs, hxs, hP⟩ := list_of len each
    have small : ∀ i, i < len → Rows.uptoBulk (D i) ≤ 1048575 := fun i hi => Nat.le_trans (bulk_among (List.mem_map.2 ⟨i, by simpa using hi, rfl⟩)) bk
    have tl : len ≤ 1048576 := by
      have := bulk_count ((List.range len).map D)
      simp only [List.length_map, List.length_range] at this
      omega
    have tt := tot_bulk xs ((List.range len).map D) (by simp [hxs]) (fun i x d hxi hd => by
      have hi : i < len := by rw [← hxs]; exact (List.getElem?_eq_some_iff.1 hxi).1
      rw [List.getElem?_map, List.getElem?_range hi] at hd
      simp only [Option.map_some, Option.some.injEq] at hd
      subst hd
      exact (hP i x hxi).1.2.2.2)
    refine ⟨xs, ⟨hxs, ⟨hl, by unfold maxLen at hm; omega⟩, fun x hx => ?_, fun x hx => ?_, ?_⟩, by omega, tl⟩
    · obtain ⟨i, hi⟩ := List.getElem?_of_mem hx
      exact (hP i x hi).1.1
    · obtain ⟨i, hi⟩ := List.getElem?_of_mem hx
      have hil : i < len := by rw [← hxs]; exact (List.getElem?_eq_some_iff.1 hi).1
      have := (hP i x hi).1
      have := small i hil
      omega
    · by_cases h0 : len = 0
      · exact .inl h0
      · right
        obtain ⟨x, ok, hc⟩ := each 0 (by omega)
        have hs : ad.spot = none := by
          have := hc 0 _ rfl
          unfold World.cell? at this
          split at this
          · split at this
            · cases this
            · rename_i hsp
              cases hsq : ad.spot with
              | none => rfl
              | some q => simp [Addr.add, hsq] at hsp
          · cases this
        obtain ⟨bb, off, sp⟩ := ad
        simp only at hs
        subst hs
        refine ⟨bb, off, rfl, fun i x hx j hj => ?_⟩
        have h6 : x.cl.length = 6 := rfl
        have hv : x.cl[j]? = some (x.cl[j]'(by omega)) := List.getElem?_eq_getElem _
        have := (hP i x hx).2 j _ hv
        simp only [Addr.add_lit] at this
        rw [hv, ← this]
end
end Go.Proofs.Ytpcnpdippnljpaa

namespace Go.Proofs.Ytpcnpdippnljpaa
open Go.RowKit
set_option linter.unusedVariables false
set_option linter.unusedSimpArgs false
set_option maxRecDepth 100000
set_option maxHeartbeats 4000000

/-- A packet with so many bytes 1. -/
def ones (p : Pk) (m : Nat) : Pk := { p with payload := List.replicate m 1 }
theorem ones_zero (p : Pk) : ones p 0 = { p with payload := [] } := rfl
theorem ovF_ones (p : Pk) (m : Nat) : ovF (ones p m) = ovF p := by rw [ovF_G, ovF_G]; rfl
theorem ones_enc {p : Pk} {m : Nat} (h0 : encE (ones p 0) = 0) (hm : p.space ≠ 2 → p.width + m ≤ 16383) : encE (ones p m) = 0 ∧ ((encB (ones p m)).length : Int) = overP p + m := by
  have e : encE (ones p m) = 0 := by
    unfold encE at h0 ⊢
    have k1 : badK (ones p m) ↔ badK (ones p 0) := Iff.rfl
    have k2 : badF (ones p m) ↔ badF (ones p 0) := Iff.rfl
    split at h0
    · cases h0
    · split at h0
      · cases h0
      · split at h0
        · cases h0
        · rename_i h1 h2 h3
          rw [if_neg (fun q => h1 (k1.1 q)), if_neg (fun q => h2 (k2.1 q)), if_neg]
          rintro (q | q | ⟨q1, q2⟩)
          · exact h3 (.inl q)
          · exact h3 (.inr (.inl q))
          · have := hm q1
            simp only [ones, List.length_replicate] at q2
            omega
  refine ⟨e, ?_⟩
  unfold encB
  rw [if_pos e, bytesP_len _ (enc_good e)]
  show overP p + ((List.replicate m (1 : Int)).length : Int) = _
  rw [List.length_replicate]
theorem room_nn (room : Int) (p : Pk) (ahead : Int) : 0 ≤ roomF room p ahead := by
  unfold roomF
  split
  · omega
  · rename_i h
    have hw := fun e => (ov_okh (p := p) e).w
    by_cases e : (ovF p).2 = 0
    · have := hw e
      split <;> omega
    · exact absurd (.inl e) h
theorem room_full {room : Int} {p : Pk} (h0 : encE (ones p 0) = 0) (hr : room ≤ 16383) (hn : roomF room p 0 ≠ 0) : overP p + roomF room p 0 = room ∧ (p.space ≠ 2 → p.width + roomF room p 0 + 1 ≤ 16383) := by
  have hg := ov_good (enc_good h0)
  rw [ovF_ones] at hg
  have ho : overP (ones p 0) = overP p := rfl
  rw [ho] at hg
  have gd := enc_good h0
  have hw : 1 ≤ p.width ∧ p.width ≤ 4 := gd.w
  have hov : 1 + p.width ≤ overP p ∧ (p.space ≠ 2 → 9 + p.width ≤ overP p) := by
    unfold overP
    refine ⟨?_, fun c => ?_⟩
    · split
      · omega
      · split <;> omega
    · rw [if_neg c]
      split <;> omega
  unfold roomF at hn ⊢
  rw [hg] at hn ⊢
  simp only at hn ⊢
  split at hn
  · exact absurd rfl hn
  · rename_i c
    rw [if_neg c]
    have c2 : ¬ room ≤ 0 := fun q => c (.inr (.inr q))
    by_cases c3 : p.space = 2
    · rw [if_pos c3] at hn ⊢
      exact ⟨by omega, fun q => absurd c3 q⟩
    · rw [if_neg c3] at hn ⊢
      have := hov.2 c3
      exact ⟨by omega, fun _ => by omega⟩
theorem bld_one {room : Int} {q : Pk} (h : encE q = 0) (h0 : 0 ≤ room) (h1 : room ≤ 65535) : bldF room 0 [q] = if room < (encB q).length then ([], [], 200) else (encB q, [((encB q).length : Int)], 0) := by
  have hp : padP q (0 - (([] : List Int).length : Int)) = q := by
    unfold padP
    have := ovF_in q
    rw [if_pos]
    simp only [List.length_nil]
    omega
  have hg : bldG 0 [q] [] [] = (encB q, [((encB q).length : Int)], 0) := by
    unfold bldG
    simp only [if_true, hp, h, List.nil_append]
    rfl
  unfold bldF
  rw [if_neg (by
    rintro (c | c | c | c | c)
    · omega
    · omega
    · omega
    · omega
    · cases c), hg]
  simp only [if_true]

theorem pks_one {w : World} {b : Nat} {q : Pk} {d s y : Value} (hb : Blk w b (q.cs d s y) 29) (hd : InB w d q.dst) (hs : InB w s q.src) (hy : InB w y q.payload) (l1 : q.dst.length ≤ 140737488351232) (l2 : q.src.length ≤ 140737488351232) (l3 : q.payload.length ≤ 140737488351232) : IsPks w (some ⟨b, 0, none⟩) 1 1 [⟨q, d, s, y⟩] := by
  refine ⟨rfl, by omega, fun x hx => ?_, fun x hx => ?_, .inr ⟨_, _, rfl, fun i x hi j hj => ?_⟩⟩
  · simp only [List.mem_singleton] at hx
    subst hx
    exact ⟨hd, hs, hy⟩
  · simp only [List.mem_singleton] at hx
    subst hx
    exact ⟨l1, l2, l3⟩
  · rcases i with _ | i
    · simp only [List.getElem?_cons_zero, Option.some.injEq] at hi
      subst hi
      have : j = 0 ∨ j = 1 ∨ j = 2 ∨ j = 3 ∨ j = 4 ∨ j = 5 := by omega
      rcases this with rfl | rfl | rfl | rfl | rfl | rfl <;> exact hb.cell _ _ rfl
    · simp at hi
theorem InB.belowB {w W : World} {v : Value} {l : List Int} (h : InB w v l) (b : Below w.heap.size w W) : InB W v l := by
  obtain ⟨a, c, e, hr, h1, h2, h3⟩ := h
  exact ⟨a, c, e, rd_below hr b, h1, h2, fun x ex hc => ⟨Nat.lt_of_lt_of_le (h3 x ex hc).1 b.size, Nat.ne_of_lt (Nat.lt_of_lt_of_le (h3 x ex hc).1 b.size), (h3 x ex hc).2.2⟩⟩

/-- While the payload grows. -/
structure FI (W3 : World) (p : Pk) (d s : Value) (m : Nat) (ya : Option Addr) (yc : Nat) (wr : World) : Prop where
  blk : Blk wr W3.heap.size ((ones p m).cs d s (.slice ya m yc)) 29
  own : OwnB (W3.heap.size + 1) wr (.slice ya m yc) (List.replicate m 1)
  bel : Below W3.heap.size W3 wr
theorem FI.grown {W3 wr wr' : World} {p : Pk} {d s : Value} {m : Nat} {ya : Option Addr} {yc : Nat} (h : FI W3 p d s m ya yc wr) (g : wr.grownBy wr' none) : FI W3 p d s m ya yc wr' :=
  ⟨h.blk.grown g, h.own.kept (fun x e => g.block x (h.own.ltb x e).2 (by simp)), ⟨g.os.trans h.bel.os, g.tape.trans h.bel.tape, g.output.trans h.bel.output, Nat.le_trans h.bel.size g.size, fun k hk => (g.block k (by have := h.blk.lt; omega) (by simp)).trans (h.bel.block k hk)⟩⟩
/-- One byte more. -/
theorem FI.push {W3 wr : World} {p : Pk} {d s : Value} {m : Nat} {ya : Option Addr} {yc : Nat} (h : FI W3 p d s m ya yc wr) (hm : m ≤ 100000) :
    ∃ ya' yc' w', (Builtin.append_ #[27, 27] 27 #[.slice ya m yc, .slice (some ⟨wr.heap.size, 0, none⟩) 1 1]).run Try.prog (wr.alloc (bts [1])) = .ok (.slice ya' (m + 1) yc') w' ∧ w'.cell? ⟨W3.heap.size, 5, none⟩ = some (.slice ya m yc) ∧ (∀ j, w'.frozen? ⟨W3.heap.size, j, none⟩ = false) ∧ FI W3 p d s (m + 1) ya' yc' (w'.setCell ⟨W3.heap.size, 5, none⟩ (.slice ya' (m + 1) yc')) := by
  have gA := World.grownBy_alloc wr (bts [1]) none
  have hA := h.grown gA
  have i1 : InB (wr.alloc (bts [1])) (.slice (some ⟨wr.heap.size, 0, none⟩) 1 1) [1] := InB.at rfl rfl (small_le (by simp)) (by simp [IsB])
  have hlt := h.blk.lt
  obtain ⟨v', w', hr, ho, hg⟩ := app_rd (wr.alloc (bts [1])) (W3.heap.size + 1) 27 _ _ hA.own _ [1] i1 (by rw [List.length_replicate]; simp; omega) (Nat.le_trans hlt gA.size)
  have e : List.replicate m (1 : Int) ++ [1] = List.replicate (m + 1) 1 := by rw [List.replicate_succ']
  rw [e] at ho
  obtain ⟨ya', yc', rfl⟩ := ho.shape
  rw [List.length_replicate] at hr ho
  have bne : ∀ x, (Value.slice ya m yc).ownBlock = some x → x ≠ W3.heap.size := fun x e => by have := (hA.own.ltb x e).1; omega
  have bW : Blk w' W3.heap.size ((ones p m).cs d s (.slice ya m yc)) 29 := (hg.block _ hA.blk.lt (fun e => bne _ e.symm rfl)).trans hA.blk
  have bel : Below W3.heap.size W3 w' := ⟨hg.os.trans hA.bel.os, hg.tape.trans hA.bel.tape, hg.output.trans hA.bel.output, Nat.le_trans hA.bel.size hg.size, fun k hk => (hg.block k (by have := hA.blk.lt; omega) (fun e => by have := (hA.own.ltb k e.symm).1; omega)).trans (hA.bel.block k hk)⟩
  refine ⟨ya', yc', w', hr, bW.cell 5 _ rfl, bW.thaws, bW.setC 5 _, ?_, ?_⟩
  · have gg := grown_at (World.grownBy.refl w' (some W3.heap.size)) 5 (.slice ya' (m + 1) yc')
    exact ho.far gg (fun q e => by cases e; omega)
  · have gg := grown_at (World.grownBy.refl w' (some W3.heap.size)) 5 (.slice ya' (m + 1) yc')
    exact ⟨gg.os.trans bel.os, gg.tape.trans bel.tape, gg.output.trans bel.output, Nat.le_trans bel.size gg.size, fun k hk => (gg.block k (by have := bel.size; omega) (by simp; omega)).trans (bel.block k hk)⟩
end Go.Proofs.Ytpcnpdippnljpaa

namespace Go.Proofs.Ytpcnpdippnljpaa
open Go.RowKit
set_option linter.unusedVariables false
set_option linter.unusedSimpArgs false
set_option maxRecDepth 100000
set_option maxHeartbeats 4000000

theorem fi_grown {w W3 wr : World} {p : Pk} {d s : Value} {m : Nat} {ya : Option Addr} {yc : Nat} (g : w.grownBy W3 none) (h : FI W3 p d s m ya yc wr) : w.grownBy wr none :=
  g.trans ⟨h.bel.os, h.bel.tape, h.bel.output, h.bel.size, fun k hk _ => h.bel.block k hk⟩
theorem overP_nn (p : Pk) (h : 1 ≤ p.width) : 0 ≤ overP p := by
  unfold overP
  split
  · omega
  · split <;> omega
theorem fills_walk (room : Int) (p : Pk) (d s y : Value) (w : World) (hd : InB w d p.dst) (hs : InB w s p.src) (hy : InB w y p.payload) (l1 : p.dst.length ≤ 140737488351232) (l2 : p.src.length ≤ 140737488351232) (l3 : p.payload.length ≤ 140737488351232) (r1 : -9223372036854775808 ≤ room ∧ room ≤ 9223372036854775807) :
    Calls Try.prog 6 #[.int .i64 room, p.val d s y] w fun e w' => e = .returned (.bool true) ∧ w.grownBy w' none := by
  have hdb := hd.bytes
  have hsb := hs.bytes
  obtain ⟨a1, c1, rfl, -⟩ := id hd
  obtain ⟨a2, c2, rfl, -⟩ := id hs
  obtain ⟨a3, c3, rfl, -⟩ := id hy
  have b0 := Blk.new w (p.cs (.slice a1 p.dst.length c1) (.slice a2 p.src.length c2) (.slice a3 p.payload.length c3)) 29
  have g0 := World.grownBy_alloc w (.cells (p.cs (.slice a1 p.dst.length c1) (.slice a2 p.src.length c2) (.slice a3 p.payload.length c3)) 29) none
  have HB := hide (And.intro hdb hsb)
  clear hdb hsb
  go_enter Try.func6, Try.ntmps6
  go_wp2_with fail
  refine (awake_any _).mono ?_
  rintro e W1 ⟨rfl, g1⟩
  have gA := g0.trans g1
  have b1 := b0.grown g1
  have x0 := b1.cell 0 (.int .i64 p.space) rfl
  have x1 := b1.cell 1 (.slice a1 p.dst.length c1) rfl
  have x2 := b1.cell 2 (.slice a2 p.src.length c2) rfl
  have x3 := b1.cell 3 (.int .i64 p.number) rfl
  have x4 := b1.cell 4 (.int .i64 p.width) rfl
  have x5 := b1.cell 5 (.slice a3 p.payload.length c3) rfl
  have rm := room_any room 0 p (.slice a1 p.dst.length c1) (.slice a2 p.src.length c2) (.slice a3 p.payload.length c3) W1 (hd.grown gA) (hs.grown gA) l1 l2 r1.2
  obtain ⟨n, hn⟩ : ∃ n, n = roomF room p 0 := ⟨_, rfl⟩
  have n0 := room_nn room p 0
  rw [← hn] at rm n0
  have HN := hide hn
  clear b0 g0 g1 hn
  go_wp2_with fail
  refine rm.mono ?_
  rintro e W2 ⟨rfl, g2⟩
  have nI : ¬ n < 0 := by omega
  have b2 := b1.grown g2
  have gB := gA.trans g2
  have y0 := b2.cell 0 (.int .i64 p.space) rfl
  have y1 := b2.cell 1 (.slice a1 p.dst.length c1) rfl
  have y2 := b2.cell 2 (.slice a2 p.src.length c2) rfl
  have y3 := b2.cell 3 (.int .i64 p.number) rfl
  have y4 := b2.cell 4 (.int .i64 p.width) rfl
  have y5 := b2.cell 5 (.slice a3 p.payload.length c3) rfl
  have cp := copied05 p (.slice a1 p.dst.length c1) (.slice a2 p.src.length c2) (.slice a3 p.payload.length c3) W2 (hd.grown gB) (hs.grown gB) (hy.grown gB) l1 l2 l3
  have GB := hide gB
  clear rm b1 gA x0 x1 x2 x3 x4 x5 g2 gB b2 hd hs hy
  go_wp2_with fail
  refine cp.mono ?_
  rintro e W3 ⟨e1, f1, e2, f2, e3, f3, rfl, o1, o2, o3, g3⟩
  have i1 := o1.inB (unhide HB).1
  have i2 := o2.inB (unhide HB).2
  obtain ⟨W4, hW4⟩ : ∃ W4, W4 = W3.alloc (.cells (p.cs (.slice e1 p.dst.length f1) (.slice e2 p.src.length f2) (.slice e3 p.payload.length f3)) 29) := ⟨_, rfl⟩
  have b4 := Blk.new W3 (p.cs (.slice e1 p.dst.length f1) (.slice e2 p.src.length f2) (.slice e3 p.payload.length f3)) 29
  have g4 := World.grownBy_alloc W3 (.cells (p.cs (.slice e1 p.dst.length f1) (.slice e2 p.src.length f2) (.slice e3 p.payload.length f3)) 29) none
  rw [← hW4] at b4 g4
  have F0 : FI W3 p (.slice e1 p.dst.length f1) (.slice e2 p.src.length f2) 0 none 0 (W4.setCell ⟨W3.heap.size, 5, none⟩ (.slice none 0 0)) :=
    ⟨b4.setC 5 _, World.ownsRow_nil _ _ _ _, by
      have gg := grown_at (World.grownBy.refl W4 (some W3.heap.size)) 5 (.slice none 0 0)
      exact ⟨gg.os.trans g4.os, gg.tape.trans g4.tape, gg.output.trans g4.output, Nat.le_trans g4.size gg.size, fun k hk => (gg.block k (by have := g4.size; omega) (by simp; omega)).trans (g4.block k hk (by simp))⟩⟩
  have k5 := b4.cell 5 (.slice e3 p.payload.length f3) rfl
  have t5 := b4.thaws
  have j1 := i1.belowB F0.bel
  have j2 := i2.belowB F0.bel
  have en := enc_own (ones p 0) (.slice e1 p.dst.length f1) (.slice e2 p.src.length f2) nilV _ j1 j2 (InX.nil _ _) l1 l2 (by simp [ones])
  obtain ⟨E, hE⟩ : ∃ E, E = encE (ones p 0) := ⟨_, rfl⟩
  obtain ⟨PB, hPB⟩ : ∃ PB, PB = encB (ones p 0) := ⟨_, rfl⟩
  rw [← hE, ← hPB] at en
  have z0 := F0.blk.cell 0 (.int .i64 p.space) rfl
  have z1 := F0.blk.cell 1 (.slice e1 p.dst.length f1) rfl
  have z2 := F0.blk.cell 2 (.slice e2 p.src.length f2) rfl
  have z3 := F0.blk.cell 3 (.int .i64 p.number) rfl
  have z4 := F0.blk.cell 4 (.int .i64 p.width) rfl
  have z5 := F0.blk.cell 5 (.slice none 0 0) rfl
  have HE := hide hE
  have II := hide (And.intro i1 (And.intro i2 (And.intro ((unhide GB).trans g3) F0)))
  clear cp y0 y1 y2 y3 y4 y5 o1 o2 o3 g3 i1 i2 b4 g4 F0 j1 j2 hE hPB
  go_upto_region 6 with fail
  rw [← hW4]
  replace hW4 := hide hW4
  obtain ⟨G, hG⟩ : ∃ G, G = W3.heap.size := ⟨_, rfl⟩
  rw [← hG] at k5 t5 en z0 z1 z2 z3 z4 z5 ⊢
  replace hG := hide hG
  go_wp2_with fail
  refine en.mono ?_
  rintro e W5 ⟨pa, pc, rfl, hoE, g5⟩
  clear en z0 z1 z2 z3 z4 z5 k5 t5 hoE
  have G5 := hide g5
  clear g5
  have DONE : Hid (∀ W, W5.grownBy W none → w.grownBy W none) := fun W g => by
    have gg := fi_grown (unhide II).2.2.1 (unhide II).2.2.2
    have g5 := unhide G5
    rw [unhide hG] at g5
    exact gg.trans (g5.trans g)
  by_cases n00 : n = 0
  · subst n00
    go_wp2_with fail
    go_ret
    exact ⟨rfl, unhide DONE _ (World.grownBy.refl _ none)⟩
  have n01 : ¬ n = 0 := n00
  by_cases rb : 16383 < room
  · go_wp2_with fail
    go_ret
    exact ⟨rfl, unhide DONE _ (World.grownBy.refl _ none)⟩
  by_cases hE0 : E = 0
  · subst hE0
    have FU : Hid (overP p + n = room ∧ (p.space ≠ 2 → p.width + n + 1 ≤ 16383) ∧ 0 ≤ overP p ∧ encE (ones p 0) = 0) := by
      have e0 := (unhide HE).symm
      have hn := unhide HN
      have rf := room_full (room := room) e0 (by omega) (by rw [← hn]; exact n00)
      rw [← hn] at rf
      exact ⟨rf.1, rf.2, overP_nn p (enc_good e0).w.1, e0⟩
    have nr : ¬ room < n := by
      have := unhide FU
      omega
    obtain ⟨N, rfl⟩ := Int.eq_ofNat_of_zero_le n0
    have N16 : N ≤ 16383 := by omega
    have I5 : Hid (FI W3 p (.slice e1 p.dst.length f1) (.slice e2 p.src.length f2) 0 none 0 W5) := by
      have g5 := unhide G5
      rw [unhide hG] at g5
      exact (unhide II).2.2.2.grown g5
    have nb : ((N : Int) == 0) = false := by simpa using n00
    clear HE HN
    go_wp2_with fail
    go_loopw [10] (fun iv wr => ∃ k : Nat, k ≤ N ∧ iv = .int .i64 k ∧ Hid (∃ ya yc, FI W3 p (.slice e1 p.dst.length f1) (.slice e2 p.src.length f2) k ya yc wr)) (fun iv _ => N - (intOf iv).toNat)
    case atStart => exact ⟨0, Nat.zero_le _, rfl, _, _, unhide I5⟩
    case round =>
      clear I5
      obtain ⟨k, hk, rfl, I⟩ := hrel
      obtain ⟨ya, yc, I⟩ := unhide I
      by_cases hlt : k < N
      · have hkI : (k : Int) < (N : Int) := by omega
        obtain ⟨ya', yc', w6, hr6, c6, t6, I6⟩ := I.push (by omega)
        have c5 := (I.grown (World.grownBy_alloc wr (bts [1]) none)).blk.cell 5 (.slice ya k yc) rfl
        have c4 := I.blk.cell 5 (.slice ya k yc) rfl
        rw [← unhide hG] at c4 c5 c6 t6 I6
        have I6' := hide I6
        replace hr6 := hide hr6
        clear I I6
        have FIN : Hid (∃ ya yc, FI W3 p (.slice e1 p.dst.length f1) (.slice e2 p.src.length f2) (k + 1) ya yc (w6.setCell ⟨G, 5, none⟩ (.slice ya' (k + 1) yc'))) := ⟨ya', yc', unhide I6'⟩
        clear I6'
        go_wp2_with (at_builtin; refine Kf.wpList_append_run _ rfl (Operand.tmp 54) (Operand.tmp 55) 27 27 rfl (.slice ya k yc) (.slice (some ⟨wr.heap.size, 0, none⟩) 1 1) rfl rfl (unhide hr6) ?_)
        exact ⟨⟨k + 1, hlt, by go_num, FIN⟩, by simp [intOf]; omega⟩
      · obtain rfl : k = N := by omega
        have hkI : ¬ (k : Int) < (k : Int) := by omega
        obtain ⟨fo, fw, fn, fe⟩ := unhide FU
        have ej := ones_enc (m := k) fe (fun c => by have := fw c; omega)
        have em := ones_enc (m := k + 1) fe (fun c => by have := fw c; omega)
        have bd1 : bldF room 0 [ones p k] = (encB (ones p k), [room], 0) := by
          rw [bld_one ej.1 (by omega) (by omega), if_neg (by rw [ej.2]; omega), ej.2, fo]
        have bd2 : bldF room 0 [ones p (k + 1)] = ([], [], 200) := by
          rw [bld_one em.1 (by omega) (by omega), if_pos (by rw [em.2]; omega)]
        have hl : ((encB (ones p k)).length : Int) = room := by rw [ej.2, fo]
        have iy : InB wr (.slice ya k yc) (ones p k).payload := by
          have := I.own.inB (fun x hx => by rw [List.eq_of_mem_replicate hx]; simp [IsB])
          exact this
        have gA := World.grownBy_alloc wr (.cells ((ones p k).cs (.slice e1 p.dst.length f1) (.slice e2 p.src.length f2) (.slice ya k yc)) 29) none
        have b6 := Blk.new wr ((ones p k).cs (.slice e1 p.dst.length f1) (.slice e2 p.src.length f2) (.slice ya k yc)) 29
        have hp := pks_one (q := ones p k) b6 (((unhide II).1.belowB I.bel).grown gA) (((unhide II).2.1.belowB I.bel).grown gA) (iy.grown gA) l1 l2 (by simp [ones]; omega)
        have bd := build_any room 0 _ 1 1 _ _ hp (by simp [tot, ones]; omega)
        rw [show ([⟨ones p k, .slice e1 p.dst.length f1, .slice e2 p.src.length f2, .slice ya k yc⟩] : List PV).map PV.p = [ones p k] from rfl, bd1] at bd
        obtain ⟨P1, hP1⟩ : ∃ P1, P1 = encB (ones p k) := ⟨_, rfl⟩
        rw [← hP1] at bd hl
        obtain ⟨w6, hw6⟩ : ∃ w6, w6 = wr.alloc (.cells ((ones p k).cs (.slice e1 p.dst.length f1) (.slice e2 p.src.length f2) (.slice ya k yc)) 29) := ⟨_, rfl⟩
        rw [← hw6] at bd gA
        have c0 := I.blk.cell 0 (.int .i64 p.space) rfl
        have c1' := I.blk.cell 1 (.slice e1 p.dst.length f1) rfl
        have c2' := I.blk.cell 2 (.slice e2 p.src.length f2) rfl
        have c3' := I.blk.cell 3 (.int .i64 p.number) rfl
        have c4 := I.blk.cell 4 (.int .i64 p.width) rfl
        have c5 := I.blk.cell 5 (.slice ya k yc) rfl
        rw [← unhide hG] at c0 c1' c2' c3' c4 c5
        have I7 := hide (I.grown gA)
        have BD := hide bd
        have EM := hide (And.intro bd2 em)
        have nb2 : ((P1.length : Int) != room) = false := by simpa using hl
        clear bd bd1 bd2 em ej hP1 hp b6 gA iy fe fo fw fn I
        have GG : Hid (∀ (m : Nat) (ya : Option Addr) (yc : Nat) (W W' : World), FI W3 p (.slice e1 p.dst.length f1) (.slice e2 p.src.length f2) m ya yc W → W.grownBy W' none → w.grownBy W' none) := fun m ya yc W W' h g => (fi_grown (unhide II).2.2.1 h).trans g
        go_wp2_with fail
        rw [show wr.alloc (.cells #[.int .i64 p.space, .slice e1 p.dst.length f1, .slice e2 p.src.length f2, .int .i64 p.number, .int .i64 p.width, .slice ya k yc] 29) = w6 from hw6.symm]
        replace hw6 := hide hw6
        refine (unhide BD).mono ?_
        rintro e w7 ⟨bv, sv, rfl, ob, os, g7⟩
        obtain ⟨ba, bc, rfl⟩ := ob.shape
        obtain ⟨sa, sc, rfl⟩ := os.shape
        have L2 : ([room] : List Int).length = 1 := rfl
        simp only [L2] at ob os ⊢
        obtain ⟨gs, rfl, hcs⟩ := os.cell 0 room rfl
        have I8 := (unhide I7).grown g7
        obtain ⟨ya', yc', w8, hr8, k6, t6, I9⟩ := I8.push (by omega)
        have k5 := (I8.grown (World.grownBy_alloc w7 (bts [1]) none)).blk.cell 5 (.slice ya k yc) rfl
        have k4 := I8.blk.cell 5 (.slice ya k yc) rfl
        obtain ⟨w9, hw9⟩ : ∃ w9, w9 = w8.setCell ⟨G, 5, none⟩ (.slice ya' (k + 1) yc') := ⟨_, rfl⟩
        rw [← unhide hG] at k4 k5 k6 t6 I9
        rw [← hw9] at I9
        have b9 := I9.blk
        rw [← unhide hG] at b9
        have d0 := b9.cell 0 (.int .i64 p.space) rfl
        have d1 := b9.cell 1 (.slice e1 p.dst.length f1) rfl
        have d2 := b9.cell 2 (.slice e2 p.src.length f2) rfl
        have d3 := b9.cell 3 (.int .i64 p.number) rfl
        have d4 := b9.cell 4 (.int .i64 p.width) rfl
        have d5 := b9.cell 5 (.slice ya' (k + 1) yc') rfl
        have gA := World.grownBy_alloc w9 (.cells ((ones p (k + 1)).cs (.slice e1 p.dst.length f1) (.slice e2 p.src.length f2) (.slice ya' (k + 1) yc')) 29) none
        have b6 := Blk.new w9 ((ones p (k + 1)).cs (.slice e1 p.dst.length f1) (.slice e2 p.src.length f2) (.slice ya' (k + 1) yc')) 29
        have iy : InB w9 (.slice ya' (k + 1) yc') (ones p (k + 1)).payload := by
          have := I9.own.inB (fun x hx => by rw [List.eq_of_mem_replicate hx]; simp [IsB])
          exact this
        have hp := pks_one (q := ones p (k + 1)) b6 (((unhide II).1.belowB I9.bel).grown gA) (((unhide II).2.1.belowB I9.bel).grown gA) (iy.grown gA) l1 l2 (by simp [ones]; omega)
        have bd := build_any room 0 _ 1 1 _ _ hp (by simp [tot, ones]; omega)
        rw [show ([⟨ones p (k + 1), .slice e1 p.dst.length f1, .slice e2 p.src.length f2, .slice ya' (k + 1) yc'⟩] : List PV).map PV.p = [ones p (k + 1)] from rfl, (unhide EM).1] at bd
        obtain ⟨w10, hw10⟩ : ∃ w10, w10 = w9.alloc (.cells ((ones p (k + 1)).cs (.slice e1 p.dst.length f1) (.slice e2 p.src.length f2) (.slice ya' (k + 1) yc')) 29) := ⟨_, rfl⟩
        rw [← hw10] at bd gA
        have DN : Hid (∀ W, w10.grownBy W none → w.grownBy W none) := fun W g => unhide GG _ _ _ w9 W I9 (gA.trans g)
        have BD2 := hide bd
        have HR := hide hr8
        clear bd hp iy b6 gA b9 I9 hr8 I8 os ob g7 c0 c1' c2' c3' c4 c5
        go_upto_region 20 with (at_builtin; refine Kf.wpList_append_run _ rfl _ _ 27 27 rfl (.slice ya k yc) (.slice (some ⟨w7.heap.size, 0, none⟩) 1 1) rfl rfl (unhide HR) ?_)
        rw [← hw9]
        replace hw9 := hide hw9
        clear k4 k5 k6 t6 HR
        go_wp2_with fail
        rw [show w9.alloc (.cells #[.int .i64 p.space, .slice e1 p.dst.length f1, .slice e2 p.src.length f2, .int .i64 p.number, .int .i64 p.width, .slice ya' (k + 1) yc'] 29) = w10 from hw10.symm]
        replace hw10 := hide hw10
        refine (unhide BD2).mono ?_
        rintro e w11 ⟨bv, sv, rfl, ob, os, g11⟩
        obtain ⟨ta, tc, rfl⟩ := ob.shape
        obtain ⟨ra, rc, rfl⟩ := os.shape
        have FIN := hide (unhide DN _ g11)
        simp only [List.length_nil]
        clear ob os g11 d0 d1 d2 d3 d4 d5
        go_wp2_with fail
        go_ret
        exact ⟨rfl, unhide FIN⟩
  · have bz : (E != 0) = true := by simpa using hE0
    go_wp2_with fail
    go_ret
    exact ⟨rfl, unhide DONE _ (World.grownBy.refl _ none)⟩
end Go.Proofs.Ytpcnpdippnljpaa

namespace Go.Proofs.Ytpcnpdippnljpaa
open Go.RowKit
set_option linter.unusedVariables false
set_option linter.unusedSimpArgs false
set_option maxRecDepth 100000
set_option maxHeartbeats 1000000

/-- The packets as they are laid: the last one with its padding. -/
def padL (least : Int) : List Pk → Int → List Pk
  | [], _ => []
  | p :: r, o => (if r = [] then padP p (least - o) else p) :: padL least r (o + ((encB (if r = [] then padP p (least - o) else p)).length : Int))
def lenE (q : Pk) : Int := ((encB q).length : Int)

theorem bldG_ok {least : Int} : ∀ (L : List Pk) (out sz : List Int), (bldG least L out sz).2.2 = 0 → (∀ q ∈ padL least L out.length, encE q = 0) ∧ bldG least L out sz = (out ++ (padL least L out.length).flatMap encB, sz ++ (padL least L out.length).map lenE, 0)
  | [], out, sz, _ => by simp [padL, bldG]
  | p :: r, out, sz, h => by
    obtain ⟨q, hq⟩ : ∃ q, q = (if r = [] then padP p (least - (out.length : Int)) else p) := ⟨_, rfl⟩
    have e1 : bldG least (p :: r) out sz = if encE q = 0 then bldG least r (out ++ encB q) (sz ++ [((encB q).length : Int)]) else ([], [], encE q) := by rw [hq]; rfl
    have e2 : padL least (p :: r) out.length = q :: padL least r ((out ++ encB q).length : Int) := by
      rw [List.length_append, Int.natCast_add, hq]; rfl
    rw [e1] at h ⊢
    by_cases c : encE q = 0
    · rw [if_pos c] at h ⊢
      obtain ⟨k1, k2⟩ := bldG_ok r _ _ h
      rw [e2, k2]
      refine ⟨fun x hx => ?_, ?_⟩
      · rcases List.mem_cons.1 hx with rfl | hx
        · exact c
        · exact k1 x hx
      · simp [lenE, List.append_assoc]
    · rw [if_neg c] at h
      exact absurd h c
theorem padL_len {least : Int} : ∀ (L : List Pk) (o : Int), (padL least L o).length = L.length
  | [], _ => rfl
  | p :: r, o => by simp [padL, padL_len r]
theorem padL_get {least : Int} : ∀ (L : List Pk) (o : Int) (i : Nat) (p : Pk), L[i]? = some p → (padL least L o)[i]? = some (if i + 1 = L.length then padP p (least - (o + (((padL least L o).take i).map lenE).sum)) else p)
  | [], _, _, _, h => by simp at h
  | p :: r, o, 0, x, h => by
    simp only [List.getElem?_cons_zero, Option.some.injEq] at h
    subst h
    simp only [padL, List.getElem?_cons_zero, List.take_zero, List.map_nil, List.sum_nil, Int.add_zero, Option.some.injEq, List.length_cons]
    by_cases c : r = []
    · subst c; simp
    · rw [if_neg c, if_neg]
      intro e
      exact c (List.length_eq_zero_iff.1 (by omega))
  | p :: r, o, i + 1, x, h => by
    simp only [List.getElem?_cons_succ] at h
    have ih := padL_get (least := least) r (o + ((encB (if r = [] then padP p (least - o) else p)).length : Int)) i x h
    simp only [padL, List.getElem?_cons_succ, List.length_cons, List.take_succ_cons, List.map_cons, List.sum_cons]
    rw [ih]
    have e : o + ((encB (if r = [] then padP p (least - o) else p)).length : Int) + (((padL least r (o + ((encB (if r = [] then padP p (least - o) else p)).length : Int))).take i).map lenE).sum = o + (lenE (if r = [] then padP p (least - o) else p) + (((padL least r (o + ((encB (if r = [] then padP p (least - o) else p)).length : Int))).take i).map lenE).sum) := by
      unfold lenE; omega
    rw [e]
    simp only [Nat.add_right_cancel_iff]

/-- What padding leaves of a packet that may be encoded. -/
theorem padP_enc {p : Pk} {n : Int} (h : encE (padP p n) = 0) : encE p = 0 ∧ lenE (padP p n) = max (lenE p) n := by
  have key : encE p = 0 := by
    unfold padP at h
    split at h
    · exact h
    · rename_i hc
      unfold encE at h ⊢
      have k1 : badK ({ p with payload := p.payload ++ List.replicate (n - (ovF p).1 - p.payload.length).toNat 0 } : Pk) ↔ badK p := Iff.rfl
      have k2 : badF ({ p with payload := p.payload ++ List.replicate (n - (ovF p).1 - p.payload.length).toNat 0 } : Pk) ↔ badF p := Iff.rfl
      split at h
      · cases h
      · split at h
        · cases h
        · split at h
          · cases h
          · rename_i h1 h2 h3
            rw [if_neg (fun q => h1 (k1.2 q)), if_neg (fun q => h2 (k2.2 q)), if_neg]
            rintro (q | q | ⟨q1, q2⟩)
            · exact h3 (.inl q)
            · exact h3 (.inr (.inl q))
            · refine h3 (.inr (.inr ⟨q1, ?_⟩))
              simp only [List.length_append, List.length_replicate]
              omega
  refine ⟨key, ?_⟩
  have g0 := enc_good key
  have g1 := enc_good h
  have l0 : lenE p = overP p + p.payload.length := by unfold lenE encB; rw [if_pos key, bytesP_len _ g0]
  have l1 : lenE (padP p n) = overP (padP p n) + (padP p n).payload.length := by unfold lenE encB; rw [if_pos h, bytesP_len _ g1]
  have ho := ov_good g0
  have h1 : (ovF p).1 = overP p := by rw [ho]
  rw [l0, l1]
  unfold padP
  rw [h1]
  split
  · omega
  · rename_i hc
    have e : overP ({ p with payload := p.payload ++ List.replicate (n - overP p - p.payload.length).toNat 0 } : Pk) = overP p := rfl
    rw [e]
    simp only [List.length_append, List.length_replicate]
    omega

/-- Split reads them again. -/
theorem split_found (n : Int) (G : Lg) (hG : okG G) (hn : 0 ≤ n ∧ n ≤ 20) : ∀ (qs : List Pk) (la : List Int) (f : Nat), qs.length ≤ f → (∀ q ∈ qs, Good q) → (∀ (i : Nat) (q : Pk), qs[i]? = some q → q.space = 2 → i + 1 = qs.length ∧ (q.dst.length : Int) = n) →
    splF (la ++ qs.flatMap bytesP) n G f la.length = (qs.map (fun q => foundP q G), la.length + (qs.flatMap bytesP).length)
  | [], la, f, _, _, _ => by
    rw [splF_end]
    · simp
    · simp
  | q :: qs, la, f, hf, hg, h2 => by
    obtain ⟨f, rfl⟩ : ∃ f', f = f' + 1 := ⟨f - 1, by simp at hf; omega⟩
    have gq := hg q (by simp)
    have hp := Rw.bytesP_pos q gq
    have e := dec_enc la (qs.flatMap bytesP) q gq G hG n hn (fun c => by
      have := h2 0 q rfl c
      refine ⟨this.2, ?_⟩
      have hl : qs = [] := List.length_eq_zero_iff.1 (by have h1 := this.1; rw [List.length_cons] at h1; omega)
      rw [hl]; rfl)
    have el : la ++ (q :: qs).flatMap bytesP = la ++ bytesP q ++ qs.flatMap bytesP := by simp [List.append_assoc]
    have ih := split_found n G hG hn qs (la ++ bytesP q) f (by simp at hf; omega) (fun x hx => hg x (by simp [hx])) (fun i x hx c => by
      have := h2 (i + 1) x hx c
      have h1 := this.1
      rw [List.length_cons] at h1
      exact ⟨by omega, this.2⟩)
    rw [List.length_append] at ih
    rw [el, splF_step (by simp; omega) e, ih]
    simp only [List.map_cons, List.flatMap_cons, List.length_append, Prod.mk.injEq, true_and]
    omega
end Go.Proofs.Ytpcnpdippnljpaa

namespace Go.Proofs.Ytpcnpdippnljpaa
open Go.RowKit
set_option linter.unusedVariables false
set_option linter.unusedSimpArgs false
set_option maxRecDepth 100000
set_option maxHeartbeats 4000000

theorem okTo_next {G : Lg} {k : Nat} (hk : k < 3) (ho : okTo G k) {w : World} {g : Nat} {t : TypeId} (b : Blk w g #[.int .i64 G.1, .int .i64 G.2.1, .int .i64 G.2.2] t) :
    ∃ v, w.cell? ⟨g, k, none⟩ = some (.int .i64 v) ∧ Hid (okN v → okTo G (k + 1)) := by
  obtain rfl | rfl | rfl : k = 0 ∨ k = 1 ∨ k = 2 := by omega
  · exact ⟨_, b.cell 0 _ rfl, fun h => h⟩
  · exact ⟨_, b.cell 1 _ rfl, fun h => ⟨ho, h⟩⟩
  · exact ⟨_, b.cell 2 _ rfl, fun h => ⟨ho.1, ho.2, h⟩⟩
theorem flat_sum : ∀ (qs : List Pk), ((qs.flatMap encB).length : Int) = (qs.map lenE).sum
  | [] => rfl
  | q :: qs => by
    simp only [List.flatMap_cons, List.length_append, List.map_cons, List.sum_cons, Int.natCast_add]
    rw [flat_sum qs]
    rfl
theorem take_sum (S : List Int) (i : Nat) (x : Int) (h : S[i]? = some x) : (S.take (i + 1)).sum = (S.take i).sum + x := by
  obtain ⟨hl, rfl⟩ := List.getElem?_eq_some_iff.1 h
  rw [List.take_succ_eq_append_getElem hl, List.sum_append]
  simp
theorem sum_nn : ∀ (l : List Int), (∀ x ∈ l, 0 ≤ x) → 0 ≤ l.sum
  | [], _ => Int.le_refl 0
  | x :: l, h => by
    have h1 := h x (by simp)
    have h2 := sum_nn l (fun y hy => h y (by simp [hy]))
    simp only [List.sum_cons]
    omega
/-- What Build told, taken apart. -/
structure BF (room least : Int) (L : List Pk) (out sz : List Int) : Prop where
  rise : riseF L = true
  bd : 0 ≤ room ∧ room ≤ 65535 ∧ 0 ≤ least ∧ least ≤ room
  ol : (out.length : Int) ≤ room
  enc : ∀ q ∈ padL least L 0, encE q = 0
  oe : out = (padL least L 0).flatMap encB
  se : sz = (padL least L 0).map lenE
theorem BF.of {room least : Int} {L : List Pk} {out sz : List Int} (h : (out, sz, (0 : Int)) = bldF room least L) : BF room least L out sz := by
  unfold bldF at h
  split at h
  · injection h with h1 h2; injection h2 with h2 h3; cases h3
  · rename_i c
    split at h
    · rename_i c2
      split at h
      · injection h with h1 h2; injection h2 with h2 h3; cases h3
      · rename_i c3
        obtain ⟨k1, k2⟩ := bldG_ok L [] [] c2
        rw [← h] at c3 k2
        simp only [List.nil_append, List.length_nil, Prod.mk.injEq, and_true, Int.natCast_zero] at k1 k2
        refine ⟨?_, ⟨?_, ?_, ?_, ?_⟩, by simpa using c3, k1, k2.1, k2.2⟩
        · cases hr : riseF L
          · exact absurd (.inr (.inr (.inr (.inr hr)))) c
          · rfl
        · have : ¬ room < 0 := fun q => c (.inl q); omega
        · have : ¬ 65535 < room := fun q => c (.inr (.inl q)); omega
        · have : ¬ least < 0 := fun q => c (.inr (.inr (.inl q))); omega
        · have : ¬ room < least := fun q => c (.inr (.inr (.inr (.inl q)))); omega
    · rename_i c2
      injection h with h1 h2; injection h2 with h2 h3; exact absurd h3.symm c2
section
variable {room least : Int} {L : List Pk} {out sz : List Int}
theorem BF.sl (h : BF room least L out sz) : sz.length = L.length := by rw [h.se, List.length_map, padL_len]
/-- The i-th packet. -/
theorem BF.at_ (h : BF room least L out sz) {i : Nat} {p : Pk} (hp : L[i]? = some p) :
    ∃ q, (padL least L 0)[i]? = some q ∧ sz[i]? = some (lenE q) ∧ encE p = 0 ∧ q = (if i + 1 = L.length then padP p (least - (sz.take i).sum) else p) ∧ lenE q = (if i + 1 = L.length then max (lenE p) (least - (sz.take i).sum) else lenE p) := by
  have hg := padL_get (least := least) L 0 i p hp
  have es : 0 + (((padL least L 0).take i).map lenE).sum = (sz.take i).sum := by rw [h.se, List.map_take]; omega
  rw [es] at hg
  refine ⟨_, hg, by have e := congrArg (fun l : List Int => l[i]?) h.se; simp only [List.getElem?_map, hg] at e; exact e, ?_, rfl, ?_⟩
  · have := h.enc _ (List.mem_of_getElem? hg)
    split at this
    · exact (padP_enc this).1
    · exact this
  · have := h.enc _ (List.mem_of_getElem? hg)
    by_cases c : i + 1 = L.length
    · rw [if_pos c] at this ⊢
      rw [if_pos c]
      exact (padP_enc this).2
    · rw [if_neg c, if_neg c]
theorem BF.tot_ (h : BF room least L out sz) : (out.length : Int) = sz.sum := by rw [h.oe, flat_sum, h.se]
theorem BF.take_bd (h : BF room least L out sz) (i : Nat) : 0 ≤ (sz.take i).sum ∧ (sz.take i).sum ≤ 65535 := by
  have nn : ∀ x ∈ sz, 0 ≤ x := by
    rw [h.se]
    intro x hx
    obtain ⟨q, -, rfl⟩ := List.mem_map.1 hx
    unfold lenE; omega
  have h1 := sum_nn (sz.take i) (fun x hx => nn x (List.mem_of_mem_take hx))
  have h2 := sum_nn (sz.drop i) (fun x hx => nn x (List.mem_of_mem_drop hx))
  have h3 : sz.sum = (sz.take i).sum + (sz.drop i).sum := by rw [← List.sum_append, List.take_append_drop]
  have := h.ol; have := h.tot_; have := h.bd
  omega
theorem BF.low (h : BF room least L out sz) (hl : L ≠ []) : least ≤ (out.length : Int) := by
  obtain ⟨p, hp⟩ : ∃ p, L[L.length - 1]? = some p := ⟨_, List.getElem?_eq_getElem (by have := List.length_pos_iff.2 hl; omega)⟩
  obtain ⟨q, k1, k2, k3, k4, k5⟩ := h.at_ hp
  have hp0 := List.length_pos_iff.2 hl
  have c : L.length - 1 + 1 = L.length := by omega
  rw [if_pos c] at k5
  have e := take_sum sz _ _ k2
  rw [c, ← h.sl, List.take_length] at e
  rw [h.tot_, e, h.sl]
  omega
theorem padL_mem {least : Int} : ∀ (L : List Pk) (o : Int) (q : Pk), q ∈ padL least L o → ∃ p ∈ L, q.space = p.space ∧ q.dst = p.dst ∧ q.src = p.src ∧ ∃ z : Nat, q.payload = p.payload ++ List.replicate z 0
  | [], _, _, h => by cases h
  | p :: r, o, q, h => by
    rcases List.mem_cons.1 h with e | h
    · refine ⟨p, by simp, ?_⟩
      subst e
      split
      · unfold padP
        split
        · exact ⟨rfl, rfl, rfl, 0, by simp⟩
        · exact ⟨rfl, rfl, rfl, _, rfl⟩
      · exact ⟨rfl, rfl, rfl, 0, by simp⟩
    · obtain ⟨p', hp, k⟩ := padL_mem r _ q h
      exact ⟨p', by simp [hp], k⟩
theorem BF.bytes (h : BF room least L out sz) (hb : ∀ p ∈ L, (∀ x ∈ p.dst, IsB x) ∧ (∀ x ∈ p.src, IsB x) ∧ ∀ x ∈ p.payload, IsB x) : ∀ x ∈ out, IsB x := by
  rw [h.oe]
  intro x hx
  obtain ⟨q, hq, hx⟩ := List.mem_flatMap.1 hx
  obtain ⟨p, hp, -, e1, e2, z, e3⟩ := padL_mem L 0 q hq
  have hpb := hb p hp
  refine encB_byte q (by rw [e1]; exact hpb.1) (by rw [e2]; exact hpb.2.1) ?_ x hx
  rw [e3]
  intro y hy
  rcases List.mem_append.1 hy with hy | hy
  · exact hpb.2.2 y hy
  · rw [List.eq_of_mem_replicate hy]; simp [IsB]
theorem BF.split (h : BF room least L out sz) {G : Lg} (hG : okG G) {p : Pk} (hl : L[L.length - 1]? = some p) {n : Int} (hn : n = if p.space = 2 then (p.dst.length : Int) else 0) :
    splF out n G (out.length + 1) 0 = ((padL least L 0).map (fun q => foundP q G), out.length) := by
  have hpos : L.length - 1 < L.length := (List.getElem?_eq_some_iff.1 hl).1
  have good : ∀ q ∈ padL least L 0, Good q := fun q hq => enc_good (h.enc q hq)
  have eb : ∀ (qs : List Pk), (∀ q ∈ qs, encE q = 0) → qs.flatMap encB = qs.flatMap bytesP := by
    intro qs
    induction qs with
    | nil => intro _; rfl
    | cons q qs ih =>
      intro hq
      simp only [List.flatMap_cons]
      rw [ih (fun x hx => hq x (by simp [hx]))]
      congr 1
      unfold encB
      rw [if_pos (hq q (by simp))]
  have low : ∀ (qs : List Pk), (∀ q ∈ qs, Good q) → qs.length ≤ (qs.flatMap bytesP).length := by
    intro qs
    induction qs with
    | nil => intro _; simp
    | cons q qs ih =>
      intro hq
      have := Rw.bytesP_pos q (hq q (by simp))
      have := ih (fun x hx => hq x (by simp [hx]))
      simp only [List.flatMap_cons, List.length_append, List.length_cons]
      omega
  have fields : ∀ (i : Nat) (q : Pk), (padL least L 0)[i]? = some q → ∃ p', L[i]? = some p' ∧ q.space = p'.space ∧ q.dst = p'.dst := fun i q hq => by
    have hi := (List.getElem?_eq_some_iff.1 hq).1
    rw [padL_len] at hi
    obtain ⟨p', hp'⟩ : ∃ p', L[i]? = some p' := ⟨_, List.getElem?_eq_getElem hi⟩
    have e := padL_get (least := least) L 0 i p' hp'
    rw [hq] at e
    injection e with e
    refine ⟨p', hp', ?_⟩
    rw [e]
    split
    · exact ⟨(padP_fields _ _).1, (padP_fields _ _).2.1⟩
    · exact ⟨rfl, rfl⟩
  have gl : ∀ (i : Nat) (p' : Pk), L[i]? = some p' → p'.space = 0 ∨ p'.space = 1 ∨ p'.space = 2 := fun i p' hp' => by
    obtain ⟨q, k1, -, k3, -, -⟩ := h.at_ hp'
    exact (enc_good k3).sp
  have dl : p.dst.length ≤ 20 := by
    obtain ⟨q, -, -, k3, -, -⟩ := h.at_ hl
    exact (enc_good k3).d
  have key := split_found n G hG (by rw [hn]; split <;> omega) (padL least L 0) [] (out.length + 1) (by
    rw [h.oe, eb _ h.enc]
    have := low _ good
    omega) good (fun i q hq c => by
      obtain ⟨p', hp', e1, e2⟩ := fields i q hq
      have hi := (List.getElem?_eq_some_iff.1 hp').1
      rw [padL_len]
      by_cases ci : i + 1 = L.length
      · refine ⟨ci, ?_⟩
        have : i = L.length - 1 := by omega
        subst this
        rw [hl] at hp'
        injection hp' with hp'
        subst hp'
        rw [e1] at c
        rw [hn, if_pos c, e2]
      · obtain ⟨p2, hp2⟩ : ∃ p2, L[i + 1]? = some p2 := ⟨_, List.getElem?_eq_getElem (by omega)⟩
        have lt := (riseF_iff L).1 h.rise i p' p2 hp' hp2
        have := gl (i + 1) p2 hp2
        omega)
  rw [List.nil_append, ← eb _ h.enc, ← h.oe] at key
  simpa using key
end

theorem InB.cutA {w : World} {a : Option Addr} {N c : Nat} {l : List Int} (h : InB w (.slice a N c) l) (k : Nat) (hk : k ≤ l.length) : InB w (.slice a k c) (l.take k) := by
  obtain ⟨a', c', e, hr, h1, h2, h3⟩ := h
  simp only [Value.slice.injEq] at e
  obtain ⟨rfl, rfl, rfl⟩ := e
  have hl : (l.take k).length = k := by simp; omega
  refine ⟨_, _, by rw [hl], ⟨fun x hx => hr.1 x (List.mem_of_mem_take hx), fun hne => ?_⟩, by omega, h2, h3⟩
  obtain ⟨b, off, e, hc⟩ := hr.2 (fun e => by subst e; simp at hne)
  refine ⟨b, off, e, fun i hi => ?_⟩
  rw [hl] at hi
  rw [hc i (by omega)]
  simp [List.getD, hi]

theorem back_walk (room least : Int) (a : Option Addr) (len cap : Nat) (xs : List PV) (G : Lg) (w : World) (hx : IsPks w a len cap xs) (ht : tot xs ≤ 70000000) :
    Calls Try.prog 5 #[.int .i64 room, .int .i64 least, .slice a len cap, G.v] w fun e w' => e = .returned (.bool true) ∧ w.grownBy w' none := by
  have b0 := Blk.new w #[.int .i64 G.1, .int .i64 G.2.1, .int .i64 G.2.2] 49
  have g0 := World.grownBy_alloc w (.cells #[.int .i64 G.1, .int .i64 G.2.1, .int .i64 G.2.2] 49) none
  have hcap := hx.hcap
  have lsm := len_small ht
  have hlen := hx.hlen
  have HX := hide hx
  have HT := hide ht
  clear hx ht
  have lI : ¬ (9223372036854775807 : Int) < (len : Int) := by omega
  go_enter Try.func5, Try.ntmps5
  go_wp2_with fail
  refine (awake_any _).mono ?_
  rintro e W1 ⟨rfl, g1⟩
  have gA := g0.trans g1
  have bG1 := b0.grown g1
  have sz1 : w.heap.size < W1.heap.size := bG1.lt
  obtain ⟨gG, hgG⟩ : ∃ gG, gG = w.heap.size := ⟨_, rfl⟩
  rw [← hgG] at bG1 ⊢
  have hx1 := (unhide HX).grown gA
  have bd := build_any room least a len cap xs W1 hx1 (unhide HT)
  obtain ⟨L, hL⟩ : ∃ L, L = xs.map PV.p := ⟨_, rfl⟩
  rw [← hL] at bd
  obtain ⟨T, hT⟩ : ∃ T, T = bldF room least L := ⟨_, rfl⟩
  rw [← hT] at bd
  have GA := hide (And.intro gA (And.intro bG1 (And.intro sz1 hgG)))
  have HL := hide (And.intro hL (And.intro hT hlen))
  clear b0 g0 g1 gA bG1 sz1 hgG hL hT hx1
  go_wp2_with fail
  refine bd.mono ?_
  rintro e W2 ⟨bv, sv, rfl, ob, os, g2⟩
  obtain ⟨ba, bc, rfl⟩ := ob.shape
  obtain ⟨sa, sc, rfl⟩ := os.shape
  obtain ⟨out, sz, E⟩ := T
  simp only at ob os ⊢
  have DONE : Hid (∀ W, W2.grownBy W none → w.grownBy W none) := fun W g => ((unhide GA).1.trans g2).trans g
  have OB := hide (And.intro ob (And.intro os g2))
  clear bd ob os g2
  by_cases hE : E = 0
  · subst hE
    by_cases hz : len = 0
    · subst hz
      have L0 : L = [] := by
        have h1 := (unhide HL).1
        have h2 : xs = [] := List.length_eq_zero_iff.1 hlen
        rw [h2] at h1; exact h1
      have B := BF.of (unhide HL).2.1
      have oe : out = [] ∧ sz = [] := by
        have h1 := B.oe; have h2 := B.se
        rw [L0] at h1 h2
        exact ⟨h1, h2⟩
      obtain ⟨rfl, rfl⟩ := oe
      clear B
      simp only [List.length_nil]
      go_wp2_with fail
      go_ret
      exact ⟨rfl, unhide DONE _ (World.grownBy.refl _ none)⟩
    have hnz : ((len : Int) == 0) = false := by simpa using hz
    have lz : ¬ (len : Int) = 0 := by omega
    have BB := hide (BF.of (unhide HL).2.1)
    go_wp2_with fail
    go_loopw [13] (fun i wr => ∃ k : Nat, k ≤ 3 ∧ i = .int .i64 k ∧ Hid (okTo G k ∧ W2.grownBy wr none)) (fun i _ => 3 - (intOf i).toNat)
    case atStart => exact ⟨0, by omega, rfl, trivial, World.grownBy.refl _ none⟩
    case round =>
      obtain ⟨k, hk, rfl, I⟩ := hrel
      have bG := ((unhide GA).2.1.grown (unhide OB).2.2).grown (unhide I).2
      by_cases hk3 : k = 3
      · have k3 : ¬ (k : Int) < 3 := by omega
        have hG : okG G := by have := (unhide I).1; rw [hk3] at this; exact this
        have HG := hide hG
        have gr := ((unhide GA).1.trans (unhide OB).2.2).trans (unhide I).2
        have GR := hide gr
        obtain ⟨bo, off, rfl, hcell⟩ := (unhide HX).cell.resolve_left (by omega)
        obtain ⟨x, hxm⟩ : ∃ x, xs[(len - 1)]? = some x := ⟨xs[(len - 1)]'(by omega), by simp⟩
        have d0 : wr.cell? ⟨bo, off + (len - 1) * 6, none⟩ = some (.int .i64 x.p.space) := cell_grown (hcell _ x hxm 0 (by omega)) gr
        obtain ⟨ud, vd, hd⟩ : ∃ u c, x.d = .slice u x.p.dst.length c := shapeI ((unhide HX).in_ x (List.mem_of_getElem? hxm)).1
        have d1 : wr.cell? ⟨bo, off + (len - 1) * 6 + 1, none⟩ = some (.slice ud x.p.dst.length vd) := by rw [← hd]; exact cell_grown (hcell _ x hxm 1 (by omega)) gr
        have hi0 : (0 : Int) ≤ (len : Int) - 1 := by omega
        have hi1 : (len : Int) - 1 < (len : Int) := by omega
        have n0 := bG.cell 0 (.int .i64 G.1) rfl
        have n1 := bG.cell 1 (.int .i64 G.2.1) rfl
        have n2 := bG.cell 2 (.int .i64 G.2.2) rfl
        have hLl : L.length = len := by rw [(unhide HL).1, List.length_map]; exact hlen
        have hLx : L[L.length - 1]? = some x.p := by rw [hLl, (unhide HL).1, List.getElem?_map, hxm]; rfl
        obtain ⟨N, hN⟩ : ∃ N : Int, N = if x.p.space = 2 then (x.p.dst.length : Int) else 0 := ⟨_, rfl⟩
        have spl := (unhide BB).split (unhide HG) hLx hN
        have iob : InB wr (.slice ba out.length bc) out := ((unhide OB).1.inB ((unhide BB).bytes (fun p hp => by
          rw [(unhide HL).1] at hp
          obtain ⟨y, hy, rfl⟩ := List.mem_map.1 hp
          have := (unhide HX).in_ y hy
          exact ⟨this.1.bytes, this.2.1.bytes, this.2.2.bytes⟩))).grown (unhide I).2
        have sp := split_any _ out N G wr iob (by have := (unhide BB).ol; have := (unhide BB).bd; omega)
        rw [spl] at sp
        have HN := hide hN
        have HLL := hide hLl
        clear hG hk3 hcell gr spl iob bG hLx hd hLl
        by_cases h2 : x.p.space = 2
        · have t2 : (x.p.space == 2) = true := by simpa using h2
          have eN : N = (x.p.dst.length : Int) := by rw [unhide HN, if_pos h2]
          rw [eN] at sp
          go_wp2_with fail
          refine sp.mono ?_
          rintro e W4 ⟨ga, gm, gc, ps, rfl, hpm, hml, row, -, hps, gd1, g4⟩
          have hgm : gm = len := by
            have := congrArg List.length hps
            simp only [List.length_map] at this
            rw [padL_len, unhide HLL] at this
            omega
          subst hgm
          have hsl : sz.length = gm := by rw [(unhide BB).sl]; exact unhide HLL
          rw [hsl]
          have r1 : ¬ room < (out.length : Int) := by have := (unhide BB).ol; omega
          have r2 : ¬ (out.length : Int) < least := by
            have := (unhide BB).low (fun e => by have := unhide HLL; rw [e] at this; exact hz this.symm)
            omega
          have PR := hide (And.intro hpm (And.intro row (And.intro hps gd1)))
          have GI := hide ((unhide I).2.trans g4)
          have D2 : Hid (∀ W, W4.grownBy W none → w.grownBy W none) := fun W g => unhide DONE _ ((unhide GI).trans g)
          clear sp hpm hml row hps gd1 g4 I n0 n1 n2 d0 d1 hsl
          go_wp2_with fail
          go_loopw [17, 18] (fun sv iv wr => ∃ i : Nat, i ≤ gm ∧ iv = .int .i64 i ∧ sv = .int .i64 (sz.take i).sum ∧ Hid (W4.grownBy wr none)) (fun _ iv _ => gm - (intOf iv).toNat)
          case atStart => exact ⟨0, Nat.zero_le _, rfl, rfl, World.grownBy.refl _ none⟩
          case round =>
            obtain ⟨i, hi, rfl, rfl, I2⟩ := hrel
            obtain ⟨wo, hwo⟩ : ∃ wo, wo = wr := ⟨_, rfl⟩
            subst hwo
            have bds := (unhide BB).take_bd i
            obtain ⟨S, hS⟩ : ∃ S, S = (sz.take i).sum := ⟨_, rfl⟩
            rw [← hS] at bds ⊢
            by_cases hlt : i < gm
            · have hiI : (i : Int) < (gm : Int) := by omega
              have hi0 : (0 : Int) ≤ (i : Int) := by omega
              obtain ⟨x2, hx2⟩ : ∃ x2, xs[i]? = some x2 := ⟨xs[i]'(by have := (unhide HX).hlen; omega), by simp⟩
              obtain ⟨y2, hy2⟩ : ∃ y2, ps[i]? = some y2 := ⟨ps[i]'(by have := (unhide PR).1; omega), by simp⟩
              have hLi : L[i]? = some x2.p := by rw [(unhide HL).1, List.getElem?_map, hx2]; rfl
              obtain ⟨q, k1, k2, k3, k4, k5⟩ := (unhide BB).at_ hLi
              have hyp : y2.p = foundP q G := by
                have e := congrArg (fun l : List Pk => l[i]?) (unhide PR).2.2.1
                simp only [List.getElem?_map, hy2, k1] at e
                exact Option.some.inj e
              have bds1 := (unhide BB).take_bd (i + 1)
              rw [take_sum sz i _ k2, ← hS] at bds1
              have S1 : Hid ((sz.take (i + 1)).sum = S + lenE q) := by show (sz.take (i + 1)).sum = S + lenE q; rw [take_sum sz i _ k2, ← hS]
              have gW := ((unhide GR).trans ((World.grownBy.refl _ none))).trans (World.grownBy.refl _ none)
              have gwr := (((unhide GA).1.trans (unhide OB).2.2).trans (unhide GI)).trans (unhide I2)
              have hm := List.mem_of_getElem? hx2
              have ix := (unhide HX).in_ x2 hm
              have ln := (unhide HX).ln x2 hm
              obtain ⟨b2, off2, eb2, hcell⟩ := (unhide HX).cell.resolve_left (by omega)
              injection eb2 with eb2
              injection eb2 with eb2 eo2
              subst eb2 eo2
              have yin := (unhide PR).2.1.own y2 (List.mem_of_getElem? hy2)
              have yg := (unhide PR).2.2.2 y2 (List.mem_of_getElem? hy2)
              obtain ⟨gl, rfl, -⟩ := (unhide PR).2.1.some_ (unhide PR).1 (by omega)
              have ycell : ∀ j, j < 6 → wo.cell? ⟨gl, i * 6 + j, none⟩ = y2.cl[j]? := fun j hj => by
                obtain ⟨v, hv⟩ : ∃ v, y2.cl[j]? = some v := ⟨y2.cl[j]'(by simp [PV.cl]; omega), by simp⟩
                rw [hv]
                exact cell_grown (((unhide PR).2.1.cell i y2 hy2 j hj).trans hv) (unhide I2)
              obtain ⟨gs, rfl, hcs⟩ := (unhide OB).2.1.cell i _ k2
              have hcs := cell_grown hcs ((unhide GI).trans (unhide I2))
              obtain ⟨p, d, s, y⟩ := x2
              obtain ⟨p2, d2, s2, v2⟩ := y2
              simp only at hyp k3 k4 k5 ix ln
              obtain ⟨u1, v1, rfl⟩ : ∃ u c, d = .slice u p.dst.length c := shapeI ix.1
              obtain ⟨u2, v2', rfl⟩ : ∃ u c, s = .slice u p.src.length c := shapeI ix.2.1
              obtain ⟨u3, v3, rfl⟩ : ∃ u c, y = .slice u p.payload.length c := shapeI ix.2.2
              have c0 : wo.cell? ⟨bo, off + i * 6, none⟩ = some (.int .i64 p.space) := cell_grown (hcell i _ hx2 0 (by omega)) gwr
              have c1 : wo.cell? ⟨bo, off + i * 6 + 1, none⟩ = some (.slice u1 p.dst.length v1) := cell_grown (hcell i _ hx2 1 (by omega)) gwr
              have c2 : wo.cell? ⟨bo, off + i * 6 + 2, none⟩ = some (.slice u2 p.src.length v2') := cell_grown (hcell i _ hx2 2 (by omega)) gwr
              have c3 : wo.cell? ⟨bo, off + i * 6 + 3, none⟩ = some (.int .i64 p.number) := cell_grown (hcell i _ hx2 3 (by omega)) gwr
              have c4 : wo.cell? ⟨bo, off + i * 6 + 4, none⟩ = some (.int .i64 p.width) := cell_grown (hcell i _ hx2 4 (by omega)) gwr
              have c5 : wo.cell? ⟨bo, off + i * 6 + 5, none⟩ = some (.slice u3 p.payload.length v3) := cell_grown (hcell i _ hx2 5 (by omega)) gwr
              have c5o := c5
              have en := enc_own p (.slice u1 p.dst.length v1) (.slice u2 p.src.length v2') (.slice u3 p.payload.length v3) wo (ix.1.grown gwr) (ix.2.1.grown gwr) (ix.2.2.grown gwr) (by omega) (by omega) (by omega)
              rw [k3] at en
              obtain ⟨PB, hPB⟩ : ∃ PB, PB = encB p := ⟨_, rfl⟩
              have hlp : lenE p = (PB.length : Int) := by rw [hPB]; rfl
              rw [← hPB] at en
              obtain ⟨z, hqp, hz0⟩ : ∃ z : Nat, q.payload = p.payload ++ List.replicate z 0 ∧ (i + 1 ≠ L.length → z = 0) := by
                rw [k4]
                split
                · rename_i c
                  unfold padP
                  split
                  · exact ⟨0, by simp, fun _ => rfl⟩
                  · exact ⟨_, rfl, fun c2 => absurd c c2⟩
                · exact ⟨0, by simp, fun _ => rfl⟩
              have hqf : q.space = p.space ∧ q.dst = p.dst ∧ q.src = p.src ∧ q.width = p.width := by
                rw [k4]
                split
                · exact ⟨(padP_fields _ _).1, (padP_fields _ _).2.1, (padP_fields _ _).2.2.1, (padP_fields _ _).2.2.2.2⟩
                · exact ⟨rfl, rfl, rfl, rfl⟩
              have f1 : p2.dst = p.dst := by rw [hyp]; exact hqf.2.1
              have f2 : p2.src = p.src := by rw [hyp]; exact hqf.2.2.1
              have f3 : p2.payload = p.payload ++ List.replicate z 0 := by rw [hyp]; exact hqp
              have f4 : p2.space = p.space := by rw [hyp]; exact hqf.1
              have f5 : p2.width = p.width := by rw [hyp]; exact hqf.2.2.2
              have id2 : InB wo d2 p.dst := by rw [← f1]; exact (yin.d.inB yg.bd).grown (unhide I2)
              have is2 : InB wo s2 p.src := by rw [← f2]; exact (yin.s.inB yg.bs).grown (unhide I2)
              have iv2 : InB wo v2 (p.payload ++ List.replicate z 0) := by rw [← f3]; exact (yin.y.inB yg.by_).grown (unhide I2)
              have t0 : wo.cell? ⟨gl, i * 6, none⟩ = some (.int .i64 p.space) := by rw [← f4]; exact ycell 0 (by omega)
              have t1 : wo.cell? ⟨gl, i * 6 + 1, none⟩ = some d2 := ycell 1 (by omega)
              have t2' : wo.cell? ⟨gl, i * 6 + 2, none⟩ = some s2 := ycell 2 (by omega)
              have t3 : wo.cell? ⟨gl, i * 6 + 3, none⟩ = some (.int .i64 p2.number) := ycell 3 (by omega)
              have t4 : wo.cell? ⟨gl, i * 6 + 4, none⟩ = some (.int .i64 p.width) := by rw [← f5]; exact ycell 4 (by omega)
              have t5 : wo.cell? ⟨gl, i * 6 + 5, none⟩ = some v2 := ycell 5 (by omega)
              obtain ⟨w1, z1, rfl⟩ : ∃ u c, d2 = .slice u p.dst.length c := shapeI id2
              obtain ⟨w2, z2, rfl⟩ : ∃ u c, s2 = .slice u p.src.length c := shapeI is2
              obtain ⟨w3, z3, rfl⟩ : ∃ u c, v2 = .slice u (p.payload ++ List.replicate z 0).length c := shapeI iv2
              have CASE : (¬ i + 1 = gm ∧ lenE q = (PB.length : Int)) ∨ (i + 1 = gm ∧ S + (PB.length : Int) < least ∧ lenE q = least - S) ∨ (i + 1 = gm ∧ ¬ S + (PB.length : Int) < least ∧ lenE q = (PB.length : Int)) := by
                rw [unhide HLL, hlp, ← hS] at k5
                by_cases c : i + 1 = gm
                · rw [if_pos c] at k5
                  by_cases c2 : S + (PB.length : Int) < least
                  · exact .inr (.inl ⟨c, c2, by omega⟩)
                  · exact .inr (.inr ⟨c, c2, by omega⟩)
                · rw [if_neg c] at k5
                  exact .inl ⟨c, k5⟩
              have hz0' : ¬ i + 1 = gm → z = 0 := fun c => hz0 (by rw [unhide HLL]; exact c)
              have SM := hide (fun W (g : wo.grownBy W none) (c : Nat) (a : Option Addr) (h : InB W (.slice a p.payload.length c) p.payload) => same05 p (.slice w1 p.dst.length z1) (.slice w2 p.src.length z2) (.slice a p.payload.length c) (.slice u1 p.dst.length v1) (.slice u2 p.src.length v2') (.slice u3 p.payload.length v3) W (id2.grown g) (is2.grown g) h ((ix.1.grown gwr).grown g) ((ix.2.1.grown gwr).grown g) ((ix.2.2.grown gwr).grown g))
              have IV := hide iv2
              have D3 : Hid (∀ W, wo.grownBy W none → w.grownBy W none) := fun W g => unhide D2 _ ((unhide I2).trans g)
              have NXT := hide (unhide I2)
              have HPP := hide (And.intro hyp (And.intro hS (And.intro hPB hlp)))
              have ml : (p.payload ++ List.replicate z 0).length = p.payload.length + z := by simp
              rw [ml] at t5
              clear hyp hS hPB hlp k4 k5 k1 k2 f1 f2 f3 f4 f5 hqp hqf hz0 id2 is2 iv2 ycell yin yg ix hcell hm hx2 hy2 hLi gwr gW k3
              go_wp2_with fail
              refine en.mono ?_
              rintro e W5 ⟨pa, pc, rfl, -, g5⟩
              have hcs := cell_grown hcs g5
              have t0 := cell_grown t0 g5
              have t1 := cell_grown t1 g5
              have t2' := cell_grown t2' g5
              have t3 := cell_grown t3 g5
              have t4 := cell_grown t4 g5
              have t5 := cell_grown t5 g5
              have c5 := cell_grown c5 g5
              have G5 := hide g5
              clear en g5
              obtain ⟨sq, hsq⟩ : ∃ sq, sq = lenE q := ⟨_, rfl⟩
              rw [← hsq] at CASE hcs bds1 S1
              clear hsq
              rcases CASE with ⟨h1, h2⟩ | ⟨h1, h1', h2⟩ | ⟨h1, h1', h2⟩
              all_goals subst h2
              · have b1 : ((i : Int) == (gm : Int) - 1) = false := by simp; omega
                go_upto_region 31 with fail
                clear b1
                obtain ⟨MM, hMM⟩ : ∃ MM, MM = p.payload.length + z := ⟨_, rfl⟩
                rw [← hMM] at t5
                obtain ⟨W6, hW6⟩ : ∃ W6, W6 = W5.alloc (.cells #[.int .i64 p.space, .slice w1 p.dst.length z1, .slice w2 p.src.length z2, .int .i64 p2.number, .int .i64 p.width, .slice w3 MM z3] 29) := ⟨_, rfl⟩
                have g6 : W5.grownBy W6 none := by rw [hW6]; exact World.grownBy_alloc _ _ none
                have b6 := Blk.new W5 #[.int .i64 p.space, .slice w1 p.dst.length z1, .slice w2 p.src.length z2, .int .i64 p2.number, .int .i64 p.width, .slice w3 MM z3] 29
                rw [← hW6] at b6
                obtain ⟨B, hB⟩ : ∃ B, B = W5.heap.size := ⟨_, rfl⟩
                rw [← hB] at b6
                have c56 := cell_grown c5 g6
                have e5 := b6.cell 5 (.slice w3 MM z3) rfl
                have B6 := hide b6
                have G6 := hide g6
                have nm1 : ¬ (MM : Int) < (p.payload.length : Int) := by omega
                have mmb : (MM : Int) ≤ 9223372036854775807 := by
                  obtain ⟨a', c', ev, hrd, q1, q2, -⟩ := unhide IV
                  unfold maxLen at q2
                  rw [List.length_append, List.length_replicate] at q1
                  omega
                have HMM := hide hMM
                have hmle : p.payload.length ≤ MM := by omega
                have HZ := hide hz0'
                have H1 := hide h1
                clear b6 g6 hMM hz0' h1
                go_upto_region 32 with fail
                rw [← hW6, ← hB]
                replace hW6 := hide hW6
                replace hB := hide hB
                clear t0 t1 t2' t3 t4 t5
                go_wp2_with fail
                go_loopw [24] (fun kv wr => ∃ j : Nat, p.payload.length ≤ j ∧ j ≤ MM ∧ kv = .int .i64 j ∧ Hid (W6.grownBy wr none)) (fun kv _ => MM - (intOf kv).toNat)
                case atStart => exact ⟨p.payload.length, Nat.le_refl _, hmle, rfl, World.grownBy.refl _ none⟩
                case round =>
                  obtain ⟨j, hj1, hj2, rfl, I3⟩ := hrel
                  have b7 := (unhide B6).grown (unhide I3)
                  have e5 := b7.cell 5 (.slice w3 MM z3) rfl
                  by_cases hjl : j < MM
                  · have hjI : (j : Int) < (MM : Int) := by omega
                    have hj0 : (0 : Int) ≤ (j : Int) := by omega
                    have hlast : i + 1 = gm := by
                      by_cases c : i + 1 = gm
                      · exact c
                      · have := unhide HZ c; have := unhide HMM; omega
                    have hli : ¬ (i : Int) < (gm : Int) - 1 := by omega
                    obtain ⟨yb, yo, rfl, hby⟩ : ∃ yb yo, w3 = some ⟨yb, yo, none⟩ ∧ wr.cell? ⟨yb, yo + j, none⟩ = some (.int .u8 0) := by
                      obtain ⟨a', c', ev, hrd, -⟩ := unhide IV
                      injection ev with ev1 ev2 ev3
                      obtain ⟨yb, yo, ea, hc⟩ := hrd.2 (fun e => by have e2 := congrArg List.length e; have := unhide HMM; rw [List.length_append, List.length_replicate, List.length_nil] at e2; omega)
                      refine ⟨yb, yo, ev1.trans ea, ?_⟩
                      have := cell_grown (cell_grown (cell_grown (hc j (by have := unhide HMM; simp; omega)) (unhide G5)) (unhide G6)) (unhide I3)
                      rw [this]
                      rw [List.getD_eq_getElem?_getD, List.getElem?_append_right hj1, List.getElem?_replicate]
                      split <;> rfl
                    have s1 : p.payload.length ≤ j + 1 := by omega
                    have ms : MM - (j + 1) < MM - j := by omega
                    have S12 := hide (And.intro s1 (And.intro hjl ms))
                    have GJ := hide (grown_drew' (unhide I3))
                    have GI3 := hide (unhide I3)
                    clear b7 I3 hlast
                    go_upto_region 38 with fail
                    first | go_region | skip
                    all_goals go_wp2_with fail
                    all_goals exact ⟨⟨j + 1, (unhide S12).1, (unhide S12).2.1, by go_num, by first | exact unhide GI3 | exact unhide GJ⟩, by have := (unhide S12).2.2; simpa [intOf] using this⟩
                  · obtain rfl : j = MM := by omega
                    have hjI : ¬ (j : Int) < (j : Int) := by omega
                    have tB := b7.thaws
                    have B7 := hide b7
                    have GI3 := hide (unhide I3)
                    have capy : z3 ≤ 9223372036854775807 ∧ j ≤ z3 := by
                      obtain ⟨a', c', ev, hrd, q1, q2, -⟩ := unhide IV
                      injection ev with ev1 ev2 ev3
                      have := unhide HMM
                      unfold maxLen at q2
                      rw [List.length_append, List.length_replicate] at q1
                      omega
                    have gch := ((unhide G5).trans (unhide G6)).trans (unhide I3)
                    have hBo : wo.heap.size ≤ B := by rw [unhide hB]; exact (unhide G5).size
                    have ga : wo.grownBy (wr.setCell ⟨B, 5, none⟩ (.slice w3 p.payload.length z3)) none := grown_own gch (grown_at (World.grownBy.refl wr (some B)) 5 _) (fun g e => by cases e; exact hBo)
                    have gb : wo.grownBy ((wr.setCell ⟨B, 5, none⟩ (.slice w3 p.payload.length z3)).setCell ⟨B, 3, none⟩ (.int .i64 p.number)) none := grown_own gch (grown_at (grown_at (World.grownBy.refl wr (some B)) 5 _) 3 _) (fun g e => by cases e; exact hBo)
                    obtain ⟨Wa, hWa⟩ : ∃ Wa, Wa = wr.setCell ⟨B, 5, none⟩ (.slice w3 p.payload.length z3) := ⟨_, rfl⟩
                    rw [← hWa] at ga gb
                    obtain ⟨Wb, hWb⟩ : ∃ Wb, Wb = Wa.setCell ⟨B, 3, none⟩ (.int .i64 p.number) := ⟨_, rfl⟩
                    rw [← hWb] at gb
                    have bWa : Blk Wa B #[.int .i64 p.space, .slice w1 p.dst.length z1, .slice w2 p.src.length z2, .int .i64 p2.number, .int .i64 p.width, .slice w3 p.payload.length z3] 29 := by rw [hWa]; exact b7.setC 5 _
                    have bWb : Blk Wb B #[.int .i64 p.space, .slice w1 p.dst.length z1, .slice w2 p.src.length z2, .int .i64 p.number, .int .i64 p.width, .slice w3 p.payload.length z3] 29 := by rw [hWb]; exact bWa.setC 3 _
                    have ca := cell_grown c3 ga
                    have e3 := bWa.cell 3 (.int .i64 p2.number) rfl
                    have tB2 := bWa.thaws
                    have q0 := bWb.cell 0 (.int .i64 p.space) rfl
                    have q1 := bWb.cell 1 (.slice w1 p.dst.length z1) rfl
                    have q2 := bWb.cell 2 (.slice w2 p.src.length z2) rfl
                    have q3 := bWb.cell 3 (.int .i64 p.number) rfl
                    have q4 := bWb.cell 4 (.int .i64 p.width) rfl
                    have q5 := bWb.cell 5 (.slice w3 p.payload.length z3) rfl
                    have c0 := cell_grown c0 gb
                    have c1 := cell_grown c1 gb
                    have c2 := cell_grown c2 gb
                    have c3 := cell_grown c3 gb
                    have c4 := cell_grown c4 gb
                    have c5 := cell_grown (cell_grown c5o (World.grownBy.refl _ none)) gb
                    have iy : InB Wb (.slice w3 p.payload.length z3) p.payload := by
                      have := (unhide IV).cutA p.payload.length (by simp)
                      rw [List.take_left] at this
                      exact this.grown gb
                    have SAME := hide (fun W (g : Wb.grownBy W none) => unhide SM W (gb.trans g) z3 w3 (iy.grown g))
                    have GB := hide gb
                    clear b7 I3 gch ga gb bWa bWb iy
                    go_upto_region 41 with fail
                    rw [← hWa]
                    replace hWa := hide hWa
                    go_upto_region 42 with fail
                    rw [← hWb]
                    replace hWb := hide hWb
                    clear ca e3 tB2 tB e5
                    go_region_held3 (fun W => W.cell? ⟨B, 0, none⟩ = some (.int .i64 p.space) ∧ W.cell? ⟨B, 1, none⟩ = some (.slice w1 p.dst.length z1) ∧ W.cell? ⟨B, 2, none⟩ = some (.slice w2 p.src.length z2) ∧ W.cell? ⟨B, 3, none⟩ = some (.int .i64 p.number) ∧ W.cell? ⟨B, 4, none⟩ = some (.int .i64 p.width) ∧ W.cell? ⟨B, 5, none⟩ = some (.slice w3 p.payload.length z3) ∧ W.cell? ⟨bo, off + i * 6, none⟩ = some (.int .i64 p.space) ∧ W.cell? ⟨bo, off + i * 6 + 1, none⟩ = some (.slice u1 p.dst.length v1) ∧ W.cell? ⟨bo, off + i * 6 + 2, none⟩ = some (.slice u2 p.src.length v2') ∧ W.cell? ⟨bo, off + i * 6 + 3, none⟩ = some (.int .i64 p.number) ∧ W.cell? ⟨bo, off + i * 6 + 4, none⟩ = some (.int .i64 p.width) ∧ W.cell? ⟨bo, off + i * 6 + 5, none⟩ = some (.slice u3 p.payload.length v3)) (go_keep) (first | (go_at_call 15; refine (unhide SAME _ (grown_drewN (World.grownBy.refl _ none))).mono ?_; rintro e W8 ⟨rfl, g8⟩; have g9 := (grown_drewN (World.grownBy.refl Wb none)).trans g8; have q0' := cell_grown q0 g9; have q1' := cell_grown q1 g9; have q2' := cell_grown q2 g9; have q3' := cell_grown q3 g9; have q4' := cell_grown q4 g9; have q5' := cell_grown q5 g9; have c0' := cell_grown c0 g9; have c1' := cell_grown c1 g9; have c2' := cell_grown c2 g9; have c3' := cell_grown c3 g9; have c4' := cell_grown c4 g9; have c5' := cell_grown c5 g9))
                    have NX := hide ((unhide I2).trans ((unhide GB).trans g9))
                    clear g8 g9 q0 q1 q2 q3 q4 q5 c0 c1 c2 c3 c4 c5 q0' q1' q2' q3' q4' q5' c0' c1' c2' c3' c4' c5'
                    go_wp2_with fail
                    exact ⟨⟨i + 1, hlt, by go_num, by rw [unhide S1], unhide NX⟩, by simp [intOf]; omega⟩
              · have b1 : ((i : Int) == (gm : Int) - 1) = true := by simp; omega
                go_upto_region 31 with fail
                clear b1
                obtain ⟨MM, hMM⟩ : ∃ MM, MM = p.payload.length + z := ⟨_, rfl⟩
                rw [← hMM] at t5
                obtain ⟨W6, hW6⟩ : ∃ W6, W6 = W5.alloc (.cells #[.int .i64 p.space, .slice w1 p.dst.length z1, .slice w2 p.src.length z2, .int .i64 p2.number, .int .i64 p.width, .slice w3 MM z3] 29) := ⟨_, rfl⟩
                have g6 : W5.grownBy W6 none := by rw [hW6]; exact World.grownBy_alloc _ _ none
                have b6 := Blk.new W5 #[.int .i64 p.space, .slice w1 p.dst.length z1, .slice w2 p.src.length z2, .int .i64 p2.number, .int .i64 p.width, .slice w3 MM z3] 29
                rw [← hW6] at b6
                obtain ⟨B, hB⟩ : ∃ B, B = W5.heap.size := ⟨_, rfl⟩
                rw [← hB] at b6
                have c56 := cell_grown c5 g6
                have e5 := b6.cell 5 (.slice w3 MM z3) rfl
                have B6 := hide b6
                have G6 := hide g6
                have nm1 : ¬ (MM : Int) < (p.payload.length : Int) := by omega
                have mmb : (MM : Int) ≤ 9223372036854775807 := by
                  obtain ⟨a', c', ev, hrd, q1, q2, -⟩ := unhide IV
                  unfold maxLen at q2
                  rw [List.length_append, List.length_replicate] at q1
                  omega
                have HMM := hide hMM
                have hmle : p.payload.length ≤ MM := by omega
                have HZ := hide hz0'
                have H1 := hide h1
                clear b6 g6 hMM hz0' h1
                go_upto_region 32 with fail
                rw [← hW6, ← hB]
                replace hW6 := hide hW6
                replace hB := hide hB
                clear t0 t1 t2' t3 t4 t5
                go_wp2_with fail
                go_loopw [24] (fun kv wr => ∃ j : Nat, p.payload.length ≤ j ∧ j ≤ MM ∧ kv = .int .i64 j ∧ Hid (W6.grownBy wr none)) (fun kv _ => MM - (intOf kv).toNat)
                case atStart => exact ⟨p.payload.length, Nat.le_refl _, hmle, rfl, World.grownBy.refl _ none⟩
                case round =>
                  obtain ⟨j, hj1, hj2, rfl, I3⟩ := hrel
                  have b7 := (unhide B6).grown (unhide I3)
                  have e5 := b7.cell 5 (.slice w3 MM z3) rfl
                  by_cases hjl : j < MM
                  · have hjI : (j : Int) < (MM : Int) := by omega
                    have hj0 : (0 : Int) ≤ (j : Int) := by omega
                    have hlast : i + 1 = gm := by
                      by_cases c : i + 1 = gm
                      · exact c
                      · have := unhide HZ c; have := unhide HMM; omega
                    have hli : ¬ (i : Int) < (gm : Int) - 1 := by omega
                    obtain ⟨yb, yo, rfl, hby⟩ : ∃ yb yo, w3 = some ⟨yb, yo, none⟩ ∧ wr.cell? ⟨yb, yo + j, none⟩ = some (.int .u8 0) := by
                      obtain ⟨a', c', ev, hrd, -⟩ := unhide IV
                      injection ev with ev1 ev2 ev3
                      obtain ⟨yb, yo, ea, hc⟩ := hrd.2 (fun e => by have e2 := congrArg List.length e; have := unhide HMM; rw [List.length_append, List.length_replicate, List.length_nil] at e2; omega)
                      refine ⟨yb, yo, ev1.trans ea, ?_⟩
                      have := cell_grown (cell_grown (cell_grown (hc j (by have := unhide HMM; simp; omega)) (unhide G5)) (unhide G6)) (unhide I3)
                      rw [this]
                      rw [List.getD_eq_getElem?_getD, List.getElem?_append_right hj1, List.getElem?_replicate]
                      split <;> rfl
                    have s1 : p.payload.length ≤ j + 1 := by omega
                    have ms : MM - (j + 1) < MM - j := by omega
                    have S12 := hide (And.intro s1 (And.intro hjl ms))
                    have GJ := hide (grown_drew' (unhide I3))
                    have GI3 := hide (unhide I3)
                    clear b7 I3 hlast
                    go_upto_region 38 with fail
                    first | go_region | skip
                    all_goals go_wp2_with fail
                    all_goals exact ⟨⟨j + 1, (unhide S12).1, (unhide S12).2.1, by go_num, by first | exact unhide GI3 | exact unhide GJ⟩, by have := (unhide S12).2.2; simpa [intOf] using this⟩
                  · obtain rfl : j = MM := by omega
                    have hjI : ¬ (j : Int) < (j : Int) := by omega
                    have tB := b7.thaws
                    have B7 := hide b7
                    have GI3 := hide (unhide I3)
                    have capy : z3 ≤ 9223372036854775807 ∧ j ≤ z3 := by
                      obtain ⟨a', c', ev, hrd, q1, q2, -⟩ := unhide IV
                      injection ev with ev1 ev2 ev3
                      have := unhide HMM
                      unfold maxLen at q2
                      rw [List.length_append, List.length_replicate] at q1
                      omega
                    have gch := ((unhide G5).trans (unhide G6)).trans (unhide I3)
                    have hBo : wo.heap.size ≤ B := by rw [unhide hB]; exact (unhide G5).size
                    have ga : wo.grownBy (wr.setCell ⟨B, 5, none⟩ (.slice w3 p.payload.length z3)) none := grown_own gch (grown_at (World.grownBy.refl wr (some B)) 5 _) (fun g e => by cases e; exact hBo)
                    have gb : wo.grownBy ((wr.setCell ⟨B, 5, none⟩ (.slice w3 p.payload.length z3)).setCell ⟨B, 3, none⟩ (.int .i64 p.number)) none := grown_own gch (grown_at (grown_at (World.grownBy.refl wr (some B)) 5 _) 3 _) (fun g e => by cases e; exact hBo)
                    obtain ⟨Wa, hWa⟩ : ∃ Wa, Wa = wr.setCell ⟨B, 5, none⟩ (.slice w3 p.payload.length z3) := ⟨_, rfl⟩
                    rw [← hWa] at ga gb
                    obtain ⟨Wb, hWb⟩ : ∃ Wb, Wb = Wa.setCell ⟨B, 3, none⟩ (.int .i64 p.number) := ⟨_, rfl⟩
                    rw [← hWb] at gb
                    have bWa : Blk Wa B #[.int .i64 p.space, .slice w1 p.dst.length z1, .slice w2 p.src.length z2, .int .i64 p2.number, .int .i64 p.width, .slice w3 p.payload.length z3] 29 := by rw [hWa]; exact b7.setC 5 _
                    have bWb : Blk Wb B #[.int .i64 p.space, .slice w1 p.dst.length z1, .slice w2 p.src.length z2, .int .i64 p.number, .int .i64 p.width, .slice w3 p.payload.length z3] 29 := by rw [hWb]; exact bWa.setC 3 _
                    have ca := cell_grown c3 ga
                    have e3 := bWa.cell 3 (.int .i64 p2.number) rfl
                    have tB2 := bWa.thaws
                    have q0 := bWb.cell 0 (.int .i64 p.space) rfl
                    have q1 := bWb.cell 1 (.slice w1 p.dst.length z1) rfl
                    have q2 := bWb.cell 2 (.slice w2 p.src.length z2) rfl
                    have q3 := bWb.cell 3 (.int .i64 p.number) rfl
                    have q4 := bWb.cell 4 (.int .i64 p.width) rfl
                    have q5 := bWb.cell 5 (.slice w3 p.payload.length z3) rfl
                    have c0 := cell_grown c0 gb
                    have c1 := cell_grown c1 gb
                    have c2 := cell_grown c2 gb
                    have c3 := cell_grown c3 gb
                    have c4 := cell_grown c4 gb
                    have c5 := cell_grown (cell_grown c5o (World.grownBy.refl _ none)) gb
                    have iy : InB Wb (.slice w3 p.payload.length z3) p.payload := by
                      have := (unhide IV).cutA p.payload.length (by simp)
                      rw [List.take_left] at this
                      exact this.grown gb
                    have SAME := hide (fun W (g : Wb.grownBy W none) => unhide SM W (gb.trans g) z3 w3 (iy.grown g))
                    have GB := hide gb
                    clear b7 I3 gch ga gb bWa bWb iy
                    go_upto_region 41 with fail
                    rw [← hWa]
                    replace hWa := hide hWa
                    go_upto_region 42 with fail
                    rw [← hWb]
                    replace hWb := hide hWb
                    clear ca e3 tB2 tB e5
                    go_region_held3 (fun W => W.cell? ⟨B, 0, none⟩ = some (.int .i64 p.space) ∧ W.cell? ⟨B, 1, none⟩ = some (.slice w1 p.dst.length z1) ∧ W.cell? ⟨B, 2, none⟩ = some (.slice w2 p.src.length z2) ∧ W.cell? ⟨B, 3, none⟩ = some (.int .i64 p.number) ∧ W.cell? ⟨B, 4, none⟩ = some (.int .i64 p.width) ∧ W.cell? ⟨B, 5, none⟩ = some (.slice w3 p.payload.length z3) ∧ W.cell? ⟨bo, off + i * 6, none⟩ = some (.int .i64 p.space) ∧ W.cell? ⟨bo, off + i * 6 + 1, none⟩ = some (.slice u1 p.dst.length v1) ∧ W.cell? ⟨bo, off + i * 6 + 2, none⟩ = some (.slice u2 p.src.length v2') ∧ W.cell? ⟨bo, off + i * 6 + 3, none⟩ = some (.int .i64 p.number) ∧ W.cell? ⟨bo, off + i * 6 + 4, none⟩ = some (.int .i64 p.width) ∧ W.cell? ⟨bo, off + i * 6 + 5, none⟩ = some (.slice u3 p.payload.length v3)) (go_keep) (first | (go_at_call 15; refine (unhide SAME _ (grown_drewN (World.grownBy.refl _ none))).mono ?_; rintro e W8 ⟨rfl, g8⟩; have g9 := (grown_drewN (World.grownBy.refl Wb none)).trans g8; have q0' := cell_grown q0 g9; have q1' := cell_grown q1 g9; have q2' := cell_grown q2 g9; have q3' := cell_grown q3 g9; have q4' := cell_grown q4 g9; have q5' := cell_grown q5 g9; have c0' := cell_grown c0 g9; have c1' := cell_grown c1 g9; have c2' := cell_grown c2 g9; have c3' := cell_grown c3 g9; have c4' := cell_grown c4 g9; have c5' := cell_grown c5 g9))
                    have NX := hide ((unhide I2).trans ((unhide GB).trans g9))
                    clear g8 g9 q0 q1 q2 q3 q4 q5 c0 c1 c2 c3 c4 c5 q0' q1' q2' q3' q4' q5' c0' c1' c2' c3' c4' c5'
                    go_wp2_with fail
                    exact ⟨⟨i + 1, hlt, by go_num, by rw [unhide S1], unhide NX⟩, by simp [intOf]; omega⟩
              · have b1 : ((i : Int) == (gm : Int) - 1) = true := by simp; omega
                go_upto_region 31 with fail
                clear b1
                obtain ⟨MM, hMM⟩ : ∃ MM, MM = p.payload.length + z := ⟨_, rfl⟩
                rw [← hMM] at t5
                obtain ⟨W6, hW6⟩ : ∃ W6, W6 = W5.alloc (.cells #[.int .i64 p.space, .slice w1 p.dst.length z1, .slice w2 p.src.length z2, .int .i64 p2.number, .int .i64 p.width, .slice w3 MM z3] 29) := ⟨_, rfl⟩
                have g6 : W5.grownBy W6 none := by rw [hW6]; exact World.grownBy_alloc _ _ none
                have b6 := Blk.new W5 #[.int .i64 p.space, .slice w1 p.dst.length z1, .slice w2 p.src.length z2, .int .i64 p2.number, .int .i64 p.width, .slice w3 MM z3] 29
                rw [← hW6] at b6
                obtain ⟨B, hB⟩ : ∃ B, B = W5.heap.size := ⟨_, rfl⟩
                rw [← hB] at b6
                have c56 := cell_grown c5 g6
                have e5 := b6.cell 5 (.slice w3 MM z3) rfl
                have B6 := hide b6
                have G6 := hide g6
                have nm1 : ¬ (MM : Int) < (p.payload.length : Int) := by omega
                have mmb : (MM : Int) ≤ 9223372036854775807 := by
                  obtain ⟨a', c', ev, hrd, q1, q2, -⟩ := unhide IV
                  unfold maxLen at q2
                  rw [List.length_append, List.length_replicate] at q1
                  omega
                have HMM := hide hMM
                have hmle : p.payload.length ≤ MM := by omega
                have HZ := hide hz0'
                have H1 := hide h1
                clear b6 g6 hMM hz0' h1
                go_upto_region 32 with fail
                rw [← hW6, ← hB]
                replace hW6 := hide hW6
                replace hB := hide hB
                clear t0 t1 t2' t3 t4 t5
                go_wp2_with fail
                go_loopw [24] (fun kv wr => ∃ j : Nat, p.payload.length ≤ j ∧ j ≤ MM ∧ kv = .int .i64 j ∧ Hid (W6.grownBy wr none)) (fun kv _ => MM - (intOf kv).toNat)
                case atStart => exact ⟨p.payload.length, Nat.le_refl _, hmle, rfl, World.grownBy.refl _ none⟩
                case round =>
                  obtain ⟨j, hj1, hj2, rfl, I3⟩ := hrel
                  have b7 := (unhide B6).grown (unhide I3)
                  have e5 := b7.cell 5 (.slice w3 MM z3) rfl
                  by_cases hjl : j < MM
                  · have hjI : (j : Int) < (MM : Int) := by omega
                    have hj0 : (0 : Int) ≤ (j : Int) := by omega
                    have hlast : i + 1 = gm := by
                      by_cases c : i + 1 = gm
                      · exact c
                      · have := unhide HZ c; have := unhide HMM; omega
                    have hli : ¬ (i : Int) < (gm : Int) - 1 := by omega
                    obtain ⟨yb, yo, rfl, hby⟩ : ∃ yb yo, w3 = some ⟨yb, yo, none⟩ ∧ wr.cell? ⟨yb, yo + j, none⟩ = some (.int .u8 0) := by
                      obtain ⟨a', c', ev, hrd, -⟩ := unhide IV
                      injection ev with ev1 ev2 ev3
                      obtain ⟨yb, yo, ea, hc⟩ := hrd.2 (fun e => by have e2 := congrArg List.length e; have := unhide HMM; rw [List.length_append, List.length_replicate, List.length_nil] at e2; omega)
                      refine ⟨yb, yo, ev1.trans ea, ?_⟩
                      have := cell_grown (cell_grown (cell_grown (hc j (by have := unhide HMM; simp; omega)) (unhide G5)) (unhide G6)) (unhide I3)
                      rw [this]
                      rw [List.getD_eq_getElem?_getD, List.getElem?_append_right hj1, List.getElem?_replicate]
                      split <;> rfl
                    have s1 : p.payload.length ≤ j + 1 := by omega
                    have ms : MM - (j + 1) < MM - j := by omega
                    have S12 := hide (And.intro s1 (And.intro hjl ms))
                    have GJ := hide (grown_drew' (unhide I3))
                    have GI3 := hide (unhide I3)
                    clear b7 I3 hlast
                    go_upto_region 38 with fail
                    first | go_region | skip
                    all_goals go_wp2_with fail
                    all_goals exact ⟨⟨j + 1, (unhide S12).1, (unhide S12).2.1, by go_num, by first | exact unhide GI3 | exact unhide GJ⟩, by have := (unhide S12).2.2; simpa [intOf] using this⟩
                  · obtain rfl : j = MM := by omega
                    have hjI : ¬ (j : Int) < (j : Int) := by omega
                    have tB := b7.thaws
                    have B7 := hide b7
                    have GI3 := hide (unhide I3)
                    have capy : z3 ≤ 9223372036854775807 ∧ j ≤ z3 := by
                      obtain ⟨a', c', ev, hrd, q1, q2, -⟩ := unhide IV
                      injection ev with ev1 ev2 ev3
                      have := unhide HMM
                      unfold maxLen at q2
                      rw [List.length_append, List.length_replicate] at q1
                      omega
                    have gch := ((unhide G5).trans (unhide G6)).trans (unhide I3)
                    have hBo : wo.heap.size ≤ B := by rw [unhide hB]; exact (unhide G5).size
                    have ga : wo.grownBy (wr.setCell ⟨B, 5, none⟩ (.slice w3 p.payload.length z3)) none := grown_own gch (grown_at (World.grownBy.refl wr (some B)) 5 _) (fun g e => by cases e; exact hBo)
                    have gb : wo.grownBy ((wr.setCell ⟨B, 5, none⟩ (.slice w3 p.payload.length z3)).setCell ⟨B, 3, none⟩ (.int .i64 p.number)) none := grown_own gch (grown_at (grown_at (World.grownBy.refl wr (some B)) 5 _) 3 _) (fun g e => by cases e; exact hBo)
                    obtain ⟨Wa, hWa⟩ : ∃ Wa, Wa = wr.setCell ⟨B, 5, none⟩ (.slice w3 p.payload.length z3) := ⟨_, rfl⟩
                    rw [← hWa] at ga gb
                    obtain ⟨Wb, hWb⟩ : ∃ Wb, Wb = Wa.setCell ⟨B, 3, none⟩ (.int .i64 p.number) := ⟨_, rfl⟩
                    rw [← hWb] at gb
                    have bWa : Blk Wa B #[.int .i64 p.space, .slice w1 p.dst.length z1, .slice w2 p.src.length z2, .int .i64 p2.number, .int .i64 p.width, .slice w3 p.payload.length z3] 29 := by rw [hWa]; exact b7.setC 5 _
                    have bWb : Blk Wb B #[.int .i64 p.space, .slice w1 p.dst.length z1, .slice w2 p.src.length z2, .int .i64 p.number, .int .i64 p.width, .slice w3 p.payload.length z3] 29 := by rw [hWb]; exact bWa.setC 3 _
                    have ca := cell_grown c3 ga
                    have e3 := bWa.cell 3 (.int .i64 p2.number) rfl
                    have tB2 := bWa.thaws
                    have q0 := bWb.cell 0 (.int .i64 p.space) rfl
                    have q1 := bWb.cell 1 (.slice w1 p.dst.length z1) rfl
                    have q2 := bWb.cell 2 (.slice w2 p.src.length z2) rfl
                    have q3 := bWb.cell 3 (.int .i64 p.number) rfl
                    have q4 := bWb.cell 4 (.int .i64 p.width) rfl
                    have q5 := bWb.cell 5 (.slice w3 p.payload.length z3) rfl
                    have c0 := cell_grown c0 gb
                    have c1 := cell_grown c1 gb
                    have c2 := cell_grown c2 gb
                    have c3 := cell_grown c3 gb
                    have c4 := cell_grown c4 gb
                    have c5 := cell_grown (cell_grown c5o (World.grownBy.refl _ none)) gb
                    have iy : InB Wb (.slice w3 p.payload.length z3) p.payload := by
                      have := (unhide IV).cutA p.payload.length (by simp)
                      rw [List.take_left] at this
                      exact this.grown gb
                    have SAME := hide (fun W (g : Wb.grownBy W none) => unhide SM W (gb.trans g) z3 w3 (iy.grown g))
                    have GB := hide gb
                    clear b7 I3 gch ga gb bWa bWb iy
                    go_upto_region 41 with fail
                    rw [← hWa]
                    replace hWa := hide hWa
                    go_upto_region 42 with fail
                    rw [← hWb]
                    replace hWb := hide hWb
                    clear ca e3 tB2 tB e5
                    go_region_held3 (fun W => W.cell? ⟨B, 0, none⟩ = some (.int .i64 p.space) ∧ W.cell? ⟨B, 1, none⟩ = some (.slice w1 p.dst.length z1) ∧ W.cell? ⟨B, 2, none⟩ = some (.slice w2 p.src.length z2) ∧ W.cell? ⟨B, 3, none⟩ = some (.int .i64 p.number) ∧ W.cell? ⟨B, 4, none⟩ = some (.int .i64 p.width) ∧ W.cell? ⟨B, 5, none⟩ = some (.slice w3 p.payload.length z3) ∧ W.cell? ⟨bo, off + i * 6, none⟩ = some (.int .i64 p.space) ∧ W.cell? ⟨bo, off + i * 6 + 1, none⟩ = some (.slice u1 p.dst.length v1) ∧ W.cell? ⟨bo, off + i * 6 + 2, none⟩ = some (.slice u2 p.src.length v2') ∧ W.cell? ⟨bo, off + i * 6 + 3, none⟩ = some (.int .i64 p.number) ∧ W.cell? ⟨bo, off + i * 6 + 4, none⟩ = some (.int .i64 p.width) ∧ W.cell? ⟨bo, off + i * 6 + 5, none⟩ = some (.slice u3 p.payload.length v3)) (go_keep) (first | (go_at_call 15; refine (unhide SAME _ (grown_drewN (World.grownBy.refl _ none))).mono ?_; rintro e W8 ⟨rfl, g8⟩; have g9 := (grown_drewN (World.grownBy.refl Wb none)).trans g8; have q0' := cell_grown q0 g9; have q1' := cell_grown q1 g9; have q2' := cell_grown q2 g9; have q3' := cell_grown q3 g9; have q4' := cell_grown q4 g9; have q5' := cell_grown q5 g9; have c0' := cell_grown c0 g9; have c1' := cell_grown c1 g9; have c2' := cell_grown c2 g9; have c3' := cell_grown c3 g9; have c4' := cell_grown c4 g9; have c5' := cell_grown c5 g9))
                    have NX := hide ((unhide I2).trans ((unhide GB).trans g9))
                    clear g8 g9 q0 q1 q2 q3 q4 q5 c0 c1 c2 c3 c4 c5 q0' q1' q2' q3' q4' q5' c0' c1' c2' c3' c4' c5'
                    go_wp2_with fail
                    exact ⟨⟨i + 1, hlt, by go_num, by rw [unhide S1], unhide NX⟩, by simp [intOf]; omega⟩
            · obtain rfl : i = gm := by omega
              have hiI : ¬ (i : Int) < (i : Int) := by omega
              have eS : S = (out.length : Int) := by
                rw [hS, (unhide BB).tot_, List.take_of_length_le (by rw [(unhide BB).sl, unhide HLL]; exact Nat.le_refl _)]
              have FIN := hide (unhide D2 _ (unhide I2))
              have HSS := hide hS
              subst eS
              clear hS I2
              go_wp2_with fail
              go_ret
              exact ⟨rfl, unhide FIN⟩
        · have t2 : (x.p.space == 2) = false := by simpa using h2
          have eN : N = 0 := by rw [unhide HN, if_neg h2]
          rw [eN] at sp
          go_wp2_with fail
          refine sp.mono ?_
          rintro e W4 ⟨ga, gm, gc, ps, rfl, hpm, hml, row, -, hps, gd1, g4⟩
          have hgm : gm = len := by
            have := congrArg List.length hps
            simp only [List.length_map] at this
            rw [padL_len, unhide HLL] at this
            omega
          subst hgm
          have hsl : sz.length = gm := by rw [(unhide BB).sl]; exact unhide HLL
          rw [hsl]
          have r1 : ¬ room < (out.length : Int) := by have := (unhide BB).ol; omega
          have r2 : ¬ (out.length : Int) < least := by
            have := (unhide BB).low (fun e => by have := unhide HLL; rw [e] at this; exact hz this.symm)
            omega
          have PR := hide (And.intro hpm (And.intro row (And.intro hps gd1)))
          have GI := hide ((unhide I).2.trans g4)
          have D2 : Hid (∀ W, W4.grownBy W none → w.grownBy W none) := fun W g => unhide DONE _ ((unhide GI).trans g)
          clear sp hpm hml row hps gd1 g4 I n0 n1 n2 d0 d1 hsl
          go_wp2_with fail
          go_loopw [17, 18] (fun sv iv wr => ∃ i : Nat, i ≤ gm ∧ iv = .int .i64 i ∧ sv = .int .i64 (sz.take i).sum ∧ Hid (W4.grownBy wr none)) (fun _ iv _ => gm - (intOf iv).toNat)
          case atStart => exact ⟨0, Nat.zero_le _, rfl, rfl, World.grownBy.refl _ none⟩
          case round =>
            obtain ⟨i, hi, rfl, rfl, I2⟩ := hrel
            obtain ⟨wo, hwo⟩ : ∃ wo, wo = wr := ⟨_, rfl⟩
            subst hwo
            have bds := (unhide BB).take_bd i
            obtain ⟨S, hS⟩ : ∃ S, S = (sz.take i).sum := ⟨_, rfl⟩
            rw [← hS] at bds ⊢
            by_cases hlt : i < gm
            · have hiI : (i : Int) < (gm : Int) := by omega
              have hi0 : (0 : Int) ≤ (i : Int) := by omega
              obtain ⟨x2, hx2⟩ : ∃ x2, xs[i]? = some x2 := ⟨xs[i]'(by have := (unhide HX).hlen; omega), by simp⟩
              obtain ⟨y2, hy2⟩ : ∃ y2, ps[i]? = some y2 := ⟨ps[i]'(by have := (unhide PR).1; omega), by simp⟩
              have hLi : L[i]? = some x2.p := by rw [(unhide HL).1, List.getElem?_map, hx2]; rfl
              obtain ⟨q, k1, k2, k3, k4, k5⟩ := (unhide BB).at_ hLi
              have hyp : y2.p = foundP q G := by
                have e := congrArg (fun l : List Pk => l[i]?) (unhide PR).2.2.1
                simp only [List.getElem?_map, hy2, k1] at e
                exact Option.some.inj e
              have bds1 := (unhide BB).take_bd (i + 1)
              rw [take_sum sz i _ k2, ← hS] at bds1
              have S1 : Hid ((sz.take (i + 1)).sum = S + lenE q) := by show (sz.take (i + 1)).sum = S + lenE q; rw [take_sum sz i _ k2, ← hS]
              have gW := ((unhide GR).trans ((World.grownBy.refl _ none))).trans (World.grownBy.refl _ none)
              have gwr := (((unhide GA).1.trans (unhide OB).2.2).trans (unhide GI)).trans (unhide I2)
              have hm := List.mem_of_getElem? hx2
              have ix := (unhide HX).in_ x2 hm
              have ln := (unhide HX).ln x2 hm
              obtain ⟨b2, off2, eb2, hcell⟩ := (unhide HX).cell.resolve_left (by omega)
              injection eb2 with eb2
              injection eb2 with eb2 eo2
              subst eb2 eo2
              have yin := (unhide PR).2.1.own y2 (List.mem_of_getElem? hy2)
              have yg := (unhide PR).2.2.2 y2 (List.mem_of_getElem? hy2)
              obtain ⟨gl, rfl, -⟩ := (unhide PR).2.1.some_ (unhide PR).1 (by omega)
              have ycell : ∀ j, j < 6 → wo.cell? ⟨gl, i * 6 + j, none⟩ = y2.cl[j]? := fun j hj => by
                obtain ⟨v, hv⟩ : ∃ v, y2.cl[j]? = some v := ⟨y2.cl[j]'(by simp [PV.cl]; omega), by simp⟩
                rw [hv]
                exact cell_grown (((unhide PR).2.1.cell i y2 hy2 j hj).trans hv) (unhide I2)
              obtain ⟨gs, rfl, hcs⟩ := (unhide OB).2.1.cell i _ k2
              have hcs := cell_grown hcs ((unhide GI).trans (unhide I2))
              obtain ⟨p, d, s, y⟩ := x2
              obtain ⟨p2, d2, s2, v2⟩ := y2
              simp only at hyp k3 k4 k5 ix ln
              obtain ⟨u1, v1, rfl⟩ : ∃ u c, d = .slice u p.dst.length c := shapeI ix.1
              obtain ⟨u2, v2', rfl⟩ : ∃ u c, s = .slice u p.src.length c := shapeI ix.2.1
              obtain ⟨u3, v3, rfl⟩ : ∃ u c, y = .slice u p.payload.length c := shapeI ix.2.2
              have c0 : wo.cell? ⟨bo, off + i * 6, none⟩ = some (.int .i64 p.space) := cell_grown (hcell i _ hx2 0 (by omega)) gwr
              have c1 : wo.cell? ⟨bo, off + i * 6 + 1, none⟩ = some (.slice u1 p.dst.length v1) := cell_grown (hcell i _ hx2 1 (by omega)) gwr
              have c2 : wo.cell? ⟨bo, off + i * 6 + 2, none⟩ = some (.slice u2 p.src.length v2') := cell_grown (hcell i _ hx2 2 (by omega)) gwr
              have c3 : wo.cell? ⟨bo, off + i * 6 + 3, none⟩ = some (.int .i64 p.number) := cell_grown (hcell i _ hx2 3 (by omega)) gwr
              have c4 : wo.cell? ⟨bo, off + i * 6 + 4, none⟩ = some (.int .i64 p.width) := cell_grown (hcell i _ hx2 4 (by omega)) gwr
              have c5 : wo.cell? ⟨bo, off + i * 6 + 5, none⟩ = some (.slice u3 p.payload.length v3) := cell_grown (hcell i _ hx2 5 (by omega)) gwr
              have c5o := c5
              have en := enc_own p (.slice u1 p.dst.length v1) (.slice u2 p.src.length v2') (.slice u3 p.payload.length v3) wo (ix.1.grown gwr) (ix.2.1.grown gwr) (ix.2.2.grown gwr) (by omega) (by omega) (by omega)
              rw [k3] at en
              obtain ⟨PB, hPB⟩ : ∃ PB, PB = encB p := ⟨_, rfl⟩
              have hlp : lenE p = (PB.length : Int) := by rw [hPB]; rfl
              rw [← hPB] at en
              obtain ⟨z, hqp, hz0⟩ : ∃ z : Nat, q.payload = p.payload ++ List.replicate z 0 ∧ (i + 1 ≠ L.length → z = 0) := by
                rw [k4]
                split
                · rename_i c
                  unfold padP
                  split
                  · exact ⟨0, by simp, fun _ => rfl⟩
                  · exact ⟨_, rfl, fun c2 => absurd c c2⟩
                · exact ⟨0, by simp, fun _ => rfl⟩
              have hqf : q.space = p.space ∧ q.dst = p.dst ∧ q.src = p.src ∧ q.width = p.width := by
                rw [k4]
                split
                · exact ⟨(padP_fields _ _).1, (padP_fields _ _).2.1, (padP_fields _ _).2.2.1, (padP_fields _ _).2.2.2.2⟩
                · exact ⟨rfl, rfl, rfl, rfl⟩
              have f1 : p2.dst = p.dst := by rw [hyp]; exact hqf.2.1
              have f2 : p2.src = p.src := by rw [hyp]; exact hqf.2.2.1
              have f3 : p2.payload = p.payload ++ List.replicate z 0 := by rw [hyp]; exact hqp
              have f4 : p2.space = p.space := by rw [hyp]; exact hqf.1
              have f5 : p2.width = p.width := by rw [hyp]; exact hqf.2.2.2
              have id2 : InB wo d2 p.dst := by rw [← f1]; exact (yin.d.inB yg.bd).grown (unhide I2)
              have is2 : InB wo s2 p.src := by rw [← f2]; exact (yin.s.inB yg.bs).grown (unhide I2)
              have iv2 : InB wo v2 (p.payload ++ List.replicate z 0) := by rw [← f3]; exact (yin.y.inB yg.by_).grown (unhide I2)
              have t0 : wo.cell? ⟨gl, i * 6, none⟩ = some (.int .i64 p.space) := by rw [← f4]; exact ycell 0 (by omega)
              have t1 : wo.cell? ⟨gl, i * 6 + 1, none⟩ = some d2 := ycell 1 (by omega)
              have t2' : wo.cell? ⟨gl, i * 6 + 2, none⟩ = some s2 := ycell 2 (by omega)
              have t3 : wo.cell? ⟨gl, i * 6 + 3, none⟩ = some (.int .i64 p2.number) := ycell 3 (by omega)
              have t4 : wo.cell? ⟨gl, i * 6 + 4, none⟩ = some (.int .i64 p.width) := by rw [← f5]; exact ycell 4 (by omega)
              have t5 : wo.cell? ⟨gl, i * 6 + 5, none⟩ = some v2 := ycell 5 (by omega)
              obtain ⟨w1, z1, rfl⟩ : ∃ u c, d2 = .slice u p.dst.length c := shapeI id2
              obtain ⟨w2, z2, rfl⟩ : ∃ u c, s2 = .slice u p.src.length c := shapeI is2
              obtain ⟨w3, z3, rfl⟩ : ∃ u c, v2 = .slice u (p.payload ++ List.replicate z 0).length c := shapeI iv2
              have CASE : (¬ i + 1 = gm ∧ lenE q = (PB.length : Int)) ∨ (i + 1 = gm ∧ S + (PB.length : Int) < least ∧ lenE q = least - S) ∨ (i + 1 = gm ∧ ¬ S + (PB.length : Int) < least ∧ lenE q = (PB.length : Int)) := by
                rw [unhide HLL, hlp, ← hS] at k5
                by_cases c : i + 1 = gm
                · rw [if_pos c] at k5
                  by_cases c2 : S + (PB.length : Int) < least
                  · exact .inr (.inl ⟨c, c2, by omega⟩)
                  · exact .inr (.inr ⟨c, c2, by omega⟩)
                · rw [if_neg c] at k5
                  exact .inl ⟨c, k5⟩
              have hz0' : ¬ i + 1 = gm → z = 0 := fun c => hz0 (by rw [unhide HLL]; exact c)
              have SM := hide (fun W (g : wo.grownBy W none) (c : Nat) (a : Option Addr) (h : InB W (.slice a p.payload.length c) p.payload) => same05 p (.slice w1 p.dst.length z1) (.slice w2 p.src.length z2) (.slice a p.payload.length c) (.slice u1 p.dst.length v1) (.slice u2 p.src.length v2') (.slice u3 p.payload.length v3) W (id2.grown g) (is2.grown g) h ((ix.1.grown gwr).grown g) ((ix.2.1.grown gwr).grown g) ((ix.2.2.grown gwr).grown g))
              have IV := hide iv2
              have D3 : Hid (∀ W, wo.grownBy W none → w.grownBy W none) := fun W g => unhide D2 _ ((unhide I2).trans g)
              have NXT := hide (unhide I2)
              have HPP := hide (And.intro hyp (And.intro hS (And.intro hPB hlp)))
              have ml : (p.payload ++ List.replicate z 0).length = p.payload.length + z := by simp
              rw [ml] at t5
              clear hyp hS hPB hlp k4 k5 k1 k2 f1 f2 f3 f4 f5 hqp hqf hz0 id2 is2 iv2 ycell yin yg ix hcell hm hx2 hy2 hLi gwr gW k3
              go_wp2_with fail
              refine en.mono ?_
              rintro e W5 ⟨pa, pc, rfl, -, g5⟩
              have hcs := cell_grown hcs g5
              have t0 := cell_grown t0 g5
              have t1 := cell_grown t1 g5
              have t2' := cell_grown t2' g5
              have t3 := cell_grown t3 g5
              have t4 := cell_grown t4 g5
              have t5 := cell_grown t5 g5
              have c5 := cell_grown c5 g5
              have G5 := hide g5
              clear en g5
              obtain ⟨sq, hsq⟩ : ∃ sq, sq = lenE q := ⟨_, rfl⟩
              rw [← hsq] at CASE hcs bds1 S1
              clear hsq
              rcases CASE with ⟨h1, h2⟩ | ⟨h1, h1', h2⟩ | ⟨h1, h1', h2⟩
              all_goals subst h2
              · have b1 : ((i : Int) == (gm : Int) - 1) = false := by simp; omega
                go_upto_region 31 with fail
                clear b1
                obtain ⟨MM, hMM⟩ : ∃ MM, MM = p.payload.length + z := ⟨_, rfl⟩
                rw [← hMM] at t5
                obtain ⟨W6, hW6⟩ : ∃ W6, W6 = W5.alloc (.cells #[.int .i64 p.space, .slice w1 p.dst.length z1, .slice w2 p.src.length z2, .int .i64 p2.number, .int .i64 p.width, .slice w3 MM z3] 29) := ⟨_, rfl⟩
                have g6 : W5.grownBy W6 none := by rw [hW6]; exact World.grownBy_alloc _ _ none
                have b6 := Blk.new W5 #[.int .i64 p.space, .slice w1 p.dst.length z1, .slice w2 p.src.length z2, .int .i64 p2.number, .int .i64 p.width, .slice w3 MM z3] 29
                rw [← hW6] at b6
                obtain ⟨B, hB⟩ : ∃ B, B = W5.heap.size := ⟨_, rfl⟩
                rw [← hB] at b6
                have c56 := cell_grown c5 g6
                have e5 := b6.cell 5 (.slice w3 MM z3) rfl
                have B6 := hide b6
                have G6 := hide g6
                have nm1 : ¬ (MM : Int) < (p.payload.length : Int) := by omega
                have mmb : (MM : Int) ≤ 9223372036854775807 := by
                  obtain ⟨a', c', ev, hrd, q1, q2, -⟩ := unhide IV
                  unfold maxLen at q2
                  rw [List.length_append, List.length_replicate] at q1
                  omega
                have HMM := hide hMM
                have hmle : p.payload.length ≤ MM := by omega
                have HZ := hide hz0'
                have H1 := hide h1
                clear b6 g6 hMM hz0' h1
                go_upto_region 32 with fail
                rw [← hW6, ← hB]
                replace hW6 := hide hW6
                replace hB := hide hB
                clear t0 t1 t2' t3 t4 t5
                go_wp2_with fail
                go_loopw [24] (fun kv wr => ∃ j : Nat, p.payload.length ≤ j ∧ j ≤ MM ∧ kv = .int .i64 j ∧ Hid (W6.grownBy wr none)) (fun kv _ => MM - (intOf kv).toNat)
                case atStart => exact ⟨p.payload.length, Nat.le_refl _, hmle, rfl, World.grownBy.refl _ none⟩
                case round =>
                  obtain ⟨j, hj1, hj2, rfl, I3⟩ := hrel
                  have b7 := (unhide B6).grown (unhide I3)
                  have e5 := b7.cell 5 (.slice w3 MM z3) rfl
                  by_cases hjl : j < MM
                  · have hjI : (j : Int) < (MM : Int) := by omega
                    have hj0 : (0 : Int) ≤ (j : Int) := by omega
                    have hlast : i + 1 = gm := by
                      by_cases c : i + 1 = gm
                      · exact c
                      · have := unhide HZ c; have := unhide HMM; omega
                    have hli : ¬ (i : Int) < (gm : Int) - 1 := by omega
                    obtain ⟨yb, yo, rfl, hby⟩ : ∃ yb yo, w3 = some ⟨yb, yo, none⟩ ∧ wr.cell? ⟨yb, yo + j, none⟩ = some (.int .u8 0) := by
                      obtain ⟨a', c', ev, hrd, -⟩ := unhide IV
                      injection ev with ev1 ev2 ev3
                      obtain ⟨yb, yo, ea, hc⟩ := hrd.2 (fun e => by have e2 := congrArg List.length e; have := unhide HMM; rw [List.length_append, List.length_replicate, List.length_nil] at e2; omega)
                      refine ⟨yb, yo, ev1.trans ea, ?_⟩
                      have := cell_grown (cell_grown (cell_grown (hc j (by have := unhide HMM; simp; omega)) (unhide G5)) (unhide G6)) (unhide I3)
                      rw [this]
                      rw [List.getD_eq_getElem?_getD, List.getElem?_append_right hj1, List.getElem?_replicate]
                      split <;> rfl
                    have s1 : p.payload.length ≤ j + 1 := by omega
                    have ms : MM - (j + 1) < MM - j := by omega
                    have S12 := hide (And.intro s1 (And.intro hjl ms))
                    have GJ := hide (grown_drew' (unhide I3))
                    have GI3 := hide (unhide I3)
                    clear b7 I3 hlast
                    go_upto_region 38 with fail
                    first | go_region | skip
                    all_goals go_wp2_with fail
                    all_goals exact ⟨⟨j + 1, (unhide S12).1, (unhide S12).2.1, by go_num, by first | exact unhide GI3 | exact unhide GJ⟩, by have := (unhide S12).2.2; simpa [intOf] using this⟩
                  · obtain rfl : j = MM := by omega
                    have hjI : ¬ (j : Int) < (j : Int) := by omega
                    have tB := b7.thaws
                    have B7 := hide b7
                    have GI3 := hide (unhide I3)
                    have capy : z3 ≤ 9223372036854775807 ∧ j ≤ z3 := by
                      obtain ⟨a', c', ev, hrd, q1, q2, -⟩ := unhide IV
                      injection ev with ev1 ev2 ev3
                      have := unhide HMM
                      unfold maxLen at q2
                      rw [List.length_append, List.length_replicate] at q1
                      omega
                    have gch := ((unhide G5).trans (unhide G6)).trans (unhide I3)
                    have hBo : wo.heap.size ≤ B := by rw [unhide hB]; exact (unhide G5).size
                    have ga : wo.grownBy (wr.setCell ⟨B, 5, none⟩ (.slice w3 p.payload.length z3)) none := grown_own gch (grown_at (World.grownBy.refl wr (some B)) 5 _) (fun g e => by cases e; exact hBo)
                    have gb : wo.grownBy ((wr.setCell ⟨B, 5, none⟩ (.slice w3 p.payload.length z3)).setCell ⟨B, 3, none⟩ (.int .i64 p.number)) none := grown_own gch (grown_at (grown_at (World.grownBy.refl wr (some B)) 5 _) 3 _) (fun g e => by cases e; exact hBo)
                    obtain ⟨Wa, hWa⟩ : ∃ Wa, Wa = wr.setCell ⟨B, 5, none⟩ (.slice w3 p.payload.length z3) := ⟨_, rfl⟩
                    rw [← hWa] at ga gb
                    obtain ⟨Wb, hWb⟩ : ∃ Wb, Wb = Wa.setCell ⟨B, 3, none⟩ (.int .i64 p.number) := ⟨_, rfl⟩
                    rw [← hWb] at gb
                    have bWa : Blk Wa B #[.int .i64 p.space, .slice w1 p.dst.length z1, .slice w2 p.src.length z2, .int .i64 p2.number, .int .i64 p.width, .slice w3 p.payload.length z3] 29 := by rw [hWa]; exact b7.setC 5 _
                    have bWb : Blk Wb B #[.int .i64 p.space, .slice w1 p.dst.length z1, .slice w2 p.src.length z2, .int .i64 p.number, .int .i64 p.width, .slice w3 p.payload.length z3] 29 := by rw [hWb]; exact bWa.setC 3 _
                    have ca := cell_grown c3 ga
                    have e3 := bWa.cell 3 (.int .i64 p2.number) rfl
                    have tB2 := bWa.thaws
                    have q0 := bWb.cell 0 (.int .i64 p.space) rfl
                    have q1 := bWb.cell 1 (.slice w1 p.dst.length z1) rfl
                    have q2 := bWb.cell 2 (.slice w2 p.src.length z2) rfl
                    have q3 := bWb.cell 3 (.int .i64 p.number) rfl
                    have q4 := bWb.cell 4 (.int .i64 p.width) rfl
                    have q5 := bWb.cell 5 (.slice w3 p.payload.length z3) rfl
                    have c0 := cell_grown c0 gb
                    have c1 := cell_grown c1 gb
                    have c2 := cell_grown c2 gb
                    have c3 := cell_grown c3 gb
                    have c4 := cell_grown c4 gb
                    have c5 := cell_grown (cell_grown c5o (World.grownBy.refl _ none)) gb
                    have iy : InB Wb (.slice w3 p.payload.length z3) p.payload := by
                      have := (unhide IV).cutA p.payload.length (by simp)
                      rw [List.take_left] at this
                      exact this.grown gb
                    have SAME := hide (fun W (g : Wb.grownBy W none) => unhide SM W (gb.trans g) z3 w3 (iy.grown g))
                    have GB := hide gb
                    clear b7 I3 gch ga gb bWa bWb iy
                    go_upto_region 41 with fail
                    rw [← hWa]
                    replace hWa := hide hWa
                    go_upto_region 42 with fail
                    rw [← hWb]
                    replace hWb := hide hWb
                    clear ca e3 tB2 tB e5
                    go_region_held3 (fun W => W.cell? ⟨B, 0, none⟩ = some (.int .i64 p.space) ∧ W.cell? ⟨B, 1, none⟩ = some (.slice w1 p.dst.length z1) ∧ W.cell? ⟨B, 2, none⟩ = some (.slice w2 p.src.length z2) ∧ W.cell? ⟨B, 3, none⟩ = some (.int .i64 p.number) ∧ W.cell? ⟨B, 4, none⟩ = some (.int .i64 p.width) ∧ W.cell? ⟨B, 5, none⟩ = some (.slice w3 p.payload.length z3) ∧ W.cell? ⟨bo, off + i * 6, none⟩ = some (.int .i64 p.space) ∧ W.cell? ⟨bo, off + i * 6 + 1, none⟩ = some (.slice u1 p.dst.length v1) ∧ W.cell? ⟨bo, off + i * 6 + 2, none⟩ = some (.slice u2 p.src.length v2') ∧ W.cell? ⟨bo, off + i * 6 + 3, none⟩ = some (.int .i64 p.number) ∧ W.cell? ⟨bo, off + i * 6 + 4, none⟩ = some (.int .i64 p.width) ∧ W.cell? ⟨bo, off + i * 6 + 5, none⟩ = some (.slice u3 p.payload.length v3)) (go_keep) (first | (go_at_call 15; refine (unhide SAME _ (grown_drewN (World.grownBy.refl _ none))).mono ?_; rintro e W8 ⟨rfl, g8⟩; have g9 := (grown_drewN (World.grownBy.refl Wb none)).trans g8; have q0' := cell_grown q0 g9; have q1' := cell_grown q1 g9; have q2' := cell_grown q2 g9; have q3' := cell_grown q3 g9; have q4' := cell_grown q4 g9; have q5' := cell_grown q5 g9; have c0' := cell_grown c0 g9; have c1' := cell_grown c1 g9; have c2' := cell_grown c2 g9; have c3' := cell_grown c3 g9; have c4' := cell_grown c4 g9; have c5' := cell_grown c5 g9))
                    have NX := hide ((unhide I2).trans ((unhide GB).trans g9))
                    clear g8 g9 q0 q1 q2 q3 q4 q5 c0 c1 c2 c3 c4 c5 q0' q1' q2' q3' q4' q5' c0' c1' c2' c3' c4' c5'
                    go_wp2_with fail
                    exact ⟨⟨i + 1, hlt, by go_num, by rw [unhide S1], unhide NX⟩, by simp [intOf]; omega⟩
              · have b1 : ((i : Int) == (gm : Int) - 1) = true := by simp; omega
                go_upto_region 31 with fail
                clear b1
                obtain ⟨MM, hMM⟩ : ∃ MM, MM = p.payload.length + z := ⟨_, rfl⟩
                rw [← hMM] at t5
                obtain ⟨W6, hW6⟩ : ∃ W6, W6 = W5.alloc (.cells #[.int .i64 p.space, .slice w1 p.dst.length z1, .slice w2 p.src.length z2, .int .i64 p2.number, .int .i64 p.width, .slice w3 MM z3] 29) := ⟨_, rfl⟩
                have g6 : W5.grownBy W6 none := by rw [hW6]; exact World.grownBy_alloc _ _ none
                have b6 := Blk.new W5 #[.int .i64 p.space, .slice w1 p.dst.length z1, .slice w2 p.src.length z2, .int .i64 p2.number, .int .i64 p.width, .slice w3 MM z3] 29
                rw [← hW6] at b6
                obtain ⟨B, hB⟩ : ∃ B, B = W5.heap.size := ⟨_, rfl⟩
                rw [← hB] at b6
                have c56 := cell_grown c5 g6
                have e5 := b6.cell 5 (.slice w3 MM z3) rfl
                have B6 := hide b6
                have G6 := hide g6
                have nm1 : ¬ (MM : Int) < (p.payload.length : Int) := by omega
                have mmb : (MM : Int) ≤ 9223372036854775807 := by
                  obtain ⟨a', c', ev, hrd, q1, q2, -⟩ := unhide IV
                  unfold maxLen at q2
                  rw [List.length_append, List.length_replicate] at q1
                  omega
                have HMM := hide hMM
                have hmle : p.payload.length ≤ MM := by omega
                have HZ := hide hz0'
                have H1 := hide h1
                clear b6 g6 hMM hz0' h1
                go_upto_region 32 with fail
                rw [← hW6, ← hB]
                replace hW6 := hide hW6
                replace hB := hide hB
                clear t0 t1 t2' t3 t4 t5
                go_wp2_with fail
                go_loopw [24] (fun kv wr => ∃ j : Nat, p.payload.length ≤ j ∧ j ≤ MM ∧ kv = .int .i64 j ∧ Hid (W6.grownBy wr none)) (fun kv _ => MM - (intOf kv).toNat)
                case atStart => exact ⟨p.payload.length, Nat.le_refl _, hmle, rfl, World.grownBy.refl _ none⟩
                case round =>
                  obtain ⟨j, hj1, hj2, rfl, I3⟩ := hrel
                  have b7 := (unhide B6).grown (unhide I3)
                  have e5 := b7.cell 5 (.slice w3 MM z3) rfl
                  by_cases hjl : j < MM
                  · have hjI : (j : Int) < (MM : Int) := by omega
                    have hj0 : (0 : Int) ≤ (j : Int) := by omega
                    have hlast : i + 1 = gm := by
                      by_cases c : i + 1 = gm
                      · exact c
                      · have := unhide HZ c; have := unhide HMM; omega
                    have hli : ¬ (i : Int) < (gm : Int) - 1 := by omega
                    obtain ⟨yb, yo, rfl, hby⟩ : ∃ yb yo, w3 = some ⟨yb, yo, none⟩ ∧ wr.cell? ⟨yb, yo + j, none⟩ = some (.int .u8 0) := by
                      obtain ⟨a', c', ev, hrd, -⟩ := unhide IV
                      injection ev with ev1 ev2 ev3
                      obtain ⟨yb, yo, ea, hc⟩ := hrd.2 (fun e => by have e2 := congrArg List.length e; have := unhide HMM; rw [List.length_append, List.length_replicate, List.length_nil] at e2; omega)
                      refine ⟨yb, yo, ev1.trans ea, ?_⟩
                      have := cell_grown (cell_grown (cell_grown (hc j (by have := unhide HMM; simp; omega)) (unhide G5)) (unhide G6)) (unhide I3)
                      rw [this]
                      rw [List.getD_eq_getElem?_getD, List.getElem?_append_right hj1, List.getElem?_replicate]
                      split <;> rfl
                    have s1 : p.payload.length ≤ j + 1 := by omega
                    have ms : MM - (j + 1) < MM - j := by omega
                    have S12 := hide (And.intro s1 (And.intro hjl ms))
                    have GJ := hide (grown_drew' (unhide I3))
                    have GI3 := hide (unhide I3)
                    clear b7 I3 hlast
                    go_upto_region 38 with fail
                    first | go_region | skip
                    all_goals go_wp2_with fail
                    all_goals exact ⟨⟨j + 1, (unhide S12).1, (unhide S12).2.1, by go_num, by first | exact unhide GI3 | exact unhide GJ⟩, by have := (unhide S12).2.2; simpa [intOf] using this⟩
                  · obtain rfl : j = MM := by omega
                    have hjI : ¬ (j : Int) < (j : Int) := by omega
                    have tB := b7.thaws
                    have B7 := hide b7
                    have GI3 := hide (unhide I3)
                    have capy : z3 ≤ 9223372036854775807 ∧ j ≤ z3 := by
                      obtain ⟨a', c', ev, hrd, q1, q2, -⟩ := unhide IV
                      injection ev with ev1 ev2 ev3
                      have := unhide HMM
                      unfold maxLen at q2
                      rw [List.length_append, List.length_replicate] at q1
                      omega
                    have gch := ((unhide G5).trans (unhide G6)).trans (unhide I3)
                    have hBo : wo.heap.size ≤ B := by rw [unhide hB]; exact (unhide G5).size
                    have ga : wo.grownBy (wr.setCell ⟨B, 5, none⟩ (.slice w3 p.payload.length z3)) none := grown_own gch (grown_at (World.grownBy.refl wr (some B)) 5 _) (fun g e => by cases e; exact hBo)
                    have gb : wo.grownBy ((wr.setCell ⟨B, 5, none⟩ (.slice w3 p.payload.length z3)).setCell ⟨B, 3, none⟩ (.int .i64 p.number)) none := grown_own gch (grown_at (grown_at (World.grownBy.refl wr (some B)) 5 _) 3 _) (fun g e => by cases e; exact hBo)
                    obtain ⟨Wa, hWa⟩ : ∃ Wa, Wa = wr.setCell ⟨B, 5, none⟩ (.slice w3 p.payload.length z3) := ⟨_, rfl⟩
                    rw [← hWa] at ga gb
                    obtain ⟨Wb, hWb⟩ : ∃ Wb, Wb = Wa.setCell ⟨B, 3, none⟩ (.int .i64 p.number) := ⟨_, rfl⟩
                    rw [← hWb] at gb
                    have bWa : Blk Wa B #[.int .i64 p.space, .slice w1 p.dst.length z1, .slice w2 p.src.length z2, .int .i64 p2.number, .int .i64 p.width, .slice w3 p.payload.length z3] 29 := by rw [hWa]; exact b7.setC 5 _
                    have bWb : Blk Wb B #[.int .i64 p.space, .slice w1 p.dst.length z1, .slice w2 p.src.length z2, .int .i64 p.number, .int .i64 p.width, .slice w3 p.payload.length z3] 29 := by rw [hWb]; exact bWa.setC 3 _
                    have ca := cell_grown c3 ga
                    have e3 := bWa.cell 3 (.int .i64 p2.number) rfl
                    have tB2 := bWa.thaws
                    have q0 := bWb.cell 0 (.int .i64 p.space) rfl
                    have q1 := bWb.cell 1 (.slice w1 p.dst.length z1) rfl
                    have q2 := bWb.cell 2 (.slice w2 p.src.length z2) rfl
                    have q3 := bWb.cell 3 (.int .i64 p.number) rfl
                    have q4 := bWb.cell 4 (.int .i64 p.width) rfl
                    have q5 := bWb.cell 5 (.slice w3 p.payload.length z3) rfl
                    have c0 := cell_grown c0 gb
                    have c1 := cell_grown c1 gb
                    have c2 := cell_grown c2 gb
                    have c3 := cell_grown c3 gb
                    have c4 := cell_grown c4 gb
                    have c5 := cell_grown (cell_grown c5o (World.grownBy.refl _ none)) gb
                    have iy : InB Wb (.slice w3 p.payload.length z3) p.payload := by
                      have := (unhide IV).cutA p.payload.length (by simp)
                      rw [List.take_left] at this
                      exact this.grown gb
                    have SAME := hide (fun W (g : Wb.grownBy W none) => unhide SM W (gb.trans g) z3 w3 (iy.grown g))
                    have GB := hide gb
                    clear b7 I3 gch ga gb bWa bWb iy
                    go_upto_region 41 with fail
                    rw [← hWa]
                    replace hWa := hide hWa
                    go_upto_region 42 with fail
                    rw [← hWb]
                    replace hWb := hide hWb
                    clear ca e3 tB2 tB e5
                    go_region_held3 (fun W => W.cell? ⟨B, 0, none⟩ = some (.int .i64 p.space) ∧ W.cell? ⟨B, 1, none⟩ = some (.slice w1 p.dst.length z1) ∧ W.cell? ⟨B, 2, none⟩ = some (.slice w2 p.src.length z2) ∧ W.cell? ⟨B, 3, none⟩ = some (.int .i64 p.number) ∧ W.cell? ⟨B, 4, none⟩ = some (.int .i64 p.width) ∧ W.cell? ⟨B, 5, none⟩ = some (.slice w3 p.payload.length z3) ∧ W.cell? ⟨bo, off + i * 6, none⟩ = some (.int .i64 p.space) ∧ W.cell? ⟨bo, off + i * 6 + 1, none⟩ = some (.slice u1 p.dst.length v1) ∧ W.cell? ⟨bo, off + i * 6 + 2, none⟩ = some (.slice u2 p.src.length v2') ∧ W.cell? ⟨bo, off + i * 6 + 3, none⟩ = some (.int .i64 p.number) ∧ W.cell? ⟨bo, off + i * 6 + 4, none⟩ = some (.int .i64 p.width) ∧ W.cell? ⟨bo, off + i * 6 + 5, none⟩ = some (.slice u3 p.payload.length v3)) (go_keep) (first | (go_at_call 15; refine (unhide SAME _ (grown_drewN (World.grownBy.refl _ none))).mono ?_; rintro e W8 ⟨rfl, g8⟩; have g9 := (grown_drewN (World.grownBy.refl Wb none)).trans g8; have q0' := cell_grown q0 g9; have q1' := cell_grown q1 g9; have q2' := cell_grown q2 g9; have q3' := cell_grown q3 g9; have q4' := cell_grown q4 g9; have q5' := cell_grown q5 g9; have c0' := cell_grown c0 g9; have c1' := cell_grown c1 g9; have c2' := cell_grown c2 g9; have c3' := cell_grown c3 g9; have c4' := cell_grown c4 g9; have c5' := cell_grown c5 g9))
                    have NX := hide ((unhide I2).trans ((unhide GB).trans g9))
                    clear g8 g9 q0 q1 q2 q3 q4 q5 c0 c1 c2 c3 c4 c5 q0' q1' q2' q3' q4' q5' c0' c1' c2' c3' c4' c5'
                    go_wp2_with fail
                    exact ⟨⟨i + 1, hlt, by go_num, by rw [unhide S1], unhide NX⟩, by simp [intOf]; omega⟩
              · have b1 : ((i : Int) == (gm : Int) - 1) = true := by simp; omega
                go_upto_region 31 with fail
                clear b1
                obtain ⟨MM, hMM⟩ : ∃ MM, MM = p.payload.length + z := ⟨_, rfl⟩
                rw [← hMM] at t5
                obtain ⟨W6, hW6⟩ : ∃ W6, W6 = W5.alloc (.cells #[.int .i64 p.space, .slice w1 p.dst.length z1, .slice w2 p.src.length z2, .int .i64 p2.number, .int .i64 p.width, .slice w3 MM z3] 29) := ⟨_, rfl⟩
                have g6 : W5.grownBy W6 none := by rw [hW6]; exact World.grownBy_alloc _ _ none
                have b6 := Blk.new W5 #[.int .i64 p.space, .slice w1 p.dst.length z1, .slice w2 p.src.length z2, .int .i64 p2.number, .int .i64 p.width, .slice w3 MM z3] 29
                rw [← hW6] at b6
                obtain ⟨B, hB⟩ : ∃ B, B = W5.heap.size := ⟨_, rfl⟩
                rw [← hB] at b6
                have c56 := cell_grown c5 g6
                have e5 := b6.cell 5 (.slice w3 MM z3) rfl
                have B6 := hide b6
                have G6 := hide g6
                have nm1 : ¬ (MM : Int) < (p.payload.length : Int) := by omega
                have mmb : (MM : Int) ≤ 9223372036854775807 := by
                  obtain ⟨a', c', ev, hrd, q1, q2, -⟩ := unhide IV
                  unfold maxLen at q2
                  rw [List.length_append, List.length_replicate] at q1
                  omega
                have HMM := hide hMM
                have hmle : p.payload.length ≤ MM := by omega
                have HZ := hide hz0'
                have H1 := hide h1
                clear b6 g6 hMM hz0' h1
                go_upto_region 32 with fail
                rw [← hW6, ← hB]
                replace hW6 := hide hW6
                replace hB := hide hB
                clear t0 t1 t2' t3 t4 t5
                go_wp2_with fail
                go_loopw [24] (fun kv wr => ∃ j : Nat, p.payload.length ≤ j ∧ j ≤ MM ∧ kv = .int .i64 j ∧ Hid (W6.grownBy wr none)) (fun kv _ => MM - (intOf kv).toNat)
                case atStart => exact ⟨p.payload.length, Nat.le_refl _, hmle, rfl, World.grownBy.refl _ none⟩
                case round =>
                  obtain ⟨j, hj1, hj2, rfl, I3⟩ := hrel
                  have b7 := (unhide B6).grown (unhide I3)
                  have e5 := b7.cell 5 (.slice w3 MM z3) rfl
                  by_cases hjl : j < MM
                  · have hjI : (j : Int) < (MM : Int) := by omega
                    have hj0 : (0 : Int) ≤ (j : Int) := by omega
                    have hlast : i + 1 = gm := by
                      by_cases c : i + 1 = gm
                      · exact c
                      · have := unhide HZ c; have := unhide HMM; omega
                    have hli : ¬ (i : Int) < (gm : Int) - 1 := by omega
                    obtain ⟨yb, yo, rfl, hby⟩ : ∃ yb yo, w3 = some ⟨yb, yo, none⟩ ∧ wr.cell? ⟨yb, yo + j, none⟩ = some (.int .u8 0) := by
                      obtain ⟨a', c', ev, hrd, -⟩ := unhide IV
                      injection ev with ev1 ev2 ev3
                      obtain ⟨yb, yo, ea, hc⟩ := hrd.2 (fun e => by have e2 := congrArg List.length e; have := unhide HMM; rw [List.length_append, List.length_replicate, List.length_nil] at e2; omega)
                      refine ⟨yb, yo, ev1.trans ea, ?_⟩
                      have := cell_grown (cell_grown (cell_grown (hc j (by have := unhide HMM; simp; omega)) (unhide G5)) (unhide G6)) (unhide I3)
                      rw [this]
                      rw [List.getD_eq_getElem?_getD, List.getElem?_append_right hj1, List.getElem?_replicate]
                      split <;> rfl
                    have s1 : p.payload.length ≤ j + 1 := by omega
                    have ms : MM - (j + 1) < MM - j := by omega
                    have S12 := hide (And.intro s1 (And.intro hjl ms))
                    have GJ := hide (grown_drew' (unhide I3))
                    have GI3 := hide (unhide I3)
                    clear b7 I3 hlast
                    go_upto_region 38 with fail
                    first | go_region | skip
                    all_goals go_wp2_with fail
                    all_goals exact ⟨⟨j + 1, (unhide S12).1, (unhide S12).2.1, by go_num, by first | exact unhide GI3 | exact unhide GJ⟩, by have := (unhide S12).2.2; simpa [intOf] using this⟩
                  · obtain rfl : j = MM := by omega
                    have hjI : ¬ (j : Int) < (j : Int) := by omega
                    have tB := b7.thaws
                    have B7 := hide b7
                    have GI3 := hide (unhide I3)
                    have capy : z3 ≤ 9223372036854775807 ∧ j ≤ z3 := by
                      obtain ⟨a', c', ev, hrd, q1, q2, -⟩ := unhide IV
                      injection ev with ev1 ev2 ev3
                      have := unhide HMM
                      unfold maxLen at q2
                      rw [List.length_append, List.length_replicate] at q1
                      omega
                    have gch := ((unhide G5).trans (unhide G6)).trans (unhide I3)
                    have hBo : wo.heap.size ≤ B := by rw [unhide hB]; exact (unhide G5).size
                    have ga : wo.grownBy (wr.setCell ⟨B, 5, none⟩ (.slice w3 p.payload.length z3)) none := grown_own gch (grown_at (World.grownBy.refl wr (some B)) 5 _) (fun g e => by cases e; exact hBo)
                    have gb : wo.grownBy ((wr.setCell ⟨B, 5, none⟩ (.slice w3 p.payload.length z3)).setCell ⟨B, 3, none⟩ (.int .i64 p.number)) none := grown_own gch (grown_at (grown_at (World.grownBy.refl wr (some B)) 5 _) 3 _) (fun g e => by cases e; exact hBo)
                    obtain ⟨Wa, hWa⟩ : ∃ Wa, Wa = wr.setCell ⟨B, 5, none⟩ (.slice w3 p.payload.length z3) := ⟨_, rfl⟩
                    rw [← hWa] at ga gb
                    obtain ⟨Wb, hWb⟩ : ∃ Wb, Wb = Wa.setCell ⟨B, 3, none⟩ (.int .i64 p.number) := ⟨_, rfl⟩
                    rw [← hWb] at gb
                    have bWa : Blk Wa B #[.int .i64 p.space, .slice w1 p.dst.length z1, .slice w2 p.src.length z2, .int .i64 p2.number, .int .i64 p.width, .slice w3 p.payload.length z3] 29 := by rw [hWa]; exact b7.setC 5 _
                    have bWb : Blk Wb B #[.int .i64 p.space, .slice w1 p.dst.length z1, .slice w2 p.src.length z2, .int .i64 p.number, .int .i64 p.width, .slice w3 p.payload.length z3] 29 := by rw [hWb]; exact bWa.setC 3 _
                    have ca := cell_grown c3 ga
                    have e3 := bWa.cell 3 (.int .i64 p2.number) rfl
                    have tB2 := bWa.thaws
                    have q0 := bWb.cell 0 (.int .i64 p.space) rfl
                    have q1 := bWb.cell 1 (.slice w1 p.dst.length z1) rfl
                    have q2 := bWb.cell 2 (.slice w2 p.src.length z2) rfl
                    have q3 := bWb.cell 3 (.int .i64 p.number) rfl
                    have q4 := bWb.cell 4 (.int .i64 p.width) rfl
                    have q5 := bWb.cell 5 (.slice w3 p.payload.length z3) rfl
                    have c0 := cell_grown c0 gb
                    have c1 := cell_grown c1 gb
                    have c2 := cell_grown c2 gb
                    have c3 := cell_grown c3 gb
                    have c4 := cell_grown c4 gb
                    have c5 := cell_grown (cell_grown c5o (World.grownBy.refl _ none)) gb
                    have iy : InB Wb (.slice w3 p.payload.length z3) p.payload := by
                      have := (unhide IV).cutA p.payload.length (by simp)
                      rw [List.take_left] at this
                      exact this.grown gb
                    have SAME := hide (fun W (g : Wb.grownBy W none) => unhide SM W (gb.trans g) z3 w3 (iy.grown g))
                    have GB := hide gb
                    clear b7 I3 gch ga gb bWa bWb iy
                    go_upto_region 41 with fail
                    rw [← hWa]
                    replace hWa := hide hWa
                    go_upto_region 42 with fail
                    rw [← hWb]
                    replace hWb := hide hWb
                    clear ca e3 tB2 tB e5
                    go_region_held3 (fun W => W.cell? ⟨B, 0, none⟩ = some (.int .i64 p.space) ∧ W.cell? ⟨B, 1, none⟩ = some (.slice w1 p.dst.length z1) ∧ W.cell? ⟨B, 2, none⟩ = some (.slice w2 p.src.length z2) ∧ W.cell? ⟨B, 3, none⟩ = some (.int .i64 p.number) ∧ W.cell? ⟨B, 4, none⟩ = some (.int .i64 p.width) ∧ W.cell? ⟨B, 5, none⟩ = some (.slice w3 p.payload.length z3) ∧ W.cell? ⟨bo, off + i * 6, none⟩ = some (.int .i64 p.space) ∧ W.cell? ⟨bo, off + i * 6 + 1, none⟩ = some (.slice u1 p.dst.length v1) ∧ W.cell? ⟨bo, off + i * 6 + 2, none⟩ = some (.slice u2 p.src.length v2') ∧ W.cell? ⟨bo, off + i * 6 + 3, none⟩ = some (.int .i64 p.number) ∧ W.cell? ⟨bo, off + i * 6 + 4, none⟩ = some (.int .i64 p.width) ∧ W.cell? ⟨bo, off + i * 6 + 5, none⟩ = some (.slice u3 p.payload.length v3)) (go_keep) (first | (go_at_call 15; refine (unhide SAME _ (grown_drewN (World.grownBy.refl _ none))).mono ?_; rintro e W8 ⟨rfl, g8⟩; have g9 := (grown_drewN (World.grownBy.refl Wb none)).trans g8; have q0' := cell_grown q0 g9; have q1' := cell_grown q1 g9; have q2' := cell_grown q2 g9; have q3' := cell_grown q3 g9; have q4' := cell_grown q4 g9; have q5' := cell_grown q5 g9; have c0' := cell_grown c0 g9; have c1' := cell_grown c1 g9; have c2' := cell_grown c2 g9; have c3' := cell_grown c3 g9; have c4' := cell_grown c4 g9; have c5' := cell_grown c5 g9))
                    have NX := hide ((unhide I2).trans ((unhide GB).trans g9))
                    clear g8 g9 q0 q1 q2 q3 q4 q5 c0 c1 c2 c3 c4 c5 q0' q1' q2' q3' q4' q5' c0' c1' c2' c3' c4' c5'
                    go_wp2_with fail
                    exact ⟨⟨i + 1, hlt, by go_num, by rw [unhide S1], unhide NX⟩, by simp [intOf]; omega⟩
            · obtain rfl : i = gm := by omega
              have hiI : ¬ (i : Int) < (i : Int) := by omega
              have eS : S = (out.length : Int) := by
                rw [hS, (unhide BB).tot_, List.take_of_length_le (by rw [(unhide BB).sl, unhide HLL]; exact Nat.le_refl _)]
              have FIN := hide (unhide D2 _ (unhide I2))
              have HSS := hide hS
              subst eS
              clear hS I2
              go_wp2_with fail
              go_ret
              exact ⟨rfl, unhide FIN⟩
      · have k3 : (k : Int) < 3 := by omega
        have k30 : (0 : Int) ≤ (k : Int) := by omega
        obtain ⟨v, cv, hv⟩ := okTo_next (by omega) (unhide I).1 bG
        have GI := hide (unhide I).2
        by_cases c1 : v < -1
        · clear bG hv I
          go_wp2_with fail
          go_ret
          exact ⟨rfl, unhide DONE _ (unhide GI)⟩
        · by_cases c2 : 4611686018427387903 < v
          · clear bG hv I
            go_wp2_with fail
            go_ret
            exact ⟨rfl, unhide DONE _ (unhide GI)⟩
          · have NX := hide (unhide hv ⟨by omega, by unfold MAXP; omega⟩)
            clear bG hv I
            go_wp2_with fail
            exact ⟨⟨k + 1, by omega, by go_num, unhide NX, unhide GI⟩, by simp [intOf]; omega⟩
  · have bz : (E != 0) = true := by simpa using hE
    have oe : out = [] ∧ sz = [] := by
      have := (unhide HL).2.1
      unfold bldF at this
      split at this
      · injection this with h1 h2; injection h2 with h2 h3; exact ⟨h1, h2⟩
      · split at this
        · split at this
          · injection this with h1 h2; injection h2 with h2 h3; exact ⟨h1, h2⟩
          · rename_i h1 h2
            rw [← this] at h1
            exact absurd h1 hE
        · injection this with h1 h2; injection h2 with h2 h3; exact ⟨h1, h2⟩
    obtain ⟨rfl, rfl⟩ := oe
    simp only [List.length_nil]
    go_wp2_with fail
    go_ret
    exact ⟨rfl, unhide DONE _ (World.grownBy.refl _ none)⟩
end Go.Proofs.Ytpcnpdippnljpaa

namespace Go.Proofs.Ytpcnpdippnljpaa
open Go.ChangeShapes Go.WideShapes Go.ChangeAt Go.RowKit
set_option linter.unusedVariables false
set_option maxRecDepth 100000
namespace packBackFrame

theorem own : ownKnob Try.prog.godebug = none := by kernel_rfl
theorem laidOut : laidOutB Try.prog = true := by kernel_rfl

set_option maxRecDepth 100000 in
theorem lifted (os : Os) (started : os.Started) (H : Type) (enc : TypeId × Value → H) (F : Stop.Interp) :
    ReturnsInHanded {} Try.checked os 5 .any ((Rows.OpenSpec.upto Rows.packBackSpec).pre6 enc Try.prog Try.f5 Rows.packBackUptoRow.domain false) (((Rows.OpenSpec.upto Rows.packBackSpec).at F).post enc Try.prog Try.f5 false true false false) := by
  refine returnsInHanded_of_cond_sized (C := Try.checked) (s := Rows.OpenSpec.upto Rows.packBackSpec) (k := Rows.uptoSmall) rfl own started (by kernel_rfl) Try.func5
    (OpenSpec.witness (enc := enc) (C := Try.checked) (s := Rows.OpenSpec.upto Rows.packBackSpec) (k := Rows.uptoSmall) rfl false ⟨#[], #[.int .i64 0, .int .i64 0, .slice none 0 0, .agg #[.int .i64 0, .int .i64 0, .int .i64 0]], []⟩ 8 (by kernel_rfl) (by kernel_rfl) (by kernel_rfl)
      (x := ([.lit (.int .i64 0), .lit (.int .i64 0), .nil, .agg [.lit (.int .i64 0), .lit (.int .i64 0), .lit (.int .i64 0)]], [], [])) (by kernel_rfl) rfl (by kernel_rfl)) ?_
  intro W base args ds gs before hval0 hW hcnd hk hsz0 _
  have hsz : (DataW.weightsEach Try.prog (Try.f5.params.toList ++ (Rows.OpenSpec.upto Rows.packBackSpec).bare.plain.varTypes Try.prog) (ds ++ gs)).all (· ≤ reachBytes) = true := hsz0
  have hval : ∀ (j : Nat) t v, Try.f5.params[j]? = some t → args[j]? = some v → Value.okWide Try.prog W .any base t v := hval0
  have hW' := hW
  obtain ⟨p, q, hA0, hV, rfl, hfz, hnd⟩ := hW
  have hA : DataW.TrodAll enc Try.prog W 0 (fun _ => true) true Try.f5.params.toList args.toList ds p := hA0
  rw [Try.params5] at hA hval hsz
  obtain ⟨v0, vs0, d0, ds0, p0, q0, hargs, rfl, rfl, h0, r0⟩ := trodAll_cons hA
  obtain ⟨v1, vs1, d1, ds1, p1, q1, rfl, rfl, rfl, h1, r1⟩ := trodAll_cons r0
  obtain ⟨v2, vs2, d2, ds2, p2, q2, rfl, rfl, rfl, h2, r2⟩ := trodAll_cons r1
  obtain ⟨v3, vs3, d3, ds3, p3, q3, rfl, rfl, rfl, h3, r3⟩ := trodAll_cons r2
  obtain ⟨rfl, rfl, rfl⟩ := trodAll_nil r3
  obtain rfl : args = #[v0, v1, v2, v3] := by cases args; simp_all
  obtain ⟨rfl, rfl⟩ := trodVars_none hV
  have k0 := h0
  have lt0 : ∀ x ∈ p0, x.block < W.heap.size := by obtain ⟨m, hm⟩ := k0; exact DataW.trod_lt m _ _ _ hm
  obtain ⟨a0, rfl, rfl, rfl, w0⟩ := open_int Try.underlying3 (hval 0 3 v0 rfl rfl) h0
  have k1 := h1
  have lt1 : ∀ x ∈ p1, x.block < W.heap.size := by obtain ⟨m, hm⟩ := k1; exact DataW.trod_lt m _ _ _ hm
  obtain ⟨a1, rfl, rfl, rfl, w1⟩ := open_int Try.underlying3 (hval 1 3 v1 rfl rfl) h1
  have k2 := h2
  have lt2 : ∀ x ∈ p2, x.block < W.heap.size := by obtain ⟨m, hm⟩ := k2; exact DataW.trod_lt m _ _ _ hm
  obtain ⟨a2, len2, cap2, rfl⟩ := okWide_slice Try.underlying22 (hval 2 22 v2 rfl rfl)
  obtain ⟨X2, w2, t2, m2⟩ : ∃ xs, IsPks W a2 len2 cap2 xs ∧ tot xs ≤ 70000000 ∧ len2 ≤ 1048576 := by
    obtain ⟨fuel, hf⟩ := h2
    exact open_pks (x := (d2, p2)) (by simpa [Value.cells] using hf) (bulk_mem hk (d := d2) (by simp))
  have k3 := h3
  have lt3 : ∀ x ∈ p3, x.block < W.heap.size := by obtain ⟨m, hm⟩ := k3; exact DataW.trod_lt m _ _ _ hm
  obtain ⟨G3, rfl⟩ := open_arr3 (hval 3 49 v3 rfl rfl) h3
  clear hA0 hval0
  refine (back_walk a0 a1 a2 len2 cap2 X2 G3 W w2 t2).mono fun e W' ⟨he, gr⟩ => ?_
  have bel := grown_bel gr
  subst he
  exact ⟨_, rfl, _, _, _, [], _, [], hW', trodAll_mk1 (shut_bool Try.underlying4 _), (trodAll_cons_mk (shut_int Try.underlying3 w0) (trodAll_cons_mk (shut_int Try.underlying3 w1) (trodAll_cons_mk (Below.trod laidOut (by kernel_rfl) (of_decide_eq_true (by kernel_rfl)) k2 bel lt2) (trodAll_cons_mk (Below.trod laidOut (by kernel_rfl) (of_decide_eq_true (by kernel_rfl)) k3 bel lt3) trodAll_mk0)))), rfl, bel.frame _, fun h => by cases h⟩

theorem over : Rows.packBackUptoRow.holds Try.pinned (Rows.OpenSpec.upto Rows.packBackSpec) :=
  OpenClaim.holds_of_cond 5 Try.f5 rfl rfl rfl rfl rfl rfl rfl ⟨rfl, rfl, rfl, rfl, rfl⟩ rfl rfl rfl rfl rfl (by kernel_rfl) Try.func5 (by kernel_rfl)
    (of_decide_eq_true (by kernel_rfl)) (by unfold Func.isWrapper; first | (rw [if_pos (by decide +kernel)]; kernel_rfl) | (rw [if_neg (by decide +kernel)]; exact ⟨rfl, rfl⟩))
    (fun os started H enc _ F => lifted os started H enc F)
end packBackFrame

/-- THE STATEMENT -/
theorem packBack_holds : Rows.PackBackUptoSaid := packBackFrame.over
end Go.Proofs.Ytpcnpdippnljpaa
