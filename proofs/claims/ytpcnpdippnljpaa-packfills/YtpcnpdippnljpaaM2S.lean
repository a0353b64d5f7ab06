/- WR, KO1, BK, KO2, B2I, B2J, PKFil, one text. -/
import Derived.Test.YtpcnpdippnljpaaBase
import Derived.ProofKit
import Derived.OpenShut
import Derived.Test.YtpcnpdippnljpaaKZ
import Derived.Test.YtpcnpdippnljpaaKX5
import Derived.ShutString
import Derived.ChangeOld
import Derived.SizedLaws
import Derived.Laws.IdiomArrays
import Derived.Test.YtpcnpdippnljpaaRows
import Derived.Test.YtpcnpdippnljpaaM2D
namespace Go.Proofs.Ytpcnpdippnljpaa
open Go.ChangeShapes Go.WideShapes Go.ChangeAt Go.RowKit
set_option linter.unusedVariables false
set_option maxRecDepth 100000

/-- Nil; or it leads to a row of 'cap' cells, the numbers 'zs'. -/
def IsRow (k : IntKind) (w : World) (a : Option Addr) (len cap : Nat) (zs : List Int) : Prop :=
  (a = none ∧ len = 0 ∧ cap = 0 ∧ zs = []) ∨
  ∃ x, a = some x ∧ len ≤ cap ∧ cap ≤ maxLen ∧ zs.length = cap ∧ (∀ i, i < zs.length → w.cell? (x.add i) = some (.int k (zs.getD i 0))) ∧ ∀ n ∈ zs, (Lit.int k n).wf = true

theorem isRow_rd {w : World} {a : Option Addr} {len cap : Nat} {zs : List Int} (h : IsRow .u8 w a len cap zs) : (zs.take len).length = len ∧ Rd w a (zs.take len) ∧ len ≤ cap ∧ cap ≤ maxLen ∧ zs.length = cap := by
  rcases h with ⟨rfl, rfl, rfl, rfl⟩ | ⟨x, rfl, hl, hm, hz, hc, hw⟩
  · exact ⟨rfl, ⟨by simp, by simp⟩, Nat.le_refl _, by decide, rfl⟩
  · refine ⟨by simp; omega, ⟨fun y hy => ?_, fun hne => ?_⟩, hl, hm, hz⟩
    · exact bounds_u8 (hw y (List.mem_of_mem_take hy))
    · have hlen : 0 < len := by
        rcases Nat.eq_zero_or_pos len with h | h
        · subst h; simp at hne
        · exact h
      obtain ⟨b, off, spot⟩ := x
      have h0 := hc 0 (by omega)
      have hs : spot = none := by simpa [Addr.add] using World.cell?_spot h0
      subst hs
      refine ⟨b, off, rfl, fun i hi => ?_⟩
      have hi' : i < len := by simp at hi; omega
      have := hc i (by omega)
      rw [show (⟨b, off, none⟩ : Addr).add i = ⟨b, off + i, none⟩ by simp [Addr.add]] at this
      rw [this]
      congr 2
      simp [List.getD, hi']
end Go.Proofs.Ytpcnpdippnljpaa

namespace Go.Proofs.Ytpcnpdippnljpaa
open Go.ChangeShapes Go.WideShapes Go.ChangeAt Go.RowKit
set_option linter.unusedVariables false
set_option maxRecDepth 100000

theorem cell_lt {w : World} {b o : Nat} {v : Value} (h : w.cell? ⟨b, o, none⟩ = some v) : b < w.heap.size := by
  by_cases c : b < w.heap.size
  · exact c
  · have e : w.heap[b]? = none := by simp; omega
    simp [World.cell?, e] at h

theorem isRow_in {w : World} {a : Option Addr} {len cap : Nat} {zs : List Int} (h : IsRow .u8 w a len cap zs) : InB w (.slice a len cap) (zs.take len) := by
  obtain ⟨h1, h2, h3, h4, h5⟩ := isRow_rd h
  refine ⟨a, cap, by rw [h1], h2, by rw [h1]; exact h3, h4, fun x e hc => ?_⟩
  subst e
  rcases h with ⟨h, -⟩ | ⟨x', e, -, -, hz, hcell, -⟩
  · cases h
  · cases e
    obtain ⟨b, off, spot⟩ := x
    have h0 := hcell 0 (by omega)
    have hs : spot = none := by simpa [Addr.add] using World.cell?_spot h0
    subst hs
    rw [show (⟨b, off, none⟩ : Addr).add 0 = ⟨b, off, none⟩ by simp [Addr.add]] at h0
    have := cell_lt h0
    exact ⟨this, Nat.ne_of_lt this, _, _, rfl⟩

section
variable {H : Type} {enc : TypeId × Value → H} {w : World} {base : Nat} {spare : Nat → Bool} {held : Bool}

theorem open_arr3 {v : Value} {r : Reach} {b0 : Nat} (hv : Value.okWide Try.prog w r b0 49 v) {d : DataW H} {ps : List MemPlace} (hd : DataW.Trod enc Try.prog w base spare held 49 v d ps) : ∃ G : Lg, v = G.v := by
  have c2 : Try.prog.cellsOf 2 = 1 := by kernel_rfl
  have c46 : Try.prog.cellsOf 49 = 3 := by kernel_rfl
  simp only [Value.okWide, Try.underlying49] at hv
  obtain ⟨cs, rfl, hs, -⟩ := hv
  rw [c46] at hs
  obtain ⟨fuel, hf⟩ := hd
  obtain ⟨cs⟩ := cs
  match cs, hs with
  | [x, y, z], _ =>
    have hf' : DataW.trod enc Try.prog w base spare held fuel 49 [x, y, z] = some (d, ps) := by simpa [Value.cells] using hf
    obtain ⟨y0, y1, y2, n, -, f0, f1, f2⟩ := trod_array3 Try.underlying49 c2 hf'
    obtain ⟨a0, e0, -⟩ := DataW.trod_int Try.underlying2 f0
    obtain ⟨a1, e1, -⟩ := DataW.trod_int Try.underlying2 f1
    obtain ⟨a2, e2, -⟩ := DataW.trod_int Try.underlying2 f2
    simp only [List.cons.injEq, and_true] at e0 e1 e2
    subst e0 e1 e2
    exact ⟨(a0, a1, a2), rfl⟩

theorem open_row {a : Option Addr} {len cap : Nat} {d : DataW H} {ps : List MemPlace} (hd : DataW.Trod enc Try.prog w base (fun _ => true) held 27 (.slice a len cap) d ps) : ∃ zs, IsRow .u8 w a len cap zs ∧ (d = .nil ∧ zs = [] ∨ d = .slice (lits .u8 (zs.take len)) (lits .u8 (zs.drop len))) := by
  obtain ⟨fuel, hf⟩ := hd
  rcases open_ints Try.underlying27 Try.underlying5 (by kernel_rfl) hf with ⟨hcs, hx⟩ | ⟨x, l, c, zs, hcs, _, hl, hm, hz, hx, hcell, hwz⟩
  · simp [Value.cells] at hcs
    obtain ⟨rfl, rfl, rfl⟩ := hcs
    simp only [Prod.mk.injEq] at hx
    exact ⟨[], .inl ⟨rfl, rfl, rfl, rfl⟩, .inl ⟨hx.1, rfl⟩⟩
  · simp [Value.cells] at hcs
    obtain ⟨rfl, rfl, rfl⟩ := hcs
    simp only [Prod.mk.injEq] at hx
    exact ⟨zs, .inr ⟨_, rfl, hl, hm, by simpa using hz, hcell, hwz⟩, .inr hx.1⟩

theorem row_size {ts : List TypeId} {ds : List (DataW H)} (hsz : (DataW.weightsEach Try.prog ts ds).all (· ≤ reachBytes) = true) {j len : Nat} {zs : List Int} {d : DataW H} (ht : ts[j]? = some 27) (hd : ds[j]? = some d)
    (h : d = .nil ∧ zs = [] ∨ d = .slice (lits .u8 (zs.take len)) (lits .u8 (zs.drop len))) : zs.length ≤ 140737488351232 := by
  rcases h with ⟨-, rfl⟩ | h
  · simp
  · have hb : Try.prog.bytesOf 5 = 1 := by kernel_rfl
    subst h
    have := sized_slice hsz ht hd Try.underlying27
    rw [hb] at this
    simp only [lits, List.length_map, List.length_take, List.length_drop, reachBytes] at this
    omega
end
end Go.Proofs.Ytpcnpdippnljpaa

namespace Go.Proofs.Ytpcnpdippnljpaa
set_option maxRecDepth 100000

theorem bulk_pos {H : Type} (d : DataW H) : 0 < Rows.uptoBulk d := by
  cases d with
  | lit l => cases l <;> simp [Rows.uptoBulk]
  | _ => simp [Rows.uptoBulk]

theorem bulk_count {H : Type} : ∀ l : List (DataW H), l.length ≤ Rows.uptoBulkAll l
  | [] => Nat.zero_le _
  | d :: r => by
    have h1 := bulk_pos d
    have h2 := bulk_count r
    simp only [Rows.uptoBulkAll, List.length_cons]
    omega

theorem bulk_slice {H : Type} (e s : List (DataW H)) : e.length + s.length < Rows.uptoBulk (.slice e s) := by
  have h1 := bulk_count e
  have h2 := bulk_count s
  simp only [Rows.uptoBulk]
  omega

theorem bulk_among {H : Type} {d : DataW H} : ∀ {l : List (DataW H)}, d ∈ l → Rows.uptoBulk d ≤ Rows.uptoBulkAll l
  | x :: r, h => by
    simp only [Rows.uptoBulkAll]
    rcases List.mem_cons.1 h with e | e
    · subst e; omega
    · have := bulk_among e; omega

theorem bulk_mem {H : Type} {d : DataW H} {l : List (DataW H)} (hk : Rows.uptoSmall H l = true) (h : d ∈ l) : Rows.uptoBulk d ≤ 1048576 := by
  have h1 : Rows.uptoBulkAll l ≤ 1048576 := of_decide_eq_true hk
  have h2 := bulk_among h
  omega
end Go.Proofs.Ytpcnpdippnljpaa

namespace Go.Proofs.Ytpcnpdippnljpaa
open Go.ChangeShapes Go.WideShapes Go.ChangeAt Go.RowKit
set_option linter.unusedVariables false
set_option maxRecDepth 100000

section
variable {H : Type} {enc : TypeId × Value → H} {w : World} {base : Nat} {spare : Nat → Bool} {held : Bool}

theorem row_cells {fuel : Nat} {cs : List Value} {x : DataW H × List MemPlace} (hf : DataW.trod enc Try.prog w base (fun _ => true) held fuel 27 cs = some x) :
    ∃ a len cap zs, cs = [.slice a len cap] ∧ IsRow .u8 w a len cap zs ∧ (x.1 = .nil ∧ zs = [] ∨ x.1 = .slice (lits .u8 (zs.take len)) (lits .u8 (zs.drop len))) := by
  rcases open_ints Try.underlying27 Try.underlying5 (by kernel_rfl) hf with ⟨hcs, hx⟩ | ⟨x', l, c, zs, hcs, _, hl, hm, hz, hx, hcell, hwz⟩
  · subst hcs hx
    exact ⟨none, 0, 0, [], rfl, .inl ⟨rfl, rfl, rfl, rfl⟩, .inl ⟨rfl, rfl⟩⟩
  · subst hcs hx
    exact ⟨_, l, c, zs, rfl, .inr ⟨_, rfl, hl, hm, by simpa using hz, hcell, hwz⟩, .inr rfl⟩

theorem row_bulk {len : Nat} {zs : List Int} {d : DataW H} (h : d = .nil ∧ zs = [] ∨ d = .slice (lits .u8 (zs.take len)) (lits .u8 (zs.drop len))) : (zs.take len).length ≤ Rows.uptoBulk d := by
  rcases h with ⟨e, e2⟩ | e
  · rw [e2]; simp
  · rw [e]
    have := bulk_slice (H := H) (lits .u8 (zs.take len)) (lits .u8 (zs.drop len))
    simp only [lits, List.length_map] at this ⊢
    omega

theorem open_packet {v : Value} {r : Reach} {b0 : Nat} (hv : Value.okWide Try.prog w r b0 29 v) {d : DataW H} {ps : List MemPlace} (hd : DataW.Trod enc Try.prog w base (fun _ => true) held 29 v d ps)
    (hw : ∀ n ∈ d.weights Try.prog 29, decide (n ≤ reachBytes) = true) :
    ∃ (P : Pk) (x y u : Value), v = P.val x y u ∧ InB w x P.dst ∧ InB w y P.src ∧ InB w u P.payload ∧ P.dst.length ≤ 140737488351232 ∧ P.src.length ≤ 140737488351232 ∧ P.payload.length ≤ 140737488351232 ∧ P.payload.length ≤ Rows.uptoBulk d := by
  have cP : Try.prog.cellsOf 29 = 6 := by kernel_rfl
  have c3 : Try.prog.cellsOf 3 = 1 := by kernel_rfl
  have c2 : Try.prog.cellsOf 2 = 1 := by kernel_rfl
  have cB : Try.prog.cellsOf 27 = 1 := by kernel_rfl
  simp only [Value.okWide, Try.underlying29] at hv
  obtain ⟨cs, rfl, hs, -⟩ := hv
  rw [cP] at hs
  obtain ⟨fuel, hf⟩ := hd
  obtain ⟨cs⟩ := cs
  match cs, hs with
  | [v0, v1, v2, v3, v4, v5], _ =>
    have hf' : DataW.trod enc Try.prog w base (fun _ => true) held fuel 29 [v0, v1, v2, v3, v4, v5] = some (d, ps) := by simpa [Value.cells] using hf
    obtain ⟨xs, m, -, hx, -, hxl, hff⟩ := DataW.trod_struct Try.underlying29 hf'
    match xs, hxl with
    | [y0, y1, y2, y3, y4, y5], _ =>
      have f0 := hff 0 _ rfl
      have f1 := hff 1 _ rfl
      have f2 := hff 2 _ rfl
      have f3 := hff 3 _ rfl
      have f4 := hff 4 _ rfl
      have f5 := hff 5 _ rfl
      simp [c2, c3, cB] at f0 f1 f2 f3 f4 f5
      obtain ⟨a0, e0, -⟩ := DataW.trod_int Try.underlying3 f0
      obtain ⟨a3, e3, -⟩ := DataW.trod_int Try.underlying2 f3
      obtain ⟨a4, e4, -⟩ := DataW.trod_int Try.underlying3 f4
      obtain ⟨p1, l1, k1, z1, e1, r1, q1⟩ := row_cells f1
      obtain ⟨p2, l2, k2, z2, e2, r2, q2⟩ := row_cells f2
      obtain ⟨p5, l5, k5, z5, e5, r5, q5⟩ := row_cells f5
      simp only [List.cons.injEq, and_true] at e0 e1 e2 e3 e4 e5
      subst e0 e1 e2 e3 e4 e5
      simp only [List.map_cons, List.map_nil, Prod.mk.injEq] at hx
      obtain ⟨rfl, -⟩ := hx
      have hw' : (DataW.weightsEach Try.prog [3, 27, 27, 2, 3, 27] [y0.1, y1.1, y2.1, y3.1, y4.1, y5.1]).all (· ≤ reachBytes) = true := by
        apply List.all_eq_true.2
        intro n hn
        refine hw n ?_
        unfold DataW.weights
        rw [Try.underlying29]
        exact hn
      have s1 := row_size hw' (j := 1) (zs := z1) rfl rfl q1
      have s2 := row_size hw' (j := 2) (zs := z2) rfl rfl q2
      have s5 := row_size hw' (j := 5) (zs := z5) rfl rfl q5
      have bk : (z5.take l5).length ≤ Rows.uptoBulk (.agg [y0.1, y1.1, y2.1, y3.1, y4.1, y5.1]) := by
        have h1 := bulk_among (d := y5.1) (l := [y0.1, y1.1, y2.1, y3.1, y4.1, y5.1]) (by simp)
        have h2 : (z5.take l5).length ≤ Rows.uptoBulk y5.1 := row_bulk q5
        have h3 : Rows.uptoBulk (.agg [y0.1, y1.1, y2.1, y3.1, y4.1, y5.1]) = Rows.uptoBulkAll [y0.1, y1.1, y2.1, y3.1, y4.1, y5.1] + 1 := by rw [Rows.uptoBulk]
        omega
      exact ⟨⟨a0, z1.take l1, z2.take l2, a3, a4, z5.take l5⟩, _, _, _, rfl, isRow_in r1, isRow_in r2, isRow_in r5, by simp only [List.length_take]; omega, by simp only [List.length_take]; omega, by simp only [List.length_take]; omega, bk⟩
end
end Go.Proofs.Ytpcnpdippnljpaa

namespace Go.Proofs.Ytpcnpdippnljpaa
open Go.RowKit
set_option linter.unusedVariables false
set_option linter.unusedSimpArgs false
set_option maxRecDepth 100000
set_option maxHeartbeats 4000000

/-- A packet with so many bytes 1. -/
def ones (p : Pk) (m : Nat) : Pk := { p with payload := List.replicate m 1 }
theorem ones_zero (p : Pk) : ones p 0 = { p with payload := [] } := rfl
theorem ovF_ones (p : Pk) (m : Nat) : ovF (ones p m) = ovF p := by rw [ovF_G, ovF_G]; rfl
theorem ones_enc {p : Pk} {m : Nat} (h0 : encE (ones p 0) = 0) (hm : p.space ≠ 2 → p.width + m ≤ 16383) : encE (ones p m) = 0 ∧ ((encB (ones p m)).length : Int) = overP p + m := by
  have e : encE (ones p m) = 0 := by
    unfold encE at h0 ⊢
    have k1 : badK (ones p m) ↔ badK (ones p 0) := Iff.rfl
    have k2 : badF (ones p m) ↔ badF (ones p 0) := Iff.rfl
    split at h0
    · cases h0
    · split at h0
      · cases h0
      · split at h0
        · cases h0
        · rename_i h1 h2 h3
          rw [if_neg (fun q => h1 (k1.1 q)), if_neg (fun q => h2 (k2.1 q)), if_neg]
          rintro (q | q | ⟨q1, q2⟩)
          · exact h3 (.inl q)
          · exact h3 (.inr (.inl q))
          · have := hm q1
            simp only [ones, List.length_replicate] at q2
            omega
  refine ⟨e, ?_⟩
  unfold encB
  rw [if_pos e, bytesP_len _ (enc_good e)]
  show overP p + ((List.replicate m (1 : Int)).length : Int) = _
  rw [List.length_replicate]
theorem room_nn (room : Int) (p : Pk) (ahead : Int) : 0 ≤ roomF room p ahead := by
  unfold roomF
  split
  · omega
  · rename_i h
    have hw := fun e => (ov_okh (p := p) e).w
    by_cases e : (ovF p).2 = 0
    · have := hw e
      split <;> omega
    · exact absurd (.inl e) h
theorem room_full {room : Int} {p : Pk} (h0 : encE (ones p 0) = 0) (hr : room ≤ 16383) (hn : roomF room p 0 ≠ 0) : overP p + roomF room p 0 = room ∧ (p.space ≠ 2 → p.width + roomF room p 0 + 1 ≤ 16383) := by
  have hg := ov_good (enc_good h0)
  rw [ovF_ones] at hg
  have ho : overP (ones p 0) = overP p := rfl
  rw [ho] at hg
  have gd := enc_good h0
  have hw : 1 ≤ p.width ∧ p.width ≤ 4 := gd.w
  have hov : 1 + p.width ≤ overP p ∧ (p.space ≠ 2 → 9 + p.width ≤ overP p) := by
    unfold overP
    refine ⟨?_, fun c => ?_⟩
    · split
      · omega
      · split <;> omega
    · rw [if_neg c]
      split <;> omega
  unfold roomF at hn ⊢
  rw [hg] at hn ⊢
  simp only at hn ⊢
  split at hn
  · exact absurd rfl hn
  · rename_i c
    rw [if_neg c]
    have c2 : ¬ room ≤ 0 := fun q => c (.inr (.inr q))
    by_cases c3 : p.space = 2
    · rw [if_pos c3] at hn ⊢
      exact ⟨by omega, fun q => absurd c3 q⟩
    · rw [if_neg c3] at hn ⊢
      have := hov.2 c3
      exact ⟨by omega, fun _ => by omega⟩
theorem bld_one {room : Int} {q : Pk} (h : encE q = 0) (h0 : 0 ≤ room) (h1 : room ≤ 65535) : bldF room 0 [q] = if room < (encB q).length then ([], [], 200) else (encB q, [((encB q).length : Int)], 0) := by
  have hp : padP q (0 - (([] : List Int).length : Int)) = q := by
    unfold padP
    have := ovF_in q
    rw [if_pos]
    simp only [List.length_nil]
    omega
  have hg : bldG 0 [q] [] [] = (encB q, [((encB q).length : Int)], 0) := by
    unfold bldG
    simp only [if_true, hp, h, List.nil_append]
    rfl
  unfold bldF
  rw [if_neg (by
    rintro (c | c | c | c | c)
    · omega
    · omega
    · omega
    · omega
    · cases c), hg]
  simp only [if_true]

theorem pks_one {w : World} {b : Nat} {q : Pk} {d s y : Value} (hb : Blk w b (q.cs d s y) 29) (hd : InB w d q.dst) (hs : InB w s q.src) (hy : InB w y q.payload) (l1 : q.dst.length ≤ 140737488351232) (l2 : q.src.length ≤ 140737488351232) (l3 : q.payload.length ≤ 140737488351232) : IsPks w (some ⟨b, 0, none⟩) 1 1 [⟨q, d, s, y⟩] := by
  refine ⟨rfl, by omega, fun x hx => ?_, fun x hx => ?_, .inr ⟨_, _, rfl, fun i x hi j hj => ?_⟩⟩
  · simp only [List.mem_singleton] at hx
    subst hx
    exact ⟨hd, hs, hy⟩
  · simp only [List.mem_singleton] at hx
    subst hx
    exact ⟨l1, l2, l3⟩
  · rcases i with _ | i
    · simp only [List.getElem?_cons_zero, Option.some.injEq] at hi
      subst hi
      have : j = 0 ∨ j = 1 ∨ j = 2 ∨ j = 3 ∨ j = 4 ∨ j = 5 := by omega
      rcases this with rfl | rfl | rfl | rfl | rfl | rfl <;> exact hb.cell _ _ rfl
    · simp at hi
theorem InB.belowB {w W : World} {v : Value} {l : List Int} (h : InB w v l) (b : Below w.heap.size w W) : InB W v l := by
  obtain ⟨a, c, e, hr, h1, h2, h3⟩ := h
  exact ⟨a, c, e, rd_below hr b, h1, h2, fun x ex hc => ⟨Nat.lt_of_lt_of_le (h3 x ex hc).1 b.size, Nat.ne_of_lt (Nat.lt_of_lt_of_le (h3 x ex hc).1 b.size), (h3 x ex hc).2.2⟩⟩

/-- While the payload grows. -/
structure FI (W3 : World) (p : Pk) (d s : Value) (m : Nat) (ya : Option Addr) (yc : Nat) (wr : World) : Prop where
  blk : Blk wr W3.heap.size ((ones p m).cs d s (.slice ya m yc)) 29
  own : OwnB (W3.heap.size + 1) wr (.slice ya m yc) (List.replicate m 1)
  bel : Below W3.heap.size W3 wr
theorem FI.grown {W3 wr wr' : World} {p : Pk} {d s : Value} {m : Nat} {ya : Option Addr} {yc : Nat} (h : FI W3 p d s m ya yc wr) (g : wr.grownBy wr' none) : FI W3 p d s m ya yc wr' :=
  ⟨h.blk.grown g, h.own.kept (fun x e => g.block x (h.own.ltb x e).2 (by simp)), ⟨g.os.trans h.bel.os, g.tape.trans h.bel.tape, g.output.trans h.bel.output, Nat.le_trans h.bel.size g.size, fun k hk => (g.block k (by have := h.blk.lt; omega) (by simp)).trans (h.bel.block k hk)⟩⟩
/-- One byte more. -/
theorem FI.push {W3 wr : World} {p : Pk} {d s : Value} {m : Nat} {ya : Option Addr} {yc : Nat} (h : FI W3 p d s m ya yc wr) (hm : m ≤ 100000) :
    ∃ ya' yc' w', (Builtin.append_ #[27, 27] 27 #[.slice ya m yc, .slice (some ⟨wr.heap.size, 0, none⟩) 1 1]).run Try.prog (wr.alloc (bts [1])) = .ok (.slice ya' (m + 1) yc') w' ∧ w'.cell? ⟨W3.heap.size, 5, none⟩ = some (.slice ya m yc) ∧ (∀ j, w'.frozen? ⟨W3.heap.size, j, none⟩ = false) ∧ FI W3 p d s (m + 1) ya' yc' (w'.setCell ⟨W3.heap.size, 5, none⟩ (.slice ya' (m + 1) yc')) := by
  have gA := World.grownBy_alloc wr (bts [1]) none
  have hA := h.grown gA
  have i1 : InB (wr.alloc (bts [1])) (.slice (some ⟨wr.heap.size, 0, none⟩) 1 1) [1] := InB.at rfl rfl (small_le (by simp)) (by simp [IsB])
  have hlt := h.blk.lt
  obtain ⟨v', w', hr, ho, hg⟩ := app_rd (wr.alloc (bts [1])) (W3.heap.size + 1) 27 _ _ hA.own _ [1] i1 (by rw [List.length_replicate]; simp; omega) (Nat.le_trans hlt gA.size)
  have e : List.replicate m (1 : Int) ++ [1] = List.replicate (m + 1) 1 := by rw [List.replicate_succ']
  rw [e] at ho
  obtain ⟨ya', yc', rfl⟩ := ho.shape
  rw [List.length_replicate] at hr ho
  have bne : ∀ x, (Value.slice ya m yc).ownBlock = some x → x ≠ W3.heap.size := fun x e => by have := (hA.own.ltb x e).1; omega
  have bW : Blk w' W3.heap.size ((ones p m).cs d s (.slice ya m yc)) 29 := (hg.block _ hA.blk.lt (fun e => bne _ e.symm rfl)).trans hA.blk
  have bel : Below W3.heap.size W3 w' := ⟨hg.os.trans hA.bel.os, hg.tape.trans hA.bel.tape, hg.output.trans hA.bel.output, Nat.le_trans hA.bel.size hg.size, fun k hk => (hg.block k (by have := hA.blk.lt; omega) (fun e => by have := (hA.own.ltb k e.symm).1; omega)).trans (hA.bel.block k hk)⟩
  refine ⟨ya', yc', w', hr, bW.cell 5 _ rfl, bW.thaws, bW.setC 5 _, ?_, ?_⟩
  · have gg := grown_at (World.grownBy.refl w' (some W3.heap.size)) 5 (.slice ya' (m + 1) yc')
    exact ho.far gg (fun q e => by cases e; omega)
  · have gg := grown_at (World.grownBy.refl w' (some W3.heap.size)) 5 (.slice ya' (m + 1) yc')
    exact ⟨gg.os.trans bel.os, gg.tape.trans bel.tape, gg.output.trans bel.output, Nat.le_trans bel.size gg.size, fun k hk => (gg.block k (by have := bel.size; omega) (by simp; omega)).trans (bel.block k hk)⟩
end Go.Proofs.Ytpcnpdippnljpaa

namespace Go.Proofs.Ytpcnpdippnljpaa
open Go.RowKit
set_option linter.unusedVariables false
set_option linter.unusedSimpArgs false
set_option maxRecDepth 100000
set_option maxHeartbeats 4000000

theorem fi_grown {w W3 wr : World} {p : Pk} {d s : Value} {m : Nat} {ya : Option Addr} {yc : Nat} (g : w.grownBy W3 none) (h : FI W3 p d s m ya yc wr) : w.grownBy wr none :=
  g.trans ⟨h.bel.os, h.bel.tape, h.bel.output, h.bel.size, fun k hk _ => h.bel.block k hk⟩
theorem overP_nn (p : Pk) (h : 1 ≤ p.width) : 0 ≤ overP p := by
  unfold overP
  split
  · omega
  · split <;> omega
theorem fills_walk (room : Int) (p : Pk) (d s y : Value) (w : World) (hd : InB w d p.dst) (hs : InB w s p.src) (hy : InB w y p.payload) (l1 : p.dst.length ≤ 140737488351232) (l2 : p.src.length ≤ 140737488351232) (l3 : p.payload.length ≤ 140737488351232) (r1 : -9223372036854775808 ≤ room ∧ room ≤ 9223372036854775807) :
    Calls Try.prog 6 #[.int .i64 room, p.val d s y] w fun e w' => e = .returned (.bool true) ∧ w.grownBy w' none := by
  have hdb := hd.bytes
  have hsb := hs.bytes
  obtain ⟨a1, c1, rfl, -⟩ := id hd
  obtain ⟨a2, c2, rfl, -⟩ := id hs
  obtain ⟨a3, c3, rfl, -⟩ := id hy
  have b0 := Blk.new w (p.cs (.slice a1 p.dst.length c1) (.slice a2 p.src.length c2) (.slice a3 p.payload.length c3)) 29
  have g0 := World.grownBy_alloc w (.cells (p.cs (.slice a1 p.dst.length c1) (.slice a2 p.src.length c2) (.slice a3 p.payload.length c3)) 29) none
  have HB := hide (And.intro hdb hsb)
  clear hdb hsb
  go_enter Try.func6, Try.ntmps6
  go_wp2_with fail
  refine (awake_any _).mono ?_
  rintro e W1 ⟨rfl, g1⟩
  have gA := g0.trans g1
  have b1 := b0.grown g1
  have x0 := b1.cell 0 (.int .i64 p.space) rfl
  have x1 := b1.cell 1 (.slice a1 p.dst.length c1) rfl
  have x2 := b1.cell 2 (.slice a2 p.src.length c2) rfl
  have x3 := b1.cell 3 (.int .i64 p.number) rfl
  have x4 := b1.cell 4 (.int .i64 p.width) rfl
  have x5 := b1.cell 5 (.slice a3 p.payload.length c3) rfl
  have rm := room_any room 0 p (.slice a1 p.dst.length c1) (.slice a2 p.src.length c2) (.slice a3 p.payload.length c3) W1 (hd.grown gA) (hs.grown gA) l1 l2 r1.2
  obtain ⟨n, hn⟩ : ∃ n, n = roomF room p 0 := ⟨_, rfl⟩
  have n0 := room_nn room p 0
  rw [← hn] at rm n0
  have HN := hide hn
  clear b0 g0 g1 hn
  go_wp2_with fail
  refine rm.mono ?_
  rintro e W2 ⟨rfl, g2⟩
  have nI : ¬ n < 0 := by omega
  have b2 := b1.grown g2
  have gB := gA.trans g2
  have y0 := b2.cell 0 (.int .i64 p.space) rfl
  have y1 := b2.cell 1 (.slice a1 p.dst.length c1) rfl
  have y2 := b2.cell 2 (.slice a2 p.src.length c2) rfl
  have y3 := b2.cell 3 (.int .i64 p.number) rfl
  have y4 := b2.cell 4 (.int .i64 p.width) rfl
  have y5 := b2.cell 5 (.slice a3 p.payload.length c3) rfl
  have cp := copied05 p (.slice a1 p.dst.length c1) (.slice a2 p.src.length c2) (.slice a3 p.payload.length c3) W2 (hd.grown gB) (hs.grown gB) (hy.grown gB) l1 l2 l3
  have GB := hide gB
  clear rm b1 gA x0 x1 x2 x3 x4 x5 g2 gB b2 hd hs hy
  go_wp2_with fail
  refine cp.mono ?_
  rintro e W3 ⟨e1, f1, e2, f2, e3, f3, rfl, o1, o2, o3, g3⟩
  have i1 := o1.inB (unhide HB).1
  have i2 := o2.inB (unhide HB).2
  obtain ⟨W4, hW4⟩ : ∃ W4, W4 = W3.alloc (.cells (p.cs (.slice e1 p.dst.length f1) (.slice e2 p.src.length f2) (.slice e3 p.payload.length f3)) 29) := ⟨_, rfl⟩
  have b4 := Blk.new W3 (p.cs (.slice e1 p.dst.length f1) (.slice e2 p.src.length f2) (.slice e3 p.payload.length f3)) 29
  have g4 := World.grownBy_alloc W3 (.cells (p.cs (.slice e1 p.dst.length f1) (.slice e2 p.src.length f2) (.slice e3 p.payload.length f3)) 29) none
  rw [← hW4] at b4 g4
  have F0 : FI W3 p (.slice e1 p.dst.length f1) (.slice e2 p.src.length f2) 0 none 0 (W4.setCell ⟨W3.heap.size, 5, none⟩ (.slice none 0 0)) :=
    ⟨b4.setC 5 _, World.ownsRow_nil _ _ _ _, by
      have gg := grown_at (World.grownBy.refl W4 (some W3.heap.size)) 5 (.slice none 0 0)
      exact ⟨gg.os.trans g4.os, gg.tape.trans g4.tape, gg.output.trans g4.output, Nat.le_trans g4.size gg.size, fun k hk => (gg.block k (by have := g4.size; omega) (by simp; omega)).trans (g4.block k hk (by simp))⟩⟩
  have k5 := b4.cell 5 (.slice e3 p.payload.length f3) rfl
  have t5 := b4.thaws
  have j1 := i1.belowB F0.bel
  have j2 := i2.belowB F0.bel
  have en := enc_own (ones p 0) (.slice e1 p.dst.length f1) (.slice e2 p.src.length f2) nilV _ j1 j2 (InX.nil _ _) l1 l2 (by simp [ones])
  obtain ⟨E, hE⟩ : ∃ E, E = encE (ones p 0) := ⟨_, rfl⟩
  obtain ⟨PB, hPB⟩ : ∃ PB, PB = encB (ones p 0) := ⟨_, rfl⟩
  rw [← hE, ← hPB] at en
  have z0 := F0.blk.cell 0 (.int .i64 p.space) rfl
  have z1 := F0.blk.cell 1 (.slice e1 p.dst.length f1) rfl
  have z2 := F0.blk.cell 2 (.slice e2 p.src.length f2) rfl
  have z3 := F0.blk.cell 3 (.int .i64 p.number) rfl
  have z4 := F0.blk.cell 4 (.int .i64 p.width) rfl
  have z5 := F0.blk.cell 5 (.slice none 0 0) rfl
  have HE := hide hE
  have II := hide (And.intro i1 (And.intro i2 (And.intro ((unhide GB).trans g3) F0)))
  clear cp y0 y1 y2 y3 y4 y5 o1 o2 o3 g3 i1 i2 b4 g4 F0 j1 j2 hE hPB
  go_upto_region 6 with fail
  rw [← hW4]
  replace hW4 := hide hW4
  obtain ⟨G, hG⟩ : ∃ G, G = W3.heap.size := ⟨_, rfl⟩
  rw [← hG] at k5 t5 en z0 z1 z2 z3 z4 z5 ⊢
  replace hG := hide hG
  go_wp2_with fail
  refine en.mono ?_
  rintro e W5 ⟨pa, pc, rfl, hoE, g5⟩
  clear en z0 z1 z2 z3 z4 z5 k5 t5 hoE
  have G5 := hide g5
  clear g5
  have DONE : Hid (∀ W, W5.grownBy W none → w.grownBy W none) := fun W g => by
    have gg := fi_grown (unhide II).2.2.1 (unhide II).2.2.2
    have g5 := unhide G5
    rw [unhide hG] at g5
    exact gg.trans (g5.trans g)
  by_cases n00 : n = 0
  · subst n00
    go_wp2_with fail
    go_ret
    exact ⟨rfl, unhide DONE _ (World.grownBy.refl _ none)⟩
  have n01 : ¬ n = 0 := n00
  by_cases rb : 16383 < room
  · go_wp2_with fail
    go_ret
    exact ⟨rfl, unhide DONE _ (World.grownBy.refl _ none)⟩
  by_cases hE0 : E = 0
  · subst hE0
    have FU : Hid (overP p + n = room ∧ (p.space ≠ 2 → p.width + n + 1 ≤ 16383) ∧ 0 ≤ overP p ∧ encE (ones p 0) = 0) := by
      have e0 := (unhide HE).symm
      have hn := unhide HN
      have rf := room_full (room := room) e0 (by omega) (by rw [← hn]; exact n00)
      rw [← hn] at rf
      exact ⟨rf.1, rf.2, overP_nn p (enc_good e0).w.1, e0⟩
    have nr : ¬ room < n := by
      have := unhide FU
      omega
    obtain ⟨N, rfl⟩ := Int.eq_ofNat_of_zero_le n0
    have N16 : N ≤ 16383 := by omega
    have I5 : Hid (FI W3 p (.slice e1 p.dst.length f1) (.slice e2 p.src.length f2) 0 none 0 W5) := by
      have g5 := unhide G5
      rw [unhide hG] at g5
      exact (unhide II).2.2.2.grown g5
    have nb : ((N : Int) == 0) = false := by simpa using n00
    clear HE HN
    go_wp2_with fail
    go_loopw [10] (fun iv wr => ∃ k : Nat, k ≤ N ∧ iv = .int .i64 k ∧ Hid (∃ ya yc, FI W3 p (.slice e1 p.dst.length f1) (.slice e2 p.src.length f2) k ya yc wr)) (fun iv _ => N - (intOf iv).toNat)
    case atStart => exact ⟨0, Nat.zero_le _, rfl, _, _, unhide I5⟩
    case round =>
      clear I5
      obtain ⟨k, hk, rfl, I⟩ := hrel
      obtain ⟨ya, yc, I⟩ := unhide I
      by_cases hlt : k < N
      · have hkI : (k : Int) < (N : Int) := by omega
        obtain ⟨ya', yc', w6, hr6, c6, t6, I6⟩ := I.push (by omega)
        have c5 := (I.grown (World.grownBy_alloc wr (bts [1]) none)).blk.cell 5 (.slice ya k yc) rfl
        have c4 := I.blk.cell 5 (.slice ya k yc) rfl
        rw [← unhide hG] at c4 c5 c6 t6 I6
        have I6' := hide I6
        replace hr6 := hide hr6
        clear I I6
        have FIN : Hid (∃ ya yc, FI W3 p (.slice e1 p.dst.length f1) (.slice e2 p.src.length f2) (k + 1) ya yc (w6.setCell ⟨G, 5, none⟩ (.slice ya' (k + 1) yc'))) := ⟨ya', yc', unhide I6'⟩
        clear I6'
        go_wp2_with (at_builtin; refine Kf.wpList_append_run _ rfl (Operand.tmp 54) (Operand.tmp 55) 27 27 rfl (.slice ya k yc) (.slice (some ⟨wr.heap.size, 0, none⟩) 1 1) rfl rfl (unhide hr6) ?_)
        exact ⟨⟨k + 1, hlt, by go_num, FIN⟩, by simp [intOf]; omega⟩
      · obtain rfl : k = N := by omega
        have hkI : ¬ (k : Int) < (k : Int) := by omega
        obtain ⟨fo, fw, fn, fe⟩ := unhide FU
        have ej := ones_enc (m := k) fe (fun c => by have := fw c; omega)
        have em := ones_enc (m := k + 1) fe (fun c => by have := fw c; omega)
        have bd1 : bldF room 0 [ones p k] = (encB (ones p k), [room], 0) := by
          rw [bld_one ej.1 (by omega) (by omega), if_neg (by rw [ej.2]; omega), ej.2, fo]
        have bd2 : bldF room 0 [ones p (k + 1)] = ([], [], 200) := by
          rw [bld_one em.1 (by omega) (by omega), if_pos (by rw [em.2]; omega)]
        have hl : ((encB (ones p k)).length : Int) = room := by rw [ej.2, fo]
        have iy : InB wr (.slice ya k yc) (ones p k).payload := by
          have := I.own.inB (fun x hx => by rw [List.eq_of_mem_replicate hx]; simp [IsB])
          exact this
        have gA := World.grownBy_alloc wr (.cells ((ones p k).cs (.slice e1 p.dst.length f1) (.slice e2 p.src.length f2) (.slice ya k yc)) 29) none
        have b6 := Blk.new wr ((ones p k).cs (.slice e1 p.dst.length f1) (.slice e2 p.src.length f2) (.slice ya k yc)) 29
        have hp := pks_one (q := ones p k) b6 (((unhide II).1.belowB I.bel).grown gA) (((unhide II).2.1.belowB I.bel).grown gA) (iy.grown gA) l1 l2 (by simp [ones]; omega)
        have bd := build_any room 0 _ 1 1 _ _ hp (by simp [tot, ones]; omega)
        rw [show ([⟨ones p k, .slice e1 p.dst.length f1, .slice e2 p.src.length f2, .slice ya k yc⟩] : List PV).map PV.p = [ones p k] from rfl, bd1] at bd
        obtain ⟨P1, hP1⟩ : ∃ P1, P1 = encB (ones p k) := ⟨_, rfl⟩
        rw [← hP1] at bd hl
        obtain ⟨w6, hw6⟩ : ∃ w6, w6 = wr.alloc (.cells ((ones p k).cs (.slice e1 p.dst.length f1) (.slice e2 p.src.length f2) (.slice ya k yc)) 29) := ⟨_, rfl⟩
        rw [← hw6] at bd gA
        have c0 := I.blk.cell 0 (.int .i64 p.space) rfl
        have c1' := I.blk.cell 1 (.slice e1 p.dst.length f1) rfl
        have c2' := I.blk.cell 2 (.slice e2 p.src.length f2) rfl
        have c3' := I.blk.cell 3 (.int .i64 p.number) rfl
        have c4 := I.blk.cell 4 (.int .i64 p.width) rfl
        have c5 := I.blk.cell 5 (.slice ya k yc) rfl
        rw [← unhide hG] at c0 c1' c2' c3' c4 c5
        have I7 := hide (I.grown gA)
        have BD := hide bd
        have EM := hide (And.intro bd2 em)
        have nb2 : ((P1.length : Int) != room) = false := by simpa using hl
        clear bd bd1 bd2 em ej hP1 hp b6 gA iy fe fo fw fn I
        have GG : Hid (∀ (m : Nat) (ya : Option Addr) (yc : Nat) (W W' : World), FI W3 p (.slice e1 p.dst.length f1) (.slice e2 p.src.length f2) m ya yc W → W.grownBy W' none → w.grownBy W' none) := fun m ya yc W W' h g => (fi_grown (unhide II).2.2.1 h).trans g
        go_wp2_with fail
        rw [show wr.alloc (.cells #[.int .i64 p.space, .slice e1 p.dst.length f1, .slice e2 p.src.length f2, .int .i64 p.number, .int .i64 p.width, .slice ya k yc] 29) = w6 from hw6.symm]
        replace hw6 := hide hw6
        refine (unhide BD).mono ?_
        rintro e w7 ⟨bv, sv, rfl, ob, os, g7⟩
        obtain ⟨ba, bc, rfl⟩ := ob.shape
        obtain ⟨sa, sc, rfl⟩ := os.shape
        have L2 : ([room] : List Int).length = 1 := rfl
        simp only [L2] at ob os ⊢
        obtain ⟨gs, rfl, hcs⟩ := os.cell 0 room rfl
        have I8 := (unhide I7).grown g7
        obtain ⟨ya', yc', w8, hr8, k6, t6, I9⟩ := I8.push (by omega)
        have k5 := (I8.grown (World.grownBy_alloc w7 (bts [1]) none)).blk.cell 5 (.slice ya k yc) rfl
        have k4 := I8.blk.cell 5 (.slice ya k yc) rfl
        obtain ⟨w9, hw9⟩ : ∃ w9, w9 = w8.setCell ⟨G, 5, none⟩ (.slice ya' (k + 1) yc') := ⟨_, rfl⟩
        rw [← unhide hG] at k4 k5 k6 t6 I9
        rw [← hw9] at I9
        have b9 := I9.blk
        rw [← unhide hG] at b9
        have d0 := b9.cell 0 (.int .i64 p.space) rfl
        have d1 := b9.cell 1 (.slice e1 p.dst.length f1) rfl
        have d2 := b9.cell 2 (.slice e2 p.src.length f2) rfl
        have d3 := b9.cell 3 (.int .i64 p.number) rfl
        have d4 := b9.cell 4 (.int .i64 p.width) rfl
        have d5 := b9.cell 5 (.slice ya' (k + 1) yc') rfl
        have gA := World.grownBy_alloc w9 (.cells ((ones p (k + 1)).cs (.slice e1 p.dst.length f1) (.slice e2 p.src.length f2) (.slice ya' (k + 1) yc')) 29) none
        have b6 := Blk.new w9 ((ones p (k + 1)).cs (.slice e1 p.dst.length f1) (.slice e2 p.src.length f2) (.slice ya' (k + 1) yc')) 29
        have iy : InB w9 (.slice ya' (k + 1) yc') (ones p (k + 1)).payload := by
          have := I9.own.inB (fun x hx => by rw [List.eq_of_mem_replicate hx]; simp [IsB])
          exact this
        have hp := pks_one (q := ones p (k + 1)) b6 (((unhide II).1.belowB I9.bel).grown gA) (((unhide II).2.1.belowB I9.bel).grown gA) (iy.grown gA) l1 l2 (by simp [ones]; omega)
        have bd := build_any room 0 _ 1 1 _ _ hp (by simp [tot, ones]; omega)
        rw [show ([⟨ones p (k + 1), .slice e1 p.dst.length f1, .slice e2 p.src.length f2, .slice ya' (k + 1) yc'⟩] : List PV).map PV.p = [ones p (k + 1)] from rfl, (unhide EM).1] at bd
        obtain ⟨w10, hw10⟩ : ∃ w10, w10 = w9.alloc (.cells ((ones p (k + 1)).cs (.slice e1 p.dst.length f1) (.slice e2 p.src.length f2) (.slice ya' (k + 1) yc')) 29) := ⟨_, rfl⟩
        rw [← hw10] at bd gA
        have DN : Hid (∀ W, w10.grownBy W none → w.grownBy W none) := fun W g => unhide GG _ _ _ w9 W I9 (gA.trans g)
        have BD2 := hide bd
        have HR := hide hr8
        clear bd hp iy b6 gA b9 I9 hr8 I8 os ob g7 c0 c1' c2' c3' c4 c5
        go_upto_region 20 with (at_builtin; refine Kf.wpList_append_run _ rfl _ _ 27 27 rfl (.slice ya k yc) (.slice (some ⟨w7.heap.size, 0, none⟩) 1 1) rfl rfl (unhide HR) ?_)
        rw [← hw9]
        replace hw9 := hide hw9
        clear k4 k5 k6 t6 HR
        go_wp2_with fail
        rw [show w9.alloc (.cells #[.int .i64 p.space, .slice e1 p.dst.length f1, .slice e2 p.src.length f2, .int .i64 p.number, .int .i64 p.width, .slice ya' (k + 1) yc'] 29) = w10 from hw10.symm]
        replace hw10 := hide hw10
        refine (unhide BD2).mono ?_
        rintro e w11 ⟨bv, sv, rfl, ob, os, g11⟩
        obtain ⟨ta, tc, rfl⟩ := ob.shape
        obtain ⟨ra, rc, rfl⟩ := os.shape
        have FIN := hide (unhide DN _ g11)
        simp only [List.length_nil]
        clear ob os g11 d0 d1 d2 d3 d4 d5
        go_wp2_with fail
        go_ret
        exact ⟨rfl, unhide FIN⟩
  · have bz : (E != 0) = true := by simpa using hE0
    go_wp2_with fail
    go_ret
    exact ⟨rfl, unhide DONE _ (World.grownBy.refl _ none)⟩
end Go.Proofs.Ytpcnpdippnljpaa

namespace Go.Proofs.Ytpcnpdippnljpaa
open Go.ChangeShapes Go.WideShapes Go.ChangeAt Go.RowKit
set_option linter.unusedVariables false
set_option maxRecDepth 100000
namespace packFillsFrame

theorem own : ownKnob Try.prog.godebug = none := by kernel_rfl
theorem laidOut : laidOutB Try.prog = true := by kernel_rfl

set_option maxRecDepth 100000 in
theorem lifted (os : Os) (started : os.Started) (H : Type) (enc : TypeId × Value → H) :
    ReturnsInHanded {} Try.checked os 6 .any (Rows.packFillsSpec.pre6 enc Try.prog Try.f6 Rows.packFillsRow.domain false) (Rows.packFillsSpec.post enc Try.prog Try.f6 false true false false) := by
  refine returnsInHanded_of_change_sized (C := Try.checked) own started (by kernel_rfl) Try.func6
    (ChangeSpec.witness6 (enc := enc) (C := Try.checked) false ⟨#[], #[.int .i64 0, .agg #[.int .i64 0, .slice none 0 0, .slice none 0 0, .int .i64 0, .int .i64 0, .slice none 0 0]], []⟩ 8 (by kernel_rfl) (by kernel_rfl) (by kernel_rfl) (by kernel_rfl)) ?_
  intro W base args ds gs before hval0 hW hcnd hsz0 _
  have hsz : (DataW.weightsEach Try.prog (Try.f6.params.toList ++ Rows.packFillsSpec.plain.varTypes Try.prog) (ds ++ gs)).all (· ≤ reachBytes) = true := hsz0
  have hval : ∀ (j : Nat) t v, Try.f6.params[j]? = some t → args[j]? = some v → Value.okWide Try.prog W .any base t v := hval0
  have hW' := hW
  obtain ⟨p, q, hA0, hV, rfl, hfz, hnd⟩ := hW
  have hA : DataW.TrodAll enc Try.prog W 0 (fun _ => true) true Try.f6.params.toList args.toList ds p := hA0
  rw [Try.params6] at hA hval hsz
  obtain ⟨v0, vs0, d0, ds0, p0, q0, hargs, rfl, rfl, h0, r0⟩ := trodAll_cons hA
  obtain ⟨v1, vs1, d1, ds1, p1, q1, rfl, rfl, rfl, h1, r1⟩ := trodAll_cons r0
  obtain ⟨rfl, rfl, rfl⟩ := trodAll_nil r1
  obtain rfl : args = #[v0, v1] := by cases args; simp_all
  obtain ⟨rfl, rfl⟩ := trodVars_none hV
  have k0 := h0
  have lt0 : ∀ x ∈ p0, x.block < W.heap.size := by obtain ⟨m, hm⟩ := k0; exact DataW.trod_lt m _ _ _ hm
  obtain ⟨a0, rfl, rfl, rfl, w0⟩ := open_int Try.underlying3 (hval 0 3 v0 rfl rfl) h0
  have k1 := h1
  have lt1 : ∀ x ∈ p1, x.block < W.heap.size := by obtain ⟨m, hm⟩ := k1; exact DataW.trod_lt m _ _ _ hm
  obtain ⟨P1, x1, y1, u1, rfl, i1, j1, l1, m1, n1, o1, b1⟩ := open_packet (hval 1 29 v1 rfl rfl) h1 (fun n hn => List.all_eq_true.1 hsz n (DataW.weights_mem_each (j := 1) rfl rfl n hn))
  clear hA0 hval0
  refine (fills_walk a0 P1 x1 y1 u1 W i1 j1 l1 m1 n1 o1 (wf_in w0)).mono fun e W' ⟨he, gr⟩ => ?_
  have bel := grown_bel gr
  subst he
  exact ⟨_, rfl, _, _, _, [], _, [], hW', trodAll_mk1 (shut_bool Try.underlying4 _), (trodAll_cons_mk (shut_int Try.underlying3 w0) (trodAll_cons_mk (Below.trod laidOut (by kernel_rfl) (of_decide_eq_true (by kernel_rfl)) k1 bel lt1) trodAll_mk0)), rfl, bel.frame _, fun h => by cases h⟩

theorem over : Rows.packFillsRow.holds Try.pinned (OpenSpec.ofChange Rows.packFillsSpec) :=
  OpenClaim.holds_of_wide 6 Try.f6 rfl rfl rfl rfl rfl rfl rfl ⟨rfl, rfl, rfl, rfl, rfl⟩ rfl rfl rfl rfl rfl (by kernel_rfl) Try.func6 (by kernel_rfl)
    (of_decide_eq_true (by kernel_rfl)) (by unfold Func.isWrapper; first | (rw [if_pos (by decide +kernel)]; kernel_rfl) | (rw [if_neg (by decide +kernel)]; exact ⟨rfl, rfl⟩))
    (fun os started H enc _ => lifted os started H enc)
end packFillsFrame

/-- THE STATEMENT -/
theorem packFills_holds : Rows.PackFillsSaid := packFillsFrame.over
end Go.Proofs.Ytpcnpdippnljpaa
