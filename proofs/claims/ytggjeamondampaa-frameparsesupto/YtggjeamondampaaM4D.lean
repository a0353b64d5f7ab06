/- F1D, WR, BK, F1F, F1B, F1P, F1R, F1S, one text. -/
import Derived.Test.YtggjeamondampaaFX6
import Derived.Test.YtggjeamondampaaF1A
import Derived.Test.YtggjeamondampaaBase
import Derived.ProofKit
import Derived.OpenShut
import Derived.Test.YtggjeamondampaaRows
import Derived.ShutString
import Derived.ChangeOld
import Derived.SizedLaws
import Derived.Laws.IdiomArrays
import Derived.Deep.Slices
import Derived.Test.YtggjeamondampaaFZ3
import Derived.Test.YtggjeamondampaaFX5
namespace Go.Proofs.Ytggjeamondampaa
open Go.RowKit
set_option linter.unusedVariables false
set_option maxRecDepth 100000
set_option maxHeartbeats 4000000

theorem OwnR.ownN {base : Nat} {w : World} {v : Value} {T : List (Int × Int)} (h : OwnR base w v T) : ∀ k, v.ownBlock = some k → base ≤ k := fun k hk => by
  rcases h.2 with ⟨rfl, -⟩ | ⟨b, c, cur, rfl, q1, -⟩
  · cases hk
  · injection hk with hk; exact hk ▸ q1
/-- More runs, whatever can be read. -/
theorem app_rdR {w0 W : World} {v : Value} {T e : List (Int × Int)} {a : Option Addr} (c : Nat) (h : OwnR w0.heap.size W v T) (hg : w0.grownBy W none) (hr : RdR W a e) (hb : (T.length + e.length) * 16 ≤ 140737488355328) :
    ∃ a' c' W', (∀ ty, (Builtin.append_ #[23, 23] ty #[v, .slice a e.length c]).run Try.prog W = .ok (.slice a' (T.length + e.length) c') W') ∧ OwnR w0.heap.size W' (.slice a' (T.length + e.length) c') (T ++ e) ∧ w0.grownBy W' none := by
  obtain ⟨inf, hi0, hz0, hz1, hz2⟩ := info_parts Try.info57
  by_cases he : e = []
  · subst he
    rcases h.2 with ⟨h1, h2⟩ | ⟨g, cap, cur, e1, -, -, hc, hx, -⟩
    · have h0 : T = [] := List.length_eq_zero_iff.1 h2
      subst h0 h1
      refine ⟨none, 0, W, fun ty => ?_, by simpa using h, hg⟩
      cases a <;> simp [Builtin.append_, run_underlying Try.underlying23, sizeOf, typeInfo, hi0, Builtin.lenOf, Builtin.firstCells, loadCells, loadCellsFrom]
    · subst e1
      refine ⟨_, cap, W, fun ty => ?_, by simpa using h, hg⟩
      cases a <;> simp [Builtin.append_, run_underlying Try.underlying23, sizeOf, typeInfo, hi0, Builtin.lenOf, Builtin.firstCells, loadCells, loadCellsFrom, hc, storeCells]
  · obtain ⟨b, off, rfl, hc⟩ := hr he
    obtain ⟨v', W', hrn, ho, hgr, hnil⟩ := run_append_own (P := Try.prog) W w0.heap.size 23 23 81 inf (.agg #[.int .i64 0, .int .i64 0]) 2 16 Try.underlying23 hi0 hz0 hz1 hz2 rfl (by decide) v T.length (clR T) h ⟨b, off, none⟩ e.length c (clR e) (clR_length e) (fun j u hj => by
      have hjl : j < e.length * 2 := by have := (List.getElem?_eq_some_iff.1 hj).1; rw [clR_length] at this; exact this
      have hadd : (⟨b, off, none⟩ : Addr).add j = ⟨b, off + j, none⟩ := by simp [Addr.add]
      rw [hadd]
      obtain ⟨g0, g1⟩ := clR_get e (j / 2) (by omega)
      obtain ⟨x0, x1⟩ := hc (j / 2) (by omega)
      rcases (by omega : j = j / 2 * 2 ∨ j = j / 2 * 2 + 1) with hh | hh
      · rw [hh, g0] at hj; injection hj with hj; rw [hh, ← hj]; exact x0
      · rw [hh, g1] at hj; injection hj with hj; rw [hh, ← hj, ← Nat.add_assoc]; exact x1) (fun u hu => by
      simp only [clR, List.mem_flatMap] at hu
      obtain ⟨s, -, hs⟩ := hu
      rcases List.mem_cons.1 hs with rfl | hs
      · rfl
      · obtain rfl := List.mem_singleton.1 hs; rfl) (by unfold maxLen; omega) (by omega) hg.size
    have e2 : (T ++ e).length = T.length + e.length := by simp
    have e3 : clR (T ++ e) = clR T ++ clR e := by simp [clR]
    have ho' : OwnR w0.heap.size W' v' (T ++ e) := by unfold OwnR; rw [e2, e3]; exact ho
    obtain ⟨a', c', rfl⟩ : ∃ a' c', v' = .slice a' (T.length + e.length) c' := by
      rcases ho.2 with ⟨e1, e2⟩ | ⟨g', c', cur, e1, -⟩
      · have := List.length_pos_iff.2 he; omega
      · exact ⟨_, _, e1⟩
    exact ⟨a', c', W', fun _ => hrn, ho', grown_own hg hgr h.ownN⟩

/-- What Size answers. -/
theorem sizeFr_any (f : Fr) (d r : Value) (w : World) (hF : FrIn w f d r) (hD : TS w d f.data) (hk : -9223372036854775808 ≤ f.kind ∧ f.kind ≤ 9223372036854775807) (hrl : f.runs.length * 16 ≤ 140737488351232) (hdl : f.data.length ≤ 140737488351232) :
    Calls Try.prog 13 #[f.val d r] w fun e w' => e = .returned (.tuple #[.int .i64 ((encF f).1.length : Int), .int .i64 (encF f).2]) ∧ w.grownBy w' none := by
  have hml : (f.runs.length : Int) ≤ MAXN := by unfold MAXN; omega
  have htl := hide (fun W (g : w.grownBy W none) => tell_any f d r W (hF.keep g) (hD.keep g) hk hrl)
  obtain ⟨C, hC⟩ : ∃ C, C = f.cs d r := ⟨_, rfl⟩
  have C17 : C.size = 17 := by rw [hC]; rfl
  have iC : (Try.prog.info? 26).map (·.size) = some C.size := by rw [C17]; exact Try.size26
  have e1 : f.val d r = .agg C := by rw [hC]
  rw [e1] at htl ⊢
  have B0 := Blk.new w C 26
  have g0 := World.grownBy_alloc w (.cells C 26) none
  have HB := hide B0
  have hte := unhide htl _ g0
  unfold TellPost at hte
  clear hF hD hk htl C17 e1 hC B0
  cases ht : tellF f with
  | inr x =>
    have hE : encF f = ([], x) := by unfold encF; rw [ht]
    rw [ht] at hte
    simp only at hte
    rw [hE]
    have hx := tell_err ht
    clear ht hE
    rcases hx with rfl | rfl
    all_goals
      go_enter Try.func13, Try.ntmps13
      go_wp2_with (first | (refine wpList_load_row rfl _ _ rfl w.heap.size rfl 26 C (0, 0) _ (unhide HB) Try.underlying26 rfl iC ?_) | (go_at_call 50; refine hte.mono ?_; rintro e W1 ⟨rfl, g1⟩))
      go_ret2
      exact ⟨rfl, g0.trans g1⟩
  | inl nr =>
    obtain ⟨n, rs⟩ := nr
    have hE : encF f = (encL n ++ rs, 0) := by unfold encF; rw [ht]
    rw [ht] at hte
    simp only at hte
    obtain ⟨rng, nlen, rsl, one⟩ := tell_ok ht hml
    have tot : (encL n).length + rs.length ≤ 140737488355328 ∧ n.length ≤ 100000000000000000 ∧ (encL n).length ≤ 140737488355328 := by
      have := encL_le n
      rcases one with e | e
      · rw [e] at nlen; simp at nlen
        rcases rsl with e2 | ⟨e2, -⟩
        · rw [e2]; omega
        · omega
      · rcases rsl with e2 | ⟨e2, e3⟩
        · rw [e2, e]; simp; omega
        · rw [e3] at nlen; simp at nlen; omega
    rw [hE]
    have e9 : ((encL n ++ rs).length : Int) = ((encL n).length : Int) + (rs.length : Int) := by simp
    simp only [e9]
    have HR := hide rng
    have HT := hide tot
    clear ht hE rng nlen rsl one tot hml hrl hdl e9
    go_enter Try.func13, Try.ntmps13
    go_upto_region 4 with (first | (refine wpList_load_row rfl _ _ rfl w.heap.size rfl 26 C (0, 0) _ (unhide HB) Try.underlying26 rfl iC ?_) | (go_at_call 50; refine hte.mono ?_; rintro e W1 ⟨v1, s1, rfl, o1, t1, g1⟩; obtain ⟨va, vc, rfl, vl1, vl2, vrd⟩ := o1.at; obtain ⟨sa, sc, rfl, srd, sl1, sl2⟩ := t1.ex))
    have hlen := length_any va sa n n.length vc rs.length sc W1 rfl vrd (unhide HR) ⟨vl1, vl2⟩ (unhide HT).2.1 (by have := (unhide HT).1; omega)
    have HG := hide (g0.trans g1)
    clear hte HB o1 t1 g0 g1 srd vrd
    go_wp2_with (first | (go_at_call 51; refine hlen.mono ?_; rintro e W9 ⟨rfl, hw⟩; replace hw := hw.symm; subst hw))
    go_ret2
    exact ⟨by simp, unhide HG⟩
end Go.Proofs.Ytggjeamondampaa

namespace Go.Proofs.Ytggjeamondampaa
open Go.ChangeShapes Go.WideShapes Go.ChangeAt Go.RowKit
set_option linter.unusedVariables false
set_option maxRecDepth 100000

/-- Nil; or it leads to a row of 'cap' cells, the numbers 'zs'. -/
def IsRow (k : IntKind) (w : World) (a : Option Addr) (len cap : Nat) (zs : List Int) : Prop :=
  (a = none ∧ len = 0 ∧ cap = 0 ∧ zs = []) ∨
  ∃ x, a = some x ∧ len ≤ cap ∧ cap ≤ maxLen ∧ zs.length = cap ∧ (∀ i, i < zs.length → w.cell? (x.add i) = some (.int k (zs.getD i 0))) ∧ ∀ n ∈ zs, (Lit.int k n).wf = true

theorem isRow_rd {w : World} {a : Option Addr} {len cap : Nat} {zs : List Int} (h : IsRow .u8 w a len cap zs) : (zs.take len).length = len ∧ Rd w a (zs.take len) ∧ len ≤ cap ∧ cap ≤ maxLen ∧ zs.length = cap := by
  rcases h with ⟨rfl, rfl, rfl, rfl⟩ | ⟨x, rfl, hl, hm, hz, hc, hw⟩
  · exact ⟨rfl, ⟨by simp, by simp⟩, Nat.le_refl _, by decide, rfl⟩
  · refine ⟨by simp; omega, ⟨fun y hy => ?_, fun hne => ?_⟩, hl, hm, hz⟩
    · exact bounds_u8 (hw y (List.mem_of_mem_take hy))
    · have hlen : 0 < len := by
        rcases Nat.eq_zero_or_pos len with h | h
        · subst h; simp at hne
        · exact h
      obtain ⟨b, off, spot⟩ := x
      have h0 := hc 0 (by omega)
      have hs : spot = none := by simpa [Addr.add] using World.cell?_spot h0
      subst hs
      refine ⟨b, off, rfl, fun i hi => ?_⟩
      have hi' : i < len := by simp at hi; omega
      have := hc i (by omega)
      rw [show (⟨b, off, none⟩ : Addr).add i = ⟨b, off + i, none⟩ by simp [Addr.add]] at this
      rw [this]
      congr 2
      simp [List.getD, hi']
end Go.Proofs.Ytggjeamondampaa

namespace Go.Proofs.Ytggjeamondampaa
set_option maxRecDepth 100000

theorem bulk_pos {H : Type} (d : DataW H) : 0 < Rows.uptoBulk d := by
  cases d with
  | lit l => cases l <;> simp [Rows.uptoBulk]
  | _ => simp [Rows.uptoBulk]

theorem bulk_count {H : Type} : ∀ l : List (DataW H), l.length ≤ Rows.uptoBulkAll l
  | [] => Nat.zero_le _
  | d :: r => by
    have h1 := bulk_pos d
    have h2 := bulk_count r
    simp only [Rows.uptoBulkAll, List.length_cons]
    omega

theorem bulk_slice {H : Type} (e s : List (DataW H)) : e.length + s.length < Rows.uptoBulk (.slice e s) := by
  have h1 := bulk_count e
  have h2 := bulk_count s
  simp only [Rows.uptoBulk]
  omega

theorem bulk_among {H : Type} {d : DataW H} : ∀ {l : List (DataW H)}, d ∈ l → Rows.uptoBulk d ≤ Rows.uptoBulkAll l
  | x :: r, h => by
    simp only [Rows.uptoBulkAll]
    rcases List.mem_cons.1 h with e | e
    · subst e; omega
    · have := bulk_among e; omega

theorem bulk_mem {H : Type} {d : DataW H} {l : List (DataW H)} (hk : Rows.uptoSmall H l = true) (h : d ∈ l) : Rows.uptoBulk d ≤ 1048576 := by
  have h1 : Rows.uptoBulkAll l ≤ 1048576 := of_decide_eq_true hk
  have h2 := bulk_among h
  omega
end Go.Proofs.Ytggjeamondampaa

namespace Go.Proofs.Ytggjeamondampaa
open Go.ChangeShapes Go.WideShapes Go.ChangeAt Go.RowKit
set_option linter.unusedVariables false
set_option maxRecDepth 100000

theorem cell_lt {w : World} {b o : Nat} {v : Value} (h : w.cell? ⟨b, o, none⟩ = some v) : b < w.heap.size := by
  by_cases c : b < w.heap.size
  · exact c
  · have e : w.heap[b]? = none := by simp; omega
    simp [World.cell?, e] at h

theorem grown_bel {w W : World} (h : w.grownBy W none) : Below w.heap.size w W := ⟨h.os, h.tape, h.output, h.size, fun i hi => h.block i hi (by simp)⟩

/-- Bytes that came in. -/
structure InS (w : World) (v : Value) (l : List Int) : Prop where
  ex : ∃ a c, v = .slice a l.length c ∧ Rd w a l ∧ l.length ≤ c ∧ c ≤ maxLen ∧ (∀ x, a = some x → c ≠ 0 → x.block < w.heap.size ∧ ∃ b o, x = ⟨b, o, none⟩)

theorem isRow_in {w : World} {a : Option Addr} {len cap : Nat} {zs : List Int} (h : IsRow .u8 w a len cap zs) : InS w (.slice a len cap) (zs.take len) := by
  obtain ⟨h1, h2, h3, h4, h5⟩ := isRow_rd h
  refine ⟨a, cap, by rw [h1], h2, by rw [h1]; exact h3, h4, fun x e hc => ?_⟩
  subst e
  rcases h with ⟨h, -⟩ | ⟨x', e, -, -, hz, hcell, -⟩
  · cases h
  · cases e
    obtain ⟨b, off, spot⟩ := x
    have h0 := hcell 0 (by omega)
    have hs : spot = none := by simpa [Addr.add] using World.cell?_spot h0
    subst hs
    rw [show (⟨b, off, none⟩ : Addr).add 0 = ⟨b, off, none⟩ by simp [Addr.add]] at h0
    exact ⟨cell_lt h0, _, _, rfl⟩

theorem list_of {α : Type} (d : α) (n : Nat) (p : Nat → α → Prop) (h : ∀ i, i < n → ∃ s, p i s) : ∃ L : List α, L.length = n ∧ ∀ i, i < n → p i (L.getD i d) := by
  induction n with
  | zero => exact ⟨[], rfl, fun i hi => by omega⟩
  | succ n ih =>
    obtain ⟨L, hL, hp⟩ := ih fun i hi => h i (by omega)
    obtain ⟨s, hs⟩ := h n (by omega)
    refine ⟨L ++ [s], by simp [hL], fun i hi => ?_⟩
    by_cases hin : i < n
    · have e : (L ++ [s]).getD i d = L.getD i d := by
        simp only [List.getD]
        rw [List.getElem?_append_left (by omega)]
      rw [e]
      exact hp i hin
    · obtain rfl : i = n := by omega
      have e : (L ++ [s]).getD i d = s := by
        simp only [List.getD]
        rw [List.getElem?_append_right (by omega), hL]
        simp
      rw [e]
      exact hs

section
variable {H : Type} {enc : TypeId × Value → H} {w : World} {base : Nat} {spare : Nat → Bool} {held : Bool}

theorem open_row {a : Option Addr} {len cap : Nat} {d : DataW H} {ps : List MemPlace} (hd : DataW.Trod enc Try.prog w base (fun _ => true) held 22 (.slice a len cap) d ps) : ∃ zs, IsRow .u8 w a len cap zs ∧ (d = .nil ∧ zs = [] ∨ d = .slice (lits .u8 (zs.take len)) (lits .u8 (zs.drop len))) := by
  obtain ⟨fuel, hf⟩ := hd
  rcases open_ints Try.underlying22 Try.underlying5 (by kernel_rfl) hf with ⟨hcs, hx⟩ | ⟨x, l, c, zs, hcs, _, hl, hm, hz, hx, hcell, hwz⟩
  · simp [Value.cells] at hcs
    obtain ⟨rfl, rfl, rfl⟩ := hcs
    simp only [Prod.mk.injEq] at hx
    exact ⟨[], .inl ⟨rfl, rfl, rfl, rfl⟩, .inl ⟨hx.1, rfl⟩⟩
  · simp [Value.cells] at hcs
    obtain ⟨rfl, rfl, rfl⟩ := hcs
    simp only [Prod.mk.injEq] at hx
    exact ⟨zs, .inr ⟨_, rfl, hl, hm, by simpa using hz, hcell, hwz⟩, .inr hx.1⟩

theorem row_size {ts : List TypeId} {ds : List (DataW H)} (hsz : (DataW.weightsEach Try.prog ts ds).all (· ≤ reachBytes) = true) {j len : Nat} {zs : List Int} {d : DataW H} (ht : ts[j]? = some 22) (hd : ds[j]? = some d)
    (h : d = .nil ∧ zs = [] ∨ d = .slice (lits .u8 (zs.take len)) (lits .u8 (zs.drop len))) : zs.length ≤ 140737488351232 := by
  rcases h with ⟨-, rfl⟩ | h
  · simp
  · have hb : Try.prog.bytesOf 5 = 1 := by kernel_rfl
    subst h
    have := sized_slice hsz ht hd Try.underlying22
    rw [hb] at this
    simp only [lits, List.length_map, List.length_take, List.length_drop, reachBytes] at this
    omega

theorem row_bulk {len : Nat} {zs : List Int} {d : DataW H} (h : d = .nil ∧ zs = [] ∨ d = .slice (lits .u8 (zs.take len)) (lits .u8 (zs.drop len))) : (zs.take len).length ≤ Rows.uptoBulk d := by
  rcases h with ⟨e, e2⟩ | e
  · rw [e2]; simp
  · rw [e]
    have := bulk_slice (H := H) (lits .u8 (zs.take len)) (lits .u8 (zs.drop len))
    simp only [lits, List.length_map] at this ⊢
    omega

theorem row_cells {fuel : Nat} {cs : List Value} {x : DataW H × List MemPlace} (hf : DataW.trod enc Try.prog w base (fun _ => true) held fuel 22 cs = some x) :
    ∃ a len cap zs, cs = [.slice a len cap] ∧ IsRow .u8 w a len cap zs ∧ (x.1 = .nil ∧ zs = [] ∨ x.1 = .slice (lits .u8 (zs.take len)) (lits .u8 (zs.drop len))) := by
  rcases open_ints Try.underlying22 Try.underlying5 (by kernel_rfl) hf with ⟨hcs, hx⟩ | ⟨x', l, c, zs, hcs, _, hl, hm, hz, hx, hcell, hwz⟩
  · subst hcs hx
    exact ⟨none, 0, 0, [], rfl, .inl ⟨rfl, rfl, rfl, rfl⟩, .inl ⟨rfl, rfl⟩⟩
  · subst hcs hx
    exact ⟨_, l, c, zs, rfl, .inr ⟨_, rfl, hl, hm, by simpa using hz, hcell, hwz⟩, .inr rfl⟩

theorem wf_i64 {z : Int} (h : (Lit.int .i64 z).wf = true) : -9223372036854775808 ≤ z ∧ z ≤ 9223372036854775807 := by
  simp [Lit.wf, IntKind.min, IntKind.max] at h
  exact ⟨of_decide_eq_true h.1, of_decide_eq_true h.2⟩

theorem span_cells {n : Nat} {cs : List Value} {y : DataW H × List MemPlace} (h2 : DataW.trod enc Try.prog w base spare held n 81 cs = some y) (hl : cs.length = 2) :
    ∃ lo hi : Int, cs = [.int .i64 lo, .int .i64 hi] ∧ -9223372036854775808 ≤ lo ∧ lo ≤ 9223372036854775807 := by
  obtain ⟨xs, m, hk, hxy, hcl, hxl, hf⟩ := DataW.trod_struct Try.underlying81 h2
  have c2 : Try.prog.cellsOf 2 = 1 := by kernel_rfl
  match xs, hxl, cs, hl with
  | [y0, y1], _, [v0, v1], _ =>
    have f0 := hf 0 _ rfl
    have f1 := hf 1 _ rfl
    simp [c2] at f0 f1
    obtain ⟨lo, e0, _, r0⟩ := DataW.trod_int Try.underlying2 f0
    obtain ⟨hi, e1, _, r1⟩ := DataW.trod_int Try.underlying2 f1
    simp only [List.cons.injEq, and_true] at e0 e1
    subst e0 e1
    exact ⟨lo, hi, rfl, wf_i64 r0⟩

/-- Runs that came in. -/
theorem span_row {fuel : Nat} {cs : List Value} {x : DataW H × List MemPlace} (hf : DataW.trod enc Try.prog w base spare held fuel 23 cs = some x) :
    ∃ (a : Option Addr) (len cap : Nat) (L : List (Int × Int)), cs = [.slice a len cap] ∧ L.length = len ∧ RdR w a L ∧ len ≤ cap ∧ cap ≤ 9223372036854775807 ∧ (∀ s ∈ L, -9223372036854775808 ≤ s.1 ∧ s.1 ≤ 9223372036854775807) ∧ len ≤ Rows.uptoBulk x.1 ∧ (x.1 = .nil ∧ len = 0 ∨ ∃ e s : List (DataW H), x.1 = .slice e s ∧ e.length = len) := by
  have c4 : Try.prog.cellsOf 81 = 2 := by kernel_rfl
  rcases Go.Deep.open_slice Try.underlying23 hf with ⟨hcs, hxn⟩ | ⟨ad, l, c, m, n, D, Pl, hcs, _, hl, hm, hmm, hxx, hx⟩
  · subst hcs
    refine ⟨none, 0, 0, [], rfl, rfl, fun h => absurd rfl h, by omega, by omega, (fun s hs => by cases hs), by omega, .inl ⟨?_, rfl⟩⟩
    rw [hxn]
  · subst hcs
    unfold maxLen at hm
    have hlm : l ≤ m := by rw [hmm]; split <;> omega
    have each : ∀ i, i < l → ∃ s : Int × Int, (∀ j v, [Value.int .i64 s.1, .int .i64 s.2][j]? = some v → w.cell? (ad.add (i * 2) |>.add j) = some v) ∧ -9223372036854775808 ≤ s.1 ∧ s.1 ≤ 9223372036854775807 := fun i hi => by
      obtain ⟨cs', h1, h2⟩ := hx i (by omega)
      rw [c4] at h1
      obtain ⟨_, hlen, hcell⟩ := World.cells?_some h1
      obtain ⟨lo, hi', rfl, r⟩ := span_cells h2 hlen
      exact ⟨(lo, hi'), fun j v hj => by rw [hcell j (by have := (List.getElem?_eq_some_iff.1 hj).1; simpa using this)]; exact hj, r⟩
    obtain ⟨L, hL, hp⟩ := list_of (0, 0) l _ each
    have sp : 0 < l → ad.spot = none := fun h0 => by
      have := (hp 0 h0).1 0 _ rfl
      unfold World.cell? at this
      split at this
      · split at this
        · cases this
        · rename_i hsp
          cases hsq : ad.spot with
          | none => rfl
          | some q => simp [Addr.add, hsq] at hsp
      · cases this
    refine ⟨some ad, l, c, L, rfl, hL, fun hne => ?_, hl, by omega, fun s hs => ?_, ?_, .inr ?_⟩
    · have h0 : 0 < l := by
        rw [← hL]
        exact List.length_pos_iff.2 hne
      have hs := sp h0
      obtain ⟨bb, off, sp⟩ := ad
      simp only at hs
      subst hs
      refine ⟨bb, off, rfl, fun i hi => ?_⟩
      have q0 := (hp i (by omega)).1 0 _ rfl
      have q1 := (hp i (by omega)).1 1 _ rfl
      simp only [Addr.add_lit, Nat.add_zero] at q0 q1
      exact ⟨q0, q1⟩
    · obtain ⟨i, hi, rfl⟩ := List.mem_iff_getElem.1 hs
      have := (hp i (by omega)).2
      simpa [List.getD, hi] using this
    · rw [hxx]
      have := bulk_slice (H := H) ((List.range l).map D) ((List.range (m - l)).map fun j => D (l + j))
      simp only [List.length_map, List.length_range] at this
      simp only
      omega
    · exact ⟨_, _, by rw [hxx], by simp⟩

theorem open_frame {v : Value} {r : Reach} {b0 : Nat} (hv : Value.okWide Try.prog w r b0 26 v) {d : DataW H} {ps : List MemPlace} (hd : DataW.Trod enc Try.prog w base (fun _ => true) held 26 v d ps)
    (hw : ∀ n ∈ d.weights Try.prog 26, decide (n ≤ reachBytes) = true) :
    ∃ (f : Fr) (x y : Value), v = f.val x y ∧ FrIn w f x y ∧ TS w x f.data ∧ (-9223372036854775808 ≤ f.kind ∧ f.kind ≤ 9223372036854775807) ∧ f.data.length ≤ 140737488351232 ∧ f.runs.length * 16 ≤ 140737488351232 ∧ f.data.length ≤ Rows.uptoBulk d ∧ f.runs.length ≤ Rows.uptoBulk d := by
  have cP : Try.prog.cellsOf 26 = 17 := by kernel_rfl
  have c3 : Try.prog.cellsOf 3 = 1 := by kernel_rfl
  have c2 : Try.prog.cellsOf 2 = 1 := by kernel_rfl
  have c4 : Try.prog.cellsOf 4 = 1 := by kernel_rfl
  have cB : Try.prog.cellsOf 22 = 1 := by kernel_rfl
  have cS : Try.prog.cellsOf 23 = 1 := by kernel_rfl
  have cA : Try.prog.cellsOf 24 = 3 := by kernel_rfl
  simp only [Value.okWide, Try.underlying26] at hv
  obtain ⟨cs, rfl, hs, -⟩ := hv
  rw [cP] at hs
  obtain ⟨fuel, hf⟩ := hd
  obtain ⟨cs⟩ := cs
  match cs, hs with
  | [v0, v1, v2, v3, v4, v5, v6, v7, v8, v9, v10, v11, v12, v13, v14, v15, v16], _ =>
    have hf' : DataW.trod enc Try.prog w base (fun _ => true) held fuel 26 [v0, v1, v2, v3, v4, v5, v6, v7, v8, v9, v10, v11, v12, v13, v14, v15, v16] = some (d, ps) := by simpa [Value.cells] using hf
    obtain ⟨xs, m, -, hx, -, hxl, hff⟩ := DataW.trod_struct Try.underlying26 hf'
    match xs, hxl with
    | [y0, y1, y2, y3, y4, y5, y6, y7, y8, y9, y10, y11, y12, y13, y14], _ =>
      have f0 := hff 0 _ rfl
      have f1 := hff 1 _ rfl
      have f2 := hff 2 _ rfl
      have f3 := hff 3 _ rfl
      have f4 := hff 4 _ rfl
      have f5 := hff 5 _ rfl
      have f6 := hff 6 _ rfl
      have f7 := hff 7 _ rfl
      have f8 := hff 8 _ rfl
      have f9 := hff 9 _ rfl
      have f10 := hff 10 _ rfl
      have f11 := hff 11 _ rfl
      have f12 := hff 12 _ rfl
      have f13 := hff 13 _ rfl
      have f14 := hff 14 _ rfl
      simp [c2, c3, c4, cB, cS, cA] at f0 f1 f2 f3 f4 f5 f6 f7 f8 f9 f10 f11 f12 f13 f14
      obtain ⟨a0, e0, -, w0⟩ := DataW.trod_int Try.underlying3 f0
      obtain ⟨a1, e1, -⟩ := DataW.trod_int Try.underlying2 f1
      obtain ⟨a2, e2, -⟩ := DataW.trod_int Try.underlying2 f2
      obtain ⟨a4, e4, -⟩ := DataW.trod_int Try.underlying2 f4
      obtain ⟨a5, e5, -⟩ := DataW.trod_bool Try.underlying4 f5
      obtain ⟨a6, e6, -⟩ := DataW.trod_bool Try.underlying4 f6
      obtain ⟨a7, e7, -⟩ := DataW.trod_int Try.underlying2 f7
      obtain ⟨a8, e8, -⟩ := DataW.trod_bool Try.underlying4 f8
      obtain ⟨a9, e9, -⟩ := DataW.trod_int Try.underlying2 f9
      obtain ⟨a10, e10, -⟩ := DataW.trod_bool Try.underlying4 f10
      obtain ⟨a11, e11, -⟩ := DataW.trod_int Try.underlying2 f11
      obtain ⟨a13, e13, -⟩ := DataW.trod_bool Try.underlying4 f13
      obtain ⟨p3, l3, k3, z3, e3, r3, q3⟩ := row_cells f3
      obtain ⟨p12, l12, k12, L, e12, hL, rL, lc, lm, l64, lb, lw⟩ := span_row f12
      obtain ⟨u0, u1, u2, n, -, g0, g1, g2⟩ := trod_array3 Try.underlying24 c2 f14
      obtain ⟨b0, e14, -⟩ := DataW.trod_int Try.underlying2 g0
      obtain ⟨b1, e15, -⟩ := DataW.trod_int Try.underlying2 g1
      obtain ⟨b2, e16, -⟩ := DataW.trod_int Try.underlying2 g2
      simp only [List.cons.injEq, and_true] at e0 e1 e2 e3 e4 e5 e6 e7 e8 e9 e10 e11 e12 e13 e14 e15 e16
      subst e0 e1 e2 e3 e4 e5 e6 e7 e8 e9 e10 e11 e12 e13 e14 e15 e16
      simp only [List.map_cons, List.map_nil, Prod.mk.injEq] at hx
      obtain ⟨rfl, -⟩ := hx
      have hw' : (DataW.weightsEach Try.prog [3, 2, 2, 22, 2, 4, 4, 2, 4, 2, 4, 2, 23, 4, 24] [y0.1, y1.1, y2.1, y3.1, y4.1, y5.1, y6.1, y7.1, y8.1, y9.1, y10.1, y11.1, y12.1, y13.1, y14.1]).all (· ≤ reachBytes) = true := by
        apply List.all_eq_true.2
        intro n hn
        refine hw n ?_
        unfold DataW.weights
        rw [Try.underlying26]
        exact hn
      have s3 := row_size hw' (j := 3) (zs := z3) rfl rfl q3
      have s12 : L.length * 16 ≤ 140737488351232 := by
        rcases lw with ⟨-, e⟩ | ⟨e, s, hxe, hle⟩
        · omega
        · have hb : Try.prog.bytesOf 81 = 16 := by kernel_rfl
          have := sized_slice hw' (j := 12) (t := 23) (e := 81) rfl (by rw [← hxe]; rfl) Try.underlying23
          rw [hb] at this
          simp only [reachBytes] at this
          omega
      have h3 : Rows.uptoBulk (.agg [y0.1, y1.1, y2.1, y3.1, y4.1, y5.1, y6.1, y7.1, y8.1, y9.1, y10.1, y11.1, y12.1, y13.1, y14.1]) = Rows.uptoBulkAll [y0.1, y1.1, y2.1, y3.1, y4.1, y5.1, y6.1, y7.1, y8.1, y9.1, y10.1, y11.1, y12.1, y13.1, y14.1] + 1 := by rw [Rows.uptoBulk]
      have bk : (z3.take l3).length ≤ Rows.uptoBulk (.agg [y0.1, y1.1, y2.1, y3.1, y4.1, y5.1, y6.1, y7.1, y8.1, y9.1, y10.1, y11.1, y12.1, y13.1, y14.1]) := by
        have h1 := bulk_among (d := y3.1) (l := [y0.1, y1.1, y2.1, y3.1, y4.1, y5.1, y6.1, y7.1, y8.1, y9.1, y10.1, y11.1, y12.1, y13.1, y14.1]) (by simp)
        have h2 : (z3.take l3).length ≤ Rows.uptoBulk y3.1 := row_bulk q3
        omega
      have bk2 : L.length ≤ Rows.uptoBulk (.agg [y0.1, y1.1, y2.1, y3.1, y4.1, y5.1, y6.1, y7.1, y8.1, y9.1, y10.1, y11.1, y12.1, y13.1, y14.1]) := by
        have h1 := bulk_among (d := y12.1) (l := [y0.1, y1.1, y2.1, y3.1, y4.1, y5.1, y6.1, y7.1, y8.1, y9.1, y10.1, y11.1, y12.1, y13.1, y14.1]) (by simp)
        omega
      obtain ⟨i1, i2, i3, i4, i5⟩ := isRow_rd r3
      have i4' : k3 ≤ 9223372036854775807 := by unfold maxLen at i4; omega
      subst hL
      refine ⟨⟨a0, a1, a2, z3.take l3, a4, a5, a6, a7, a8, a9, a10, a11, L, a13, b0, b1, b2⟩, .slice p3 l3 k3, .slice p12 L.length k12, rfl, ⟨⟨p3, k3, by rw [i1], by rw [i1]; exact i3, i4'⟩, ⟨p12, k12, rfl, rL, lc, lm⟩, l64⟩, ⟨p3, k3, by rw [i1], i2, by rw [i1]; exact i3, i4'⟩, wf_i64 w0, by simp only [List.length_take]; omega, s12, bk, bk2⟩
end
end Go.Proofs.Ytggjeamondampaa

namespace Go.Proofs.Ytggjeamondampaa
open Go.RowKit
set_option linter.unusedVariables false
set_option linter.unusedSimpArgs false
set_option maxRecDepth 100000
set_option maxHeartbeats 1000000

theorem frame_empty {w : World} {g : Nat} {a : Option Addr} {c : Nat} (hb : Blk w g (rdr (.slice a 0 c) 0 0) 105) (hc : c ≤ maxLen) :
    Calls Try.prog 58 #[.pointer (some ⟨g, 0, none⟩)] w fun e w' => (∃ v : Int, e = .panicked [{ v := .iface 32 (.int .i64 v), recovered := false }]) ∧ (∃ at_ : Int, Blk w' g (rdr (.slice a 0 c) at_ 40) 105) ∧ w.grownBy w' (some g) := by
  have gA := World.grownBy_alloc w (.cells #[.int .i64 0, .int .i64 0, .int .i64 0, .slice none 0 0, .int .i64 0, .bool false, .bool false, .int .i64 0, .bool false, .int .i64 0, .bool false, .int .i64 0, .slice none 0 0, .bool false, .int .i64 0, .int .i64 0, .int .i64 0] 26) none
  have hnu := number_no g a [] c 0 0 _ (hb.alloc (.cells #[.int .i64 0, .int .i64 0, .int .i64 0, .slice none 0 0, .int .i64 0, .bool false, .bool false, .int .i64 0, .bool false, .int .i64 0, .bool false, .int .i64 0, .slice none 0 0, .bool false, .int .i64 0, .int .i64 0, .int .i64 0] 26)) ⟨by simp, fun h => absurd rfl h⟩ (Nat.zero_le _) hc (Nat.le_refl _) rfl
  have k1 : (w.alloc (.cells #[.int .i64 0, .int .i64 0, .int .i64 0, .slice none 0 0, .int .i64 0, .bool false, .bool false, .int .i64 0, .bool false, .int .i64 0, .bool false, .int .i64 0, .slice none 0 0, .bool false, .int .i64 0, .int .i64 0, .int .i64 0] 26)).cell? ⟨g, 1, none⟩ = some (.int .i64 0) := (hb.alloc _).cell 1 _ rfl
  have HA := hide gA
  clear gA hb
  go_enter Try.func58, Try.ntmps58
  go_wp2_with fail
  refine hnu.mono ?_
  rintro e W1 ⟨⟨pv, rfl⟩, hb1, hg⟩
  go_wp2_with fail
  exact ⟨rfl, ⟨_, rfl⟩, ⟨_, hb1⟩, grown_add (grown_some (unhide HA) g) hg (fun k e => by cases e; exact .inr rfl)⟩

theorem decode_in {w : World} {v : Value} {l : List Int} {k : Nat} (h : InS w v l) (hk : k ≤ l.length) (hl : l.length ≤ 4000000000000) :
    Calls Try.prog 23 #[v, .int .i64 (k : Int)] w (DecPost w l k) := by
  obtain ⟨a, c, rfl, h1, h2, h3, h4⟩ := h.ex
  by_cases he : l = []
  · subst he
    obtain rfl : k = 0 := by simpa using hk
    refine decode_of (l := []) (k := 0) (Nat.le_refl _) (by simp) fun W g hg hgg hb => ?_
    refine (frame_empty hb h3).mono ?_
    rintro e w' ⟨he, hb, hg⟩
    exact .inr ⟨40, rfl, he, hb, hg⟩
  · have hc : c ≠ 0 := by have := List.length_pos_iff.2 he; omega
    exact decode_any hk ⟨h1, h2, h3, fun x hx => (h4 x hx hc).1, fun x hx => (h4 x hx hc).2, hl⟩

theorem arg_blks (w : World) : Blk (((w.alloc (.cells (Fr.zero.cs nilS nilS) 26)).alloc (.cells #[.int .i64 0] 3)).alloc (.cells #[.int .i64 1] 32)) w.heap.size (Fr.zero.cs nilS nilS) 26 ∧
    Blk (((w.alloc (.cells (Fr.zero.cs nilS nilS) 26)).alloc (.cells #[.int .i64 0] 3)).alloc (.cells #[.int .i64 1] 32)) (w.heap.size + 1) #[.int .i64 0] 3 ∧
    Blk (((w.alloc (.cells (Fr.zero.cs nilS nilS) 26)).alloc (.cells #[.int .i64 0] 3)).alloc (.cells #[.int .i64 1] 32)) (w.heap.size + 1 + 1) #[.int .i64 1] 32 ∧
    w.grownBy (((w.alloc (.cells (Fr.zero.cs nilS nilS) 26)).alloc (.cells #[.int .i64 0] 3)).alloc (.cells #[.int .i64 1] 32)) none := by
  obtain ⟨b1, b2, g⟩ := Blk.two w (Fr.zero.cs nilS nilS) #[.int .i64 0] 26 3
  refine ⟨b1.alloc _, b2.alloc _, ?_, g.trans (World.grownBy_alloc _ _ none)⟩
  have h := Blk.new ((w.alloc (.cells (Fr.zero.cs nilS nilS) 26)).alloc (.cells #[.int .i64 0] 3)) #[.int .i64 1] 32
  have e : ((w.alloc (.cells (Fr.zero.cs nilS nilS) 26)).alloc (.cells #[.int .i64 0] 3)).heap.size = w.heap.size + 1 + 1 := by
    show ((w.heap.push _).push _).size = _
    simp
  rw [e] at h
  exact h
/-- A place outside. -/
theorem decode_arg (a : Option Addr) (n c : Nat) (i : Int) (w : World) (h : i < 0 ∨ (n : Int) < i) (hn : n ≤ maxLen) :
    Calls Try.prog 23 #[.slice a n c, .int .i64 i] w fun e w' => e = .returned (.tuple #[Fr.zero.val nilS nilS, .int .i64 0, .int .i64 1]) ∧ w.grownBy w' none := by
  rcases (by omega : i < 0 ∨ (¬ i < 0 ∧ (n : Int) < i)) with hh | ⟨h0, hh⟩
  · have k1 : decide (i < 0) = true := decide_eq_true hh
    go_enter_defers Try.func23, Try.ntmps23
    go_wp2_with fail
    exact ⟨_, results_cvv (p := 4) (q := 5) (u := 6) (tp := 26) (tq := 3) (tu := 32) Try.results23 _ _ w.heap.size (w.heap.size + 1) (w.heap.size + 1 + 1) (Fr.zero.cs nilS nilS) _ (.int .i64 0) (.int .i64 1) rfl rfl rfl (arg_blks w).1 Try.underlying26 rfl Try.size26 (load3 ((arg_blks w).2.1.cell 0 _ rfl)) (loadE ((arg_blks w).2.2.1.cell 0 _ rfl)), rfl, (arg_blks w).2.2.2⟩
  · have k1 : decide (i < 0) = false := decide_eq_false h0
    have k3 : decide ((n : Int) < i) = true := decide_eq_true hh
    go_enter_defers Try.func23, Try.ntmps23
    go_wp2_with fail
    exact ⟨_, results_cvv (p := 4) (q := 5) (u := 6) (tp := 26) (tq := 3) (tu := 32) Try.results23 _ _ w.heap.size (w.heap.size + 1) (w.heap.size + 1 + 1) (Fr.zero.cs nilS nilS) _ (.int .i64 0) (.int .i64 1) rfl rfl rfl (arg_blks w).1 Try.underlying26 rfl Try.size26 (load3 ((arg_blks w).2.1.cell 0 _ rfl)) (loadE ((arg_blks w).2.2.1.cell 0 _ rfl)), rfl, (arg_blks w).2.2.2⟩
end Go.Proofs.Ytggjeamondampaa

namespace Go.Proofs.Ytggjeamondampaa
open Go.RowKit
set_option linter.unusedVariables false
set_option linter.unusedSimpArgs false
set_option maxRecDepth 100000
set_option maxHeartbeats 4000000

theorem shape_list {k : Int} {bare : Fr} {l : Parts} (hs : shapeF k = some (bare, l)) : k = 0 ∨ k = 1 ∨ k = 30 ∨ k = 2 ∨ k = 3 ∨ k = 4 ∨ k = 5 ∨ k = 6 ∨ k = 8 ∨ k = 9 ∨ k = 10 ∨ k = 11 ∨ k = 12 ∨ k = 13 ∨ k = 14 ∨ k = 15 ∨ k = 16 ∨ k = 20 ∨ k = 17 ∨ k = 21 ∨ k = 19 ∨ k = 23 ∨ k = 18 ∨ k = 22 ∨ k = 26 ∨ k = 27 ∨ k = 28 ∨ k = 29 := by
  have := shape_dom hs
  omega

/-- What a type's frame is, the parts aside. -/
theorem bare_zero {k : Int} {bare : Fr} {l : Parts} (hs : shapeF k = some (bare, l)) : bare.stream = 0 ∧ bare.offset = 0 ∧ bare.data = [] ∧ bare.size = 0 ∧ bare.limit = 0 ∧ bare.code = 0 ∧ bare.delay = 0 ∧ bare.runs = [] ∧ bare.c0 = 0 ∧ bare.c1 = 0 ∧ bare.c2 = 0 := by
  have hd := shape_list hs
  rcases hd with rfl | rfl | rfl | rfl | rfl | rfl | rfl | rfl | rfl | rfl | rfl | rfl | rfl | rfl | rfl | rfl | rfl | rfl | rfl | rfl | rfl | rfl | rfl | rfl | rfl | rfl | rfl | rfl
  all_goals (cases hs; exact ⟨rfl, rfl, rfl, rfl, rfl, rfl, rfl, rfl, rfl, rfl, rfl⟩)

theorem shape_12 {k : Int} {bare : Fr} {l : Parts} (hs : shapeF k = some (bare, l)) (e : l.2.2.1 = 12) : bare.tail = true := by
  have hd := shape_list hs
  rcases hd with rfl | rfl | rfl | rfl | rfl | rfl | rfl | rfl | rfl | rfl | rfl | rfl | rfl | rfl | rfl | rfl | rfl | rfl | rfl | rfl | rfl | rfl | rfl | rfl | rfl | rfl | rfl | rfl
  all_goals (cases hs; first | rfl | exact absurd e (by decide))
theorem shape_14 {k : Int} {bare : Fr} {l : Parts} (hs : shapeF k = some (bare, l)) (e : l.1 = 14) : bare.kind = 0 := by
  have hd := shape_list hs
  rcases hd with rfl | rfl | rfl | rfl | rfl | rfl | rfl | rfl | rfl | rfl | rfl | rfl | rfl | rfl | rfl | rfl | rfl | rfl | rfl | rfl | rfl | rfl | rfl | rfl | rfl | rfl | rfl | rfl
  all_goals (cases hs; first | rfl | exact absurd e (by decide))
theorem type_kind {f bare : Fr} {l : Parts} (hk : isKindF f.kind = true) (hs : shapeF (typeF f) = some (bare, l)) : bare.kind = f.kind := by
  have hd := kind_dom hk
  have b1 := one_bounds (decide (f.offset > 0)); have b2 := one_bounds (!f.tail); have b3 := one_bounds f.fin
  have b4 := one_bounds f.marks; have b5 := one_bounds f.uni; have b6 := one_bounds f.own
  have ht : (f.kind = 8 ∧ 8 ≤ typeF f ∧ typeF f ≤ 15) ∨ (f.kind = 2 ∧ (typeF f = 2 ∨ typeF f = 3)) ∨ ((f.kind = 18 ∨ f.kind = 22) ∧ (typeF f = f.kind ∨ typeF f = f.kind + 1)) ∨ (f.kind = 28 ∧ (typeF f = 28 ∨ typeF f = 29)) ∨ (typeF f = f.kind ∧ f.kind ≠ 8 ∧ f.kind ≠ 2 ∧ f.kind ≠ 18 ∧ f.kind ≠ 22 ∧ f.kind ≠ 28) := by
    unfold typeF
    (repeat' split) <;> omega
  generalize typeF f = t at *
  generalize f.kind = k at *
  have hl := shape_list hs
  rcases hl with rfl | rfl | rfl | rfl | rfl | rfl | rfl | rfl | rfl | rfl | rfl | rfl | rfl | rfl | rfl | rfl | rfl | rfl | rfl | rfl | rfl | rfl | rfl | rfl | rfl | rfl | rfl | rfl
  all_goals (cases hs; simp only; omega)

/-- What mayF asks, field by field. -/
theorem may_fields {f bare : Fr} {l : Parts} (h : mayF f bare l = true) : (fitsF f l.1 = true ∧ fitsF f l.2.1 = true ∧ fitsF f l.2.2.1 = true ∧ fitsF f l.2.2.2 = true) ∧
    (let t := takeF (takeF (takeF (takeF f l.1) l.2.1) l.2.2.1) l.2.2.2; t.data = [] ∧ t.runs = [] ∧ (t.c0 = bare.c0 ∧ t.c1 = bare.c1 ∧ t.c2 = bare.c2) ∧ t.stream = 0 ∧ t.offset = 0 ∧ t.size = 0 ∧ t.limit = 0 ∧ t.code = 0 ∧ t.delay = 0 ∧ t.fin = bare.fin ∧ t.tail = bare.tail ∧ t.uni = bare.uni ∧ t.own = bare.own ∧ t.marks = bare.marks) := by
  unfold mayF bareF at h
  simp only [Bool.and_eq_true, decide_eq_true_eq, List.isEmpty_iff] at h
  obtain ⟨⟨⟨⟨q1, q2⟩, q3⟩, q4⟩, ⟨⟨⟨⟨⟨⟨⟨⟨⟨⟨⟨⟨⟨a1, a2⟩, a3⟩, a4⟩, a5⟩, a6⟩, a7⟩, a8⟩, a9⟩, a10⟩, a11⟩, a12⟩, a13⟩, a14⟩⟩ := h
  exact ⟨⟨q1, q2, q3, q4⟩, a1, a2, a3, a4, a5, a6, a7, a8, a9, a10, a11, a12, a13, a14⟩

/-- All parts, given one behind the other. -/
def givePs (g f : Fr) (l : Parts) : Fr := giveF (giveF (giveF (giveF g f l.1) f l.2.1) f l.2.2.1) f l.2.2.2

theorem give_back {f bare : Fr} {l : Parts} {k : Int} (hs : shapeF k = some (bare, l)) (hk : bare.kind = f.kind) (h : mayF f bare l = true) : givePs bare f l = f := by
  obtain ⟨-, h⟩ := may_fields h
  obtain ⟨b1, b2, b3, b4, b5, b6, b7, b8, b9, b10, b11⟩ := bare_zero hs
  obtain ⟨kind, stream, offset, data, size, fin, tail, limit, uni, code, own, delay, runs, marks, c0, c1, c2⟩ := f
  obtain ⟨bkind, bstream, boffset, bdata, bsize, bfin, btail, blimit, buni, bcode, bown, bdelay, bruns, bmarks, bc0, bc1, bc2⟩ := bare
  simp only at b1 b2 b3 b4 b5 b6 b7 b8 b9 b10 b11 hk
  subst b1 b2 b3 b4 b5 b6 b7 b8 b9 b10 b11 hk
  have hl := shape_parts hs
  clear hs
  rcases hl with e | e | e | e | e | e | e | e | e | e | e | e | e | e | e | e | e <;> subst e
  all_goals
    simp [takeF, setF] at h
    simp [givePs, giveF, setF, fieldF]
    simp [h]

/-- The bytes of all parts. -/
theorem enc_parts {f bare : Fr} {l : Parts} {k : Int} (hs : shapeF k = some (bare, l)) (h : mayF f bare l = true) (x : List Int) :
    encL (numsP f l.1 ++ numsP f l.2.1 ++ numsP f l.2.2.1 ++ numsP f l.2.2.2) ++ restF f l.1 f.data ++ x = encP f l.1 ++ (encP f l.2.1 ++ (encP f l.2.2.1 ++ (encP f l.2.2.2 ++ x))) := by
  obtain ⟨-, h⟩ := may_fields h
  have hd := h.1
  clear h
  have hl := shape_parts hs
  clear hs
  rcases hl with e | e | e | e | e | e | e | e | e | e | e | e | e | e | e | e | e <;> subst e
  all_goals
    simp [takeF, setF] at hd
    simp [encP, numsP, restF, encL, hd]

/-- Where a part is not the offset's. -/
theorem may_off0 {f bare : Fr} {l : Parts} (h : mayF f bare l = true) (n2 : l.1 ≠ 2 ∧ l.2.1 ≠ 2 ∧ l.2.2.1 ≠ 2 ∧ l.2.2.2 ≠ 2) : f.offset = 0 := by
  obtain ⟨-, h⟩ := may_fields h
  have := h.2.2.2.2.1
  rwa [takeF_off _ _ n2.2.2.2, takeF_off _ _ n2.2.2.1, takeF_off _ _ n2.2.1, takeF_off _ _ n2.1] at this

/-- THERE AND BACK. -/
theorem back_pure {f : Fr} {n rs : List Int} (h : tellF f = .inl (n, rs)) (hm : (f.runs.length : Int) ≤ MAXN) (x : List Int) (ht : f.tail = true → x = []) (hp : f.kind = 0 → x.head? ≠ some 0) :
    decF (encL n ++ rs ++ x) = .inl (f, x) := by
  unfold tellF at h
  by_cases hk : isKindF f.kind = true
  · obtain ⟨bare, l, hs⟩ := type_some hk
    rw [if_pos hk, hs] at h
    simp only at h
    by_cases hmay : mayF f bare l = true
    · rw [if_pos hmay] at h
      simp only [Sum.inl.injEq, Prod.mk.injEq] at h
      obtain ⟨rfl, rfl⟩ := h
      have off := may_off hmay
      have tr := typeF_range hk
      have kd := type_kind hk hs
      have gb := give_back hs kd hmay
      have ep := enc_parts hs hmay x
      have e1 : encL (typeF f :: (numsP f l.1 ++ numsP f l.2.1 ++ numsP f l.2.2.1 ++ numsP f l.2.2.2)) ++ restF f l.1 f.data ++ x = encN (typeF f) ++ (encP f l.1 ++ (encP f l.2.1 ++ (encP f l.2.2.1 ++ (encP f l.2.2.2 ++ x)))) := by
        rw [← ep]
        simp [encL]
      rw [e1]
      unfold decF
      rw [numF_enc _ _ tr.1 (by unfold MAXN; omega)]
      simp only
      rw [hs]
      simp only
      rw [if_neg (by rw [List.length_append, encN_length]; omega)]
      obtain ⟨⟨q1, q2, q3, q4⟩, fl⟩ := may_fields hmay
      have o0 := may_off0 hmay
      obtain ⟨z1, z2, z3, z4, z5, z6, z7, z8, z9, z10, z11⟩ := bare_zero hs
      have tl : f.tail = bare.tail := by
        have := fl.2.2.2.2.2.2.2.2.2.2.1
        have hh : ∀ (g : Fr) (q : Nat), (takeF g q).tail = g.tail := fun g q => by unfold takeF setF; (repeat' split) <;> rfl
        rwa [hh, hh, hh, hh] at this
      have t12 : l.2.2.1 = 12 → bare.tail = true := fun e => by
        exact shape_12 hs e
      have k14 : l.1 = 14 → f.kind = 0 := fun e => by
        rw [← kd]
        exact shape_14 hs e
      unfold givePs at gb
      have R : ∀ (p : Nat) (g : Fr) (y : List Int), p ≤ 14 → fitsF f p = true → (p = 8 → areF f.runs = true) → (p = 9 → (g.runs.headD (0, 0)).2 = (f.runs.headD (0, 0)).2) → (p = 11 ∨ p = 12 → g.offset = f.offset) → (p = 12 → y = []) → (p = 14 → y.head? ≠ some 0) → readP p g (encP f p ++ y) = .inl (giveF g f p, y) :=
        fun p g y hp hf h8 h9 h11 h12 h14 => readP_enc f g p y hp hf h8 (fun e => ⟨h9 e, hm⟩) (fun e => ⟨h11 e, off.1⟩) h12 h14
      have hl := shape_parts hs
      clear hs
      rcases hl with e | e | e | e | e | e | e | e | e | e | e | e | e | e | e | e | e <;> subst e
      all_goals
        simp only at q1 q2 q3 q4 gb o0 t12 k14
        unfold readPs
        simp only
        rw [R _ _ _ (by decide) q1 (by first | (intro hh; exact absurd hh (by decide)) | (intro _; exact q3)) (fun hh => absurd hh (by decide)) (by first | (intro hh; exact absurd hh (by decide)) | (intro _; rw [z2, o0 (by decide)])) (by first | (intro hh; exact absurd hh (by decide))) (by first | (intro hh; exact absurd hh (by decide)) | (intro _; simpa [encP, numsP, encL] using hp (k14 (by first | rfl | trivial))))]
        simp only [bind']
        rw [R _ _ _ (by decide) q2 (by first | (intro hh; exact absurd hh (by decide)) | (intro _; exact q3)) (fun hh => absurd hh (by decide)) (by first | (intro hh; exact absurd hh (by decide)) | (intro _; simp [giveF, setF, fieldF, z2, o0]) | (intro _; simp [giveF, setF, fieldF, z2])) (by first | (intro hh; exact absurd hh (by decide))) (by first | (intro hh; exact absurd hh (by decide)))]
        simp only
        rw [R _ _ _ (by decide) q3 (by first | (intro hh; exact absurd hh (by decide)) | (intro _; exact q3)) (by first | (intro hh; exact absurd hh (by decide)) | (intro _; simp [giveF, setF, fieldF])) (by first | (intro hh; exact absurd hh (by decide)) | (intro _; simp [giveF, setF, fieldF, z2, o0]) | (intro _; simp [giveF, setF, fieldF, z2])) (by first | (intro hh; exact absurd hh (by decide)) | (intro _; simpa [encP, numsP, encL] using ht (tl.trans (t12 (by first | rfl | trivial))))) (by first | (intro hh; exact absurd hh (by decide)))]
        simp only
        rw [R _ _ _ (by decide) q4 (by first | (intro hh; exact absurd hh (by decide))) (fun hh => absurd hh (by decide)) (by first | (intro hh; exact absurd hh (by decide))) (by first | (intro hh; exact absurd hh (by decide))) (by first | (intro hh; exact absurd hh (by decide)))]
        rw [gb]
    · rw [if_neg hmay] at h; cases h
  · rw [if_neg hk] at h; cases h
end Go.Proofs.Ytggjeamondampaa

namespace Go.Proofs.Ytggjeamondampaa
open Go.RowKit
set_option linter.unusedVariables false
set_option linter.unusedSimpArgs false
set_option maxRecDepth 100000
set_option maxHeartbeats 4000000

def Bs (l : List Int) : Prop := ∀ x ∈ l, IsB x
theorem Bs.drop {l : List Int} (h : Bs l) (n : Nat) : Bs (l.drop n) := fun x hx => h x (List.mem_of_mem_drop hx)

theorem dig_bytes (v : Int) (n : Nat) : Bs (dig v n) := by
  induction n with
  | zero => intro x hx; cases hx
  | succ n ih =>
    intro x hx
    rcases List.mem_cons.1 hx with rfl | hx
    · unfold IsB; omega
    · exact ih x hx
theorem layF_bytes {v : Int} {n : Nat} (h : Fits v n) (v0 : 0 ≤ v) : Bs (layF v n) := by
  cases n with
  | zero => intro x hx; simp [layF, dig] at hx
  | succ m =>
    obtain ⟨h1, h2, -, -⟩ := sz_mark v m (m + 1) rfl h v0
    have e : layF v (m + 1) = (v / 256 ^ m % 256 + markF (m + 1)) :: dig v m := rfl
    rw [e]
    have hm : 0 ≤ markF (m + 1) ∧ markF (m + 1) ≤ 192 := by unfold markF; (repeat' split) <;> omega
    intro x hx
    rcases List.mem_cons.1 hx with rfl | hx
    · unfold IsB
      generalize v / 256 ^ m = q at *
      omega
    · exact dig_bytes v m x hx
theorem encN_bytes {v : Int} (v0 : 0 ≤ v) (v1 : v ≤ MAXN) : Bs (encN v) := layF_bytes (fits_size v v1) v0
theorem encL_bytes {n : List Int} (h : ∀ v ∈ n, 0 ≤ v ∧ v ≤ MAXN) : Bs (encL n) := fun x hx => by
  obtain ⟨v, hv, hx⟩ := List.mem_flatMap.1 hx
  exact encN_bytes (h v hv).1 (h v hv).2 x hx
theorem Bs.app {a b : List Int} (h : Bs a) (k : Bs b) : Bs (a ++ b) := fun x hx => (List.mem_append.1 hx).elim (h x) (k x)

theorem numF_read {l l1 : List Int} {v : Int} (hb : Bs l) (h : numF l = some (v, l1)) : 0 ≤ v ∧ v ≤ MAXN ∧ (encN v).length + l1.length ≤ l.length ∧ 1 ≤ (encN v).length ∧ Bs l1 := by
  obtain ⟨n, rfl, h1, h2, h3, h4, h5, h6⟩ := numF_some hb h
  refine ⟨h3, h4, ?_, by rw [encN_length]; exact h6, hb.drop n⟩
  rw [encN_length, List.length_drop]; omega

theorem runF_read {l l1 : List Int} {hi : Int} {r : Int × Int} (hb : Bs l) (h : runF hi l = .inl (r, l1)) : 0 ≤ hi ∧ r.2 = hi ∧ 0 ≤ r.1 ∧ r.1 ≤ r.2 ∧ (encN (r.2 - r.1)).length + l1.length ≤ l.length ∧ 1 ≤ (encN (r.2 - r.1)).length ∧ Bs l1 := by
  unfold runF at h
  split at h
  · cases h
  · split at h
    · cases h
    · rename_i less l2 hn
      split at h
      · cases h
      · simp only [Sum.inl.injEq, Prod.mk.injEq] at h
        obtain ⟨rfl, rfl⟩ := h
        obtain ⟨a, b, c, d, e⟩ := numF_read hb hn
        have e1 : hi - (hi - less) = less := by omega
        simp only [e1]
        exact ⟨by omega, by first | rfl | trivial, by omega, by omega, c, d, e⟩

theorem moreF_read : ∀ (n : Nat) (lo : Int) (l : List Int) (rs : List (Int × Int)) (l' : List Int), Bs l → lo ≤ MAXN → moreF n lo l = .inl (rs, l') →
    fallF (lo - 2) rs = true ∧ rs.length = n ∧ (encL (gapsF lo rs)).length + l'.length ≤ l.length ∧ rs.length + l'.length ≤ l.length ∧ Bs l' := by
  intro n
  induction n with
  | zero =>
    intro lo l rs l' hb hl h
    simp only [moreF, Sum.inl.injEq, Prod.mk.injEq] at h
    obtain ⟨rfl, rfl⟩ := h
    exact ⟨rfl, rfl, by simp [gapsF, encL], by simp, hb⟩
  | succ n ih =>
    intro lo l rs l' hb hl h
    simp only [moreF] at h
    split at h
    · cases h
    · rename_i gap l1 hn
      obtain ⟨a1, a2, a3, a4, a5⟩ := numF_read hb hn
      split at h
      · cases h
      · rename_i r l2 hr
        obtain ⟨b1, b2, b3, b4, b5, b6, b7⟩ := runF_read a5 hr
        split at h
        · cases h
        · rename_i rs' l3 hm
          simp only [Sum.inl.injEq, Prod.mk.injEq] at h
          obtain ⟨rfl, rfl⟩ := h
          obtain ⟨c1, c2, c3, c4, c5⟩ := ih r.1 l2 rs' l3 b7 (by omega) hm
          have e1 : lo - r.2 - 2 = gap := by omega
          refine ⟨?_, by simp [c2], ?_, by simp; omega, c5⟩
          · simp only [fallF, Bool.and_eq_true, decide_eq_true_eq]
            exact ⟨⟨⟨b3, b4⟩, by omega⟩, c1⟩
          · simp only [gapsF, e1, encL, List.flatMap_cons, List.length_append] at c3 ⊢
            omega

theorem runsF_read {hi : Int} {l l' : List Int} {rs : List (Int × Int)} (hb : Bs l) (hh : hi ≤ MAXN) (h : runsF hi l = .inl (rs, l')) :
    areF rs = true ∧ (rs.headD (0, 0)).2 = hi ∧ (encL (runsN rs)).length + l'.length ≤ l.length ∧ rs.length + l'.length ≤ l.length ∧ Bs l' ∧ 0 ≤ hi := by
  unfold runsF at h
  split at h
  · cases h
  · rename_i n l1 hn
    obtain ⟨a1, a2, a3, a4, a5⟩ := numF_read hb hn
    split at h
    · cases h
    · rename_i r l2 hr
      obtain ⟨b1, b2, b3, b4, b5, b6, b7⟩ := runF_read a5 hr
      split at h
      · cases h
      · rename_i rs' l3 hm
        simp only [Sum.inl.injEq, Prod.mk.injEq] at h
        obtain ⟨rfl, rfl⟩ := h
        obtain ⟨c1, c2, c3, c4, c5⟩ := moreF_read n.toNat r.1 l2 rs' l3 b7 (by omega) hm
        have e1 : (rs'.length : Int) = n := by omega
        refine ⟨?_, by simp [b2], ?_, by simp; omega, c5, b1⟩
        · simp only [areF, fallF, Bool.and_eq_true, decide_eq_true_eq]
          exact ⟨⟨⟨⟨b3, b4⟩, by omega⟩, c1⟩, by simp⟩
        · simp only [runsN, e1, encL, List.flatMap_cons, List.length_append] at c3 ⊢
          omega

theorem Bs.take {l : List Int} (h : Bs l) (n : Nat) : Bs (l.take n) := fun x hx => h x (List.mem_of_mem_take hx)
theorem bytesF_read {off n : Int} {l d l' : List Int} (hn : 0 ≤ n) (h : bytesF off n l = .inl (d, l')) : (d.length : Int) = n ∧ n ≤ MAXN - off ∧ d.length + l'.length = l.length ∧ l' = l.drop n.toNat ∧ d = l.take n.toNat := by
  unfold bytesF at h
  split at h
  · cases h
  · split at h
    · cases h
    · simp only [Sum.inl.injEq, Prod.mk.injEq] at h
      obtain ⟨rfl, rfl⟩ := h
      refine ⟨?_, by omega, ?_, rfl, rfl⟩ <;> simp <;> omega

section
variable {g g' : Fr} {l l' : List Int}
theorem read_num {p : Nat} (hp : p = 1 ∨ p = 2 ∨ p = 3 ∨ p = 4 ∨ p = 5 ∨ p = 6 ∨ p = 7) (hb : Bs l) (h : readP p g l = .inl (g', l')) : ∃ v, g' = setF g p v ∧ 0 ≤ v ∧ v ≤ mostF p ∧ v ≤ MAXN ∧ (encN v).length + l'.length ≤ l.length ∧ Bs l' := by
  have r : readP p g l = match numF l with | none => .inr 40 | some (v, l1) => if v > mostF p then .inr 42 else .inl (setF g p v, l1) := by
    rcases hp with rfl | rfl | rfl | rfl | rfl | rfl | rfl <;> rfl
  rw [r] at h
  split at h
  · cases h
  · rename_i v l1 hn
    split at h
    · cases h
    · simp only [Sum.inl.injEq, Prod.mk.injEq] at h
      obtain ⟨rfl, rfl⟩ := h
      obtain ⟨a1, a2, a3, a4, a5⟩ := numF_read hb hn
      exact ⟨v, rfl, a1, by omega, a2, a3, a5⟩
theorem read_8 (hb : Bs l) (h : readP 8 g l = .inl (g', l')) : ∃ v, g' = { g with runs := [(0, v)] } ∧ 0 ≤ v ∧ v ≤ MAXN ∧ (encN v).length + l'.length ≤ l.length ∧ Bs l' := by
  have r : readP 8 g l = match numF l with | none => .inr 40 | some (v, l1) => .inl ({ g with runs := [(0, v)] }, l1) := rfl
  rw [r] at h
  split at h
  · cases h
  · rename_i v l1 hn
    simp only [Sum.inl.injEq, Prod.mk.injEq] at h
    obtain ⟨rfl, rfl⟩ := h
    obtain ⟨a1, a2, a3, a4, a5⟩ := numF_read hb hn
    exact ⟨v, rfl, a1, a2, a3, a5⟩
theorem read_9 (hb : Bs l) (hh : (g.runs.headD (0, 0)).2 ≤ MAXN) (h : readP 9 g l = .inl (g', l')) : ∃ rs, g' = { g with runs := rs } ∧ areF rs = true ∧ (rs.headD (0, 0)).2 = (g.runs.headD (0, 0)).2 ∧ (encL (runsN rs)).length + l'.length ≤ l.length ∧ rs.length + l'.length ≤ l.length ∧ Bs l' := by
  have r : readP 9 g l = match runsF (g.runs.headD (0, 0)).2 l with | .inr e => .inr e | .inl (rs, l1) => .inl ({ g with runs := rs }, l1) := rfl
  rw [r] at h
  split at h
  · cases h
  · rename_i rs l1 hn
    simp only [Sum.inl.injEq, Prod.mk.injEq] at h
    obtain ⟨rfl, rfl⟩ := h
    obtain ⟨a1, a2, a3, a4, a5, a6⟩ := runsF_read hb hh hn
    exact ⟨rs, rfl, a1, a2, a3, a4, a5⟩
theorem read_10 (hb : Bs l) (h : readP 10 g l = .inl (g', l')) : ∃ a b c, g' = { g with c0 := a, c1 := b, c2 := c } ∧ (0 ≤ a ∧ a ≤ MAXN) ∧ (0 ≤ b ∧ b ≤ MAXN) ∧ (0 ≤ c ∧ c ≤ MAXN) ∧ (encN a).length + (encN b).length + (encN c).length + l'.length ≤ l.length := by
  have r : readP 10 g l = match numF l with
    | none => .inr 40
    | some (a, l1) => match numF l1 with
      | none => .inr 40
      | some (b, l2) => match numF l2 with
        | none => .inr 40
        | some (c, l3) => .inl ({ g with c0 := a, c1 := b, c2 := c }, l3) := rfl
  rw [r] at h
  split at h
  · cases h
  · rename_i a l1 h1
    split at h
    · cases h
    · rename_i b l2 h2
      split at h
      · cases h
      · rename_i c l3 h3
        simp only [Sum.inl.injEq, Prod.mk.injEq] at h
        obtain ⟨rfl, rfl⟩ := h
        obtain ⟨a1, a2, a3, a4, a5⟩ := numF_read hb h1
        obtain ⟨b1, b2, b3, b4, b5⟩ := numF_read a5 h2
        obtain ⟨c1, c2, c3, c4, c5⟩ := numF_read b5 h3
        exact ⟨a, b, c, rfl, ⟨a1, a2⟩, ⟨b1, b2⟩, ⟨c1, c2⟩, by omega⟩
theorem read_11 (hb : Bs l) (h : readP 11 g l = .inl (g', l')) : ∃ d : List Int, g' = { g with data := d } ∧ (d.length : Int) ≤ MAXN - g.offset ∧ (encN (d.length : Int)).length + d.length + l'.length ≤ l.length ∧ Bs d := by
  have r : readP 11 g l = match numF l with
    | none => .inr 40
    | some (n, l1) => match bytesF g.offset n l1 with | .inr e => .inr e | .inl (d, l2) => .inl ({ g with data := d }, l2) := rfl
  rw [r] at h
  split at h
  · cases h
  · rename_i n l1 h1
    obtain ⟨a1, a2, a3, a4, a5⟩ := numF_read hb h1
    split at h
    · cases h
    · rename_i d l2 h2
      simp only [Sum.inl.injEq, Prod.mk.injEq] at h
      obtain ⟨rfl, rfl⟩ := h
      obtain ⟨b1, b2, b3, -, b5⟩ := bytesF_read a1 h2
      exact ⟨d, rfl, by omega, by rw [b1]; omega, by rw [b5]; exact a5.take _⟩
theorem read_12 (hb : Bs l) (h : readP 12 g l = .inl (g', l')) : ∃ d : List Int, g' = { g with data := d } ∧ (d.length : Int) ≤ MAXN - g.offset ∧ d.length + l'.length ≤ l.length ∧ Bs d := by
  have r : readP 12 g l = match bytesF g.offset l.length l with | .inr e => .inr e | .inl (d, l2) => .inl ({ g with data := d }, l2) := rfl
  rw [r] at h
  split at h
  · cases h
  · rename_i d l2 h2
    simp only [Sum.inl.injEq, Prod.mk.injEq] at h
    obtain ⟨rfl, rfl⟩ := h
    obtain ⟨b1, b2, b3, -, b5⟩ := bytesF_read (by omega) h2
    exact ⟨d, rfl, by omega, by omega, by rw [b5]; exact hb.take _⟩
theorem read_13 (hb : Bs l) (h : readP 13 g l = .inl (g', l')) : ∃ d : List Int, g' = { g with data := d } ∧ d.length = 8 ∧ d.length + l'.length ≤ l.length ∧ Bs d := by
  have r : readP 13 g l = match bytesF 0 8 l with | .inr e => .inr e | .inl (d, l2) => .inl ({ g with data := d }, l2) := rfl
  rw [r] at h
  split at h
  · cases h
  · rename_i d l2 h2
    simp only [Sum.inl.injEq, Prod.mk.injEq] at h
    obtain ⟨rfl, rfl⟩ := h
    obtain ⟨b1, b2, b3, -, b5⟩ := bytesF_read (by omega) h2
    exact ⟨d, rfl, by omega, by omega, by rw [b5]; exact hb.take _⟩
theorem zrs_le : ∀ (m : Nat) (l : List Int), zrs m l ≤ m ∧ zrs m l ≤ l.length := by
  intro m
  induction m with
  | zero => intro l; simp [zrs]
  | succ m ih =>
    intro l
    cases l with
    | nil => simp [zrs]
    | cons x l =>
      have := ih l
      simp only [zrs]
      split <;> simp <;> omega
theorem read_14 (h : readP 14 g l = .inl (g', l')) : ∃ z : Nat, g' = { g with size := (z : Int) + 1 } ∧ z ≤ 65534 ∧ z + l'.length ≤ l.length := by
  have r : readP 14 g l = .inl ({ g with size := (zrs 65534 l : Int) + 1 }, l.drop (zrs 65534 l)) := rfl
  rw [r] at h
  simp only [Sum.inl.injEq, Prod.mk.injEq] at h
  obtain ⟨rfl, rfl⟩ := h
  obtain ⟨h1, h2⟩ := zrs_le 65534 l
  exact ⟨_, rfl, h1, by simp; omega⟩
theorem read_0 (h : readP 0 g l = .inl (g', l')) : g' = g ∧ l' = l := by
  have r : readP 0 g l = .inl (g, l) := rfl
  rw [r] at h
  simp only [Sum.inl.injEq, Prod.mk.injEq] at h
  exact ⟨h.1.symm, h.2.symm⟩
end

theorem bind_inl {x : (Fr × List Int) ⊕ Int} {k : Fr → List Int → (Fr × List Int) ⊕ Int} {y : Fr × List Int} (h : bind' x k = .inl y) : ∃ f l, x = .inl (f, l) ∧ k f l = .inl y := by
  unfold bind' at h
  split at h
  · cases h
  · exact ⟨_, _, rfl, h⟩
theorem readPs_inl {p : Parts} {f : Fr} {l : List Int} {y : Fr × List Int} (h : readPs p f l = .inl y) : ∃ f1 l1 f2 l2 f3 l3, readP p.1 f l = .inl (f1, l1) ∧ readP p.2.1 f1 l1 = .inl (f2, l2) ∧ readP p.2.2.1 f2 l2 = .inl (f3, l3) ∧ readP p.2.2.2 f3 l3 = .inl y := by
  unfold readPs at h
  obtain ⟨f1, l1, h1, h⟩ := bind_inl h
  obtain ⟨f2, l2, h2, h⟩ := bind_inl h
  obtain ⟨f3, l3, h3, h⟩ := bind_inl h
  exact ⟨f1, l1, f2, l2, f3, l3, h1, h2, h3, h⟩

/-- What is told of a frame of a type. -/
theorem tell_of {f bare : Fr} {l : Parts} (hk : isKindF f.kind = true) (hs : shapeF (typeF f) = some (bare, l)) (hm : mayF f bare l = true) : tellF f = .inl (typeF f :: (numsP f l.1 ++ numsP f l.2.1 ++ numsP f l.2.2.1 ++ numsP f l.2.2.2), restF f l.1 f.data) := by
  unfold tellF
  rw [if_pos hk, hs]
  simp only
  rw [if_pos hm]
theorem size_one {k : Int} (h0 : 0 ≤ k) (h : k ≤ 63) : (encN k).length = 1 := by
  rw [encN_length]; unfold sizeF; (repeat' split) <;> omega
end Go.Proofs.Ytggjeamondampaa

namespace Go.Proofs.Ytggjeamondampaa
open Go.RowKit
set_option linter.unusedVariables false
set_option linter.unusedSimpArgs false
set_option maxRecDepth 100000
set_option maxHeartbeats 4000000

def ReadP (f : Fr) (l l' : List Int) : Prop := ∃ n rs, tellF f = .inl (n, rs) ∧ (encL n).length + rs.length + l'.length ≤ l.length + 1 ∧ 1 ≤ (encL n).length ∧ f.runs.length ≤ l.length ∧ Bs f.data
theorem readP_mk {f bare : Fr} {l l' : List Int} {p : Parts} {k : Int} (hk : isKindF f.kind = true) (ht : typeF f = k) (h0 : 0 ≤ k ∧ k ≤ 63) (hs : shapeF k = some (bare, p)) (hm : mayF f bare p = true)
    (hl : (encL (numsP f p.1 ++ numsP f p.2.1 ++ numsP f p.2.2.1 ++ numsP f p.2.2.2)).length + (restF f p.1 f.data).length + l'.length ≤ l.length) (hr : f.runs.length ≤ l.length) (hd : Bs f.data) : ReadP f l l' := by
  refine ⟨_, _, tell_of hk (ht ▸ hs) hm, ?_, ?_, hr, hd⟩
  · rw [ht]
    simp only [encL, List.flatMap_cons, List.length_append, size_one h0.1 h0.2] at hl ⊢
    omega
  · rw [ht]
    simp only [encL, List.flatMap_cons, List.length_append, size_one h0.1 h0.2]
    omega
theorem setZ {f : Fr} : True := trivial
theorem read_t0 {l l' : List Int} {f : Fr} (hb : Bs l) (h : readPs (14, 0, 0, 0) { Fr.zero with kind := 0 } l = .inl (f, l')) : ReadP f l l' := by
  obtain ⟨f1, l1, f2, l2, f3, l3, h1, h2, h3, h4⟩ := readPs_inl h
  simp only at h1 h2 h3 h4
  clear h
  obtain ⟨z, rfl, a1, d1⟩ := read_14 h1
  obtain ⟨rfl, rfl⟩ := read_0 h2
  obtain ⟨rfl, rfl⟩ := read_0 h3
  obtain ⟨rfl, rfl⟩ := read_0 h4
  show ReadP ({ Fr.zero with kind := 0, size := (z : Int) + 1 } : Fr) _ _
  refine readP_mk (k := 0) (bare := ({ Fr.zero with kind := 0 } : Fr)) (p := (14, 0, 0, 0)) rfl (rfl) (by omega) rfl ?_ ?_ ?_ (by first | exact bd | (intro x hx; cases hx))
  · simp [mayF, fitsF, takeF, bareF, setF, fieldF, numb, mostF, Fr.zero, MAXN] at *; first | done | omega | (simp_all; done) | (simp_all; omega)
  · simp [numsP, restF, encL, fieldF, runsN, Fr.zero] at *; first | done | omega | (simp_all; done) | (simp_all; omega)
  · simp [Fr.zero] at *; first | done | omega | (simp_all; omega)

theorem read_t1 {l l' : List Int} {f : Fr} (hb : Bs l) (h : readPs (0, 0, 0, 0) { Fr.zero with kind := 1 } l = .inl (f, l')) : ReadP f l l' := by
  obtain ⟨f1, l1, f2, l2, f3, l3, h1, h2, h3, h4⟩ := readPs_inl h
  simp only at h1 h2 h3 h4
  clear h
  obtain ⟨rfl, rfl⟩ := read_0 h1
  obtain ⟨rfl, rfl⟩ := read_0 h2
  obtain ⟨rfl, rfl⟩ := read_0 h3
  obtain ⟨rfl, rfl⟩ := read_0 h4
  show ReadP ({ Fr.zero with kind := 1 } : Fr) _ _
  refine readP_mk (k := 1) (bare := ({ Fr.zero with kind := 1 } : Fr)) (p := (0, 0, 0, 0)) rfl (rfl) (by omega) rfl ?_ ?_ ?_ (by first | exact bd | (intro x hx; cases hx))
  · simp [mayF, fitsF, takeF, bareF, setF, fieldF, numb, mostF, Fr.zero, MAXN] at *; first | done | omega | (simp_all; done) | (simp_all; omega)
  · simp [numsP, restF, encL, fieldF, runsN, Fr.zero] at *; first | done | omega | (simp_all; done) | (simp_all; omega)
  · simp [Fr.zero] at *; first | done | omega | (simp_all; omega)

theorem read_t30 {l l' : List Int} {f : Fr} (hb : Bs l) (h : readPs (0, 0, 0, 0) { Fr.zero with kind := 30 } l = .inl (f, l')) : ReadP f l l' := by
  obtain ⟨f1, l1, f2, l2, f3, l3, h1, h2, h3, h4⟩ := readPs_inl h
  simp only at h1 h2 h3 h4
  clear h
  obtain ⟨rfl, rfl⟩ := read_0 h1
  obtain ⟨rfl, rfl⟩ := read_0 h2
  obtain ⟨rfl, rfl⟩ := read_0 h3
  obtain ⟨rfl, rfl⟩ := read_0 h4
  show ReadP ({ Fr.zero with kind := 30 } : Fr) _ _
  refine readP_mk (k := 30) (bare := ({ Fr.zero with kind := 30 } : Fr)) (p := (0, 0, 0, 0)) rfl (rfl) (by omega) rfl ?_ ?_ ?_ (by first | exact bd | (intro x hx; cases hx))
  · simp [mayF, fitsF, takeF, bareF, setF, fieldF, numb, mostF, Fr.zero, MAXN] at *; first | done | omega | (simp_all; done) | (simp_all; omega)
  · simp [numsP, restF, encL, fieldF, runsN, Fr.zero] at *; first | done | omega | (simp_all; done) | (simp_all; omega)
  · simp [Fr.zero] at *; first | done | omega | (simp_all; omega)

theorem read_t2 {l l' : List Int} {f : Fr} (hb : Bs l) (h : readPs (8, 7, 9, 0) { Fr.zero with kind := 2 } l = .inl (f, l')) : ReadP f l l' := by
  obtain ⟨f1, l1, f2, l2, f3, l3, h1, h2, h3, h4⟩ := readPs_inl h
  simp only at h1 h2 h3 h4
  clear h
  obtain ⟨v1, rfl, a1, c1, d1, e1⟩ := read_8 hb h1
  obtain ⟨v2, rfl, a2, b2, c2, d2, e2⟩ := read_num (by decide) e1 h2
  obtain ⟨r3, rfl, a3, b3, c3, d3, e3⟩ := read_9 e2 (by simpa [setF] using c1) h3
  have b9 : (r3.headD (0, 0)).2 = v1 := by simpa [setF] using b3
  obtain ⟨rfl, rfl⟩ := read_0 h4
  show ReadP ({ Fr.zero with kind := 2, delay := v2, runs := r3 } : Fr) _ _
  refine readP_mk (k := 2) (bare := ({ Fr.zero with kind := 2 } : Fr)) (p := (8, 7, 9, 0)) rfl (rfl) (by omega) rfl ?_ ?_ ?_ (by first | exact bd | (intro x hx; cases hx))
  · have hb9 : areF r3 = true := a3
    unfold MAXN at *
    simp [mayF, fitsF, takeF, bareF, setF, fieldF, numb, mostF, Fr.zero, hb9, MAXN]
    omega
  · simp only [encL] at c3
    simp [numsP, restF, encL, fieldF, Fr.zero, -List.headD_eq_head?_getD, -List.length_flatMap, b9]
    omega
  · simp [Fr.zero]
    omega

theorem read_t3 {l l' : List Int} {f : Fr} (hb : Bs l) (h : readPs (8, 7, 9, 10) { Fr.zero with kind := 2, marks := true } l = .inl (f, l')) : ReadP f l l' := by
  obtain ⟨f1, l1, f2, l2, f3, l3, h1, h2, h3, h4⟩ := readPs_inl h
  simp only at h1 h2 h3 h4
  clear h
  obtain ⟨v1, rfl, a1, c1, d1, e1⟩ := read_8 hb h1
  obtain ⟨v2, rfl, a2, b2, c2, d2, e2⟩ := read_num (by decide) e1 h2
  obtain ⟨r3, rfl, a3, b3, c3, d3, e3⟩ := read_9 e2 (by simpa [setF] using c1) h3
  have b9 : (r3.headD (0, 0)).2 = v1 := by simpa [setF] using b3
  obtain ⟨x0, x1, x2, rfl, a4, b4, c4, d4⟩ := read_10 e3 h4
  show ReadP ({ Fr.zero with kind := 2, marks := true, delay := v2, runs := r3, c0 := x0, c1 := x1, c2 := x2 } : Fr) _ _
  refine readP_mk (k := 3) (bare := ({ Fr.zero with kind := 2, marks := true } : Fr)) (p := (8, 7, 9, 10)) rfl (rfl) (by omega) rfl ?_ ?_ ?_ (by first | exact bd | (intro x hx; cases hx))
  · have hb9 : areF r3 = true := a3
    unfold MAXN at *
    simp [mayF, fitsF, takeF, bareF, setF, fieldF, numb, mostF, Fr.zero, hb9, MAXN]
    omega
  · simp only [encL] at c3
    simp [numsP, restF, encL, fieldF, Fr.zero, -List.headD_eq_head?_getD, -List.length_flatMap, b9]
    omega
  · simp [Fr.zero]
    omega

theorem read_t4 {l l' : List Int} {f : Fr} (hb : Bs l) (h : readPs (1, 5, 6, 0) { Fr.zero with kind := 4 } l = .inl (f, l')) : ReadP f l l' := by
  obtain ⟨f1, l1, f2, l2, f3, l3, h1, h2, h3, h4⟩ := readPs_inl h
  simp only at h1 h2 h3 h4
  clear h
  obtain ⟨v1, rfl, a1, b1, c1, d1, e1⟩ := read_num (by decide) hb h1
  obtain ⟨v2, rfl, a2, b2, c2, d2, e2⟩ := read_num (by decide) e1 h2
  obtain ⟨v3, rfl, a3, b3, c3, d3, e3⟩ := read_num (by decide) e2 h3
  obtain ⟨rfl, rfl⟩ := read_0 h4
  show ReadP ({ Fr.zero with kind := 4, stream := v1, code := v2, size := v3 } : Fr) _ _
  refine readP_mk (k := 4) (bare := ({ Fr.zero with kind := 4 } : Fr)) (p := (1, 5, 6, 0)) rfl (rfl) (by omega) rfl ?_ ?_ ?_ (by first | exact bd | (intro x hx; cases hx))
  · simp [mayF, fitsF, takeF, bareF, setF, fieldF, numb, mostF, Fr.zero, MAXN] at *; first | done | omega | (simp_all; done) | (simp_all; omega)
  · simp [numsP, restF, encL, fieldF, runsN, Fr.zero] at *; first | done | omega | (simp_all; done) | (simp_all; omega)
  · simp [Fr.zero] at *; first | done | omega | (simp_all; omega)

theorem read_t5 {l l' : List Int} {f : Fr} (hb : Bs l) (h : readPs (1, 5, 0, 0) { Fr.zero with kind := 5 } l = .inl (f, l')) : ReadP f l l' := by
  obtain ⟨f1, l1, f2, l2, f3, l3, h1, h2, h3, h4⟩ := readPs_inl h
  simp only at h1 h2 h3 h4
  clear h
  obtain ⟨v1, rfl, a1, b1, c1, d1, e1⟩ := read_num (by decide) hb h1
  obtain ⟨v2, rfl, a2, b2, c2, d2, e2⟩ := read_num (by decide) e1 h2
  obtain ⟨rfl, rfl⟩ := read_0 h3
  obtain ⟨rfl, rfl⟩ := read_0 h4
  show ReadP ({ Fr.zero with kind := 5, stream := v1, code := v2 } : Fr) _ _
  refine readP_mk (k := 5) (bare := ({ Fr.zero with kind := 5 } : Fr)) (p := (1, 5, 0, 0)) rfl (rfl) (by omega) rfl ?_ ?_ ?_ (by first | exact bd | (intro x hx; cases hx))
  · simp [mayF, fitsF, takeF, bareF, setF, fieldF, numb, mostF, Fr.zero, MAXN] at *; first | done | omega | (simp_all; done) | (simp_all; omega)
  · simp [numsP, restF, encL, fieldF, runsN, Fr.zero] at *; first | done | omega | (simp_all; done) | (simp_all; omega)
  · simp [Fr.zero] at *; first | done | omega | (simp_all; omega)

theorem read_t6 {l l' : List Int} {f : Fr} (hb : Bs l) (h : readPs (2, 11, 0, 0) { Fr.zero with kind := 6 } l = .inl (f, l')) : ReadP f l l' := by
  obtain ⟨f1, l1, f2, l2, f3, l3, h1, h2, h3, h4⟩ := readPs_inl h
  simp only at h1 h2 h3 h4
  clear h
  obtain ⟨v1, rfl, a1, b1, c1, d1, e1⟩ := read_num (by decide) hb h1
  obtain ⟨d, rfl, a2, d2, bd⟩ := read_11 e1 h2
  obtain ⟨rfl, rfl⟩ := read_0 h3
  obtain ⟨rfl, rfl⟩ := read_0 h4
  show ReadP ({ Fr.zero with kind := 6, offset := v1, data := d } : Fr) _ _
  refine readP_mk (k := 6) (bare := ({ Fr.zero with kind := 6 } : Fr)) (p := (2, 11, 0, 0)) rfl (rfl) (by omega) rfl ?_ ?_ ?_ (by first | exact bd | (intro x hx; cases hx))
  · simp [mayF, fitsF, takeF, bareF, setF, fieldF, numb, mostF, Fr.zero, MAXN] at *; first | done | omega | (simp_all; done) | (simp_all; omega)
  · simp [numsP, restF, encL, fieldF, runsN, Fr.zero] at *; first | done | omega | (simp_all; done) | (simp_all; omega)
  · simp [Fr.zero] at *; first | done | omega | (simp_all; omega)

theorem read_t8 {l l' : List Int} {f : Fr} (hb : Bs l) (h : readPs (1, 0, 12, 0) { Fr.zero with kind := 8, fin := false, tail := true } l = .inl (f, l')) : ReadP f l l' := by
  obtain ⟨f1, l1, f2, l2, f3, l3, h1, h2, h3, h4⟩ := readPs_inl h
  simp only at h1 h2 h3 h4
  clear h
  obtain ⟨v1, rfl, a1, b1, c1, d1, e1⟩ := read_num (by decide) hb h1
  obtain ⟨rfl, rfl⟩ := read_0 h2
  obtain ⟨d, rfl, a3, d3, bd⟩ := read_12 e1 h3
  obtain ⟨rfl, rfl⟩ := read_0 h4
  show ReadP ({ Fr.zero with kind := 8, fin := false, tail := true, stream := v1, data := d } : Fr) _ _
  refine readP_mk (k := 8) (bare := ({ Fr.zero with kind := 8, fin := false, tail := true } : Fr)) (p := (1, 0, 12, 0)) rfl (rfl) (by omega) rfl ?_ ?_ ?_ (by first | exact bd | (intro x hx; cases hx))
  · simp [mayF, fitsF, takeF, bareF, setF, fieldF, numb, mostF, Fr.zero, MAXN] at *; first | done | omega | (simp_all; done) | (simp_all; omega)
  · simp [numsP, restF, encL, fieldF, runsN, Fr.zero] at *; first | done | omega | (simp_all; done) | (simp_all; omega)
  · simp [Fr.zero] at *; first | done | omega | (simp_all; omega)

theorem read_t9 {l l' : List Int} {f : Fr} (hb : Bs l) (h : readPs (1, 0, 12, 0) { Fr.zero with kind := 8, fin := true, tail := true } l = .inl (f, l')) : ReadP f l l' := by
  obtain ⟨f1, l1, f2, l2, f3, l3, h1, h2, h3, h4⟩ := readPs_inl h
  simp only at h1 h2 h3 h4
  clear h
  obtain ⟨v1, rfl, a1, b1, c1, d1, e1⟩ := read_num (by decide) hb h1
  obtain ⟨rfl, rfl⟩ := read_0 h2
  obtain ⟨d, rfl, a3, d3, bd⟩ := read_12 e1 h3
  obtain ⟨rfl, rfl⟩ := read_0 h4
  show ReadP ({ Fr.zero with kind := 8, fin := true, tail := true, stream := v1, data := d } : Fr) _ _
  refine readP_mk (k := 9) (bare := ({ Fr.zero with kind := 8, fin := true, tail := true } : Fr)) (p := (1, 0, 12, 0)) rfl (rfl) (by omega) rfl ?_ ?_ ?_ (by first | exact bd | (intro x hx; cases hx))
  · simp [mayF, fitsF, takeF, bareF, setF, fieldF, numb, mostF, Fr.zero, MAXN] at *; first | done | omega | (simp_all; done) | (simp_all; omega)
  · simp [numsP, restF, encL, fieldF, runsN, Fr.zero] at *; first | done | omega | (simp_all; done) | (simp_all; omega)
  · simp [Fr.zero] at *; first | done | omega | (simp_all; omega)

theorem read_t10 {l l' : List Int} {f : Fr} (hb : Bs l) (h : readPs (1, 0, 11, 0) { Fr.zero with kind := 8, fin := false, tail := false } l = .inl (f, l')) : ReadP f l l' := by
  obtain ⟨f1, l1, f2, l2, f3, l3, h1, h2, h3, h4⟩ := readPs_inl h
  simp only at h1 h2 h3 h4
  clear h
  obtain ⟨v1, rfl, a1, b1, c1, d1, e1⟩ := read_num (by decide) hb h1
  obtain ⟨rfl, rfl⟩ := read_0 h2
  obtain ⟨d, rfl, a3, d3, bd⟩ := read_11 e1 h3
  obtain ⟨rfl, rfl⟩ := read_0 h4
  show ReadP ({ Fr.zero with kind := 8, fin := false, tail := false, stream := v1, data := d } : Fr) _ _
  refine readP_mk (k := 10) (bare := ({ Fr.zero with kind := 8, fin := false, tail := false } : Fr)) (p := (1, 0, 11, 0)) rfl (rfl) (by omega) rfl ?_ ?_ ?_ (by first | exact bd | (intro x hx; cases hx))
  · simp [mayF, fitsF, takeF, bareF, setF, fieldF, numb, mostF, Fr.zero, MAXN] at *; first | done | omega | (simp_all; done) | (simp_all; omega)
  · simp [numsP, restF, encL, fieldF, runsN, Fr.zero] at *; first | done | omega | (simp_all; done) | (simp_all; omega)
  · simp [Fr.zero] at *; first | done | omega | (simp_all; omega)

theorem read_t11 {l l' : List Int} {f : Fr} (hb : Bs l) (h : readPs (1, 0, 11, 0) { Fr.zero with kind := 8, fin := true, tail := false } l = .inl (f, l')) : ReadP f l l' := by
  obtain ⟨f1, l1, f2, l2, f3, l3, h1, h2, h3, h4⟩ := readPs_inl h
  simp only at h1 h2 h3 h4
  clear h
  obtain ⟨v1, rfl, a1, b1, c1, d1, e1⟩ := read_num (by decide) hb h1
  obtain ⟨rfl, rfl⟩ := read_0 h2
  obtain ⟨d, rfl, a3, d3, bd⟩ := read_11 e1 h3
  obtain ⟨rfl, rfl⟩ := read_0 h4
  show ReadP ({ Fr.zero with kind := 8, fin := true, tail := false, stream := v1, data := d } : Fr) _ _
  refine readP_mk (k := 11) (bare := ({ Fr.zero with kind := 8, fin := true, tail := false } : Fr)) (p := (1, 0, 11, 0)) rfl (rfl) (by omega) rfl ?_ ?_ ?_ (by first | exact bd | (intro x hx; cases hx))
  · simp [mayF, fitsF, takeF, bareF, setF, fieldF, numb, mostF, Fr.zero, MAXN] at *; first | done | omega | (simp_all; done) | (simp_all; omega)
  · simp [numsP, restF, encL, fieldF, runsN, Fr.zero] at *; first | done | omega | (simp_all; done) | (simp_all; omega)
  · simp [Fr.zero] at *; first | done | omega | (simp_all; omega)

theorem read_t12 {l l' : List Int} {f : Fr} (hb : Bs l) (h : readPs (1, 2, 12, 0) { Fr.zero with kind := 8, fin := false, tail := true } l = .inl (f, l')) : ReadP f l l' := by
  obtain ⟨f1, l1, f2, l2, f3, l3, h1, h2, h3, h4⟩ := readPs_inl h
  simp only at h1 h2 h3 h4
  clear h
  obtain ⟨v1, rfl, a1, b1, c1, d1, e1⟩ := read_num (by decide) hb h1
  obtain ⟨v2, rfl, a2, b2, c2, d2, e2⟩ := read_num (by decide) e1 h2
  obtain ⟨d, rfl, a3, d3, bd⟩ := read_12 e2 h3
  obtain ⟨rfl, rfl⟩ := read_0 h4
  show ReadP ({ Fr.zero with kind := 8, fin := false, tail := true, stream := v1, offset := v2, data := d } : Fr) _ _
  by_cases hv : v2 = 0
  · subst hv
    refine readP_mk (k := 8) (bare := ({ Fr.zero with kind := 8, fin := false, tail := true } : Fr)) (p := (1, 0, 12, 0)) rfl (rfl) (by omega) rfl ?_ ?_ ?_ (by first | exact bd | (intro x hx; cases hx))
    · simp [mayF, fitsF, takeF, bareF, setF, fieldF, numb, mostF, Fr.zero, MAXN] at *; first | done | omega | (simp_all; done) | (simp_all; omega)
    · simp [numsP, restF, encL, fieldF, runsN, Fr.zero] at *; first | done | omega | (simp_all; done) | (simp_all; omega)
    · simp [Fr.zero] at *; first | done | omega | (simp_all; omega)
  · have hv2 : 0 < v2 := by omega
    refine readP_mk (k := 12) (bare := ({ Fr.zero with kind := 8, fin := false, tail := true } : Fr)) (p := (1, 2, 12, 0)) rfl (by simp [typeF, Fr.zero, one, hv2]) (by omega) rfl ?_ ?_ ?_ (by first | exact bd | (intro x hx; cases hx))
    · simp [mayF, fitsF, takeF, bareF, setF, fieldF, numb, mostF, Fr.zero, MAXN] at *; first | done | omega | (simp_all; done) | (simp_all; omega)
    · simp [numsP, restF, encL, fieldF, runsN, Fr.zero] at *; first | done | omega | (simp_all; done) | (simp_all; omega)
    · simp [Fr.zero] at *; first | done | omega | (simp_all; omega)

theorem read_t13 {l l' : List Int} {f : Fr} (hb : Bs l) (h : readPs (1, 2, 12, 0) { Fr.zero with kind := 8, fin := true, tail := true } l = .inl (f, l')) : ReadP f l l' := by
  obtain ⟨f1, l1, f2, l2, f3, l3, h1, h2, h3, h4⟩ := readPs_inl h
  simp only at h1 h2 h3 h4
  clear h
  obtain ⟨v1, rfl, a1, b1, c1, d1, e1⟩ := read_num (by decide) hb h1
  obtain ⟨v2, rfl, a2, b2, c2, d2, e2⟩ := read_num (by decide) e1 h2
  obtain ⟨d, rfl, a3, d3, bd⟩ := read_12 e2 h3
  obtain ⟨rfl, rfl⟩ := read_0 h4
  show ReadP ({ Fr.zero with kind := 8, fin := true, tail := true, stream := v1, offset := v2, data := d } : Fr) _ _
  by_cases hv : v2 = 0
  · subst hv
    refine readP_mk (k := 9) (bare := ({ Fr.zero with kind := 8, fin := true, tail := true } : Fr)) (p := (1, 0, 12, 0)) rfl (rfl) (by omega) rfl ?_ ?_ ?_ (by first | exact bd | (intro x hx; cases hx))
    · simp [mayF, fitsF, takeF, bareF, setF, fieldF, numb, mostF, Fr.zero, MAXN] at *; first | done | omega | (simp_all; done) | (simp_all; omega)
    · simp [numsP, restF, encL, fieldF, runsN, Fr.zero] at *; first | done | omega | (simp_all; done) | (simp_all; omega)
    · simp [Fr.zero] at *; first | done | omega | (simp_all; omega)
  · have hv2 : 0 < v2 := by omega
    refine readP_mk (k := 13) (bare := ({ Fr.zero with kind := 8, fin := true, tail := true } : Fr)) (p := (1, 2, 12, 0)) rfl (by simp [typeF, Fr.zero, one, hv2]) (by omega) rfl ?_ ?_ ?_ (by first | exact bd | (intro x hx; cases hx))
    · simp [mayF, fitsF, takeF, bareF, setF, fieldF, numb, mostF, Fr.zero, MAXN] at *; first | done | omega | (simp_all; done) | (simp_all; omega)
    · simp [numsP, restF, encL, fieldF, runsN, Fr.zero] at *; first | done | omega | (simp_all; done) | (simp_all; omega)
    · simp [Fr.zero] at *; first | done | omega | (simp_all; omega)

theorem read_t14 {l l' : List Int} {f : Fr} (hb : Bs l) (h : readPs (1, 2, 11, 0) { Fr.zero with kind := 8, fin := false, tail := false } l = .inl (f, l')) : ReadP f l l' := by
  obtain ⟨f1, l1, f2, l2, f3, l3, h1, h2, h3, h4⟩ := readPs_inl h
  simp only at h1 h2 h3 h4
  clear h
  obtain ⟨v1, rfl, a1, b1, c1, d1, e1⟩ := read_num (by decide) hb h1
  obtain ⟨v2, rfl, a2, b2, c2, d2, e2⟩ := read_num (by decide) e1 h2
  obtain ⟨d, rfl, a3, d3, bd⟩ := read_11 e2 h3
  obtain ⟨rfl, rfl⟩ := read_0 h4
  show ReadP ({ Fr.zero with kind := 8, fin := false, tail := false, stream := v1, offset := v2, data := d } : Fr) _ _
  by_cases hv : v2 = 0
  · subst hv
    refine readP_mk (k := 10) (bare := ({ Fr.zero with kind := 8, fin := false, tail := false } : Fr)) (p := (1, 0, 11, 0)) rfl (rfl) (by omega) rfl ?_ ?_ ?_ (by first | exact bd | (intro x hx; cases hx))
    · simp [mayF, fitsF, takeF, bareF, setF, fieldF, numb, mostF, Fr.zero, MAXN] at *; first | done | omega | (simp_all; done) | (simp_all; omega)
    · simp [numsP, restF, encL, fieldF, runsN, Fr.zero] at *; first | done | omega | (simp_all; done) | (simp_all; omega)
    · simp [Fr.zero] at *; first | done | omega | (simp_all; omega)
  · have hv2 : 0 < v2 := by omega
    refine readP_mk (k := 14) (bare := ({ Fr.zero with kind := 8, fin := false, tail := false } : Fr)) (p := (1, 2, 11, 0)) rfl (by simp [typeF, Fr.zero, one, hv2]) (by omega) rfl ?_ ?_ ?_ (by first | exact bd | (intro x hx; cases hx))
    · simp [mayF, fitsF, takeF, bareF, setF, fieldF, numb, mostF, Fr.zero, MAXN] at *; first | done | omega | (simp_all; done) | (simp_all; omega)
    · simp [numsP, restF, encL, fieldF, runsN, Fr.zero] at *; first | done | omega | (simp_all; done) | (simp_all; omega)
    · simp [Fr.zero] at *; first | done | omega | (simp_all; omega)

theorem read_t15 {l l' : List Int} {f : Fr} (hb : Bs l) (h : readPs (1, 2, 11, 0) { Fr.zero with kind := 8, fin := true, tail := false } l = .inl (f, l')) : ReadP f l l' := by
  obtain ⟨f1, l1, f2, l2, f3, l3, h1, h2, h3, h4⟩ := readPs_inl h
  simp only at h1 h2 h3 h4
  clear h
  obtain ⟨v1, rfl, a1, b1, c1, d1, e1⟩ := read_num (by decide) hb h1
  obtain ⟨v2, rfl, a2, b2, c2, d2, e2⟩ := read_num (by decide) e1 h2
  obtain ⟨d, rfl, a3, d3, bd⟩ := read_11 e2 h3
  obtain ⟨rfl, rfl⟩ := read_0 h4
  show ReadP ({ Fr.zero with kind := 8, fin := true, tail := false, stream := v1, offset := v2, data := d } : Fr) _ _
  by_cases hv : v2 = 0
  · subst hv
    refine readP_mk (k := 11) (bare := ({ Fr.zero with kind := 8, fin := true, tail := false } : Fr)) (p := (1, 0, 11, 0)) rfl (rfl) (by omega) rfl ?_ ?_ ?_ (by first | exact bd | (intro x hx; cases hx))
    · simp [mayF, fitsF, takeF, bareF, setF, fieldF, numb, mostF, Fr.zero, MAXN] at *; first | done | omega | (simp_all; done) | (simp_all; omega)
    · simp [numsP, restF, encL, fieldF, runsN, Fr.zero] at *; first | done | omega | (simp_all; done) | (simp_all; omega)
    · simp [Fr.zero] at *; first | done | omega | (simp_all; omega)
  · have hv2 : 0 < v2 := by omega
    refine readP_mk (k := 15) (bare := ({ Fr.zero with kind := 8, fin := true, tail := false } : Fr)) (p := (1, 2, 11, 0)) rfl (by simp [typeF, Fr.zero, one, hv2]) (by omega) rfl ?_ ?_ ?_ (by first | exact bd | (intro x hx; cases hx))
    · simp [mayF, fitsF, takeF, bareF, setF, fieldF, numb, mostF, Fr.zero, MAXN] at *; first | done | omega | (simp_all; done) | (simp_all; omega)
    · simp [numsP, restF, encL, fieldF, runsN, Fr.zero] at *; first | done | omega | (simp_all; done) | (simp_all; omega)
    · simp [Fr.zero] at *; first | done | omega | (simp_all; omega)

theorem read_t16 {l l' : List Int} {f : Fr} (hb : Bs l) (h : readPs (3, 0, 0, 0) { Fr.zero with kind := 16 } l = .inl (f, l')) : ReadP f l l' := by
  obtain ⟨f1, l1, f2, l2, f3, l3, h1, h2, h3, h4⟩ := readPs_inl h
  simp only at h1 h2 h3 h4
  clear h
  obtain ⟨v1, rfl, a1, b1, c1, d1, e1⟩ := read_num (by decide) hb h1
  obtain ⟨rfl, rfl⟩ := read_0 h2
  obtain ⟨rfl, rfl⟩ := read_0 h3
  obtain ⟨rfl, rfl⟩ := read_0 h4
  show ReadP ({ Fr.zero with kind := 16, limit := v1 } : Fr) _ _
  refine readP_mk (k := 16) (bare := ({ Fr.zero with kind := 16 } : Fr)) (p := (3, 0, 0, 0)) rfl (rfl) (by omega) rfl ?_ ?_ ?_ (by first | exact bd | (intro x hx; cases hx))
  · simp [mayF, fitsF, takeF, bareF, setF, fieldF, numb, mostF, Fr.zero, MAXN] at *; first | done | omega | (simp_all; done) | (simp_all; omega)
  · simp [numsP, restF, encL, fieldF, runsN, Fr.zero] at *; first | done | omega | (simp_all; done) | (simp_all; omega)
  · simp [Fr.zero] at *; first | done | omega | (simp_all; omega)

theorem read_t20 {l l' : List Int} {f : Fr} (hb : Bs l) (h : readPs (3, 0, 0, 0) { Fr.zero with kind := 20 } l = .inl (f, l')) : ReadP f l l' := by
  obtain ⟨f1, l1, f2, l2, f3, l3, h1, h2, h3, h4⟩ := readPs_inl h
  simp only at h1 h2 h3 h4
  clear h
  obtain ⟨v1, rfl, a1, b1, c1, d1, e1⟩ := read_num (by decide) hb h1
  obtain ⟨rfl, rfl⟩ := read_0 h2
  obtain ⟨rfl, rfl⟩ := read_0 h3
  obtain ⟨rfl, rfl⟩ := read_0 h4
  show ReadP ({ Fr.zero with kind := 20, limit := v1 } : Fr) _ _
  refine readP_mk (k := 20) (bare := ({ Fr.zero with kind := 20 } : Fr)) (p := (3, 0, 0, 0)) rfl (rfl) (by omega) rfl ?_ ?_ ?_ (by first | exact bd | (intro x hx; cases hx))
  · simp [mayF, fitsF, takeF, bareF, setF, fieldF, numb, mostF, Fr.zero, MAXN] at *; first | done | omega | (simp_all; done) | (simp_all; omega)
  · simp [numsP, restF, encL, fieldF, runsN, Fr.zero] at *; first | done | omega | (simp_all; done) | (simp_all; omega)
  · simp [Fr.zero] at *; first | done | omega | (simp_all; omega)

theorem read_t17 {l l' : List Int} {f : Fr} (hb : Bs l) (h : readPs (1, 3, 0, 0) { Fr.zero with kind := 17 } l = .inl (f, l')) : ReadP f l l' := by
  obtain ⟨f1, l1, f2, l2, f3, l3, h1, h2, h3, h4⟩ := readPs_inl h
  simp only at h1 h2 h3 h4
  clear h
  obtain ⟨v1, rfl, a1, b1, c1, d1, e1⟩ := read_num (by decide) hb h1
  obtain ⟨v2, rfl, a2, b2, c2, d2, e2⟩ := read_num (by decide) e1 h2
  obtain ⟨rfl, rfl⟩ := read_0 h3
  obtain ⟨rfl, rfl⟩ := read_0 h4
  show ReadP ({ Fr.zero with kind := 17, stream := v1, limit := v2 } : Fr) _ _
  refine readP_mk (k := 17) (bare := ({ Fr.zero with kind := 17 } : Fr)) (p := (1, 3, 0, 0)) rfl (rfl) (by omega) rfl ?_ ?_ ?_ (by first | exact bd | (intro x hx; cases hx))
  · simp [mayF, fitsF, takeF, bareF, setF, fieldF, numb, mostF, Fr.zero, MAXN] at *; first | done | omega | (simp_all; done) | (simp_all; omega)
  · simp [numsP, restF, encL, fieldF, runsN, Fr.zero] at *; first | done | omega | (simp_all; done) | (simp_all; omega)
  · simp [Fr.zero] at *; first | done | omega | (simp_all; omega)

theorem read_t21 {l l' : List Int} {f : Fr} (hb : Bs l) (h : readPs (1, 3, 0, 0) { Fr.zero with kind := 21 } l = .inl (f, l')) : ReadP f l l' := by
  obtain ⟨f1, l1, f2, l2, f3, l3, h1, h2, h3, h4⟩ := readPs_inl h
  simp only at h1 h2 h3 h4
  clear h
  obtain ⟨v1, rfl, a1, b1, c1, d1, e1⟩ := read_num (by decide) hb h1
  obtain ⟨v2, rfl, a2, b2, c2, d2, e2⟩ := read_num (by decide) e1 h2
  obtain ⟨rfl, rfl⟩ := read_0 h3
  obtain ⟨rfl, rfl⟩ := read_0 h4
  show ReadP ({ Fr.zero with kind := 21, stream := v1, limit := v2 } : Fr) _ _
  refine readP_mk (k := 21) (bare := ({ Fr.zero with kind := 21 } : Fr)) (p := (1, 3, 0, 0)) rfl (rfl) (by omega) rfl ?_ ?_ ?_ (by first | exact bd | (intro x hx; cases hx))
  · simp [mayF, fitsF, takeF, bareF, setF, fieldF, numb, mostF, Fr.zero, MAXN] at *; first | done | omega | (simp_all; done) | (simp_all; omega)
  · simp [numsP, restF, encL, fieldF, runsN, Fr.zero] at *; first | done | omega | (simp_all; done) | (simp_all; omega)
  · simp [Fr.zero] at *; first | done | omega | (simp_all; omega)

theorem read_t19 {l l' : List Int} {f : Fr} (hb : Bs l) (h : readPs (4, 0, 0, 0) { Fr.zero with kind := 18, uni := true } l = .inl (f, l')) : ReadP f l l' := by
  obtain ⟨f1, l1, f2, l2, f3, l3, h1, h2, h3, h4⟩ := readPs_inl h
  simp only at h1 h2 h3 h4
  clear h
  obtain ⟨v1, rfl, a1, b1, c1, d1, e1⟩ := read_num (by decide) hb h1
  obtain ⟨rfl, rfl⟩ := read_0 h2
  obtain ⟨rfl, rfl⟩ := read_0 h3
  obtain ⟨rfl, rfl⟩ := read_0 h4
  show ReadP ({ Fr.zero with kind := 18, uni := true, limit := v1 } : Fr) _ _
  refine readP_mk (k := 19) (bare := ({ Fr.zero with kind := 18, uni := true } : Fr)) (p := (4, 0, 0, 0)) rfl (rfl) (by omega) rfl ?_ ?_ ?_ (by first | exact bd | (intro x hx; cases hx))
  · simp [mayF, fitsF, takeF, bareF, setF, fieldF, numb, mostF, Fr.zero, MAXN] at *; first | done | omega | (simp_all; done) | (simp_all; omega)
  · simp [numsP, restF, encL, fieldF, runsN, Fr.zero] at *; first | done | omega | (simp_all; done) | (simp_all; omega)
  · simp [Fr.zero] at *; first | done | omega | (simp_all; omega)

theorem read_t23 {l l' : List Int} {f : Fr} (hb : Bs l) (h : readPs (4, 0, 0, 0) { Fr.zero with kind := 22, uni := true } l = .inl (f, l')) : ReadP f l l' := by
  obtain ⟨f1, l1, f2, l2, f3, l3, h1, h2, h3, h4⟩ := readPs_inl h
  simp only at h1 h2 h3 h4
  clear h
  obtain ⟨v1, rfl, a1, b1, c1, d1, e1⟩ := read_num (by decide) hb h1
  obtain ⟨rfl, rfl⟩ := read_0 h2
  obtain ⟨rfl, rfl⟩ := read_0 h3
  obtain ⟨rfl, rfl⟩ := read_0 h4
  show ReadP ({ Fr.zero with kind := 22, uni := true, limit := v1 } : Fr) _ _
  refine readP_mk (k := 23) (bare := ({ Fr.zero with kind := 22, uni := true } : Fr)) (p := (4, 0, 0, 0)) rfl (rfl) (by omega) rfl ?_ ?_ ?_ (by first | exact bd | (intro x hx; cases hx))
  · simp [mayF, fitsF, takeF, bareF, setF, fieldF, numb, mostF, Fr.zero, MAXN] at *; first | done | omega | (simp_all; done) | (simp_all; omega)
  · simp [numsP, restF, encL, fieldF, runsN, Fr.zero] at *; first | done | omega | (simp_all; done) | (simp_all; omega)
  · simp [Fr.zero] at *; first | done | omega | (simp_all; omega)

theorem read_t18 {l l' : List Int} {f : Fr} (hb : Bs l) (h : readPs (4, 0, 0, 0) { Fr.zero with kind := 18 } l = .inl (f, l')) : ReadP f l l' := by
  obtain ⟨f1, l1, f2, l2, f3, l3, h1, h2, h3, h4⟩ := readPs_inl h
  simp only at h1 h2 h3 h4
  clear h
  obtain ⟨v1, rfl, a1, b1, c1, d1, e1⟩ := read_num (by decide) hb h1
  obtain ⟨rfl, rfl⟩ := read_0 h2
  obtain ⟨rfl, rfl⟩ := read_0 h3
  obtain ⟨rfl, rfl⟩ := read_0 h4
  show ReadP ({ Fr.zero with kind := 18, limit := v1 } : Fr) _ _
  refine readP_mk (k := 18) (bare := ({ Fr.zero with kind := 18 } : Fr)) (p := (4, 0, 0, 0)) rfl (rfl) (by omega) rfl ?_ ?_ ?_ (by first | exact bd | (intro x hx; cases hx))
  · simp [mayF, fitsF, takeF, bareF, setF, fieldF, numb, mostF, Fr.zero, MAXN] at *; first | done | omega | (simp_all; done) | (simp_all; omega)
  · simp [numsP, restF, encL, fieldF, runsN, Fr.zero] at *; first | done | omega | (simp_all; done) | (simp_all; omega)
  · simp [Fr.zero] at *; first | done | omega | (simp_all; omega)

theorem read_t22 {l l' : List Int} {f : Fr} (hb : Bs l) (h : readPs (4, 0, 0, 0) { Fr.zero with kind := 22 } l = .inl (f, l')) : ReadP f l l' := by
  obtain ⟨f1, l1, f2, l2, f3, l3, h1, h2, h3, h4⟩ := readPs_inl h
  simp only at h1 h2 h3 h4
  clear h
  obtain ⟨v1, rfl, a1, b1, c1, d1, e1⟩ := read_num (by decide) hb h1
  obtain ⟨rfl, rfl⟩ := read_0 h2
  obtain ⟨rfl, rfl⟩ := read_0 h3
  obtain ⟨rfl, rfl⟩ := read_0 h4
  show ReadP ({ Fr.zero with kind := 22, limit := v1 } : Fr) _ _
  refine readP_mk (k := 22) (bare := ({ Fr.zero with kind := 22 } : Fr)) (p := (4, 0, 0, 0)) rfl (rfl) (by omega) rfl ?_ ?_ ?_ (by first | exact bd | (intro x hx; cases hx))
  · simp [mayF, fitsF, takeF, bareF, setF, fieldF, numb, mostF, Fr.zero, MAXN] at *; first | done | omega | (simp_all; done) | (simp_all; omega)
  · simp [numsP, restF, encL, fieldF, runsN, Fr.zero] at *; first | done | omega | (simp_all; done) | (simp_all; omega)
  · simp [Fr.zero] at *; first | done | omega | (simp_all; omega)

theorem read_t26 {l l' : List Int} {f : Fr} (hb : Bs l) (h : readPs (13, 0, 0, 0) { Fr.zero with kind := 26 } l = .inl (f, l')) : ReadP f l l' := by
  obtain ⟨f1, l1, f2, l2, f3, l3, h1, h2, h3, h4⟩ := readPs_inl h
  simp only at h1 h2 h3 h4
  clear h
  obtain ⟨d, rfl, a1, d1, bd⟩ := read_13 hb h1
  obtain ⟨rfl, rfl⟩ := read_0 h2
  obtain ⟨rfl, rfl⟩ := read_0 h3
  obtain ⟨rfl, rfl⟩ := read_0 h4
  show ReadP ({ Fr.zero with kind := 26, data := d } : Fr) _ _
  refine readP_mk (k := 26) (bare := ({ Fr.zero with kind := 26 } : Fr)) (p := (13, 0, 0, 0)) rfl (rfl) (by omega) rfl ?_ ?_ ?_ (by first | exact bd | (intro x hx; cases hx))
  · simp [mayF, fitsF, takeF, bareF, setF, fieldF, numb, mostF, Fr.zero, MAXN] at *; first | done | omega | (simp_all; done) | (simp_all; omega)
  · simp [numsP, restF, encL, fieldF, runsN, Fr.zero] at *; first | done | omega | (simp_all; done) | (simp_all; omega)
  · simp [Fr.zero] at *; first | done | omega | (simp_all; omega)

theorem read_t27 {l l' : List Int} {f : Fr} (hb : Bs l) (h : readPs (13, 0, 0, 0) { Fr.zero with kind := 27 } l = .inl (f, l')) : ReadP f l l' := by
  obtain ⟨f1, l1, f2, l2, f3, l3, h1, h2, h3, h4⟩ := readPs_inl h
  simp only at h1 h2 h3 h4
  clear h
  obtain ⟨d, rfl, a1, d1, bd⟩ := read_13 hb h1
  obtain ⟨rfl, rfl⟩ := read_0 h2
  obtain ⟨rfl, rfl⟩ := read_0 h3
  obtain ⟨rfl, rfl⟩ := read_0 h4
  show ReadP ({ Fr.zero with kind := 27, data := d } : Fr) _ _
  refine readP_mk (k := 27) (bare := ({ Fr.zero with kind := 27 } : Fr)) (p := (13, 0, 0, 0)) rfl (rfl) (by omega) rfl ?_ ?_ ?_ (by first | exact bd | (intro x hx; cases hx))
  · simp [mayF, fitsF, takeF, bareF, setF, fieldF, numb, mostF, Fr.zero, MAXN] at *; first | done | omega | (simp_all; done) | (simp_all; omega)
  · simp [numsP, restF, encL, fieldF, runsN, Fr.zero] at *; first | done | omega | (simp_all; done) | (simp_all; omega)
  · simp [Fr.zero] at *; first | done | omega | (simp_all; omega)

theorem read_t28 {l l' : List Int} {f : Fr} (hb : Bs l) (h : readPs (5, 6, 11, 0) { Fr.zero with kind := 28 } l = .inl (f, l')) : ReadP f l l' := by
  obtain ⟨f1, l1, f2, l2, f3, l3, h1, h2, h3, h4⟩ := readPs_inl h
  simp only at h1 h2 h3 h4
  clear h
  obtain ⟨v1, rfl, a1, b1, c1, d1, e1⟩ := read_num (by decide) hb h1
  obtain ⟨v2, rfl, a2, b2, c2, d2, e2⟩ := read_num (by decide) e1 h2
  obtain ⟨d, rfl, a3, d3, bd⟩ := read_11 e2 h3
  obtain ⟨rfl, rfl⟩ := read_0 h4
  show ReadP ({ Fr.zero with kind := 28, code := v1, size := v2, data := d } : Fr) _ _
  refine readP_mk (k := 28) (bare := ({ Fr.zero with kind := 28 } : Fr)) (p := (5, 6, 11, 0)) rfl (rfl) (by omega) rfl ?_ ?_ ?_ (by first | exact bd | (intro x hx; cases hx))
  · simp [mayF, fitsF, takeF, bareF, setF, fieldF, numb, mostF, Fr.zero, MAXN] at *; first | done | omega | (simp_all; done) | (simp_all; omega)
  · simp [numsP, restF, encL, fieldF, runsN, Fr.zero] at *; first | done | omega | (simp_all; done) | (simp_all; omega)
  · simp [Fr.zero] at *; first | done | omega | (simp_all; omega)

theorem read_t29 {l l' : List Int} {f : Fr} (hb : Bs l) (h : readPs (5, 11, 0, 0) { Fr.zero with kind := 28, own := true } l = .inl (f, l')) : ReadP f l l' := by
  obtain ⟨f1, l1, f2, l2, f3, l3, h1, h2, h3, h4⟩ := readPs_inl h
  simp only at h1 h2 h3 h4
  clear h
  obtain ⟨v1, rfl, a1, b1, c1, d1, e1⟩ := read_num (by decide) hb h1
  obtain ⟨d, rfl, a2, d2, bd⟩ := read_11 e1 h2
  obtain ⟨rfl, rfl⟩ := read_0 h3
  obtain ⟨rfl, rfl⟩ := read_0 h4
  show ReadP ({ Fr.zero with kind := 28, own := true, code := v1, data := d } : Fr) _ _
  refine readP_mk (k := 29) (bare := ({ Fr.zero with kind := 28, own := true } : Fr)) (p := (5, 11, 0, 0)) rfl (rfl) (by omega) rfl ?_ ?_ ?_ (by first | exact bd | (intro x hx; cases hx))
  · simp [mayF, fitsF, takeF, bareF, setF, fieldF, numb, mostF, Fr.zero, MAXN] at *; first | done | omega | (simp_all; done) | (simp_all; omega)
  · simp [numsP, restF, encL, fieldF, runsN, Fr.zero] at *; first | done | omega | (simp_all; done) | (simp_all; omega)
  · simp [Fr.zero] at *; first | done | omega | (simp_all; omega)

theorem read_pure {l l' : List Int} {f : Fr} (hb : Bs l) (h : decF l = .inl (f, l')) : ∃ n rs, tellF f = .inl (n, rs) ∧ (encL n).length + rs.length + l'.length ≤ l.length ∧ 1 ≤ (encL n).length ∧ f.runs.length ≤ l.length ∧ Bs f.data := by
  unfold decF at h
  split at h
  · cases h
  · rename_i k l1 hn
    obtain ⟨a1, a2, a3, a4, a5⟩ := numF_read hb hn
    split at h
    · cases h
    · rename_i f0 ps hs
      split at h
      · cases h
      · have hq : ReadP f l1 l' := by
          have hd := shape_dom hs
          have hd' : k = 0 ∨ k = 1 ∨ k = 30 ∨ k = 2 ∨ k = 3 ∨ k = 4 ∨ k = 5 ∨ k = 6 ∨ k = 8 ∨ k = 9 ∨ k = 10 ∨ k = 11 ∨ k = 12 ∨ k = 13 ∨ k = 14 ∨ k = 15 ∨ k = 16 ∨ k = 20 ∨ k = 17 ∨ k = 21 ∨ k = 19 ∨ k = 23 ∨ k = 18 ∨ k = 22 ∨ k = 26 ∨ k = 27 ∨ k = 28 ∨ k = 29 := by omega
          clear hd hn a1 a2 a4 a3
          rcases hd' with rfl | rfl | rfl | rfl | rfl | rfl | rfl | rfl | rfl | rfl | rfl | rfl | rfl | rfl | rfl | rfl | rfl | rfl | rfl | rfl | rfl | rfl | rfl | rfl | rfl | rfl | rfl | rfl
          · cases hs; exact read_t0 a5 h
          · cases hs; exact read_t1 a5 h
          · cases hs; exact read_t30 a5 h
          · cases hs; exact read_t2 a5 h
          · cases hs; exact read_t3 a5 h
          · cases hs; exact read_t4 a5 h
          · cases hs; exact read_t5 a5 h
          · cases hs; exact read_t6 a5 h
          · cases hs; exact read_t8 a5 h
          · cases hs; exact read_t9 a5 h
          · cases hs; exact read_t10 a5 h
          · cases hs; exact read_t11 a5 h
          · cases hs; exact read_t12 a5 h
          · cases hs; exact read_t13 a5 h
          · cases hs; exact read_t14 a5 h
          · cases hs; exact read_t15 a5 h
          · cases hs; exact read_t16 a5 h
          · cases hs; exact read_t20 a5 h
          · cases hs; exact read_t17 a5 h
          · cases hs; exact read_t21 a5 h
          · cases hs; exact read_t19 a5 h
          · cases hs; exact read_t23 a5 h
          · cases hs; exact read_t18 a5 h
          · cases hs; exact read_t22 a5 h
          · cases hs; exact read_t26 a5 h
          · cases hs; exact read_t27 a5 h
          · cases hs; exact read_t28 a5 h
          · cases hs; exact read_t29 a5 h
        obtain ⟨n, rs, h1, h2, h3, h4, h5⟩ := hq
        exact ⟨n, rs, h1, by omega, h3, by omega, h5⟩
end Go.Proofs.Ytggjeamondampaa
