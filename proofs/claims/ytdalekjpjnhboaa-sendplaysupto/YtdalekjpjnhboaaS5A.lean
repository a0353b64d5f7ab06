/- A Send in memory. -/
import Derived.Test.YtdalekjpjnhboaaS5B
import Derived.Test.YtdalekjpjnhboaaS5P
import Derived.Test.YtdalekjpjnhboaaSH
namespace Go.Proofs.Ytdalekjpjnhboaa
open Go.RowKit
set_option linter.unusedVariables false
set_option maxHeartbeats 400000
set_option maxRecDepth 100000

abbrev ptr (b : Nat) : Value := .pointer (some ⟨b, 0, none⟩)
/-- A byte. -/
def IsB (x : Int) : Prop := 0 ≤ x ∧ x ≤ 255
/-- What a slice's address leads to: its elements read as these bytes. -/
def Rd (w : World) (a : Option Addr) (l : List Int) : Prop :=
  (∀ x ∈ l, IsB x) ∧ (l ≠ [] → ∃ b off, a = some ⟨b, off, none⟩ ∧ ∀ i, i < l.length → w.cell? ⟨b, off + i, none⟩ = some (.int .u8 (l.getD i 0)))
def by8 (l : List Int) : Array Value := (l.map (Value.int .u8)).toArray

theorem row_kept {w w' : World} {v : Value} {L : List Sp} (h : Row w v L) (hk : ∀ g, v.ownBlock = some g → w'.heap[g]? = w.heap[g]?) : Row w' v L := by
  rcases Row.at h with ⟨rfl, rfl⟩ | ⟨g, c, sp, rfl, hR⟩
  · exact row_nil _
  · exact RowAt.row (sp := sp) ⟨(hk g rfl).trans hR.1, hR.2⟩
theorem row_lt {w : World} {v : Value} {L : List Sp} (h : Row w v L) : ∀ g, v.ownBlock = some g → g < w.heap.size := fun g e => by
  rcases Row.at h with ⟨rfl, rfl⟩ | ⟨g', c, sp, rfl, hR⟩
  · cases e
  · cases e; exact hR.lt
theorem setAt_kept {W W' : World} {b : Nat} {v : Value} {L : List Sp} (h : SetAt W b 0 v L) (hb : W'.heap[b]? = W.heap[b]?) (hv : ∀ g, v.ownBlock = some g → W'.heap[g]? = W.heap[g]?) : SetAt W' b 0 v L := ⟨hb.trans h.blk, row_kept h.row hv⟩
theorem setAt_lt {w : World} {b : Nat} {v : Value} {L : List Sp} (h : SetAt w b 0 v L) : b < w.heap.size := (Array.getElem?_eq_some_iff.1 h.blk).1

/-- The cells of a Send. -/
def sdc (ba bl : Nat) (vh : Value) (S : Sd) : Array Value := #[.int .i64 S.cap, vh, .int .i64 (wr S), .int .i64 S.sent, .int .i64 S.base, ptr ba, ptr bl, .bool S.ended, .int .i64 S.fin, .bool S.stopped]

/-- No byte may be sent any more, or none was written. -/
def Gone (S : Sd) : Prop := S.T = [] ∨ S.stopped = true ∨ (S.ended = true ∧ S.base = wr S)
/-- What the ring holds. -/
def RingAt (W : World) (vh : Value) (S : Sd) : Prop := (vh = nilS ∧ Gone S) ∨ ∃ g cs, vh = .slice (some ⟨g, 0, none⟩) S.cap.toNat S.cap.toNat ∧ Blk W g (by8 cs) 5 ∧ cs.length = S.cap.toNat ∧ (∀ x ∈ cs, IsB x) ∧ ∀ x : Nat, S.base ≤ x → x < S.T.length → cs[x % S.cap.toNat]? = S.T[x]?

theorem RingAt.kept {W W' : World} {vh : Value} {S : Sd} (h : RingAt W vh S) (hk : ∀ g, vh.ownBlock = some g → W'.heap[g]? = W.heap[g]?) : RingAt W' vh S := by
  rcases h with h | ⟨g, cs, rfl, h1, h2⟩
  · exact .inl h
  · exact .inr ⟨g, cs, rfl, (hk g rfl).trans h1, h2⟩
theorem RingAt.to {W : World} {vh : Value} {S S' : Sd} (h : RingAt W vh S) (hc : S'.cap = S.cap) (hT : S'.T = S.T) (hb : S.base ≤ S'.base) (hg : Gone S → Gone S') : RingAt W vh S' := by
  rcases h with ⟨h, g⟩ | ⟨g, cs, rfl, h1, h2, h3, h4⟩
  · exact .inl ⟨h, hg g⟩
  · refine .inr ⟨g, cs, by rw [hc], h1, by rw [hc]; exact h2, h3, fun x hx hl => ?_⟩
    rw [hc, hT]
    exact h4 x (by omega) (by rw [hT] at hl; exact hl)
theorem RingAt.lt {W : World} {vh : Value} {S : Sd} (h : RingAt W vh S) : ∀ g, vh.ownBlock = some g → g < W.heap.size := fun g e => by
  rcases h with ⟨rfl, -⟩ | ⟨g', cs, rfl, h1, -⟩
  · cases e
  · cases e; exact h1.lt
theorem RingAt.ne_blk {W : World} {vh : Value} {S : Sd} (h : RingAt W vh S) {k : Nat} {cs : Array Value} {t : TypeId} (hk : W.heap[k]? = some (.cells cs t (0, 0))) (ht : t ≠ 5) : vh.ownBlock ≠ some k := fun e => by
  rcases h with ⟨rfl, -⟩ | ⟨g', cs', rfl, h1, -⟩
  · cases e
  · cases e
    have h1' : W.heap[g']? = some (.cells (by8 cs') 5 (0, 0)) := h1
    rw [h1'] at hk
    injection hk with hk
    injection hk with _ hk
    exact ht hk.symm

/-- A Send at b, its blocks those of M or new since w; all else is as it was. -/
structure At (w : World) (M : Nat → Prop) (b ba bl : Nat) (vh : Value) (W : World) (S : Sd) : Prop where
  kp : Kp M w W
  blk : Blk W b (sdc ba bl vh S) 72
  sets : ∃ va vl, SetAt W ba 0 va S.A ∧ SetAt W bl 0 vl S.L ∧ (∀ g, va.ownBlock = some g → vl.ownBlock ≠ some g) ∧ (∀ g, va.ownBlock = some g → M g ∨ w.heap.size ≤ g) ∧ (∀ g, vl.ownBlock = some g → M g ∨ w.heap.size ≤ g)
  ring : RingAt W vh S
  ne : ba ≠ bl
  mb : M b ∨ w.heap.size ≤ b
  ma : M ba ∨ w.heap.size ≤ ba
  ml : M bl ∨ w.heap.size ≤ bl
  mh : ∀ g, vh.ownBlock = some g → M g ∨ w.heap.size ≤ g
  tb : ∀ x ∈ S.T, IsB x

section
variable {w W W' : World} {M : Nat → Prop} {b ba bl : Nat} {vh : Value} {S S' : Sd}

theorem Kp.nothing {S : Nat → Prop} {A B C : World} (h : Kp S A B) (k : B.grownBy C none) : Kp S A C := h.trans (Kp.grown k S)

theorem At.grown (h : At w M b ba bl vh W S) (g : W.grownBy W' none) : At w M b ba bl vh W' S := by
  obtain ⟨va, vl, s1, s2, d, m1, m2⟩ := h.sets
  exact ⟨h.kp.nothing g, h.blk.grown g, ⟨va, vl, s1.keep g, s2.keep g, d, m1, m2⟩, h.ring.kept fun k e => g.block k (h.ring.lt k e) (by simp), h.ne, h.mb, h.ma, h.ml, h.mh, h.tb⟩

theorem At.cells (h : At w M b ba bl vh W S) : W.cell? ⟨b, 0, none⟩ = some (.int .i64 S.cap) ∧ W.cell? ⟨b, 1, none⟩ = some vh ∧ W.cell? ⟨b, 2, none⟩ = some (.int .i64 (wr S)) ∧ W.cell? ⟨b, 3, none⟩ = some (.int .i64 S.sent) ∧ W.cell? ⟨b, 4, none⟩ = some (.int .i64 S.base) ∧ W.cell? ⟨b, 5, none⟩ = some (ptr ba) ∧ W.cell? ⟨b, 6, none⟩ = some (ptr bl) ∧ W.cell? ⟨b, 7, none⟩ = some (.bool S.ended) ∧ W.cell? ⟨b, 8, none⟩ = some (.int .i64 S.fin) ∧ W.cell? ⟨b, 9, none⟩ = some (.bool S.stopped) :=
  ⟨h.blk.cell 0 _ rfl, h.blk.cell 1 _ rfl, h.blk.cell 2 _ rfl, h.blk.cell 3 _ rfl, h.blk.cell 4 _ rfl, h.blk.cell 5 _ rfl, h.blk.cell 6 _ rfl, h.blk.cell 7 _ rfl, h.blk.cell 8 _ rfl, h.blk.cell 9 _ rfl⟩

theorem or_lt {w : World} {M : Nat → Prop} {g : Nat} (h : M g ∨ w.heap.size ≤ g) : g < w.heap.size → M g := fun hl => h.resolve_right (by omega)

theorem sets_put {x : Value} {j : Nat} {A L : List Sp} {cs : Array Value} (hb : Blk W b cs 72) (s : ∃ va vl, SetAt W ba 0 va A ∧ SetAt W bl 0 vl L ∧ (∀ g, va.ownBlock = some g → vl.ownBlock ≠ some g) ∧ (∀ g, va.ownBlock = some g → M g ∨ w.heap.size ≤ g) ∧ (∀ g, vl.ownBlock = some g → M g ∨ w.heap.size ≤ g)) :
    ∃ va vl, SetAt (W.setCell ⟨b, j, none⟩ x) ba 0 va A ∧ SetAt (W.setCell ⟨b, j, none⟩ x) bl 0 vl L ∧ (∀ g, va.ownBlock = some g → vl.ownBlock ≠ some g) ∧ (∀ g, va.ownBlock = some g → M g ∨ w.heap.size ≤ g) ∧ (∀ g, vl.ownBlock = some g → M g ∨ w.heap.size ≤ g) := by
  obtain ⟨va, vl, s1, s2, d⟩ := s
  have e : ∀ {k : Nat} {v : Value} {L : List Sp}, SetAt W k 0 v L → SetAt (W.setCell ⟨b, j, none⟩ x) k 0 v L := fun {k v L} s =>
    setAt_kept s (set_heap _ _ _ _ _ (heap_ne s.blk hb (by decide))) (fun g hg => set_heap _ _ _ _ _ (fun e => s.row.ne_of hb (by decide) (e ▸ hg)))
  exact ⟨va, vl, e s1, e s2, d⟩

/-- A cell is written. -/
theorem At.put (h : At w M b ba bl vh W S) (j : Nat) (x : Value) (e : sdc ba bl vh S' = (sdc ba bl vh S).setIfInBounds j x) (eA : S'.A = S.A) (eL : S'.L = S.L) (hr : ∀ X, RingAt X vh S → RingAt X vh S') (tb : S'.T = S.T) : At w M b ba bl vh (W.setCell ⟨b, j, none⟩ x) S' :=
  ⟨h.kp.set b j x (or_lt h.mb), by rw [e]; exact h.blk.setC j x, by rw [eA, eL]; exact sets_put h.blk h.sets, hr _ (h.ring.kept fun g hg => set_heap _ _ _ _ _ (fun e => h.ring.ne_blk h.blk (by decide) (e ▸ hg))), h.ne, h.mb, h.ma, h.ml, h.mh, by rw [tb]; exact h.tb⟩

/-- The ring is another one, or none. -/
theorem At.held (h : At w M b ba bl vh W S) (v : Value) (hr : RingAt W v S) (hv : ∀ g, v.ownBlock = some g → M g ∨ w.heap.size ≤ g) : At w M b ba bl v (W.setCell ⟨b, 1, none⟩ v) S :=
  ⟨h.kp.set b 1 v (or_lt h.mb), by have := h.blk.setC 1 v; exact this, sets_put h.blk h.sets, hr.kept fun g hg => set_heap _ _ _ _ _ (fun e => hr.ne_blk h.blk (by decide) (e ▸ hg)), h.ne, h.mb, h.ma, h.ml, hv, h.tb⟩

/-- The lost ones are another set, an empty one. -/
theorem At.newL (h : At w M b ba bl vh W S) {bl' : Nat} (hs : SetAt W bl' 0 nilS []) (hn : ba ≠ bl') (hm : M bl' ∨ w.heap.size ≤ bl') : At w M b ba bl' vh (W.setCell ⟨b, 6, none⟩ (ptr bl')) { S with L := [] } := by
  obtain ⟨va, vl, s1, s2, d, m1, m2⟩ := h.sets
  have hr : RingAt (W.setCell ⟨b, 6, none⟩ (ptr bl')) vh S := h.ring.kept fun g hg => set_heap _ _ _ _ _ (fun e => h.ring.ne_blk h.blk (by decide) (e ▸ hg))
  have hst := sets_put (w := w) (M := M) (x := ptr bl') (j := 6) h.blk ⟨va, nilS, s1, hs, fun g _ e => (by simp [Value.ownBlock] at e), m1, fun g e => (by simp [Value.ownBlock] at e)⟩
  exact ⟨h.kp.set b 6 _ (or_lt h.mb), by have := h.blk.setC 6 (ptr bl'); exact this, hst, hr.to rfl rfl (Int.le_refl _) id, hn, h.mb, h.ma, hm, h.mh, h.tb⟩

/-- What a set's Add or Cut leaves. -/
theorem kp_touch {v : Value} {k : Nat} (h : Kp M w W) (t : Touch W W' k v) (hk : M k ∨ w.heap.size ≤ k) (hv : ∀ g, v.ownBlock = some g → M g ∨ w.heap.size ≤ g) : Kp M w W' :=
  ⟨t.os.trans h.os, t.tape.trans h.tape, t.output.trans h.output, Nat.le_trans h.size t.size, fun g hg hn => by
    rw [t.block g (Nat.lt_of_lt_of_le hg h.size) (fun e => hn (or_lt hk (by omega) |> fun q => e ▸ q)) (fun e => hn (or_lt (hv g e.symm) hg))]
    exact h.block g hg hn⟩

theorem At.setA {va' : Value} {A' : List Sp} {va vl : Value} (h : At w M b ba bl vh W S) (s1 : SetAt W ba 0 va S.A) (s2 : SetAt W bl 0 vl S.L) (d : ∀ g, va.ownBlock = some g → vl.ownBlock ≠ some g) (m1 : ∀ g, va.ownBlock = some g → M g ∨ w.heap.size ≤ g) (m2 : ∀ g, vl.ownBlock = some g → M g ∨ w.heap.size ≤ g)
    (hs : SetAt W' ba 0 va' A') (ho : va'.ownBlock = va.ownBlock ∨ Fresh W va') (t : Touch W W' ba va) : At w M b ba bl vh W' { S with A := A' } := by
  have nb : ∀ {k : Nat}, k < W.heap.size → k ≠ ba → va.ownBlock ≠ some k → W'.heap[k]? = W.heap[k]? := fun hk h1 h2 => t.block _ hk h1 (fun e => h2 e.symm)
  refine ⟨kp_touch h.kp t h.ma m1, (nb h.blk.lt (heap_ne h.blk s1.blk (by decide)) (s1.row.ne_of h.blk (by decide))).trans h.blk, ⟨va', vl, hs, setAt_kept s2 (nb (setAt_lt s2) h.ne.symm (s1.row.ne_of s2.blk (by decide))) (fun g hg => nb (row_lt s2.row g hg) (fun e => s2.row.ne_of s1.blk (by decide) (e ▸ hg)) (fun e => d g e hg)), fun g e e' => ?_, fun g e => ?_, m2⟩, (h.ring.kept fun g hg => nb (h.ring.lt g hg) (fun e => h.ring.ne_blk s1.blk (by decide) (e ▸ hg)) (fun e => ?_)).to rfl rfl (Int.le_refl _) id, h.ne, h.mb, h.ma, h.ml, h.mh, h.tb⟩
  · rcases ho with ho | ho
    · exact d g (ho ▸ e) e'
    · have := ho g e
      have := row_lt s2.row g e'
      omega
  · rcases ho with ho | ho
    · exact m1 g (ho ▸ e)
    · exact .inr (Nat.le_trans h.kp.size (ho g e))
  · rcases Row.at s1.row with ⟨rfl, -⟩ | ⟨g', c, sp, rfl, hR⟩
    · cases e
    · cases e
      exact h.ring.ne_blk hR.1 (by decide) hg

theorem At.setL {vl' : Value} {L' : List Sp} {va vl : Value} (h : At w M b ba bl vh W S) (s1 : SetAt W ba 0 va S.A) (s2 : SetAt W bl 0 vl S.L) (d : ∀ g, va.ownBlock = some g → vl.ownBlock ≠ some g) (m1 : ∀ g, va.ownBlock = some g → M g ∨ w.heap.size ≤ g) (m2 : ∀ g, vl.ownBlock = some g → M g ∨ w.heap.size ≤ g)
    (hs : SetAt W' bl 0 vl' L') (ho : vl'.ownBlock = vl.ownBlock ∨ Fresh W vl') (t : Touch W W' bl vl) : At w M b ba bl vh W' { S with L := L' } := by
  have nb : ∀ {k : Nat}, k < W.heap.size → k ≠ bl → vl.ownBlock ≠ some k → W'.heap[k]? = W.heap[k]? := fun hk h1 h2 => t.block _ hk h1 (fun e => h2 e.symm)
  refine ⟨kp_touch h.kp t h.ml m2, (nb h.blk.lt (heap_ne h.blk s2.blk (by decide)) (s2.row.ne_of h.blk (by decide))).trans h.blk, ⟨va, vl', setAt_kept s1 (nb (setAt_lt s1) h.ne (s2.row.ne_of s1.blk (by decide))) (fun g hg => nb (row_lt s1.row g hg) (fun e => s1.row.ne_of s2.blk (by decide) (e ▸ hg)) (fun e => d g hg e)), hs, fun g e e' => ?_, m1, fun g e => ?_⟩, (h.ring.kept fun g hg => nb (h.ring.lt g hg) (fun e => h.ring.ne_blk s2.blk (by decide) (e ▸ hg)) (fun e => ?_)).to rfl rfl (Int.le_refl _) id, h.ne, h.mb, h.ma, h.ml, h.mh, h.tb⟩
  · rcases ho with ho | ho
    · exact d g e (ho ▸ e')
    · have := ho g e'
      have := row_lt s1.row g e
      omega
  · rcases ho with ho | ho
    · exact m2 g (ho ▸ e)
    · exact .inr (Nat.le_trans h.kp.size (ho g e))
  · rcases Row.at s2.row with ⟨rfl, -⟩ | ⟨g', c, sp, rfl, hR⟩
    · cases e
    · cases e
      exact h.ring.ne_blk hR.1 (by decide) hg
end

theorem ok_gx {L : List Sp} (h : Gx L) (hl : L.length ≤ 1000000) : Ok L := ⟨h, by omega⟩
theorem SdOk.okA {S : Sd} (h : SdOk S) (hw : wr S ≤ 1152921504606846976) : Ok S.A := by
  have := h.lenA; have := h.cap; have := h.sw
  exact ok_gx (good_gx h.gA (by omega) (by omega)) (by omega)
theorem SdOk.okL {S : Sd} (h : SdOk S) (hw : wr S ≤ 1152921504606846976) : Ok S.L := by
  have := h.lenL; have := h.cap; have := h.sw
  exact ok_gx (good_gx h.gL (by omega) (by omega)) (by omega)

theorem add_post {w : World} {b : Nat} {v : Value} {L : List Sp} (hv : SetAt w b 0 v L) (hL : Ok L) (lo hi : Int) (hlo : -9223372036854775808 ≤ lo) (hhi : hi ≤ 9223372036854775807) :
    Calls Try.prog 42 #[.pointer (some ⟨b, 0, none⟩), .int .i64 lo, .int .i64 hi] w (AddPost b 0 v w (addN lo hi L) (addS 0 lo hi L)) := by
  by_cases hlh : hi < lo
  · refine (add_gt b lo hi w hlh).mono ?_
    rintro e w' ⟨rfl, hg⟩
    unfold addN addS
    rw [if_pos hlh, if_pos hlh]
    exact ⟨rfl, ⟨v, hv.keep hg, .inl rfl⟩, Touch.of b v hg⟩
  · unfold addN addS
    rw [if_neg hlh, if_neg hlh]
    obtain ⟨A, M, D, rfl, hA, hM, hD⟩ := split3 (lo - 1) (hi + 1) hL.good (by omega)
    rw [addF_split hL.good (by omega) hA hM hD]
    exact add_walk b 0 lo hi v A M D w hv hL (by omega) hlo hhi hA hM hD
theorem cut_post {w : World} {b : Nat} {v : Value} {L : List Sp} (hv : SetAt w b 0 v L) (hL : Ok L) (lo hi : Int) (hlo : -9223372036854775808 ≤ lo) (hhi : hi ≤ 9223372036854775807) :
    Calls Try.prog 48 #[.pointer (some ⟨b, 0, none⟩), .int .i64 lo, .int .i64 hi] w (AddPost b 0 v w (cutN lo hi L) (cutS 0 lo hi L)) := by
  by_cases hlh : hi < lo
  · refine (cut_gt b lo hi w hlh).mono ?_
    rintro e w' ⟨rfl, hw⟩
    subst hw
    unfold cutN cutS
    rw [if_pos hlh, if_pos hlh]
    exact ⟨rfl, ⟨v, hv, .inl rfl⟩, Touch.of b v (grown_self _ _)⟩
  · unfold cutN cutS
    rw [if_neg hlh, if_neg hlh]
    obtain ⟨A, M, D, rfl, hA, hM, hD⟩ := split3 lo hi hL.good (by omega)
    rw [cutF_split hL.good (by omega) hA hM hD]
    by_cases hne : M = []
    · subst hne
      exact cut_none b 0 lo hi v A D w hv hL (by omega) hlo hhi hA hD
    · exact cut_meet b 0 lo hi v A M D w hv hL (by omega) hlo hhi hA hM hD hne

section
variable {w W : World} {M : Nat → Prop} {b ba bl : Nat} {vh : Value} {S : Sd}
theorem addA_at (h : At w M b ba bl vh W S) (ok : Ok S.A) (lo hi : Int) (hlo : -9223372036854775808 ≤ lo) (hhi : hi ≤ 9223372036854775807) :
    Calls Try.prog 42 #[ptr ba, .int .i64 lo, .int .i64 hi] W fun e W' => ∃ n, e = .returned (.int .u64 n) ∧ At w M b ba bl vh W' { S with A := addS 0 lo hi S.A } := by
  obtain ⟨va, vl, s1, s2, d, m1, m2⟩ := h.sets
  refine (add_post s1 ok lo hi hlo hhi).mono ?_
  rintro e W' ⟨rfl, ⟨v', hs, ho⟩, t⟩
  exact ⟨_, rfl, h.setA s1 s2 d m1 m2 hs ho t⟩
theorem addL_at (h : At w M b ba bl vh W S) (ok : Ok S.L) (lo hi : Int) (hlo : -9223372036854775808 ≤ lo) (hhi : hi ≤ 9223372036854775807) :
    Calls Try.prog 42 #[ptr bl, .int .i64 lo, .int .i64 hi] W fun e W' => ∃ n, e = .returned (.int .u64 n) ∧ At w M b ba bl vh W' { S with L := addS 0 lo hi S.L } := by
  obtain ⟨va, vl, s1, s2, d, m1, m2⟩ := h.sets
  refine (add_post s2 ok lo hi hlo hhi).mono ?_
  rintro e W' ⟨rfl, ⟨v', hs, ho⟩, t⟩
  exact ⟨_, rfl, h.setL s1 s2 d m1 m2 hs ho t⟩
theorem cutL_at (h : At w M b ba bl vh W S) (ok : Ok S.L) (lo hi : Int) (hlo : -9223372036854775808 ≤ lo) (hhi : hi ≤ 9223372036854775807) :
    Calls Try.prog 48 #[ptr bl, .int .i64 lo, .int .i64 hi] W fun e W' => ∃ n, e = .returned (.int .u64 n) ∧ At w M b ba bl vh W' { S with L := cutS 0 lo hi S.L } := by
  obtain ⟨va, vl, s1, s2, d, m1, m2⟩ := h.sets
  refine (cut_post s2 ok lo hi hlo hhi).mono ?_
  rintro e W' ⟨rfl, ⟨v', hs, ho⟩, t⟩
  exact ⟨_, rfl, h.setL s1 s2 d m1 m2 hs ho t⟩
theorem hasA_at (h : At w M b ba bl vh W S) (ok : Ok S.A) (x : Int) :
    Calls Try.prog 50 #[ptr ba, .int .i64 x] W fun e W' => e = .returned (.bool (memB x S.A)) ∧ W.grownBy W' none := by
  obtain ⟨va, vl, s1, s2, d, m1, m2⟩ := h.sets
  exact has_any ba 0 x va S.A W s1 ok
theorem runsA_at (h : At w M b ba bl vh W S) (ok : Ok S.A) :
    Calls Try.prog 43 #[ptr ba] W fun e W' => ∃ v', e = .returned v' ∧ Row W' v' S.A ∧ Fresh W v' ∧ W.grownBy W' none := by
  obtain ⟨va, vl, s1, s2, d, m1, m2⟩ := h.sets
  exact runs_any ba 0 va S.A W s1 (by have := ok.size; omega)
theorem runsL_at (h : At w M b ba bl vh W S) (ok : Ok S.L) :
    Calls Try.prog 43 #[ptr bl] W fun e W' => ∃ v', e = .returned v' ∧ Row W' v' S.L ∧ Fresh W v' ∧ W.grownBy W' none := by
  obtain ⟨va, vl, s1, s2, d, m1, m2⟩ := h.sets
  exact runs_any bl 0 vl S.L W s2 (by have := ok.size; omega)
theorem holesA_at (h : At w M b ba bl vh W S) (ok : Ok S.A) (lo hi : Int) (hlo : -9223372036854775808 ≤ lo) (hhi : hi ≤ 9223372036854775807) :
    Calls Try.prog 41 #[ptr ba, .int .i64 lo, .int .i64 hi] W fun e W' => ∃ v', e = .returned v' ∧ Row W' v' (holesS S (lo, hi)) ∧ Fresh W v' ∧ W.grownBy W' none := by
  obtain ⟨va, vl, s1, s2, d, m1, m2⟩ := h.sets
  unfold holesS
  by_cases hlh : hi < lo
  · rw [if_pos hlh]
    refine (holes_gt ba lo hi W hlh).mono ?_
    rintro e w' ⟨rfl, hw⟩
    subst hw
    exact ⟨_, rfl, row_nil _, fresh_nil _, grown_self _ _⟩
  · rw [if_neg hlh]
    exact holes_any ba 0 lo hi va S.A W s1 ok (by omega) hlo hhi
theorem lenL_at (h : At w M b ba bl vh W S) : Calls Try.prog 70 #[ptr bl] W fun e W' => e = .returned (.int .i64 S.L.length) ∧ W' = W := by
  obtain ⟨va, vl, s1, s2, d, m1, m2⟩ := h.sets
  have hl := list_any bl 0 vl S.L W s2
  obtain ⟨a, c, rfl, -, -, -⟩ := s2.row.shape
  clear h s1 s2 d m1 m2
  go_enter Try.func70, Try.ntmps70
  go_wp2_with (go_at_call 69; refine hl.mono ?_; rintro e w' ⟨rfl, hw'⟩; subst w')
  all_goals go_ret
  all_goals exact ⟨rfl, rfl⟩
end
end Go.Proofs.Ytdalekjpjnhboaa
