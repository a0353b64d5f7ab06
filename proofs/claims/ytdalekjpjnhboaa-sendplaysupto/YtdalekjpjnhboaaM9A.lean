/- S6P, S7A, S7B, S7C, S8A, S8C, S8D, S8E, S8F, S8G, S8H, S8I, S8B, S8J, S8K, S8L, one text. -/
import Derived.Test.YtdalekjpjnhboaaS5P
import Derived.Test.YtdalekjpjnhboaaS5X
import Derived.Laws.OwnMore
import Derived.BigQuiet
import Derived.Deep.RegionHeld3
namespace Go.Proofs.Ytdalekjpjnhboaa
set_option linter.unusedVariables false
set_option maxRecDepth 100000
set_option maxHeartbeats 400000

/-- Nothing is under way. -/
structure Clear (S : Sd) : Prop where
  all : ∀ x, 0 ≤ x → x < S.sent → memB x S.A = true ∨ memB x S.L = true
  fin : S.fin ≠ 1

theorem clear_base {S : Sd} (h : SdOk S) (hc : Clear S) (hL : S.L = []) (hs : S.sent = wr S) : S.base = wr S := by
  have hb := h.b0; have hbs := h.bs
  by_cases q : S.base = wr S
  · exact q
  · rcases hc.all S.base hb (by omega) with q1 | q1
    · exact (bool_no q1 h.top).elim
    · rw [hL] at q1; simp [memB] at q1

theorem clear_next {S : Sd} (h : SdOk S) (hc : Clear S) (hs : S.stopped = false) (he : S.ended = true) (hd : doneB S = false) {most limit : Int} (hm : 1 ≤ most) (hl : wr S ≤ limit) : (dueS S most limit).2.2 = true := by
  unfold dueS
  rw [if_neg (by rw [hs]; simp)]
  cases hL : S.L with
  | cons s L => simp only [stretch]; rw [if_pos hm]
  | nil =>
    simp only
    have hsw := h.sw
    by_cases q : S.sent < min (wr S) limit
    · rw [if_pos q]; simp only [stretch]; rw [if_pos hm]
    · rw [if_neg q]
      have e : S.sent = wr S := by omega
      have hb := clear_base h hc hL e
      have hf := h.fin
      have h3 : S.fin ≠ 3 := fun e3 => by
        unfold doneB at hd
        rw [he, hb, e3] at hd
        simp at hd
      have h1 := hc.fin
      have hfw : finW S = true := by
        unfold finW
        rw [he, e]
        have : S.fin = 0 ∨ S.fin = 2 := by omega
        rcases this with q | q <;> simp [q]
      rw [if_pos hfw]

/-- What is lost of a piece: all of it that is not acknowledged. -/
theorem lost_mem {S : Sd} (h : SdOk S) (hw : wr S ≤ 1152921504606846976) {p : Int × Int} (hp : 0 ≤ p.1 ∧ p.2 ≤ S.sent - 1) (fin : Bool) (x : Int) : memB x (lostG S p fin).L = true ↔ memB x S.L = true ∨ (p.1 ≤ x ∧ x ≤ p.2 ∧ memB x S.A = false) := by
  have hb := h.b0; have hbs := h.bs; have hsw := h.sw
  have hgL : Gx S.L := good_gx h.gL (by omega) (by omega)
  obtain ⟨k1, k2, k3⟩ := holesS_ok h hp
  obtain ⟨l1, l2, l3⟩ := lostL_gx hgL (H := holesS S p) (fun r hr => by have := k1 r hr; omega)
  have e : (lostG S p fin).L = lostL S.L (holesS S p) := rfl
  rw [e, l3 x]
  refine or_congr Iff.rfl ?_
  unfold holesS
  by_cases c : p.2 < p.1
  · rw [if_pos c]
    constructor
    · intro q; simp [memB] at q
    · rintro ⟨q1, q2, -⟩; omega
  · rw [if_neg c]
    constructor
    · intro q
      have hg := (holes_good (lo := p.1) (hi := p.2) h.gA (by omega)).1
      have hx := memB_in hg q
      rw [memB_holes h.gA (by omega) (by omega)] at q
      exact ⟨by omega, by omega, by simpa using q⟩
    · rintro ⟨q1, q2, q3⟩
      rw [memB_holes h.gA q1 q2, q3]; rfl

/-- A piece that is told and acknowledged at once leaves nothing under way. -/
theorem clear_step {S : Sd} (h : SdOk S) (hw : wr S ≤ 1152921504606846976) (hc : Clear S) {most limit f t : Int} (hd : dueS S most limit = (f, t, true)) (fin : Bool) (hf : fin = endB S t) :
    Clear (ackG (nextG S f t) (f, t - 1) fin) := by
  have hdo := due_ok h hd
  have hok := sdok_next h hw hdo
  have hb := h.b0; have hbs := h.bs; have hsw := h.sw
  have q1 := hdo.lo; have q2 := hdo.le; have q3 := hdo.hi
  have hgA : Gx S.A := good_gx h.gA (by omega) (by omega)
  have hgL : Gx S.L := good_gx h.gL (by omega) (by omega)
  have hsent : f ≤ S.sent := by
    unfold dueS at hd
    by_cases hs : S.stopped = true
    · rw [if_pos hs] at hd; simp at hd
    · rw [if_neg hs] at hd
      cases hL : S.L with
      | cons s L =>
        rw [hL] at hd
        have hg := h.gL
        rw [hL] at hg
        have g2 := hg.2.1; have g3 := hg.2.2.1
        simp only [stretch] at hd
        split at hd
        · simp only [Prod.mk.injEq] at hd; omega
        · simp at hd
      | nil =>
        rw [hL] at hd
        simp only at hd
        split at hd
        · simp only [stretch] at hd
          split at hd
          · simp only [Prod.mk.injEq] at hd; omega
          · simp at hd
        · split at hd
          · rename_i hfw
            simp only [Prod.mk.injEq] at hd
            unfold finW at hfw
            simp only [Bool.and_eq_true, decide_eq_true_eq] at hfw
            omega
          · simp at hd
  refine ⟨fun x h0 h1 => ?_, ?_⟩
  · have h1' : x < max S.sent t := h1
    show memB x (addS 0 f (t - 1) S.A) = true ∨ memB x (cutS 0 f (t - 1) (cutS 0 f (t - 1) S.L)) = true
    by_cases c : f ≤ x ∧ x ≤ t - 1
    · exact .inl ((memB_addS hgA x).2 (.inr c))
    · rcases hc.all x h0 (by omega) with q | q
      · exact .inl ((memB_addS hgA x).2 (.inl q))
      · exact .inr ((memB_cutS (cutS_gx hgL).1 x).2 ⟨(memB_cutS hgL x).2 ⟨q, c⟩, c⟩)
  · show (if fin = true ∧ (if endB S t = true ∧ S.fin ≠ 3 then 1 else S.fin) ≠ 0 then 3 else (if endB S t = true ∧ S.fin ≠ 3 then 1 else S.fin)) ≠ 1
    have h1 := hc.fin
    subst hf
    cases he : endB S t with
    | true =>
      by_cases h3 : S.fin = 3
      · simp [h3]
      · simp [h3]
    | false => simp; exact h1

/-- How many numbers there are more. -/
theorem cnt_add {A : List Sp} {f t : Int} (hg : Gx A) (hlt : f < t) (hf : -9223372036854775808 ≤ f) (ht : t - 1 ≤ 9223372036854775807) (hno : ∀ x, f ≤ x → x ≤ t - 1 → memB x A = false) : cnt (addS 0 f (t - 1) A) = cnt A + (t - f) := by
  unfold addS
  rw [if_neg (by omega), boundF_zero, (addF_good hg (by omega) hf ht).2.1]
  have hw : withinF f (t - 1) A = [] := withinF_none fun s hs => by
    have hm := hg.mem hs
    by_cases q : s.2 < f ∨ t - 1 < s.1
    · exact q
    · exfalso
      have := hno (max s.1 f) (by omega) (by omega)
      exact bool_no (memB_true hs (by omega) (by omega)) this
  have := (holes_good (lo := f) (hi := t - 1) hg (by omega)).2
  rw [hw] at this
  simp only [cnt] at this
  omega

/-- What is due is not acknowledged. -/
theorem due_free {S : Sd} (h : SdOk S) {most limit f t : Int} (hd : dueS S most limit = (f, t, true)) : ∀ x, f ≤ x → x ≤ t - 1 → memB x S.A = false := by
  intro x h1 h2
  unfold dueS at hd
  by_cases hs : S.stopped = true
  · rw [if_pos hs] at hd; simp at hd
  · rw [if_neg hs] at hd
    cases hL : S.L with
    | cons s L =>
      rw [hL] at hd
      simp only [stretch] at hd
      split at hd
      · simp only [Prod.mk.injEq] at hd
        exact h.dis x (by rw [hL]; exact memB_true (s := s) (by simp) (by omega) (by omega))
      · simp at hd
    | nil =>
      rw [hL] at hd
      simp only at hd
      have hout : S.sent ≤ x → memB x S.A = false := fun q => memB_out h.gA (.inr (by omega))
      have hsw := h.sw
      split at hd
      · simp only [stretch] at hd
        split at hd
        · simp only [Prod.mk.injEq] at hd
          exact hout (by omega)
        · simp at hd
      · split at hd
        · simp only [Prod.mk.injEq] at hd
          omega
        · simp at hd
end Go.Proofs.Ytdalekjpjnhboaa

namespace Go.Proofs.Ytdalekjpjnhboaa
open Go.RowKit
set_option linter.unusedVariables false
set_option maxHeartbeats 400000
set_option maxRecDepth 100000

/-- A row of cells of one kind, each one value. -/
def RowV (n0 : Nat) (t : TypeId) (X : World) (v : Value) (L : List Value) : Prop := X.ownsRow n0 t 1 v L.length L
section
variable {n0 : Nat} {t : TypeId} {X Y : World} {v : Value} {L : List Value}
theorem rowV_nil (n0 : Nat) (t : TypeId) (X : World) : RowV n0 t X (.slice none 0 0) [] := ⟨rfl, .inl ⟨rfl, rfl⟩⟩
theorem RowV.at (h : RowV n0 t X v L) : ∃ a c, v = .slice a L.length c ∧ L.length ≤ c ∧ c ≤ 9223372036854775807 ∧ (L = [] ∨ ∃ g, a = some ⟨g, 0, none⟩ ∧ n0 ≤ g ∧ g < X.heap.size ∧ (∃ cur, Blk X g cur t) ∧ ∀ i u, L[i]? = some u → X.cell? ⟨g, i, none⟩ = some u) := by
  have hl := h.lt
  rcases h.2 with ⟨e1, e2⟩ | ⟨g, c', cur, e1, q1, q2, q3, q4, q5, q6⟩
  · have : L = [] := List.length_eq_zero_iff.1 e2
    subst this
    exact ⟨none, 0, e1, Nat.le_refl _, Nat.zero_le _, .inl rfl⟩
  · refine ⟨_, c', e1, q3, by unfold maxLen at q4; omega, .inr ⟨g, rfl, q1, (hl g (by rw [e1]; rfl)).2, ⟨cur, q2⟩, fun i u hi => ?_⟩⟩
    have hlt := (List.getElem?_eq_some_iff.1 hi).1
    unfold World.cell?
    rw [q2]
    have h1 : (cur.toList.take (L.length * 1))[i]? = L[i]? := by rw [q6]
    rw [List.getElem?_take, if_pos (by omega), Array.getElem?_toList, hi] at h1
    simp only
    exact h1
theorem RowV.kept (h : RowV n0 t X v L) (hk : ∀ g, v.ownBlock = some g → Y.heap[g]? = X.heap[g]?) : RowV n0 t Y v L := by
  refine ⟨h.1, ?_⟩
  rcases h.2 with h2 | ⟨g, c, cur, e1, q1, q2, q3⟩
  · exact .inl h2
  · exact .inr ⟨g, c, cur, e1, q1, (hk g (by rw [e1]; rfl)).trans q2, q3⟩
theorem RowV.ne (h : RowV n0 t X v L) {g : Nat} {cs : Array Value} {t' : TypeId} (hb : Blk X g cs t') (ht : t' ≠ t) : v.ownBlock ≠ some g := fun e => by
  rcases h.2 with ⟨rfl, -⟩ | ⟨g', c, cur, rfl, q1, q2, q3⟩
  · cases e
  · cases e
    have hb' : X.heap[g']? = some (.cells cs t' (0, 0)) := hb
    rw [q2] at hb'
    injection hb' with hb'
    injection hb' with _ hb'
    exact ht hb'.symm
theorem RowV.ne2 (h : RowV n0 t X v L) {v' : Value} {t' : TypeId} {L' : List Value} (h' : RowV n0 t' X v' L') (ht : t' ≠ t) {g : Nat} (e : v'.ownBlock = some g) : v.ownBlock ≠ some g := by
  rcases h'.2 with ⟨rfl, -⟩ | ⟨g', c, cur, rfl, q1, q2, q3⟩
  · cases e
  · cases e
    exact h.ne (show Blk X g' cur t' from q2) ht
theorem RowV.set {g n c : Nat} (h : RowV n0 t X (.slice (some ⟨g, 0, none⟩) n c) L) (j : Nat) (u : Value) : RowV n0 t (X.setCell ⟨g, j, none⟩ u) (.slice (some ⟨g, 0, none⟩) n c) (if j < L.length then L.set j u else L) ∨ ¬ j < L.length := by
  by_cases hj : j < L.length
  · left
    rw [if_pos hj]
    rcases h.2 with ⟨e1, e2⟩ | ⟨g', c', cur, e1, q1, q2, q3, q4, q5, q6⟩
    · cases e1
    · cases e1
      have hb : Blk (X.setCell ⟨g, j, none⟩ u) g (cur.setIfInBounds j u) t := Blk.setC (show Blk X g cur t from q2) j _
      have el : (L.set j u).length = L.length := List.length_set
      refine ⟨?_, .inr ⟨g, c, cur.setIfInBounds j u, by rw [el], q1, hb, by rw [el]; exact q3, q4, by rw [Array.size_setIfInBounds]; exact q5, ?_⟩⟩
      · rw [el]; omega
      · rw [el, Array.toList_setIfInBounds, List.take_set, q6]
  · exact .inr hj
theorem RowV.put {g n c : Nat} (h : RowV n0 t X (.slice (some ⟨g, 0, none⟩) n c) L) (j : Nat) (u : Value) (hj : j < L.length) : RowV n0 t (X.setCell ⟨g, j, none⟩ u) (.slice (some ⟨g, 0, none⟩) n c) (L.set j u) := by
  have := (h.set j u).resolve_right (fun q => q hj)
  rw [if_pos hj] at this
  exact this
end

/-- One value more. -/
theorem rowV_app (n0 : Nat) (W : World) (ts t : TypeId) (z : Value) (bytes : Nat) (v : Value) (L : List Value) (u : Value) (g : Nat) (c : Nat) (hts : Try.prog.underlying ts = some (.slice t)) (hinfo : (Try.prog.info? t).map (fun i => (i.zero, i.size, i.bytes)) = some (some z, 1, bytes)) (hz1 : z.cells.size = 1) (hu : u.oneCell' = true) (hb8 : bytes ≤ 32)
    (h : RowV n0 t W v L) (hn : n0 ≤ W.heap.size) (hc : W.cell? ⟨g, 0, none⟩ = some u) (hb : L.length + 1 ≤ 1000000000000) :
    ∃ a' c' W', (Builtin.append_ #[ts, ts] ts #[v, .slice (some ⟨g, 0, none⟩) 1 c]).run Try.prog W = .ok (.slice a' (L.length + 1) c') W' ∧ RowV n0 t W' (.slice a' (L.length + 1) c') (L ++ [u]) ∧ W.grownBy W' v.ownBlock ∧ ((Value.slice a' (L.length + 1) c').ownBlock = v.ownBlock ∨ (Value.slice a' (L.length + 1) c').ownBlock = some W.heap.size) := by
  obtain ⟨i, hi, hz, hs, hby⟩ := info_parts hinfo
  have hbb : (L.length + 1) * bytes ≤ 140737488355328 := Nat.le_trans (Nat.mul_le_mul_left _ hb8) (by omega)
  have hnews : ∀ j x, ([u] : List Value)[j]? = some x → W.cell? ((⟨g, 0, none⟩ : Addr).add j) = some x := fun j x hj => by
    match j, hj with
    | 0, hj => cases hj; exact hc
  have h1 : ∀ x ∈ [u], x.oneCell' = true := fun x hx => by simp at hx; rw [hx]; exact hu
  obtain ⟨v', W', hr, ho, hgr, hnil⟩ := run_append_own (P := Try.prog) W n0 ts ts t i z 1 bytes hts hi hz hs hby hz1 (by decide) v L.length L h ⟨g, 0, none⟩ 1 c [u] rfl hnews h1 (by unfold maxLen; omega) hbb hn
  have e2 : (L ++ [u]).length = L.length + 1 := by simp
  obtain ⟨a', c', rfl⟩ : ∃ a' c', v' = .slice a' (L.length + 1) c' := by
    rcases ho.2 with ⟨-, e⟩ | ⟨g', c', cur, e1, -⟩
    · omega
    · exact ⟨_, _, e1⟩
  refine ⟨a', c', W', hr, by unfold RowV; rw [e2]; exact ho, hgr, ?_⟩
  rcases h.2 with ⟨rfl, hl⟩ | ⟨g', cap, cur, rfl, hbg, hgg, hnc, hcm, hcs, htake⟩
  · have := run_append_nil (P := Try.prog) W ts ts t i z hts hi hz ⟨g, 0, none⟩ 1 c [u] (by rw [hs]; rfl) hnews (by omega) (by omega) (by rw [hby]; omega)
    rw [this] at hr
    injection hr with e1 e2
    rw [← e1]
    exact .inr rfl
  · by_cases hroom : L.length + 1 ≤ cap
    · have := run_append_room (P := Try.prog) W ts ts t i hts hi g' L.length cap cur hgg ⟨g, 0, none⟩ 1 c [u] (by rw [hs]; rfl) hnews h1 hroom (by rw [hs, hcs]; show L.length * 1 + 1 ≤ cap * 1; omega)
      rw [this] at hr
      injection hr with e1 e2
      rw [← e1]
      exact .inl rfl
    · have := run_append_grow (P := Try.prog) W ts ts t i z hts hi hz ⟨g', 0, none⟩ L.length cap L (by rw [hs]; exact h.1) (h.cells (g := g') rfl) ⟨g, 0, none⟩ 1 c [u] (by rw [hs]; rfl) hnews (by omega) (by omega) (growslice_fits (by omega) (by rw [hby]; exact hbb))
      rw [this] at hr
      injection hr with e1 e2
      rw [← e1]
      exact .inr rfl

/-- What the document's Send knows. -/
structure Rs where
  cap : Int
  T : List Int
  J : List Int
  told : Bool
  ever : Bool
  stopped : Bool
  fin : Int
  sent : Int
abbrev uV (L : List Int) : List Value := L.map (Value.int .u8)
abbrev iV (L : List Int) : List Value := L.map (Value.int .i64)
def rfc (vt vi : Value) (R : Rs) : Array Value := #[.int .i64 R.cap, vt, vi, .bool R.told, .bool R.ever, .bool R.stopped, .int .i64 R.fin, .int .i64 R.sent]
/-- The document's Send at rb. -/
structure RF (n0 : Nat) (X : World) (rb : Nat) (vt vi : Value) (R : Rs) : Prop where
  blk : Blk X rb (rfc vt vi R) 75
  tr : RowV n0 5 X vt (uV R.T)
  ir : RowV n0 3 X vi (iV R.J)
  nb : n0 ≤ rb
/-- Its blocks. -/
def Rm (rb : Nat) (vt vi : Value) (g : Nat) : Prop := g = rb ∨ vt.ownBlock = some g ∨ vi.ownBlock = some g

section
variable {n0 : Nat} {X Y : World} {rb : Nat} {vt vi : Value} {R R' : Rs}
theorem RF.lt (h : RF n0 X rb vt vi R) : ∀ g, Rm rb vt vi g → n0 ≤ g ∧ g < X.heap.size := fun g q => by
  rcases q with rfl | q | q
  · exact ⟨h.nb, h.blk.lt⟩
  · exact h.tr.lt g q
  · exact h.ir.lt g q
theorem RF.kept (h : RF n0 X rb vt vi R) (hk : ∀ g, Rm rb vt vi g → Y.heap[g]? = X.heap[g]?) : RF n0 Y rb vt vi R :=
  ⟨(hk rb (.inl rfl)).trans h.blk, h.tr.kept fun g e => hk g (.inr (.inl e)), h.ir.kept fun g e => hk g (.inr (.inr e)), h.nb⟩
theorem RF.kp (h : RF n0 X rb vt vi R) {D : Nat → Prop} (k : Kp D X Y) (hd : ∀ g, Rm rb vt vi g → ¬ D g) : RF n0 Y rb vt vi R := h.kept fun g q => k.block g (h.lt g q).2 (hd g q)
theorem RF.grown (h : RF n0 X rb vt vi R) (g : X.grownBy Y none) : RF n0 Y rb vt vi R := h.kept fun k q => g.block k (h.lt k q).2 (by simp)
theorem RF.cells (h : RF n0 X rb vt vi R) : X.cell? ⟨rb, 0, none⟩ = some (.int .i64 R.cap) ∧ X.cell? ⟨rb, 1, none⟩ = some vt ∧ X.cell? ⟨rb, 2, none⟩ = some vi ∧ X.cell? ⟨rb, 3, none⟩ = some (.bool R.told) ∧ X.cell? ⟨rb, 4, none⟩ = some (.bool R.ever) ∧ X.cell? ⟨rb, 5, none⟩ = some (.bool R.stopped) ∧ X.cell? ⟨rb, 6, none⟩ = some (.int .i64 R.fin) ∧ X.cell? ⟨rb, 7, none⟩ = some (.int .i64 R.sent) :=
  ⟨h.blk.cell 0 _ rfl, h.blk.cell 1 _ rfl, h.blk.cell 2 _ rfl, h.blk.cell 3 _ rfl, h.blk.cell 4 _ rfl, h.blk.cell 5 _ rfl, h.blk.cell 6 _ rfl, h.blk.cell 7 _ rfl⟩
/-- A cell is written. -/
theorem RF.put (h : RF n0 X rb vt vi R) (j : Nat) (x : Value) (e : rfc vt vi R' = (rfc vt vi R).setIfInBounds j x) (eT : R'.T = R.T) (eJ : R'.J = R.J) : RF n0 (X.setCell ⟨rb, j, none⟩ x) rb vt vi R' :=
  ⟨by rw [e]; exact h.blk.setC j x, by rw [eT]; exact h.tr.kept fun g eg => set_heap _ _ _ _ _ (fun q => h.tr.ne h.blk (by decide) (q ▸ eg)), by rw [eJ]; exact h.ir.kept fun g eg => set_heap _ _ _ _ _ (fun q => h.ir.ne h.blk (by decide) (q ▸ eg)), h.nb⟩
/-- What an offset is, is written. -/
theorem RF.mark {g n c : Nat} (h : RF n0 X rb vt (.slice (some ⟨g, 0, none⟩) n c) R) (j : Nat) (hj : j < R.J.length) (x : Int) : RF n0 (X.setCell ⟨g, j, none⟩ (.int .i64 x)) rb vt (.slice (some ⟨g, 0, none⟩) n c) { R with J := R.J.set j x } := by
  have hne : g ≠ rb := fun e => h.ir.ne h.blk (by decide) (by rw [← e]; rfl)
  refine ⟨h.blk.setO g j _ hne, h.tr.kept fun k ek => set_heap _ _ _ _ _ (fun q => ?_), ?_, h.nb⟩
  · subst q
    exact h.tr.ne2 h.ir (by decide) (g := k) rfl ek
  · have := h.ir.put j (.int .i64 x) (by simpa using hj)
    show RowV n0 _ _ _ (iV (R.J.set j x))
    unfold iV
    rw [List.map_set]
    exact this
theorem kp_put (X : World) (g j : Nat) (x : Value) : Kp (fun k => k = g) X (X.setCell ⟨g, j, none⟩ x) := (Kp.refl _ X).set g j x (fun _ => rfl)
end

/-- What an offset is. -/
def isAt (S : Sd) (x : Int) : Int := if S.sent ≤ x then 0 else if memB x S.A = true then 3 else if memB x S.L = true then 2 else 1
def isL (S : Sd) : List Int := (List.range S.T.length).map fun x : Nat => isAt S (x : Int)
def rsOf (S : Sd) : Rs := ⟨S.cap, S.T, isL S, S.ended, decide (S.fin ≠ 0), S.stopped, S.fin, S.sent⟩
theorem isL_len (S : Sd) : (isL S).length = S.T.length := by simp [isL]
theorem isL_get (S : Sd) (x : Nat) (hx : x < S.T.length) : (isL S)[x]? = some (isAt S (x : Int)) := by simp [isL, hx]
theorem isL_eq {S : Sd} {J : List Int} (hl : J.length = S.T.length) (h : ∀ x : Nat, x < S.T.length → J[x]? = some (isAt S (x : Int))) : J = isL S := by
  apply List.ext_getElem?
  intro i
  by_cases c : i < S.T.length
  · rw [h i c, isL_get S i c]
  · rw [List.getElem?_eq_none (by omega), List.getElem?_eq_none (by rw [isL_len]; omega)]
theorem isAt_val (S : Sd) (x : Int) : isAt S x = 0 ∨ isAt S x = 1 ∨ isAt S x = 2 ∨ isAt S x = 3 := by
  unfold isAt
  split
  · exact .inl rfl
  · split
    · exact .inr (.inr (.inr rfl))
    · split
      · exact .inr (.inr (.inl rfl))
      · exact .inr (.inl rfl)
/-- The document's Send and the program's say the same. -/
abbrev RS (n0 : Nat) (X : World) (rb : Nat) (vt vi : Value) (S : Sd) : Prop := RF n0 X rb vt vi (rsOf S)
end Go.Proofs.Ytdalekjpjnhboaa

namespace Go.Proofs.Ytdalekjpjnhboaa
open Go.RowKit
set_option linter.unusedVariables false
set_option maxHeartbeats 4000000
set_option maxRecDepth 100000

theorem isAt_low {S : Sd} (h : SdOk S) {x : Int} (h0 : 0 ≤ x) (h1 : x < S.base) : isAt S x = 3 := by
  have := h.bs
  unfold isAt
  rw [if_neg (by omega), if_pos (h.low x h0 h1)]
theorem isAt_base {S : Sd} (h : SdOk S) : isAt S S.base ≠ 3 := by
  unfold isAt
  split
  · omega
  · rw [if_neg (by rw [h.top]; simp)]
    split <;> omega

section
variable {n0 : Nat} {X Y : World} {rb : Nat} {vt vi : Value} {S : Sd}

/-- Where what the offsets are lies. -/
theorem RF.isRow {R : Rs} (h : RF n0 X rb vt vi R) : ∃ a c, vi = .slice a R.J.length c ∧ R.J.length ≤ c ∧ c ≤ 9223372036854775807 ∧ (R.J = [] ∨ ∃ g, a = some ⟨g, 0, none⟩ ∧ (∀ j, X.frozen? ⟨g, j, none⟩ = false) ∧ ∀ i x, R.J[i]? = some x → X.cell? ⟨g, i, none⟩ = some (.int .i64 x)) := by
  obtain ⟨a, c, e, h1, h2, h3⟩ := h.ir.at
  rw [List.length_map] at e h1
  refine ⟨a, c, e, h1, h2, ?_⟩
  rcases h3 with h3 | ⟨g, e2, -, -, ⟨cur, hb⟩, hc⟩
  · left
    simpa using h3
  · exact .inr ⟨g, e2, fun j => hb.thaw j, fun i x hi => hc i _ (by simp [iV, hi])⟩
theorem RF.textRow {R : Rs} (h : RF n0 X rb vt vi R) : ∃ a c, vt = .slice a R.T.length c ∧ R.T.length ≤ c ∧ c ≤ 9223372036854775807 ∧ (R.T = [] ∨ ∃ g, a = some ⟨g, 0, none⟩ ∧ ∀ i x, R.T[i]? = some x → X.cell? ⟨g, i, none⟩ = some (.int .u8 x)) := by
  obtain ⟨a, c, e, h1, h2, h3⟩ := h.tr.at
  rw [List.length_map] at e h1
  refine ⟨a, c, e, h1, h2, ?_⟩
  rcases h3 with h3 | ⟨g, e2, -, -, -, hc⟩
  · left
    simpa using h3
  · exact .inr ⟨g, e2, fun i x hi => hc i _ (by simp [uV, hi])⟩

theorem baseR (h : RS n0 X rb vt vi S) (hok : SdOk S) (hbig : wr S ≤ 1000000000000) : Calls Try.prog 56 #[ptr rb] X fun e Y => e = .returned (.int .i64 S.base) ∧ Y = X := by
  obtain ⟨a, c, rfl, hc1, hc2, hrow⟩ := h.isRow
  have hJ : (rsOf S).J.length = S.T.length := isL_len S
  rw [hJ] at hc1 h
  obtain ⟨-, -, c2, -⟩ := h.cells
  have hb0 := hok.b0; have hbs := hok.bs; have hsw := hok.sw
  have hwr : wr S = (S.T.length : Int) := rfl
  obtain ⟨b0, hb⟩ : ∃ b0 : Nat, S.base = (b0 : Int) := ⟨S.base.toNat, by omega⟩
  have LOW : Hid (∀ k : Nat, k < b0 → (rsOf S).J[k]? = some 3) := fun k hk => by
    show (isL S)[k]? = some 3
    rw [isL_get S k (by omega), isAt_low hok (by omega) (by omega)]
  have TOP : Hid (b0 < S.T.length → ∃ v, (rsOf S).J[b0]? = some v ∧ v ≠ 3) := fun hk => by
    refine ⟨isAt S (b0 : Int), isL_get S b0 hk, ?_⟩
    rw [← hb]
    exact isAt_base hok
  have hbN : b0 ≤ S.T.length := by omega
  rw [hb]
  generalize hN : S.T.length = N at *
  have HNE : Hid (0 < N → (rsOf S).J ≠ []) := fun hp e => by rw [e] at hJ; simp at hJ; omega
  have HROW := hide hrow
  clear hrow h hok hJ hN hb hb0 hbs hsw
  have hbig' : N ≤ 1000000000000 := by omega
  clear hwr hbig
  go_enter Try.func56, Try.ntmps56
  go_wp2
  go_loopw [3] (fun i wr => ∃ k : Nat, k ≤ b0 ∧ i = .int .i64 (k : Int) ∧ wr = X) (fun i _ => N + 1 - (intOf i).toNat)
  case atStart => exact ⟨0, Nat.zero_le _, rfl, rfl⟩
  case round =>
    obtain ⟨k, hk, rfl, hwr⟩ := hrel
    subst hwr
    by_cases hkN : k < N
    · obtain ⟨g, rfl, -, hc⟩ := (unhide HROW).resolve_left (unhide HNE (by omega))
      have hkn : (k : Int) < (N : Int) := by omega
      have hk0 : (0 : Int) ≤ (k : Int) := by omega
      by_cases hlt : k < b0
      · have hx := hc k 3 (unhide LOW k hlt)
        have HLT := hide hlt
        clear hc hlt HNE HROW
        go_wp2
        exact ⟨⟨k + 1, unhide HLT, by go_num, trivial⟩, by simp [intOf]; omega⟩
      · obtain rfl : k = b0 := by omega
        obtain ⟨v, hv, hv3⟩ := unhide TOP hkN
        have hx := hc k v hv
        have hvb : (v == 3) = false := by simp; exact hv3
        clear hc hlt HNE HROW hv
        go_wp2
        go_ret
        exact ⟨rfl, rfl⟩
    · obtain rfl : k = N := by omega
      obtain rfl : k = b0 := by omega
      have hno : ¬ (k : Int) < (k : Int) := by omega
      clear HNE HROW TOP LOW
      go_wp2
      go_ret
      exact ⟨rfl, rfl⟩

theorem doneR (h : RS n0 X rb vt vi S) (hok : SdOk S) (hbig : wr S ≤ 1000000000000) : Calls Try.prog 59 #[ptr rb] X fun e Y => e = .returned (.bool (doneB S)) ∧ Y = X := by
  have hb := baseR h hok hbig
  obtain ⟨a, c, rfl, hc1, hc2, -⟩ := h.textRow
  obtain ⟨-, c1, -, c3, -, -, c6, -⟩ := h.cells
  have eT : (rsOf S).T.length = S.T.length := rfl
  have c1' : X.cell? ⟨rb, 1, none⟩ = some (.slice a S.T.length c) := c1
  have c3' : X.cell? ⟨rb, 3, none⟩ = some (.bool S.ended) := c3
  have c6' : X.cell? ⟨rb, 6, none⟩ = some (.int .i64 S.fin) := c6
  have hD : Hid (doneB S = (S.ended && (S.base == (S.T.length : Int)) && (S.fin == 3))) := by
    unfold doneB
    have e1 : decide (S.base = wr S) = (S.base == (S.T.length : Int)) := by
      unfold wr
      by_cases q : S.base = (S.T.length : Int)
      · rw [decide_eq_true q]; exact (beq_iff_eq.2 q).symm
      · rw [decide_eq_false q]; exact (beq_eq_false_iff_ne.2 q).symm
    have e2 : decide (S.fin = 3) = (S.fin == 3) := by
      by_cases q : S.fin = 3
      · rw [decide_eq_true q]; exact (beq_iff_eq.2 q).symm
      · rw [decide_eq_false q]; exact (beq_eq_false_iff_ne.2 q).symm
    rw [e1, e2]
    rfl
  rw [unhide hD]
  clear c1 c3 c6 h hok hD eT
  have hN9 : (S.T.length : Int) ≤ 1000000000000 := hbig
  clear hbig hc1
  generalize S.base = x at *
  generalize hN : S.T.length = N at *
  clear hN
  generalize S.fin = f at *
  generalize S.ended = en at *
  cases hx : (x == (N : Int)) <;> cases en
  all_goals go_enter Try.func59, Try.ntmps59
  all_goals go_wp2_with fail
  all_goals refine hb.mono ?_
  all_goals rintro e Y ⟨rfl, hY⟩
  all_goals subst hY
  all_goals clear hb
  all_goals go_wp2
  all_goals go_ret
  all_goals exact ⟨by simp, rfl⟩

theorem endR (h : RS n0 X rb vt vi S) : Calls Try.prog 30 #[ptr rb] X fun e Y => e = .returned (.int .i64 (if S.ended = true ∨ S.stopped = true then 150 else 0)) ∧ RS n0 Y rb vt vi (if S.ended = true ∨ S.stopped = true then S else finG S) ∧ Kp (Rm rb vt vi) X Y := by
  obtain ⟨-, -, -, c3, -, c5, -, -⟩ := h.cells
  have c3' : X.cell? ⟨rb, 3, none⟩ = some (.bool S.ended) := c3
  have c5' : X.cell? ⟨rb, 5, none⟩ = some (.bool S.stopped) := c5
  have f3 := h.blk.thaw 3
  clear c3 c5
  cases he : S.ended with
  | true =>
    rw [if_pos (.inl rfl), if_pos (.inl rfl)]
    rw [he] at c3'
    have H := hide h
    clear h he
    generalize S.stopped = st at *
    go_enter Try.func30, Try.ntmps30
    go_wp2
    all_goals go_ret
    all_goals exact ⟨rfl, unhide H, Kp.refl _ _⟩
  | false =>
    cases hs : S.stopped with
    | true =>
      rw [if_pos (.inr rfl), if_pos (.inr rfl)]
      rw [he] at c3'
      rw [hs] at c5'
      have H := hide h
      clear h he hs
      go_enter Try.func30, Try.ntmps30
      go_wp2
      all_goals go_ret
      all_goals exact ⟨rfl, unhide H, Kp.refl _ _⟩
    | false =>
      rw [if_neg (by simp), if_neg (by simp)]
      rw [he] at c3'
      rw [hs] at c5'
      have h2 : RS n0 (X.setCell ⟨rb, 3, none⟩ (.bool true)) rb vt vi (finG S) := h.put 3 _ rfl rfl rfl
      have H := hide h2
      have K : Hid (Kp (Rm rb vt vi) X (X.setCell ⟨rb, 3, none⟩ (.bool true))) := (Kp.refl _ X).set rb 3 _ (fun _ => .inl rfl)
      clear h h2 he hs
      go_enter Try.func30, Try.ntmps30
      go_wp2
      all_goals go_ret
      all_goals exact ⟨rfl, unhide H, unhide K⟩
end

theorem newR (cap : Int) (w : World) (hc : 1 ≤ cap ∧ cap ≤ 65536) : Calls Try.prog 8 #[.int .i64 cap] w fun e W' => ∃ rb, e = .returned (.tuple #[ptr rb, .int .i64 0]) ∧ RS w.heap.size W' rb nilS nilS (new0 cap) ∧ w.grownBy W' none := by
  have d1 : decide (cap < 1) = false := decide_eq_false (by omega)
  have d2 : decide (65536 < cap) = false := decide_eq_false (by omega)
  have n1 : ¬ cap < 1 := by omega
  have n2 : ¬ 65536 < cap := by omega
  go_enter Try.func8, Try.ntmps8
  go_wp2
  all_goals refine bodyPost_ret (results_tmp2 rfl _ _ _) rfl ?_
  all_goals exact ⟨w.heap.size, rfl, ⟨Blk.new _ _ _, rowV_nil _ _ _, rowV_nil _ _ _, Nat.le_refl _⟩, grown_alloc _ _⟩
theorem newR_bad (cap : Int) (w : World) (hc : ¬ (1 ≤ cap ∧ cap ≤ 65536)) : Calls Try.prog 8 #[.int .i64 cap] w fun e W' => e = .returned (.tuple #[.pointer none, .int .i64 1]) ∧ W' = w := by
  by_cases h1 : cap < 1
  · have d1 : decide (cap < 1) = true := decide_eq_true h1
    go_enter Try.func8, Try.ntmps8
    go_wp2
    all_goals refine bodyPost_ret (results_tmp2 rfl _ _ _) rfl ?_
    all_goals exact ⟨rfl, rfl⟩
  · have d1 : decide (cap < 1) = false := decide_eq_false h1
    have h3 : 65536 < cap := by omega
    have d2 : decide (65536 < cap) = true := decide_eq_true h3
    go_enter Try.func8, Try.ntmps8
    go_wp2
    all_goals refine bodyPost_ret (results_tmp2 rfl _ _ _) rfl ?_
    all_goals exact ⟨rfl, rfl⟩
end Go.Proofs.Ytdalekjpjnhboaa

namespace Go.Proofs.Ytdalekjpjnhboaa
open Go.RowKit
set_option linter.unusedVariables false
set_option linter.unusedSimpArgs false
set_option maxHeartbeats 4000000
set_option maxRecDepth 100000

theorem Try.infoI3 : (Try.prog.info? 3).map (fun i => (i.zero, i.size, i.bytes)) = some (some (.int .i64 0), 1, 8) := by kernel_rfl

section
variable {n0 : Nat} {X Y Z : World} {rb : Nat} {vt vi : Value} {R : Rs} {S : Sd}

theorem RF.pushT {vt' : Value} {x : Int} (h : RF n0 X rb vt vi R) (k : X.grownBy Y vt.ownBlock) (hr : RowV n0 5 Y vt' (uV (R.T ++ [x]))) : RF n0 (Y.setCell ⟨rb, 1, none⟩ vt') rb vt' vi { R with T := R.T ++ [x] } := by
  have hne : vt.ownBlock ≠ some rb := h.tr.ne h.blk (by decide)
  have hb : Blk Y rb (rfc vt vi R) 75 := (k.block rb h.blk.lt (fun e => hne e.symm)).trans h.blk
  have hi : RowV n0 3 Y vi (iV R.J) := h.ir.kept fun g e => k.block g (h.ir.lt g e).2 (fun q => h.tr.ne2 h.ir (by decide) e q.symm)
  exact ⟨by have := hb.setC 1 vt'; exact this, hr.kept fun g eg => set_heap _ _ _ _ _ (fun q => hr.ne hb (by decide) (q ▸ eg)), hi.kept fun g eg => set_heap _ _ _ _ _ (fun q => hi.ne hb (by decide) (q ▸ eg)), h.nb⟩
theorem RF.pushJ {vi' : Value} {x : Int} (h : RF n0 X rb vt vi R) (k : X.grownBy Y vi.ownBlock) (hr : RowV n0 3 Y vi' (iV (R.J ++ [x]))) : RF n0 (Y.setCell ⟨rb, 2, none⟩ vi') rb vt vi' { R with J := R.J ++ [x] } := by
  have hne : vi.ownBlock ≠ some rb := h.ir.ne h.blk (by decide)
  have hb : Blk Y rb (rfc vt vi R) 75 := (k.block rb h.blk.lt (fun e => hne e.symm)).trans h.blk
  have hi : RowV n0 5 Y vt (uV R.T) := h.tr.kept fun g e => k.block g (h.tr.lt g e).2 (fun q => h.ir.ne2 h.tr (by decide) e q.symm)
  exact ⟨by have := hb.setC 2 vi'; exact this, hi.kept fun g eg => set_heap _ _ _ _ _ (fun q => hi.ne hb (by decide) (q ▸ eg)), hr.kept fun g eg => set_heap _ _ _ _ _ (fun q => hr.ne hb (by decide) (q ▸ eg)), h.nb⟩

/-- While it grows: its blocks are those of D or new since X. -/
structure RG (n0 : Nat) (X : World) (D : Nat → Prop) (rb : Nat) (vt vi : Value) (R : Rs) (Z : World) : Prop where
  rf : RF n0 Z rb vt vi R
  kp : Kp D X Z
  own : ∀ g, Rm rb vt vi g → D g ∨ X.heap.size ≤ g
  n0 : n0 ≤ X.heap.size

theorem kp_own {D : Nat → Prop} {A C : World} {v : Value} (h : Kp D X A) (k : A.grownBy C v.ownBlock) (hv : ∀ g, v.ownBlock = some g → D g ∨ X.heap.size ≤ g) : Kp D X C :=
  ⟨k.os.trans h.os, k.tape.trans h.tape, k.output.trans h.output, Nat.le_trans h.size k.size, fun g hg hn => by
    rw [k.block g (Nat.lt_of_lt_of_le hg h.size) (fun e => hn ((hv g e.symm).resolve_right (by omega)))]
    exact h.block g hg hn⟩

theorem RG.grown {D : Nat → Prop} {R : Rs} (h : RG n0 X D rb vt vi R Z) (g : Z.grownBy Y none) : RG n0 X D rb vt vi R Y := ⟨h.rf.grown g, h.kp.nothing g, h.own, h.n0⟩

/-- A byte more of the text. -/
theorem RG.text {D : Nat → Prop} {R : Rs} (h : RG n0 X D rb vt vi R Z) (x : Int) (g : Nat) (hc : Z.cell? ⟨g, 0, none⟩ = some (.int .u8 x)) (hb : R.T.length + 1 ≤ 1000000000000) :
    ∃ a' c' W', (Builtin.append_ #[33, 33] 33 #[vt, .slice (some ⟨g, 0, none⟩) 1 1]).run Try.prog Z = .ok (.slice a' (R.T.length + 1) c') W' ∧ RG n0 X D rb (.slice a' (R.T.length + 1) c') vi { R with T := R.T ++ [x] } (W'.setCell ⟨rb, 1, none⟩ (.slice a' (R.T.length + 1) c')) ∧ W'.frozen? ⟨rb, 1, none⟩ = false ∧ Kp D X W' ∧ ∃ u, W'.cell? ⟨rb, 1, none⟩ = some u := by
  have hz := h.kp.size
  have hn0 := h.n0
  obtain ⟨a', c', W', hr, hrow, hg, ho⟩ := rowV_app n0 Z 33 5 (.int .u8 0) 1 vt (uV R.T) (.int .u8 x) g 1 Try.underlying33 Try.infoB rfl rfl (by decide) h.rf.tr (by omega) hc (by rw [List.length_map]; exact hb)
  rw [List.length_map] at hr hrow ho
  have e : uV R.T ++ [.int .u8 x] = uV (R.T ++ [x]) := by simp [uV]
  rw [e] at hrow
  have hne : vt.ownBlock ≠ some rb := h.rf.tr.ne h.rf.blk (by decide)
  have hbW : Blk W' rb (rfc vt vi R) 75 := (hg.block rb h.rf.blk.lt (fun e => hne e.symm)).trans h.rf.blk
  have hkW : Kp D X W' := kp_own h.kp hg (fun g e => h.own g (.inr (.inl e)))
  refine ⟨a', c', W', hr, ⟨h.rf.pushT hg hrow, hkW.set rb 1 _ (fun q => (h.own rb (.inl rfl)).resolve_right (by omega)), fun g q => ?_, hn0⟩, hbW.thaw 1, hkW, _, hbW.cell 1 _ rfl⟩
  rcases q with q | q | q
  · exact h.own g (.inl q)
  · rcases ho with ho | ho
    · exact h.own g (.inr (.inl (ho ▸ q)))
    · rw [q] at ho
      injection ho with ho
      right; omega
  · exact h.own g (.inr (.inr q))
/-- What one more offset is. -/
theorem RG.is {D : Nat → Prop} {R : Rs} (h : RG n0 X D rb vt vi R Z) (x : Int) (g : Nat) (hc : Z.cell? ⟨g, 0, none⟩ = some (.int .i64 x)) (hb : R.J.length + 1 ≤ 1000000000000) :
    ∃ a' c' W', (Builtin.append_ #[73, 73] 73 #[vi, .slice (some ⟨g, 0, none⟩) 1 1]).run Try.prog Z = .ok (.slice a' (R.J.length + 1) c') W' ∧ RG n0 X D rb vt (.slice a' (R.J.length + 1) c') { R with J := R.J ++ [x] } (W'.setCell ⟨rb, 2, none⟩ (.slice a' (R.J.length + 1) c')) ∧ W'.frozen? ⟨rb, 2, none⟩ = false ∧ ∃ u, W'.cell? ⟨rb, 2, none⟩ = some u := by
  have hz := h.kp.size
  have hn0 := h.n0
  obtain ⟨a', c', W', hr, hrow, hg, ho⟩ := rowV_app n0 Z 73 3 (.int .i64 0) 8 vi (iV R.J) (.int .i64 x) g 1 Try.underlying73 Try.infoI3 rfl rfl (by decide) h.rf.ir (by omega) hc (by rw [List.length_map]; exact hb)
  rw [List.length_map] at hr hrow ho
  have e : iV R.J ++ [.int .i64 x] = iV (R.J ++ [x]) := by simp [iV]
  rw [e] at hrow
  have hne : vi.ownBlock ≠ some rb := h.rf.ir.ne h.rf.blk (by decide)
  have hbW : Blk W' rb (rfc vt vi R) 75 := (hg.block rb h.rf.blk.lt (fun e => hne e.symm)).trans h.rf.blk
  have hkW : Kp D X W' := kp_own h.kp hg (fun g e => h.own g (.inr (.inr e)))
  refine ⟨a', c', W', hr, ⟨h.rf.pushJ hg hrow, hkW.set rb 2 _ (fun q => (h.own rb (.inl rfl)).resolve_right (by omega)), fun g q => ?_, hn0⟩, hbW.thaw 2, _, hbW.cell 2 _ rfl⟩
  rcases q with q | q | q
  · exact h.own g (.inl q)
  · exact h.own g (.inr (.inl q))
  · rcases ho with ho | ho
    · exact h.own g (.inr (.inr (ho ▸ q)))
    · rw [q] at ho
      injection ho with ho
      right; omega
end

theorem isL_write {S : Sd} (h : SdOk S) (p : List Int) : isL (writeG S p) = isL S ++ List.replicate p.length 0 := by
  symm
  refine isL_eq ?_ fun x hx => ?_
  · show (isL S ++ List.replicate p.length 0).length = (S.T ++ p).length
    simp [isL_len]
  · have hsw := h.sw
    have hwr : wr S = (S.T.length : Int) := rfl
    have hx' : x < (S.T ++ p).length := hx
    rw [List.length_append] at hx'
    have e : isAt (writeG S p) (x : Int) = isAt S (x : Int) := rfl
    rw [e]
    by_cases c : x < S.T.length
    · rw [List.getElem?_append_left (by rw [isL_len]; exact c), isL_get S x c]
    · rw [List.getElem?_append_right (by rw [isL_len]; omega), isL_len, List.getElem?_replicate, if_pos (by omega)]
      congr 1
      unfold isAt
      rw [if_pos (by omega)]

section
variable {n0 : Nat} {X Y Z : World} {rb : Nat} {vt vi : Value} {S : Sd}

/-- What a call of the document's Send leaves. -/
structure RTo (n0 : Nat) (X : World) (rb : Nat) (vt vi : Value) (S' : Sd) (Y : World) : Prop where
  ex : ∃ vt' vi', RS n0 Y rb vt' vi' S' ∧ ∀ g, Rm rb vt' vi' g → Rm rb vt vi g ∨ X.heap.size ≤ g
  kp : Kp (Rm rb vt vi) X Y

theorem writeR (h : RS n0 X rb vt vi S) (hok : SdOk S) (hn0 : n0 ≤ X.heap.size) (hbig : wr S ≤ 1000000000) (a : Option Addr) (n pc : Nat) (p : List Int) (hp : Rd X a p) (hout : Out X (Rm rb vt vi) a p) (hn : p.length = n) (hpc : n ≤ pc ∧ pc ≤ 9223372036854775807) (hnn : n ≤ 1000000000) :
    Calls Try.prog 29 #[ptr rb, .slice a n pc] X fun e Y => e = .returned (.int .i64 (writeE S n)) ∧ RTo n0 X rb vt vi (writeS S p) Y := by
  obtain ⟨c0, c1, -, c3, -, c5, -, -⟩ := h.cells
  have c0' : X.cell? ⟨rb, 0, none⟩ = some (.int .i64 S.cap) := c0
  have c3' : X.cell? ⟨rb, 3, none⟩ = some (.bool S.ended) := c3
  have c5' : X.cell? ⟨rb, 5, none⟩ = some (.bool S.stopped) := c5
  have h0 : RTo n0 X rb vt vi S X := ⟨⟨vt, vi, h, fun g q => .inl q⟩, Kp.refl _ _⟩
  unfold writeS
  rw [hn]
  cases he : S.ended with
  | true =>
    have e1 : writeE S n = 150 := by unfold writeE; rw [if_pos (.inl he)]
    rw [e1, if_neg (by decide)]
    rw [he] at c3'
    have H := hide h0
    clear h hok hp hout hn hpc hbig c0 c1 c3 c5 c0' he e1 h0
    generalize S.stopped = st at *
    go_enter Try.func29, Try.ntmps29
    go_wp2
    all_goals go_ret
    all_goals exact ⟨rfl, unhide H⟩
  | false =>
    cases hs : S.stopped with
    | true =>
      have e1 : writeE S n = 150 := by unfold writeE; rw [if_pos (.inr hs)]
      rw [e1, if_neg (by decide)]
      rw [he] at c3'
      rw [hs] at c5'
      have H := hide h0
      clear h hok hp hout hn hpc hbig c0 c1 c3 c5 c0' he e1 h0 hs
      go_enter Try.func29, Try.ntmps29
      go_wp2
      all_goals go_ret
      all_goals exact ⟨rfl, unhide H⟩
    | false =>
      rw [he] at c3'
      rw [hs] at c5'
      have hb := baseR h hok (by omega)
      have hb0 := hok.b0; have hbs := hok.bs; have hsw := hok.sw; have hcap := hok.cap; have hwc := hok.wc
      have hwr : wr S = (S.T.length : Int) := rfl
      obtain ⟨ta, tc, rfl, ht1, ht2, -⟩ := h.textRow
      have c1' : X.cell? ⟨rb, 1, none⟩ = some (.slice ta S.T.length tc) := c1
      clear c0 c1 c3 c5
      by_cases hf : S.cap < wr S - S.base + n
      · have e1 : writeE S n = 3 := by unfold writeE; rw [if_neg (by rw [he, hs]; simp), if_pos hf]
        rw [e1, if_neg (by decide)]
        have H : Hid (∀ q, RTo n0 X rb (.slice ta (rsOf S).T.length tc) vi S (X.drewN q)) := fun q => ⟨⟨_, _, h.grown (grown_drewN X q), fun g q => .inl q⟩, Kp.grown (grown_drewN X q) _⟩
        have hf2 : S.cap - ((S.T.length : Int) - S.base) < (n : Int) := by omega
        have d1 : decide (S.cap - ((S.T.length : Int) - S.base) < (n : Int)) = true := decide_eq_true hf2
        have hN9 : S.T.length ≤ 1000000000 := by omega
        clear h hok hp hout hn he e1 hs h0 hf hwr hwc hsw hbs ht1
        generalize S.T.length = N at *
        generalize S.base = x at *
        generalize S.cap = c at *
        go_enter Try.func29, Try.ntmps29
        go_wp2_with fail
        refine hb.mono ?_
        rintro e Y ⟨rfl, hY⟩
        subst hY
        clear hb
        go_wp2
        go_quiet (fail)
        go_wp2
        all_goals go_ret
        all_goals exact ⟨rfl, unhide H _⟩
      · have e1 : writeE S n = 0 := by unfold writeE; rw [if_neg (by rw [he, hs]; simp), if_neg hf]
        rw [e1, if_pos rfl]
        obtain ⟨r, hr⟩ : ∃ r : Int, S.cap - ((S.T.length : Int) - S.base) = r := ⟨_, rfl⟩
        have hf2 : ¬ r < (n : Int) := by omega
        have d1 : decide (r < (n : Int)) = false := decide_eq_false hf2
        have w1 : IntKind.i64.wrap ((S.T.length : Int) - S.base) = (S.T.length : Int) - S.base := by rw [IntKind.wrap_i64]; omega
        have w2 : IntKind.i64.wrap r = r := by rw [IntKind.wrap_i64]; omega
        have hN9 : S.T.length ≤ 1000000000 := by omega
        have EW : Hid (rsOf (writeG S p) = { rsOf S with T := S.T ++ p, J := isL S ++ List.replicate n 0 }) := by
          unfold rsOf
          rw [isL_write hok, hn]
          rfl
        have I0 : Hid (∀ q, RG n0 X (Rm rb (.slice ta (rsOf S).T.length tc) vi) rb (.slice ta (rsOf S).T.length tc) vi { rsOf S with T := S.T ++ p.take 0, J := isL S ++ List.replicate 0 0 } (X.drewN q)) := fun q => by
          refine ⟨?_, Kp.grown (grown_drewN X q) _, fun g q => .inl q, hn0⟩
          have e : ({ rsOf S with T := S.T ++ p.take 0, J := isL S ++ List.replicate 0 0 } : Rs) = rsOf S := by simp [rsOf]
          rw [e]
          exact h.grown (grown_drewN X q)
        have hJl : (isL S).length = S.T.length := isL_len S
        obtain ⟨D, hD⟩ : ∃ D, D = Rm rb (.slice ta (rsOf S).T.length tc) vi := ⟨_, rfl⟩
        rw [← hD] at I0 hout
        have HD := hide hD
        have HP := hide hp
        have HO := hide hout
        have HNP := hide hn
        clear h hok hp hout hn he e1 hs h0 hf hwr hwc hsw hbs ht1 hD
        generalize hNN : S.T.length = N at *
        have HNN := hide hNN
        clear hNN
        generalize S.base = x at *
        generalize S.cap = cc at *
        go_enter Try.func29, Try.ntmps29
        go_wp2_with fail
        refine hb.mono ?_
        rintro e Y ⟨rfl, hY⟩
        subst hY
        clear hb
        go_wp2
        go_quiet (fail)
        go_wp2
        clear c0' c1' c3' c5' d1 hf2 w1 w2 hr
        go_loopw [6] (fun i Z => ∃ (k : Nat) (vt vi : Value), k ≤ n ∧ i = .int .i64 (k : Int) ∧ Hid (RG n0 Y D rb vt vi { rsOf S with T := S.T ++ p.take k, J := isL S ++ List.replicate k 0 } Z)) (fun i _ => n - (intOf i).toNat)
        case atStart => exact ⟨0, _, _, Nat.zero_le _, rfl, unhide I0 _⟩
        case round =>
          clear I0
          obtain ⟨k, vt, vi', hk, rfl, I⟩ := hrel
          obtain ⟨Z, hZ⟩ : ∃ Z, Z = wr := ⟨_, rfl⟩
          subst hZ
          by_cases hlt : k < n
          · obtain ⟨y, hy⟩ : ∃ y, p[k]? = some y := ⟨_, List.getElem?_eq_getElem (by rw [unhide HNP]; exact hlt)⟩
            have hpne : p ≠ [] := fun e => by rw [e] at hy; simp at hy
            obtain ⟨pb, poff, rfl, hpc2⟩ := (unhide HP).2 hpne
            obtain ⟨ho1, ho2⟩ := unhide HO hpne pb poff rfl
            have PX : Hid (∀ W, Kp D Y W → W.cell? ⟨pb, poff + k, none⟩ = some (.int .u8 y)) := fun W kw => by
              rw [World.cell?_of_block (w := Y) (w' := W) (kw.block pb ho2 ho1), hpc2 k (by rw [unhide HNP]; exact hlt)]
              simp [List.getD, hy]
            have eT : (S.T ++ p.take k).length = N + k := by rw [List.length_append, List.length_take, unhide HNN, unhide HNP]; omega
            have eJ : (isL S ++ List.replicate k 0).length = N + k := by rw [List.length_append, hJl, List.length_replicate]
            have tk : p.take (k + 1) = p.take k ++ [y] := by rw [List.take_add_one, hy]; rfl
            have h1 := (unhide I).grown (grown_trans (grown_drew' (World.grownBy.refl Z none)) (grown_alloc Z.drew (.cells #[.int .u8 y] 5)))
            obtain ⟨a1, k1, W1, hap, h2, fz, kW, u1, hu1⟩ := h1.text y Z.heap.size (by simp only [World.cell?]; rw [show (Z.drew.alloc (.cells #[.int .u8 y] 5)).heap[Z.heap.size]? = _ from heap_alloc_new Z.drew _]; rfl) (by show (S.T ++ p.take k).length + 1 ≤ _; rw [eT]; omega)
            obtain ⟨ta2, tc2, rfl, -, htc2, -⟩ := (unhide I).rf.textRow
            simp only [eT] at hap h2 ⊢
            obtain ⟨Z1, hZ1⟩ : ∃ Z1, Z1 = W1.setCell ⟨rb, 1, none⟩ (.slice a1 (N + k + 1) k1) := ⟨_, rfl⟩
            rw [← hZ1] at h2
            have h3 := h2.grown (grown_alloc Z1 (.cells #[.int .i64 0] 3))
            obtain ⟨a2, k2, W2, hap2, h4, fz2, u2, hu2⟩ := h3.is 0 Z1.heap.size ((Blk.new _ _ _).cell 0 _ rfl) (by show (isL S ++ List.replicate k 0).length + 1 ≤ _; rw [eJ]; omega)
            obtain ⟨ia, ic, rfl, -, hic, -⟩ := (unhide I).rf.isRow
            simp only [eJ] at hap2 h4 ⊢
            have NX : Hid (RG n0 Y D rb (.slice a1 (N + k + 1) k1) (.slice a2 (N + k + 1) k2) { rsOf S with T := S.T ++ p.take (k + 1), J := isL S ++ List.replicate (k + 1) 0 } (W2.setCell ⟨rb, 2, none⟩ (.slice a2 (N + k + 1) k2))) := by
              have e1 : S.T ++ p.take (k + 1) = S.T ++ p.take k ++ [y] := by rw [tk, List.append_assoc]
              have e2 : isL S ++ List.replicate (k + 1) 0 = isL S ++ List.replicate k 0 ++ [0] := by rw [List.replicate_succ', List.append_assoc]
              rw [e1, e2]
              exact h4
            have q0 := unhide PX Z (unhide I).kp
            have qA := unhide PX _ h1.kp
            have qW := unhide PX _ kW
            have qF := unhide PX _ h2.kp
            have z1 : Z.cell? ⟨rb, 1, none⟩ = some (.slice ta2 (N + k) tc2) := by have := (unhide I).rf.cells.2.1; simp only [eT] at this; exact this
            have z1A : (Z.drew.alloc (.cells #[.int .u8 y] 5)).cell? ⟨rb, 1, none⟩ = some (.slice ta2 (N + k) tc2) := by have := h1.rf.cells.2.1; simp only [eT] at this; exact this
            have z1B : (Z.alloc (.cells #[.int .u8 y] 5)).cell? ⟨rb, 1, none⟩ = some (.slice ta2 (N + k) tc2) := z1A
            have z2 : Z1.cell? ⟨rb, 2, none⟩ = some (.slice ia (N + k) ic) := by have := h2.rf.cells.2.2.1; simp only [eJ] at this; exact this
            have hkn : (k : Int) < (n : Int) := by omega
            have hk0 : (0 : Int) ≤ (k : Int) := by omega
            have HAP2 := hide hap2
            have HZ1 := hide hZ1
            have HLT := hide hlt
            rw [hZ1] at qF
            clear h1 h2 h3 h4 I PX hap2 hy hpne hpc2 ho1 ho2 kW tk eT eJ hlt hk hZ1
            go_upto_region 9 with fail
            refine wp_region_held_drew (S := fun W => W.cell? ⟨pb, poff + k, none⟩ = some (.int .u8 y)) (by kernel_rfl) q0 (fun hHeld => ?_)
            refine wpAnyH_take (i := 0) (v := ?_) rfl (by as_aux_lemma => kernel_rfl) (by as_aux_lemma => kernel_rfl) (by as_aux_lemma => kernel_rfl) (fun _ _ _ h => h) (Or.inl ⟨by rfl, ?_⟩) (by assumption) ?_
            rotate_left
            · intro wH hSw
              try dsimp only at hSw
              go_simp
              try with_reducible rfl
            try simp only [Act.put, List.setIfInBounds_toArray, List.set_cons_zero, List.set_cons_succ]
            refine wpAnyH_take (i := 1) (v := ?_) rfl (by as_aux_lemma => kernel_rfl) (by as_aux_lemma => kernel_rfl) (by as_aux_lemma => kernel_rfl) (fun _ _ _ h => h) (Or.inl ⟨by rfl, ?_⟩) (by assumption) ?_
            rotate_left
            · intro wH hSw
              try dsimp only at hSw
              go_simp
              try with_reducible rfl
            try simp only [Act.put, List.setIfInBounds_toArray, List.set_cons_zero, List.set_cons_succ]
            refine wpAnyH_take (i := 2) (v := ?_) rfl (by as_aux_lemma => kernel_rfl) (by as_aux_lemma => kernel_rfl) (by as_aux_lemma => kernel_rfl) (fun _ _ _ h => h) (Or.inl ⟨by rfl, ?_⟩) (by assumption) ?_
            rotate_left
            · intro wH hSw
              try dsimp only at hSw
              go_simp
              try with_reducible rfl
            try simp only [Act.put, List.setIfInBounds_toArray, List.set_cons_zero, List.set_cons_succ]
            refine wpAnyH_take (i := 3) (v := ?_) rfl (by as_aux_lemma => kernel_rfl) (by as_aux_lemma => kernel_rfl) (by as_aux_lemma => kernel_rfl) (fun _ _ _ h => h) (Or.inl ⟨by rfl, ?_⟩) (by assumption) ?_
            rotate_left
            · intro wH hSw
              try dsimp only at hSw
              go_simp
              try with_reducible rfl
            try simp only [Act.put, List.setIfInBounds_toArray, List.set_cons_zero, List.set_cons_succ]
            refine wpAnyH_take (i := 5) (v := ?_) rfl (by as_aux_lemma => kernel_rfl) (by as_aux_lemma => kernel_rfl) (by as_aux_lemma => kernel_rfl) (fun _ _ _ h => h) (Or.inl ⟨by rfl, ?_⟩) (by assumption) ?_
            rotate_left
            · intro wH hSw
              try dsimp only at hSw
              go_simp
              try with_reducible rfl
            try simp only [Act.put, List.setIfInBounds_toArray, List.set_cons_zero, List.set_cons_succ]
            refine wpAnyH_take (i := 6) (v := ?_) rfl (by as_aux_lemma => kernel_rfl) (by as_aux_lemma => kernel_rfl) (by as_aux_lemma => kernel_rfl) (fun _ _ _ h => h) (Or.inl ⟨by rfl, ?_⟩) (by assumption) ?_
            rotate_left
            · intro wH hSw
              try dsimp only at hSw
              go_simp
              try with_reducible rfl
            try simp only [Act.put, List.setIfInBounds_toArray, List.set_cons_zero, List.set_cons_succ]
            refine wpAnyH_take (i := 7) (v := ?_) rfl (by as_aux_lemma => kernel_rfl) (by as_aux_lemma => kernel_rfl) (by as_aux_lemma => kernel_rfl) (fun _ _ _ h => h) (Or.inl ⟨by rfl, ?_⟩) (by assumption) ?_
            rotate_left
            · intro wH hSw
              try dsimp only at hSw
              go_simp
              try with_reducible rfl
            try simp only [Act.put, List.setIfInBounds_toArray, List.set_cons_zero, List.set_cons_succ]
            refine wpAnyH_take (i := 8) (v := ?_) rfl (by as_aux_lemma => kernel_rfl) (by as_aux_lemma => kernel_rfl) (by as_aux_lemma => kernel_rfl) (fun _ _ _ h => h) (Or.inl ⟨by rfl, ?_⟩) (by assumption) ?_
            rotate_left
            · intro wH hSw
              try dsimp only at hSw
              go_simp
              try with_reducible rfl
            try simp only [Act.put, List.setIfInBounds_toArray, List.set_cons_zero, List.set_cons_succ]
            refine wpAnyH_ready (rs := [4, 9]) (by as_aux_lemma => kernel_rfl) (by simp) ?_
            refine AllReadyH.cons rfl (fun KH hKH => ?_) (AllReadyH.cons rfl (fun KH hKH => ?_) AllReadyH.nil)
            · go_simp
              refine hKH.out _ _ q0 (fun hHeld4 => ?_)
              clear hKH KH
              try simp only [Act.put, List.setIfInBounds_toArray, List.set_cons_zero, List.set_cons_succ]
              refine wpAnyH_ready (rs := [9]) (by as_aux_lemma => kernel_rfl) (by simp) ?_
              refine AllReadyH.cons rfl (fun KH hKH => ?_) AllReadyH.nil
              go_simp
              refine hKH.out _ _ qA (fun hHeld9 => ?_)
              clear hKH KH
              try simp only [Act.put, List.setIfInBounds_toArray, List.set_cons_zero, List.set_cons_succ]
              refine wpAnyH_ready (rs := [10]) (by as_aux_lemma => kernel_rfl) (by simp) ?_
              refine AllReadyH.cons rfl (fun KH hKH => ?_) AllReadyH.nil
              refine step_append_run rfl (Operand.tmp 44) (Operand.tmp 49) 33 33 rfl (.slice ta2 (N + k) tc2) (.slice (some ⟨Z.heap.size, 0, none⟩) 1 1) rfl rfl hap ?_
              refine hKH.out _ _ qW (fun hHeld10 => ?_)
              clear hKH KH
              try simp only [Act.put, List.setIfInBounds_toArray, List.set_cons_zero, List.set_cons_succ]
              refine wpAnyH_ready (rs := [11]) (by as_aux_lemma => kernel_rfl) (by simp) ?_
              refine AllReadyH.cons rfl (fun KH hKH => ?_) AllReadyH.nil
              go_simp
              refine hKH.out _ _ qW (fun hHeld11 => ?_)
              clear hKH KH
              try simp only [Act.put, List.setIfInBounds_toArray, List.set_cons_zero, List.set_cons_succ]
              refine wpAnyH_ready (rs := [12]) (by as_aux_lemma => kernel_rfl) (by simp) ?_
              refine AllReadyH.cons rfl (fun KH hKH => ?_) AllReadyH.nil
              go_simp
              refine hKH.out _ _ qW (fun hHeld12 => ?_)
              clear hKH KH
              try simp only [Act.put, List.setIfInBounds_toArray, List.set_cons_zero, List.set_cons_succ]
              refine wpAnyH_ready (rs := [13]) (by as_aux_lemma => kernel_rfl) (by simp) ?_
              refine AllReadyH.cons rfl (fun KH hKH => ?_) AllReadyH.nil
              go_simp
              refine hKH.out _ _ qF (fun hHeld13 => ?_)
              clear hKH KH
              try simp only [Act.put, List.setIfInBounds_toArray, List.set_cons_zero, List.set_cons_succ]
              refine wpAnyH_done (by as_aux_lemma => kernel_rfl) ?_ _
              clear qF qW qA q0 z1 z1A hap fz hu1
              go_upto_region 10 with fail
              rw [← unhide HZ1]
              go_wp2_with (at_builtin; refine wpList_append_run _ rfl _ _ 73 73 rfl _ _ rfl rfl (unhide HAP2) ?_)
              exact ⟨⟨k + 1, _, _, unhide HLT, by go_num, NX⟩, by simp [intOf]; have := unhide HLT; omega⟩
            · go_simp
              refine hKH.out _ _ qA (fun hHeld9 => ?_)
              clear hKH KH
              try simp only [Act.put, List.setIfInBounds_toArray, List.set_cons_zero, List.set_cons_succ]
              refine wpAnyH_ready (rs := [4]) (by as_aux_lemma => kernel_rfl) (by simp) ?_
              refine AllReadyH.cons rfl (fun KH hKH => ?_) AllReadyH.nil
              go_simp
              refine hKH.out _ _ qA (fun hHeld4 => ?_)
              clear hKH KH
              try simp only [Act.put, List.setIfInBounds_toArray, List.set_cons_zero, List.set_cons_succ]
              refine wpAnyH_ready (rs := [10]) (by as_aux_lemma => kernel_rfl) (by simp) ?_
              refine AllReadyH.cons rfl (fun KH hKH => ?_) AllReadyH.nil
              refine step_append_run rfl (Operand.tmp 44) (Operand.tmp 49) 33 33 rfl (.slice ta2 (N + k) tc2) (.slice (some ⟨Z.heap.size, 0, none⟩) 1 1) rfl rfl hap ?_
              refine hKH.out _ _ qW (fun hHeld10 => ?_)
              clear hKH KH
              try simp only [Act.put, List.setIfInBounds_toArray, List.set_cons_zero, List.set_cons_succ]
              refine wpAnyH_ready (rs := [11]) (by as_aux_lemma => kernel_rfl) (by simp) ?_
              refine AllReadyH.cons rfl (fun KH hKH => ?_) AllReadyH.nil
              go_simp
              refine hKH.out _ _ qW (fun hHeld11 => ?_)
              clear hKH KH
              try simp only [Act.put, List.setIfInBounds_toArray, List.set_cons_zero, List.set_cons_succ]
              refine wpAnyH_ready (rs := [12]) (by as_aux_lemma => kernel_rfl) (by simp) ?_
              refine AllReadyH.cons rfl (fun KH hKH => ?_) AllReadyH.nil
              go_simp
              refine hKH.out _ _ qW (fun hHeld12 => ?_)
              clear hKH KH
              try simp only [Act.put, List.setIfInBounds_toArray, List.set_cons_zero, List.set_cons_succ]
              refine wpAnyH_ready (rs := [13]) (by as_aux_lemma => kernel_rfl) (by simp) ?_
              refine AllReadyH.cons rfl (fun KH hKH => ?_) AllReadyH.nil
              go_simp
              refine hKH.out _ _ qF (fun hHeld13 => ?_)
              clear hKH KH
              try simp only [Act.put, List.setIfInBounds_toArray, List.set_cons_zero, List.set_cons_succ]
              refine wpAnyH_done (by as_aux_lemma => kernel_rfl) ?_ _
              clear qF qW qA q0 z1 z1A hap fz hu1
              go_upto_region 10 with fail
              rw [← unhide HZ1]
              go_wp2_with (at_builtin; refine wpList_append_run _ rfl _ _ 73 73 rfl _ _ rfl rfl (unhide HAP2) ?_)
              exact ⟨⟨k + 1, _, _, unhide HLT, by go_num, NX⟩, by simp [intOf]; have := unhide HLT; omega⟩
          · obtain rfl : k = n := by omega
            have hno : ¬ (k : Int) < (k : Int) := by omega
            have hFin : RTo n0 Y rb (.slice ta (rsOf S).T.length tc) vi (writeG S p) Z := by
              have h := unhide I
              rw [List.take_of_length_le (by rw [unhide HNP]; exact Nat.le_refl _)] at h
              refine ⟨⟨vt, vi', ?_, fun g q => by have := h.own g q; rw [unhide HD] at this; exact this⟩, by have := h.kp; rw [unhide HD] at this; exact this⟩
              show RF n0 Z rb vt vi' (rsOf (writeG S p))
              rw [unhide EW]
              exact h.rf
            have HFin := hide hFin
            clear hFin I
            go_wp2
            go_ret
            exact ⟨rfl, unhide HFin⟩
end
end Go.Proofs.Ytdalekjpjnhboaa

namespace Go.Proofs.Ytdalekjpjnhboaa
open Go.RowKit
set_option linter.unusedVariables false
set_option maxHeartbeats 400000
set_option maxRecDepth 100000

/-- Lists that their owner has written full. -/
structure En where
  ba : Option Addr
  bn : Nat
  bc : Nat
  ra : Option Addr
  rn : Nat
  rc : Nat
  m : Nat
def En.cs (e : En) : List Value := [.slice e.ba e.bn e.bc, .slice e.ra e.rn e.rc, .int .i64 (e.m : Int)]
def ena (e : En) : Array Value := #[.slice e.ba e.bn e.bc, .slice e.ra e.rn e.rc, .int .i64 (e.m : Int)]
structure EOk (w : World) (V : Nat → Prop) (e : En) : Prop where
  bc : e.bn ≤ e.bc ∧ e.bc ≤ 9223372036854775807
  rc : e.rn ≤ e.rc ∧ e.rc ≤ 9223372036854775807
  m : 20 ≤ e.m ∧ e.m ≤ 219
  b : e.bn = 0 ∨ ∃ g, e.ba = some ⟨g, 0, none⟩ ∧ V g ∧ (∃ cur, Blk w g cur 5) ∧ ∀ i, i < e.bn → w.cell? ⟨g, i, none⟩ = some (.int .u8 (e.m : Int))
  r : e.rn = 0 ∨ ∃ g, e.ra = some ⟨g, 0, none⟩ ∧ V g ∧ (∃ cur, Blk w g cur 86) ∧ ∀ i, i < e.rn → w.cell? ⟨g, i * 2, none⟩ = some (.int .i64 (e.m : Int)) ∧ w.cell? ⟨g, i * 2 + 1, none⟩ = some (.int .i64 (-1))
theorem EOk.kept {w w' : World} {V : Nat → Prop} {e : En} (h : EOk w V e) (hk : ∀ g, V g → g < w.heap.size → w'.heap[g]? = w.heap[g]?) : EOk w' V e := by
  refine ⟨h.bc, h.rc, h.m, h.b.imp id fun ⟨g, e1, hv, ⟨cur, hb⟩, hc⟩ => ⟨g, e1, hv, ⟨cur, (hk g hv hb.lt).trans hb⟩, fun i hi => ?_⟩, h.r.imp id fun ⟨g, e1, hv, ⟨cur, hb⟩, hc⟩ => ⟨g, e1, hv, ⟨cur, (hk g hv hb.lt).trans hb⟩, fun i hi => ?_⟩⟩
  · rw [World.cell?_of_block (w := w) (w' := w') (hk g hv hb.lt)]
    exact hc i hi
  · rw [World.cell?_of_block (w := w) (w' := w') (hk g hv hb.lt), World.cell?_of_block (w := w) (w' := w') (hk g hv hb.lt)]
    exact hc i hi
theorem EOk.mono {w : World} {V V' : Nat → Prop} {e : En} (h : EOk w V e) (hv : ∀ g, V g → V' g) : EOk w V' e :=
  ⟨h.bc, h.rc, h.m, h.b.imp id fun ⟨g, e1, h1, hc⟩ => ⟨g, e1, hv g h1, hc⟩, h.r.imp id fun ⟨g, e1, h1, hc⟩ => ⟨g, e1, hv g h1, hc⟩⟩

/-- The owner's list of them, in cell 0 of the owner's block. -/
structure OL (n0 : Nat) (X : World) (ob : Nat) (vl : Value) (rest : List Value) (V : Nat → Prop) (es : List En) : Prop where
  blk : Blk X ob (vl :: rest).toArray 38
  row : X.ownsRow n0 106 3 vl es.length (es.flatMap En.cs)
  all : ∀ e ∈ es, EOk X V e
  nb : n0 ≤ ob
  nV : ∀ g, V g → n0 ≤ g ∧ g < X.heap.size ∧ g ≠ ob ∧ vl.ownBlock ≠ some g
/-- The owner's own blocks. -/
def Om (ob : Nat) (vl : Value) (g : Nat) : Prop := g = ob ∨ vl.ownBlock = some g

theorem eflat_get (T : List En) : ∀ (i : Nat) (x : En) (j : Nat) (v : Value), T[i]? = some x → x.cs[j]? = some v → (T.flatMap En.cs)[i * 3 + j]? = some v := by
  induction T with
  | nil => intro i x j v h; simp at h
  | cons y T ih =>
    intro i x j v h hj
    have hl : y.cs.length = 3 := rfl
    rw [List.flatMap_cons]
    cases i with
    | zero =>
      simp at h
      subst h
      have : j < y.cs.length := (List.getElem?_eq_some_iff.1 hj).1
      rw [Nat.zero_mul, Nat.zero_add, List.getElem?_append_left this]
      exact hj
    | succ i =>
      rw [List.getElem?_append_right (by rw [hl]; omega), hl, show (i + 1) * 3 + j - 3 = i * 3 + j by omega]
      exact ih i x j v (by simpa using h) hj

section
variable {n0 : Nat} {X Y : World} {ob : Nat} {vl : Value} {rest : List Value} {V : Nat → Prop} {es : List En}
theorem OL.at (h : OL n0 X ob vl rest V es) : ∃ a c, vl = .slice a es.length c ∧ es.length ≤ c ∧ c ≤ 9223372036854775807 ∧ (es = [] ∨ ∃ g, a = some ⟨g, 0, none⟩ ∧ ∀ i x, es[i]? = some x → X.cell? ⟨g, i * 3, none⟩ = some (.slice x.ba x.bn x.bc) ∧ X.cell? ⟨g, i * 3 + 1, none⟩ = some (.slice x.ra x.rn x.rc) ∧ X.cell? ⟨g, i * 3 + 2, none⟩ = some (.int .i64 (x.m : Int))) := by
  rcases h.row.2 with ⟨e1, e2⟩ | ⟨g, c', cur, e1, q1, q2, q3, q4, q5, q6⟩
  · have : es = [] := List.length_eq_zero_iff.1 e2
    subst this
    exact ⟨none, 0, e1, Nat.le_refl _, Nat.zero_le _, .inl rfl⟩
  · refine ⟨_, c', e1, q3, by unfold maxLen at q4; omega, .inr ⟨g, rfl, fun i x hi => ?_⟩⟩
    have hlt := (List.getElem?_eq_some_iff.1 hi).1
    have hc : ∀ j v, x.cs[j]? = some v → X.cell? ⟨g, i * 3 + j, none⟩ = some v := fun j v hj => by
      have hj3 : j < 3 := (List.getElem?_eq_some_iff.1 hj).1
      unfold World.cell?
      rw [q2]
      have h1 : (cur.toList.take (es.length * 3))[i * 3 + j]? = (es.flatMap En.cs)[i * 3 + j]? := by rw [q6]
      rw [List.getElem?_take, if_pos (by omega), Array.getElem?_toList, eflat_get es i x j v hi hj] at h1
      simp only
      exact h1
    exact ⟨hc 0 _ rfl, hc 1 _ rfl, hc 2 _ rfl⟩
theorem own_kept {w w' : World} {b : Nat} {e : TypeId} {sz n : Nat} {v : Value} {xs : List Value} (h : w.ownsRow b e sz v n xs) (hk : ∀ g, v.ownBlock = some g → w'.heap[g]? = w.heap[g]?) : w'.ownsRow b e sz v n xs := by
  refine ⟨h.1, ?_⟩
  rcases h.2 with h2 | ⟨g, c, cur, e1, q1, q2, q3⟩
  · exact .inl h2
  · exact .inr ⟨g, c, cur, e1, q1, (hk g (by rw [e1]; rfl)).trans q2, q3⟩
theorem OL.kept (h : OL n0 X ob vl rest V es) (hs : X.heap.size ≤ Y.heap.size) (hk : ∀ g, Om ob vl g ∨ V g → g < X.heap.size → Y.heap[g]? = X.heap[g]?) : OL n0 Y ob vl rest V es :=
  ⟨(hk ob (.inl (.inl rfl)) h.blk.lt).trans h.blk, own_kept h.row fun g e => hk g (.inl (.inr e)) (h.row.lt g e).2, fun e he => (h.all e he).kept fun g hv hl => hk g (.inr hv) hl, h.nb, fun g hv => by have := h.nV g hv; exact ⟨this.1, by omega, this.2.2⟩⟩
theorem OL.grown (h : OL n0 X ob vl rest V es) (g : X.grownBy Y none) : OL n0 Y ob vl rest V es := h.kept g.size fun k _ hl => g.block k hl (by simp)
theorem OL.cell0 (h : OL n0 X ob vl rest V es) : X.cell? ⟨ob, 0, none⟩ = some vl := h.blk.cell 0 _ rfl
end
end Go.Proofs.Ytdalekjpjnhboaa

namespace Go.Proofs.Ytdalekjpjnhboaa
open Go.RowKit
set_option linter.unusedVariables false
set_option maxHeartbeats 4000000
set_option maxRecDepth 100000

def fillB (B : List Value) (m : Nat) : Nat → List Value
  | 0 => B
  | k + 1 => (fillB B m k).set k (.int .u8 (m : Int))
theorem fillB_len (B : List Value) (m k : Nat) : (fillB B m k).length = B.length := by
  induction k with
  | zero => rfl
  | succ k ih => simp only [fillB, List.length_set, ih]
theorem fillB_get (B : List Value) (m k i : Nat) (hi : i < B.length) (hk : i < k) : (fillB B m k)[i]? = some (.int .u8 (m : Int)) := by
  induction k with
  | zero => omega
  | succ k ih =>
    simp only [fillB]
    rw [List.getElem?_set]
    by_cases c : k = i
    · rw [if_pos c, if_pos (by rw [fillB_len]; omega)]
    · rw [if_neg c, ih (by omega)]
theorem fillB_all (B : List Value) (m : Nat) : fillB B m B.length = List.replicate B.length (.int .u8 (m : Int)) := by
  apply List.ext_getElem?
  intro i
  by_cases c : i < B.length
  · rw [fillB_get B m _ i c c, List.getElem?_replicate, if_pos c]
  · rw [List.getElem?_eq_none (by rw [fillB_len]; omega), List.getElem?_eq_none (by simp; omega)]
def fillR (xs : List Value) (m : Nat) : Nat → List Value
  | 0 => xs
  | k + 1 => ((fillR xs m k).set (k * 2) (.int .i64 (m : Int))).set (k * 2 + 1) (.int .i64 (-1))
theorem fillR_len (xs : List Value) (m k : Nat) : (fillR xs m k).length = xs.length := by
  induction k with
  | zero => rfl
  | succ k ih => simp only [fillR, List.length_set, ih]
theorem fillR_get (xs : List Value) (m k i : Nat) (hi : i * 2 + 1 < xs.length) (hk : i < k) : (fillR xs m k)[i * 2]? = some (.int .i64 (m : Int)) ∧ (fillR xs m k)[i * 2 + 1]? = some (.int .i64 (-1)) := by
  induction k with
  | zero => omega
  | succ k ih =>
    simp only [fillR]
    by_cases c : k = i
    · subst c
      refine ⟨?_, ?_⟩
      · rw [List.getElem?_set, if_neg (by omega), List.getElem?_set, if_pos rfl, if_pos (by rw [fillR_len]; omega)]
      · rw [List.getElem?_set, if_pos rfl, if_pos (by rw [List.length_set, fillR_len]; omega)]
    · rw [List.getElem?_set, if_neg (by omega), List.getElem?_set, if_neg (by omega), List.getElem?_set, if_neg (by omega), List.getElem?_set, if_neg (by omega)]
      exact ih (by omega)

theorem Try.infoOw : (Try.prog.info? 106).map (fun i => (i.zero, i.size, i.bytes)) = some (some (.agg #[.slice none 0 0, .slice none 0 0, .int .i64 0]), 3, 56) := by kernel_rfl

section
variable {n0 : Nat} {X Y : World} {ob : Nat} {vl : Value} {rest : List Value} {V : Nat → Prop} {es : List En}

/-- One entry more. -/
theorem OL.push (h : OL n0 X ob vl rest V es) (hn0 : n0 ≤ X.heap.size) (e : En) (V' : Nat → Prop) (hV : ∀ g, V g → V' g) (hE : EOk X V' e) (hV' : ∀ g, V' g → n0 ≤ g ∧ g < X.heap.size ∧ g ≠ ob ∧ vl.ownBlock ≠ some g) (hb : es.length + 1 ≤ 1000000000) :
    ∃ a' c' W', (Builtin.append_ #[32, 32] 32 #[vl, .slice (some ⟨X.heap.size, 0, none⟩) 1 1]).run Try.prog (X.alloc (.cells (ena e) 106)) = .ok (.slice a' (es.length + 1) c') W' ∧ OL n0 (W'.setCell ⟨ob, 0, none⟩ (.slice a' (es.length + 1) c')) ob (.slice a' (es.length + 1) c') rest V' (es ++ [e]) ∧ W'.frozen? ⟨ob, 0, none⟩ = false ∧ (∃ u, W'.cell? ⟨ob, 0, none⟩ = some u) ∧ Kp (Om ob vl) X (W'.setCell ⟨ob, 0, none⟩ (.slice a' (es.length + 1) c')) ∧ ((Value.slice a' (es.length + 1) c').ownBlock = vl.ownBlock ∨ ∀ g, (Value.slice a' (es.length + 1) c').ownBlock = some g → X.heap.size ≤ g) := by
  obtain ⟨i, hi, hz, hs, hby⟩ := info_parts Try.infoOw
  have gA := grown_alloc X (.cells (ena e) 106)
  have hrow : (X.alloc (.cells (ena e) 106)).ownsRow n0 106 3 vl es.length (es.flatMap En.cs) := own_kept h.row fun g eg => gA.block g (h.row.lt g eg).2 (by simp)
  have hnews : ∀ j u, e.cs[j]? = some u → (X.alloc (.cells (ena e) 106)).cell? ((⟨X.heap.size, 0, none⟩ : Addr).add j) = some u := fun j u hj => by
    have hj3 : j < 3 := (List.getElem?_eq_some_iff.1 hj).1
    have hb2 := Blk.new X (ena e) 106
    have := hb2.cell j u (by
      match j, hj with
      | 0, hj => exact hj
      | 1, hj => exact hj
      | 2, hj => exact hj)
    simpa only [Addr.add_lit, Nat.zero_add] using this
  have h1 : ∀ u ∈ e.cs, u.oneCell' = true := by simp [En.cs, Value.oneCell']
  obtain ⟨v', W', hr, ho, hgr, hnil⟩ := run_append_own (P := Try.prog) (X.alloc (.cells (ena e) 106)) n0 32 32 106 i _ 3 56 Try.underlying32 hi hz hs hby rfl (by decide) vl es.length (es.flatMap En.cs) hrow ⟨X.heap.size, 0, none⟩ 1 1 e.cs rfl hnews h1 (by unfold maxLen; omega) (by omega) (Nat.le_trans hn0 gA.size)
  have e1 : es.flatMap En.cs ++ e.cs = (es ++ [e]).flatMap En.cs := by simp
  have e2 : (es ++ [e]).length = es.length + 1 := by simp
  rw [e1] at ho
  obtain ⟨a', c', rfl⟩ : ∃ a' c', v' = .slice a' (es.length + 1) c' := by
    rcases ho.2 with ⟨-, e⟩ | ⟨g', c', cur, e1, -⟩
    · omega
    · exact ⟨_, _, e1⟩
  have hbA := h.blk.grown gA
  have hneO : vl.ownBlock ≠ some ob := fun q => by
    rcases hrow.2 with ⟨rfl, -⟩ | ⟨g', c, cur, rfl, -, q2, -⟩
    · cases q
    · cases q
      have q3 := hbA
      unfold Blk at q3
      rw [q2] at q3
      injection q3 with q3
      injection q3 with _ q3
      exact absurd q3 (by decide)
  have hbW : Blk W' ob (vl :: rest).toArray 38 := (hgr.block ob hbA.lt (fun q => hneO q.symm)).trans hbA
  have hown : (Value.slice a' (es.length + 1) c').ownBlock = vl.ownBlock ∨ ∀ g, (Value.slice a' (es.length + 1) c').ownBlock = some g → X.heap.size ≤ g := by
    rcases h.row.2 with ⟨rfl, hl⟩ | ⟨g', cap, cur, rfl, hbg, hgg, hnc, hcm, hcs, htake⟩
    · have := run_append_nil (P := Try.prog) (X.alloc (.cells (ena e) 106)) 32 32 106 i _ Try.underlying32 hi hz ⟨X.heap.size, 0, none⟩ 1 1 e.cs (by rw [hs]; rfl) hnews (by omega) (by omega) (by rw [hby]; omega)
      rw [this] at hr
      injection hr with e3 e4
      rw [← e3]
      right
      intro g q
      have : some (X.alloc (.cells (ena e) 106)).heap.size = some g := q
      injection this with this
      rw [← this, alloc_size]; omega
    · by_cases hroom : es.length + 1 ≤ cap
      · have hgg2 := gA.block g' (h.row.lt g' rfl).2 (by simp)
        have := run_append_room (P := Try.prog) (X.alloc (.cells (ena e) 106)) 32 32 106 i Try.underlying32 hi g' es.length cap cur (hgg2.trans hgg) ⟨X.heap.size, 0, none⟩ 1 1 e.cs (by rw [hs]; rfl) hnews h1 hroom (by rw [hs, hcs]; show es.length * 3 + 3 ≤ cap * 3; omega)
        rw [this] at hr
        injection hr with e3 e4
        rw [← e3]
        exact .inl rfl
      · have := run_append_grow (P := Try.prog) (X.alloc (.cells (ena e) 106)) 32 32 106 i _ Try.underlying32 hi hz ⟨g', 0, none⟩ es.length cap (es.flatMap En.cs) (by rw [hs]; exact hrow.1) (hrow.cells (g := g') rfl) ⟨X.heap.size, 0, none⟩ 1 1 e.cs (by rw [hs]; rfl) hnews (by omega) (by omega) (growslice_fits (by omega) (by rw [hby]; omega))
        rw [this] at hr
        injection hr with e3 e4
        rw [← e3]
        right
        intro g q
        have : some (X.alloc (.cells (ena e) 106)).heap.size = some g := q
        injection this with this
        rw [← this, alloc_size]; omega
  have hkW : Kp (Om ob vl) X W' := kp_own (Kp.grown gA _) hgr (fun g q => .inl (.inr q))
  have hrowne : (Value.slice a' (es.length + 1) c').ownBlock ≠ some ob := fun q => by
    rcases hown with hown | hown
    · exact hneO (hown ▸ q)
    · have := hown ob q; have := h.blk.lt; omega
  have hk2 : ∀ g, V' g → (W'.setCell ⟨ob, 0, none⟩ (.slice a' (es.length + 1) c')).heap[g]? = X.heap[g]? := fun g hv => by
    have h4 := hV' g hv
    rw [set_heap _ _ _ _ _ h4.2.2.1]
    exact hkW.block g h4.2.1 (fun q => by
      rcases q with q | q
      · exact h4.2.2.1 q
      · exact h4.2.2.2 q)
  refine ⟨a', c', W', hr, ⟨?_, ?_, fun x hx => ?_, h.nb, fun g hv => ?_⟩, hbW.thaw 0, ⟨_, hbW.cell 0 _ rfl⟩, hkW.set ob 0 _ (fun _ => .inl rfl), hown⟩
  · have := hbW.setC 0 (.slice a' (es.length + 1) c')
    exact this
  · rw [e2]
    exact own_kept ho fun g q => set_heap _ _ _ _ _ (fun z => hrowne (z ▸ q))
  · rcases List.mem_append.1 hx with hx | hx
    · exact ((h.all x hx).mono hV).kept fun g hv _ => hk2 g hv
    · simp only [List.mem_singleton] at hx
      subst hx
      exact hE.kept fun g hv _ => hk2 g hv
  · have h4 := hV' g hv
    refine ⟨h4.1, by rw [set_size]; have := hkW.size; omega, h4.2.2.1, fun q => ?_⟩
    rcases hown with hown | hown
    · exact h4.2.2.2 (hown ▸ q)
    · have := hown g q; omega
end
end Go.Proofs.Ytdalekjpjnhboaa

namespace Go.Proofs.Ytdalekjpjnhboaa
open Go.RowKit
set_option linter.unusedVariables false
set_option maxHeartbeats 4000000
set_option maxRecDepth 100000

/-- While lists are written full. -/
structure MK (n0 : Nat) (X : World) (ob : Nat) (vl : Value) (rest : List Value) (V : Nat → Prop) (es : List En) (vb vr : Value) (n : Nat) (Bs xs : List Value) (Z : World) : Prop where
  ol : OL n0 Z ob vl rest V es
  bb : RowV n0 5 Z vb Bs
  rr : Z.ownsRow n0 86 2 vr n xs
  kp : Kp (fun g => Om ob vl g ∨ vb.ownBlock = some g ∨ vr.ownBlock = some g) X Z
  nb : ∀ g, vb.ownBlock = some g → ¬ V g
  nr : ∀ g, vr.ownBlock = some g → ¬ V g

/-- The block of a row. -/
theorem own_blk {w : World} {b : Nat} {e : TypeId} {sz n : Nat} {v : Value} {xs : List Value} (h : w.ownsRow b e sz v n xs) {g : Nat} (hg : v.ownBlock = some g) : ∃ cur, Blk w g cur e := by
  rcases h.2 with ⟨rfl, -⟩ | ⟨g', c, cur, rfl, q1, q2, q3⟩
  · cases hg
  · cases hg; exact ⟨cur, q2⟩
theorem own_ne {w : World} {b b' : Nat} {e e' : TypeId} {sz n sz' n' : Nat} {v v' : Value} {xs xs' : List Value} (h : w.ownsRow b e sz v n xs) (h' : w.ownsRow b' e' sz' v' n' xs') (ht : e ≠ e') {g : Nat} (hg : v.ownBlock = some g) : v'.ownBlock ≠ some g := fun q => by
  obtain ⟨c1, b1⟩ := own_blk h hg
  obtain ⟨c2, b2⟩ := own_blk h' q
  have := (show w.heap[g]? = _ from b1).symm.trans (show w.heap[g]? = _ from b2)
  simp at this
  exact ht this.2
theorem own_ne_blk {w : World} {b : Nat} {e t : TypeId} {sz n : Nat} {v : Value} {xs : List Value} {cs : Array Value} {k : Nat} (h : w.ownsRow b e sz v n xs) (hb : Blk w k cs t) (ht : e ≠ t) : v.ownBlock ≠ some k := fun q => by
  obtain ⟨c1, b1⟩ := own_blk h q
  have := (show w.heap[k]? = _ from b1).symm.trans (show w.heap[k]? = _ from hb)
  simp at this
  exact ht this.2

section
variable {n0 : Nat} {X Z : World} {ob : Nat} {vl : Value} {rest : List Value} {V : Nat → Prop} {es : List En} {vb vr : Value} {n : Nat} {Bs xs : List Value}

theorem MK.setB {gb bn bc : Nat} (h : MK n0 X ob vl rest V es (.slice (some ⟨gb, 0, none⟩) bn bc) vr n Bs xs Z) (j : Nat) (hj : j < Bs.length) (u : Value) : MK n0 X ob vl rest V es (.slice (some ⟨gb, 0, none⟩) bn bc) vr n (Bs.set j u) xs (Z.setCell ⟨gb, j, none⟩ u) := by
  have hg : (Value.slice (some ⟨gb, 0, none⟩) bn bc).ownBlock = some gb := rfl
  refine ⟨h.ol.kept (by rw [set_size]; exact Nat.le_refl _) fun g q _ => set_heap _ _ _ _ _ (fun z => ?_), h.bb.put j u hj, own_kept h.rr fun g e => set_heap _ _ _ _ _ (fun z => own_ne h.bb h.rr (by decide) hg (z ▸ e)), h.kp.set gb j u (fun _ => .inr (.inl rfl)), h.nb, h.nr⟩
  subst z
  rcases q with (q | q) | q
  · subst q
    exact own_ne_blk h.bb h.ol.blk (by decide) hg
  · exact own_ne h.bb h.ol.row (by decide) hg q
  · exact h.nb g rfl q
theorem MK.setR {gr rc : Nat} (h : MK n0 X ob vl rest V es vb (.slice (some ⟨gr, 0, none⟩) n rc) n Bs xs Z) (j : Nat) (u : Value) : MK n0 X ob vl rest V es vb (.slice (some ⟨gr, 0, none⟩) n rc) n Bs (xs.set j u) (Z.setCell ⟨gr, j, none⟩ u) := by
  have hg : (Value.slice (some ⟨gr, 0, none⟩) n rc).ownBlock = some gr := rfl
  refine ⟨h.ol.kept (by rw [set_size]; exact Nat.le_refl _) fun g q _ => set_heap _ _ _ _ _ (fun z => ?_), h.bb.kept fun g e => set_heap _ _ _ _ _ (fun z => own_ne h.rr h.bb (by decide) hg (z ▸ e)), (World.ownsRow.stored h.rr j u).1, h.kp.set gr j u (fun _ => .inr (.inr rfl)), h.nb, h.nr⟩
  subst z
  rcases q with (q | q) | q
  · subst q
    exact own_ne_blk h.rr h.ol.blk (by decide) hg
  · exact own_ne h.rr h.ol.row (by decide) hg q
  · exact h.nr g rfl q

theorem own_shape {w : World} {b : Nat} {e : TypeId} {sz n : Nat} {v : Value} {xs : List Value} (h : w.ownsRow b e sz v n xs) : ∃ a c, v = .slice a n c ∧ n ≤ c ∧ c ≤ 9223372036854775807 ∧ (n = 0 ∨ ∃ g, a = some ⟨g, 0, none⟩) := by
  rcases h.2 with ⟨e1, e2⟩ | ⟨g, c, cur, e1, q1, q2, q3, q4, q5⟩
  · subst e2
    exact ⟨none, 0, e1, Nat.le_refl _, Nat.zero_le _, .inl rfl⟩
  · exact ⟨_, c, e1, q3, by unfold maxLen at q4; omega, .inr ⟨g, rfl⟩⟩

/-- What mark leaves. -/
def MarkP (n0 : Nat) (X : World) (ob : Nat) (vl : Value) (rest : List Value) (V : Nat → Prop) (es : List En) (vb vr : Value) (n bn : Nat) (xs : List Value) (m : Nat) (Y : World) : Prop :=
  ∃ ba bc ra rc vl', vb = .slice ba bn bc ∧ vr = .slice ra n rc ∧ OL n0 Y ob vl' rest (fun g => V g ∨ vb.ownBlock = some g ∨ vr.ownBlock = some g) (es ++ [⟨ba, bn, bc, ra, n, rc, m⟩]) ∧ RowV n0 5 Y vb (List.replicate bn (.int .u8 (m : Int))) ∧ Y.ownsRow n0 86 2 vr n (fillR xs m n) ∧ Kp (fun g => Om ob vl g ∨ vb.ownBlock = some g ∨ vr.ownBlock = some g) X Y ∧ (vl'.ownBlock = vl.ownBlock ∨ ∀ g, vl'.ownBlock = some g → X.heap.size ≤ g)

theorem mark_any (h : OL n0 X ob vl rest V es) (hn0 : n0 ≤ X.heap.size) (hl : es.length + 1 ≤ 1000000000) (hb : RowV n0 5 X vb Bs) (hr : X.ownsRow n0 86 2 vr n xs) (hbn : Bs.length ≤ 1000000000) (hrn : n ≤ 1000000000) (hnb : ∀ g, vb.ownBlock = some g → ¬ V g) (hnr : ∀ g, vr.ownBlock = some g → ¬ V g) :
    Calls Try.prog 37 #[ptr ob, vb, vr] X fun e Y => e = .returned (.tuple #[]) ∧ MarkP n0 X ob vl rest V es vb vr n Bs.length xs (es.length % 200 + 20) Y := by
  obtain ⟨ba, bc, rfl, hb1, hb2, hb3⟩ := own_shape hb
  obtain ⟨ra, rc, rfl, hr1, hr2, hr3⟩ := own_shape hr
  obtain ⟨la, lc, rfl, hl1, hl2, -⟩ := h.at
  have c0 := h.cell0
  have I0 : Hid (MK n0 X ob (.slice la es.length lc) rest V es (.slice ba Bs.length bc) (.slice ra n rc) n (fillB Bs (es.length % 200 + 20) 0) xs X) := ⟨h, hb, hr, Kp.refl _ _, hnb, hnr⟩
  obtain ⟨m, hm⟩ : ∃ m, m = es.length % 200 + 20 := ⟨_, rfl⟩
  have hmb : 20 ≤ m ∧ m ≤ 219 := by omega
  rw [← hm] at I0 ⊢
  have hrem : Int.tmod (es.length : Int) 200 = ((m - 20 : Nat) : Int) := by
    rw [show (200 : Int) = ((200 : Nat) : Int) from rfl, ← Int.ofNat_tmod]
    congr 1
    omega
  have hm2 : ((m - 20 : Nat) : Int) + 20 = (m : Int) := by omega
  have wm : IntKind.i64.wrap (m : Int) = (m : Int) := by rw [IntKind.wrap_i64]; omega
  have wu : IntKind.u8.wrap (m : Int) = (m : Int) := by rw [IntKind.wrap_u8]; omega
  have hnl : xs.length = n * 2 := hr.1
  have hN9 : es.length ≤ 1000000000 := by omega
  have HM := hide hm
  have HNL := hide hnl
  clear h hb hr hnb hnr hm hnl
  generalize hBN : Bs.length = bn at *
  have HBN := hide hBN
  clear hBN
  generalize hEN : es.length = N at *
  have HEN := hide hEN
  clear hEN
  generalize hkk : m - 20 = mk at *
  clear hkk
  go_enter Try.func37, Try.ntmps37
  go_wp2
  clear c0 hrem
  go_loopw [7] (fun i Z => ∃ k : Nat, k ≤ bn ∧ i = .int .i64 (k : Int) ∧ Hid (MK n0 X ob (.slice la N lc) rest V es (.slice ba bn bc) (.slice ra n rc) n (fillB Bs m k) xs Z)) (fun i _ => bn - (intOf i).toNat)
  case atStart => exact ⟨0, Nat.zero_le _, rfl, I0⟩
  case round =>
    clear I0
    obtain ⟨k, hk, rfl, I⟩ := hrel
    obtain ⟨Z, hZ⟩ : ∃ Z, Z = wr := ⟨_, rfl⟩
    subst hZ
    by_cases hlt : k < bn
    · obtain ⟨gb, rfl⟩ := hb3.resolve_left (by omega)
      have hkl : k < (fillB Bs m k).length := by rw [fillB_len, unhide HBN]; exact hlt
      have NX := hide ((unhide I).setB k hkl (.int .u8 (m : Int)))
      obtain ⟨cur, hcur⟩ := own_blk (unhide I).bb (g := gb) rfl
      have fz := hcur.thaw k
      have hcx : ∃ v, Z.cell? ⟨gb, k, none⟩ = some v := by
        obtain ⟨a0, c0, e0, -, -, h0⟩ := (unhide I).bb.at
        obtain ⟨g0, eg, -, -, -, hc⟩ := h0.resolve_left (fun e => by rw [e] at hkl; simp at hkl)
        injection e0 with e1 e2 e3
        rw [← e1] at eg
        injection eg with eg
        injection eg with eg
        subst eg
        exact ⟨_, hc k _ (List.getElem?_eq_getElem hkl)⟩
      obtain ⟨v, hv⟩ := hcx
      have hkn : (k : Int) < (bn : Int) := by omega
      have hk0 : (0 : Int) ≤ (k : Int) := by omega
      have HLT := hide hlt
      clear hcur hkl I hk hlt
      go_wp2
      exact ⟨⟨k + 1, unhide HLT, by go_num, NX⟩, by simp [intOf]; have := unhide HLT; omega⟩
    · obtain rfl : k = bn := by omega
      have hno : ¬ (k : Int) < (k : Int) := by omega
      have J0 : Hid (MK n0 X ob (.slice la N lc) rest V es (.slice ba k bc) (.slice ra n rc) n (fillB Bs m k) (fillR xs m 0) Z) := I
      clear I hk hlt
      go_wp2
      go_loopw [8] (fun i W => ∃ j : Nat, j ≤ n ∧ i = .int .i64 (j : Int) ∧ Hid (MK n0 X ob (.slice la N lc) rest V es (.slice ba k bc) (.slice ra n rc) n (fillB Bs m k) (fillR xs m j) W)) (fun i _ => n - (intOf i).toNat)
      case atStart => exact ⟨0, Nat.zero_le _, rfl, J0⟩
      case round =>
        clear J0
        obtain ⟨j, hj, rfl, J⟩ := hrel
        obtain ⟨W, hW⟩ : ∃ W, W = wr := ⟨_, rfl⟩
        subst hW
        by_cases hlt : j < n
        · obtain ⟨gr, rfl⟩ := hr3.resolve_left (by omega)
          have NX := hide (((unhide J).setR (j * 2) (.int .i64 (m : Int))).setR (j * 2 + 1) (.int .i64 (-1)))
          obtain ⟨cur, hcur⟩ := own_blk (unhide J).rr (g := gr) rfl
          have fz := hcur.thaw (j * 2)
          have fz2 := hcur.thaw (j * 2 + 1)
          have hcl := fun q (hq : q < n * 2) => World.ownsRow.cellAt (unhide J).rr q hq
          have hcx : ∃ v, W.cell? ⟨gr, j * 2, none⟩ = some v := by
            rw [hcl (j * 2) (by omega)]
            exact ⟨_, List.getElem?_eq_getElem (by rw [fillR_len, unhide HNL]; omega)⟩
          have hcy : ∃ v, W.cell? ⟨gr, j * 2 + 1, none⟩ = some v := by
            rw [hcl (j * 2 + 1) (by omega)]
            exact ⟨_, List.getElem?_eq_getElem (by rw [fillR_len, unhide HNL]; omega)⟩
          obtain ⟨v, hv⟩ := hcx
          obtain ⟨v2, hv2⟩ := hcy
          have hkn : (j : Int) < (n : Int) := by omega
          have hk0 : (0 : Int) ≤ (j : Int) := by omega
          have HLT := hide hlt
          clear hcur hcl J hj hlt
          go_wp2
          exact ⟨⟨j + 1, unhide HLT, by go_num, NX⟩, by simp [intOf]; have := unhide HLT; omega⟩
        · obtain rfl : j = n := by omega
          have hno2 : ¬ (j : Int) < (j : Int) := by omega
          have hJ := unhide J
          have hsB : (fillB Bs m k) = List.replicate k (.int .u8 (m : Int)) := by rw [← unhide HBN]; exact fillB_all Bs m
          have hE : EOk W (fun g => V g ∨ (Value.slice ba k bc).ownBlock = some g ∨ (Value.slice ra j rc).ownBlock = some g) ⟨ba, k, bc, ra, j, rc, m⟩ := by
            refine ⟨⟨hb1, hb2⟩, ⟨hr1, hr2⟩, hmb, ?_, ?_⟩
            · rcases hb3 with hz | ⟨gb, rfl⟩
              · exact .inl hz
              · right
                refine ⟨gb, rfl, .inr (.inl rfl), own_blk hJ.bb rfl, fun i hi => ?_⟩
                obtain ⟨a0, c0, e0, -, -, h0⟩ := hJ.bb.at
                rw [hsB] at h0
                obtain ⟨g0, eg, -, -, -, hc⟩ := h0.resolve_left (fun e => by have := congrArg List.length e; simp at this; simp only at hi; omega)
                injection e0 with e1 e2 e3
                rw [← e1] at eg
                injection eg with eg
                injection eg with eg
                subst eg
                exact hc i _ (by rw [List.getElem?_replicate, if_pos hi])
            · rcases hr3 with hz | ⟨gr, rfl⟩
              · exact .inl hz
              · right
                refine ⟨gr, rfl, .inr (.inr rfl), own_blk hJ.rr rfl, fun i hi => ?_⟩
                have hi' : i < j := hi
                have hg := fillR_get xs m j i (by rw [unhide HNL]; omega) hi'
                exact ⟨(World.ownsRow.cellAt hJ.rr (i * 2) (by omega)).trans hg.1, (World.ownsRow.cellAt hJ.rr (i * 2 + 1) (by omega)).trans hg.2⟩
          have hV' : ∀ g, (V g ∨ (Value.slice ba k bc).ownBlock = some g ∨ (Value.slice ra j rc).ownBlock = some g) → n0 ≤ g ∧ g < W.heap.size ∧ g ≠ ob ∧ (Value.slice la N lc).ownBlock ≠ some g := fun g q => by
            rcases q with q | q | q
            · exact hJ.ol.nV g q
            · exact ⟨(hJ.bb.lt g q).1, (hJ.bb.lt g q).2, fun z => own_ne_blk hJ.bb hJ.ol.blk (by decide) (z ▸ q), own_ne hJ.bb hJ.ol.row (by decide) q⟩
            · exact ⟨(hJ.rr.lt g q).1, (hJ.rr.lt g q).2, fun z => own_ne_blk hJ.rr hJ.ol.blk (by decide) (z ▸ q), own_ne hJ.rr hJ.ol.row (by decide) q⟩
          have hsz := hJ.kp.size
          obtain ⟨a2, c2, W2, hap, h2, fz, ⟨u, hu⟩, k2, o2⟩ := hJ.ol.push (by omega) ⟨ba, k, bc, ra, j, rc, m⟩ _ (fun g q => .inl q) hE hV' (by rw [unhide HEN]; omega)
          rw [unhide HEN] at hap h2 k2 o2
          have c0 := hJ.ol.cell0
          have keep : ∀ g, g ≠ ob → (Value.slice la N lc).ownBlock ≠ some g → g < W.heap.size → (W2.setCell ⟨ob, 0, none⟩ (.slice a2 (N + 1) c2)).heap[g]? = W.heap[g]? := fun g z1 z2 z3 => k2.block g z3 (fun q => by
            rcases q with q | q
            · exact z1 q
            · exact z2 q)
          have FIN : Hid (MarkP n0 X ob (.slice la N lc) rest V es (.slice ba k bc) (.slice ra j rc) j k xs m (W2.setCell ⟨ob, 0, none⟩ (.slice a2 (N + 1) c2))) := by
            refine ⟨ba, bc, ra, rc, .slice a2 (N + 1) c2, rfl, rfl, h2, ?_, own_kept hJ.rr fun g q => keep g (hV' g (.inr (.inr q))).2.2.1 (hV' g (.inr (.inr q))).2.2.2 (hJ.rr.lt g q).2, hJ.kp.trans (k2.mono fun g _ q => .inl q), o2.imp id fun z g q => Nat.le_trans hsz (z g q)⟩
            rw [← hsB]
            exact hJ.bb.kept fun g q => keep g (hV' g (.inr (.inl q))).2.2.1 (hV' g (.inr (.inl q))).2.2.2 (hJ.bb.lt g q).2
          have HAP := hide hap
          unfold ena at HAP
          clear hj hlt J hJ hE hV' hap h2 k2 o2 keep hsB hsz
          go_wp2_with (at_builtin; refine wpList_append_run _ rfl _ _ 32 32 rfl _ _ rfl rfl (unhide HAP) ?_)
          all_goals refine bodyPost_end (results_none rfl _ _ _) rfl ?_
          all_goals exact ⟨rfl, unhide FIN⟩
end
end Go.Proofs.Ytdalekjpjnhboaa

namespace Go.Proofs.Ytdalekjpjnhboaa
open Go.RowKit
set_option linter.unusedVariables false
set_option maxHeartbeats 1000000
set_option maxRecDepth 100000

theorem app_moved {P : Program} (w : World) (base : Nat) (t ty e : TypeId) (i : TypeInfo) (z : Value) (size bytes : Nat) (ht : P.underlying t = some (.slice e)) (hi : P.info? e = some i) (hz : i.zero = some z)
    (hsize : i.size = size) (hby : i.bytes = bytes) (hzs : z.cells.size = size) (hs0 : 0 < size)
    (v : Value) (n : Nat) (xs : List Value) (hown : w.ownsRow base e size v n xs)
    (a : Addr) (m c : Nat) (news : List Value) (hl : news.length = m * size) (hnews : ∀ j u, news[j]? = some u → w.cell? (a.add j) = some u) (h1 : ∀ u ∈ news, u.oneCell' = true)
    (hm : 0 < m) (h63 : n + m ≤ maxLen) (hbytes : (n + m) * bytes ≤ 140737488355328) (hbase : base ≤ w.heap.size) :
    ∃ a' c' w', (Builtin.append_ #[t, t] ty #[v, .slice (some a) m c]).run P w = .ok (.slice a' (n + m) c') w' ∧ w'.ownsRow base e size (.slice a' (n + m) c') (n + m) (xs ++ news) ∧ Moved w w' v (.slice a' (n + m) c') := by
  obtain ⟨v', w', hr, ho, hg, hnil⟩ := run_append_own (P := P) w base t ty e i z size bytes ht hi hz hsize hby hzs hs0 v n xs hown a m c news hl hnews h1 h63 hbytes hbase
  obtain ⟨a', c', rfl⟩ : ∃ a' c', v' = .slice a' (n + m) c' := by
    rcases ho.2 with ⟨-, e⟩ | ⟨g', c', cur, e1, -⟩
    · omega
    · exact ⟨_, _, e1⟩
  refine ⟨a', c', w', hr, ho, ?_⟩
  have h63' : n + m ≤ 9223372036854775807 := by simp only [maxLen] at h63; omega
  rcases hown.2 with ⟨rfl, rfl⟩ | ⟨g, cap, cur, rfl, hbg, hgg, hnc, hcm, hcs, htake⟩
  · have := run_append_nil (P := P) w t ty e i z ht hi hz a m c news (by rw [hsize]; exact hl) hnews hm (by omega) (by rw [hby]; simp only [Nat.zero_add] at hbytes; omega)
    rw [this] at hr
    injection hr with e1 e2
    rw [← e1, ← e2]
    exact .inr ⟨rfl, grown_drew_alloc w _⟩
  · by_cases hroom : n + m ≤ cap
    · have := run_append_room (P := P) w t ty e i ht hi g n cap cur hgg a m c news (by rw [hsize]; exact hl) hnews h1 hroom (by rw [hsize, hcs, hl, ← Nat.add_mul]; exact Nat.mul_le_mul_right _ hroom)
      rw [this] at hr
      injection hr with e1 e2
      rw [← e1]
      exact .inl ⟨rfl, hg⟩
    · have := run_append_grow (P := P) w t ty e i z ht hi hz ⟨g, 0, none⟩ n cap xs (by rw [hsize]; exact hown.1) (hown.cells (g := g) rfl) a m c news (by rw [hsize]; exact hl) hnews (by omega) (by omega) (growslice_fits (by omega) (by rw [hby]; exact hbytes))
      rw [this] at hr
      injection hr with e1 e2
      rw [← e1, ← e2]
      exact .inr ⟨rfl, grown_drew_alloc w _⟩

abbrev mB (m n : Nat) : List Value := List.replicate n (.int .u8 (m : Int))
abbrev mR (m n : Nat) : List Value := cl (List.replicate n ((m : Int), (-1 : Int)))
theorem mR_succ (m n : Nat) : mR m n ++ [.int .i64 (m : Int), .int .i64 (-1)] = mR m (n + 1) := by
  unfold mR
  rw [List.replicate_succ', cl_append]
  rfl
theorem mR_get (m : Nat) : ∀ (n i : Nat), i < n → (mR m n)[i * 2]? = some (.int .i64 (m : Int)) ∧ (mR m n)[i * 2 + 1]? = some (.int .i64 (-1))
  | 0, i, h => by omega
  | n + 1, 0, h => ⟨rfl, rfl⟩
  | n + 1, i + 1, h => by
    have := mR_get m n i (by omega)
    show (Value.int .i64 (m : Int) :: Value.int .i64 (-1) :: mR m n)[(i + 1) * 2]? = _ ∧ (Value.int .i64 (m : Int) :: Value.int .i64 (-1) :: mR m n)[(i + 1) * 2 + 1]? = _
    rw [show (i + 1) * 2 = i * 2 + 1 + 1 by omega, show i * 2 + 1 + 1 + 1 = (i * 2 + 1) + 1 + 1 by omega]
    exact this
theorem fillR_all (xs : List Value) (m n : Nat) (h : xs.length = n * 2) : fillR xs m n = mR m n := by
  have hl : (mR m n).length = n * 2 := by unfold mR; rw [cl_length]; simp
  apply List.ext_getElem?
  intro i
  by_cases c : i < n * 2
  · obtain ⟨j, hj⟩ : ∃ j, i = j * 2 ∨ i = j * 2 + 1 := ⟨i / 2, by omega⟩
    have h1 := fillR_get xs m n j (by omega) (by omega)
    have h2 := mR_get m n j (by omega)
    rcases hj with rfl | rfl
    · rw [h1.1, h2.1]
    · rw [h1.2, h2.2]
  · rw [List.getElem?_eq_none (by rw [fillR_len]; omega), List.getElem?_eq_none (by omega)]

section
variable {n0 : Nat} {A W' : World} {V : Nat → Prop} {e : En} {v : Value} {a' : Option Addr} {k c' m : Nat}

/-- Bytes are grown in place or anew: an entry still reads as it did. -/
theorem EOk.appB (he : EOk A V e) (hr : A.ownsRow n0 5 1 v k (mB m k)) (mv : Moved A W' v (.slice a' (k + 1) c')) (ho : W'.ownsRow n0 5 1 (.slice a' (k + 1) c') (k + 1) (mB m (k + 1))) (uq : ∀ g, v.ownBlock = some g → e.ba = some ⟨g, 0, none⟩ → 0 < e.bn → e.m = m ∧ e.bn ≤ k) : EOk W' V e := by
  rcases mv with ⟨eo, gg⟩ | ⟨eo, gg, -⟩
  · have keep : ∀ g cur t, Blk A g cur t → v.ownBlock ≠ some g → W'.heap[g]? = A.heap[g]? := fun g cur t hb hn => gg.block g hb.lt (fun q => hn q.symm)
    refine ⟨he.bc, he.rc, he.m, ?_, ?_⟩
    · rcases he.b with hz | ⟨g, e1, hv, ⟨cur, hb⟩, hc⟩
      · exact .inl hz
      · by_cases hz : e.bn = 0
        · exact .inl hz
        right
        by_cases q : v.ownBlock = some g
        · obtain ⟨u1, u2⟩ := uq g q e1 (by omega)
          have hag : a' = some ⟨g, 0, none⟩ := by
            have q2 : (Value.slice a' (k + 1) c').ownBlock = some g := eo.trans q
            rcases ho.2 with ⟨z1, -⟩ | ⟨g', cc, cur', z1, -⟩
            · cases z1
            · injection z1 with z1
              rw [z1] at q2 ⊢
              have : some g' = some g := q2
              injection this with this
              rw [this]
          subst hag
          refine ⟨g, e1, hv, own_blk ho rfl, fun i hi => ?_⟩
          rw [World.ownsRow.cellAt ho i (by omega), List.getElem?_replicate, if_pos (by omega), u1]
        · refine ⟨g, e1, hv, ⟨cur, (keep g _ _ hb q).trans hb⟩, fun i hi => ?_⟩
          rw [World.cell?_of_block (w := A) (w' := W') (keep g _ _ hb q)]
          exact hc i hi
    · rcases he.r with hz | ⟨g, e1, hv, ⟨cur, hb⟩, hc⟩
      · exact .inl hz
      · right
        have q : v.ownBlock ≠ some g := own_ne_blk hr hb (by decide)
        refine ⟨g, e1, hv, ⟨cur, (keep g _ _ hb q).trans hb⟩, fun i hi => ?_⟩
        rw [World.cell?_of_block (w := A) (w' := W') (keep g _ _ hb q), World.cell?_of_block (w := A) (w' := W') (keep g _ _ hb q)]
        exact hc i hi
  · exact he.kept fun g _ hl => gg.block g hl (by simp)
theorem EOk.appR (he : EOk A V e) (hr : A.ownsRow n0 86 2 v k (mR m k)) (mv : Moved A W' v (.slice a' (k + 1) c')) (ho : W'.ownsRow n0 86 2 (.slice a' (k + 1) c') (k + 1) (mR m (k + 1))) (uq : ∀ g, v.ownBlock = some g → e.ra = some ⟨g, 0, none⟩ → 0 < e.rn → e.m = m ∧ e.rn ≤ k) : EOk W' V e := by
  rcases mv with ⟨eo, gg⟩ | ⟨eo, gg, -⟩
  · have keep : ∀ g cur t, Blk A g cur t → v.ownBlock ≠ some g → W'.heap[g]? = A.heap[g]? := fun g cur t hb hn => gg.block g hb.lt (fun q => hn q.symm)
    refine ⟨he.bc, he.rc, he.m, ?_, ?_⟩
    · rcases he.b with hz | ⟨g, e1, hv, ⟨cur, hb⟩, hc⟩
      · exact .inl hz
      · right
        have q : v.ownBlock ≠ some g := own_ne_blk hr hb (by decide)
        refine ⟨g, e1, hv, ⟨cur, (keep g _ _ hb q).trans hb⟩, fun i hi => ?_⟩
        rw [World.cell?_of_block (w := A) (w' := W') (keep g _ _ hb q)]
        exact hc i hi
    · rcases he.r with hz | ⟨g, e1, hv, ⟨cur, hb⟩, hc⟩
      · exact .inl hz
      · by_cases hz : e.rn = 0
        · exact .inl hz
        right
        by_cases q : v.ownBlock = some g
        · obtain ⟨u1, u2⟩ := uq g q e1 (by omega)
          have hag : a' = some ⟨g, 0, none⟩ := by
            have q2 : (Value.slice a' (k + 1) c').ownBlock = some g := eo.trans q
            rcases ho.2 with ⟨z1, -⟩ | ⟨g', cc, cur', z1, -⟩
            · cases z1
            · injection z1 with z1
              rw [z1] at q2 ⊢
              have : some g' = some g := q2
              injection this with this
              rw [this]
          subst hag
          refine ⟨g, e1, hv, own_blk ho rfl, fun i hi => ?_⟩
          have hg := mR_get m (k + 1) i (by omega)
          rw [World.ownsRow.cellAt ho (i * 2) (by omega), World.ownsRow.cellAt ho (i * 2 + 1) (by omega), u1]
          exact hg
        · refine ⟨g, e1, hv, ⟨cur, (keep g _ _ hb q).trans hb⟩, fun i hi => ?_⟩
          rw [World.cell?_of_block (w := A) (w' := W') (keep g _ _ hb q), World.cell?_of_block (w := A) (w' := W') (keep g _ _ hb q)]
          exact hc i hi
  · exact he.kept fun g _ hl => gg.block g hl (by simp)
end
end Go.Proofs.Ytdalekjpjnhboaa

namespace Go.Proofs.Ytdalekjpjnhboaa
open Go.RowKit
set_option linter.unusedVariables false
set_option maxHeartbeats 1000000
set_option maxRecDepth 100000

theorem Moved.grows {A W : World} {v v' : Value} (h : Moved A W v v') : A.grownBy W v.ownBlock := by
  rcases h with ⟨-, g⟩ | ⟨-, g, -⟩
  · exact g
  · exact ⟨g.os, g.tape, g.output, g.size, fun k hk _ => g.block k hk (by simp)⟩
theorem Moved.keeps {A W : World} {v v' : Value} (h : Moved A W v v') {g : Nat} (hl : g < A.heap.size) (hn : v.ownBlock ≠ some g) : W.heap[g]? = A.heap[g]? := h.grows.block g hl (fun q => hn q.symm)

theorem Blk.neT15 {w : World} {g g' : Nat} {cs cs' : Array Value} {t t' : TypeId} (h : Blk w g cs t) (h' : Blk w g' cs' t') (ht : t ≠ t') : g ≠ g' := by
  rintro rfl
  have := (show w.heap[g]? = _ from h).symm.trans (show w.heap[g]? = _ from h')
  simp at this
  exact ht this.2
/-- While an entry is grown. -/
structure GS (n0 : Nat) (X : World) (ob : Nat) (vl : Value) (rest : List Value) (V : Nat → Prop) (es : List En) (pb m : Nat) (D : Nat → Prop) (vb vr : Value) (bn rn : Nat) (Z : World) : Prop where
  ol : OL n0 Z ob vl rest V es
  bb : Z.ownsRow n0 5 1 vb bn (mB m bn)
  rr : Z.ownsRow n0 86 2 vr rn (mR m rn)
  bp : Blk Z pb #[vb, vr, .int .i64 (m : Int)] 106
  kp : Kp D X Z
  db : ∀ g, vb.ownBlock = some g → D g ∨ X.heap.size ≤ g
  dr : ∀ g, vr.ownBlock = some g → D g ∨ X.heap.size ≤ g
  np : X.heap.size ≤ pb
  nv : ¬ V pb
  nl : vl.ownBlock ≠ some pb
  ub : ∀ e ∈ es, ∀ g, vb.ownBlock = some g → e.ba = some ⟨g, 0, none⟩ → 0 < e.bn → e.m = m ∧ e.bn ≤ bn
  ur : ∀ e ∈ es, ∀ g, vr.ownBlock = some g → e.ra = some ⟨g, 0, none⟩ → 0 < e.rn → e.m = m ∧ e.rn ≤ rn
  n0 : n0 ≤ X.heap.size

section
variable {n0 : Nat} {X Z : World} {ob : Nat} {vl : Value} {rest : List Value} {V : Nat → Prop} {es : List En} {pb m : Nat} {D : Nat → Prop} {vb vr : Value} {bn rn : Nat}

theorem GS.appB (h : GS n0 X ob vl rest V es pb m D vb vr bn rn Z) (hb : bn + 1 ≤ 1000000000) :
    ∃ a' c' W', (Builtin.append_ #[33, 33] 33 #[vb, .slice (some ⟨Z.heap.size, 0, none⟩) 1 1]).run Try.prog (Z.alloc (.cells #[.int .u8 (m : Int)] 5)) = .ok (.slice a' (bn + 1) c') W' ∧ GS n0 X ob vl rest V es pb m D (.slice a' (bn + 1) c') vr (bn + 1) rn (W'.setCell ⟨pb, 0, none⟩ (.slice a' (bn + 1) c')) ∧ W'.frozen? ⟨pb, 0, none⟩ = false ∧ ∃ u, W'.cell? ⟨pb, 0, none⟩ = some u := by
  obtain ⟨i, hi, hz, hs, hby⟩ := info_parts Try.infoB
  have gA := grown_alloc Z (.cells #[.int .u8 (m : Int)] 5)
  have kA : ∀ {g : Nat}, g < Z.heap.size → (Z.alloc (.cells #[.int .u8 (m : Int)] 5)).heap[g]? = Z.heap[g]? := fun hl => gA.block _ hl (by simp)
  have hbA : (Z.alloc (.cells #[.int .u8 (m : Int)] 5)).ownsRow n0 5 1 vb bn (mB m bn) := own_kept h.bb fun g q => kA (h.bb.lt g q).2
  have hrA : (Z.alloc (.cells #[.int .u8 (m : Int)] 5)).ownsRow n0 86 2 vr rn (mR m rn) := own_kept h.rr fun g q => kA (h.rr.lt g q).2
  have hoA := h.ol.grown gA
  have hpA := h.bp.grown gA
  have hsz := h.kp.size
  obtain ⟨a', c', W', hr, ho, mv⟩ := app_moved (P := Try.prog) (Z.alloc (.cells #[.int .u8 (m : Int)] 5)) n0 33 33 5 i _ 1 1 Try.underlying33 hi hz hs hby rfl (by decide) vb bn (mB m bn) hbA ⟨Z.heap.size, 0, none⟩ 1 1 [.int .u8 (m : Int)] rfl (fun j u hj => by
    match j, hj with
    | 0, hj =>
      cases hj
      exact (Blk.new Z #[.int .u8 (m : Int)] 5).cell 0 _ rfl) (by simp [Value.oneCell']) (by omega) (by unfold maxLen; omega) (by omega) (Nat.le_trans h.n0 (Nat.le_trans hsz gA.size))
  have em : mB m bn ++ [.int .u8 (m : Int)] = mB m (bn + 1) := by unfold mB; rw [List.replicate_succ']
  rw [em] at ho
  have nb : ∀ {g : Nat} {cur : Array Value} {t : TypeId}, Blk (Z.alloc (.cells #[.int .u8 (m : Int)] 5)) g cur t → 5 ≠ t → Blk W' g cur t := fun hB ht => (mv.keeps hB.lt (own_ne_blk hbA hB ht)).trans hB
  have hpW := nb hpA (by decide)
  have hbW := nb hoA.blk (by decide)
  have sW := mv.grows.size
  have hoW : OL n0 W' ob vl rest V es := ⟨hbW, own_kept hoA.row fun g q => mv.keeps (hoA.row.lt g q).2 (own_ne hoA.row hbA (by decide) q), fun e he => (hoA.all e he).appB hbA mv ho (h.ub e he), hoA.nb, fun g q => by have := hoA.nV g q; exact ⟨this.1, by omega, this.2.2⟩⟩
  have hne1 : (Value.slice a' (bn + 1) c').ownBlock ≠ some pb := own_ne_blk ho hpW (by decide)
  refine ⟨a', c', W', hr, ⟨hoW.kept (by rw [set_size]; exact Nat.le_refl _) fun g q _ => set_heap _ _ _ _ _ (fun z => ?_), own_kept ho fun g q => set_heap _ _ _ _ _ (fun z => hne1 (z ▸ q)), ?_, ?_, ?_, fun g q => ?_, h.dr, h.np, h.nv, h.nl, fun e he g q1 q2 q3 => ?_, h.ur, h.n0⟩, hpW.thaw 0, _, hpW.cell 0 _ rfl⟩
  · subst z
    rcases q with (q | q) | q
    · subst q
      exact absurd rfl (Blk.neT15 hpW hbW (by decide))
    · exact h.nl q
    · exact h.nv q
  · refine own_kept (own_kept hrA fun g q => mv.keeps (hrA.lt g q).2 (own_ne hrA hbA (by decide) q)) fun g q => set_heap _ _ _ _ _ (fun z => ?_)
    exact own_ne_blk hrA hpA (by decide) (z ▸ q)
  · have := hpW.setC 0 (.slice a' (bn + 1) c')
    exact this
  · exact (kp_own (h.kp.nothing gA) mv.grows h.db).set pb 0 _ (fun q => by have := h.np; omega)
  · rcases mv with ⟨eo, -⟩ | ⟨eo, -⟩
    · exact h.db g (eo ▸ q)
    · rw [q] at eo
      injection eo with eo
      right
      rw [eo, alloc_size]; omega
  · rcases mv with ⟨eo, -⟩ | ⟨eo, -⟩
    · have := h.ub e he g (eo ▸ q1) q2 q3
      exact ⟨this.1, by omega⟩
    · rw [q1] at eo
      injection eo with eo
      rcases (h.ol.all e he).b with hz | ⟨g2, e1, -, ⟨cur, hB⟩, -⟩
      · omega
      · rw [q2] at e1
        injection e1 with e1
        injection e1 with e1
        have := hB.lt
        rw [alloc_size] at eo
        omega
theorem GS.appR (h : GS n0 X ob vl rest V es pb m D vb vr bn rn Z) (hb : rn + 1 ≤ 1000000000) :
    ∃ a' c' W', (Builtin.append_ #[34, 34] 34 #[vr, .slice (some ⟨Z.heap.size, 0, none⟩) 1 1]).run Try.prog (Z.alloc (.cells #[.int .i64 (m : Int), .int .i64 (-1)] 86)) = .ok (.slice a' (rn + 1) c') W' ∧ GS n0 X ob vl rest V es pb m D vb (.slice a' (rn + 1) c') bn (rn + 1) (W'.setCell ⟨pb, 1, none⟩ (.slice a' (rn + 1) c')) ∧ W'.frozen? ⟨pb, 1, none⟩ = false ∧ ∃ u, W'.cell? ⟨pb, 1, none⟩ = some u := by
  obtain ⟨i, hi, hz, hs, hby⟩ := info_parts Try.infoS
  have gA := grown_alloc Z (.cells #[.int .i64 (m : Int), .int .i64 (-1)] 86)
  have kA : ∀ {g : Nat}, g < Z.heap.size → (Z.alloc (.cells #[.int .i64 (m : Int), .int .i64 (-1)] 86)).heap[g]? = Z.heap[g]? := fun hl => gA.block _ hl (by simp)
  have hbA : (Z.alloc (.cells #[.int .i64 (m : Int), .int .i64 (-1)] 86)).ownsRow n0 5 1 vb bn (mB m bn) := own_kept h.bb fun g q => kA (h.bb.lt g q).2
  have hrA : (Z.alloc (.cells #[.int .i64 (m : Int), .int .i64 (-1)] 86)).ownsRow n0 86 2 vr rn (mR m rn) := own_kept h.rr fun g q => kA (h.rr.lt g q).2
  have hoA := h.ol.grown gA
  have hpA := h.bp.grown gA
  have hsz := h.kp.size
  obtain ⟨a', c', W', hr, ho, mv⟩ := app_moved (P := Try.prog) (Z.alloc (.cells #[.int .i64 (m : Int), .int .i64 (-1)] 86)) n0 34 34 86 i _ 2 16 Try.underlying34 hi hz hs hby rfl (by decide) vr rn (mR m rn) hrA ⟨Z.heap.size, 0, none⟩ 1 1 [.int .i64 (m : Int), .int .i64 (-1)] rfl (fun j u hj => by
    have hB := Blk.new Z #[.int .i64 (m : Int), .int .i64 (-1)] 86
    have := hB.cell j u (by
      match j, hj with
      | 0, hj => exact hj
      | 1, hj => exact hj)
    simpa only [Addr.add_lit, Nat.zero_add] using this) (by simp [Value.oneCell']) (by omega) (by unfold maxLen; omega) (by omega) (Nat.le_trans h.n0 (Nat.le_trans hsz gA.size))
  rw [mR_succ] at ho
  have nb : ∀ {g : Nat} {cur : Array Value} {t : TypeId}, Blk (Z.alloc (.cells #[.int .i64 (m : Int), .int .i64 (-1)] 86)) g cur t → 86 ≠ t → Blk W' g cur t := fun hB ht => (mv.keeps hB.lt (own_ne_blk hrA hB ht)).trans hB
  have hpW := nb hpA (by decide)
  have hbW := nb hoA.blk (by decide)
  have sW := mv.grows.size
  have hoW : OL n0 W' ob vl rest V es := ⟨hbW, own_kept hoA.row fun g q => mv.keeps (hoA.row.lt g q).2 (own_ne hoA.row hrA (by decide) q), fun e he => (hoA.all e he).appR hrA mv ho (h.ur e he), hoA.nb, fun g q => by have := hoA.nV g q; exact ⟨this.1, by omega, this.2.2⟩⟩
  have hne1 : (Value.slice a' (rn + 1) c').ownBlock ≠ some pb := own_ne_blk ho hpW (by decide)
  refine ⟨a', c', W', hr, ⟨hoW.kept (by rw [set_size]; exact Nat.le_refl _) fun g q _ => set_heap _ _ _ _ _ (fun z => ?_), ?_, own_kept ho fun g q => set_heap _ _ _ _ _ (fun z => hne1 (z ▸ q)), ?_, ?_, h.db, fun g q => ?_, h.np, h.nv, h.nl, h.ub, fun e he g q1 q2 q3 => ?_, h.n0⟩, hpW.thaw 1, _, hpW.cell 1 _ rfl⟩
  · subst z
    rcases q with (q | q) | q
    · subst q
      exact absurd rfl (Blk.neT15 hpW hbW (by decide))
    · exact h.nl q
    · exact h.nv q
  · refine own_kept (own_kept hbA fun g q => mv.keeps (hbA.lt g q).2 (own_ne hbA hrA (by decide) q)) fun g q => set_heap _ _ _ _ _ (fun z => ?_)
    exact own_ne_blk hbA hpA (by decide) (z ▸ q)
  · have := hpW.setC 1 (.slice a' (rn + 1) c')
    exact this
  · exact (kp_own (h.kp.nothing gA) mv.grows h.dr).set pb 1 _ (fun q => by have := h.np; omega)
  · rcases mv with ⟨eo, -⟩ | ⟨eo, -⟩
    · exact h.dr g (eo ▸ q)
    · rw [q] at eo
      injection eo with eo
      right
      rw [eo, alloc_size]; omega
  · rcases mv with ⟨eo, -⟩ | ⟨eo, -⟩
    · have := h.ur e he g (eo ▸ q1) q2 q3
      exact ⟨this.1, by omega⟩
    · rw [q1] at eo
      injection eo with eo
      rcases (h.ol.all e he).r with hz | ⟨g2, e1, -, ⟨cur, hB⟩, -⟩
      · omega
      · rw [q2] at e1
        injection e1 with e1
        injection e1 with e1
        have := hB.lt
        rw [alloc_size] at eo
        omega
end
end Go.Proofs.Ytdalekjpjnhboaa

namespace Go.Proofs.Ytdalekjpjnhboaa
open Go.RowKit
set_option linter.unusedVariables false
set_option linter.unusedSimpArgs false
set_option maxHeartbeats 4000000
set_option maxRecDepth 100000

abbrev En.vb (e : En) : Value := .slice e.ba e.bn e.bc
abbrev En.vr (e : En) : Value := .slice e.ra e.rn e.rc
/-- An entry that is still to be grown. -/
structure TD (n0 : Nat) (Z : World) (es : List En) (e : En) : Prop where
  bb : Z.ownsRow n0 5 1 e.vb e.bn (mB e.m e.bn)
  rr : Z.ownsRow n0 86 2 e.vr e.rn (mR e.m e.rn)
  ub : ∀ f ∈ es, ∀ g, e.vb.ownBlock = some g → f.ba = some ⟨g, 0, none⟩ → 0 < f.bn → f.m = e.m ∧ f.bn ≤ e.bn
  ur : ∀ f ∈ es, ∀ g, e.vr.ownBlock = some g → f.ra = some ⟨g, 0, none⟩ → 0 < f.rn → f.m = e.m ∧ f.rn ≤ e.rn
def apartE (e f : En) : Prop := (∀ g, e.vb.ownBlock = some g → f.vb.ownBlock ≠ some g) ∧ (∀ g, e.vr.ownBlock = some g → f.vr.ownBlock ≠ some g)

/-- Between two entries. -/
structure OG (n0 : Nat) (X : World) (ob : Nat) (rest : List Value) (es : List En) (todo : List En) (D : Nat → Prop) (vl : Value) (V : Nat → Prop) (gs : List En) (Z : World) : Prop where
  ol : OL n0 Z ob vl rest V (es ++ gs)
  td : ∀ e ∈ todo, TD n0 Z (es ++ gs) e
  pw : todo.Pairwise apartE
  kp : Kp D X Z
  d0 : ∀ g, Om ob vl g → D g ∨ X.heap.size ≤ g
  d1 : ∀ e ∈ todo, ∀ g, (e.vb.ownBlock = some g ∨ e.vr.ownBlock = some g) → D g
  n0 : n0 ≤ X.heap.size
  sz : ∀ e ∈ gs, e.bn ≤ 1000000000 ∧ e.rn ≤ 1000000000
  vv : ∀ g, V g → D g ∨ X.heap.size ≤ g

section
variable {n0 : Nat} {X Z : World} {ob : Nat} {vl : Value} {rest : List Value} {V : Nat → Prop} {es gs todo : List En} {D : Nat → Prop} {e : En}

/-- An entry's growing begins. -/
theorem OG.begin (h : OG n0 X ob rest es (e :: todo) D vl V gs Z) : GS n0 Z ob vl rest V (es ++ gs) Z.heap.size e.m (fun g => e.vb.ownBlock = some g ∨ e.vr.ownBlock = some g) e.vb e.vr e.bn e.rn (Z.alloc (.cells (ena e) 106)) := by
  have gA := grown_alloc Z (.cells (ena e) 106)
  have ht := h.td e List.mem_cons_self
  exact ⟨h.ol.grown gA, own_kept ht.bb fun g q => gA.block g (ht.bb.lt g q).2 (by simp), own_kept ht.rr fun g q => gA.block g (ht.rr.lt g q).2 (by simp), Blk.new _ _ _, Kp.grown gA _, fun g q => .inl (.inl q), fun g q => .inl (.inr q), Nat.le_refl _, fun q => by have := (h.ol.nV _ q).2.1; omega, fun q => by have := (h.ol.row.lt _ q).2; omega, ht.ub, ht.ur, Nat.le_trans h.n0 h.kp.size⟩
/-- It ends: the grown entry goes onto the list. -/
theorem OG.done {W : World} {vb vr : Value} {ba bc ra rc : Nat} {aa ab : Option Addr} (h : OG n0 X ob rest es (e :: todo) D vl V gs Z) (hG : GS n0 Z ob vl rest V (es ++ gs) Z.heap.size e.m (fun g => e.vb.ownBlock = some g ∨ e.vr.ownBlock = some g) (.slice aa ba bc) (.slice ab ra rc) ba ra W) (hm : 20 ≤ e.m ∧ e.m ≤ 219) (hb : (es ++ gs).length + 1 ≤ 1000000000) (hba : ba ≤ 1000000000 ∧ ra ≤ 1000000000) :
    ∃ a' c' W', (Builtin.append_ #[32, 32] 32 #[vl, .slice (some ⟨W.heap.size, 0, none⟩) 1 1]).run Try.prog (W.drew.alloc (.cells #[.slice aa ba bc, .slice ab ra rc, .int .i64 (e.m : Int)] 106)) = .ok (.slice a' ((es ++ gs).length + 1) c') W' ∧ W'.frozen? ⟨ob, 0, none⟩ = false ∧ (∃ u, W'.cell? ⟨ob, 0, none⟩ = some u) ∧ (∀ g, g ≠ ob → vl.ownBlock ≠ some g → g < W.heap.size → W'.heap[g]? = W.heap[g]?) ∧ ∃ V', OG n0 X ob rest es todo D (.slice a' ((es ++ gs).length + 1) c') V' (gs ++ [⟨aa, ba, bc, ab, ra, rc, e.m⟩]) (W'.setCell ⟨ob, 0, none⟩ (.slice a' ((es ++ gs).length + 1) c')) := by
  have gd : W.grownBy W.drew none := grown_drew' (World.grownBy.refl W none)
  have hoD := hG.ol.grown gd
  have hbD : W.drew.ownsRow n0 5 1 (.slice aa ba bc) ba (mB e.m ba) := hG.bb
  have hrD : W.drew.ownsRow n0 86 2 (.slice ab ra rc) ra (mR e.m ra) := hG.rr
  have hzW := hG.kp.size
  have hXZ := h.kp.size
  have hE : EOk W.drew (fun g => V g ∨ (Value.slice aa ba bc).ownBlock = some g ∨ (Value.slice ab ra rc).ownBlock = some g) ⟨aa, ba, bc, ab, ra, rc, e.m⟩ := by
    obtain ⟨x1, x2, x3, x4, x5, x6⟩ := own_shape hbD
    obtain ⟨y1, y2, y3, y4, y5, y6⟩ := own_shape hrD
    injection x3 with i1 i2 i3
    injection y3 with j1 j2 j3
    subst i1 i3 j1 j3
    refine ⟨⟨x4, x5⟩, ⟨y4, y5⟩, hm, ?_, ?_⟩
    · rcases x6 with hz | ⟨g, rfl⟩
      · exact .inl hz
      · exact .inr ⟨g, rfl, .inr (.inl rfl), own_blk hbD rfl, fun i hi => by rw [World.ownsRow.cellAt hbD i (by simp only at hi; omega), List.getElem?_replicate, if_pos hi]⟩
    · rcases y6 with hz | ⟨g, rfl⟩
      · exact .inl hz
      · refine .inr ⟨g, rfl, .inr (.inr rfl), own_blk hrD rfl, fun i hi => ?_⟩
        have hi' : i < ra := hi
        have hg := mR_get e.m ra i hi'
        exact ⟨(World.ownsRow.cellAt hrD (i * 2) (by omega)).trans hg.1, (World.ownsRow.cellAt hrD (i * 2 + 1) (by omega)).trans hg.2⟩
  have hV' : ∀ g, (V g ∨ (Value.slice aa ba bc).ownBlock = some g ∨ (Value.slice ab ra rc).ownBlock = some g) → n0 ≤ g ∧ g < W.drew.heap.size ∧ g ≠ ob ∧ vl.ownBlock ≠ some g := fun g q => by
    rcases q with q | q | q
    · exact hoD.nV g q
    · exact ⟨(hbD.lt g q).1, (hbD.lt g q).2, fun z => own_ne_blk hbD hoD.blk (by decide) (z ▸ q), own_ne hbD hoD.row (by decide) q⟩
    · exact ⟨(hrD.lt g q).1, (hrD.lt g q).2, fun z => own_ne_blk hrD hoD.blk (by decide) (z ▸ q), own_ne hrD hoD.row (by decide) q⟩
  obtain ⟨a', c', W', hr, h2, fz, hu, k2, o2⟩ := hoD.push (Nat.le_trans h.n0 (Nat.le_trans hXZ hzW)) ⟨aa, ba, bc, ab, ra, rc, e.m⟩ _ (fun g q => .inl q) hE hV' hb
  have keepF : ∀ g, g ≠ ob → vl.ownBlock ≠ some g → g < W.heap.size → (W'.setCell ⟨ob, 0, none⟩ (.slice a' ((es ++ gs).length + 1) c')).heap[g]? = W.heap[g]? := fun g z1 z2 z3 => k2.block g z3 (fun q => by
    rcases q with q | q
    · exact z1 q
    · exact z2 q)
  have keepW : ∀ g, g ≠ ob → vl.ownBlock ≠ some g → g < W.heap.size → W'.heap[g]? = W.heap[g]? := fun g z1 z2 z3 => by
    rw [← keepF g z1 z2 z3, set_heap _ _ _ _ _ z1]
  have he := h.td e List.mem_cons_self
  obtain ⟨pw1, pw2⟩ := List.pairwise_cons.1 h.pw
  refine ⟨a', c', W', hr, fz, hu, keepW, _, ⟨by rw [← List.append_assoc]; exact h2, fun f hf => ?_, pw2, ?_, fun g q => ?_, fun f hf => h.d1 f (List.mem_cons_of_mem _ hf), h.n0, fun f hf => ?_, fun g q => ?_⟩⟩
  · have tf := h.td f (List.mem_cons_of_mem _ hf)
    have ap := pw1 f hf
    have kb : ∀ g, f.vb.ownBlock = some g → W.heap[g]? = Z.heap[g]? := fun g q => hG.kp.block g (tf.bb.lt g q).2 (fun z => by
      rcases z with z | z
      · exact ap.1 g z q
      · exact own_ne he.rr tf.bb (by decide) z q)
    have kr : ∀ g, f.vr.ownBlock = some g → W.heap[g]? = Z.heap[g]? := fun g q => hG.kp.block g (tf.rr.lt g q).2 (fun z => by
      rcases z with z | z
      · exact own_ne he.bb tf.rr (by decide) z q
      · exact ap.2 g z q)
    have bW := own_kept tf.bb kb
    have rW := own_kept tf.rr kr
    refine ⟨own_kept bW fun g q => keepF g (fun z => own_ne_blk bW hG.ol.blk (by decide) (z ▸ q)) (own_ne bW hG.ol.row (by decide) q) (bW.lt g q).2, own_kept rW fun g q => keepF g (fun z => own_ne_blk rW hG.ol.blk (by decide) (z ▸ q)) (own_ne rW hG.ol.row (by decide) q) (rW.lt g q).2, fun f' hf' g q1 q2 q3 => ?_, fun f' hf' g q1 q2 q3 => ?_⟩
    · rw [← List.append_assoc] at hf'
      rcases List.mem_append.1 hf' with hf' | hf'
      · exact tf.ub f' hf' g q1 q2 q3
      · simp only [List.mem_singleton] at hf'
        subst hf'
        exfalso
        have q2' : aa = some ⟨g, 0, none⟩ := q2
        have hq : (Value.slice aa ba bc).ownBlock = some g := by rw [q2']; rfl
        rcases hG.db g hq with z | z
        · rcases z with z | z
          · exact ap.1 g z q1
          · exact own_ne he.rr tf.bb (by decide) z q1
        · have := (tf.bb.lt g q1).2; omega
    · rw [← List.append_assoc] at hf'
      rcases List.mem_append.1 hf' with hf' | hf'
      · exact tf.ur f' hf' g q1 q2 q3
      · simp only [List.mem_singleton] at hf'
        subst hf'
        exfalso
        have q2' : ab = some ⟨g, 0, none⟩ := q2
        have hq : (Value.slice ab ra rc).ownBlock = some g := by rw [q2']; rfl
        rcases hG.dr g hq with z | z
        · rcases z with z | z
          · exact own_ne he.bb tf.rr (by decide) z q1
          · exact ap.2 g z q1
        · have := (tf.rr.lt g q1).2; omega
  · have k1 : Kp D X W := h.kp.then hG.kp (fun g hg q => h.d1 e List.mem_cons_self g q)
    refine ⟨k2.os.trans (k1.os), k2.tape.trans k1.tape, k2.output.trans k1.output, Nat.le_trans k1.size k2.size, fun g hg hn => ?_⟩
    rw [k2.block g (Nat.lt_of_lt_of_le hg k1.size) (fun q => hn ((h.d0 g q).resolve_right (by omega)))]
    exact k1.block g hg hn
  · rcases q with q | q
    · exact h.d0 g (.inl q)
    · rcases o2 with o2 | o2
      · exact h.d0 g (.inr (o2 ▸ q))
      · have : W.heap.size ≤ g := o2 g q
        right; omega
  · rcases List.mem_append.1 hf with hf | hf
    · exact h.sz f hf
    · simp only [List.mem_singleton] at hf
      subst hf
      exact hba
  · rcases q with q | q | q
    · exact h.vv g q
    · rcases hG.db g q with z | z
      · exact .inl (h.d1 e List.mem_cons_self g z)
      · right; omega
    · rcases hG.dr g q with z | z
      · exact .inl (h.d1 e List.mem_cons_self g z)
      · right; omega
end
end Go.Proofs.Ytdalekjpjnhboaa

namespace Go.Proofs.Ytdalekjpjnhboaa
open Go.RowKit
set_option linter.unusedVariables false
set_option linter.unusedSimpArgs false
set_option maxHeartbeats 4000000
set_option maxRecDepth 100000

/-- What grow leaves. -/
def GrowP (n0 : Nat) (X : World) (ob : Nat) (rest : List Value) (es : List En) (D : Nat → Prop) (n : Nat) (Y : World) : Prop := ∃ vl' V' gs, OG n0 X ob rest es [] D vl' V' gs Y ∧ gs.length = n

/-- The inner walk's relation. -/
def GJ (n0 : Nat) (Z : World) (ob g cc0 pb : Nat) (rest : List Value) (V : Nat → Prop) (es : List En) (e : En) (j : Nat) (W : World) : Prop := ∃ aa bc ab rc, GS n0 Z ob (.slice (some ⟨g, 0, none⟩) es.length cc0) rest V es pb e.m (fun g => e.vb.ownBlock = some g ∨ e.vr.ownBlock = some g) (.slice aa (e.bn + j) bc) (.slice ab (e.rn + j) rc) (e.bn + j) (e.rn + j) W

section
variable {n0 : Nat} {X Z : World} {ob : Nat} {vl : Value} {rest : List Value} {V : Nat → Prop} {es es0 todo : List En} {D : Nat → Prop}

theorem grow_any (h : OG n0 X ob rest es todo D vl V [] X) (hes : es = es0 ++ todo) (hsz : ∀ e ∈ todo, e.bn ≤ 1000000 ∧ e.rn ≤ 1000000) (hlen : es.length ≤ 100000000) :
    Calls Try.prog 38 #[ptr ob, .int .i64 (es0.length : Int)] X fun e Y => e = .returned (.tuple #[]) ∧ GrowP n0 X ob rest es D todo.length Y := by
  obtain ⟨la, lc, rfl, hl1, hl2, -⟩ := h.ol.at
  have c0 := h.ol.cell0
  rw [List.append_nil] at c0
  have I0 : Hid (OG n0 X ob rest es (todo.drop 0) D (.slice la (es ++ []).length lc) V [] X) := h
  have hN : es.length = es0.length + todo.length := by rw [hes]; simp
  have HES := hide hes
  have HSZ := hide hsz
  clear h hes hsz
  generalize hf : es0.length = fr at *
  have HF := hide hf
  generalize ht : todo.length = tn at *
  have HT := hide ht
  clear hf ht
  obtain ⟨N, hNN⟩ : ∃ N, N = es.length := ⟨_, rfl⟩
  rw [← hNN] at c0 hN hlen
  have HNN := hide hNN
  have HN := hide hN
  clear hNN hN
  go_enter Try.func38, Try.ntmps38
  go_wp2
  clear c0
  go_loopw [5] (fun i Z => ∃ (k : Nat) (vl : Value) (V : Nat → Prop) (gs : List En), k ≤ tn ∧ i = .int .i64 ((fr + k : Nat) : Int) ∧ Hid (OG n0 X ob rest es (todo.drop k) D vl V gs Z ∧ gs.length = k)) (fun i _ => N + 1 - (intOf i).toNat)
  case atStart => exact ⟨0, _, V, [], Nat.zero_le _, rfl, unhide I0, rfl⟩
  case round =>
    clear I0
    obtain ⟨k, vl, V, gs, hk, rfl, I⟩ := hrel
    obtain ⟨Z, hZ⟩ : ∃ Z, Z = wr := ⟨_, rfl⟩
    subst hZ
    obtain ⟨i, hi⟩ : ∃ i, i = fr + k := ⟨_, rfl⟩
    rw [← hi]
    obtain ⟨hI, hgl⟩ := unhide I
    have hN := unhide HN
    have hkb : k ≤ 100000000 := by omega
    by_cases hlt : k < tn
    · obtain ⟨e, he⟩ : ∃ e, todo[k]? = some e := ⟨_, List.getElem?_eq_getElem (by rw [unhide HT]; exact hlt)⟩
      have hem : e ∈ todo := List.mem_of_getElem? he
      have hdr : todo.drop k = e :: todo.drop (k + 1) := by
        rw [List.drop_eq_getElem_cons (by rw [unhide HT]; exact hlt)]
        congr 1
        rw [List.getElem?_eq_getElem (by rw [unhide HT]; exact hlt)] at he
        injection he
      rw [hdr] at hI
      have hix : (es ++ gs)[i]? = some e := by
        rw [List.getElem?_append_left (by rw [← unhide HNN]; omega), unhide HES, List.getElem?_append_right (by rw [unhide HF]; omega), unhide HF, hi, show fr + k - fr = k by omega]
        exact he
      obtain ⟨a0, cc0, rfl, hc1, hc2, hrow⟩ := hI.ol.at
      obtain ⟨g, rfl, hcs⟩ := hrow.resolve_left (fun z => by rw [z] at hix; simp at hix)
      obtain ⟨r0, r1, r2⟩ := hcs i e hix
      have hLN : (es ++ gs).length = N + k := by rw [List.length_append, hgl, ← unhide HNN]
      have c0 := hI.ol.cell0
      rw [hLN] at c0
      have hEe := hI.ol.all e (List.mem_of_getElem? hix)
      have hmm := hEe.m
      have hse := unhide HSZ e hem
      have GB := hide hI.begin
      obtain ⟨Z1, hZ1⟩ : ∃ Z1, Z1 = Z.alloc (.cells (ena e) 106) := ⟨_, rfl⟩
      rw [← hZ1] at GB
      have HI := hide hI
      have hin : (i : Int) < (N : Int) := by omega
      have hi0 : (0 : Int) ≤ (i : Int) := by omega
      have hiL : (i : Int) < ((N + k : Nat) : Int) := by omega
      have hiL2 : (i : Int) < (N : Int) + (k : Int) := by omega
      have hiL3 : i < N + k := by omega
      have HLT := hide hlt
      have HII := hide hi
      unfold ena at hZ1
      clear hI I hrow hcs hix hdr he hem hEe hlt hk hi hN
      go_upto_region 5 with fail
      rw [← hZ1]
      clear hZ1 r0 r1 r2 c0
      have GB0 : Hid (GJ n0 Z ob g cc0 Z.heap.size rest V (es ++ gs) e 0 Z1) := ⟨_, _, _, _, unhide GB⟩
      clear GB
      obtain ⟨pb, hpb⟩ : ∃ pb, pb = Z.heap.size := ⟨_, rfl⟩
      rw [← hpb] at GB0 ⊢
      have HPB := hide hpb
      clear hpb
      go_wp2
      go_loopw [7] (fun i W => ∃ j : Nat, j ≤ 70 ∧ i = .int .i64 (j : Int) ∧ Hid (GJ n0 Z ob g cc0 pb rest V (es ++ gs) e j W)) (fun i _ => 71 - (intOf i).toNat)
      case atStart => exact ⟨0, Nat.zero_le _, rfl, GB0⟩
      case round =>
        clear GB0
        obtain ⟨j, hj, rfl, J⟩ := hrel
        obtain ⟨W, hW⟩ : ∃ W, W = wr := ⟨_, rfl⟩
        subst hW
        obtain ⟨aa, bc, ab, rc, hG⟩ := unhide J
        by_cases hjl : j < 70
        · obtain ⟨a1, c1, W1, hap1, hG1, fz1, u1, hu1⟩ := hG.appB (by omega)
          obtain ⟨Wb, hWb⟩ : ∃ Wb, Wb = W1.setCell ⟨pb, 0, none⟩ (.slice a1 (e.bn + j + 1) c1) := ⟨_, rfl⟩
          rw [← hWb] at hG1
          obtain ⟨a2, c2, W2, hap2, hG2, fz2, u2, hu2⟩ := hG1.appR (by omega)
          have p0 : W.cell? ⟨pb, 0, none⟩ = some (.slice aa (e.bn + j) bc) := hG.bp.cell 0 _ rfl
          have p2 : W.cell? ⟨pb, 2, none⟩ = some (.int .i64 (e.m : Int)) := hG.bp.cell 2 _ rfl
          have q1 : Wb.cell? ⟨pb, 1, none⟩ = some (.slice ab (e.rn + j) rc) := hG1.bp.cell 1 _ rfl
          have q2 : Wb.cell? ⟨pb, 2, none⟩ = some (.int .i64 (e.m : Int)) := hG1.bp.cell 2 _ rfl
          have NX : Hid (GJ n0 Z ob g cc0 pb rest V (es ++ gs) e (j + 1) (W2.setCell ⟨pb, 1, none⟩ (.slice a2 (e.rn + j + 1) c2))) := ⟨_, _, _, _, hG2⟩
          have wu : IntKind.u8.wrap (e.m : Int) = (e.m : Int) := by rw [IntKind.wrap_u8]; omega
          have hj70 : (j : Int) < 70 := by omega
          have HA1 := hide hap1
          have HA2 := hide hap2
          have HWb := hide hWb
          have HJL := hide hjl
          clear hG hG1 hG2 J hap1 hap2 hWb hj hjl
          go_upto_region 9 with (at_builtin; refine wpList_append_run _ rfl _ _ 33 33 rfl _ _ rfl rfl (unhide HA1) ?_)
          rw [← unhide HWb]
          clear p0 p2 fz1 hu1 HA1
          go_wp2_with (at_builtin; refine wpList_append_run _ rfl _ _ 34 34 rfl _ _ rfl rfl (unhide HA2) ?_)
          exact ⟨⟨j + 1, unhide HJL, by go_num, NX⟩, by simp [intOf]; have := unhide HJL; omega⟩
        · obtain rfl : j = 70 := by omega
          obtain ⟨a1, c1, W1, hap, fz, ⟨u1, hu1⟩, keepW, V2, hOG⟩ := (unhide HI).done (vb := e.vb) (vr := e.vr) (by rw [← unhide HPB]; exact hG) hmm (by rw [hLN]; omega) (by omega)
          rw [hLN] at hap hOG
          have hpl : pb < W.heap.size := hG.bp.lt
          have hpo : pb ≠ ob := Blk.neT15 hG.bp hG.ol.blk (by decide)
          have hop := hpo.symm
          have p0 : W.cell? ⟨pb, 0, none⟩ = some (.slice aa (e.bn + 70) bc) := hG.bp.cell 0 _ rfl
          have p1 : W.cell? ⟨pb, 1, none⟩ = some (.slice ab (e.rn + 70) rc) := hG.bp.cell 1 _ rfl
          have p2 : W.cell? ⟨pb, 2, none⟩ = some (.int .i64 (e.m : Int)) := hG.bp.cell 2 _ rfl
          have bA := hG.bp.grown (grown_trans (grown_drew' (World.grownBy.refl W none)) (grown_alloc W.drew (.cells #[.slice aa (e.bn + 70) bc, .slice ab (e.rn + 70) rc, .int .i64 (e.m : Int)] 106)))
          have bW : Blk W1 pb #[.slice aa (e.bn + 70) bc, .slice ab (e.rn + 70) rc, .int .i64 (e.m : Int)] 106 := (keepW pb hpo hG.nl hpl).trans hG.bp
          have bF := bW.setO ob 0 (.slice a1 (N + k + 1) c1) hop
          have sA := And.intro (bA.cell 0 _ rfl) (And.intro (bA.cell 1 _ rfl) (bA.cell 2 _ rfl))
          have sW := And.intro (bW.cell 0 _ rfl) (And.intro (bW.cell 1 _ rfl) (bW.cell 2 _ rfl))
          have sF := And.intro (bF.cell 0 _ rfl) (And.intro (bF.cell 1 _ rfl) (bF.cell 2 _ rfl))
          have z0 : W.cell? ⟨ob, 0, none⟩ = some (.slice (some ⟨g, 0, none⟩) (N + k) cc0) := by have := hG.ol.cell0; rw [hLN] at this; exact this
          have z0A : (W.drew.alloc (.cells #[.slice aa (e.bn + 70) bc, .slice ab (e.rn + 70) rc, .int .i64 (e.m : Int)] 106)).cell? ⟨ob, 0, none⟩ = some (.slice (some ⟨g, 0, none⟩) (N + k) cc0) := cell_grown z0 (grown_trans (grown_drew' (World.grownBy.refl W none)) (grown_alloc W.drew _))
          have z0B : (W.alloc (.cells #[.slice aa (e.bn + 70) bc, .slice ab (e.rn + 70) rc, .int .i64 (e.m : Int)] 106)).cell? ⟨ob, 0, none⟩ = some (.slice (some ⟨g, 0, none⟩) (N + k) cc0) := z0A
          have NX : Hid (OG n0 X ob rest es (todo.drop (k + 1)) D (.slice a1 (N + k + 1) c1) V2 (gs ++ [En.mk aa (e.bn + 70) bc ab (e.rn + 70) rc e.m]) (W1.setCell ⟨ob, 0, none⟩ (.slice a1 (N + k + 1) c1)) ∧ (gs ++ [En.mk aa (e.bn + 70) bc ab (e.rn + 70) rc e.m]).length = k + 1) := ⟨hOG, by simp [hgl]⟩
          have hno : ¬ (70 : Int) < 70 := by omega
          have PS := And.intro p0 (And.intro p1 p2)
          clear hG J hOG bA bW bF keepW hj hjl
          go_upto_region 10 with fail
          refine wp_region_held_drew (S := fun Q => Q.cell? ⟨pb, 0, none⟩ = some (.slice aa (e.bn + 70) bc) ∧ Q.cell? ⟨pb, 1, none⟩ = some (.slice ab (e.rn + 70) rc) ∧ Q.cell? ⟨pb, 2, none⟩ = some (.int .i64 (e.m : Int))) (by kernel_rfl) PS (fun hHeld => ?_)
          refine wpAnyH_take (i := 0) (v := ?_) rfl (by as_aux_lemma => kernel_rfl) (by as_aux_lemma => kernel_rfl) (by as_aux_lemma => kernel_rfl) (fun _ _ _ h => h) (Or.inl ⟨by rfl, ?_⟩) (by assumption) ?_
          rotate_left
          · intro wH hSw
            try dsimp only at hSw
            obtain ⟨s0q, s1q, s2q⟩ := hSw
            go_simp
            try with_reducible rfl
          try simp only [Act.put, List.setIfInBounds_toArray, List.set_cons_zero, List.set_cons_succ]
          refine wpAnyH_take (i := 1) (v := ?_) rfl (by as_aux_lemma => kernel_rfl) (by as_aux_lemma => kernel_rfl) (by as_aux_lemma => kernel_rfl) (fun _ _ _ h => h) (Or.inl ⟨by rfl, ?_⟩) (by assumption) ?_
          rotate_left
          · intro wH hSw
            try dsimp only at hSw
            obtain ⟨s0q, s1q, s2q⟩ := hSw
            go_simp
            try with_reducible rfl
          try simp only [Act.put, List.setIfInBounds_toArray, List.set_cons_zero, List.set_cons_succ]
          refine wpAnyH_take (i := 2) (v := ?_) rfl (by as_aux_lemma => kernel_rfl) (by as_aux_lemma => kernel_rfl) (by as_aux_lemma => kernel_rfl) (fun _ _ _ h => h) (Or.inl ⟨by rfl, ?_⟩) (by assumption) ?_
          rotate_left
          · intro wH hSw
            try dsimp only at hSw
            obtain ⟨s0q, s1q, s2q⟩ := hSw
            go_simp
            try with_reducible rfl
          try simp only [Act.put, List.setIfInBounds_toArray, List.set_cons_zero, List.set_cons_succ]
          refine wpAnyH_take (i := 3) (v := ?_) rfl (by as_aux_lemma => kernel_rfl) (by as_aux_lemma => kernel_rfl) (by as_aux_lemma => kernel_rfl) (fun _ _ _ h => h) (Or.inl ⟨by rfl, ?_⟩) (by assumption) ?_
          rotate_left
          · intro wH hSw
            try dsimp only at hSw
            obtain ⟨s0q, s1q, s2q⟩ := hSw
            go_simp
            try with_reducible rfl
          try simp only [Act.put, List.setIfInBounds_toArray, List.set_cons_zero, List.set_cons_succ]
          refine wpAnyH_take (i := 5) (v := ?_) rfl (by as_aux_lemma => kernel_rfl) (by as_aux_lemma => kernel_rfl) (by as_aux_lemma => kernel_rfl) (fun _ _ _ h => h) (Or.inl ⟨by rfl, ?_⟩) (by assumption) ?_
          rotate_left
          · intro wH hSw
            try dsimp only at hSw
            obtain ⟨s0q, s1q, s2q⟩ := hSw
            go_simp
            try with_reducible rfl
          try simp only [Act.put, List.setIfInBounds_toArray, List.set_cons_zero, List.set_cons_succ]
          refine wpAnyH_ready (rs := [4, 6]) (by as_aux_lemma => kernel_rfl) (by simp) ?_
          refine AllReadyH.cons rfl (fun KH hKH => ?_) (AllReadyH.cons rfl (fun KH hKH => ?_) AllReadyH.nil)
          · go_simp
            refine hKH.out _ _ PS (fun hHeld4 => ?_)
            clear hKH KH
            try simp only [Act.put, List.setIfInBounds_toArray, List.set_cons_zero, List.set_cons_succ]
            refine wpAnyH_ready (rs := [6]) (by as_aux_lemma => kernel_rfl) (by simp) ?_
            refine AllReadyH.cons rfl (fun KH hKH => ?_) AllReadyH.nil
            go_simp
            refine hKH.out _ _ sA (fun hHeld6 => ?_)
            clear hKH KH
            try simp only [Act.put, List.setIfInBounds_toArray, List.set_cons_zero, List.set_cons_succ]
            refine wpAnyH_ready (rs := [7]) (by as_aux_lemma => kernel_rfl) (by simp) ?_
            refine AllReadyH.cons rfl (fun KH hKH => ?_) AllReadyH.nil
            refine step_append_run rfl (Operand.tmp 50) (Operand.tmp 52) 32 32 rfl (.slice (some ⟨g, 0, none⟩) (N + k) cc0) (.slice (some ⟨W.heap.size, 0, none⟩) 1 1) rfl rfl hap ?_
            refine hKH.out _ _ sW (fun hHeld7 => ?_)
            clear hKH KH
            try simp only [Act.put, List.setIfInBounds_toArray, List.set_cons_zero, List.set_cons_succ]
            refine wpAnyH_ready (rs := [8]) (by as_aux_lemma => kernel_rfl) (by simp) ?_
            refine AllReadyH.cons rfl (fun KH hKH => ?_) AllReadyH.nil
            go_simp
            refine hKH.out _ _ sW (fun hHeld8 => ?_)
            clear hKH KH
            try simp only [Act.put, List.setIfInBounds_toArray, List.set_cons_zero, List.set_cons_succ]
            refine wpAnyH_ready (rs := [9]) (by as_aux_lemma => kernel_rfl) (by simp) ?_
            refine AllReadyH.cons rfl (fun KH hKH => ?_) AllReadyH.nil
            go_simp
            refine hKH.out _ _ sW (fun hHeld9 => ?_)
            clear hKH KH
            try simp only [Act.put, List.setIfInBounds_toArray, List.set_cons_zero, List.set_cons_succ]
            refine wpAnyH_ready (rs := [10]) (by as_aux_lemma => kernel_rfl) (by simp) ?_
            refine AllReadyH.cons rfl (fun KH hKH => ?_) AllReadyH.nil
            go_simp
            refine hKH.out _ _ sF (fun hHeld10 => ?_)
            clear hKH KH
            try simp only [Act.put, List.setIfInBounds_toArray, List.set_cons_zero, List.set_cons_succ]
            refine wpAnyH_done (by as_aux_lemma => kernel_rfl) ?_ _
            clear sF sW sA PS p0 p1 p2 z0 z0A z0B hap fz hu1
            go_wp2
            exact ⟨⟨k + 1, _, V2, _, unhide HLT, by rw [← Nat.add_assoc, ← unhide HII]; go_num, NX⟩, by simp [intOf]; have := unhide HLT; have := unhide HII; omega⟩
          · go_simp
            refine hKH.out _ _ sA (fun hHeld6 => ?_)
            clear hKH KH
            try simp only [Act.put, List.setIfInBounds_toArray, List.set_cons_zero, List.set_cons_succ]
            refine wpAnyH_ready (rs := [4]) (by as_aux_lemma => kernel_rfl) (by simp) ?_
            refine AllReadyH.cons rfl (fun KH hKH => ?_) AllReadyH.nil
            go_simp
            refine hKH.out _ _ sA (fun hHeld4 => ?_)
            clear hKH KH
            try simp only [Act.put, List.setIfInBounds_toArray, List.set_cons_zero, List.set_cons_succ]
            refine wpAnyH_ready (rs := [7]) (by as_aux_lemma => kernel_rfl) (by simp) ?_
            refine AllReadyH.cons rfl (fun KH hKH => ?_) AllReadyH.nil
            refine step_append_run rfl (Operand.tmp 50) (Operand.tmp 52) 32 32 rfl (.slice (some ⟨g, 0, none⟩) (N + k) cc0) (.slice (some ⟨W.heap.size, 0, none⟩) 1 1) rfl rfl hap ?_
            refine hKH.out _ _ sW (fun hHeld7 => ?_)
            clear hKH KH
            try simp only [Act.put, List.setIfInBounds_toArray, List.set_cons_zero, List.set_cons_succ]
            refine wpAnyH_ready (rs := [8]) (by as_aux_lemma => kernel_rfl) (by simp) ?_
            refine AllReadyH.cons rfl (fun KH hKH => ?_) AllReadyH.nil
            go_simp
            refine hKH.out _ _ sW (fun hHeld8 => ?_)
            clear hKH KH
            try simp only [Act.put, List.setIfInBounds_toArray, List.set_cons_zero, List.set_cons_succ]
            refine wpAnyH_ready (rs := [9]) (by as_aux_lemma => kernel_rfl) (by simp) ?_
            refine AllReadyH.cons rfl (fun KH hKH => ?_) AllReadyH.nil
            go_simp
            refine hKH.out _ _ sW (fun hHeld9 => ?_)
            clear hKH KH
            try simp only [Act.put, List.setIfInBounds_toArray, List.set_cons_zero, List.set_cons_succ]
            refine wpAnyH_ready (rs := [10]) (by as_aux_lemma => kernel_rfl) (by simp) ?_
            refine AllReadyH.cons rfl (fun KH hKH => ?_) AllReadyH.nil
            go_simp
            refine hKH.out _ _ sF (fun hHeld10 => ?_)
            clear hKH KH
            try simp only [Act.put, List.setIfInBounds_toArray, List.set_cons_zero, List.set_cons_succ]
            refine wpAnyH_done (by as_aux_lemma => kernel_rfl) ?_ _
            clear sF sW sA PS p0 p1 p2 z0 z0A z0B hap fz hu1
            go_wp2
            exact ⟨⟨k + 1, _, V2, _, unhide HLT, by rw [← Nat.add_assoc, ← unhide HII]; go_num, NX⟩, by simp [intOf]; have := unhide HLT; have := unhide HII; omega⟩
    · obtain rfl : k = tn := by omega
      have hno : ¬ (i : Int) < (N : Int) := by omega
      have hno2 : ¬ i < N := by omega
      have FIN : Hid (GrowP n0 X ob rest es D k Z) := by
        have hd : todo.drop k = [] := by rw [← unhide HT]; simp
        rw [hd] at hI
        exact ⟨vl, V, gs, hI, hgl⟩
      clear hI I hN
      go_wp2
      all_goals refine bodyPost_end (results_none rfl _ _ _) rfl ?_
      all_goals exact ⟨rfl, unhide FIN⟩
end
end Go.Proofs.Ytdalekjpjnhboaa

namespace Go.Proofs.Ytdalekjpjnhboaa
open Go.RowKit
set_option linter.unusedVariables false
set_option linter.unusedSimpArgs false
set_option maxHeartbeats 4000000
set_option maxRecDepth 100000

section
variable {n0 : Nat} {X Y : World} {ob : Nat} {vl : Value} {rest : List Value} {V : Nat → Prop} {es : List En}

/-- Another cell of the owner's is written. -/
theorem OL.put (h : OL n0 X ob vl rest V es) (j : Nat) (u : Value) : OL n0 (X.setCell ⟨ob, j + 1, none⟩ u) ob vl (rest.set j u) V es := by
  have hb : Blk (X.setCell ⟨ob, j + 1, none⟩ u) ob (vl :: rest.set j u).toArray 38 := by
    have := Blk.setC h.blk (j + 1) u
    have e : ((vl :: rest).toArray.setIfInBounds (j + 1) u) = (vl :: rest.set j u).toArray := by simp
    rw [e] at this
    exact this
  have hk : ∀ g, g ≠ ob → (X.setCell ⟨ob, j + 1, none⟩ u).heap[g]? = X.heap[g]? := fun g hg => heap_setCell_other X ⟨ob, j + 1, none⟩ g u hg
  have hs : (X.setCell ⟨ob, j + 1, none⟩ u).heap.size = X.heap.size := World.size_setCell X _ u
  refine ⟨hb, own_kept h.row fun g q => hk g fun e => ?_, fun e he => (h.all e he).kept fun g hv _ => hk g (h.nV g hv).2.2.1, h.nb, fun g hv => ?_⟩
  · subst e
    exact own_ne_blk h.row h.blk (by decide) q
  · rw [hs]
    exact h.nV g hv

/-- The first entry to be grown. -/
theorem MarkP.og {vb vr : Value} {n bn m : Nat} {xs : List Value} (h : MarkP n0 X ob vl rest V es vb vr n bn xs m Y) (h0 : OL n0 X ob vl rest V es) (hn0 : n0 ≤ X.heap.size) (hnb : ∀ g, vb.ownBlock = some g → ¬ V g) (hnr : ∀ g, vr.ownBlock = some g → ¬ V g) (hxs : xs.length = n * 2) :
    ∃ vl' V' e, e.bn = bn ∧ e.rn = n ∧ OG n0 Y ob rest (es ++ [e]) [e] (fun g => Om ob vl' g ∨ V g ∨ vb.ownBlock = some g ∨ vr.ownBlock = some g) vl' V' [] Y ∧ (vl'.ownBlock = vl.ownBlock ∨ ∀ g, vl'.ownBlock = some g → X.heap.size ≤ g) := by
  obtain ⟨ba, bc, ra, rc, vl', rfl, rfl, hO, hb, hr, hk, hv⟩ := h
  refine ⟨vl', _, ⟨ba, bn, bc, ra, n, rc, m⟩, rfl, rfl, ⟨by rw [List.append_nil]; exact hO, ?_, List.pairwise_singleton _ _, Kp.refl _ _, fun g q => .inl (.inl q), ?_, Nat.le_trans hn0 hk.size, fun e he => (List.not_mem_nil he).elim, fun g q => .inl (.inr q)⟩, hv⟩
  · intro e he
    rw [List.mem_singleton] at he
    subst he
    refine ⟨?_, ?_, ?_, ?_⟩
    · have hb' : Y.ownsRow n0 5 1 (.slice ba bn bc) (List.replicate bn (Value.int .u8 (m : Int))).length (mB m bn) := hb
      rw [List.length_replicate] at hb'
      exact hb'
    · rw [← fillR_all xs m n hxs]
      exact hr
    · intro f hf g q e1 e2
      rw [List.append_nil, List.mem_append, List.mem_singleton] at hf
      rcases hf with hf | rfl
      · rcases (h0.all f hf).b with z | ⟨g', e3, e4, -⟩
        · omega
        · rw [e3] at e1
          injection e1 with e1
          injection e1 with e1
          subst e1
          exact absurd e4 (hnb _ q)
      · exact ⟨rfl, Nat.le_refl _⟩
    · intro f hf g q e1 e2
      rw [List.append_nil, List.mem_append, List.mem_singleton] at hf
      rcases hf with hf | rfl
      · rcases (h0.all f hf).r with z | ⟨g', e3, e4, -⟩
        · omega
        · rw [e3] at e1
          injection e1 with e1
          injection e1 with e1
          subst e1
          exact absurd e4 (hnr _ q)
      · exact ⟨rfl, Nat.le_refl _⟩
  · intro e he g q
    rw [List.mem_singleton] at he
    subst he
    exact .inr (.inr q)
end
end Go.Proofs.Ytdalekjpjnhboaa

namespace Go.Proofs.Ytdalekjpjnhboaa
open Go.RowKit
set_option linter.unusedVariables false
set_option maxHeartbeats 4000000
set_option maxRecDepth 100000

section
variable {n0 : Nat} {X Y : World} {ob : Nat} {vl : Value} {rest : List Value} {V : Nat → Prop} {es : List En}

theorem looks_any (h : OL n0 X ob vl rest V es) (hb : es.length ≤ 1000000000) (hs : ∀ e ∈ es, e.bn ≤ 1000000000 ∧ e.rn ≤ 1000000000) :
    Calls Try.prog 39 #[ptr ob] X fun e Y => e = .returned (.bool true) ∧ X.grownBy Y none := by
  obtain ⟨la, lc, rfl, hl1, hl2, -⟩ := h.at
  have H := hide h
  have HS := hide hs
  have I0 : Hid (X.grownBy X none) := World.grownBy.refl _ _
  generalize hN : es.length = N at *
  have HN := hide hN
  clear h hs hN
  go_enter Try.func39, Try.ntmps39
  go_wp2
  go_loopw [3] (fun i Z => ∃ k : Nat, k ≤ N ∧ i = .int .i64 (k : Int) ∧ Hid (X.grownBy Z none)) (fun i _ => N - (intOf i).toNat)
  case atStart => exact ⟨0, Nat.zero_le _, rfl, I0⟩
  case round =>
    clear I0
    obtain ⟨k, hk, rfl, I⟩ := hrel
    obtain ⟨Z, hZ⟩ : ∃ Z, Z = wr := ⟨_, rfl⟩
    subst hZ
    have hO := (unhide H).grown (unhide I)
    have c0 := hO.cell0
    by_cases hlt : k < N
    · obtain ⟨x, hx⟩ : ∃ x, es[k]? = some x := ⟨_, List.getElem?_eq_getElem (by rw [unhide HN]; exact hlt)⟩
      obtain ⟨a0, c0', e0, -, -, hr⟩ := hO.at
      obtain ⟨g, eg, hc⟩ := hr.resolve_left (fun e => by rw [e] at hx; simp at hx)
      rw [unhide HN] at e0
      injection e0 with e1 e2 e3
      subst e1
      subst eg
      obtain ⟨r0, r1, r2⟩ := hc k x hx
      have hxm := List.mem_of_getElem? hx
      have hE := hO.all x hxm
      have hsz := unhide HS x hxm
      obtain ⟨Z1, hZ1⟩ : ∃ Z1, Z1 = Z.alloc (.cells (ena x) 106) := ⟨_, rfl⟩
      have g1 : Z.grownBy Z1 none := by rw [hZ1]; exact grown_alloc _ _
      have b1 : Blk Z1 Z.heap.size (ena x) 106 := by rw [hZ1]; exact Blk.new _ _ _
      have hE1 : EOk Z1 V x := hE.kept fun g _ hl => g1.block g hl (by simp)
      have HE1 := hide hE1
      have B1 := hide b1
      have G1 := hide (grown_trans (unhide I) g1)
      have hkN : (k : Int) < (N : Int) := by omega
      have hk0 : (0 : Int) ≤ (k : Int) := by omega
      have HLT := hide hlt
      unfold ena at hZ1
      obtain ⟨hm1, hm2⟩ := hE1.m
      clear hO hc hr hE hE1 b1 g1 hxm hx hlt hk e2
      go_upto_region 5 with fail
      rw [← hZ1]
      clear hZ1 c0 r0 r1 r2
      generalize Z.heap.size = pb at *
      have y0 : Z1.cell? ⟨pb, 0, none⟩ = some (.slice x.ba x.bn x.bc) := (unhide B1).cell 0 _ rfl
      have y1 : Z1.cell? ⟨pb, 1, none⟩ = some (.slice x.ra x.rn x.rc) := (unhide B1).cell 1 _ rfl
      have y2 : Z1.cell? ⟨pb, 2, none⟩ = some (.int .i64 (x.m : Int)) := (unhide B1).cell 2 _ rfl
      go_wp2
      go_loopw [5] (fun i W => ∃ j q : Nat, j ≤ x.bn ∧ i = .int .i64 (j : Int) ∧ W = Z1.drewN q) (fun i _ => x.bn - (intOf i).toNat)
      case atStart => exact ⟨0, 0, Nat.zero_le _, rfl, rfl⟩
      case round =>
        obtain ⟨j, q, hj, rfl, hW⟩ := hrel
        subst hW
        by_cases hjl : j < x.bn
        · obtain ⟨gb, hba, -, -, hcb⟩ := (unhide HE1).b.resolve_left (by omega)
          have hz := hcb j hjl
          rw [hba] at y0
          have hjn : (j : Int) < (x.bn : Int) := by omega
          have hj0 : (0 : Int) ≤ (j : Int) := by omega
          have hmm : ((x.m : Int) != (x.m : Int)) = false := by simp
          have hw8 : IntKind.u8.wrap (x.m : Int) = (x.m : Int) := by rw [IntKind.wrap_u8]; omega
          have HJL := hide hjl
          clear hcb hba hjl hj
          go_wp2
          go_quiet (fail)
          go_wp2
          exact ⟨⟨j + 1, _, unhide HJL, by go_num, rfl⟩, by simp [intOf]; have := unhide HJL; omega⟩
        · obtain rfl : j = x.bn := by omega
          have hno : ¬ (x.bn : Int) < (x.bn : Int) := by omega
          clear hj hjl
          go_wp2
          go_loopw [6] (fun i W => ∃ j q : Nat, j ≤ x.rn ∧ i = .int .i64 (j : Int) ∧ W = Z1.drewN q) (fun i _ => x.rn - (intOf i).toNat)
          case atStart => exact ⟨0, _, Nat.zero_le _, rfl, rfl⟩
          case round =>
            obtain ⟨j, q2, hj, rfl, hW⟩ := hrel
            subst hW
            by_cases hjl : j < x.rn
            · obtain ⟨gb, hba, -, -, hcb⟩ := (unhide HE1).r.resolve_left (by omega)
              obtain ⟨hz, hz2⟩ := hcb j hjl
              rw [hba] at y1
              have hjn : (j : Int) < (x.rn : Int) := by omega
              have hj0 : (0 : Int) ≤ (j : Int) := by omega
              have hmm : ((x.m : Int) != (x.m : Int)) = false := by simp
              have HJL := hide hjl
              clear hcb hba hjl hj
              go_wp2
              go_quiet (fail)
              go_wp2
              exact ⟨⟨j + 1, _, unhide HJL, by go_num, rfl⟩, by simp [intOf]; have := unhide HJL; omega⟩
            · obtain rfl : j = x.rn := by omega
              have hno2 : ¬ (x.rn : Int) < (x.rn : Int) := by omega
              clear hj hjl
              go_wp2
              exact ⟨⟨k + 1, unhide HLT, by go_num, grown_trans (unhide G1) (grown_drewN _ _)⟩, by simp [intOf]; have := unhide HLT; omega⟩
    · obtain rfl : k = N := by omega
      have hno : ¬ (k : Int) < (k : Int) := by omega
      clear hO
      go_wp2
      go_ret
      exact ⟨rfl, unhide I⟩
end
end Go.Proofs.Ytdalekjpjnhboaa

namespace Go.Proofs.Ytdalekjpjnhboaa
open Go.RowKit
set_option linter.unusedVariables false
set_option linter.unusedSimpArgs false
set_option maxHeartbeats 4000000
set_option maxRecDepth 100000

section
variable {n0 : Nat} {X Y : World} {ob : Nat} {vl : Value} {rest : List Value} {V : Nat → Prop} {es : List En}

theorem RowV.rd {t : TypeId} {v : Value} {H : List Int} (h : RowV n0 t X v (uV H)) (hb : ∀ x ∈ H, IsB x) : ∃ a c, v = .slice a H.length c ∧ H.length ≤ c ∧ c ≤ 9223372036854775807 ∧ Rd X a H := by
  obtain ⟨a, c, rfl, h1, h2, h3⟩ := h.at
  rw [List.length_map] at h1 ⊢
  refine ⟨a, c, rfl, h1, h2, hb, fun hne => ?_⟩
  rcases h3 with z | ⟨g, rfl, -, -, -, hc⟩
  · exact absurd (List.map_eq_nil_iff.1 z) hne
  · refine ⟨g, 0, rfl, fun i hi => ?_⟩
    rw [Nat.zero_add]
    exact hc i _ (by simp [List.getElem?_eq_getElem hi])

/-- What bytes leaves. -/
def BytesP (n0 : Nat) (X : World) (ob : Nat) (vl : Value) (V : Nat → Prop) (es : List En) (vB vb : Value) (D : List Int) (rest : List Value) (Y : World) : Prop :=
  ∃ vl' V' es', OL n0 Y ob vl' (vb :: .string (strOfNums D) :: rest) V' es' ∧ RowV n0 5 Y vb (uV D) ∧ es'.length = es.length + 2 ∧ (∀ e ∈ es', e.bn ≤ 1000000000 ∧ e.rn ≤ 1000000000) ∧ Kp (fun g => Om ob vl g ∨ V g ∨ vB.ownBlock = some g) X Y ∧ (∀ g, Om ob vl' g ∨ V' g → (Om ob vl g ∨ V g ∨ vB.ownBlock = some g) ∨ X.heap.size ≤ g)

theorem bytes_any {vB vb vw : Value} {H D : List Int} (h : OL n0 X ob vl (vB :: .string (strOfNums H) :: rest) V es) (hn0 : n0 ≤ X.heap.size) (hB : RowV n0 5 X vB (uV H)) (hH : ∀ x ∈ H, IsB x) (hb : RowV n0 5 X vb (uV D)) (hw : RowV n0 5 X vw (uV D)) (hD : ∀ x ∈ D, IsB x)
    (hl : es.length + 2 ≤ 100000000) (hs : ∀ e ∈ es, e.bn ≤ 1000000000 ∧ e.rn ≤ 1000000000) (hHn : H.length ≤ 1000000)
    (hBV : ∀ g, vB.ownBlock = some g → ¬ V g) (hbn : ∀ g, vb.ownBlock = some g → ¬ (Om ob vl g ∨ V g ∨ vB.ownBlock = some g)) (hwn : ∀ g, vw.ownBlock = some g → ¬ (Om ob vl g ∨ V g ∨ vB.ownBlock = some g)) :
    Calls Try.prog 10 #[ptr ob, vb, vw] X fun e Y => e = .returned (.bool true) ∧ BytesP n0 X ob vl V es vB vb D rest Y := by
  obtain ⟨aB, cB, rfl, b1, b2, rB⟩ := hB.rd hH
  obtain ⟨ab, cb, rfl, b3, b4, rb⟩ := hb.rd hD
  obtain ⟨aw, cw, rfl, b5, b6, rw_⟩ := hw.rd hD
  have x1 : X.cell? ⟨ob, 1, none⟩ = some (.slice aB H.length cB) := h.blk.cell 1 _ rfl
  have x2 : X.cell? ⟨ob, 2, none⟩ = some (.string (strOfNums H)) := h.blk.cell 2 _ rfl
  have cvB : ∀ n, (convert 33 9 (.slice aB H.length cB)).run Try.prog (X.drewN n) = .ok (.string (strOfNums H)) (X.drewN n) := fun n => conv_rd (X.drewN n) aB H _ cB rfl (rB.grow ⟨rfl, rfl, rfl, Nat.le_refl _, fun _ _ _ => rfl⟩)
  have cvX := cvB 0
  have h0 := hide h
  have hHd := hide hH
  clear h
  go_enter Try.func10, Try.ntmps10
  go_wp2_with fail
  go_quiet (fail)
  have gZ : X.grownBy (X.drewN nq) none := ⟨rfl, rfl, rfl, Nat.le_refl _, fun _ _ _ => rfl⟩
  obtain ⟨Z, hZ⟩ : ∃ Z, Z = X.drewN nq := ⟨_, rfl⟩
  rw [← hZ] at gZ ⊢
  have hO := (unhide h0).grown gZ
  have hk : ∀ g : Nat, Z.heap[g]? = X.heap[g]? := fun g => by rw [hZ]; rfl
  have hsz : Z.heap.size = X.heap.size := by rw [hZ]; rfl
  have KX : Hid (Kp (fun g => Om ob vl g ∨ V g ∨ (Value.slice aB H.length cB).ownBlock = some g) X Z) := Kp.grown gZ _
  replace hB : RowV n0 5 Z (.slice aB H.length cB) (uV H) := hB.kept fun g _ => hk g
  replace hb : RowV n0 5 Z (.slice ab D.length cb) (uV D) := hb.kept fun g _ => hk g
  replace hw : RowV n0 5 Z (.slice aw D.length cw) (uV D) := hw.kept fun g _ => hk g
  have cv1 := conv_rd Z ab D _ cb rfl (rb.grow gZ)
  have cv2 := conv_rd Z aw D _ cw rfl (rw_.grow gZ)
  obtain ⟨al, cl', rfl, l1, l2, -⟩ := hO.at
  have z0 := hO.cell0
  have z1 : Z.cell? ⟨ob, 1, none⟩ = some (.slice aB H.length cB) := hO.blk.cell 1 _ rfl
  have hrn : Z.ownsRow n0 86 2 (.slice none 0 0) 0 [] := ⟨rfl, .inl ⟨rfl, rfl⟩⟩
  have hmk := mark_any hO (by omega) (by omega) hB hrn (by rw [List.length_map]; omega) (by omega) hBV (fun g q => by cases q)
  rw [List.length_map] at hmk
  have HO := hide hO
  have HB := hide hB; have Hb := hide hb; have Hw := hide hw
  have HBV := hide hBV; have Hbn := hide hbn; have Hwn := hide hwn
  have Hk := hide hk; have HS := hide hs; have HD := hide hD
  have HN0 : Hid (n0 ≤ Z.heap.size) := by rw [← hsz] at hn0; exact hn0
  have HSZ := hide hsz
  clear hO h0 hB hb hw hBV hbn hwn hk hs hD hH hZ hrn cvB cvX x1 x2 rB rb rw_ hn0 gZ hsz
  go_wp2_with fail
  refine hmk.mono ?_
  rintro e Z1 ⟨rfl, hM⟩
  obtain ⟨vl1, V1, e, eb, er, hOG, hv1⟩ := hM.og (unhide HO) (unhide HN0) (unhide HBV) (fun g q => by cases q) rfl
  have hkM : Kp (fun g => Om ob (.slice al es.length cl') g ∨ V g ∨ (Value.slice aB H.length cB).ownBlock = some g) Z Z1 := by
    obtain ⟨_, _, _, _, _, -, -, -, -, -, hk, -⟩ := hM
    exact hk.mono fun g _ q => by
      rcases q with q | q | q
      · exact .inl q
      · exact .inr (.inr q)
      · cases q
  have hgr := grow_any hOG rfl (fun x hx => by rw [List.mem_singleton] at hx; subst hx; omega) (by rw [List.length_append, List.length_singleton]; omega)
  have HM := hide hM
  have HKM := hide hkM
  have HV1 := hide hv1
  have HER := hide (And.intro eb er)
  clear hmk hM hkM hOG hv1 cv1 cv2 z0 z1 eb er
  go_wp2_with fail
  refine hgr.mono ?_
  rintro e' Z2 ⟨rfl, vl2, V2, gs, hG, hgl⟩
  clear hgr
  have KZ : Kp (fun g => Om ob (.slice al es.length cl') g ∨ V g ∨ (Value.slice aB H.length cB).ownBlock = some g) Z Z2 := (unhide HKM).then hG.kp fun g hg q => by
    rcases q with (q | q) | q | q | q
    · exact .inl (.inl q)
    · rcases unhide HV1 with z | z
      · exact .inl (.inr (z ▸ q))
      · have := z g q; omega
    · exact .inr (.inl q)
    · exact .inr (.inr q)
    · cases q
  have hbZ : RowV n0 5 Z2 (.slice ab D.length cb) (uV D) := (unhide Hb).kept fun g q => KZ.block g (World.ownsRow.lt (unhide Hb) g q).2 (unhide Hbn g q)
  have hwZ : RowV n0 5 Z2 (.slice aw D.length cw) (uV D) := (unhide Hw).kept fun g q => KZ.block g (World.ownsRow.lt (unhide Hw) g q).2 (unhide Hwn g q)
  have O3 := hG.ol.put 0 (.slice ab D.length cb)
  obtain ⟨W3, hW3⟩ : ∃ W3, W3 = Z2.setCell ⟨ob, 0 + 1, none⟩ (.slice ab D.length cb) := ⟨_, rfl⟩
  rw [← hW3] at O3
  have O4 := O3.put 1 (.string (strOfNums D))
  obtain ⟨W4, hW4⟩ : ∃ W4, W4 = W3.setCell ⟨ob, 1 + 1, none⟩ (.string (strOfNums D)) := ⟨_, rfl⟩
  rw [← hW4] at O4
  have k3 : ∀ g : Nat, g ≠ ob → W3.heap[g]? = Z2.heap[g]? := fun g hg => by rw [hW3]; exact heap_setCell_other _ _ g _ hg
  have k4 : ∀ g : Nat, g ≠ ob → W4.heap[g]? = Z2.heap[g]? := fun g hg => by rw [hW4, heap_setCell_other _ _ g _ hg]; exact k3 g hg
  have hw3 : RowV n0 5 W3 (.slice aw D.length cw) (uV D) := hwZ.kept fun g q => k3 g fun z => unhide Hwn g q (.inl (.inl z))
  have hb4 : RowV n0 5 W4 (.slice ab D.length cb) (uV D) := hbZ.kept fun g q => k4 g fun z => unhide Hbn g q (.inl (.inl z))
  obtain ⟨aw', cw', ew, -, -, rw3⟩ := hw3.rd (unhide HD)
  injection ew with ew1 _ ew3
  subst ew1 ew3
  have cv3 := conv_rd W3 aw D _ cw rfl rw3
  have s4 : W4.heap.size = Z2.heap.size := by rw [hW4, World.size_setCell, hW3, World.size_setCell]
  have hlen : (es ++ [e] ++ gs).length = es.length + 2 := by simp [hgl]
  have hall : ∀ x ∈ es ++ [e] ++ gs, x.bn ≤ 1000000000 ∧ x.rn ≤ 1000000000 := fun x hx => by
    rcases List.mem_append.1 hx with hx | hx
    · rcases List.mem_append.1 hx with hx | hx
      · exact unhide HS x hx
      · rw [List.mem_singleton] at hx
        have := unhide HER
        subst hx
        omega
    · exact hG.sz x hx
  have hlk := looks_any O4 (by rw [hlen]; omega) hall
  have FIN : ∀ Y, W4.grownBy Y none → BytesP n0 X ob (.slice al es.length cl') V es (.slice aB H.length cB) (.slice ab D.length cb) D rest Y := fun Y gY => by
    refine ⟨vl2, V2, _, O4.grown gY, hb4.kept fun g q => gY.block g (World.ownsRow.lt hb4 g q).2 (by simp), hlen, hall, ?_, fun g q => ?_⟩
    · have k1 : Kp (fun g => Om ob (.slice al es.length cl') g ∨ V g ∨ (Value.slice aB H.length cB).ownBlock = some g) Z W4 := by
        rw [hW4, hW3]
        exact (KZ.set ob _ _ fun _ => .inl (.inl rfl)).set ob _ _ fun _ => .inl (.inl rfl)
      exact ((unhide KX).trans k1).trans (Kp.grown gY _)
    · have z1 : Z.heap.size ≤ Z1.heap.size := (unhide HKM).size
      have hz := unhide HSZ
      have d : (Om ob vl1 g ∨ V g ∨ (Value.slice aB H.length cB).ownBlock = some g ∨ (Value.slice none 0 0).ownBlock = some g) ∨ Z1.heap.size ≤ g := by
        rcases q with q | q
        · exact hG.d0 g q
        · exact hG.vv g q
      rcases d with ((q | q) | q | q | q) | q
      · exact .inl (.inl (.inl q))
      · rcases unhide HV1 with z | z
        · exact .inl (.inl (.inr (z ▸ q)))
        · have := z g q; right; omega
      · exact .inl (.inr (.inl q))
      · exact .inl (.inr (.inr q))
      · cases q
      · right; omega
  have c1 : Z2.cell? ⟨ob, 1, none⟩ = some (.slice aB H.length cB) := Blk.cell hG.ol.blk 1 _ rfl
  have c2 : W3.cell? ⟨ob, 2, none⟩ = some (.string (strOfNums H)) := Blk.cell O3.blk 2 _ rfl
  have f1 : Z2.frozen? ⟨ob, 1, none⟩ = false := Blk.thaw hG.ol.blk 1
  have f2 : W3.frozen? ⟨ob, 2, none⟩ = false := Blk.thaw O3.blk 2
  have HFIN := hide FIN
  rw [Nat.zero_add] at hW3
  have HW4 := hide hW4
  have HW3 := hide hW3
  clear FIN hG KZ hbZ hwZ O3 O4 k3 k4 hw3 hb4 rw3 hlen hall s4 hW4 hW3
  go_upto_region 7 with fail
  rw [← unhide HW3]
  clear c1 f1
  go_wp2_with fail
  rw [show W3.setCell ⟨ob, 2, none⟩ (.string (strOfNums D)) = W4 from (unhide HW4).symm]
  refine hlk.mono ?_
  rintro e' Y ⟨rfl, gY⟩
  have P := hide (unhide HFIN Y gY)
  clear hlk HFIN cv3 c2 f2
  go_wp2
  go_ret
  exact ⟨rfl, unhide P⟩
end
end Go.Proofs.Ytdalekjpjnhboaa

namespace Go.Proofs.Ytdalekjpjnhboaa
open Go.RowKit
set_option linter.unusedVariables false
set_option linter.unusedSimpArgs false
set_option maxHeartbeats 4000000
set_option maxRecDepth 100000

section
variable {n0 : Nat} {X Y Y1 Y2 : World} {ob : Nat} {vl vl1 : Value} {rest : List Value} {V V1 : Nat → Prop} {es : List En}

theorem ownsRow_nil (n0 : Nat) (t : TypeId) (sz : Nat) (X : World) : X.ownsRow n0 t sz (.slice none 0 0) 0 [] := ⟨by simp, .inl ⟨rfl, rfl⟩⟩

/-- Both entries to be grown. -/
theorem MarkP.og2 {e1 : En} {vL : Value} {nL m2 : Nat} {xsL : List Value} (M2 : MarkP n0 Y1 ob vl1 rest V1 (es ++ [e1]) (.slice none 0 0) vL nL 0 xsL m2 Y2) (hO1 : OL n0 Y1 ob vl1 rest V1 (es ++ [e1])) (hn1 : n0 ≤ Y1.heap.size)
    (eb : e1.ba = none ∧ e1.bn = 0 ∧ e1.bc = 0) (hr1 : Y1.ownsRow n0 86 2 e1.vr e1.rn (mR e1.m e1.rn)) (hnr : ∀ g, e1.vr.ownBlock = some g → ¬ V g) (hV : ∀ f ∈ es, f.rn = 0 ∨ ∃ g, f.ra = some ⟨g, 0, none⟩ ∧ V g)
    (hV1 : ∀ g, e1.vr.ownBlock = some g → V1 g) (hxL : xsL.length = nL * 2) (hnL : ∀ g, vL.ownBlock = some g → ¬ V1 g) :
    ∃ vl2 V2 e2, e2.bn = 0 ∧ e2.rn = nL ∧ OG n0 Y2 ob rest (es ++ [e1] ++ [e2]) [e1, e2] (fun g => Om ob vl2 g ∨ V1 g ∨ vL.ownBlock = some g) vl2 V2 [] Y2 ∧ (vl2.ownBlock = vl1.ownBlock ∨ ∀ g, vl2.ownBlock = some g → Y1.heap.size ≤ g) := by
  obtain ⟨vl2, V2, e2, z1, z2, hG, hv⟩ := M2.og hO1 hn1 (fun g q => by cases q) hnL hxL
  obtain ⟨b2, c2, r2, rc2, vl2', q1, q2, hO2, hb2, hr2, hk, hv2⟩ := M2
  injection q1 with q1 q1' q1''
  subst q1 q1''
  subst q2
  clear hG hv vl2 V2 z1 z2 e2
  have hd : ∀ g, e1.vr.ownBlock = some g → (Value.slice r2 nL rc2).ownBlock ≠ some g := fun g q z => hnL g z (hV1 g q)
  have evb : e1.vb = .slice none 0 0 := by show Value.slice e1.ba e1.bn e1.bc = _; rw [eb.1, eb.2.1, eb.2.2]
  refine ⟨vl2', _, ⟨none, 0, 0, r2, nL, rc2, m2⟩, rfl, rfl, ⟨by rw [List.append_nil]; exact hO2, ?_, ?_, Kp.refl _ _, fun g q => .inl (.inl q), ?_, Nat.le_trans hn1 hk.size, fun e he => (List.not_mem_nil he).elim, fun g q => ?_⟩, hv2⟩
  · intro e he
    rw [List.mem_cons, List.mem_singleton] at he
    rcases he with rfl | rfl
    · refine ⟨?_, ?_, ?_, ?_⟩
      · rw [evb, eb.2.1]
        exact ownsRow_nil _ _ _ _
      · refine own_kept hr1 fun g q => hk.block g (hr1.lt g q).2 fun z => ?_
        rcases z with (z | z) | z | z
        · subst z
          exact own_ne_blk hr1 hO1.blk (by decide) q
        · exact own_ne hr1 hO1.row (by decide) q z
        · cases z
        · exact hd g q z
      · intro f hf g q
        rw [evb] at q
        cases q
      · intro f hf g q x1 x2
        rw [List.append_nil, List.mem_append, List.mem_append, List.mem_singleton, List.mem_singleton] at hf
        rcases hf with (hf | rfl) | rfl
        · rcases hV f hf with z | ⟨g', y1, y2⟩
          · omega
          · rw [y1] at x1
            injection x1 with x1
            injection x1 with x1
            subst x1
            exact absurd y2 (hnr _ q)
        · exact ⟨rfl, Nat.le_refl _⟩
        · have x1' : r2 = some ⟨g, 0, none⟩ := x1
          exact absurd (by rw [x1']; rfl) (hd g q)
    · refine ⟨?_, ?_, ?_, ?_⟩
      · exact ownsRow_nil _ _ _ _
      · show Y2.ownsRow n0 _ 2 (.slice r2 nL rc2) nL (mR m2 nL)
        rw [← fillR_all xsL m2 nL hxL]
        exact hr2
      · intro f hf g q
        cases q
      · intro f hf g q x1 x2
        rw [List.append_nil, List.mem_append, List.mem_singleton] at hf
        rcases hf with hf | rfl
        · rcases (hO1.all f hf).r with z | ⟨g', y1, y2, -⟩
          · omega
          · rw [y1] at x1
            injection x1 with x1
            injection x1 with x1
            subst x1
            exact absurd y2 (hnL _ q)
        · exact ⟨rfl, Nat.le_refl _⟩
  · refine List.pairwise_cons.2 ⟨fun f hf => ?_, List.pairwise_singleton _ _⟩
    rw [List.mem_singleton] at hf
    subst hf
    exact ⟨fun g q => (by rw [evb] at q; cases q), hd⟩
  · intro e he g q
    rw [List.mem_cons, List.mem_singleton] at he
    rcases he with rfl | rfl
    · rcases q with q | q
      · rw [evb] at q
        cases q
      · exact .inr (.inl (hV1 g q))
    · rcases q with q | q
      · cases q
      · exact .inr (.inr q)
  · rcases q with q | q | q
    · exact .inl (.inr (.inl q))
    · cases q
    · exact .inl (.inr (.inr q))
end
end Go.Proofs.Ytdalekjpjnhboaa

namespace Go.Proofs.Ytdalekjpjnhboaa
open Go.RowKit
set_option linter.unusedVariables false
set_option linter.unusedSimpArgs false
set_option maxHeartbeats 4000000
set_option maxRecDepth 100000

/-- What viewed leaves. -/
def ViewedP (n0 : Nat) (X : World) (ob : Nat) (vl : Value) (V : Nat → Prop) (es : List En) (vA vL : Value) (rest : List Value) (Y : World) : Prop :=
  ∃ vl' V' es', OL n0 Y ob vl' rest V' es' ∧ es'.length = es.length + 4 ∧ (∀ e ∈ es', e.bn ≤ 1000000000 ∧ e.rn ≤ 1000000000) ∧ Kp (fun g => Om ob vl g ∨ V g ∨ vA.ownBlock = some g ∨ vL.ownBlock = some g) X Y ∧ (∀ g, Om ob vl' g ∨ V' g → (Om ob vl g ∨ V g ∨ vA.ownBlock = some g ∨ vL.ownBlock = some g) ∨ X.heap.size ≤ g)
def YesP (w : World) (e : Ending) (w' : World) : Prop := e = .returned (.bool true) ∧ w.grownBy w' none

section
variable {n0 : Nat} {X Y : World} {ob : Nat} {vl vB sB : Value} {V : Nat → Prop} {es : List En} {p0 p1 p2 q0 q1 q2 r0 r1 r2 s0 s1 s2 : Int} {p5 p6 p7 p8 p9 q5 q6 q7 q8 q9 r5 r6 r7 r8 r9 s5 s6 s7 s8 s9 : Bool} {q3a q4a r3a r4a s3a s4a : Option Addr} {q3n q3c q4n q4c r3n r3c r4n r4c s3n s3c s4n s4c : Nat} {aA aL : Option Addr} {nA cA nL cL : Nat} {xsA xsL : List Value}

theorem viewed_any (h : OL n0 X ob vl (vB :: sB :: .int .i64 p0 :: .int .i64 p1 :: .int .i64 p2 :: .slice aA nA cA :: .slice aL nL cL :: .bool p5 :: .bool p6 :: .bool p7 :: .bool p8 :: .bool p9 :: .int .i64 q0 :: .int .i64 q1 :: .int .i64 q2 :: .slice q3a q3n q3c :: .slice q4a q4n q4c :: .bool q5 :: .bool q6 :: .bool q7 :: .bool q8 :: .bool q9 :: []) V es) (hn0 : n0 ≤ X.heap.size)
    (hA : X.ownsRow n0 86 2 (.slice aA nA cA) nA xsA) (hL : X.ownsRow n0 86 2 (.slice aL nL cL) nL xsL) (bA : nA ≤ 1000000) (bL : nL ≤ 1000000) (hl : es.length + 4 ≤ 100000000) (hs : ∀ e ∈ es, e.bn ≤ 1000000000 ∧ e.rn ≤ 1000000000)
    (hAV : ∀ g, (Value.slice aA nA cA).ownBlock = some g → ¬ V g) (hLV : ∀ g, (Value.slice aL nL cL).ownBlock = some g → ¬ V g ∧ (Value.slice aA nA cA).ownBlock ≠ some g)
    (al1 : ∀ Z, X.grownBy Z none → Calls Try.prog 24 #[.agg #[.int .i64 p0, .int .i64 p1, .int .i64 p2, .slice aA nA cA, .slice aL nL cL, .bool p5, .bool p6, .bool p7, .bool p8, .bool p9], .agg #[.int .i64 q0, .int .i64 q1, .int .i64 q2, .slice q3a q3n q3c, .slice q4a q4n q4c, .bool q5, .bool q6, .bool q7, .bool q8, .bool q9]] Z (YesP Z)) (al2 : ∀ Z, X.grownBy Z none → Calls Try.prog 24 #[.agg #[.int .i64 r0, .int .i64 r1, .int .i64 r2, .slice r3a r3n r3c, .slice r4a r4n r4c, .bool r5, .bool r6, .bool r7, .bool r8, .bool r9], .agg #[.int .i64 s0, .int .i64 s1, .int .i64 s2, .slice s3a s3n s3c, .slice s4a s4n s4c, .bool s5, .bool s6, .bool s7, .bool s8, .bool s9]] Z (YesP Z)) :
    Calls Try.prog 11 #[ptr ob, .agg #[.int .i64 r0, .int .i64 r1, .int .i64 r2, .slice r3a r3n r3c, .slice r4a r4n r4c, .bool r5, .bool r6, .bool r7, .bool r8, .bool r9], .agg #[.int .i64 s0, .int .i64 s1, .int .i64 s2, .slice s3a s3n s3c, .slice s4a s4n s4c, .bool s5, .bool s6, .bool s7, .bool s8, .bool s9]] X fun e Y => e = .returned (.bool true) ∧ ViewedP n0 X ob vl V es (.slice aA nA cA) (.slice aL nL cL) (vB :: sB :: .int .i64 r0 :: .int .i64 r1 :: .int .i64 r2 :: .slice r3a r3n r3c :: .slice r4a r4n r4c :: .bool r5 :: .bool r6 :: .bool r7 :: .bool r8 :: .bool r9 :: .int .i64 s0 :: .int .i64 s1 :: .int .i64 s2 :: .slice s3a s3n s3c :: .slice s4a s4n s4c :: .bool s5 :: .bool s6 :: .bool s7 :: .bool s8 :: .bool s9 :: []) Y := by
  obtain ⟨X1, hX1⟩ : ∃ X1, X1 = (X.alloc (.cells #[.int .i64 r0, .int .i64 r1, .int .i64 r2, .slice r3a r3n r3c, .slice r4a r4n r4c, .bool r5, .bool r6, .bool r7, .bool r8, .bool r9] 36)).alloc (.cells #[.int .i64 s0, .int .i64 s1, .int .i64 s2, .slice s3a s3n s3c, .slice s4a s4n s4c, .bool s5, .bool s6, .bool s7, .bool s8, .bool s9] 36) := ⟨_, rfl⟩
  have g1 : X.grownBy X1 none := by rw [hX1]; exact grown_trans (grown_alloc _ _) (grown_alloc _ _)
  have br : Blk X1 X.heap.size #[.int .i64 r0, .int .i64 r1, .int .i64 r2, .slice r3a r3n r3c, .slice r4a r4n r4c, .bool r5, .bool r6, .bool r7, .bool r8, .bool r9] 36 := by rw [hX1]; exact (Blk.new _ _ _).alloc _
  have bs : Blk X1 (X.heap.size + 1) #[.int .i64 s0, .int .i64 s1, .int .i64 s2, .slice s3a s3n s3c, .slice s4a s4n s4c, .bool s5, .bool s6, .bool s7, .bool s8, .bool s9] 36 := by rw [hX1, ← alloc_size X (.cells #[.int .i64 r0, .int .i64 r1, .int .i64 r2, .slice r3a r3n r3c, .slice r4a r4n r4c, .bool r5, .bool r6, .bool r7, .bool r8, .bool r9] 36)]; exact Blk.new _ _ _
  have hO := h.grown g1
  have HH := hide h
  have HNB : Hid (∀ g, Om ob vl g ∨ V g ∨ (Value.slice aA nA cA).ownBlock = some g ∨ (Value.slice aL nL cL).ownBlock = some g → g < X.heap.size) := fun g q => by
    rcases q with (q | q) | q | q | q
    · rw [q]; exact Blk.lt h.blk
    · exact (h.row.lt g q).2
    · exact (h.nV g q).2.1
    · exact (hA.lt g q).2
    · exact (hL.lt g q).2
  have x3 : X1.cell? ⟨ob, 3, none⟩ = some (.int .i64 p0) := Blk.cell hO.blk 3 _ rfl
  have x4 : X1.cell? ⟨ob, 4, none⟩ = some (.int .i64 p1) := Blk.cell hO.blk 4 _ rfl
  have x5 : X1.cell? ⟨ob, 5, none⟩ = some (.int .i64 p2) := Blk.cell hO.blk 5 _ rfl
  have x6 : X1.cell? ⟨ob, 6, none⟩ = some (.slice aA nA cA) := Blk.cell hO.blk 6 _ rfl
  have x7 : X1.cell? ⟨ob, 7, none⟩ = some (.slice aL nL cL) := Blk.cell hO.blk 7 _ rfl
  have x8 : X1.cell? ⟨ob, 8, none⟩ = some (.bool p5) := Blk.cell hO.blk 8 _ rfl
  have x9 : X1.cell? ⟨ob, 9, none⟩ = some (.bool p6) := Blk.cell hO.blk 9 _ rfl
  have x10 : X1.cell? ⟨ob, 10, none⟩ = some (.bool p7) := Blk.cell hO.blk 10 _ rfl
  have x11 : X1.cell? ⟨ob, 11, none⟩ = some (.bool p8) := Blk.cell hO.blk 11 _ rfl
  have x12 : X1.cell? ⟨ob, 12, none⟩ = some (.bool p9) := Blk.cell hO.blk 12 _ rfl
  have x13 : X1.cell? ⟨ob, 13, none⟩ = some (.int .i64 q0) := Blk.cell hO.blk 13 _ rfl
  have x14 : X1.cell? ⟨ob, 14, none⟩ = some (.int .i64 q1) := Blk.cell hO.blk 14 _ rfl
  have x15 : X1.cell? ⟨ob, 15, none⟩ = some (.int .i64 q2) := Blk.cell hO.blk 15 _ rfl
  have x16 : X1.cell? ⟨ob, 16, none⟩ = some (.slice q3a q3n q3c) := Blk.cell hO.blk 16 _ rfl
  have x17 : X1.cell? ⟨ob, 17, none⟩ = some (.slice q4a q4n q4c) := Blk.cell hO.blk 17 _ rfl
  have x18 : X1.cell? ⟨ob, 18, none⟩ = some (.bool q5) := Blk.cell hO.blk 18 _ rfl
  have x19 : X1.cell? ⟨ob, 19, none⟩ = some (.bool q6) := Blk.cell hO.blk 19 _ rfl
  have x20 : X1.cell? ⟨ob, 20, none⟩ = some (.bool q7) := Blk.cell hO.blk 20 _ rfl
  have x21 : X1.cell? ⟨ob, 21, none⟩ = some (.bool q8) := Blk.cell hO.blk 21 _ rfl
  have x22 : X1.cell? ⟨ob, 22, none⟩ = some (.bool q9) := Blk.cell hO.blk 22 _ rfl
  have hb := hide hO
  have HBR := hide br
  have HBS := hide bs
  have G1 := hide g1
  have HAL2 := hide al2
  have POST : ∀ Y, X1.grownBy Y none → Hid (X.grownBy Y none) ∧ Y.cell? ⟨ob, 3, none⟩ = some (.int .i64 p0) ∧ Y.cell? ⟨ob, 4, none⟩ = some (.int .i64 p1) ∧ Y.cell? ⟨ob, 5, none⟩ = some (.int .i64 p2) ∧ Y.cell? ⟨ob, 6, none⟩ = some (.slice aA nA cA) ∧ Y.cell? ⟨ob, 7, none⟩ = some (.slice aL nL cL) ∧ Y.cell? ⟨ob, 8, none⟩ = some (.bool p5) ∧ Y.cell? ⟨ob, 9, none⟩ = some (.bool p6) ∧ Y.cell? ⟨ob, 10, none⟩ = some (.bool p7) ∧ Y.cell? ⟨ob, 11, none⟩ = some (.bool p8) ∧ Y.cell? ⟨ob, 12, none⟩ = some (.bool p9) ∧ Y.cell? ⟨ob, 13, none⟩ = some (.int .i64 q0) ∧ Y.cell? ⟨ob, 14, none⟩ = some (.int .i64 q1) ∧ Y.cell? ⟨ob, 15, none⟩ = some (.int .i64 q2) ∧ Y.cell? ⟨ob, 16, none⟩ = some (.slice q3a q3n q3c) ∧ Y.cell? ⟨ob, 17, none⟩ = some (.slice q4a q4n q4c) ∧ Y.cell? ⟨ob, 18, none⟩ = some (.bool q5) ∧ Y.cell? ⟨ob, 19, none⟩ = some (.bool q6) ∧ Y.cell? ⟨ob, 20, none⟩ = some (.bool q7) ∧ Y.cell? ⟨ob, 21, none⟩ = some (.bool q8) ∧ Y.cell? ⟨ob, 22, none⟩ = some (.bool q9) := fun Y gY => by
    have o := (hO.grown gY).blk
    exact ⟨grown_trans g1 gY, Blk.cell o 3 _ rfl, Blk.cell o 4 _ rfl, Blk.cell o 5 _ rfl, Blk.cell o 6 _ rfl, Blk.cell o 7 _ rfl, Blk.cell o 8 _ rfl, Blk.cell o 9 _ rfl, Blk.cell o 10 _ rfl, Blk.cell o 11 _ rfl, Blk.cell o 12 _ rfl, Blk.cell o 13 _ rfl, Blk.cell o 14 _ rfl, Blk.cell o 15 _ rfl, Blk.cell o 16 _ rfl, Blk.cell o 17 _ rfl, Blk.cell o 18 _ rfl, Blk.cell o 19 _ rfl, Blk.cell o 20 _ rfl, Blk.cell o 21 _ rfl, Blk.cell o 22 _ rfl⟩
  have HP := hide POST
  have AL : ∀ Z, X1.grownBy Z none → Calls Try.prog 24 #[.agg #[.int .i64 p0, .int .i64 p1, .int .i64 p2, .slice aA nA cA, .slice aL nL cL, .bool p5, .bool p6, .bool p7, .bool p8, .bool p9], .agg #[.int .i64 q0, .int .i64 q1, .int .i64 q2, .slice q3a q3n q3c, .slice q4a q4n q4c, .bool q5, .bool q6, .bool q7, .bool q8, .bool q9]] Z (YesP Z) := fun Z gZ => al1 Z (grown_trans g1 gZ)
  have al := AL X1.drew (grown_drew' (World.grownBy.refl X1 none))
  clear h hO br bs g1 al1 al2 POST AL
  go_enter Try.func11, Try.ntmps11
  go_upto_region 1 with fail
  rw [← hX1]
  clear hX1
  go_region_held3 (fun Z => Z.cell? ⟨ob, 3, none⟩ = some (.int .i64 p0) ∧ Z.cell? ⟨ob, 4, none⟩ = some (.int .i64 p1) ∧ Z.cell? ⟨ob, 5, none⟩ = some (.int .i64 p2) ∧ Z.cell? ⟨ob, 6, none⟩ = some (.slice aA nA cA) ∧ Z.cell? ⟨ob, 7, none⟩ = some (.slice aL nL cL) ∧ Z.cell? ⟨ob, 8, none⟩ = some (.bool p5) ∧ Z.cell? ⟨ob, 9, none⟩ = some (.bool p6) ∧ Z.cell? ⟨ob, 10, none⟩ = some (.bool p7) ∧ Z.cell? ⟨ob, 11, none⟩ = some (.bool p8) ∧ Z.cell? ⟨ob, 12, none⟩ = some (.bool p9) ∧ Z.cell? ⟨ob, 13, none⟩ = some (.int .i64 q0) ∧ Z.cell? ⟨ob, 14, none⟩ = some (.int .i64 q1) ∧ Z.cell? ⟨ob, 15, none⟩ = some (.int .i64 q2) ∧ Z.cell? ⟨ob, 16, none⟩ = some (.slice q3a q3n q3c) ∧ Z.cell? ⟨ob, 17, none⟩ = some (.slice q4a q4n q4c) ∧ Z.cell? ⟨ob, 18, none⟩ = some (.bool q5) ∧ Z.cell? ⟨ob, 19, none⟩ = some (.bool q6) ∧ Z.cell? ⟨ob, 20, none⟩ = some (.bool q7) ∧ Z.cell? ⟨ob, 21, none⟩ = some (.bool q8) ∧ Z.cell? ⟨ob, 22, none⟩ = some (.bool q9)) (go_keep) (first | (go_at_call 24; refine al.mono ?_; rintro e W2 ⟨rfl, gY'⟩; have gY := grown_trans (grown_drew' (World.grownBy.refl X1 none)) gY'; obtain ⟨G2, y3, y4, y5, y6, y7, y8, y9, y10, y11, y12, y13, y14, y15, y16, y17, y18, y19, y20, y21, y22⟩ := unhide HP W2 gY))
  have br2 := (unhide HBR).grown gY
  have bs2 := (unhide HBS).grown gY
  have u0 : W2.cell? ⟨X.heap.size, 0, none⟩ = some (.int .i64 r0) := Blk.cell br2 0 _ rfl
  have u1 : W2.cell? ⟨X.heap.size, 1, none⟩ = some (.int .i64 r1) := Blk.cell br2 1 _ rfl
  have u2 : W2.cell? ⟨X.heap.size, 2, none⟩ = some (.int .i64 r2) := Blk.cell br2 2 _ rfl
  have u3 : W2.cell? ⟨X.heap.size, 3, none⟩ = some (.slice r3a r3n r3c) := Blk.cell br2 3 _ rfl
  have u4 : W2.cell? ⟨X.heap.size, 4, none⟩ = some (.slice r4a r4n r4c) := Blk.cell br2 4 _ rfl
  have u5 : W2.cell? ⟨X.heap.size, 5, none⟩ = some (.bool r5) := Blk.cell br2 5 _ rfl
  have u6 : W2.cell? ⟨X.heap.size, 6, none⟩ = some (.bool r6) := Blk.cell br2 6 _ rfl
  have u7 : W2.cell? ⟨X.heap.size, 7, none⟩ = some (.bool r7) := Blk.cell br2 7 _ rfl
  have u8 : W2.cell? ⟨X.heap.size, 8, none⟩ = some (.bool r8) := Blk.cell br2 8 _ rfl
  have u9 : W2.cell? ⟨X.heap.size, 9, none⟩ = some (.bool r9) := Blk.cell br2 9 _ rfl
  have w0 : W2.cell? ⟨X.heap.size + 1, 0, none⟩ = some (.int .i64 s0) := Blk.cell bs2 0 _ rfl
  have w1 : W2.cell? ⟨X.heap.size + 1, 1, none⟩ = some (.int .i64 s1) := Blk.cell bs2 1 _ rfl
  have w2 : W2.cell? ⟨X.heap.size + 1, 2, none⟩ = some (.int .i64 s2) := Blk.cell bs2 2 _ rfl
  have w3 : W2.cell? ⟨X.heap.size + 1, 3, none⟩ = some (.slice s3a s3n s3c) := Blk.cell bs2 3 _ rfl
  have w4 : W2.cell? ⟨X.heap.size + 1, 4, none⟩ = some (.slice s4a s4n s4c) := Blk.cell bs2 4 _ rfl
  have w5 : W2.cell? ⟨X.heap.size + 1, 5, none⟩ = some (.bool s5) := Blk.cell bs2 5 _ rfl
  have w6 : W2.cell? ⟨X.heap.size + 1, 6, none⟩ = some (.bool s6) := Blk.cell bs2 6 _ rfl
  have w7 : W2.cell? ⟨X.heap.size + 1, 7, none⟩ = some (.bool s7) := Blk.cell bs2 7 _ rfl
  have w8 : W2.cell? ⟨X.heap.size + 1, 8, none⟩ = some (.bool s8) := Blk.cell bs2 8 _ rfl
  have w9 : W2.cell? ⟨X.heap.size + 1, 9, none⟩ = some (.bool s9) := Blk.cell bs2 9 _ rfl
  have alb := unhide HAL2 W2 (unhide G2)
  have GY := hide gY
  clear gY gY' al br2 bs2 y3 y4 y5 y6 y7 y8 y9 y10 y11 y12 y13 y14 y15 y16 y17 y18 y19 y20 y21 y22 x3 x4 x5 x6 x7 x8 x9 x10 x11 x12 x13 x14 x15 x16 x17 x18 x19 x20 x21 x22
  go_wp2_with fail
  refine alb.mono ?_
  rintro e W3 ⟨rfl, g3⟩
  have G3 : X.grownBy W3 none := grown_trans (unhide G2) g3
  have hO := (unhide HH).grown G3
  have hA3 := own_kept hA fun g q => G3.block g (hA.lt g q).2 (by simp)
  have hL3 := own_kept hL fun g q => G3.block g (hL.lt g q).2 (by simp)
  obtain ⟨al, cl', rfl, l1, l2, -⟩ := hO.at
  have z0 := hO.cell0
  have z6 : W3.cell? ⟨ob, 6, none⟩ = some (.slice aA nA cA) := Blk.cell hO.blk 6 _ rfl
  have hn3 : n0 ≤ W3.heap.size := Nat.le_trans hn0 G3.size
  have hmk := mark_any hO hn3 (by omega) (rowV_nil n0 5 W3) hA3 (by simp) (by omega) (fun g q => by cases q) hAV
  simp only [List.length_nil] at hmk
  have HO := hide hO
  have HGY3 := hide (grown_trans (unhide GY) g3)
  have HG3 := hide G3
  have HAV := hide hAV; have HLV := hide hLV; have HS := hide hs
  have HA3 := hide hA3; have HL3 := hide hL3
  clear hO alb g3 G3 hAV hLV hs hA hL hA3 hL3 G2 GY hn0 u0 w0 u1 w1 u2 w2 u3 w3 u4 w4 u5 w5 u6 w6 u7 w7 u8 w8 u9 w9
  go_wp2_with fail
  refine hmk.mono ?_
  rintro e Z1 ⟨rfl, ba, bc, ra, rc, vl1, m1, m2, hO1, hb1, hr1, hk1, hv1⟩
  injection m1 with m1 _ m1'
  injection m2 with m2 _ m2'
  subst m1 m1' m2 m2'
  clear hmk hb1
  obtain ⟨e1, he1⟩ : ∃ e1, e1 = En.mk none 0 0 aA nA cA (es.length % 200 + 20) := ⟨_, rfl⟩
  rw [← he1] at hO1
  have hO1' := hO1
  have hn1 : n0 ≤ Z1.heap.size := Nat.le_trans hn3 hk1.size
  have hL1 := own_kept (unhide HL3) fun g q => hk1.block g ((unhide HL3).lt g q).2 fun z => by
    rcases z with (z | z) | z | z
    · subst z
      exact own_ne_blk (unhide HL3) (unhide HO).blk (by decide) q
    · exact own_ne (unhide HL3) (unhide HO).row (by decide) q z
    · cases z
    · exact (unhide HLV g q).2 z
  have hnL : ∀ g, (Value.slice aL nL cL).ownBlock = some g → ¬ (V g ∨ (Value.slice none 0 0).ownBlock = some g ∨ (Value.slice aA nA cA).ownBlock = some g) := fun g q z => by
    rcases z with z | z | z
    · exact (unhide HLV g q).1 z
    · cases z
    · exact (unhide HLV g q).2 z
  have z7 : Z1.cell? ⟨ob, 7, none⟩ = some (.slice aL nL cL) := Blk.cell hO1'.blk 7 _ rfl
  have hmk := mark_any hO1' hn1 (by rw [List.length_append, List.length_singleton]; omega) (rowV_nil n0 5 Z1) hL1 (by simp) (by omega) (fun g q => by cases q) hnL
  simp only [List.length_nil] at hmk
  have hr1' : Z1.ownsRow n0 86 2 e1.vr e1.rn (mR e1.m e1.rn) := by
    rw [he1]
    show Z1.ownsRow n0 _ 2 (.slice aA nA cA) nA (mR (es.length % 200 + 20) nA)
    rw [← fillR_all xsA _ nA (unhide HA3).1]
    exact hr1
  have hV : ∀ f ∈ es, f.rn = 0 ∨ ∃ g, f.ra = some ⟨g, 0, none⟩ ∧ V g := fun f hf => ((unhide HO).all f hf).r.imp id fun ⟨g, y1, y2, _⟩ => ⟨g, y1, y2⟩
  have OG2 := fun Z2 m (M2 : MarkP n0 Z1 ob vl1 _ _ (es ++ [e1]) (.slice none 0 0) (.slice aL nL cL) nL 0 xsL m Z2) => M2.og2 hO1' hn1 (by rw [he1]; exact ⟨rfl, rfl, rfl⟩) hr1' (fun g q => unhide HAV g (by rw [he1] at q; exact q)) hV (fun g q => .inr (.inr (by rw [he1] at q; exact q))) (unhide HL3).1 hnL
  have K1 : Kp (fun g => Om ob (.slice al es.length cl') g ∨ V g ∨ (Value.slice aA nA cA).ownBlock = some g ∨ (Value.slice aL nL cL).ownBlock = some g) W3 Z1 := hk1.mono fun g _ q => by
    rcases q with q | q | q
    · exact .inl q
    · cases q
    · exact .inr (.inr (.inl q))
  have HOG2 := hide OG2
  have HK1 := hide K1
  have HV1 := hide hv1
  have HE1 : Hid (e1.bn = 0 ∧ e1.rn = nA) := by rw [he1]; exact ⟨rfl, rfl⟩
  clear hO1 hO1' hr1 hk1 hv1 hL1 hnL hr1' hV OG2 K1 he1 z0 z6
  go_wp2_with fail
  refine hmk.mono ?_
  rintro e Z2 ⟨rfl, M2⟩
  obtain ⟨vl2, V2, e2, y1, y2, hG0, hv2⟩ := unhide HOG2 _ _ M2
  have K2 : Kp (fun g => Om ob (.slice al es.length cl') g ∨ V g ∨ (Value.slice aA nA cA).ownBlock = some g ∨ (Value.slice aL nL cL).ownBlock = some g) W3 Z2 := by
    obtain ⟨_, _, _, _, _, -, -, -, -, -, hk, -⟩ := M2
    exact (unhide HK1).then hk fun g hg q => by
      rcases q with (q | q) | q | q
      · exact .inl (.inl q)
      · rcases unhide HV1 with z | z
        · exact .inl (.inr (z ▸ q))
        · have := z g q; omega
      · cases q
      · exact .inr (.inr (.inr q))
  have hgr := grow_any hG0 (es0 := es) (by simp) (fun x hx => by
    have := unhide HE1
    rw [List.mem_cons, List.mem_singleton] at hx
    rcases hx with rfl | rfl <;> omega) (by simp; omega)
  have HK2 := hide K2
  have HV2 := hide hv2
  have HE2 := hide (And.intro y1 y2)
  clear hmk M2 hG0 K2 hv2 y1 y2 HOG2 z7
  go_wp2_with fail
  refine hgr.mono ?_
  rintro e' Z3 ⟨rfl, vl3, V3, gs, hG, hgl⟩
  clear hgr
  have DE : ∀ g, Om ob vl2 g ∨ (V g ∨ (Value.slice none 0 0).ownBlock = some g ∨ (Value.slice aA nA cA).ownBlock = some g) ∨ (Value.slice aL nL cL).ownBlock = some g → (Om ob (.slice al es.length cl') g ∨ V g ∨ (Value.slice aA nA cA).ownBlock = some g ∨ (Value.slice aL nL cL).ownBlock = some g) ∨ W3.heap.size ≤ g := fun g q => by
    rcases q with (q | q) | (q | q | q) | q
    · exact .inl (.inl (.inl q))
    · rcases unhide HV2 with z | z
      · rw [z] at q
        rcases unhide HV1 with z' | z'
        · exact .inl (.inl (.inr (z' ▸ q)))
        · exact .inr (z' g q)
      · have := z g q; have := (unhide HK1).size; right; omega
    · exact .inl (.inr (.inl q))
    · cases q
    · exact .inl (.inr (.inr (.inl q)))
    · exact .inl (.inr (.inr (.inr q)))
  have KZ : Kp (fun g => Om ob (.slice al es.length cl') g ∨ V g ∨ (Value.slice aA nA cA).ownBlock = some g ∨ (Value.slice aL nL cL).ownBlock = some g) W3 Z3 := (unhide HK2).then hG.kp fun g hg q => (DE g q).resolve_right (by omega)
  have br0 := (unhide HBR).grown (unhide HGY3)
  have bs0 := (unhide HBS).grown (unhide HGY3)
  have br3 : Blk Z3 X.heap.size #[.int .i64 r0, .int .i64 r1, .int .i64 r2, .slice r3a r3n r3c, .slice r4a r4n r4c, .bool r5, .bool r6, .bool r7, .bool r8, .bool r9] 36 := (KZ.block _ br0.lt (fun q => by have := unhide HNB _ q; omega)).trans br0
  have bs3 : Blk Z3 (X.heap.size + 1) #[.int .i64 s0, .int .i64 s1, .int .i64 s2, .slice s3a s3n s3c, .slice s4a s4n s4c, .bool s5, .bool s6, .bool s7, .bool s8, .bool s9] 36 := (KZ.block _ bs0.lt (fun q => by have := unhide HNB _ q; omega)).trans bs0
  obtain ⟨W4, hW4⟩ : ∃ W4, W4 = ((((((((((Z3).setCell ⟨ob, 3, none⟩ (.int .i64 r0)).setCell ⟨ob, 4, none⟩ (.int .i64 r1)).setCell ⟨ob, 5, none⟩ (.int .i64 r2)).setCell ⟨ob, 6, none⟩ (.slice r3a r3n r3c)).setCell ⟨ob, 7, none⟩ (.slice r4a r4n r4c)).setCell ⟨ob, 8, none⟩ (.bool r5)).setCell ⟨ob, 9, none⟩ (.bool r6)).setCell ⟨ob, 10, none⟩ (.bool r7)).setCell ⟨ob, 11, none⟩ (.bool r8)).setCell ⟨ob, 12, none⟩ (.bool r9) := ⟨_, rfl⟩
  have O4 : OL n0 W4 ob vl3 (vB :: sB :: .int .i64 r0 :: .int .i64 r1 :: .int .i64 r2 :: .slice r3a r3n r3c :: .slice r4a r4n r4c :: .bool r5 :: .bool r6 :: .bool r7 :: .bool r8 :: .bool r9 :: .int .i64 q0 :: .int .i64 q1 :: .int .i64 q2 :: .slice q3a q3n q3c :: .slice q4a q4n q4c :: .bool q5 :: .bool q6 :: .bool q7 :: .bool q8 :: .bool q9 :: []) V3 (es ++ [e1] ++ [e2] ++ gs) := by
    rw [hW4]
    exact ((((((((((hG.ol).put 2 (.int .i64 r0)).put 3 (.int .i64 r1)).put 4 (.int .i64 r2)).put 5 (.slice r3a r3n r3c)).put 6 (.slice r4a r4n r4c)).put 7 (.bool r5)).put 8 (.bool r6)).put 9 (.bool r7)).put 10 (.bool r8)).put 11 (.bool r9)
  obtain ⟨W5, hW5⟩ : ∃ W5, W5 = ((((((((((W4).setCell ⟨ob, 13, none⟩ (.int .i64 s0)).setCell ⟨ob, 14, none⟩ (.int .i64 s1)).setCell ⟨ob, 15, none⟩ (.int .i64 s2)).setCell ⟨ob, 16, none⟩ (.slice s3a s3n s3c)).setCell ⟨ob, 17, none⟩ (.slice s4a s4n s4c)).setCell ⟨ob, 18, none⟩ (.bool s5)).setCell ⟨ob, 19, none⟩ (.bool s6)).setCell ⟨ob, 20, none⟩ (.bool s7)).setCell ⟨ob, 21, none⟩ (.bool s8)).setCell ⟨ob, 22, none⟩ (.bool s9) := ⟨_, rfl⟩
  have O5 : OL n0 W5 ob vl3 (vB :: sB :: .int .i64 r0 :: .int .i64 r1 :: .int .i64 r2 :: .slice r3a r3n r3c :: .slice r4a r4n r4c :: .bool r5 :: .bool r6 :: .bool r7 :: .bool r8 :: .bool r9 :: .int .i64 s0 :: .int .i64 s1 :: .int .i64 s2 :: .slice s3a s3n s3c :: .slice s4a s4n s4c :: .bool s5 :: .bool s6 :: .bool s7 :: .bool s8 :: .bool s9 :: []) V3 (es ++ [e1] ++ [e2] ++ gs) := by
    rw [hW5]
    exact ((((((((((O4).put 12 (.int .i64 s0)).put 13 (.int .i64 s1)).put 14 (.int .i64 s2)).put 15 (.slice s3a s3n s3c)).put 16 (.slice s4a s4n s4c)).put 17 (.bool s5)).put 18 (.bool s6)).put 19 (.bool s7)).put 20 (.bool s8)).put 21 (.bool s9)
  have hob : ob < X.heap.size := unhide HNB ob (.inl (.inl rfl))
  have k4 : ∀ g : Nat, g ≠ ob → W4.heap[g]? = Z3.heap[g]? := fun g hg => by
    rw [hW4]
    repeat rw [heap_setCell_other _ _ g _ hg]
  have bs4 : Blk W4 (X.heap.size + 1) #[.int .i64 s0, .int .i64 s1, .int .i64 s2, .slice s3a s3n s3c, .slice s4a s4n s4c, .bool s5, .bool s6, .bool s7, .bool s8, .bool s9] 36 := (k4 _ (by omega)).trans bs3
  have hlen : (es ++ [e1] ++ [e2] ++ gs).length = es.length + 4 := by simp [hgl]
  have hall : ∀ x ∈ es ++ [e1] ++ [e2] ++ gs, x.bn ≤ 1000000000 ∧ x.rn ≤ 1000000000 := fun x hx => by
    have h1 := unhide HE1
    have h2 := unhide HE2
    rw [List.mem_append, List.mem_append, List.mem_append, List.mem_singleton, List.mem_singleton] at hx
    rcases hx with ((hx | rfl) | rfl) | hx
    · exact unhide HS x hx
    · omega
    · omega
    · exact hG.sz x hx
  have hlk := looks_any O5 (by rw [hlen]; omega) hall
  have FIN : ∀ Y, W5.grownBy Y none → ViewedP n0 X ob (.slice al es.length cl') V es (.slice aA nA cA) (.slice aL nL cL) (vB :: sB :: .int .i64 r0 :: .int .i64 r1 :: .int .i64 r2 :: .slice r3a r3n r3c :: .slice r4a r4n r4c :: .bool r5 :: .bool r6 :: .bool r7 :: .bool r8 :: .bool r9 :: .int .i64 s0 :: .int .i64 s1 :: .int .i64 s2 :: .slice s3a s3n s3c :: .slice s4a s4n s4c :: .bool s5 :: .bool s6 :: .bool s7 :: .bool s8 :: .bool s9 :: []) Y := fun Y gY => by
    refine ⟨vl3, V3, _, O5.grown gY, hlen, hall, ?_, fun g q => ?_⟩
    · have k1 : Kp (fun g => Om ob (.slice al es.length cl') g ∨ V g ∨ (Value.slice aA nA cA).ownBlock = some g ∨ (Value.slice aL nL cL).ownBlock = some g) W3 W5 := by
        rw [hW5, hW4]
        repeat refine Kp.set ?_ ob _ _ fun _ => .inl (.inl rfl)
        exact KZ
      exact ((Kp.grown (unhide HG3) _).trans k1).trans (Kp.grown gY _)
    · have hz := (unhide HG3).size
      have h1 := (unhide HK2).size
      have d : (Om ob vl2 g ∨ (V g ∨ (Value.slice none 0 0).ownBlock = some g ∨ (Value.slice aA nA cA).ownBlock = some g) ∨ (Value.slice aL nL cL).ownBlock = some g) ∨ Z2.heap.size ≤ g := by
        rcases q with q | q
        · exact hG.d0 g q
        · exact hG.vv g q
      rcases d with d | d
      · exact (DE g d).imp id fun z => by omega
      · right; omega
  have HFIN := hide FIN
  have HW4 := hide hW4
  have HW5 := hide hW5
  have c3 : Z3.cell? ⟨ob, 3, none⟩ = some (.int .i64 p0) := Blk.cell hG.ol.blk 3 _ rfl
  have f3 : Z3.frozen? ⟨ob, 3, none⟩ = false := Blk.thaw hG.ol.blk 3
  have c4 : Z3.cell? ⟨ob, 4, none⟩ = some (.int .i64 p1) := Blk.cell hG.ol.blk 4 _ rfl
  have f4 : Z3.frozen? ⟨ob, 4, none⟩ = false := Blk.thaw hG.ol.blk 4
  have c5 : Z3.cell? ⟨ob, 5, none⟩ = some (.int .i64 p2) := Blk.cell hG.ol.blk 5 _ rfl
  have f5 : Z3.frozen? ⟨ob, 5, none⟩ = false := Blk.thaw hG.ol.blk 5
  have c6 : Z3.cell? ⟨ob, 6, none⟩ = some (.slice aA nA cA) := Blk.cell hG.ol.blk 6 _ rfl
  have f6 : Z3.frozen? ⟨ob, 6, none⟩ = false := Blk.thaw hG.ol.blk 6
  have c7 : Z3.cell? ⟨ob, 7, none⟩ = some (.slice aL nL cL) := Blk.cell hG.ol.blk 7 _ rfl
  have f7 : Z3.frozen? ⟨ob, 7, none⟩ = false := Blk.thaw hG.ol.blk 7
  have c8 : Z3.cell? ⟨ob, 8, none⟩ = some (.bool p5) := Blk.cell hG.ol.blk 8 _ rfl
  have f8 : Z3.frozen? ⟨ob, 8, none⟩ = false := Blk.thaw hG.ol.blk 8
  have c9 : Z3.cell? ⟨ob, 9, none⟩ = some (.bool p6) := Blk.cell hG.ol.blk 9 _ rfl
  have f9 : Z3.frozen? ⟨ob, 9, none⟩ = false := Blk.thaw hG.ol.blk 9
  have c10 : Z3.cell? ⟨ob, 10, none⟩ = some (.bool p7) := Blk.cell hG.ol.blk 10 _ rfl
  have f10 : Z3.frozen? ⟨ob, 10, none⟩ = false := Blk.thaw hG.ol.blk 10
  have c11 : Z3.cell? ⟨ob, 11, none⟩ = some (.bool p8) := Blk.cell hG.ol.blk 11 _ rfl
  have f11 : Z3.frozen? ⟨ob, 11, none⟩ = false := Blk.thaw hG.ol.blk 11
  have c12 : Z3.cell? ⟨ob, 12, none⟩ = some (.bool p9) := Blk.cell hG.ol.blk 12 _ rfl
  have f12 : Z3.frozen? ⟨ob, 12, none⟩ = false := Blk.thaw hG.ol.blk 12
  have u0 : Z3.cell? ⟨X.heap.size, 0, none⟩ = some (.int .i64 r0) := Blk.cell br3 0 _ rfl
  have u1 : Z3.cell? ⟨X.heap.size, 1, none⟩ = some (.int .i64 r1) := Blk.cell br3 1 _ rfl
  have u2 : Z3.cell? ⟨X.heap.size, 2, none⟩ = some (.int .i64 r2) := Blk.cell br3 2 _ rfl
  have u3 : Z3.cell? ⟨X.heap.size, 3, none⟩ = some (.slice r3a r3n r3c) := Blk.cell br3 3 _ rfl
  have u4 : Z3.cell? ⟨X.heap.size, 4, none⟩ = some (.slice r4a r4n r4c) := Blk.cell br3 4 _ rfl
  have u5 : Z3.cell? ⟨X.heap.size, 5, none⟩ = some (.bool r5) := Blk.cell br3 5 _ rfl
  have u6 : Z3.cell? ⟨X.heap.size, 6, none⟩ = some (.bool r6) := Blk.cell br3 6 _ rfl
  have u7 : Z3.cell? ⟨X.heap.size, 7, none⟩ = some (.bool r7) := Blk.cell br3 7 _ rfl
  have u8 : Z3.cell? ⟨X.heap.size, 8, none⟩ = some (.bool r8) := Blk.cell br3 8 _ rfl
  have u9 : Z3.cell? ⟨X.heap.size, 9, none⟩ = some (.bool r9) := Blk.cell br3 9 _ rfl
  have c13 : W4.cell? ⟨ob, 13, none⟩ = some (.int .i64 q0) := Blk.cell O4.blk 13 _ rfl
  have f13 : W4.frozen? ⟨ob, 13, none⟩ = false := Blk.thaw O4.blk 13
  have c14 : W4.cell? ⟨ob, 14, none⟩ = some (.int .i64 q1) := Blk.cell O4.blk 14 _ rfl
  have f14 : W4.frozen? ⟨ob, 14, none⟩ = false := Blk.thaw O4.blk 14
  have c15 : W4.cell? ⟨ob, 15, none⟩ = some (.int .i64 q2) := Blk.cell O4.blk 15 _ rfl
  have f15 : W4.frozen? ⟨ob, 15, none⟩ = false := Blk.thaw O4.blk 15
  have c16 : W4.cell? ⟨ob, 16, none⟩ = some (.slice q3a q3n q3c) := Blk.cell O4.blk 16 _ rfl
  have f16 : W4.frozen? ⟨ob, 16, none⟩ = false := Blk.thaw O4.blk 16
  have c17 : W4.cell? ⟨ob, 17, none⟩ = some (.slice q4a q4n q4c) := Blk.cell O4.blk 17 _ rfl
  have f17 : W4.frozen? ⟨ob, 17, none⟩ = false := Blk.thaw O4.blk 17
  have c18 : W4.cell? ⟨ob, 18, none⟩ = some (.bool q5) := Blk.cell O4.blk 18 _ rfl
  have f18 : W4.frozen? ⟨ob, 18, none⟩ = false := Blk.thaw O4.blk 18
  have c19 : W4.cell? ⟨ob, 19, none⟩ = some (.bool q6) := Blk.cell O4.blk 19 _ rfl
  have f19 : W4.frozen? ⟨ob, 19, none⟩ = false := Blk.thaw O4.blk 19
  have c20 : W4.cell? ⟨ob, 20, none⟩ = some (.bool q7) := Blk.cell O4.blk 20 _ rfl
  have f20 : W4.frozen? ⟨ob, 20, none⟩ = false := Blk.thaw O4.blk 20
  have c21 : W4.cell? ⟨ob, 21, none⟩ = some (.bool q8) := Blk.cell O4.blk 21 _ rfl
  have f21 : W4.frozen? ⟨ob, 21, none⟩ = false := Blk.thaw O4.blk 21
  have c22 : W4.cell? ⟨ob, 22, none⟩ = some (.bool q9) := Blk.cell O4.blk 22 _ rfl
  have f22 : W4.frozen? ⟨ob, 22, none⟩ = false := Blk.thaw O4.blk 22
  have w0 : W4.cell? ⟨X.heap.size + 1, 0, none⟩ = some (.int .i64 s0) := Blk.cell bs4 0 _ rfl
  have w1 : W4.cell? ⟨X.heap.size + 1, 1, none⟩ = some (.int .i64 s1) := Blk.cell bs4 1 _ rfl
  have w2 : W4.cell? ⟨X.heap.size + 1, 2, none⟩ = some (.int .i64 s2) := Blk.cell bs4 2 _ rfl
  have w3 : W4.cell? ⟨X.heap.size + 1, 3, none⟩ = some (.slice s3a s3n s3c) := Blk.cell bs4 3 _ rfl
  have w4 : W4.cell? ⟨X.heap.size + 1, 4, none⟩ = some (.slice s4a s4n s4c) := Blk.cell bs4 4 _ rfl
  have w5 : W4.cell? ⟨X.heap.size + 1, 5, none⟩ = some (.bool s5) := Blk.cell bs4 5 _ rfl
  have w6 : W4.cell? ⟨X.heap.size + 1, 6, none⟩ = some (.bool s6) := Blk.cell bs4 6 _ rfl
  have w7 : W4.cell? ⟨X.heap.size + 1, 7, none⟩ = some (.bool s7) := Blk.cell bs4 7 _ rfl
  have w8 : W4.cell? ⟨X.heap.size + 1, 8, none⟩ = some (.bool s8) := Blk.cell bs4 8 _ rfl
  have w9 : W4.cell? ⟨X.heap.size + 1, 9, none⟩ = some (.bool s9) := Blk.cell bs4 9 _ rfl
  clear FIN hG DE KZ br0 bs0 br3 bs3 O4 O5 hob k4 bs4 hlen hall hW4 hW5
  go_upto_region 8 with fail
  rw [← unhide HW4]
  clear c3 f3 u0 c4 f4 u1 c5 f5 u2 c6 f6 u3 c7 f7 u4 c8 f8 u5 c9 f9 u6 c10 f10 u7 c11 f11 u8 c12 f12 u9
  go_wp2_with fail
  rw [← unhide HW5]
  refine hlk.mono ?_
  rintro e' Y ⟨rfl, gY⟩
  have PP := hide (unhide HFIN Y gY)
  clear hlk HFIN c13 f13 w0 c14 f14 w1 c15 f15 w2 c16 f16 w3 c17 f17 w4 c18 f18 w5 c19 f19 w6 c20 f20 w7 c21 f21 w8 c22 f22 w9
  go_wp2
  go_ret
  exact ⟨rfl, unhide PP⟩
end
end Go.Proofs.Ytdalekjpjnhboaa
