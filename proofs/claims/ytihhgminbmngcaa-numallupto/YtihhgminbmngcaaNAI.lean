/- NumAll: what holds between the rounds, with the marks that lie. -/
import Derived.Test.YtihhgminbmngcaaNNS
namespace Go.Proofs.Ytihhgminbmngcaa
open Go.RowKit Go.Shelf
set_option linter.unusedVariables false
set_option maxHeartbeats 1000000
set_option maxRecDepth 100000

abbrev mkP (w w2 : World) (bn gf cf gw cw Ba Bb s0 m0 p0 : Nat) (at_ most : Int) : Ps := ⟨w.heap.size, w2.heap.size, bn, gf, cf, gw, cw, Ba, Bb, s0, m0, p0, p0 + 1, at_, most⟩
structure NR (w w2 : World) (q : Ps) (F : List Int) (pv mv : Value) (k ρ : Nat) (Ds : List Nat) (W : World) : Prop where
  ns : NS w w2 w2.heap.size q F pv mv W
  bk : Boxed W k 3 (.int .i64 (ρ : Int))
  ds : ∀ D ∈ Ds, W.heap[D]? = some (.deferred (some []))
  dp : Ds.Pairwise (· > ·)
  dl : ∀ D ∈ Ds, w.heap.size ≤ D
  len : Ds.length = ρ
abbrev mkD (D : Nat) : Deferred := { target := .collected D, args := #[] }
section
variable {w w2 W W' : World} {q : Ps} {F : List Int} {pv mv : Value} {k ρ : Nat} {Ds : List Nat}
theorem NR.dlt (h : NR w w2 q F pv mv k ρ Ds W) : ∀ D ∈ Ds, D < W.heap.size := fun D hD => (Array.getElem?_eq_some_iff.1 (h.ds D hD)).1
theorem NR.below (h : NR w w2 q F pv mv k ρ Ds W) (hb : Below W.heap.size W W') : NR w w2 q F pv mv k ρ Ds W' :=
  ⟨h.ns.below hb, bx_below h.bk hb, fun D hD => (hb.block D (h.dlt D hD)).trans (h.ds D hD), h.dp, h.dl, h.len⟩
/-- Turn, and All once more. -/
theorem NR.turned (h : NR w w2 q F pv mv k ρ Ds W) {F' : List Int} (hl : Lent w2 w2.heap.size W' q.g q.n q.gf q.cf q.gw q.cw F' F') (hf : ∀ x ∈ F', IsB x) (o : Tu.Only W W' q.gf q.gw) {Y Z : World} (hY : Below W'.heap.size W' Y) {pv' mv' : Value} (a : AR Y Z pv' mv' ((allG (F'.take q.n) q.at_).map Prod.fst) ((allG (F'.take q.n) q.at_).map Prod.snd)) :
    (Boxed Z q.p 30 pv ∧ Boxed (Z.setCell ⟨q.p, 0, none⟩ pv') q.l 31 mv) ∧ NR w w2 q F' pv' mv' k ρ Ds ((Z.setCell ⟨q.p, 0, none⟩ pv').setCell ⟨q.l, 0, none⟩ mv') := by
  have n1 := h.ns.nb.turn hl hf o
  have n2 := n1.below hY
  have wz : w2.heap.size ≤ Y.heap.size := by have := n2.lent.low; have := n2.lent.lt; omega
  obtain ⟨l1, l2, l3⟩ := n2.laid wz a
  have kk : ∀ {j : Nat} {ob : Obj}, W.heap[j]? = some ob → (∀ c, ob ≠ .cells c 5 (0, 0)) → (∀ c, ob ≠ .cells c 30 (0, 0)) → (∀ c, ob ≠ .cells c 31 (0, 0)) → ((Z.setCell ⟨q.p, 0, none⟩ pv').setCell ⟨q.l, 0, none⟩ mv').heap[j]? = some ob := fun {j ob} hj h1 h2 h3 => by
    have j1 := h.ns.nb.kept o hj h1
    have j2 := (hY.block j (Array.getElem?_eq_some_iff.1 j1).1).trans j1
    have j3 := (a.bel.block j (Array.getElem?_eq_some_iff.1 j2).1).trans j2
    have e1 : j ≠ q.p := fun e => by
      have hb := l1
      unfold Boxed at hb
      rw [← e, j3] at hb
      cases hb
      exact h2 _ rfl
    have e2 : j ≠ q.l := fun e => by
      have hb := l2
      unfold Boxed at hb
      rw [heap_setCell_other _ _ _ _ (by show q.l ≠ q.p; rw [← e]; exact e1), ← e, j3] at hb
      cases hb
      exact h3 _ rfl
    rw [heap_setCell_other _ _ _ _ (by show j ≠ q.l; exact e2), heap_setCell_other _ _ _ _ (by show j ≠ q.p; exact e1)]
    exact j3
  exact ⟨⟨l1, l2⟩, l3, kk h.bk (fun c e => by cases e) (fun c e => by cases e) (fun c e => by cases e), fun D hD => kk (h.ds D hD) (fun c e => by cases e) (fun c e => by cases e) (fun c e => by cases e), h.dp, h.dl, h.len⟩
/-- A round is over: a mark more, and the count in a new box. -/
theorem NR.next (h : NR w w2 q F pv mv k ρ Ds W) (hb : Below W.heap.size W W') {D : Nat} (hD : W'.heap[D]? = some (.deferred (some []))) (hDl : W.heap.size ≤ D) : NR w w2 q F pv mv W'.heap.size (ρ + 1) (D :: Ds) (W'.alloc (.cells #[.int .i64 ((ρ + 1 : Nat) : Int)] 3)) := by
  have h' := h.below hb
  have ba : Below W'.heap.size W' (W'.alloc (.cells #[.int .i64 ((ρ + 1 : Nat) : Int)] 3)) := (Below.refl _ _).alloc (Nat.le_refl _) _
  have h2 := h'.below ba
  have ws := h.ns.nb.be.size
  refine ⟨h2.ns, heap_alloc_new W' _, fun E hE => ?_, List.pairwise_cons.2 ⟨fun E hE => ?_, h.dp⟩, fun E hE => ?_, by simp [h.len]⟩
  · rcases List.mem_cons.1 hE with e | e
    · rw [e]; exact (ba.block D (Array.getElem?_eq_some_iff.1 hD).1).trans hD
    · exact h2.ds E e
  · have := h.dlt E hE; show E < D; omega
  · rcases List.mem_cons.1 hE with e | e
    · omega
    · exact h.dl E e
/-- The end: the answer is laid, and the marks are taken. -/
theorem NR.ends {D1 D2 D3 D4 : Nat} (h : NR w w2 q F pv mv k ρ [D4, D3, D2, D1] W) :
    (W.setCell ⟨q.r, 0, none⟩ (.bool true)).heap[D4]? = some (.deferred (some [])) ∧ ((W.setCell ⟨q.r, 0, none⟩ (.bool true)).putObj D4 (.deferred none)).heap[D3]? = some (.deferred (some [])) ∧
    (((W.setCell ⟨q.r, 0, none⟩ (.bool true)).putObj D4 (.deferred none)).putObj D3 (.deferred none)).heap[D2]? = some (.deferred (some [])) ∧
    ((((W.setCell ⟨q.r, 0, none⟩ (.bool true)).putObj D4 (.deferred none)).putObj D3 (.deferred none)).putObj D2 (.deferred none)).heap[D1]? = some (.deferred (some [])) ∧
    (((((W.setCell ⟨q.r, 0, none⟩ (.bool true)).putObj D4 (.deferred none)).putObj D3 (.deferred none)).putObj D2 (.deferred none)).putObj D1 (.deferred none)).cell? ⟨q.r, 0, none⟩ = some (.bool true) ∧
    Below w.heap.size w (((((W.setCell ⟨q.r, 0, none⟩ (.bool true)).putObj D4 (.deferred none)).putObj D3 (.deferred none)).putObj D2 (.deferred none)).putObj D1 (.deferred none)) := by
  have br := h.ns.nb.br
  have bx : Boxed (W.setCell ⟨q.r, 0, none⟩ (.bool true)) q.r 4 (.bool true) := br.set _
  have ne : ∀ {D : Nat}, W.heap[D]? = some (.deferred (some [])) → q.r ≠ D := fun {D} e e' => by
    have b : W.heap[q.r]? = some (.cells #[.bool false] 4 (0, 0)) := br
    rw [e', e] at b; cases b
  have kp : ∀ {D : Nat}, W.heap[D]? = some (.deferred (some [])) → (W.setCell ⟨q.r, 0, none⟩ (.bool true)).heap[D]? = some (.deferred (some [])) := fun {D} e => (heap_setCell_other _ _ _ _ (by show D ≠ q.r; exact (ne e).symm)).trans e
  have bel := h.ns.nb.be.setCell (p := ⟨q.r, 0, none⟩) h.ns.nb.lo.1 (.bool true)
  have d4 := h.ds D4 (by simp)
  have d3 := h.ds D3 (by simp)
  have d2 := h.ds D2 (by simp)
  have d1 := h.ds D1 (by simp)
  have e4 := kp d4
  have e3 := kp d3
  have e2 := kp d2
  have e1 := kp d1
  have l4 := h.dl D4 (by simp)
  have l3 := h.dl D3 (by simp)
  have l2 := h.dl D2 (by simp)
  have l1 := h.dl D1 (by simp)
  have dp := h.dp
  simp only [List.pairwise_cons, List.mem_cons, List.not_mem_nil, or_false, forall_eq_or_imp, forall_eq, gt_iff_lt, List.Pairwise.nil, and_true, false_implies, implies_true] at dp
  obtain ⟨⟨p1, p2, p3⟩, ⟨p4, p5⟩, p6⟩ := dp
  have n4 := ne d4
  have n3 := ne d3
  have n2 := ne d2
  have n1 := ne d1
  generalize W.setCell ⟨q.r, 0, none⟩ (.bool true) = X1 at *
  have f3 : (X1.putObj D4 (.deferred none)).heap[D3]? = some (.deferred (some [])) := (World.putObj_heap_other (by omega)).trans e3
  have f2 : ((X1.putObj D4 (.deferred none)).putObj D3 (.deferred none)).heap[D2]? = some (.deferred (some [])) := (World.putObj_heap_other (by omega)).trans ((World.putObj_heap_other (by omega)).trans e2)
  have f1 : (((X1.putObj D4 (.deferred none)).putObj D3 (.deferred none)).putObj D2 (.deferred none)).heap[D1]? = some (.deferred (some [])) := (World.putObj_heap_other (by omega)).trans ((World.putObj_heap_other (by omega)).trans ((World.putObj_heap_other (by omega)).trans e1))
  have pg : ∀ (A : World) (D : Nat) (o : Obj), w.heap.size ≤ D → Below w.heap.size w A → Below w.heap.size w (A.putObj D o) := fun A D o hD g => ⟨g.os, g.tape, g.output, by have := g.size; simpa using this, fun k hk => (World.putObj_heap_other (by omega)).trans (g.block k hk)⟩
  refine ⟨e4, f3, f2, f1, ?_, pg _ _ _ l1 (pg _ _ _ l2 (pg _ _ _ l3 (pg _ _ _ l4 bel)))⟩
  have bb : Boxed ((((X1.putObj D4 (.deferred none)).putObj D3 (.deferred none)).putObj D2 (.deferred none)).putObj D1 (.deferred none)) q.r 4 (.bool true) :=
    (World.putObj_heap_other n1).trans ((World.putObj_heap_other n2).trans ((World.putObj_heap_other n3).trans ((World.putObj_heap_other n4).trans bx)))
  exact bb.cell
end
theorem TB.below {n₀ Bp Bm : Nat} {w3 W W' : World} {pv mv : Value} {lp lm : List Int} (h : TB n₀ w3 Bp Bm W pv mv lp lm) (hb : Below W.heap.size W W') : TB n₀ w3 Bp Bm W' pv mv lp lm :=
  ⟨bx_below h.bp hb, h.rp.below hb, bx_below h.bm hb, h.rm.below hb, h.bel.trans (hb.mono h.low), h.hp, h.hm⟩
@[irreducible] def AI (w w2 : World) (ba : Option Addr) (bn bc gf cf gw cw Ba Bb s0 m0 p0 : Nat) (at_ early most : Int) (m : Nat) (a : Act) (X : World) : Prop :=
  ∃ (ρ k : Nat) (F : List Int) (pa ma : Option Addr) (pn pc mn mc : Nat) (Ds : List Nat) (u14 u15 u16 u17 u18 u19 u20 u21 u22 u23 u24 u25 u26 u27 u28 u29 u30 u31 u32 u33 u34 u35 u36 u37 u38 u39 u40 u41 u42 u43 u44 u45 u46 u47 u48 u49 u50 u51 u52 u53 u54 u55 u56 u57 u58 u59 u60 u61 u62 u63 u64 u65 u66 u67 u68 u69 u70 u71 u72 u73 u74 u75 u76 u77 u78 u79 u80 u81 u82 u83 u84 u85 u86 u87 u88 u89 u90 u91 u92 u93 u94 u95 u96 u97 u98 u99 u100 u101 u102 u103 u104 u105 u106 u107 u108 u109 u110 u111 u112 u113 u114 u115 u116 u117 u118 u119 u120 u121 u122 u123 u124 u125 u126 u127 u128 : Value), m + ρ = 4 ∧ a = { tmps := #[.slice ba bn bc, .int .i64 at_, .int .i64 early, undef, undef, undef, .pointer (some ⟨w.heap.size, 0, none⟩), .bool true, .pointer (some ⟨w2.heap.size, 0, none⟩), .pointer (some ⟨s0, 0, none⟩), .pointer (some ⟨m0, 0, none⟩), .pointer (some ⟨p0, 0, none⟩), .pointer (some ⟨p0 + 1, 0, none⟩), .pointer (some ⟨k, 0, none⟩), u14, u15, u16, u17, u18, u19, u20, u21, u22, u23, u24, u25, u26, u27, u28, u29, u30, u31, u32, u33, u34, u35, u36, u37, u38, u39, u40, u41, u42, u43, u44, u45, u46, u47, u48, u49, u50, u51, u52, u53, u54, u55, u56, u57, u58, u59, u60, u61, u62, u63, u64, u65, u66, u67, u68, u69, u70, u71, u72, u73, u74, u75, u76, u77, u78, u79, u80, u81, u82, u83, u84, u85, u86, u87, u88, u89, u90, u91, u92, u93, u94, u95, u96, u97, u98, u99, u100, u101, u102, u103, u104, u105, u106, u107, u108, u109, u110, u111, u112, u113, u114, u115, u116, u117, u118, u119, u120, u121, u122, u123, u124, u125, u126, u127, u128], defers := Ds.map mkD } ∧ Hid (NR w w2 (mkP w w2 bn gf cf gw cw Ba Bb s0 m0 p0 at_ most) F (.slice pa pn pc) (.slice ma mn mc) k ρ Ds X)
end Go.Proofs.Ytihhgminbmngcaa
