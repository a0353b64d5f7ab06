/- The document's Recv: its held bytes, by lists and in memory. -/
import Derived.Test.YthihabjegpacaaaGreatT6L
import Derived.Maps.AppendAt
namespace Go.Proofs.YthihabjegpacaaaGreat
open Go.RowKit
set_option linter.unusedVariables false
set_option maxRecDepth 100000
set_option maxHeartbeats 1000000

theorem grown_fr {w w1 w' : World} {r : Option Nat} (hg : w.grownBy w1 none) (h : w1.grownBy w' r) (hr : ∀ k, r = some k → w.heap.size ≤ k) : w.grownBy w' none :=
  ⟨h.os.trans hg.os, h.tape.trans hg.tape, h.output.trans hg.output, Nat.le_trans hg.size h.size, fun k hk _ => by
    rw [h.block k (Nat.lt_of_lt_of_le hk hg.size) (fun e => by have := hr k e.symm; omega)]
    exact hg.block k hk (by simp)⟩
/-- Bytes that are held, each with its offset. -/
abbrev Hd := Int × Int
def hcl (H : List Hd) : List Value := H.flatMap fun x => [.int .i64 x.1, .int .u8 x.2]
theorem hcl_len (H : List Hd) : (hcl H).length = H.length * 2 := by
  induction H with
  | nil => rfl
  | cons x H ih => simp only [hcl, List.flatMap_cons, List.length_append, List.length_cons, List.length_nil] at ih ⊢; omega
theorem hcl_app (A B : List Hd) : hcl (A ++ B) = hcl A ++ hcl B := by simp [hcl]
theorem hcl_get : ∀ {H : List Hd} {i : Nat} {x : Hd}, H[i]? = some x → (hcl H)[i * 2]? = some (.int .i64 x.1) ∧ (hcl H)[i * 2 + 1]? = some (.int .u8 x.2)
  | [], i, x, h => by simp at h
  | y :: H, 0, x, h => by simp at h; subst h; exact ⟨rfl, rfl⟩
  | y :: H, i + 1, x, h => by
    have := hcl_get (H := H) (i := i) (x := x) (by simpa using h)
    rw [show (i + 1) * 2 = i * 2 + 1 + 1 by omega]
    exact this
theorem hcl_at : ∀ {H : List Hd} {j : Nat} {u : Value}, (hcl H)[j]? = some u → ∃ i x, H[i]? = some x ∧ ((j = i * 2 ∧ u = .int .i64 x.1) ∨ (j = i * 2 + 1 ∧ u = .int .u8 x.2))
  | [], j, u, h => by simp [hcl] at h
  | y :: H, 0, u, h => by simp [hcl] at h; exact ⟨0, y, rfl, .inl ⟨rfl, h.symm⟩⟩
  | y :: H, 1, u, h => by simp [hcl] at h; exact ⟨0, y, rfl, .inr ⟨rfl, h.symm⟩⟩
  | y :: H, j + 2, u, h => by
    obtain ⟨i, x, hi, hx⟩ := hcl_at (H := H) (j := j) (u := u) (by simpa [hcl] using h)
    exact ⟨i + 1, x, by simpa using hi, by
      rcases hx with ⟨e, hu⟩ | ⟨e, hu⟩
      · exact .inl ⟨by omega, hu⟩
      · exact .inr ⟨by omega, hu⟩⟩

/-- A list of held bytes that is read: from a. -/
structure RdH (W : World) (a : Option Addr) (c : Nat) (H : List Hd) : Prop where
  rd : H = [] ∨ ∃ g off cur, a = some ⟨g, off, none⟩ ∧ W.heap[g]? = some (.cells cur 79 (0, 0)) ∧ ∀ i x, H[i]? = some x → cur[off + i * 2]? = some (.int .i64 x.1) ∧ cur[off + i * 2 + 1]? = some (.int .u8 x.2)
  cap : H.length ≤ c ∧ c ≤ 9223372036854775807
  sh : (a = none ∧ H.length = 0 ∧ c = 0) ∨ ∃ g off, a = some ⟨g, off, none⟩
theorem rdh_nil (W : World) : RdH W none 0 [] := ⟨.inl rfl, ⟨Nat.le_refl _, by decide⟩, .inl ⟨rfl, rfl, rfl⟩⟩
theorem RdH.kept {W W' : World} {a : Option Addr} {c : Nat} {H : List Hd} (h : RdH W a c H) (hk : ∀ (g : Nat) (cur : Array Value), W.heap[g]? = some (.cells cur 79 (0, 0)) → W'.heap[g]? = W.heap[g]?) : RdH W' a c H :=
  ⟨h.rd.imp id fun ⟨g, off, cur, e, hg, hc⟩ => ⟨g, off, cur, e, (hk g cur hg).trans hg, hc⟩, h.cap, h.sh⟩
theorem RdH.cells {W : World} {g off c : Nat} {H : List Hd} (h : RdH W (some ⟨g, off, none⟩) c H) {i : Nat} {x : Hd} (hi : H[i]? = some x) : W.cell? ⟨g, off + i * 2, none⟩ = some (.int .i64 x.1) ∧ W.cell? ⟨g, off + i * 2 + 1, none⟩ = some (.int .u8 x.2) := by
  rcases h.rd with e | ⟨g', off', cur, e, hg, hc⟩
  · rw [e] at hi; simp at hi
  · cases e
    unfold World.cell?
    rw [hg]
    exact hc i x hi
theorem Tryz.infoH : (Tryz.prog.info? 79).map (fun i => (i.zero, i.size, i.bytes)) = some (some (.agg #[.int .i64 0, .int .u8 0]), 2, 16) := by kernel_rfl
/-- A list of held bytes that is made. -/
def OwnH (n0 : Nat) (W : World) (v : Value) (H : List Hd) : Prop := W.ownsRow n0 79 2 v H.length (hcl H)
theorem ownh_nil (n0 : Nat) (W : World) : OwnH n0 W (.slice none 0 0) [] := ⟨rfl, .inl ⟨rfl, rfl⟩⟩
theorem OwnH.rd {n0 : Nat} {W : World} {v : Value} {H : List Hd} (h : OwnH n0 W v H) : ∃ a c, v = .slice a H.length c ∧ RdH W a c H ∧ ∀ g, v.ownBlock = some g → n0 ≤ g := by
  rcases h.2 with ⟨rfl, e2⟩ | ⟨g, c, cur, rfl, q1, q2, q3, q4, q5, q6⟩
  · have e0 : H = [] := List.length_eq_zero_iff.1 e2
    subst e0
    exact ⟨none, 0, rfl, rdh_nil W, fun g e => by cases e⟩
  · refine ⟨_, c, rfl, ⟨.inr ⟨g, 0, cur, rfl, q2, fun i x hi => ?_⟩, ⟨q3, by unfold maxLen at q4; omega⟩, .inr ⟨g, 0, rfl⟩⟩, fun g' e => by cases e; exact q1⟩
    have hlt := (List.getElem?_eq_some_iff.1 hi).1
    obtain ⟨h1, h2⟩ := hcl_get hi
    rw [← q6, List.getElem?_take, if_pos (by omega), Array.getElem?_toList] at h1
    rw [← q6, List.getElem?_take, if_pos (by omega), Array.getElem?_toList] at h2
    rw [Nat.zero_add]
    exact ⟨h1, h2⟩
theorem OwnH.kept {n0 : Nat} {W W' : World} {v : Value} {H : List Hd} (h : OwnH n0 W v H) (hk : ∀ g, v.ownBlock = some g → W'.heap[g]? = W.heap[g]?) : OwnH n0 W' v H := by
  refine ⟨h.1, ?_⟩
  rcases h.2 with h2 | ⟨g, c, cur, e1, q1, q2, q3⟩
  · exact .inl h2
  · exact .inr ⟨g, c, cur, e1, q1, (hk g (by rw [e1]; rfl)).trans q2, q3⟩
theorem OwnH.lt {n0 : Nat} {W : World} {v : Value} {H : List Hd} (h : OwnH n0 W v H) : ∀ g, v.ownBlock = some g → g < W.heap.size := by
  intro g e
  rcases h.2 with ⟨rfl, -⟩ | ⟨g', c, cur, rfl, q1, q2, -⟩
  · cases e
  · cases e; exact (Array.getElem?_eq_some_iff.1 q2).1
theorem apph_nil (W : World) (v : Value) (hv : v = .slice none 0 0 ∨ ∃ g n c, v = .slice (some ⟨g, 0, none⟩) n c ∧ n ≤ c) :
    (Builtin.append_ #[54, 54] 54 #[v, .slice none 0 0]).run Tryz.prog W = .ok v W := by
  obtain ⟨i, hi, hz0, hz1, hz2⟩ := info_parts Tryz.infoH
  rcases hv with rfl | ⟨g, n, c, rfl, hn⟩
  · simp [Builtin.append_, run_underlying Tryz.underlying54, sizeOf, typeInfo, hi, Builtin.lenOf, Builtin.firstCells]
  · simp [Builtin.append_, run_underlying Tryz.underlying54, sizeOf, typeInfo, hi, Builtin.lenOf, Builtin.firstCells, storeCells, hn]
theorem hd_app {n0 : Nat} (W : World) (v : Value) (A B : List Hd) (sa : Option Addr) (sc : Nat) (h : OwnH n0 W v A) (h0 : n0 ≤ W.heap.size) (hs : RdH W sa sc B) (hb : A.length + B.length ≤ 1000000000) :
    ∃ v' W', (Builtin.append_ #[54, 54] 54 #[v, .slice sa B.length sc]).run Tryz.prog W = .ok v' W' ∧ OwnH n0 W' v' (A ++ B) ∧ W.grownBy W' v.ownBlock ∧ (v'.ownBlock = v.ownBlock ∨ v'.ownBlock = some W.heap.size) := by
  obtain ⟨i, hi, hz0, hz1, hz2⟩ := info_parts Tryz.infoH
  rcases hs.sh with ⟨rfl, e1, rfl⟩ | ⟨g, off, rfl⟩
  · have e0 : B = [] := List.length_eq_zero_iff.1 e1
    subst e0
    refine ⟨v, W, ?_, by simpa using h, ⟨rfl, rfl, rfl, Nat.le_refl _, fun _ _ _ => rfl⟩, .inl rfl⟩
    apply apph_nil
    rcases h.2 with ⟨rfl, -⟩ | ⟨g, c, cur, rfl, q1, q2, q3, -⟩
    · exact .inl rfl
    · exact .inr ⟨g, _, _, rfl, q3⟩
  · obtain ⟨v', W', hr, ho, hgr, hnil, hob⟩ := run_append_own_at (P := Tryz.prog) W n0 54 54 79 i _ 2 16 Tryz.underlying54 hi hz0 hz1 hz2 rfl (by decide) v A.length (hcl A) h ⟨g, off, none⟩ B.length sc (hcl B) (hcl_len B) (fun j u hj => by
      obtain ⟨k, x, hx, q⟩ := hcl_at hj
      obtain ⟨c1, c2⟩ := hs.cells hx
      rw [Addr.add_lit]
      rcases q with ⟨rfl, rfl⟩ | ⟨rfl, rfl⟩
      · exact c1
      · rw [← Nat.add_assoc]; exact c2) (by
      intro u hu
      obtain ⟨j, hj⟩ := List.getElem?_of_mem hu
      obtain ⟨k, x, hx, q⟩ := hcl_at hj
      rcases q with ⟨-, rfl⟩ | ⟨-, rfl⟩ <;> rfl) (by unfold maxLen; omega) (by omega) h0
    have e2 : (A ++ B).length = A.length + B.length := by simp
    have ho' : OwnH n0 W' v' (A ++ B) := by unfold OwnH; rw [e2, hcl_app]; exact ho
    exact ⟨v', W', hr, ho', hgr, hob⟩
theorem elemH : Tryz.prog.elem 54 = 79 := by kernel_rfl
theorem undH : Tryz.prog.underlying 54 = some (.slice (Tryz.prog.elem 54)) := by rw [elemH]; exact Tryz.underlying54
theorem sizeH (W : World) : (sizeOf (Tryz.prog.elem 54)).run Tryz.prog W = .ok 2 W := by
  obtain ⟨i, hi, hz, hs, hb⟩ := info_parts Tryz.infoH
  rw [elemH]
  simp [sizeOf, typeInfo, hi, hs]
/-- The block of the document's held bytes. -/
def Dm (a : Option Addr) (H : List Hd) (g : Nat) : Prop := H ≠ [] ∧ ∃ o, a = some ⟨g, o, none⟩
/-- Where new ones lie. -/
def NwH (W : World) (a : Option Addr) (H : List Hd) (a' : Option Addr) (H' : List Hd) : Prop := ∀ g, Dm a' H' g → Dm a H g ∨ W.heap.size ≤ g
theorem nwh_refl (W : World) (a : Option Addr) (H : List Hd) : NwH W a H a H := fun g q => .inl q
theorem nwh_nil (W : World) (a : Option Addr) (H : List Hd) (a' : Option Addr) : NwH W a H a' [] := fun g q => absurd rfl q.1
theorem NwH.trans {W X : World} {a a' a2 : Option Addr} {H H' H2 : List Hd} (h : NwH W a H a' H') (k : NwH X a' H' a2 H2) (hs : W.heap.size ≤ X.heap.size) : NwH W a H a2 H2 := fun g q => by
  rcases k g q with q | q
  · exact h g q
  · exact .inr (Nat.le_trans hs q)
/-- The first ones. -/
theorem sl_h {a : Option Addr} {n c : Nat} (k : Nat) (hk : k ≤ c) : ∃ a', (∀ W : World, (Instr.sliceAt 54 (.slice a n c) none (some (.int .i64 (k : Int))) none).run Tryz.prog W = .ok (.slice a' k c) W) ∧ ∀ (W : World) (H : List Hd), k ≤ H.length → RdH W a c H → RdH W a' c (H.take k) := by
  refine ⟨if c = 0 then a else a.map (·.add (0 * 2)), fun W => ?_, fun W H hl hr => ?_⟩
  · rw [run_sliceAt_slice _ _ _ _ _ _ undH, run_slice_h _ _ _ _ _ undH _ _ (by omega) (by omega), sizeH]
    simp [Result.andThen, sliced]
  · have e : (if c = 0 then a else a.map (·.add (0 * 2))) = a := by
      rcases hr.sh with ⟨rfl, -, -⟩ | ⟨g, off, rfl⟩
      · simp
      · simp only [Nat.zero_mul, Option.map_some, Addr.add_lit, Nat.add_zero, ite_self]
    rw [e]
    refine ⟨?_, ⟨by rw [List.length_take]; have := hr.cap; omega, hr.cap.2⟩, hr.sh.imp (fun ⟨e1, e2, e3⟩ => ⟨e1, by rw [List.length_take]; omega, e3⟩) id⟩
    rcases hr.rd with rfl | ⟨g, off, cur, e, hg, hc⟩
    · exact .inl (by simp)
    · refine .inr ⟨g, off, cur, e, hg, fun i x hi => ?_⟩
      rw [List.getElem?_take] at hi
      split at hi
      · exact hc i x hi
      · cases hi
/-- The last ones. -/
theorem sl_l {a : Option Addr} {n c : Nat} (k : Nat) (hk : k ≤ n) (hn : n ≤ c) : ∃ a', (∀ W : World, (Instr.sliceAt 54 (.slice a n c) (some (.int .i64 (k : Int))) none none).run Tryz.prog W = .ok (.slice a' (n - k) (c - k)) W) ∧ ∀ (W : World) (H : List Hd), (H.length = n → RdH W a c H → RdH W a' (c - k) (H.drop k)) ∧ (RdH W a c H → ∀ g, Dm a' (H.drop k) g → Dm a H g) := by
  refine ⟨if c = k then a else a.map (·.add (k * 2)), fun W => ?_, fun W H => ⟨fun hl hr => ?_, fun hr g q => ?_⟩⟩
  · rw [run_sliceAt_slice _ _ _ _ _ _ undH, run_slice_l _ _ _ _ _ undH _ _ (by omega) (by omega), sizeH]
    simp [Result.andThen, sliced]
  · subst hl
    have hc2 := hr.cap
    refine ⟨?_, ⟨by rw [List.length_drop]; omega, by omega⟩, ?_⟩
    · rcases hr.rd with rfl | ⟨g, off, cur, rfl, hg, hc⟩
      · exact .inl (by simp)
      · by_cases e : c = k
        · left
          apply List.eq_nil_of_length_eq_zero
          rw [List.length_drop]; omega
        · right
          refine ⟨g, off + k * 2, cur, by rw [if_neg e]; simp only [Option.map_some, Addr.add_lit], hg, fun i x hi => ?_⟩
          rw [List.getElem?_drop] at hi
          have := hc (k + i) x hi
          rw [show off + (k + i) * 2 = off + k * 2 + i * 2 by omega] at this
          exact this
    · rcases hr.sh with ⟨rfl, e1, rfl⟩ | ⟨g, off, rfl⟩
      · left; exact ⟨by simp, by rw [List.length_drop]; omega, by omega⟩
      · right
        by_cases e : c = k
        · exact ⟨g, off, by rw [if_pos e]⟩
        · exact ⟨g, off + k * 2, by rw [if_neg e]; simp only [Option.map_some, Addr.add_lit]⟩
  · obtain ⟨q1, o, q2⟩ := q
    refine ⟨fun e => q1 (by rw [e]; simp), ?_⟩
    by_cases e : c = k
    · rw [if_pos e] at q2; exact ⟨o, q2⟩
    · rw [if_neg e] at q2
      rcases hr.sh with ⟨rfl, -, -⟩ | ⟨g', off, rfl⟩
      · simp at q2
      · simp only [Option.map_some, Addr.add_lit, Option.some.injEq, Addr.mk.injEq] at q2
        exact ⟨off, by rw [q2.1]⟩
theorem wpList_sliceH_run {P : Program} {ops : Array Oper} {rest : List Oper} {o : Oper} {a : Act} {Q : Exit → Act → World → Prop} (w : World) (hgd : o.guard = none) (t : TypeId) (x hi : Operand) (ho : o.op = .slice t x none (some hi) none) (v vh : Value)
    (hx : a.eval x = v) (hh : a.eval hi = vh) {v' : Value} (hr : (Instr.sliceAt t v none (some vh) none).run P w = .ok v' w) (h : wpList P ops Q rest (a.put o.dst v') w) : wpList P ops Q (o :: rest) a w :=
  wpList_plain hgd fun K hK => by
    unfold Oper.wp
    simp [execOp, ho, hx, hh, hr, Result.andThen]
    exact hK _ _ h
theorem wpList_sliceL_run {P : Program} {ops : Array Oper} {rest : List Oper} {o : Oper} {a : Act} {Q : Exit → Act → World → Prop} (w : World) (hgd : o.guard = none) (t : TypeId) (x lo : Operand) (ho : o.op = .slice t x (some lo) none none) (v vl : Value)
    (hx : a.eval x = v) (hl : a.eval lo = vl) {v' : Value} (hr : (Instr.sliceAt t v (some vl) none none).run P w = .ok v' w) (h : wpList P ops Q rest (a.put o.dst v') w) : wpList P ops Q (o :: rest) a w :=
  wpList_plain hgd fun K hK => by
    unfold Oper.wp
    simp [execOp, ho, hx, hl, hr, Result.andThen]
    exact hK _ _ h

/-- What is held of a Recv. -/
structure IsH (S : Rv) (H : List Hd) : Prop where
  srt : H.Pairwise (fun a b => a.1 < b.1)
  is : ∀ x ∈ H, S.read ≤ x.1 ∧ S.T x.1 = some x.2
  all : ∀ x y, S.read ≤ x → S.T x = some y → (x, y) ∈ H
/-- The document's Recv in memory. -/
def drc (v : Value) (S : Rv) : Array Value := #[.int .i64 S.limit, .int .i64 S.read, .int .i64 S.high, .int .i64 S.final, v, .bool S.ended, .bool S.reset]
structure DR (W : World) (r : Nat) (a : Option Addr) (c : Nat) (S : Rv) (H : List Hd) : Prop where
  blk : Blk W r (drc (.slice a H.length c) S) 56
  rd : RdH W a c H
  ish : IsH S H
theorem DR.cells {W : World} {r : Nat} {a : Option Addr} {c : Nat} {S : Rv} {H : List Hd} (h : DR W r a c S H) : (∀ j, W.frozen? ⟨r, j, none⟩ = false) ∧ W.cell? ⟨r, 0, none⟩ = some (.int .i64 S.limit) ∧ W.cell? ⟨r, 1, none⟩ = some (.int .i64 S.read) ∧ W.cell? ⟨r, 2, none⟩ = some (.int .i64 S.high) ∧ W.cell? ⟨r, 3, none⟩ = some (.int .i64 S.final) ∧ W.cell? ⟨r, 4, none⟩ = some (.slice a H.length c) ∧ W.cell? ⟨r, 5, none⟩ = some (.bool S.ended) ∧ W.cell? ⟨r, 6, none⟩ = some (.bool S.reset) :=
  ⟨fun j => h.blk.thaw j, h.blk.cell 0 _ rfl, h.blk.cell 1 _ rfl, h.blk.cell 2 _ rfl, h.blk.cell 3 _ rfl, h.blk.cell 4 _ rfl, h.blk.cell 5 _ rfl, h.blk.cell 6 _ rfl⟩
theorem RdH.set {W : World} {r j : Nat} {x : Value} {cs : Array Value} {a : Option Addr} {c : Nat} {H : List Hd} (h : RdH W a c H) (b : Blk W r cs 56) : RdH (W.setCell ⟨r, j, none⟩ x) a c H := h.kept fun g cur hg => set_heap W r j x g fun e => by
  subst e
  have := (show W.heap[g]? = _ from b)
  rw [hg] at this
  simp at this
theorem RdH.grownS {W W' : World} {r : Nat} {cs : Array Value} {a : Option Addr} {c : Nat} {H : List Hd} (h : RdH W a c H) (b : Blk W r cs 56) (g : W.grownBy W' (some r)) : RdH W' a c H := h.kept fun k cur hg => g.block k (Array.getElem?_eq_some_iff.1 hg).1 fun e => by
  cases e
  have := (show W.heap[r]? = _ from b)
  rw [hg] at this
  simp at this
theorem RdH.grown {W W' : World} {a : Option Addr} {c : Nat} {H : List Hd} (h : RdH W a c H) (g : W.grownBy W' none) : RdH W' a c H := h.kept fun k cur hg => g.block k (Array.getElem?_eq_some_iff.1 hg).1 (by simp)
theorem DR.grown {W W' : World} {r : Nat} {a : Option Addr} {c : Nat} {S : Rv} {H : List Hd} (h : DR W r a c S H) (g : W.grownBy W' none) : DR W' r a c S H := ⟨h.blk.grown g, h.rd.grown g, h.ish⟩
theorem DR.put {W : World} {r : Nat} {a : Option Addr} {c : Nat} {S S' : Rv} {H : List Hd} (h : DR W r a c S H) (j : Nat) (x : Value) (e : drc (.slice a H.length c) S' = (drc (.slice a H.length c) S).setIfInBounds j x) (i : IsH S' H) : DR (W.setCell ⟨r, j, none⟩ x) r a c S' H := ⟨by rw [e]; exact h.blk.setC j x, h.rd.set h.blk, i⟩
theorem IsH.same {S S' : Rv} {H : List Hd} (h : IsH S H) (hr : S'.read = S.read) (hT : S'.T = S.T) : IsH S' H := ⟨h.srt, by rw [hr, hT]; exact h.is, by rw [hr, hT]; exact h.all⟩
end Go.Proofs.YthihabjegpacaaaGreat
