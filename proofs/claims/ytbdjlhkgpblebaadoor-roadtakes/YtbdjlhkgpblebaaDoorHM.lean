/- The wheel in memory: nodes, slots, rings. -/
import Derived.Test.YtbdjlhkgpblebaaDoorHD
namespace Go.Proofs.YtbdjlhkgpblebaaDoor
open Go.RowKit
set_option linter.unusedVariables false
set_option maxRecDepth 100000

/-- A node: its block, its number, its time. -/
structure Nd where
  g : Nat
  id : Nat
  at_ : Nat

abbrev nilp : Value := .pointer none
abbrev ptr (g : Nat) : Value := .pointer (some ⟨g, 0, none⟩)
def hdp (nxt : Value) : List Nd → Value
  | [] => nxt
  | n :: _ => ptr n.g
def lstp (prev : Value) : List Nd → Value
  | [] => prev
  | n :: t => lstp (ptr n.g) t
def ndc (n : Nd) (b h : Value) : Array Value := #[.int .i64 n.id, .int .i64 n.at_, b, h]

/-- A row of nodes, linked both ways. -/
def Seg (w : World) (prev nxt : Value) : List Nd → Prop
  | [] => True
  | n :: t => Blk w n.g (ndc n prev (hdp nxt t)) 81 ∧ Seg w (ptr n.g) nxt t

theorem hdp_append (nxt : Value) (A B : List Nd) : hdp nxt (A ++ B) = hdp (hdp nxt B) A := by cases A <;> rfl
theorem lstp_snoc (prev : Value) (A : List Nd) (b : Nd) : lstp prev (A ++ [b]) = ptr b.g := by
  induction A generalizing prev with
  | nil => rfl
  | cons a t ih => exact ih _

theorem seg_append (w : World) (nxt : Value) (B : List Nd) : ∀ (A : List Nd) (prev : Value), Seg w prev nxt (A ++ B) ↔ Seg w prev (hdp nxt B) A ∧ Seg w (lstp prev A) nxt B
  | [], prev => by simp [Seg, lstp]
  | n :: t, prev => by
    show Blk w n.g (ndc n prev (hdp nxt (t ++ B))) _ ∧ Seg w (ptr n.g) nxt (t ++ B) ↔ (Blk w n.g (ndc n prev (hdp (hdp nxt B) t)) _ ∧ Seg w (ptr n.g) (hdp nxt B) t) ∧ Seg w (lstp (ptr n.g) t) nxt B
    rw [hdp_append, seg_append w nxt B t (ptr n.g), and_assoc]

theorem Seg.kept {w W : World} {nxt : Value} : ∀ {L : List Nd} {prev : Value}, Seg w prev nxt L → (∀ n ∈ L, W.heap[n.g]? = w.heap[n.g]?) → Seg W prev nxt L
  | [], _, _, _ => trivial
  | n :: t, prev, h, hk => ⟨(hk n (by simp)).trans h.1, Seg.kept h.2 (fun m hm => hk m (by simp [hm]))⟩

/-- A node of a row lies in memory as it should, whatever its neighbours. -/
theorem Seg.node {w : World} {nxt : Value} : ∀ {L : List Nd} {prev : Value}, Seg w prev nxt L → ∀ n ∈ L, ∃ b h, Blk w n.g (ndc n b h) 81
  | [], _, _, n, hn => by cases hn
  | m :: t, prev, h, n, hn => by
    rcases List.mem_cons.1 hn with rfl | hn
    · exact ⟨_, _, h.1⟩
    · exact Seg.node h.2 n hn

/-- The cell of a ring's word, and of a slot. -/
abbrev offR (i : Nat) : Nat := 2 + i * 65
abbrev offS (i s : Nat) : Nat := 2 + i * 65 + 1 + s

/-- The wheel's own block. -/
structure WB (w : World) (W mb c : Nat) (fl : Nat → Nat) (sl : Nat → Nat → List Nd) : Prop where
  ex : ∃ cs : Array Value, Blk w W cs 73 ∧ cs.size = 717 ∧ cs[0]? = some (.int .i64 (c : Int)) ∧ cs[1]? = some (.map (some mb)) ∧
    (∀ i, i < 11 → cs[offR i]? = some (.int .u64 (fl i : Int))) ∧ (∀ i s, i < 11 → s < 64 → cs[offS i s]? = some (hdp nilp (sl i s)))
  bit : ∀ i s, i < 11 → s < 64 → (fl i).testBit s = !(sl i s).isEmpty
  lt : ∀ i, i < 11 → fl i < 2 ^ 64

theorem WB.kept {w w' : World} {W mb c : Nat} {fl : Nat → Nat} {sl : Nat → Nat → List Nd} (h : WB w W mb c fl sl) (hk : w'.heap[W]? = w.heap[W]?) : WB w' W mb c fl sl := by
  obtain ⟨cs, hb, r⟩ := h.ex
  exact ⟨⟨cs, hk.trans hb, r⟩, h.bit, h.lt⟩
theorem WB.W_lt {w : World} {W mb c : Nat} {fl : Nat → Nat} {sl : Nat → Nat → List Nd} (h : WB w W mb c fl sl) : W < w.heap.size := by
  obtain ⟨cs, hb, r⟩ := h.ex
  exact hb.lt
theorem WB.thaw {w : World} {W mb c : Nat} {fl : Nat → Nat} {sl : Nat → Nat → List Nd} (h : WB w W mb c fl sl) (j : Nat) : w.frozen? ⟨W, j, none⟩ = false := by
  obtain ⟨cs, hb, r⟩ := h.ex
  exact hb.thaw j
theorem WB.clock {w : World} {W mb c : Nat} {fl : Nat → Nat} {sl : Nat → Nat → List Nd} (h : WB w W mb c fl sl) : w.cell? ⟨W, 0, none⟩ = some (.int .i64 (c : Int)) := by
  obtain ⟨cs, hb, h0, h1, r⟩ := h.ex
  exact hb.cell 0 _ h1
theorem WB.map {w : World} {W mb c : Nat} {fl : Nat → Nat} {sl : Nat → Nat → List Nd} (h : WB w W mb c fl sl) : w.cell? ⟨W, 1, none⟩ = some (.map (some mb)) := by
  obtain ⟨cs, hb, h0, h1, h2, r⟩ := h.ex
  exact hb.cell 1 _ h2
theorem WB.ring {w : World} {W mb c : Nat} {fl : Nat → Nat} {sl : Nat → Nat → List Nd} (h : WB w W mb c fl sl) (i : Nat) (hi : i < 11) : w.cell? ⟨W, 2 + i * 65, none⟩ = some (.int .u64 (fl i : Int)) := by
  obtain ⟨cs, hb, h0, h1, h2, h3, r⟩ := h.ex
  exact hb.cell _ _ (h3 i hi)
theorem WB.slot {w : World} {W mb c : Nat} {fl : Nat → Nat} {sl : Nat → Nat → List Nd} (h : WB w W mb c fl sl) (i s : Nat) (hi : i < 11) (hs : s < 64) : w.cell? ⟨W, 2 + i * 65 + 1 + s, none⟩ = some (hdp nilp (sl i s)) := by
  obtain ⟨cs, hb, h0, h1, h2, h3, h4⟩ := h.ex
  exact hb.cell _ _ (h4 i s hi hs)

/-- One slot turned, with its bit. -/
def up (sl : Nat → Nat → List Nd) (i s : Nat) (L : List Nd) : Nat → Nat → List Nd := fun j t => if j = i ∧ t = s then L else sl j t
def upf (fl : Nat → Nat) (i x : Nat) : Nat → Nat := fun j => if j = i then x else fl j

theorem up_same (sl : Nat → Nat → List Nd) (i s : Nat) (L : List Nd) : up sl i s L i s = L := by simp [up]
theorem up_other (sl : Nat → Nat → List Nd) (i s : Nat) (L : List Nd) {j t : Nat} (h : ¬ (j = i ∧ t = s)) : up sl i s L j t = sl j t := by simp [up, h]

/-- The word of a ring, and one of its slots, written. -/
theorem WB.set {w : World} {W mb c : Nat} {fl : Nat → Nat} {sl : Nat → Nat → List Nd} (h : WB w W mb c fl sl) (i s : Nat) (hi : i < 11) (hs : s < 64) (L : List Nd) (x : Nat) (hx : x < 2 ^ 64)
    (hb : ∀ t, t < 64 → x.testBit t = if t = s then !L.isEmpty else (fl i).testBit t) :
    WB ((w.setCell ⟨W, 2 + i * 65 + 1 + s, none⟩ (hdp nilp L)).setCell ⟨W, 2 + i * 65, none⟩ (.int .u64 (x : Int))) W mb c (upf fl i x) (up sl i s L) := by
  obtain ⟨cs, hB, h0, h1, h2, h3, h4⟩ := h.ex
  refine ⟨⟨_, (hB.setC _ _).setC _ _, by simp [h0], ?_, ?_, fun j hj => ?_, fun j t hj ht => ?_⟩, fun j t hj ht => ?_, fun j hj => ?_⟩
  · rw [Array.getElem?_setIfInBounds_ne (by omega), Array.getElem?_setIfInBounds_ne (by omega)]; exact h1
  · rw [Array.getElem?_setIfInBounds_ne (by omega), Array.getElem?_setIfInBounds_ne (by omega)]; exact h2
  · by_cases e : j = i
    · subst e
      rw [Array.getElem?_setIfInBounds_self_of_lt (by simp [h0]; omega)]
      simp [upf]
    · rw [Array.getElem?_setIfInBounds_ne (by simp only [offR]; omega), Array.getElem?_setIfInBounds_ne (by simp only [offR]; omega), h3 j hj]
      simp [upf, e]
  · by_cases e : j = i ∧ t = s
    · obtain ⟨rfl, rfl⟩ := e
      rw [Array.getElem?_setIfInBounds_ne (by simp only [offS]; omega), Array.getElem?_setIfInBounds_self_of_lt (by rw [h0]; omega), up_same]
    · rw [Array.getElem?_setIfInBounds_ne (by simp only [offS]; omega), Array.getElem?_setIfInBounds_ne (by simp only [offS]; omega), h4 j t hj ht, up_other _ _ _ _ e]
  · by_cases e : j = i
    · subst e
      simp only [upf, if_pos]
      rw [hb t ht]
      by_cases e2 : t = s
      · subst e2; rw [if_pos rfl, up_same]
      · rw [if_neg e2, up_other _ _ _ _ (by simp [e2]), h.bit j t hj ht]
    · simp only [upf, if_neg e]
      rw [up_other _ _ _ _ (by simp [e]), h.bit j t hj ht]
  · by_cases e : j = i
    · subst e; simp only [upf, if_pos]; exact hx
    · simp only [upf, if_neg e]; exact h.lt j hj
/-- The clock, written. -/
theorem WB.tick {w : World} {W mb c : Nat} {fl : Nat → Nat} {sl : Nat → Nat → List Nd} (h : WB w W mb c fl sl) (t : Nat) : WB (w.setCell ⟨W, 0, none⟩ (.int .i64 (t : Int))) W mb t fl sl := by
  obtain ⟨cs, hB, h0, h1, h2, h3, h4⟩ := h.ex
  refine ⟨⟨_, hB.setC _ _, by simp [h0], ?_, ?_, fun j hj => ?_, fun j t hj ht => ?_⟩, h.bit, h.lt⟩
  · rw [Array.getElem?_setIfInBounds_self_of_lt (by omega)]
  · rw [Array.getElem?_setIfInBounds_ne (by omega)]; exact h2
  · rw [Array.getElem?_setIfInBounds_ne (by simp only [offR]; omega)]; exact h3 j hj
  · rw [Array.getElem?_setIfInBounds_ne (by simp only [offS]; omega)]; exact h4 j t hj ht

/-- The slots and what lies in them: the nodes of L, each where the clock says. -/
structure SW (w : World) (W mb c : Nat) (fl : Nat → Nat) (sl : Nat → Nat → List Nd) (L : List Nd) : Prop where
  wb : WB w W mb c fl sl
  seg : ∀ i s, i < 11 → s < 64 → Seg w nilp nilp (sl i s)
  mem : ∀ i s, i < 11 → s < 64 → (sl i s).Perm (L.filter fun n => pl c n.at_ = (i, s))
  gs : (L.map Nd.g).Nodup
  nW : ∀ n ∈ L, n.g ≠ W
  lt : ∀ n ∈ L, n.at_ < 2 ^ 62
  c50 : c ≤ 2 ^ 50

theorem SW.perm {w : World} {W mb c : Nat} {fl : Nat → Nat} {sl : Nat → Nat → List Nd} {L L' : List Nd} (h : SW w W mb c fl sl L) (p : L.Perm L') : SW w W mb c fl sl L' :=
  ⟨h.wb, h.seg, fun i s hi hs => (h.mem i s hi hs).trans (p.filter _), (p.map Nd.g).nodup_iff.1 h.gs, fun n hn => h.nW n (p.mem_iff.2 hn), fun n hn => h.lt n (p.mem_iff.2 hn), h.c50⟩

theorem SW.in_slot {w : World} {W mb c : Nat} {fl : Nat → Nat} {sl : Nat → Nat → List Nd} {L : List Nd} (h : SW w W mb c fl sl L) {n : Nd} (hn : n ∈ L) : (pl c n.at_).1 < 11 ∧ (pl c n.at_).2 < 64 ∧ n ∈ sl (pl c n.at_).1 (pl c n.at_).2 := by
  have hc := h.c50
  have h1 := pl_lt (h.lt n hn) (c := c) (by omega)
  refine ⟨h1.1, h1.2, (h.mem _ _ h1.1 h1.2).mem_iff.2 ?_⟩
  rw [List.mem_filter]
  exact ⟨hn, by simp⟩
theorem SW.of_slot {w : World} {W mb c : Nat} {fl : Nat → Nat} {sl : Nat → Nat → List Nd} {L : List Nd} (h : SW w W mb c fl sl L) {i s : Nat} (hi : i < 11) (hs : s < 64) {n : Nd} (hn : n ∈ sl i s) : n ∈ L ∧ pl c n.at_ = (i, s) := by
  have := (h.mem i s hi hs).mem_iff.1 hn
  rw [List.mem_filter] at this
  exact ⟨this.1, by simpa using this.2⟩
theorem SW.node {w : World} {W mb c : Nat} {fl : Nat → Nat} {sl : Nat → Nat → List Nd} {L : List Nd} (h : SW w W mb c fl sl L) {n : Nd} (hn : n ∈ L) : ∃ b f, Blk w n.g (ndc n b f) 81 := by
  obtain ⟨h1, h2, h3⟩ := h.in_slot hn
  exact (h.seg _ _ h1 h2).node n h3
theorem SW.kept {w w' : World} {W mb c : Nat} {fl : Nat → Nat} {sl : Nat → Nat → List Nd} {L : List Nd} (h : SW w W mb c fl sl L) (hW : w'.heap[W]? = w.heap[W]?) (hk : ∀ n ∈ L, w'.heap[n.g]? = w.heap[n.g]?) : SW w' W mb c fl sl L :=
  ⟨h.wb.kept hW, fun i s hi hs => (h.seg i s hi hs).kept (fun n hn => hk n (h.of_slot hi hs hn).1), h.mem, h.gs, h.nW, h.lt, h.c50⟩
theorem SW.grown {w w' : World} {W mb c : Nat} {fl : Nat → Nat} {sl : Nat → Nat → List Nd} {L : List Nd} (h : SW w W mb c fl sl L) (g : w.grownBy w' none) : SW w' W mb c fl sl L :=
  h.kept (g.block W h.wb.W_lt (by simp)) (fun n hn => by
    obtain ⟨b, f, hb⟩ := h.node hn
    exact g.block n.g hb.lt (by simp))
theorem nd_eq {L : List Nd} (h : (L.map Nd.g).Nodup) {n m : Nd} (hn : n ∈ L) (hm : m ∈ L) (e : n.g = m.g) : n = m := by
  induction L with
  | nil => cases hn
  | cons a t ih =>
    rw [List.map_cons, List.nodup_cons] at h
    rcases List.mem_cons.1 hn with h1 | h1 <;> rcases List.mem_cons.1 hm with h2 | h2
    · rw [h1, h2]
    · subst h1; exact absurd (List.mem_map.2 ⟨m, h2, e.symm⟩) h.1
    · subst h2; exact absurd (List.mem_map.2 ⟨n, h1, e⟩) h.1
    · exact ih h.2 h1 h2
end Go.Proofs.YtbdjlhkgpblebaaDoor
