/- Rows of pieces in memory; a row may begin behind the beginning of its block. -/
import Derived.Test.YthihabjegpacaaaGreatSN
namespace Go.Proofs.YthihabjegpacaaaGreat.Pq
set_option maxRecDepth 100000
open Go.RowKit
set_option linter.unusedVariables false
set_option maxHeartbeats 400000

/-- A piece as it lies in memory. -/
structure Pc where
  off : Int
  a : Option Addr
  n : Nat
  c : Nat
/-- The cells of pieces. -/
def cl : List Pc → List Value
  | [] => []
  | s :: L => .int .i64 s.off :: .slice s.a s.n s.c :: cl L
theorem cl_length (L : List Pc) : (cl L).length = L.length * 2 := by
  induction L with
  | nil => rfl
  | cons s L ih => simp only [cl, List.length_cons, ih]; omega
theorem cl_append (A B : List Pc) : cl (A ++ B) = cl A ++ cl B := by
  induction A with
  | nil => rfl
  | cons s A ih => simp [cl, ih]
theorem cl_one (L : List Pc) : ∀ u ∈ cl L, u.oneCell' = true := by
  induction L with
  | nil => intro u hu; cases hu
  | cons s L ih =>
    intro u hu
    simp only [cl, List.mem_cons] at hu
    rcases hu with rfl | rfl | hu
    · rfl
    · rfl
    · exact ih u hu
theorem cl_off (L : List Pc) (j : Nat) (x : Pc) (h : L[j]? = some x) : (cl L)[j * 2]? = some (.int .i64 x.off) := by
  induction L generalizing j with
  | nil => simp at h
  | cons s L ih =>
    cases j with
    | zero => simp at h; subst h; rfl
    | succ j => rw [show (j + 1) * 2 = j * 2 + 1 + 1 by omega]; simpa [cl] using ih j (by simpa using h)
theorem cl_data (L : List Pc) (j : Nat) (x : Pc) (h : L[j]? = some x) : (cl L)[j * 2 + 1]? = some (.slice x.a x.n x.c) := by
  induction L generalizing j with
  | nil => simp at h
  | cons s L ih =>
    cases j with
    | zero => simp at h; subst h; rfl
    | succ j => rw [show (j + 1) * 2 + 1 = j * 2 + 1 + 1 + 1 by omega]; simpa [cl] using ih j (by simpa using h)

/-- A row that begins behind pr. -/
def RowAt (w : World) (g : Nat) (pr : List Value) (c : Nat) (L : List Pc) (sp : List Value) : Prop := w.heap[g]? = some (.cells (pr ++ (cl L ++ sp)).toArray 88 (0, 0)) ∧ L.length * 2 + sp.length = c * 2 ∧ c ≤ maxLen
/-- A row of pieces. -/
def Row (w : World) (v : Value) (L : List Pc) : Prop := (v = .slice none 0 0 ∧ L = []) ∨ ∃ g pr c sp, v = .slice (some ⟨g, pr.length, none⟩) L.length c ∧ RowAt w g pr c L sp
theorem Row.at {w : World} {v : Value} {L : List Pc} (h : Row w v L) : (v = .slice none 0 0 ∧ L = []) ∨ ∃ g pr c sp, v = .slice (some ⟨g, pr.length, none⟩) L.length c ∧ RowAt w g pr c L sp := h
theorem RowAt.row {w : World} {g c : Nat} {pr : List Value} {L : List Pc} {sp : List Value} (h : RowAt w g pr c L sp) : Row w (.slice (some ⟨g, pr.length, none⟩) L.length c) L := .inr ⟨g, pr, c, sp, rfl, h⟩
theorem RowAt.lt {w : World} {g c : Nat} {pr : List Value} {L : List Pc} {sp : List Value} (h : RowAt w g pr c L sp) : g < w.heap.size := by
  rcases Nat.lt_or_ge g w.heap.size with h1 | h1
  · exact h1
  · have := h.1; rw [Array.getElem?_eq_none h1] at this; cases this
theorem RowAt.cell {w : World} {g c : Nat} {pr : List Value} {L : List Pc} {sp : List Value} (h : RowAt w g pr c L sp) (j : Nat) (v : Value) (hj : (cl L)[j]? = some v) : w.cell? ⟨g, pr.length + j, none⟩ = some v := by
  unfold World.cell?
  simp only [h.1]
  have hlt := (List.getElem?_eq_some_iff.1 hj).1
  simp only [List.getElem?_toArray]
  rw [List.getElem?_append_right (by omega), Nat.add_sub_cancel_left, List.getElem?_append_left hlt, hj]
  simp
theorem Row.shape {w : World} {v : Value} {L : List Pc} (h : Row w v L) : ∃ a c, v = .slice a L.length c ∧ L.length ≤ c ∧ c ≤ maxLen := by
  rcases h with ⟨rfl, rfl⟩ | ⟨g, pr, c, sp, rfl, hR⟩
  · exact ⟨none, 0, rfl, Nat.le_refl _, Nat.zero_le _⟩
  · exact ⟨_, c, rfl, by have := hR.2.1; omega, hR.2.2⟩
theorem Row.lt {w : World} {v : Value} {L : List Pc} (h : Row w v L) : ∀ g, v.ownBlock = some g → g < w.heap.size := fun g e => by
  rcases h with ⟨rfl, rfl⟩ | ⟨g', pr, c, sp, rfl, hR⟩
  · cases e
  · cases e; exact hR.lt
theorem Row.kept {w w' : World} {v : Value} {L : List Pc} (h : Row w v L) (hk : ∀ g, v.ownBlock = some g → w'.heap[g]? = w.heap[g]?) : Row w' v L := by
  rcases h with h | ⟨g, pr, c, sp, rfl, hR⟩
  · exact .inl h
  · exact .inr ⟨g, pr, c, sp, rfl, (hk g rfl).trans hR.1, hR.2⟩
theorem row_nil (w : World) : Row w (.slice none 0 0) [] := .inl ⟨rfl, rfl⟩

theorem Tryz.infoP : (Tryz.prog.info? 88).map (fun i => (i.zero, i.size, i.bytes)) = some (some (.agg #[.int .i64 0, .slice none 0 0]), 2, 32) := by kernel_rfl
theorem Tryz.sizeP : (Tryz.prog.info? 88).map (·.size) = some 2 := by kernel_rfl

/-- append where there is room, at any place of a block. -/
theorem run_append_off {P : Program} (w : World) (t ty e : TypeId) (i : TypeInfo) (ht : P.underlying t = some (.slice e)) (hi : P.info? e = some i)
    (g o sLen sCap : Nat) (cur : Array Value) (tt : TypeId) (hg : w.heap[g]? = some (.cells cur tt (0, 0)))
    (a : Addr) (m c : Nat) (news : List Value) (hl : news.length = m * i.size) (hnews : ∀ j u, news[j]? = some u → w.cell? (a.add j) = some u) (h1 : ∀ u ∈ news, u.oneCell' = true)
    (hroom : sLen + m ≤ sCap) (hfit : o + sLen * i.size + news.length ≤ cur.size) :
    (Builtin.append_ #[t, t] ty #[.slice (some ⟨g, o, none⟩) sLen sCap, .slice (some a) m c]).run P w =
      .ok (.slice (some ⟨g, o, none⟩) (sLen + m) sCap) (w.setRow g (cur.toList.take (o + sLen * i.size) ++ news ++ cur.toList.drop (o + sLen * i.size + news.length)).toArray) := by
  have hf := run_firstCells_some (P := P) w i.size m a m c news hl hnews
  have hst := run_storeCells_at P g (o + sLen * i.size) tt news 0 cur w hg (by simpa using hfit) h1
  simp only [Nat.add_zero] at hst
  simp [Builtin.append_, run_underlying ht, sizeOf, typeInfo, hi, Builtin.lenOf, hroom, hf, Addr.add_lit, hst]
end Go.Proofs.YthihabjegpacaaaGreat.Pq
