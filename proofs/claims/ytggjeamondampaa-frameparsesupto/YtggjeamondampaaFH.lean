/- Blocks as wholes: a struct in a variable of its own. -/
import Derived.Test.YtggjeamondampaaRows
import Derived.Test.YtggjeamondampaaFA
import Derived.Deep.WholeRow
import Derived.Laws.ResultCell
import Derived.Maps.AppendAt
namespace Go.Proofs.Ytggjeamondampaa
open Go.RowKit
set_option linter.unusedVariables false
set_option maxRecDepth 100000

/-- A frame's cells. -/
abbrev Fr.cs (f : Fr) (d r : Value) : Array Value := #[.int .i64 f.kind, .int .i64 f.stream, .int .i64 f.offset, d, .int .i64 f.size, .bool f.fin, .bool f.tail, .int .i64 f.limit, .bool f.uni, .int .i64 f.code, .bool f.own, .int .i64 f.delay, r, .bool f.marks, .int .i64 f.c0, .int .i64 f.c1, .int .i64 f.c2]
abbrev Fr.val (f : Fr) (d r : Value) : Value := .agg (f.cs d r)
abbrev c4 (p : Nat × Nat × Nat × Nat) : Array Value := #[.int .i64 (p.1 : Nat), .int .i64 (p.2.1 : Nat), .int .i64 (p.2.2.1 : Nat), .int .i64 (p.2.2.2 : Nat)]
abbrev p4 (p : Nat × Nat × Nat × Nat) : Value := .agg (c4 p)
abbrev nilS : Value := .slice none 0 0

theorem then_x {K : Act → World → Prop} {Q : Exit → Act → World → Prop} {i : Nat} {a : Act} {w : World} (h : Q (.exit i) a w) : Exit.then K Q (.exit i) a w := h
theorem then_n {K : Act → World → Prop} {Q : Exit → Act → World → Prop} {a : Act} {w : World} (h : K a w) : Exit.then K Q .normal a w := h
theorem then_r {K : Act → World → Prop} {Q : Exit → Act → World → Prop} {a : Act} {w : World} (h : Q .ret a w) : Exit.then K Q .ret a w := h
theorem blk_o {Q : Exit → Act → World → Prop} {i j : Nat} {a : Act} {w : World} (n : i ≠ j) (h : Q (.exit i) a w) : Exit.inBlock j Q (.exit i) a w := by simp only [Exit.inBlock]; rw [if_neg n]; exact h
theorem blk_s {Q : Exit → Act → World → Prop} {i : Nat} {a : Act} {w : World} (h : Q .normal a w) : Exit.inBlock i Q (.exit i) a w := by simp [Exit.inBlock]; exact h
theorem blk_r {Q : Exit → Act → World → Prop} {i : Nat} {a : Act} {w : World} (h : Q .ret a w) : Exit.inBlock i Q .ret a w := h
theorem blk_n {Q : Exit → Act → World → Prop} {i : Nat} {a : Act} {w : World} (h : Q .normal a w) : Exit.inBlock i Q .normal a w := h

/-- A block that holds these cells. -/
def Blk (w : World) (g : Nat) (cs : Array Value) (t : TypeId) : Prop := w.heap[g]? = some (.cells cs t (0, 0))

theorem Blk.new (w : World) (cs : Array Value) (t : TypeId) : Blk (w.alloc (.cells cs t)) w.heap.size cs t := heap_alloc_new w _
theorem Blk.alloc {w : World} {g : Nat} {cs : Array Value} {t : TypeId} (h : Blk w g cs t) (o : Obj) : Blk (w.alloc o) g cs t := by
  have hlt : g < w.heap.size := by
    by_cases c : g < w.heap.size
    · exact c
    · have : w.heap[g]? = none := by simp; omega
      rw [Blk, this] at h; simp at h
  have e : (w.alloc o).heap[g]? = w.heap[g]? := by
    show (w.heap.push o)[g]? = w.heap[g]?
    rw [Array.getElem?_push, if_neg (Nat.ne_of_lt hlt)]
  exact e.trans h
theorem Blk.drew {w : World} {g : Nat} {cs : Array Value} {t : TypeId} (h : Blk w g cs t) : Blk w.drew g cs t := h
theorem Blk.lt {w : World} {g : Nat} {cs : Array Value} {t : TypeId} (h : Blk w g cs t) : g < w.heap.size := by
  by_cases c : g < w.heap.size
  · exact c
  · have : w.heap[g]? = none := by simp; omega
    rw [Blk, this] at h; simp at h

theorem Blk.two (w : World) (A B : Array Value) (tA tB : TypeId) : Blk ((w.alloc (.cells A tA)).alloc (.cells B tB)) w.heap.size A tA ∧ Blk ((w.alloc (.cells A tA)).alloc (.cells B tB)) (w.heap.size + 1) B tB ∧ w.grownBy ((w.alloc (.cells A tA)).alloc (.cells B tB)) none := by
  have e : (w.alloc (.cells A tA)).heap.size = w.heap.size + 1 := by show (w.heap.push _).size = _; simp
  refine ⟨(Blk.new w A tA).alloc _, ?_, (World.grownBy_alloc w _ none).trans (World.grownBy_alloc _ _ none)⟩
  rw [← e]; exact Blk.new _ B tB

theorem grown_set {w W : World} (g : w.grownBy W none) (b j : Nat) (v : Value) (hb : w.heap.size ≤ b) : w.grownBy (W.setCell ⟨b, j, none⟩ v) none := by
  refine ⟨g.os, g.tape, g.output, ?_, ?_⟩
  · show w.heap.size ≤ (W.heap.modify b _).size
    rw [Array.size_modify]; exact g.size
  · intro i hi hn
    have e : (W.setCell ⟨b, j, none⟩ v).heap[i]? = W.heap[i]? := by
      simp only [World.setCell, Array.getElem?_modify]
      rw [if_neg (by omega)]
    rw [e]; exact g.block i hi hn
theorem Blk.grown {w W : World} {b : Nat} {cs : Array Value} {t : TypeId} (h : Blk w b cs t) (g : w.grownBy W none) : Blk W b cs t := (g.block b h.lt (by simp)).trans h
theorem grown_drew' {w W : World} (g : w.grownBy W none) : w.grownBy W.drew none := ⟨g.os, g.tape, g.output, g.size, g.block⟩

theorem setRow_same {w : World} {g : Nat} {cs : Array Value} {t : TypeId} (h : Blk w g cs t) : w.setRow g cs = w := by
  have e : (w.setRow g cs).heap = w.heap := by
    simp only [World.setRow]
    apply Array.ext_getElem?
    intro i
    rw [Array.getElem?_modify]
    by_cases c : g = i
    · subst c; rw [if_pos rfl, h]; rfl
    · rw [if_neg c]
  have e2 : w.setRow g cs = { w with heap := (w.setRow g cs).heap } := rfl
  rw [e2, e]

theorem Blk.loadC {P : Program} {w : World} {g : Nat} {cs : Array Value} {t : TypeId} (h : Blk w g cs t) (n : Nat) (hn : cs.size = n) : (loadCellsFrom ⟨g, 0, none⟩ 0 n #[]).run P w = .ok cs w := by
  subst hn
  have := run_loadCells_list (P := P) w ⟨g, 0, none⟩ cs.toList (fun j v hv => by
    have hadd : (⟨g, 0, none⟩ : Addr).add j = ⟨g, j, none⟩ := by unfold Addr.add; split <;> simp_all
    rw [hadd, cell_of_row _ _ j cs t (0, 0) h]
    simpa using hv)
  simpa [loadCells] using this

theorem Blk.storeC {P : Program} {w : World} {g : Nat} {cs : Array Value} {t : TypeId} (h : Blk w g cs t) (l : List Value) (hl : cs.toList = l) (h1 : ∀ v ∈ l, v.oneCell' = true) : (storeCells ⟨g, 0, none⟩ l 0).run P w = .ok () w := by
  subst hl
  have := run_storeCells_from (P := P) g t cs.toList 0 cs w h (by simp) (fun v hv => h1 v hv)
  rw [this]
  have e := setRow_same h
  simpa using e

theorem Blk.cell {w : World} {g : Nat} {cs : Array Value} {t : TypeId} (h : Blk w g cs t) (j : Nat) (v : Value) (hv : cs[j]? = some v) : w.cell? ⟨g, j, none⟩ = some v := by
  rw [cell_of_row _ _ j cs t (0, 0) h]; exact hv
theorem Blk.thaw {w : World} {g : Nat} {cs : Array Value} {t : TypeId} (h : Blk w g cs t) (j : Nat) : w.frozen? ⟨g, j, none⟩ = false := by
  have h' : w.heap[g]? = some (.cells cs t (0, 0)) := h
  simp [World.frozen?, h']
theorem Blk.setC {w : World} {g : Nat} {cs : Array Value} {t : TypeId} (h : Blk w g cs t) (j : Nat) (v : Value) : Blk (w.setCell ⟨g, j, none⟩ v) g (cs.setIfInBounds j v) t := by
  have h' : w.heap[g]? = some (.cells cs t (0, 0)) := h
  simp [Blk, World.setCell, Array.getElem?_modify, h']
theorem Blk.setO {w : World} {g : Nat} {cs : Array Value} {t : TypeId} (h : Blk w g cs t) (g' j : Nat) (v : Value) (hn : g' ≠ g) : Blk (w.setCell ⟨g', j, none⟩ v) g cs t := by
  have h' : w.heap[g]? = some (.cells cs t (0, 0)) := h
  simp [Blk, World.setCell, Array.getElem?_modify, h', hn]
theorem Blk.same {w : World} {g : Nat} {cs : Array Value} {t : TypeId} (h : Blk w g cs t) (j : Nat) (v : Value) (hv : cs[j]? = some v) : w.setCell ⟨g, j, none⟩ v = w := by
  have h' : w.heap[g]? = some (.cells cs t (0, 0)) := h
  have e : (w.setCell ⟨g, j, none⟩ v).heap = w.heap := by
    simp only [World.setCell]
    apply Array.ext_getElem?
    intro i
    rw [Array.getElem?_modify]
    by_cases c : g = i
    · subst c
      rw [if_pos rfl, h']
      simp
      apply Array.ext_getElem?
      intro m
      rw [Array.getElem?_setIfInBounds]
      by_cases c : j = m
      · subst c
        rw [if_pos rfl, hv]
        split
        · rfl
        · rename_i hx; have := Array.getElem?_eq_none (xs := cs) (i := j) (by omega); rw [this] at hv; simp at hv
      · rw [if_neg c]
    · rw [if_neg c]
  have e2 : w.setCell ⟨g, j, none⟩ v = { w with heap := (w.setCell ⟨g, j, none⟩ v).heap } := rfl
  rw [e2, e]

/-- The cells of a frame's block, each. -/
theorem Blk.cells {w : World} {g : Nat} {f : Fr} {d r : Value} {t : TypeId} (h : Blk w g (f.cs d r) t) : w.cell? ⟨g, 0, none⟩ = some (.int .i64 f.kind) ∧ w.cell? ⟨g, 1, none⟩ = some (.int .i64 f.stream) ∧ w.cell? ⟨g, 2, none⟩ = some (.int .i64 f.offset) ∧ w.cell? ⟨g, 3, none⟩ = some (d) ∧ w.cell? ⟨g, 4, none⟩ = some (.int .i64 f.size) ∧ w.cell? ⟨g, 5, none⟩ = some (.bool f.fin) ∧ w.cell? ⟨g, 6, none⟩ = some (.bool f.tail) ∧ w.cell? ⟨g, 7, none⟩ = some (.int .i64 f.limit) ∧ w.cell? ⟨g, 8, none⟩ = some (.bool f.uni) ∧ w.cell? ⟨g, 9, none⟩ = some (.int .i64 f.code) ∧ w.cell? ⟨g, 10, none⟩ = some (.bool f.own) ∧ w.cell? ⟨g, 11, none⟩ = some (.int .i64 f.delay) ∧ w.cell? ⟨g, 12, none⟩ = some (r) ∧ w.cell? ⟨g, 13, none⟩ = some (.bool f.marks) ∧ w.cell? ⟨g, 14, none⟩ = some (.int .i64 f.c0) ∧ w.cell? ⟨g, 15, none⟩ = some (.int .i64 f.c1) ∧ w.cell? ⟨g, 16, none⟩ = some (.int .i64 f.c2) :=
  ⟨h.cell 0 _ rfl, h.cell 1 _ rfl, h.cell 2 _ rfl, h.cell 3 _ rfl, h.cell 4 _ rfl, h.cell 5 _ rfl, h.cell 6 _ rfl, h.cell 7 _ rfl, h.cell 8 _ rfl, h.cell 9 _ rfl, h.cell 10 _ rfl, h.cell 11 _ rfl, h.cell 12 _ rfl, h.cell 13 _ rfl, h.cell 14 _ rfl, h.cell 15 _ rfl, h.cell 16 _ rfl⟩
theorem Blk.sames {w : World} {g : Nat} {f : Fr} {d r : Value} {t : TypeId} (h : Blk w g (f.cs d r) t) : w.setCell ⟨g, 0, none⟩ (.int .i64 f.kind) = w ∧ w.setCell ⟨g, 1, none⟩ (.int .i64 f.stream) = w ∧ w.setCell ⟨g, 2, none⟩ (.int .i64 f.offset) = w ∧ w.setCell ⟨g, 3, none⟩ (d) = w ∧ w.setCell ⟨g, 4, none⟩ (.int .i64 f.size) = w ∧ w.setCell ⟨g, 5, none⟩ (.bool f.fin) = w ∧ w.setCell ⟨g, 6, none⟩ (.bool f.tail) = w ∧ w.setCell ⟨g, 7, none⟩ (.int .i64 f.limit) = w ∧ w.setCell ⟨g, 8, none⟩ (.bool f.uni) = w ∧ w.setCell ⟨g, 9, none⟩ (.int .i64 f.code) = w ∧ w.setCell ⟨g, 10, none⟩ (.bool f.own) = w ∧ w.setCell ⟨g, 11, none⟩ (.int .i64 f.delay) = w ∧ w.setCell ⟨g, 12, none⟩ (r) = w ∧ w.setCell ⟨g, 13, none⟩ (.bool f.marks) = w ∧ w.setCell ⟨g, 14, none⟩ (.int .i64 f.c0) = w ∧ w.setCell ⟨g, 15, none⟩ (.int .i64 f.c1) = w ∧ w.setCell ⟨g, 16, none⟩ (.int .i64 f.c2) = w :=
  ⟨h.same 0 _ rfl, h.same 1 _ rfl, h.same 2 _ rfl, h.same 3 _ rfl, h.same 4 _ rfl, h.same 5 _ rfl, h.same 6 _ rfl, h.same 7 _ rfl, h.same 8 _ rfl, h.same 9 _ rfl, h.same 10 _ rfl, h.same 11 _ rfl, h.same 12 _ rfl, h.same 13 _ rfl, h.same 14 _ rfl, h.same 15 _ rfl, h.same 16 _ rfl⟩
theorem Blk.thaws {w : World} {g : Nat} {cs : Array Value} {t : TypeId} (h : Blk w g cs t) : ∀ j, w.frozen? ⟨g, j, none⟩ = false := fun j => h.thaw j

theorem Blk.set17 {w : World} {g : Nat} {u0 u1 u2 u3 u4 u5 u6 u7 u8 u9 u10 u11 u12 u13 u14 u15 u16 v0 v1 v2 v3 v4 v5 v6 v7 v8 v9 v10 v11 v12 v13 v14 v15 v16 : Value} {t : TypeId} (h : Blk w g #[u0, u1, u2, u3, u4, u5, u6, u7, u8, u9, u10, u11, u12, u13, u14, u15, u16] t) : Blk (((((((((((((((((w.setCell ⟨g, 0, none⟩ v0).setCell ⟨g, 1, none⟩ v1).setCell ⟨g, 2, none⟩ v2).setCell ⟨g, 3, none⟩ v3).setCell ⟨g, 4, none⟩ v4).setCell ⟨g, 5, none⟩ v5).setCell ⟨g, 6, none⟩ v6).setCell ⟨g, 7, none⟩ v7).setCell ⟨g, 8, none⟩ v8).setCell ⟨g, 9, none⟩ v9).setCell ⟨g, 10, none⟩ v10).setCell ⟨g, 11, none⟩ v11).setCell ⟨g, 12, none⟩ v12).setCell ⟨g, 13, none⟩ v13).setCell ⟨g, 14, none⟩ v14).setCell ⟨g, 15, none⟩ v15).setCell ⟨g, 16, none⟩ v16) g #[v0, v1, v2, v3, v4, v5, v6, v7, v8, v9, v10, v11, v12, v13, v14, v15, v16] t := by
  have h1 : Blk (w.setCell ⟨g, 0, none⟩ v0) g #[v0, u1, u2, u3, u4, u5, u6, u7, u8, u9, u10, u11, u12, u13, u14, u15, u16] t := h.setC 0 v0
  have h2 : Blk ((w.setCell ⟨g, 0, none⟩ v0).setCell ⟨g, 1, none⟩ v1) g #[v0, v1, u2, u3, u4, u5, u6, u7, u8, u9, u10, u11, u12, u13, u14, u15, u16] t := h1.setC 1 v1
  have h3 : Blk (((w.setCell ⟨g, 0, none⟩ v0).setCell ⟨g, 1, none⟩ v1).setCell ⟨g, 2, none⟩ v2) g #[v0, v1, v2, u3, u4, u5, u6, u7, u8, u9, u10, u11, u12, u13, u14, u15, u16] t := h2.setC 2 v2
  have h4 : Blk ((((w.setCell ⟨g, 0, none⟩ v0).setCell ⟨g, 1, none⟩ v1).setCell ⟨g, 2, none⟩ v2).setCell ⟨g, 3, none⟩ v3) g #[v0, v1, v2, v3, u4, u5, u6, u7, u8, u9, u10, u11, u12, u13, u14, u15, u16] t := h3.setC 3 v3
  have h5 : Blk (((((w.setCell ⟨g, 0, none⟩ v0).setCell ⟨g, 1, none⟩ v1).setCell ⟨g, 2, none⟩ v2).setCell ⟨g, 3, none⟩ v3).setCell ⟨g, 4, none⟩ v4) g #[v0, v1, v2, v3, v4, u5, u6, u7, u8, u9, u10, u11, u12, u13, u14, u15, u16] t := h4.setC 4 v4
  have h6 : Blk ((((((w.setCell ⟨g, 0, none⟩ v0).setCell ⟨g, 1, none⟩ v1).setCell ⟨g, 2, none⟩ v2).setCell ⟨g, 3, none⟩ v3).setCell ⟨g, 4, none⟩ v4).setCell ⟨g, 5, none⟩ v5) g #[v0, v1, v2, v3, v4, v5, u6, u7, u8, u9, u10, u11, u12, u13, u14, u15, u16] t := h5.setC 5 v5
  have h7 : Blk (((((((w.setCell ⟨g, 0, none⟩ v0).setCell ⟨g, 1, none⟩ v1).setCell ⟨g, 2, none⟩ v2).setCell ⟨g, 3, none⟩ v3).setCell ⟨g, 4, none⟩ v4).setCell ⟨g, 5, none⟩ v5).setCell ⟨g, 6, none⟩ v6) g #[v0, v1, v2, v3, v4, v5, v6, u7, u8, u9, u10, u11, u12, u13, u14, u15, u16] t := h6.setC 6 v6
  have h8 : Blk ((((((((w.setCell ⟨g, 0, none⟩ v0).setCell ⟨g, 1, none⟩ v1).setCell ⟨g, 2, none⟩ v2).setCell ⟨g, 3, none⟩ v3).setCell ⟨g, 4, none⟩ v4).setCell ⟨g, 5, none⟩ v5).setCell ⟨g, 6, none⟩ v6).setCell ⟨g, 7, none⟩ v7) g #[v0, v1, v2, v3, v4, v5, v6, v7, u8, u9, u10, u11, u12, u13, u14, u15, u16] t := h7.setC 7 v7
  have h9 : Blk (((((((((w.setCell ⟨g, 0, none⟩ v0).setCell ⟨g, 1, none⟩ v1).setCell ⟨g, 2, none⟩ v2).setCell ⟨g, 3, none⟩ v3).setCell ⟨g, 4, none⟩ v4).setCell ⟨g, 5, none⟩ v5).setCell ⟨g, 6, none⟩ v6).setCell ⟨g, 7, none⟩ v7).setCell ⟨g, 8, none⟩ v8) g #[v0, v1, v2, v3, v4, v5, v6, v7, v8, u9, u10, u11, u12, u13, u14, u15, u16] t := h8.setC 8 v8
  have h10 : Blk ((((((((((w.setCell ⟨g, 0, none⟩ v0).setCell ⟨g, 1, none⟩ v1).setCell ⟨g, 2, none⟩ v2).setCell ⟨g, 3, none⟩ v3).setCell ⟨g, 4, none⟩ v4).setCell ⟨g, 5, none⟩ v5).setCell ⟨g, 6, none⟩ v6).setCell ⟨g, 7, none⟩ v7).setCell ⟨g, 8, none⟩ v8).setCell ⟨g, 9, none⟩ v9) g #[v0, v1, v2, v3, v4, v5, v6, v7, v8, v9, u10, u11, u12, u13, u14, u15, u16] t := h9.setC 9 v9
  have h11 : Blk (((((((((((w.setCell ⟨g, 0, none⟩ v0).setCell ⟨g, 1, none⟩ v1).setCell ⟨g, 2, none⟩ v2).setCell ⟨g, 3, none⟩ v3).setCell ⟨g, 4, none⟩ v4).setCell ⟨g, 5, none⟩ v5).setCell ⟨g, 6, none⟩ v6).setCell ⟨g, 7, none⟩ v7).setCell ⟨g, 8, none⟩ v8).setCell ⟨g, 9, none⟩ v9).setCell ⟨g, 10, none⟩ v10) g #[v0, v1, v2, v3, v4, v5, v6, v7, v8, v9, v10, u11, u12, u13, u14, u15, u16] t := h10.setC 10 v10
  have h12 : Blk ((((((((((((w.setCell ⟨g, 0, none⟩ v0).setCell ⟨g, 1, none⟩ v1).setCell ⟨g, 2, none⟩ v2).setCell ⟨g, 3, none⟩ v3).setCell ⟨g, 4, none⟩ v4).setCell ⟨g, 5, none⟩ v5).setCell ⟨g, 6, none⟩ v6).setCell ⟨g, 7, none⟩ v7).setCell ⟨g, 8, none⟩ v8).setCell ⟨g, 9, none⟩ v9).setCell ⟨g, 10, none⟩ v10).setCell ⟨g, 11, none⟩ v11) g #[v0, v1, v2, v3, v4, v5, v6, v7, v8, v9, v10, v11, u12, u13, u14, u15, u16] t := h11.setC 11 v11
  have h13 : Blk (((((((((((((w.setCell ⟨g, 0, none⟩ v0).setCell ⟨g, 1, none⟩ v1).setCell ⟨g, 2, none⟩ v2).setCell ⟨g, 3, none⟩ v3).setCell ⟨g, 4, none⟩ v4).setCell ⟨g, 5, none⟩ v5).setCell ⟨g, 6, none⟩ v6).setCell ⟨g, 7, none⟩ v7).setCell ⟨g, 8, none⟩ v8).setCell ⟨g, 9, none⟩ v9).setCell ⟨g, 10, none⟩ v10).setCell ⟨g, 11, none⟩ v11).setCell ⟨g, 12, none⟩ v12) g #[v0, v1, v2, v3, v4, v5, v6, v7, v8, v9, v10, v11, v12, u13, u14, u15, u16] t := h12.setC 12 v12
  have h14 : Blk ((((((((((((((w.setCell ⟨g, 0, none⟩ v0).setCell ⟨g, 1, none⟩ v1).setCell ⟨g, 2, none⟩ v2).setCell ⟨g, 3, none⟩ v3).setCell ⟨g, 4, none⟩ v4).setCell ⟨g, 5, none⟩ v5).setCell ⟨g, 6, none⟩ v6).setCell ⟨g, 7, none⟩ v7).setCell ⟨g, 8, none⟩ v8).setCell ⟨g, 9, none⟩ v9).setCell ⟨g, 10, none⟩ v10).setCell ⟨g, 11, none⟩ v11).setCell ⟨g, 12, none⟩ v12).setCell ⟨g, 13, none⟩ v13) g #[v0, v1, v2, v3, v4, v5, v6, v7, v8, v9, v10, v11, v12, v13, u14, u15, u16] t := h13.setC 13 v13
  have h15 : Blk (((((((((((((((w.setCell ⟨g, 0, none⟩ v0).setCell ⟨g, 1, none⟩ v1).setCell ⟨g, 2, none⟩ v2).setCell ⟨g, 3, none⟩ v3).setCell ⟨g, 4, none⟩ v4).setCell ⟨g, 5, none⟩ v5).setCell ⟨g, 6, none⟩ v6).setCell ⟨g, 7, none⟩ v7).setCell ⟨g, 8, none⟩ v8).setCell ⟨g, 9, none⟩ v9).setCell ⟨g, 10, none⟩ v10).setCell ⟨g, 11, none⟩ v11).setCell ⟨g, 12, none⟩ v12).setCell ⟨g, 13, none⟩ v13).setCell ⟨g, 14, none⟩ v14) g #[v0, v1, v2, v3, v4, v5, v6, v7, v8, v9, v10, v11, v12, v13, v14, u15, u16] t := h14.setC 14 v14
  have h16 : Blk ((((((((((((((((w.setCell ⟨g, 0, none⟩ v0).setCell ⟨g, 1, none⟩ v1).setCell ⟨g, 2, none⟩ v2).setCell ⟨g, 3, none⟩ v3).setCell ⟨g, 4, none⟩ v4).setCell ⟨g, 5, none⟩ v5).setCell ⟨g, 6, none⟩ v6).setCell ⟨g, 7, none⟩ v7).setCell ⟨g, 8, none⟩ v8).setCell ⟨g, 9, none⟩ v9).setCell ⟨g, 10, none⟩ v10).setCell ⟨g, 11, none⟩ v11).setCell ⟨g, 12, none⟩ v12).setCell ⟨g, 13, none⟩ v13).setCell ⟨g, 14, none⟩ v14).setCell ⟨g, 15, none⟩ v15) g #[v0, v1, v2, v3, v4, v5, v6, v7, v8, v9, v10, v11, v12, v13, v14, v15, u16] t := h15.setC 15 v15
  have h17 : Blk (((((((((((((((((w.setCell ⟨g, 0, none⟩ v0).setCell ⟨g, 1, none⟩ v1).setCell ⟨g, 2, none⟩ v2).setCell ⟨g, 3, none⟩ v3).setCell ⟨g, 4, none⟩ v4).setCell ⟨g, 5, none⟩ v5).setCell ⟨g, 6, none⟩ v6).setCell ⟨g, 7, none⟩ v7).setCell ⟨g, 8, none⟩ v8).setCell ⟨g, 9, none⟩ v9).setCell ⟨g, 10, none⟩ v10).setCell ⟨g, 11, none⟩ v11).setCell ⟨g, 12, none⟩ v12).setCell ⟨g, 13, none⟩ v13).setCell ⟨g, 14, none⟩ v14).setCell ⟨g, 15, none⟩ v15).setCell ⟨g, 16, none⟩ v16) g #[v0, v1, v2, v3, v4, v5, v6, v7, v8, v9, v10, v11, v12, v13, v14, v15, v16] t := h16.setC 16 v16
  exact h17
theorem Blk.set17o {w : World} {g b : Nat} {v0 v1 v2 v3 v4 v5 v6 v7 v8 v9 v10 v11 v12 v13 v14 v15 v16 : Value} {cs : Array Value} {t : TypeId} (h : Blk w b cs t) (hn : g ≠ b) : Blk (((((((((((((((((w.setCell ⟨g, 0, none⟩ v0).setCell ⟨g, 1, none⟩ v1).setCell ⟨g, 2, none⟩ v2).setCell ⟨g, 3, none⟩ v3).setCell ⟨g, 4, none⟩ v4).setCell ⟨g, 5, none⟩ v5).setCell ⟨g, 6, none⟩ v6).setCell ⟨g, 7, none⟩ v7).setCell ⟨g, 8, none⟩ v8).setCell ⟨g, 9, none⟩ v9).setCell ⟨g, 10, none⟩ v10).setCell ⟨g, 11, none⟩ v11).setCell ⟨g, 12, none⟩ v12).setCell ⟨g, 13, none⟩ v13).setCell ⟨g, 14, none⟩ v14).setCell ⟨g, 15, none⟩ v15).setCell ⟨g, 16, none⟩ v16) b cs t := (((((((((((((((((h.setO g 0 v0 hn).setO g 1 v1 hn).setO g 2 v2 hn).setO g 3 v3 hn).setO g 4 v4 hn).setO g 5 v5 hn).setO g 6 v6 hn).setO g 7 v7 hn).setO g 8 v8 hn).setO g 9 v9 hn).setO g 10 v10 hn).setO g 11 v11 hn).setO g 12 v12 hn).setO g 13 v13 hn).setO g 14 v14 hn).setO g 15 v15 hn).setO g 16 v16 hn)
theorem grown_set17 {w0 w : World} {g : Nat} {v0 v1 v2 v3 v4 v5 v6 v7 v8 v9 v10 v11 v12 v13 v14 v15 v16 : Value} (h : w0.grownBy w none) (hg : w0.heap.size ≤ g) : w0.grownBy (((((((((((((((((w.setCell ⟨g, 0, none⟩ v0).setCell ⟨g, 1, none⟩ v1).setCell ⟨g, 2, none⟩ v2).setCell ⟨g, 3, none⟩ v3).setCell ⟨g, 4, none⟩ v4).setCell ⟨g, 5, none⟩ v5).setCell ⟨g, 6, none⟩ v6).setCell ⟨g, 7, none⟩ v7).setCell ⟨g, 8, none⟩ v8).setCell ⟨g, 9, none⟩ v9).setCell ⟨g, 10, none⟩ v10).setCell ⟨g, 11, none⟩ v11).setCell ⟨g, 12, none⟩ v12).setCell ⟨g, 13, none⟩ v13).setCell ⟨g, 14, none⟩ v14).setCell ⟨g, 15, none⟩ v15).setCell ⟨g, 16, none⟩ v16) none := (grown_set (grown_set (grown_set (grown_set (grown_set (grown_set (grown_set (grown_set (grown_set (grown_set (grown_set (grown_set (grown_set (grown_set (grown_set (grown_set (grown_set h g 0 v0 hg) g 1 v1 hg) g 2 v2 hg) g 3 v3 hg) g 4 v4 hg) g 5 v5 hg) g 6 v6 hg) g 7 v7 hg) g 8 v8 hg) g 9 v9 hg) g 10 v10 hg) g 11 v11 hg) g 12 v12 hg) g 13 v13 hg) g 14 v14 hg) g 15 v15 hg) g 16 v16 hg)
theorem Blk.set4 {w : World} {g : Nat} {u0 u1 u2 u3 v0 v1 v2 v3 : Value} {t : TypeId} (h : Blk w g #[u0, u1, u2, u3] t) : Blk ((((w.setCell ⟨g, 0, none⟩ v0).setCell ⟨g, 1, none⟩ v1).setCell ⟨g, 2, none⟩ v2).setCell ⟨g, 3, none⟩ v3) g #[v0, v1, v2, v3] t := ((((h.setC 0 v0).setC 1 v1).setC 2 v2).setC 3 v3)
theorem Blk.set4o {w : World} {g b : Nat} {v0 v1 v2 v3 : Value} {cs : Array Value} {t : TypeId} (h : Blk w b cs t) (hn : g ≠ b) : Blk ((((w.setCell ⟨g, 0, none⟩ v0).setCell ⟨g, 1, none⟩ v1).setCell ⟨g, 2, none⟩ v2).setCell ⟨g, 3, none⟩ v3) b cs t := ((((h.setO g 0 v0 hn).setO g 1 v1 hn).setO g 2 v2 hn).setO g 3 v3 hn)
theorem grown_set4 {w0 w : World} {g : Nat} {v0 v1 v2 v3 : Value} (h : w0.grownBy w none) (hg : w0.heap.size ≤ g) : w0.grownBy ((((w.setCell ⟨g, 0, none⟩ v0).setCell ⟨g, 1, none⟩ v1).setCell ⟨g, 2, none⟩ v2).setCell ⟨g, 3, none⟩ v3) none := (grown_set (grown_set (grown_set (grown_set h g 0 v0 hg) g 1 v1 hg) g 2 v2 hg) g 3 v3 hg)

theorem step_load_row {P : Program} {ops : Array Oper} {o : Oper} {a : Act} {w : World} {K : Act → World → Prop} {Q : Exit → Act → World → Prop} {E : Prop}
    (hg : o.guard = none) (ty : TypeId) (x : Operand) (ho : o.op = .load ty x) (g : Nat) (hx : a.eval x = .pointer (some ⟨g, 0, none⟩)) (cs : Array Value) (t : TypeId) (d : TypeDesc) (hb : Blk w g cs t)
    (hu : P.underlying ty = some d) (hd : (match d with | .struct _ | .array _ _ => true | _ => false) = true) (hi : (P.info? ty).map (·.size) = some cs.size)
    (hK : K (a.put o.dst (.agg cs)) w) : if Region.wanted o (yielded ops a.tmps) = true then Oper.wp P o a w K Q else E := by
  have hw : Region.wanted o (yielded ops a.tmps) = true := by simp [Region.wanted, hg]
  rw [if_pos hw]
  exact wp_load_row ty x ho g hx t cs (0, 0) d hb hu hd hi hK
theorem step_store_row {P : Program} {ops : Array Oper} {o : Oper} {a : Act} {w : World} {K : Act → World → Prop} {Q : Exit → Act → World → Prop} {E : Prop}
    (hg : o.guard = none) (ty : TypeId) (x y : Operand) (ho : o.op = .store ty x y) (g : Nat) (cells old : Array Value) (hx : a.eval x = .pointer (some ⟨g, 0, none⟩)) (hy : a.eval y = .agg cells) (t : TypeId) (hb : Blk w g old t)
    (hi : (P.info? ty).map (·.size) = some cells.size) (hold : old.size = cells.size) (h1 : cells.all (·.oneCell') = true)
    (hK : K (a.put o.dst undef) (w.setRow g cells)) : if Region.wanted o (yielded ops a.tmps) = true then Oper.wp P o a w K Q else E := by
  have hw : Region.wanted o (yielded ops a.tmps) = true := by simp [Region.wanted, hg]
  rw [if_pos hw]
  exact wp_store_row ty x y ho g cells hx hy t old hb hi hold h1 hK
theorem step_store_same {P : Program} {ops : Array Oper} {o : Oper} {a : Act} {w : World} {K : Act → World → Prop} {Q : Exit → Act → World → Prop} {E : Prop}
    (hg : o.guard = none) (ty : TypeId) (x y : Operand) (ho : o.op = .store ty x y) (g : Nat) (cells : Array Value) (hx : a.eval x = .pointer (some ⟨g, 0, none⟩)) (hy : a.eval y = .agg cells) (t : TypeId) (hb : Blk w g cells t)
    (hi : (P.info? ty).map (·.size) = some cells.size) (h1 : cells.all (·.oneCell') = true)
    (hK : K (a.put o.dst undef) w) : if Region.wanted o (yielded ops a.tmps) = true then Oper.wp P o a w K Q else E :=
  step_store_row hg ty x y ho g cells cells hx hy t hb hi rfl h1 (by rw [setRow_same hb]; exact hK)
theorem step_assign {P : Program} {ops : Array Oper} {o : Oper} {a : Act} {w : World} {K : Act → World → Prop} {Q : Exit → Act → World → Prop} {E : Prop}
    (hg : o.guard = none) (x : Operand) (ho : o.op = .assign x) (v : Value) (hx : a.eval x = v) (hK : K (a.put o.dst v) w) : if Region.wanted o (yielded ops a.tmps) = true then Oper.wp P o a w K Q else E := by
  have hw : Region.wanted o (yielded ops a.tmps) = true := by simp [Region.wanted, hg]
  rw [if_pos hw]
  unfold Oper.wp
  simp [execOp, ho, hx]
  exact hK
theorem Blk.row {w : World} {g : Nat} {old : Array Value} {t : TypeId} (h : Blk w g old t) (cs : Array Value) : Blk (w.setRow g cs) g cs t := by
  have h' : w.heap[g]? = some (.cells old t (0, 0)) := h
  simp [Blk, World.setRow, Array.getElem?_modify, h']
theorem Blk.rowO {w : World} {g : Nat} {old : Array Value} {t : TypeId} (h : Blk w g old t) (g' : Nat) (cs : Array Value) (hn : g' ≠ g) : Blk (w.setRow g' cs) g old t := by
  have h' : w.heap[g]? = some (.cells old t (0, 0)) := h
  simp [Blk, World.setRow, Array.getElem?_modify, h', hn]
theorem grown_row {w W : World} (g : w.grownBy W none) (b : Nat) (cs : Array Value) (hb : w.heap.size ≤ b) : w.grownBy (W.setRow b cs) none := by
  refine ⟨g.os, g.tape, g.output, ?_, ?_⟩
  · show w.heap.size ≤ (W.heap.modify b _).size
    rw [Array.size_modify]; exact g.size
  · intro i hi hn
    have e : (W.setRow b cs).heap[i]? = W.heap[i]? := by
      simp only [World.setRow, Array.getElem?_modify]
      rw [if_neg (by omega)]
    rw [e]; exact g.block i hi hn
theorem one17 (f : Fr) (d r : Value) (hd : d.oneCell' = true) (hr : r.oneCell' = true) : (f.cs d r).all (·.oneCell') = true := by
  have h : (f.cs d r).all (·.oneCell') = (d.oneCell' && r.oneCell') := by simp [Value.oneCell']
  rw [h, hd, hr]; rfl

theorem results_cct {P : Program} {fn : Func} {p q u : Tmp} {tp tq : TypeId} (h : fn.results = #[.cell p tp, .cell q tq, .tmp u]) (tmps : Array Value) (w : World) (g1 g2 : Nat) (c1 c2 : Array Value) (d1 d2 : TypeDesc)
    (hp : tmps.getD p undef = .pointer (some ⟨g1, 0, none⟩)) (hq : tmps.getD q undef = .pointer (some ⟨g2, 0, none⟩)) (b1 : Blk w g1 c1 tp) (b2 : Blk w g2 c2 tq)
    (hu1 : P.underlying tp = some d1) (hd1 : (match d1 with | .struct _ | .array _ _ => true | _ => false) = true) (hi1 : (P.info? tp).map (·.size) = some c1.size)
    (hu2 : P.underlying tq = some d2) (hd2 : (match d2 with | .struct _ | .array _ _ => true | _ => false) = true) (hi2 : (P.info? tq).map (·.size) = some c2.size) :
    (results fn tmps).run P w = .ok (.tuple #[.agg c1, .agg c2, tmps.getD u undef]) w := by
  have hp' : tmps[p]?.getD undef = .pointer (some ⟨g1, 0, none⟩) := by simpa using hp
  have hq' : tmps[q]?.getD undef = .pointer (some ⟨g2, 0, none⟩) := by simpa using hq
  simp [results, h, hp', hq', asAddr, run_loadVar_row w g1 tp tp c1 (0, 0) d1 b1 hu1 hd1 hi1, run_loadVar_row w g2 tq tq c2 (0, 0) d2 b2 hu2 hd2 hi2]

theorem results_cc {P : Program} {fn : Func} {p q : Tmp} {tp tq : TypeId} (h : fn.results = #[.cell p tp, .cell q tq]) (tmps : Array Value) (w : World) (g1 g2 : Nat) (c1 c2 : Array Value) (d1 d2 : TypeDesc)
    (hp : tmps.getD p undef = .pointer (some ⟨g1, 0, none⟩)) (hq : tmps.getD q undef = .pointer (some ⟨g2, 0, none⟩)) (b1 : Blk w g1 c1 tp) (b2 : Blk w g2 c2 tq)
    (hu1 : P.underlying tp = some d1) (hd1 : (match d1 with | .struct _ | .array _ _ => true | _ => false) = true) (hi1 : (P.info? tp).map (·.size) = some c1.size)
    (hu2 : P.underlying tq = some d2) (hd2 : (match d2 with | .struct _ | .array _ _ => true | _ => false) = true) (hi2 : (P.info? tq).map (·.size) = some c2.size) :
    (results fn tmps).run P w = .ok (.tuple #[.agg c1, .agg c2]) w := by
  have hp' : tmps[p]?.getD undef = .pointer (some ⟨g1, 0, none⟩) := by simpa using hp
  have hq' : tmps[q]?.getD undef = .pointer (some ⟨g2, 0, none⟩) := by simpa using hq
  simp [results, h, hp', hq', asAddr, run_loadVar_row w g1 tp tp c1 (0, 0) d1 b1 hu1 hd1 hi1, run_loadVar_row w g2 tq tq c2 (0, 0) d2 b2 hu2 hd2 hi2]

theorem results_ct {P : Program} {fn : Func} {p u : Tmp} {tp : TypeId} (h : fn.results = #[.cell p tp, .tmp u]) (tmps : Array Value) (w : World) (g1 : Nat) (c1 : Array Value) (d1 : TypeDesc)
    (hp : tmps.getD p undef = .pointer (some ⟨g1, 0, none⟩)) (b1 : Blk w g1 c1 tp)
    (hu1 : P.underlying tp = some d1) (hd1 : (match d1 with | .struct _ | .array _ _ => true | _ => false) = true) (hi1 : (P.info? tp).map (·.size) = some c1.size) :
    (results fn tmps).run P w = .ok (.tuple #[.agg c1, tmps.getD u undef]) w := by
  have hp' : tmps[p]?.getD undef = .pointer (some ⟨g1, 0, none⟩) := by simpa using hp
  simp [results, h, hp', asAddr, run_loadVar_row w g1 tp tp c1 (0, 0) d1 b1 hu1 hd1 hi1]

theorem Try.size26 : (Try.prog.info? 26).map (·.size) = some 17 := by kernel_rfl
theorem Try.size73 : (Try.prog.info? 115).map (·.size) = some 4 := by kernel_rfl

end Go.Proofs.Ytggjeamondampaa
