/- Blocks as wholes (as X0, for a seat without num). -/
import Derived.Test.YtbdjlhkgpblebaaDoorRows
import Derived.Test.YtbdjlhkgpblebaaDoorBase
import Derived.Deep.WholeRow
import Derived.Laws.ResultCell
import Derived.Maps.AppendAt
import Derived.Deep.QuietTactic
namespace Go.Proofs.YtbdjlhkgpblebaaDoor
open Go.RowKit
set_option maxRecDepth 100000
set_option linter.unusedVariables false

abbrev nilS : Value := .slice none 0 0

theorem then_x {K : Act → World → Prop} {Q : Exit → Act → World → Prop} {i : Nat} {a : Act} {w : World} (h : Q (.exit i) a w) : Exit.then K Q (.exit i) a w := h
theorem then_n {K : Act → World → Prop} {Q : Exit → Act → World → Prop} {a : Act} {w : World} (h : K a w) : Exit.then K Q .normal a w := h
theorem then_r {K : Act → World → Prop} {Q : Exit → Act → World → Prop} {a : Act} {w : World} (h : Q .ret a w) : Exit.then K Q .ret a w := h
theorem blk_o {Q : Exit → Act → World → Prop} {i j : Nat} {a : Act} {w : World} (n : i ≠ j) (h : Q (.exit i) a w) : Exit.inBlock j Q (.exit i) a w := by simp only [Exit.inBlock]; rw [if_neg n]; exact h
theorem blk_s {Q : Exit → Act → World → Prop} {i : Nat} {a : Act} {w : World} (h : Q .normal a w) : Exit.inBlock i Q (.exit i) a w := by simp [Exit.inBlock]; exact h
theorem blk_r {Q : Exit → Act → World → Prop} {i : Nat} {a : Act} {w : World} (h : Q .ret a w) : Exit.inBlock i Q .ret a w := h
theorem blk_n {Q : Exit → Act → World → Prop} {i : Nat} {a : Act} {w : World} (h : Q .normal a w) : Exit.inBlock i Q .normal a w := h

/-- A block that holds these cells. -/
def Blk (w : World) (g : Nat) (cs : Array Value) (t : TypeId) : Prop := w.heap[g]? = some (.cells cs t (0, 0))

theorem Blk.new (w : World) (cs : Array Value) (t : TypeId) : Blk (w.alloc (.cells cs t)) w.heap.size cs t := heap_alloc_new w _
theorem Blk.alloc {w : World} {g : Nat} {cs : Array Value} {t : TypeId} (h : Blk w g cs t) (o : Obj) : Blk (w.alloc o) g cs t := by
  have hlt : g < w.heap.size := by
    by_cases c : g < w.heap.size
    · exact c
    · have : w.heap[g]? = none := by simp; omega
      rw [Blk, this] at h; simp at h
  have e : (w.alloc o).heap[g]? = w.heap[g]? := by
    show (w.heap.push o)[g]? = w.heap[g]?
    rw [Array.getElem?_push, if_neg (Nat.ne_of_lt hlt)]
  exact e.trans h
theorem Blk.drew {w : World} {g : Nat} {cs : Array Value} {t : TypeId} (h : Blk w g cs t) : Blk w.drew g cs t := h
theorem Blk.lt {w : World} {g : Nat} {cs : Array Value} {t : TypeId} (h : Blk w g cs t) : g < w.heap.size := by
  by_cases c : g < w.heap.size
  · exact c
  · have : w.heap[g]? = none := by simp; omega
    rw [Blk, this] at h; simp at h

theorem Blk.two (w : World) (A B : Array Value) (tA tB : TypeId) : Blk ((w.alloc (.cells A tA)).alloc (.cells B tB)) w.heap.size A tA ∧ Blk ((w.alloc (.cells A tA)).alloc (.cells B tB)) (w.heap.size + 1) B tB ∧ w.grownBy ((w.alloc (.cells A tA)).alloc (.cells B tB)) none := by
  have e : (w.alloc (.cells A tA)).heap.size = w.heap.size + 1 := by show (w.heap.push _).size = _; simp
  refine ⟨(Blk.new w A tA).alloc _, ?_, (World.grownBy_alloc w _ none).trans (World.grownBy_alloc _ _ none)⟩
  rw [← e]; exact Blk.new _ B tB

theorem grown_set {w W : World} (g : w.grownBy W none) (b j : Nat) (v : Value) (hb : w.heap.size ≤ b) : w.grownBy (W.setCell ⟨b, j, none⟩ v) none := by
  refine ⟨g.os, g.tape, g.output, ?_, ?_⟩
  · show w.heap.size ≤ (W.heap.modify b _).size
    rw [Array.size_modify]; exact g.size
  · intro i hi hn
    have e : (W.setCell ⟨b, j, none⟩ v).heap[i]? = W.heap[i]? := by
      simp only [World.setCell, Array.getElem?_modify]
      rw [if_neg (by omega)]
    rw [e]; exact g.block i hi hn
theorem Blk.grown {w W : World} {b : Nat} {cs : Array Value} {t : TypeId} (h : Blk w b cs t) (g : w.grownBy W none) : Blk W b cs t := (g.block b h.lt (by simp)).trans h
theorem grown_drew' {w W : World} (g : w.grownBy W none) : w.grownBy W.drew none := ⟨g.os, g.tape, g.output, g.size, g.block⟩

theorem setRow_same {w : World} {g : Nat} {cs : Array Value} {t : TypeId} (h : Blk w g cs t) : w.setRow g cs = w := by
  have e : (w.setRow g cs).heap = w.heap := by
    simp only [World.setRow]
    apply Array.ext_getElem?
    intro i
    rw [Array.getElem?_modify]
    by_cases c : g = i
    · subst c; rw [if_pos rfl, h]; rfl
    · rw [if_neg c]
  have e2 : w.setRow g cs = { w with heap := (w.setRow g cs).heap } := rfl
  rw [e2, e]

theorem Blk.loadC {P : Program} {w : World} {g : Nat} {cs : Array Value} {t : TypeId} (h : Blk w g cs t) (n : Nat) (hn : cs.size = n) : (loadCellsFrom ⟨g, 0, none⟩ 0 n #[]).run P w = .ok cs w := by
  subst hn
  have := run_loadCells_list (P := P) w ⟨g, 0, none⟩ cs.toList (fun j v hv => by
    have hadd : (⟨g, 0, none⟩ : Addr).add j = ⟨g, j, none⟩ := by unfold Addr.add; split <;> simp_all
    rw [hadd, cell_of_row _ _ j cs t (0, 0) h]
    simpa using hv)
  simpa [loadCells] using this

theorem Blk.storeC {P : Program} {w : World} {g : Nat} {cs : Array Value} {t : TypeId} (h : Blk w g cs t) (l : List Value) (hl : cs.toList = l) (h1 : ∀ v ∈ l, v.oneCell' = true) : (storeCells ⟨g, 0, none⟩ l 0).run P w = .ok () w := by
  subst hl
  have := run_storeCells_from (P := P) g t cs.toList 0 cs w h (by simp) (fun v hv => h1 v hv)
  rw [this]
  have e := setRow_same h
  simpa using e

theorem Blk.cell {w : World} {g : Nat} {cs : Array Value} {t : TypeId} (h : Blk w g cs t) (j : Nat) (v : Value) (hv : cs[j]? = some v) : w.cell? ⟨g, j, none⟩ = some v := by
  rw [cell_of_row _ _ j cs t (0, 0) h]; exact hv
theorem Blk.thaw {w : World} {g : Nat} {cs : Array Value} {t : TypeId} (h : Blk w g cs t) (j : Nat) : w.frozen? ⟨g, j, none⟩ = false := by
  have h' : w.heap[g]? = some (.cells cs t (0, 0)) := h
  simp [World.frozen?, h']
theorem Blk.setC {w : World} {g : Nat} {cs : Array Value} {t : TypeId} (h : Blk w g cs t) (j : Nat) (v : Value) : Blk (w.setCell ⟨g, j, none⟩ v) g (cs.setIfInBounds j v) t := by
  have h' : w.heap[g]? = some (.cells cs t (0, 0)) := h
  simp [Blk, World.setCell, Array.getElem?_modify, h']
theorem Blk.setO {w : World} {g : Nat} {cs : Array Value} {t : TypeId} (h : Blk w g cs t) (g' j : Nat) (v : Value) (hn : g' ≠ g) : Blk (w.setCell ⟨g', j, none⟩ v) g cs t := by
  have h' : w.heap[g]? = some (.cells cs t (0, 0)) := h
  simp [Blk, World.setCell, Array.getElem?_modify, h', hn]
theorem Blk.same {w : World} {g : Nat} {cs : Array Value} {t : TypeId} (h : Blk w g cs t) (j : Nat) (v : Value) (hv : cs[j]? = some v) : w.setCell ⟨g, j, none⟩ v = w := by
  have h' : w.heap[g]? = some (.cells cs t (0, 0)) := h
  have e : (w.setCell ⟨g, j, none⟩ v).heap = w.heap := by
    simp only [World.setCell]
    apply Array.ext_getElem?
    intro i
    rw [Array.getElem?_modify]
    by_cases c : g = i
    · subst c
      rw [if_pos rfl, h']
      simp
      apply Array.ext_getElem?
      intro m
      rw [Array.getElem?_setIfInBounds]
      by_cases c : j = m
      · subst c
        rw [if_pos rfl, hv]
        split
        · rfl
        · rename_i hx; have := Array.getElem?_eq_none (xs := cs) (i := j) (by omega); rw [this] at hv; simp at hv
      · rw [if_neg c]
    · rw [if_neg c]
  have e2 : w.setCell ⟨g, j, none⟩ v = { w with heap := (w.setCell ⟨g, j, none⟩ v).heap } := rfl
  rw [e2, e]

theorem Blk.thaws {w : World} {g : Nat} {cs : Array Value} {t : TypeId} (h : Blk w g cs t) : ∀ j, w.frozen? ⟨g, j, none⟩ = false := fun j => h.thaw j

theorem step_load_row {P : Program} {ops : Array Oper} {o : Oper} {a : Act} {w : World} {K : Act → World → Prop} {Q : Exit → Act → World → Prop} {E : Prop}
    (hg : o.guard = none) (ty : TypeId) (x : Operand) (ho : o.op = .load ty x) (g : Nat) (hx : a.eval x = .pointer (some ⟨g, 0, none⟩)) (cs : Array Value) (t : TypeId) (d : TypeDesc) (hb : Blk w g cs t)
    (hu : P.underlying ty = some d) (hd : (match d with | .struct _ | .array _ _ => true | _ => false) = true) (hi : (P.info? ty).map (·.size) = some cs.size)
    (hK : K (a.put o.dst (.agg cs)) w) : if Region.wanted o (yielded ops a.tmps) = true then Oper.wp P o a w K Q else E := by
  have hw : Region.wanted o (yielded ops a.tmps) = true := by simp [Region.wanted, hg]
  rw [if_pos hw]
  exact wp_load_row ty x ho g hx t cs (0, 0) d hb hu hd hi hK
theorem step_store_row {P : Program} {ops : Array Oper} {o : Oper} {a : Act} {w : World} {K : Act → World → Prop} {Q : Exit → Act → World → Prop} {E : Prop}
    (hg : o.guard = none) (ty : TypeId) (x y : Operand) (ho : o.op = .store ty x y) (g : Nat) (cells old : Array Value) (hx : a.eval x = .pointer (some ⟨g, 0, none⟩)) (hy : a.eval y = .agg cells) (t : TypeId) (hb : Blk w g old t)
    (hi : (P.info? ty).map (·.size) = some cells.size) (hold : old.size = cells.size) (h1 : cells.all (·.oneCell') = true)
    (hK : K (a.put o.dst undef) (w.setRow g cells)) : if Region.wanted o (yielded ops a.tmps) = true then Oper.wp P o a w K Q else E := by
  have hw : Region.wanted o (yielded ops a.tmps) = true := by simp [Region.wanted, hg]
  rw [if_pos hw]
  exact wp_store_row ty x y ho g cells hx hy t old hb hi hold h1 hK
theorem step_store_same {P : Program} {ops : Array Oper} {o : Oper} {a : Act} {w : World} {K : Act → World → Prop} {Q : Exit → Act → World → Prop} {E : Prop}
    (hg : o.guard = none) (ty : TypeId) (x y : Operand) (ho : o.op = .store ty x y) (g : Nat) (cells : Array Value) (hx : a.eval x = .pointer (some ⟨g, 0, none⟩)) (hy : a.eval y = .agg cells) (t : TypeId) (hb : Blk w g cells t)
    (hi : (P.info? ty).map (·.size) = some cells.size) (h1 : cells.all (·.oneCell') = true)
    (hK : K (a.put o.dst undef) w) : if Region.wanted o (yielded ops a.tmps) = true then Oper.wp P o a w K Q else E :=
  step_store_row hg ty x y ho g cells cells hx hy t hb hi rfl h1 (by rw [setRow_same hb]; exact hK)
theorem step_assign {P : Program} {ops : Array Oper} {o : Oper} {a : Act} {w : World} {K : Act → World → Prop} {Q : Exit → Act → World → Prop} {E : Prop}
    (hg : o.guard = none) (x : Operand) (ho : o.op = .assign x) (v : Value) (hx : a.eval x = v) (hK : K (a.put o.dst v) w) : if Region.wanted o (yielded ops a.tmps) = true then Oper.wp P o a w K Q else E := by
  have hw : Region.wanted o (yielded ops a.tmps) = true := by simp [Region.wanted, hg]
  rw [if_pos hw]
  unfold Oper.wp
  simp [execOp, ho, hx]
  exact hK
theorem Blk.row {w : World} {g : Nat} {old : Array Value} {t : TypeId} (h : Blk w g old t) (cs : Array Value) : Blk (w.setRow g cs) g cs t := by
  have h' : w.heap[g]? = some (.cells old t (0, 0)) := h
  simp [Blk, World.setRow, Array.getElem?_modify, h']
theorem Blk.rowO {w : World} {g : Nat} {old : Array Value} {t : TypeId} (h : Blk w g old t) (g' : Nat) (cs : Array Value) (hn : g' ≠ g) : Blk (w.setRow g' cs) g old t := by
  have h' : w.heap[g]? = some (.cells old t (0, 0)) := h
  simp [Blk, World.setRow, Array.getElem?_modify, h', hn]
theorem grown_row {w W : World} (g : w.grownBy W none) (b : Nat) (cs : Array Value) (hb : w.heap.size ≤ b) : w.grownBy (W.setRow b cs) none := by
  refine ⟨g.os, g.tape, g.output, ?_, ?_⟩
  · show w.heap.size ≤ (W.heap.modify b _).size
    rw [Array.size_modify]; exact g.size
  · intro i hi hn
    have e : (W.setRow b cs).heap[i]? = W.heap[i]? := by
      simp only [World.setRow, Array.getElem?_modify]
      rw [if_neg (by omega)]
    rw [e]; exact g.block i hi hn
theorem results_cct {P : Program} {fn : Func} {p q u : Tmp} {tp tq : TypeId} (h : fn.results = #[.cell p tp, .cell q tq, .tmp u]) (tmps : Array Value) (w : World) (g1 g2 : Nat) (c1 c2 : Array Value) (d1 d2 : TypeDesc)
    (hp : tmps.getD p undef = .pointer (some ⟨g1, 0, none⟩)) (hq : tmps.getD q undef = .pointer (some ⟨g2, 0, none⟩)) (b1 : Blk w g1 c1 tp) (b2 : Blk w g2 c2 tq)
    (hu1 : P.underlying tp = some d1) (hd1 : (match d1 with | .struct _ | .array _ _ => true | _ => false) = true) (hi1 : (P.info? tp).map (·.size) = some c1.size)
    (hu2 : P.underlying tq = some d2) (hd2 : (match d2 with | .struct _ | .array _ _ => true | _ => false) = true) (hi2 : (P.info? tq).map (·.size) = some c2.size) :
    (results fn tmps).run P w = .ok (.tuple #[.agg c1, .agg c2, tmps.getD u undef]) w := by
  have hp' : tmps[p]?.getD undef = .pointer (some ⟨g1, 0, none⟩) := by simpa using hp
  have hq' : tmps[q]?.getD undef = .pointer (some ⟨g2, 0, none⟩) := by simpa using hq
  simp [results, h, hp', hq', asAddr, run_loadVar_row w g1 tp tp c1 (0, 0) d1 b1 hu1 hd1 hi1, run_loadVar_row w g2 tq tq c2 (0, 0) d2 b2 hu2 hd2 hi2]

theorem results_cc {P : Program} {fn : Func} {p q : Tmp} {tp tq : TypeId} (h : fn.results = #[.cell p tp, .cell q tq]) (tmps : Array Value) (w : World) (g1 g2 : Nat) (c1 c2 : Array Value) (d1 d2 : TypeDesc)
    (hp : tmps.getD p undef = .pointer (some ⟨g1, 0, none⟩)) (hq : tmps.getD q undef = .pointer (some ⟨g2, 0, none⟩)) (b1 : Blk w g1 c1 tp) (b2 : Blk w g2 c2 tq)
    (hu1 : P.underlying tp = some d1) (hd1 : (match d1 with | .struct _ | .array _ _ => true | _ => false) = true) (hi1 : (P.info? tp).map (·.size) = some c1.size)
    (hu2 : P.underlying tq = some d2) (hd2 : (match d2 with | .struct _ | .array _ _ => true | _ => false) = true) (hi2 : (P.info? tq).map (·.size) = some c2.size) :
    (results fn tmps).run P w = .ok (.tuple #[.agg c1, .agg c2]) w := by
  have hp' : tmps[p]?.getD undef = .pointer (some ⟨g1, 0, none⟩) := by simpa using hp
  have hq' : tmps[q]?.getD undef = .pointer (some ⟨g2, 0, none⟩) := by simpa using hq
  simp [results, h, hp', hq', asAddr, run_loadVar_row w g1 tp tp c1 (0, 0) d1 b1 hu1 hd1 hi1, run_loadVar_row w g2 tq tq c2 (0, 0) d2 b2 hu2 hd2 hi2]

theorem results_ct {P : Program} {fn : Func} {p u : Tmp} {tp : TypeId} (h : fn.results = #[.cell p tp, .tmp u]) (tmps : Array Value) (w : World) (g1 : Nat) (c1 : Array Value) (d1 : TypeDesc)
    (hp : tmps.getD p undef = .pointer (some ⟨g1, 0, none⟩)) (b1 : Blk w g1 c1 tp)
    (hu1 : P.underlying tp = some d1) (hd1 : (match d1 with | .struct _ | .array _ _ => true | _ => false) = true) (hi1 : (P.info? tp).map (·.size) = some c1.size) :
    (results fn tmps).run P w = .ok (.tuple #[.agg c1, tmps.getD u undef]) w := by
  have hp' : tmps[p]?.getD undef = .pointer (some ⟨g1, 0, none⟩) := by simpa using hp
  simp [results, h, hp', asAddr, run_loadVar_row w g1 tp tp c1 (0, 0) d1 b1 hu1 hd1 hi1]

theorem grown_at {w W : World} {g : Nat} (h : w.grownBy W (some g)) (j : Nat) (v : Value) : w.grownBy (W.setCell ⟨g, j, none⟩ v) (some g) := by
  refine ⟨h.os, h.tape, h.output, ?_, ?_⟩
  · show w.heap.size ≤ (W.heap.modify g _).size
    rw [Array.size_modify]; exact h.size
  · intro i hi hn
    have e : (W.setCell ⟨g, j, none⟩ v).heap[i]? = W.heap[i]? := by
      simp only [World.setCell, Array.getElem?_modify]
      rw [if_neg (fun e => hn (by rw [e]))]
    rw [e]; exact h.block i hi hn
theorem grown_any {w W : World} (h : w.grownBy W none) (g : Nat) : w.grownBy W (some g) := ⟨h.os, h.tape, h.output, h.size, fun i hi _ => h.block i hi (by simp)⟩

theorem Blk.drewN {w : World} {g : Nat} {cs : Array Value} {t : TypeId} (h : Blk w g cs t) (q : Nat) : Blk (w.drewN q) g cs t := h
theorem grown_drewN {w W : World} {q : Nat} (g : w.grownBy W none) : w.grownBy (W.drewN q) none := ⟨g.os, g.tape, g.output, g.size, g.block⟩
theorem Rd.drew {w : World} {a : Option Addr} {l : List Int} (h : Rd w a l) (q : Nat) : Rd (w.drewN q) a l := h

theorem Rd.far {w W : World} {g : Nat} {a : Option Addr} {l : List Int} (h : Rd w a l) (hg : w.grownBy W (some g)) (hn : ∀ x, a = some x → x.block ≠ g ∧ x.block < w.heap.size) : Rd W a l := by
  refine ⟨h.1, fun hne => ?_⟩
  obtain ⟨b, off, rfl, hc⟩ := h.2 hne
  refine ⟨b, off, rfl, fun i hi => ?_⟩
  obtain ⟨n1, n2⟩ := hn _ rfl
  have e := hg.block b n2 (by simp; exact n1)
  have := hc i hi
  simp only [World.cell?] at this ⊢
  rw [e]; exact this

theorem Blk.far {w W : World} {b g : Nat} {cs : Array Value} {t : TypeId} (h : Blk w b cs t) (hg : w.grownBy W (some g)) (hn : b ≠ g) : Blk W b cs t := (hg.block b h.lt (by simp; exact hn)).trans h
theorem grown_setS {w W : World} {r : Option Nat} (g : w.grownBy W r) (b j : Nat) (v : Value) (hb : w.heap.size ≤ b) : w.grownBy (W.setCell ⟨b, j, none⟩ v) r := by
  refine ⟨g.os, g.tape, g.output, ?_, ?_⟩
  · show w.heap.size ≤ (W.heap.modify b _).size
    rw [Array.size_modify]; exact g.size
  · intro i hi hn
    have e : (W.setCell ⟨b, j, none⟩ v).heap[i]? = W.heap[i]? := by
      simp only [World.setCell, Array.getElem?_modify]
      rw [if_neg (by omega)]
    rw [e]; exact g.block i hi hn
theorem grown_drewS {w W : World} {r : Option Nat} (g : w.grownBy W r) (q : Nat) : w.grownBy (W.drewN q) r := ⟨g.os, g.tape, g.output, g.size, g.block⟩

theorem step_append_run {P : Program} {ops : Array Oper} {o : Oper} {a : Act} {w : World} {K : Act → World → Prop} {Q : Exit → Act → World → Prop} {E : Prop}
    (hg : o.guard = none) (d x : Operand) (dT sT : TypeId) (hop : o.op = Op.call { callee := Callee.builtin Builtin.append, args := #[d, x], argTypes := #[dT, sT] })
    (v u : Value) (hd : a.eval d = v) (hx : a.eval x = u) {v' : Value} {w' : World} (hr : (Builtin.append_ #[dT, sT] o.type #[v, u]).run P w = .ok v' w') (hK : K (a.put o.dst v') w') :
    if Region.wanted o (yielded ops a.tmps) = true then Oper.wp P o a w K Q else E := by
  have hw : Region.wanted o (yielded ops a.tmps) = true := by simp [Region.wanted, hg]
  rw [if_pos hw]
  unfold Oper.wp
  simp [execOp, hop, resolve, invoke, builtin, hd, hx, hr, Result.andThen]
  exact hK

theorem cell_grown {w W : World} {a : Addr} {v : Value} (h : w.cell? a = some v) (g : w.grownBy W none) : W.cell? a = some v := g.cell h (by simp)
theorem below_grown {w W : World} (h : Below w.heap.size w W) : w.grownBy W none := ⟨h.os, h.tape, h.output, h.size, fun i hi _ => h.block i hi⟩
theorem grown_bel {w W : World} (h : w.grownBy W none) : Below w.heap.size w W := ⟨h.os, h.tape, h.output, h.size, fun i hi => h.block i hi (by simp)⟩
theorem alloc_size (w : World) (o : Obj) : (w.alloc o).heap.size = w.heap.size + 1 := by show (w.heap.push _).size = _; simp
end Go.Proofs.YtbdjlhkgpblebaaDoor
