/- G4I, G4J, F0L, G4M, one text. -/
import Derived.Test.YtggjeamondampaaM4A
import Derived.Test.YtggjeamondampaaFN
import Derived.Test.YtggjeamondampaaFW
import Derived.Test.YtggjeamondampaaFX1
import Derived.Deep.RegionHeld3
import Derived.Deep.RegionHeld
import Derived.OrdersHeld
import Derived.Deep.DeepCutAuto
import Derived.WalkMore
namespace Go.Proofs.Ytggjeamondampaa.Bg
open Go.RowKit Go.Proofs.Ytggjeamondampaa
set_option maxRecDepth 100000
set_option linter.unusedVariables false

def sepV (u v : Value) : Prop := u.ownBlock = none ∨ u.ownBlock ≠ v.ownBlock
/-- Blocks that hold neither bytes nor lists of bytes are as they were. -/
def Kp (w0 w : World) : Prop := ∀ (g : Nat) (c : Array Value) (t : TypeId) (fr : Nat × Nat), w0.heap[g]? = some (.cells c t fr) → t ≠ 5 → t ≠ 22 → w.heap[g]? = w0.heap[g]?
theorem Kp.grown {w W : World} (gr : w.grownBy W none) : Kp w W := fun g c t fr h _ _ => gr.block g (lt_of_block h) (by simp)
theorem Kp.set {w0 w W : World} {g : Nat} {c : Array Value} {fr : Nat × Nat} (h : Kp w0 w) (hg : w.heap[g]? = some (.cells c 5 fr)) (hW : ∀ k, k ≠ g → W.heap[k]? = w.heap[k]?) : Kp w0 W := fun k c' t fr' h1 h2 h3 => by
  have e := h k c' t fr' h1 h2 h3
  rw [hW k (fun e2 => ?_)]
  · exact e
  · subst e2
    rw [hg, h1] at e
    simp only [Option.some.injEq, Obj.cells.injEq] at e
    exact h2 e.2.1.symm
theorem Kp.moved {w0 w W : World} {y y' : Value} {T : TypeId} (h : Kp w0 w) (o : Obj) (hm : Moved (w.alloc o) W y y') (ht : ∀ g, y.ownBlock = some g → ∃ c, w.heap[g]? = some (.cells c T (0, 0))) (hT : T = 5 ∨ T = 22) : Kp w0 W := fun k c' t fr' h1 h2 h3 => by
  have e := h k c' t fr' h1 h2 h3
  rw [h1] at e ⊢
  refine hm.block (block_alloc e o) (fun e2 => ?_)
  obtain ⟨c, hc⟩ := ht k e2
  rw [hc] at e
  simp only [Option.some.injEq, Obj.cells.injEq] at e
  rcases hT with rfl | rfl
  · exact h2 e.2.1.symm
  · exact h3 e.2.1.symm

def mkA (i k : Nat) : Int := (3 + 7 * (i : Int) + 5 * (k : Int)) % 256
def cA (i : Nat) : Int := (131 + 11 * (i : Int)) % 256

/-- The lists that are held against one another: where each lies, how long it is, its room. -/
structure Held where
  m : Nat
  ad : Nat → Option Addr
  ns : Nat → Nat
  cp : Nat → Nat
  cb : Array Value
def Held.v (h : Held) (j : Nat) : Value := .slice (h.ad j) (h.ns j) (h.cp j)

structure Held.Fit (h : Held) : Prop where
  cell : ∀ j, j < h.m → h.cb[j]? = some (h.v j)
  sep : ∀ i j, i < h.m → j < h.m → i ≠ j → (h.v i).ownBlock = none ∨ (h.v i).ownBlock ≠ (h.v j).ownBlock
  small : ∀ j, j < h.m → h.ns j ≤ 140737488355000
  few : h.m ≤ 100000000

section
variable {H : Held} {w0 wr : World} {B b : Nat}

/-- The first phase: the first i lists are written full, of the next one k places. -/
structure A1 (H : Held) (w0 : World) (B b : Nat) (wr : World) (i k : Nat) : Prop where
  blk : wr.heap[b]? = some (.cells H.cb 22 (0, 0))
  own : ∀ j, j < H.m → ∃ xs, wr.ownsRow B 5 1 (H.v j) (H.ns j) xs ∧ ∀ q, q < H.ns j → (j < i ∨ (j = i ∧ q < k)) → xs[q]? = some (.int .u8 (mkA j q))
  bel : Below B w0 wr
  low : B ≤ b
  keep : Kp w0 wr

theorem A1.next {i : Nat} (h : A1 H w0 B b wr i (H.ns i)) : A1 H w0 B b wr (i + 1) 0 :=
  ⟨h.blk, fun j hj => by
    obtain ⟨xs, h1, h2⟩ := h.own j hj
    refine ⟨xs, h1, fun q hq hd => h2 q hq ?_⟩
    by_cases e : j = i
    · subst e; exact .inr ⟨rfl, hq⟩
    · left; omega, h.bel, h.low, h.keep⟩

theorem cellB (hb : wr.heap[b]? = some (.cells H.cb 22 (0, 0))) (hf : H.Fit) (j : Nat) (hj : j < H.m) : wr.cell? ⟨b, j, none⟩ = some (.slice (H.ad j) (H.ns j) (H.cp j)) := by
  simp only [World.cell?, hb]
  simpa [Held.v] using hf.cell j hj

theorem neB (hb : wr.heap[b]? = some (.cells H.cb 22 (0, 0))) {g : Nat} {c : Array Value} (hg : wr.heap[g]? = some (.cells c 5 (0, 0))) : b ≠ g := by
  intro e
  subst e
  rw [hb] at hg
  simp at hg

theorem A1.step {i k : Nat} (h : A1 H w0 B b wr i k) (hf : H.Fit) (hi : i < H.m) (hk : k < H.ns i) :
    ∃ g y, H.ad i = some ⟨g, 0, none⟩ ∧ H.ns i ≤ H.cp i ∧ H.cp i ≤ maxLen ∧ wr.cell? ⟨g, k, none⟩ = some y ∧ wr.frozen? ⟨g, k, none⟩ = false ∧ A1 H w0 B b (wr.setCell ⟨g, k, none⟩ (.int .u8 (mkA i k))) i (k + 1) := by
  obtain ⟨xs, ho, hx⟩ := h.own i hi
  obtain ⟨g, cap, e, hg, hgl, hnc, hcm⟩ := ownsRow_open ho (by omega)
  have e' := e
  simp only [Held.v, Value.slice.injEq] at e'
  obtain ⟨ea, -, ec⟩ := e'
  rw [e] at ho
  have hc := ho.cellAt k (by omega)
  have hl := ho.1
  have st := ho.stored k (.int .u8 (mkA i k))
  obtain ⟨c, hcb⟩ := ownsRow_block ho g rfl
  refine ⟨g, xs[k]'(by omega), ea, by omega, by rw [ec]; exact hcm, by rw [hc, List.getElem?_eq_getElem], ho.frozenAt k, ⟨?_, fun j hj => ?_, h.bel.setCell hg _, h.low, h.keep.set hcb (fun q hq => heap_setCell_other _ _ _ _ hq)⟩⟩
  · rw [heap_setCell_other _ _ _ _ (by show b ≠ g; exact neB h.blk hcb)]; exact h.blk
  · by_cases eij : j = i
    · subst eij
      refine ⟨xs.set k (.int .u8 (mkA j k)), by rw [e]; exact st.1, fun q hq hd => ?_⟩
      by_cases eq : k = q
      · subst eq; rw [List.getElem?_set_self (by omega)]
      · rw [List.getElem?_set_ne eq]; exact hx q hq (by omega)
    · obtain ⟨ys, h1, h2⟩ := h.own j hj
      refine ⟨ys, h1.kept st.2 ?_, fun q hq hd => h2 q hq (by omega)⟩
      rcases hf.sep j i hj hi eij with hs | hs
      · exact .inl hs
      · right; rw [e] at hs; exact hs

/-- What holds of a list that was made longer. -/
def Long (H : Held) (B : Nat) (w : World) (j k : Nat) (u : Value) : Prop :=
  ∃ xs, w.ownsRow B 5 1 u (H.ns j + k) xs ∧ (∀ q, q < H.ns j → xs[q]? = some (.int .u8 (mkA j q))) ∧ ∀ q, H.ns j ≤ q → q < H.ns j + k → xs[q]? = some (.int .u8 (cA j))

/-- The second phase, between two lists. -/
structure A2 (H : Held) (w0 : World) (B b : Nat) (wr : World) (i : Nat) (lv : Value) (ys : List Value) : Prop where
  blk : wr.heap[b]? = some (.cells H.cb 22 (0, 0))
  rd : ∀ j, j < H.m → ∀ q, q < H.ns j → ∃ g, H.ad j = some ⟨g, 0, none⟩ ∧ wr.cell? ⟨g, q, none⟩ = some (.int .u8 (mkA j q))
  own : ∀ j, i ≤ j → j < H.m → Long H B wr j 0 (H.v j)
  typ : ∀ j, j < H.m → ∀ g, (H.v j).ownBlock = some g → ∃ c, wr.heap[g]? = some (.cells c 5 (0, 0))
  len : ys.length = i
  old : ∀ (j : Nat) (u : Value), ys[j]? = some u → Long H B wr j 80 u
  row : wr.ownsRow (b + 1) 22 1 lv i ys
  sep : ∀ (j : Nat) (u : Value), ys[j]? = some u → ∀ q, q < H.m → i ≤ q → u.ownBlock ≠ (H.v q).ownBlock
  bel : Below B w0 wr
  low : B ≤ b
  keep : Kp w0 wr

/-- The second phase, within a list: y is made longer. -/
structure A2y (H : Held) (w0 : World) (B b : Nat) (wr : World) (i k : Nat) (y lv : Value) (ys : List Value) : Prop where
  blk : wr.heap[b]? = some (.cells H.cb 22 (0, 0))
  rd : ∀ j, j < H.m → ∀ q, q < H.ns j → ∃ g, H.ad j = some ⟨g, 0, none⟩ ∧ wr.cell? ⟨g, q, none⟩ = some (.int .u8 (mkA j q))
  own : ∀ j, i < j → j < H.m → Long H B wr j 0 (H.v j)
  cur : Long H B wr i k y
  typ : ∀ j, j < H.m → ∀ g, (H.v j).ownBlock = some g → ∃ c, wr.heap[g]? = some (.cells c 5 (0, 0))
  len : ys.length = i
  old : ∀ (j : Nat) (u : Value), ys[j]? = some u → Long H B wr j 80 u
  row : wr.ownsRow (b + 1) 22 1 lv i ys
  sepv : ∀ j, j < H.m → j ≠ i → y.ownBlock = none ∨ y.ownBlock ≠ (H.v j).ownBlock
  sepu : ∀ (j : Nat) (u : Value), ys[j]? = some u → y.ownBlock = none ∨ y.ownBlock ≠ u.ownBlock
  sep : ∀ (j : Nat) (u : Value), ys[j]? = some u → ∀ q, q < H.m → i < q → u.ownBlock ≠ (H.v q).ownBlock
  bel : Below B w0 wr
  low : B ≤ b
  keep : Kp w0 wr

theorem A1.turn (h : A1 H w0 B b wr H.m 0) : A2 H w0 B b wr 0 (.slice none 0 0) [] := by
  have ow : ∀ j, j < H.m → Long H B wr j 0 (H.v j) := fun j hj => by
    obtain ⟨xs, h1, h2⟩ := h.own j hj
    exact ⟨xs, h1, fun q hq => h2 q hq (.inl hj), fun q h1 h2 => by omega⟩
  refine ⟨h.blk, fun j hj q hq => ?_, fun j _ hj => ow j hj, fun j hj g hg => ?_, rfl, fun j u hu => by simp at hu, World.ownsRow_nil _ _ _ _, fun j u hu => by simp at hu, h.bel, h.low, h.keep⟩
  · obtain ⟨xs, h1, h2, _⟩ := ow j hj
    obtain ⟨g, cap, e, _⟩ := ownsRow_open h1 (by omega)
    have e' := e
    simp only [Held.v, Value.slice.injEq] at e'
    rw [e] at h1
    exact ⟨g, e'.1, by rw [h1.cellAt q (by omega)]; exact h2 q hq⟩
  · obtain ⟨xs, h1, h2, _⟩ := ow j hj
    exact ownsRow_block h1 g hg

theorem A2.enter {i : Nat} {lv : Value} {ys : List Value} (h : A2 H w0 B b wr i lv ys) (hf : H.Fit) (hi : i < H.m) : A2y H w0 B b wr i 0 (H.v i) lv ys :=
  ⟨h.blk, h.rd, fun j h1 h2 => h.own j (by omega) h2, h.own i (Nat.le_refl _) hi, h.typ, h.len, h.old, h.row, fun j hj hne => hf.sep i j hi hj (Ne.symm hne),
    fun j u hu => .inr (Ne.symm (h.sep j u hu i hi (Nat.le_refl _))), fun j u hu q hq hiq => h.sep j u hu q hq (by omega), h.bel, h.low, h.keep⟩

theorem A2y.app {i k : Nat} {y lv : Value} {ys : List Value} (h : A2y H w0 B b wr i k y lv ys) (hi : i < H.m) (o : Obj) {W1 : World} {y' : Value} {xs : List Value} (hx : wr.ownsRow B 5 1 y (H.ns i + k) xs) (hm : Moved (wr.alloc o) W1 y y') (ho : W1.ownsRow B 5 1 y' (H.ns i + k + 1) (xs ++ [.int .u8 (cA i)])) :
    A2y H w0 B b W1 i (k + 1) y' lv ys := by
  have hsz := hm.size
  simp only [World.size_alloc] at hsz
  have yb : y.ownBlock ≠ some b := fun e => by
    obtain ⟨c, hc⟩ := ownsRow_block hx b e
    exact neB h.blk hc rfl
  have hl := hx.1
  obtain ⟨xs0, hx0, hx1, hx2⟩ := h.cur
  have exs : xs0 = xs := by
    rcases hx.2 with ⟨rfl, h0⟩ | ⟨g, cap, c, rfl, _, hg, _, _, _, ht⟩
    · have := hx0.1
      simp only [h0, Nat.zero_mul] at this hl
      rw [List.eq_nil_of_length_eq_zero this, List.eq_nil_of_length_eq_zero hl]
    · rcases hx0.2 with ⟨h', _⟩ | ⟨g', cap', c', h', _, hg', _, _, _, ht'⟩
      · simp at h'
      · simp only [Value.slice.injEq, Option.some.injEq, Addr.mk.injEq, and_true, true_and] at h'
        obtain ⟨rfl, rfl⟩ := h'
        rw [hg] at hg'
        simp only [Option.some.injEq, Obj.cells.injEq, and_true] at hg'
        subst hg'
        rw [← ht, ← ht']
  subst exs
  have cur' : Long H B W1 i (k + 1) y' := by
    refine ⟨xs0 ++ [.int .u8 (cA i)], by rw [← Nat.add_assoc]; exact ho, fun q hq => ?_, fun q h1 h2 => ?_⟩
    · rw [List.getElem?_append_left (by omega)]; exact hx1 q hq
    · by_cases e : q < H.ns i + k
      · rw [List.getElem?_append_left (by omega)]; exact hx2 q h1 e
      · have : q = xs0.length := by omega
        subst this
        simp
  have nb : ∀ g, y'.ownBlock = some g → y.ownBlock = some g ∨ g = wr.heap.size + 1 := fun g hg => by
    rcases hm with ⟨e, _⟩ | ⟨e, _, _⟩
    · left; rw [← e]; exact hg
    · right; rw [e] at hg; simpa using hg.symm
  refine ⟨hm.block (block_alloc h.blk o) yb, fun j hj q hq => ?_, fun j h1 h2 => ?_, cur', fun j hj g hg => ?_, h.len, fun j u hu => ?_, ?_, fun j hj hne => ?_, fun j u hu => ?_, h.sep, ?_, h.low, h.keep.moved o hm (fun g hg => ownsRow_block hx g hg) (.inl rfl)⟩
  · obtain ⟨g, hg, hc⟩ := h.rd j hj q hq
    refine ⟨g, hg, ?_⟩
    by_cases e : y.ownBlock = some g
    · have eji : j = i := by
        by_cases e2 : j = i
        · exact e2
        · rcases h.sepv j hj e2 with hs | hs
          · rw [hs] at e; cases e
          · exact absurd (by rw [e, Held.v, hg]; rfl) hs
      subst eji
      rcases hm with ⟨e3, hgr⟩ | ⟨e3, hgr, _⟩
      · obtain ⟨g2, cap, e4, _⟩ := ownsRow_open ho (by omega)
        rw [e4] at e3 ho
        rw [e] at e3
        simp only [Value.ownBlock, Option.some.injEq] at e3
        subst e3
        rw [ho.cellAt q (by omega), List.getElem?_append_left (by omega)]
        exact hx1 q hq
      · exact hgr.cell (cell_alloc hc o) (by simp)
    · exact hm.cell (cell_alloc hc o) e
  · obtain ⟨zs, z1, z2, z3⟩ := h.own j h1 h2
    refine ⟨zs, hm.kept (z1.alloc o) ?_, z2, z3⟩
    rcases h.sepv j h2 (by omega) with hs | hs
    · rw [hs]; cases (H.v j).ownBlock <;> simp
    · exact .inr (Ne.symm hs)
  · obtain ⟨c, hc⟩ := h.typ j hj g hg
    by_cases e : y.ownBlock = some g
    · rcases hm with ⟨e3, hgr⟩ | ⟨e3, hgr, _⟩
      · exact ownsRow_block ho g (by rw [e3]; exact e)
      · exact ⟨c, by rw [hgr.block g (by have := lt_of_block hc; simp; omega) (by simp)]; exact block_alloc hc o⟩
    · exact ⟨c, hm.block (block_alloc hc o) e⟩
  · obtain ⟨zs, z1, z2, z3⟩ := h.old j u hu
    refine ⟨zs, hm.kept (z1.alloc o) ?_, z2, z3⟩
    rcases h.sepu j u hu with hs | hs
    · rw [hs]; cases u.ownBlock <;> simp
    · exact .inr (Ne.symm hs)
  · exact hm.kept (h.row.alloc o) (rows_apart (h.row.alloc o) (hx.alloc o) (by decide))
  · cases hy : y'.ownBlock with
    | none => exact .inl rfl
    | some g =>
      right
      intro e
      rcases nb g hy with h1 | h1
      · rcases h.sepv j hj hne with hs | hs
        · rw [hs] at h1; cases h1
        · exact hs (by rw [h1]; exact e)
      · obtain ⟨c, hc⟩ := h.typ j hj g e.symm
        have := lt_of_block hc
        omega
  · cases hy : y'.ownBlock with
    | none => exact .inl rfl
    | some g =>
      right
      intro e
      rcases nb g hy with h1 | h1
      · rcases h.sepu j u hu with hs | hs
        · rw [hs] at h1; cases h1
        · exact hs (by rw [h1]; exact e)
      · obtain ⟨zs, z1, _⟩ := h.old j u hu
        have := (z1.lt g e.symm).2
        omega
  · exact hm.below (h.bel.alloc (by have := h.bel.size; have := lt_of_block h.blk; have := h.low; omega) o) (by have := lt_of_block h.blk; have := h.low; simp; omega) (fun g hg => (hx.lt g hg).1)

theorem A2y.leave {i : Nat} {y lv : Value} {ys : List Value} (h : A2y H w0 B b wr i 80 y lv ys) (hi : i < H.m) (o : Obj) {W1 : World} {lv' : Value} (hm : Moved (wr.alloc o) W1 lv lv') (ho : W1.ownsRow (b + 1) 22 1 lv' (i + 1) (ys ++ [y])) :
    A2 H w0 B b W1 (i + 1) lv' (ys ++ [y]) := by
  have hsz := hm.size
  simp only [World.size_alloc] at hsz
  have hb : lv.ownBlock ≠ some b := fun e => by have := (h.row.lt b e).1; omega
  have keep : ∀ j k u, Long H B wr j k u → Long H B W1 j k u := fun j k u ⟨xs, h1, h2, h3⟩ =>
    ⟨xs, hm.kept (h1.alloc o) (rows_apart (h1.alloc o) (h.row.alloc o) (by decide)), h2, h3⟩
  have ge : ∀ (j : Nat) (u : Value), (ys ++ [y])[j]? = some u → (ys[j]? = some u) ∨ (j = i ∧ u = y) := fun j u hu => by
    by_cases e : j < ys.length
    · rw [List.getElem?_append_left e] at hu; exact .inl hu
    · rw [List.getElem?_append_right (by omega)] at hu
      have hl := h.len
      match hj : j - ys.length, hu with
      | 0, hu => right; simp at hu; exact ⟨by omega, hu.symm⟩
      | q + 1, hu => simp at hu
  refine ⟨hm.block (block_alloc h.blk o) hb, fun j hj q hq => ?_, fun j h1 h2 => keep j 0 _ (h.own j (by omega) h2), fun j hj g hg => ?_, by simp [h.len], fun j u hu => ?_, ho, fun j u hu q hq hiq => ?_, ?_, h.low, h.keep.moved o hm (fun g hg => ownsRow_block h.row g hg) (.inr rfl)⟩
  · obtain ⟨g, hg, hc⟩ := h.rd j hj q hq
    refine ⟨g, hg, hm.cell (cell_alloc hc o) (fun e => ?_)⟩
    obtain ⟨c, h1⟩ := ownsRow_block h.row g e
    obtain ⟨c', h2⟩ := h.typ j hj g (by rw [Held.v, hg]; rfl)
    rw [h1] at h2
    simp at h2
  · obtain ⟨c, hc⟩ := h.typ j hj g hg
    refine ⟨c, hm.block (block_alloc hc o) (fun e => ?_)⟩
    obtain ⟨c', h1⟩ := ownsRow_block h.row g e
    rw [hc] at h1
    simp at h1
  · rcases ge j u hu with h1 | ⟨rfl, rfl⟩
    · exact keep j 80 u (h.old j u h1)
    · exact keep _ 80 _ h.cur
  · rcases ge j u hu with h1 | ⟨rfl, rfl⟩
    · exact h.sep j u h1 q hq (by omega)
    · rcases h.sepv q hq (by omega) with hs | hs
      · obtain ⟨xs, z1, _⟩ := h.cur
        obtain ⟨g, cap, e, _⟩ := ownsRow_open z1 (by omega)
        rw [e] at hs
        simp [Value.ownBlock] at hs
      · exact hs
  · exact hm.below (h.bel.alloc (by have := h.bel.size; have := lt_of_block h.blk; have := h.low; omega) o) (by have := lt_of_block h.blk; have := h.low; simp; omega) (fun g hg => by have := (h.row.lt g hg).1; have := h.low; omega)
end

theorem Long.cells {H : Held} {B : Nat} {w : World} {j : Nat} {u : Value} (h : Long H B w j 80 u) : ∃ g cap, u = .slice (some ⟨g, 0, none⟩) (H.ns j + 80) cap ∧ H.ns j + 80 ≤ cap ∧ cap ≤ maxLen ∧ (∀ q, q < H.ns j → w.cell? ⟨g, q, none⟩ = some (.int .u8 (mkA j q))) ∧ ∀ q, H.ns j ≤ q → q < H.ns j + 80 → w.cell? ⟨g, q, none⟩ = some (.int .u8 (cA j)) := by
  obtain ⟨xs, h1, h2, h3⟩ := h
  obtain ⟨g, cap, rfl, _, _, hc, hm⟩ := ownsRow_open h1 (by omega)
  exact ⟨g, cap, rfl, hc, hm, fun q hq => by rw [h1.cellAt q (by omega)]; exact h2 q hq, fun q hq hq2 => by rw [h1.cellAt q (by omega)]; exact h3 q hq hq2⟩

set_option maxHeartbeats 6400000 in
theorem apart_any (H : Held) (w0 wr : World) (B b c : Nat) (hf : H.Fit) (ha : A1 H w0 B b wr 0 0) :
    Calls Try.prog 19 #[.slice (some ⟨b, 0, none⟩) H.m c] wr fun e w' => e = .returned (.bool true) ∧ Below B w0 w' ∧ Kp w0 w' := by
  have few := hf.few
  have HF := hide hf; have HA := hide ha
  clear hf ha
  go_enter Try.func19, Try.ntmps19
  go_wp2
  go_loopw [3] (fun i w => ∃ j : Nat, j ≤ H.m ∧ i = .int .i64 j ∧ A1 H w0 B b w j 0) (fun i _ => H.m - (intOf i).toNat)
  case atStart => exact ⟨0, Nat.zero_le _, rfl, unhide HA⟩
  case round =>
    clear HA
    obtain ⟨i, hi, rfl, h1⟩ := hrel
    by_cases hlt : i < H.m
    · have small := (unhide HF).small i hlt
      have A0 := hide h1
      clear h1
      go_wp2
      go_loopw [4] (fun q w => ∃ k : Nat, k ≤ H.ns i ∧ q = .int .i64 k ∧ A1 H w0 B b w i k) (fun q _ => H.ns i - (intOf q).toNat)
      case atStart => exact ⟨0, Nat.zero_le _, rfl, unhide A0⟩
      case round =>
        clear A0
        obtain ⟨k, hk, rfl, h1⟩ := hrel
        have cb := cellB h1.blk (unhide HF) i hlt
        by_cases hlk : k < H.ns i
        · obtain ⟨g, y, e1, e2, e3, e4, e5, h2⟩ := h1.step (unhide HF) hlt hlk
          unfold maxLen at e3
          have A2 := hide h2
          unfold mkA at A2
          clear h1 h2
          go_wp2
          go_roundw
          case rel => exact ⟨k + 1, by omega, by go_num, unhide A2⟩
          case measure => simp [intOf]; omega
        · have ek : k = H.ns i := by omega
          subst ek
          have A2 := hide h1.next
          clear h1
          go_wp2
          go_roundw
          case rel => exact ⟨i + 1, by omega, by go_num, unhide A2⟩
          case measure => simp [intOf]; omega
    · have ei : i = H.m := by omega
      subst ei
      have A0 := hide h1.turn
      clear h1 hlt
      go_wp2
      go_loopw [5, 6] (fun lv i w => ∃ (j : Nat) (ys : List Value), j ≤ H.m ∧ i = .int .i64 j ∧ A2 H w0 B b w j lv ys) (fun _ i _ => H.m - (intOf i).toNat)
      case atStart => exact ⟨0, [], Nat.zero_le _, rfl, unhide A0⟩
      case round =>
        clear A0
        obtain ⟨i, ys, hi, rfl, h1⟩ := hrel
        by_cases hlt : i < H.m
        · have small := (unhide HF).small i hlt
          have cb := cellB h1.blk (unhide HF) i hlt
          have A0 := hide (h1.enter (unhide HF) hlt)
          unfold Held.v at A0
          clear h1
          go_wp2
          go_loopw [7, 8] (fun y q w => ∃ k : Nat, k ≤ 80 ∧ q = .int .i64 k ∧ A2y H w0 B b w i k y u5 ys) (fun _ q _ => 80 - (intOf q).toNat)
          case atStart => exact ⟨0, by omega, rfl, unhide A0⟩
          case round =>
            clear A0 cb
            obtain ⟨k, hk, rfl, h1⟩ := hrel
            have hB : B ≤ wr.heap.size := by have := lt_of_block h1.blk; have := h1.low; omega
            have hb1 : b + 1 ≤ wr.heap.size := lt_of_block h1.blk
            by_cases hlk : k < 80
            · obtain ⟨xs, hx, -⟩ := h1.cur
              have HX := hide hx; have HY := hide h1
              clear hx h1
              go_wp2_with (first
                | (at_builtin; refine wpList_app1g _ rfl (.tmp 54) (.tmp 59) rfl B _ (H.ns i + k) xs (unhide HX) rfl (.int .u8 ((131 + 11 * (i : Int)) % 256)) rfl _ rfl (by simp) (by omega) hB ?_; intro y' W1 ho hmv _; have HN := hide ((unhide HY).app hlt _ (unhide HX) hmv ho); clear ho hmv)
                | go_in)
              go_roundw
              case rel => exact ⟨k + 1, by omega, by go_num, unhide HN⟩
              case measure => simp [intOf]; omega
            · have ek : k = 80 := by omega
              subst ek
              obtain ⟨xs, hx, -⟩ := h1.cur
              obtain ⟨g, cap, rfl, -⟩ := ownsRow_open hx (by omega)
              have HY := hide h1
              clear hx h1
              go_wp2_with (first
                | (at_builtin; refine wpList_appS _ rfl (.tmp 61) (.tmp 63) rfl (b + 1) _ i ys (unhide HY).row rfl (.slice (some ⟨g, 0, none⟩) (H.ns i + 80) cap) rfl _ rfl (by simp) (by omega) hb1 ?_; intro lv' W1 ho hmv _; have HN := hide ((unhide HY).leave hlt _ hmv ho); clear ho hmv)
                | go_in)
              go_roundw
              case rel => exact ⟨i + 1, _, by omega, by go_num, unhide HN⟩
              case measure => simp [intOf]; omega
        · have ei : i = H.m := by omega
          subst ei
          have A0 := hide h1
          clear h1 hlt hi
          go_wp2
          go_loop [9] (fun i => ∃ j : Nat, j ≤ H.m ∧ i = .int .i64 j) (fun i => H.m - (intOf i).toNat)
          case atStart => exact ⟨0, Nat.zero_le _, rfl⟩
          case round =>
            obtain ⟨i, hi, rfl⟩ := hrel
            by_cases hlt : i < H.m
            · have small := (unhide HF).small i hlt
              have cb := cellB (unhide A0).blk (unhide HF) i hlt
              have hlen := (unhide A0).len
              obtain ⟨gl, cl, el, -, -, ncl, mcl⟩ := ownsRow_open (unhide A0).row (by omega)
              subst el
              have hu := (unhide A0).row.cellAt i (by omega)
              rw [List.getElem?_eq_getElem (by omega)] at hu
              have lg := (unhide A0).old i _ (List.getElem?_eq_getElem (by omega))
              generalize ys[i] = u at hu lg
              obtain ⟨gu, cu, rfl, ncu, mcu, cu1, cu2⟩ := lg.cells
              have RD := hide ((unhide A0).rd i hlt); have CU1 := hide cu1; have CU2 := hide cu2
              unfold maxLen at mcl mcu
              clear lg cu1 cu2 hlen
              go_wp2
              go_loop [10] (fun q => ∃ k : Nat, k ≤ H.ns i + 80 ∧ q = .int .i64 k) (fun q => H.ns i + 80 - (intOf q).toNat)
              case atStart => exact ⟨0, Nat.zero_le _, rfl⟩
              case round =>
                obtain ⟨k, hk, rfl⟩ := hrel
                by_cases hlk : k < H.ns i
                · obtain ⟨g, eg, cg⟩ := (unhide RD) k hlk
                  have cu := (unhide CU1) k hlk
                  unfold mkA at cg cu
                  go_wp2
                  go_round
                  case rel => exact ⟨k + 1, by omega, by go_num⟩
                  case measure => simp [intOf]; omega
                · by_cases hl2 : k < H.ns i + 80
                  · have cu := (unhide CU2) k (by omega) hl2
                    unfold cA at cu
                    go_wp2
                    go_round
                    case rel => exact ⟨k + 1, by omega, by go_num⟩
                    case measure => simp [intOf]; omega
                  · go_wp2
                    go_round
                    case rel => exact ⟨i + 1, by omega, by go_num⟩
                    case measure => simp [intOf]; omega
            · go_wp2
              go_ret
              exact ⟨rfl, (unhide A0).bel, (unhide A0).keep⟩
def heldIn (vs : List Value) (cur : Array Value) : Held := ⟨vs.length, fun j => vad (vs.getD j (.slice none 0 0)), fun j => vns (vs.getD j (.slice none 0 0)), fun j => vcp (vs.getD j (.slice none 0 0)), cur⟩
theorem apart_row (vs : List Value) (cur : Array Value) (w0 wr : World) (B b c : Nat) (hB : B ≤ b) (hb : wr.heap[b]? = some (.cells cur 22 (0, 0))) (hcur : cur.toList.take vs.length = vs) (hown : ∀ v ∈ vs, ∃ n xs, wr.ownsRow B 5 1 v n xs ∧ n ≤ 140737488355000)
    (hsep : vs.Pairwise sepV) (few : vs.length ≤ 100000000) (bel : Below B w0 wr) (kp : Kp w0 wr) :
    Calls Try.prog 19 #[.slice (some ⟨b, 0, none⟩) vs.length c] wr fun e w' => e = .returned (.bool true) ∧ Below B w0 w' ∧ Kp w0 w' := by
  have get : ∀ j, j < vs.length → vs[j]? = some (vs.getD j (.slice none 0 0)) := fun j hj => by simp [List.getD, hj]
  have mem : ∀ j, j < vs.length → vs.getD j (.slice none 0 0) ∈ vs := fun j hj => List.mem_of_getElem? (get j hj)
  have hv : ∀ j, j < vs.length → (heldIn vs cur).v j = vs.getD j (.slice none 0 0) := fun j hj => by
    obtain ⟨n, xs, ho, _⟩ := hown _ (mem j hj)
    exact (ownsRow_shape ho).1.symm
  have fit : (heldIn vs cur).Fit := by
    refine ⟨fun j hj => ?_, fun i j hi hj hne => ?_, fun j hj => ?_, few⟩
    · rw [hv j hj]
      show cur[j]? = _
      have hj' : j < vs.length := hj
      have e : (cur.toList.take vs.length)[j]? = vs[j]? := by rw [hcur]
      rw [List.getElem?_take, if_pos hj', Array.getElem?_toList] at e
      rw [e]; exact get j hj'
    · rw [hv i hi, hv j hj]
      rw [List.pairwise_iff_getElem] at hsep
      have hi' : i < vs.length := hi
      have hj' : j < vs.length := hj
      have e1 : vs.getD i (.slice none 0 0) = vs[i] := by simp [List.getD, hi']
      have e2 : vs.getD j (.slice none 0 0) = vs[j] := by simp [List.getD, hj']
      rw [e1, e2]
      rcases Nat.lt_or_gt_of_ne hne with h | h
      · exact hsep i j hi' hj' h
      · rcases hsep j i hj' hi' h with h1 | h1
        · rw [h1]; cases vs[i].ownBlock <;> simp
        · exact .inr (Ne.symm h1)
    · obtain ⟨n, xs, ho, hn⟩ := hown _ (mem j hj)
      show vns _ ≤ _
      rw [(ownsRow_shape ho).2]; exact hn
  exact apart_any (heldIn vs cur) w0 wr B b c fit ⟨hb, fun j hj => by
    obtain ⟨n, xs, ho, _⟩ := hown _ (mem j hj)
    refine ⟨xs, ?_, fun q _ h => by omega⟩
    rw [hv j hj]
    show wr.ownsRow B 5 1 _ (vns _) xs
    rw [(ownsRow_shape ho).2]; exact ho, bel, hB, kp⟩

end Go.Proofs.Ytggjeamondampaa.Bg

namespace Go.Proofs.Ytggjeamondampaa.Rl
open Go.RowKit Go.Proofs.Ytggjeamondampaa
set_option maxRecDepth 100000
set_option linter.unusedVariables false

/-- Blocks that hold neither runs nor lists of runs are as they were. -/
def Kp (w0 w : World) : Prop := ∀ (g : Nat) (c : Array Value) (t : TypeId) (fr : Nat × Nat), w0.heap[g]? = some (.cells c t fr) → t ≠ 81 → t ≠ 23 → w.heap[g]? = w0.heap[g]?
theorem Kp.grown {w W : World} (gr : w.grownBy W none) : Kp w W := fun g c t fr h _ _ => gr.block g (lt_of_block h) (by simp)
theorem Kp.set {w0 w W : World} {g : Nat} {c : Array Value} {fr : Nat × Nat} (h : Kp w0 w) (hg : w.heap[g]? = some (.cells c 81 fr)) (hW : ∀ k, k ≠ g → W.heap[k]? = w.heap[k]?) : Kp w0 W := fun k c' t fr' h1 h2 h3 => by
  have e := h k c' t fr' h1 h2 h3
  rw [hW k (fun e2 => ?_)]
  · exact e
  · subst e2
    rw [hg, h1] at e
    simp only [Option.some.injEq, Obj.cells.injEq] at e
    exact h2 e.2.1.symm
theorem Kp.moved {w0 w W : World} {y y' : Value} {T : TypeId} (h : Kp w0 w) (o : Obj) (hm : Moved (w.alloc o) W y y') (ht : ∀ g, y.ownBlock = some g → ∃ c, w.heap[g]? = some (.cells c T (0, 0))) (hT : T = 81 ∨ T = 23) : Kp w0 W := fun k c' t fr' h1 h2 h3 => by
  have e := h k c' t fr' h1 h2 h3
  rw [h1] at e ⊢
  refine hm.block (block_alloc e o) (fun e2 => ?_)
  obtain ⟨c, hc⟩ := ht k e2
  rw [hc] at e
  simp only [Option.some.injEq, Obj.cells.injEq] at e
  rcases hT with rfl | rfl
  · exact h2 e.2.1.symm
  · exact h3 e.2.1.symm


def zc (i : Nat) : List Value := [.int .i64 (-5000), .int .i64 (i : Int)]
def M1 (xs : List Value) (j q : Nat) : Prop := xs[q * 2]? = some (.int .i64 (1000 * (j : Int) + (q : Int))) ∧ xs[q * 2 + 1]? = some (.int .i64 (-(j : Int)))
def M2 (xs : List Value) (j q : Nat) : Prop := xs[q * 2]? = some (.int .i64 (-5000)) ∧ xs[q * 2 + 1]? = some (.int .i64 (j : Int))
def D1 (w : World) (g j q : Nat) : Prop := w.cell? ⟨g, q * 2, none⟩ = some (.int .i64 (1000 * (j : Int) + (q : Int))) ∧ w.cell? ⟨g, q * 2 + 1, none⟩ = some (.int .i64 (-(j : Int)))
def D2 (w : World) (g j q : Nat) : Prop := w.cell? ⟨g, q * 2, none⟩ = some (.int .i64 (-5000)) ∧ w.cell? ⟨g, q * 2 + 1, none⟩ = some (.int .i64 (j : Int))
theorem get_app {xs ys : List Value} {n : Nat} {v : Value} (h : xs[n]? = some v) : (xs ++ ys)[n]? = some v := by
  rw [List.getElem?_append_left (List.getElem?_eq_some_iff.1 h).1]; exact h

section
variable {P : Program}
theorem app_keepN (w : World) (base : Nat) (t ty e : TypeId) (i : TypeInfo) (z : Value) (size bytes : Nat) (ht : P.underlying t = some (.slice e)) (hi : P.info? e = some i) (hz : i.zero = some z)
    (hsize : i.size = size) (hsz : 0 < size) (hby : i.bytes = bytes) (hzs : z.cells.size = size)
    (v : Value) (n : Nat) (xs : List Value) (hown : w.ownsRow base e size v n xs)
    (a : Addr) (m c : Nat) (news : List Value) (hl : news.length = m * size) (hnews : ∀ j u, news[j]? = some u → w.cell? (a.add j) = some u) (h1 : ∀ u ∈ news, u.oneCell' = true)
    (hm : 0 < m) (h63 : n + m ≤ maxLen) (hbytes : (n + m) * bytes ≤ 140737488355328) (hbase : base ≤ w.heap.size) :
    ∃ v' w', (Builtin.append_ #[t, t] ty #[v, .slice (some a) m c]).run P w = .ok v' w' ∧ w'.ownsRow base e size v' (n + m) (xs ++ news) ∧ Moved w w' v v' ∧ v' ≠ .slice none 0 0 := by
  obtain ⟨v', w', hr, ho, hg, hnil⟩ := run_append_own (P := P) w base t ty e i z size bytes ht hi hz hsize hby hzs hsz v n xs hown a m c news hl hnews h1 h63 hbytes hbase
  refine ⟨v', w', hr, ho, ?_, fun h => by have := (hnil.1 h).2; omega⟩
  have h63' : n + m ≤ 9223372036854775807 := by simp only [maxLen] at h63; omega
  rcases hown.2 with ⟨rfl, rfl⟩ | ⟨g, cap, cur, rfl, hbg, hgg, hnc, hcm, hcs, htake⟩
  · have := run_append_nil (P := P) w t ty e i z ht hi hz a m c news (by rw [hsize]; exact hl) hnews hm (by omega) (by rw [hby]; simp only [Nat.zero_add] at hbytes; omega)
    rw [this] at hr
    injection hr with e1 e2
    subst e1 e2
    exact .inr ⟨rfl, grown_drew_alloc w _⟩
  · by_cases hroom : n + m ≤ cap
    · have := run_append_room (P := P) w t ty e i ht hi g n cap cur hgg a m c news (by rw [hsize]; exact hl) hnews h1 hroom (by rw [hsize, hcs, hl, ← Nat.add_mul]; exact Nat.mul_le_mul_right _ hroom)
      rw [this] at hr
      injection hr with e1 e2
      subst e1
      exact .inl ⟨rfl, hg⟩
    · have := run_append_grow (P := P) w t ty e i z ht hi hz ⟨g, 0, none⟩ n cap xs (by rw [hsize]; exact hown.1) (hown.cells (g := g) rfl) a m c news (by rw [hsize]; exact hl) hnews (by omega) (by omega) (growslice_fits (by omega) (by rw [hby]; exact hbytes))
      rw [this] at hr
      injection hr with e1 e2
      subst e1 e2
      exact .inr ⟨rfl, grown_drew_alloc w _⟩

end
theorem ownsRow_open {w : World} {base size : Nat} {e : TypeId} {v : Value} {n : Nat} {xs : List Value} (h : w.ownsRow base e size v n xs) (hn : n ≠ 0) : ∃ g cap, v = .slice (some ⟨g, 0, none⟩) n cap ∧ base ≤ g ∧ g < w.heap.size ∧ n ≤ cap ∧ cap ≤ maxLen := by
  have hl := h.lt
  rcases h.2 with ⟨_, h0⟩ | ⟨g, cap, cur, rfl, hb, hg, hnc, hm, _⟩
  · exact absurd h0 hn
  · exact ⟨g, cap, rfl, hb, (hl g rfl).2, hnc, hm⟩
theorem ownsRow_block {w : World} {base size : Nat} {e : TypeId} {v : Value} {n : Nat} {xs : List Value} (h : w.ownsRow base e size v n xs) : ∀ g, v.ownBlock = some g → ∃ c, w.heap[g]? = some (.cells c e (0, 0)) := by
  intro g hg
  rcases h.2 with ⟨rfl, _⟩ | ⟨g', cap, cur, rfl, _, hh, _⟩
  · simp [Value.ownBlock] at hg
  · simp [Value.ownBlock] at hg
    subst hg
    exact ⟨cur, hh⟩

theorem keptM {w w' : World} {y y' v : Value} {e : TypeId} {B n size : Nat} {xs : List Value} (h : Moved w w' y y') (ho : w.ownsRow B e size v n xs) (hs : v.ownBlock = none ∨ v.ownBlock ≠ y.ownBlock) : w'.ownsRow B e size v n xs := by
  rcases h with ⟨_, hg⟩ | ⟨_, hg, _⟩
  · exact ho.kept hg hs
  · exact ho.kept hg (by cases v.ownBlock <;> simp)
theorem rows_apart {e e' : TypeId} {v v' : Value} {n n' s1 s2 : Nat} {xs xs' : List Value} {wr : World} {B B' : Nat} (h : wr.ownsRow B e s1 v n xs) (h' : wr.ownsRow B' e' s2 v' n' xs') (hne : e ≠ e') : v.ownBlock = none ∨ v.ownBlock ≠ v'.ownBlock := by
  cases hv : v.ownBlock with
  | none => exact .inl rfl
  | some g =>
    right
    intro e1
    obtain ⟨c, h1⟩ := ownsRow_block h g hv
    obtain ⟨c', h2⟩ := ownsRow_block h' g e1.symm
    rw [h1] at h2
    simp at h2
    exact hne h2.2

/-- The lists that are held against one another: where each lies, how long it is, its room. -/
structure Held where
  m : Nat
  ad : Nat → Option Addr
  ns : Nat → Nat
  cp : Nat → Nat
  cb : Array Value
def Held.v (h : Held) (j : Nat) : Value := .slice (h.ad j) (h.ns j) (h.cp j)

structure Held.Fit (h : Held) : Prop where
  cell : ∀ j, j < h.m → h.cb[j]? = some (h.v j)
  sep : ∀ i j, i < h.m → j < h.m → i ≠ j → (h.v i).ownBlock = none ∨ (h.v i).ownBlock ≠ (h.v j).ownBlock
  small : ∀ j, j < h.m → h.ns j ≤ 200000000
  few : h.m ≤ 500000000

section
variable {H : Held} {w0 wr : World} {B b : Nat}

/-- The first phase: the first i lists are written full, of the next one k places. -/
structure A1 (H : Held) (w0 : World) (B b : Nat) (wr : World) (i k : Nat) : Prop where
  blk : wr.heap[b]? = some (.cells H.cb 23 (0, 0))
  own : ∀ j, j < H.m → ∃ xs, wr.ownsRow B 81 2 (H.v j) (H.ns j) xs ∧ ∀ q, q < H.ns j → (j < i ∨ (j = i ∧ q < k)) → M1 xs j q
  bel : Below B w0 wr
  low : B ≤ b
  keep : Kp w0 wr

theorem A1.next {i : Nat} (h : A1 H w0 B b wr i (H.ns i)) : A1 H w0 B b wr (i + 1) 0 :=
  ⟨h.blk, fun j hj => by
    obtain ⟨xs, h1, h2⟩ := h.own j hj
    refine ⟨xs, h1, fun q hq hd => h2 q hq ?_⟩
    by_cases e : j = i
    · subst e; exact .inr ⟨rfl, hq⟩
    · left; omega, h.bel, h.low, h.keep⟩

theorem cellB (hb : wr.heap[b]? = some (.cells H.cb 23 (0, 0))) (hf : H.Fit) (j : Nat) (hj : j < H.m) : wr.cell? ⟨b, j, none⟩ = some (.slice (H.ad j) (H.ns j) (H.cp j)) := by
  simp only [World.cell?, hb]
  simpa [Held.v] using hf.cell j hj

theorem neB (hb : wr.heap[b]? = some (.cells H.cb 23 (0, 0))) {g : Nat} {c : Array Value} (hg : wr.heap[g]? = some (.cells c 81 (0, 0))) : b ≠ g := by
  intro e
  subst e
  rw [hb] at hg
  simp at hg

theorem A1.step {i k : Nat} (h : A1 H w0 B b wr i k) (hf : H.Fit) (hi : i < H.m) (hk : k < H.ns i) :
    ∃ g, H.ad i = some ⟨g, 0, none⟩ ∧ H.ns i ≤ H.cp i ∧ H.cp i ≤ maxLen ∧ (∃ y0 y1, wr.cell? ⟨g, k * 2, none⟩ = some y0 ∧ wr.cell? ⟨g, k * 2 + 1, none⟩ = some y1) ∧ (∀ j, wr.frozen? ⟨g, j, none⟩ = false)
      ∧ A1 H w0 B b ((wr.setCell ⟨g, k * 2, none⟩ (.int .i64 (1000 * (i : Int) + (k : Int)))).setCell ⟨g, k * 2 + 1, none⟩ (.int .i64 (-(i : Int)))) i (k + 1) := by
  obtain ⟨xs, ho, hx⟩ := h.own i hi
  obtain ⟨g, cap, e, hg, hgl, hnc, hcm⟩ := ownsRow_open ho (by omega)
  have e' := e
  simp only [Held.v, Value.slice.injEq] at e'
  obtain ⟨ea, -, ec⟩ := e'
  rw [e] at ho
  have hl := ho.1
  have hc : ∀ j, j < 2 → wr.cell? ⟨g, k * 2 + j, none⟩ = some (xs.getD (k * 2 + j) (.int .i64 0)) := fun j hj => by
    rw [ho.cellAt (k * 2 + j) (by omega)]
    simp [List.getD, show k * 2 + j < xs.length by omega]
  have s1 := ho.stored (k * 2) (.int .i64 (1000 * (i : Int) + (k : Int)))
  have s2 := s1.1.stored (k * 2 + 1) (.int .i64 (-(i : Int)))
  have gg := s1.2.trans s2.2
  obtain ⟨c, hcb⟩ := ownsRow_block ho g rfl
  obtain ⟨c1, hcb1⟩ := ownsRow_block s1.1 g rfl
  refine ⟨g, ea, by omega, by rw [ec]; exact hcm, ⟨_, _, hc 0 (by omega), hc 1 (by omega)⟩, fun j => ho.frozenAt j, ⟨?_, fun j hj => ?_, h.bel.grown gg (by have := lt_of_block h.blk; have := h.low; omega) (fun k e => by cases e; exact hg), h.low, (h.keep.set hcb (fun q hq => heap_setCell_other _ _ _ _ hq)).set hcb1 (fun q hq => heap_setCell_other _ _ _ _ hq)⟩⟩
  · rw [gg.block b (lt_of_block h.blk) (fun e => by cases e; exact neB h.blk hcb rfl)]; exact h.blk
  · by_cases eij : j = i
    · subst eij
      refine ⟨_, by rw [e]; exact s2.1, fun q hq hd => ?_⟩
      by_cases eq : k = q
      · subst eq
        exact ⟨by rw [List.getElem?_set_ne (by omega), List.getElem?_set_self (by omega)], by rw [List.getElem?_set_self (by rw [List.length_set]; omega)]⟩
      · have := hx q hq (by omega)
        exact ⟨by rw [List.getElem?_set_ne (by omega), List.getElem?_set_ne (by omega)]; exact this.1, by rw [List.getElem?_set_ne (by omega), List.getElem?_set_ne (by omega)]; exact this.2⟩
    · obtain ⟨ys, h1, h2⟩ := h.own j hj
      refine ⟨ys, h1.kept gg ?_, fun q hq hd => h2 q hq (by omega)⟩
      rcases hf.sep j i hj hi eij with hs | hs
      · exact .inl hs
      · right; rw [e] at hs; exact hs

/-- What holds of a list that was made longer. -/
def Long (H : Held) (B : Nat) (w : World) (j k : Nat) (u : Value) : Prop :=
  ∃ xs, w.ownsRow B 81 2 u (H.ns j + k) xs ∧ (∀ q, q < H.ns j → M1 xs j q) ∧ ∀ q, H.ns j ≤ q → q < H.ns j + k → M2 xs j q

/-- The second phase, between two lists. -/
structure A2 (H : Held) (w0 : World) (B b : Nat) (wr : World) (i : Nat) (lv : Value) (ys : List Value) : Prop where
  blk : wr.heap[b]? = some (.cells H.cb 23 (0, 0))
  rd : ∀ j, j < H.m → ∀ q, q < H.ns j → ∃ g, H.ad j = some ⟨g, 0, none⟩ ∧ D1 wr g j q
  own : ∀ j, i ≤ j → j < H.m → Long H B wr j 0 (H.v j)
  typ : ∀ j, j < H.m → ∀ g, (H.v j).ownBlock = some g → ∃ c, wr.heap[g]? = some (.cells c 81 (0, 0))
  len : ys.length = i
  old : ∀ (j : Nat) (u : Value), ys[j]? = some u → Long H B wr j 40 u
  row : wr.ownsRow (b + 1) 23 1 lv i ys
  sep : ∀ (j : Nat) (u : Value), ys[j]? = some u → ∀ q, q < H.m → i ≤ q → u.ownBlock ≠ (H.v q).ownBlock
  bel : Below B w0 wr
  low : B ≤ b
  keep : Kp w0 wr

/-- The second phase, within a list: y is made longer. -/
structure A2y (H : Held) (w0 : World) (B b : Nat) (wr : World) (i k : Nat) (y lv : Value) (ys : List Value) : Prop where
  blk : wr.heap[b]? = some (.cells H.cb 23 (0, 0))
  rd : ∀ j, j < H.m → ∀ q, q < H.ns j → ∃ g, H.ad j = some ⟨g, 0, none⟩ ∧ D1 wr g j q
  own : ∀ j, i < j → j < H.m → Long H B wr j 0 (H.v j)
  cur : Long H B wr i k y
  typ : ∀ j, j < H.m → ∀ g, (H.v j).ownBlock = some g → ∃ c, wr.heap[g]? = some (.cells c 81 (0, 0))
  len : ys.length = i
  old : ∀ (j : Nat) (u : Value), ys[j]? = some u → Long H B wr j 40 u
  row : wr.ownsRow (b + 1) 23 1 lv i ys
  sepv : ∀ j, j < H.m → j ≠ i → y.ownBlock = none ∨ y.ownBlock ≠ (H.v j).ownBlock
  sepu : ∀ (j : Nat) (u : Value), ys[j]? = some u → y.ownBlock = none ∨ y.ownBlock ≠ u.ownBlock
  sep : ∀ (j : Nat) (u : Value), ys[j]? = some u → ∀ q, q < H.m → i < q → u.ownBlock ≠ (H.v q).ownBlock
  bel : Below B w0 wr
  low : B ≤ b
  keep : Kp w0 wr

theorem A1.turn (h : A1 H w0 B b wr H.m 0) : A2 H w0 B b wr 0 (.slice none 0 0) [] := by
  have ow : ∀ j, j < H.m → Long H B wr j 0 (H.v j) := fun j hj => by
    obtain ⟨xs, h1, h2⟩ := h.own j hj
    exact ⟨xs, h1, fun q hq => h2 q hq (.inl hj), fun q h1 h2 => by omega⟩
  refine ⟨h.blk, fun j hj q hq => ?_, fun j _ hj => ow j hj, fun j hj g hg => ?_, rfl, fun j u hu => by simp at hu, World.ownsRow_nil _ _ _ _, fun j u hu => by simp at hu, h.bel, h.low, h.keep⟩
  · obtain ⟨xs, h1, h2, _⟩ := ow j hj
    obtain ⟨g, cap, e, _⟩ := ownsRow_open h1 (by omega)
    have e' := e
    simp only [Held.v, Value.slice.injEq] at e'
    rw [e] at h1
    exact ⟨g, e'.1, by rw [h1.cellAt (q * 2) (by omega)]; exact (h2 q hq).1, by rw [h1.cellAt (q * 2 + 1) (by omega)]; exact (h2 q hq).2⟩
  · obtain ⟨xs, h1, h2, _⟩ := ow j hj
    exact ownsRow_block h1 g hg

theorem A2.enter {i : Nat} {lv : Value} {ys : List Value} (h : A2 H w0 B b wr i lv ys) (hf : H.Fit) (hi : i < H.m) : A2y H w0 B b wr i 0 (H.v i) lv ys :=
  ⟨h.blk, h.rd, fun j h1 h2 => h.own j (by omega) h2, h.own i (Nat.le_refl _) hi, h.typ, h.len, h.old, h.row, fun j hj hne => hf.sep i j hi hj (Ne.symm hne),
    fun j u hu => .inr (Ne.symm (h.sep j u hu i hi (Nat.le_refl _))), fun j u hu q hq hiq => h.sep j u hu q hq (by omega), h.bel, h.low, h.keep⟩

theorem A2y.app {i k : Nat} {y lv : Value} {ys : List Value} (h : A2y H w0 B b wr i k y lv ys) (hi : i < H.m) (o : Obj) {W1 : World} {y' : Value} {xs : List Value} (hx : wr.ownsRow B 81 2 y (H.ns i + k) xs) (hm : Moved (wr.alloc o) W1 y y') (ho : W1.ownsRow B 81 2 y' (H.ns i + k + 1) (xs ++ zc i)) :
    A2y H w0 B b W1 i (k + 1) y' lv ys := by
  have hsz := hm.size
  simp only [World.size_alloc] at hsz
  have yb : y.ownBlock ≠ some b := fun e => by
    obtain ⟨c, hc⟩ := ownsRow_block hx b e
    exact neB h.blk hc rfl
  have hl := hx.1
  obtain ⟨xs0, hx0, hx1, hx2⟩ := h.cur
  have exs : xs0 = xs := by
    rcases hx.2 with ⟨rfl, h0⟩ | ⟨g, cap, c, rfl, _, hg, _, _, _, ht⟩
    · have := hx0.1
      simp only [h0, Nat.zero_mul] at this hl
      rw [List.eq_nil_of_length_eq_zero this, List.eq_nil_of_length_eq_zero hl]
    · rcases hx0.2 with ⟨h', _⟩ | ⟨g', cap', c', h', _, hg', _, _, _, ht'⟩
      · simp at h'
      · simp only [Value.slice.injEq, Option.some.injEq, Addr.mk.injEq, and_true, true_and] at h'
        obtain ⟨rfl, rfl⟩ := h'
        rw [hg] at hg'
        simp only [Option.some.injEq, Obj.cells.injEq, and_true] at hg'
        subst hg'
        rw [← ht, ← ht']
  subst exs
  have cur' : Long H B W1 i (k + 1) y' := by
    refine ⟨xs0 ++ zc i, by rw [← Nat.add_assoc]; exact ho, fun q hq => ?_, fun q h1 h2 => ?_⟩
    · exact ⟨get_app (hx1 q hq).1, get_app (hx1 q hq).2⟩
    · by_cases e : q < H.ns i + k
      · exact ⟨get_app (hx2 q h1 e).1, get_app (hx2 q h1 e).2⟩
      · have : q * 2 = xs0.length := by omega
        refine ⟨?_, ?_⟩
        · rw [this, List.getElem?_append_right (Nat.le_refl _), Nat.sub_self]
          rfl
        · rw [this, List.getElem?_append_right (Nat.le_add_right _ _), Nat.add_sub_cancel_left]
          rfl
  have nb : ∀ g, y'.ownBlock = some g → y.ownBlock = some g ∨ g = wr.heap.size + 1 := fun g hg => by
    rcases hm with ⟨e, _⟩ | ⟨e, _, _⟩
    · left; rw [← e]; exact hg
    · right; rw [e] at hg; simpa using hg.symm
  refine ⟨hm.block (block_alloc h.blk o) yb, fun j hj q hq => ?_, fun j h1 h2 => ?_, cur', fun j hj g hg => ?_, h.len, fun j u hu => ?_, ?_, fun j hj hne => ?_, fun j u hu => ?_, h.sep, ?_, h.low, h.keep.moved o hm (fun g hg => ownsRow_block hx g hg) (.inl rfl)⟩
  · obtain ⟨g, hg, hc⟩ := h.rd j hj q hq
    refine ⟨g, hg, ?_⟩
    by_cases e : y.ownBlock = some g
    · have eji : j = i := by
        by_cases e2 : j = i
        · exact e2
        · rcases h.sepv j hj e2 with hs | hs
          · rw [hs] at e; cases e
          · exact absurd (by rw [e, Held.v, hg]; rfl) hs
      subst eji
      rcases hm with ⟨e3, hgr⟩ | ⟨e3, hgr, _⟩
      · obtain ⟨g2, cap, e4, _⟩ := ownsRow_open ho (by omega)
        rw [e4] at e3 ho
        rw [e] at e3
        simp only [Value.ownBlock, Option.some.injEq] at e3
        subst e3
        exact ⟨by rw [ho.cellAt (q * 2) (by omega)]; exact get_app (hx1 q hq).1, by rw [ho.cellAt (q * 2 + 1) (by omega)]; exact get_app (hx1 q hq).2⟩
      · exact ⟨hgr.cell (cell_alloc hc.1 o) (by simp), hgr.cell (cell_alloc hc.2 o) (by simp)⟩
    · exact ⟨hm.cell (cell_alloc hc.1 o) e, hm.cell (cell_alloc hc.2 o) e⟩
  · obtain ⟨zs, z1, z2, z3⟩ := h.own j h1 h2
    refine ⟨zs, keptM hm (z1.alloc o) ?_, z2, z3⟩
    rcases h.sepv j h2 (by omega) with hs | hs
    · rw [hs]; cases (H.v j).ownBlock <;> simp
    · exact .inr (Ne.symm hs)
  · obtain ⟨c, hc⟩ := h.typ j hj g hg
    by_cases e : y.ownBlock = some g
    · rcases hm with ⟨e3, hgr⟩ | ⟨e3, hgr, _⟩
      · exact ownsRow_block ho g (by rw [e3]; exact e)
      · exact ⟨c, by rw [hgr.block g (by have := lt_of_block hc; simp; omega) (by simp)]; exact block_alloc hc o⟩
    · exact ⟨c, hm.block (block_alloc hc o) e⟩
  · obtain ⟨zs, z1, z2, z3⟩ := h.old j u hu
    refine ⟨zs, keptM hm (z1.alloc o) ?_, z2, z3⟩
    rcases h.sepu j u hu with hs | hs
    · rw [hs]; cases u.ownBlock <;> simp
    · exact .inr (Ne.symm hs)
  · exact keptM hm (h.row.alloc o) (rows_apart (h.row.alloc o) (hx.alloc o) (by decide))
  · cases hy : y'.ownBlock with
    | none => exact .inl rfl
    | some g =>
      right
      intro e
      rcases nb g hy with h1 | h1
      · rcases h.sepv j hj hne with hs | hs
        · rw [hs] at h1; cases h1
        · exact hs (by rw [h1]; exact e)
      · obtain ⟨c, hc⟩ := h.typ j hj g e.symm
        have := lt_of_block hc
        omega
  · cases hy : y'.ownBlock with
    | none => exact .inl rfl
    | some g =>
      right
      intro e
      rcases nb g hy with h1 | h1
      · rcases h.sepu j u hu with hs | hs
        · rw [hs] at h1; cases h1
        · exact hs (by rw [h1]; exact e)
      · obtain ⟨zs, z1, _⟩ := h.old j u hu
        have := (z1.lt g e.symm).2
        omega
  · exact hm.below (h.bel.alloc (by have := h.bel.size; have := lt_of_block h.blk; have := h.low; omega) o) (by have := lt_of_block h.blk; have := h.low; simp; omega) (fun g hg => (hx.lt g hg).1)

theorem A2y.leave {i : Nat} {y lv : Value} {ys : List Value} (h : A2y H w0 B b wr i 40 y lv ys) (hi : i < H.m) (o : Obj) {W1 : World} {lv' : Value} (hm : Moved (wr.alloc o) W1 lv lv') (ho : W1.ownsRow (b + 1) 23 1 lv' (i + 1) (ys ++ [y])) :
    A2 H w0 B b W1 (i + 1) lv' (ys ++ [y]) := by
  have hsz := hm.size
  simp only [World.size_alloc] at hsz
  have hb : lv.ownBlock ≠ some b := fun e => by have := (h.row.lt b e).1; omega
  have keep : ∀ j k u, Long H B wr j k u → Long H B W1 j k u := fun j k u ⟨xs, h1, h2, h3⟩ =>
    ⟨xs, keptM hm (h1.alloc o) (rows_apart (h1.alloc o) (h.row.alloc o) (by decide)), h2, h3⟩
  have ge : ∀ (j : Nat) (u : Value), (ys ++ [y])[j]? = some u → (ys[j]? = some u) ∨ (j = i ∧ u = y) := fun j u hu => by
    by_cases e : j < ys.length
    · rw [List.getElem?_append_left e] at hu; exact .inl hu
    · rw [List.getElem?_append_right (by omega)] at hu
      have hl := h.len
      match hj : j - ys.length, hu with
      | 0, hu => right; simp at hu; exact ⟨by omega, hu.symm⟩
      | q + 1, hu => simp at hu
  refine ⟨hm.block (block_alloc h.blk o) hb, fun j hj q hq => ?_, fun j h1 h2 => keep j 0 _ (h.own j (by omega) h2), fun j hj g hg => ?_, by simp [h.len], fun j u hu => ?_, ho, fun j u hu q hq hiq => ?_, ?_, h.low, h.keep.moved o hm (fun g hg => ownsRow_block h.row g hg) (.inr rfl)⟩
  · obtain ⟨g, hg, hc⟩ := h.rd j hj q hq
    refine ⟨g, hg, (fun far : lv.ownBlock ≠ some g => ⟨hm.cell (cell_alloc hc.1 o) far, hm.cell (cell_alloc hc.2 o) far⟩) (fun e => ?_)⟩
    obtain ⟨c, h1⟩ := ownsRow_block h.row g e
    obtain ⟨c', h2⟩ := h.typ j hj g (by rw [Held.v, hg]; rfl)
    rw [h1] at h2
    simp at h2
  · obtain ⟨c, hc⟩ := h.typ j hj g hg
    refine ⟨c, hm.block (block_alloc hc o) (fun e => ?_)⟩
    obtain ⟨c', h1⟩ := ownsRow_block h.row g e
    rw [hc] at h1
    simp at h1
  · rcases ge j u hu with h1 | ⟨rfl, rfl⟩
    · exact keep j 40 u (h.old j u h1)
    · exact keep _ 40 _ h.cur
  · rcases ge j u hu with h1 | ⟨rfl, rfl⟩
    · exact h.sep j u h1 q hq (by omega)
    · rcases h.sepv q hq (by omega) with hs | hs
      · obtain ⟨xs, z1, _⟩ := h.cur
        obtain ⟨g, cap, e, _⟩ := ownsRow_open z1 (by omega)
        rw [e] at hs
        simp [Value.ownBlock] at hs
      · exact hs
  · exact hm.below (h.bel.alloc (by have := h.bel.size; have := lt_of_block h.blk; have := h.low; omega) o) (by have := lt_of_block h.blk; have := h.low; simp; omega) (fun g hg => by have := (h.row.lt g hg).1; have := h.low; omega)
end

theorem Long.cells {H : Held} {B : Nat} {w : World} {j : Nat} {u : Value} (h : Long H B w j 40 u) : ∃ g cap, u = .slice (some ⟨g, 0, none⟩) (H.ns j + 40) cap ∧ H.ns j + 40 ≤ cap ∧ cap ≤ maxLen ∧ (∀ q, q < H.ns j → D1 w g j q) ∧ ∀ q, H.ns j ≤ q → q < H.ns j + 40 → D2 w g j q := by
  obtain ⟨xs, h1, h2, h3⟩ := h
  obtain ⟨g, cap, rfl, _, _, hc, hm⟩ := ownsRow_open h1 (by omega)
  exact ⟨g, cap, rfl, hc, hm, fun q hq => ⟨by rw [h1.cellAt (q * 2) (by omega)]; exact (h2 q hq).1, by rw [h1.cellAt (q * 2 + 1) (by omega)]; exact (h2 q hq).2⟩, fun q hq hq2 => ⟨by rw [h1.cellAt (q * 2) (by omega)]; exact (h3 q hq hq2).1, by rw [h1.cellAt (q * 2 + 1) (by omega)]; exact (h3 q hq hq2).2⟩⟩

end Go.Proofs.Ytggjeamondampaa.Rl

namespace Go.Proofs.Ytggjeamondampaa
open Go.RowKit
set_option linter.unusedVariables false
set_option maxRecDepth 100000

theorem Try.infoF : (Try.prog.info? 26).map (fun i => (i.zero, i.size, i.bytes)) = some (some (.agg Z17), 17, 160) := by kernel_rfl

/-- An element is loaded whole. -/
theorem load_at {w : World} {b o : Nat} {C : Array Value} (h17 : C.size = 17) (hc : ∀ j v, C[j]? = some v → w.cell? ⟨b, o + j, none⟩ = some v) : (loadVar 26 ⟨b, o, none⟩).run Try.prog w = .ok (.agg C) w := by
  have hl : (loadCells ⟨b, o, none⟩ C.toList.length).run Try.prog w = .ok C.toList.toArray w :=
    run_loadCells_list (P := Try.prog) w ⟨b, o, none⟩ C.toList (fun j v hv => by
      have hadd : (⟨b, o, none⟩ : Addr).add j = ⟨b, o + j, none⟩ := by unfold Addr.add; split <;> simp_all
      rw [hadd]
      exact hc j v (by simpa using hv))
  obtain ⟨i, hi, hz0, hz1, hz2⟩ := info_parts Try.infoF
  have hagg : (isAgg 26).run Try.prog w = .ok true w := by
    unfold isAgg
    rw [Sem.run_bind, run_underlying Try.underlying26 w]
    rfl
  simp only [Array.length_toList, Array.toArray_toList, h17] at hl
  simp [loadVar, Sem.run_bind, hagg, sizeOf, typeInfo, hi, hz1, hl]
theorem exec_load_at {w : World} {o : Oper} {a : Act} {x : Operand} {b off : Nat} {C : Array Value} (ho : o.op = .load 26 x) (hx : a.eval x = .pointer (some ⟨b, off, none⟩)) (h17 : C.size = 17) (hc : ∀ j v, C[j]? = some v → w.cell? ⟨b, off + j, none⟩ = some v) :
    (execOp a.eval o).run Try.prog w = .ok (.value (.agg C)) w := by
  unfold execOp
  simp only [ho, hx, Instr.loadAt, Instr.sureAddr, Sem.run_bind, Sem.run_pure, Result.andThen_ok, load_at h17 hc]
theorem drew_gr (w : World) : w.grownBy w.drew none := ⟨rfl, rfl, rfl, Nat.le_refl _, fun _ _ _ => rfl⟩
end Go.Proofs.Ytggjeamondampaa

namespace Go.Proofs.Ytggjeamondampaa
open Go.RowKit
set_option linter.unusedVariables false
set_option linter.unusedSimpArgs false
set_option maxRecDepth 100000
set_option maxHeartbeats 4000000

theorem grown_cellS (W : World) (b j : Nat) (v : Value) : W.grownBy (W.setCell ⟨b, j, none⟩ v) (some b) := by
  refine ⟨rfl, rfl, rfl, ?_, ?_⟩
  · show W.heap.size ≤ (W.heap.modify b _).size
    rw [Array.size_modify]; exact Nat.le_refl _
  · intro i hi hn
    simp only [World.setCell, Array.getElem?_modify]
    rw [if_neg (fun e => hn (by rw [e]))]

/-- Lent bytes stay, whatever becomes of a block of another kind. -/
theorem LP.on {w0 W W' : World} {B g n kf kw : Nat} {fv wv : Value} {F V : List Int} {k : Option Nat} (h : LP w0 B W g n fv wv kf kw F V) (gr : W.grownBy W' k)
    (hk : ∀ b, k = some b → B ≤ b ∧ ∃ cs t, W.heap[b]? = some (.cells cs t (0, 0)) ∧ t ≠ 5 ∧ t ≠ 95) : LP w0 B W' g n fv wv kf kw F V := by
  have hB : B ≤ W.heap.size := by have := lt_of_block h.blk; have := h.low; omega
  refine ⟨?_, ?_, ?_, h.sep, ?_, h.low⟩
  · rw [gr.block g (lt_of_block h.blk) (fun e => ?_)]
    · exact h.blk
    · obtain ⟨-, cs, t, h1, -, h3⟩ := hk g e.symm
      rw [h.blk] at h1
      simp only [Option.some.injEq, Obj.cells.injEq] at h1
      exact h3 h1.2.1.symm
  · refine h.full.kept gr ?_
    cases hv : fv.ownBlock with
    | none => exact .inl rfl
    | some b =>
      right
      intro e
      obtain ⟨-, cs, t, h1, h2, -⟩ := hk b e.symm
      obtain ⟨c, hc⟩ := ownsRow_block h.full b hv
      rw [h1] at hc
      simp only [Option.some.injEq, Obj.cells.injEq] at hc
      exact h2 hc.2.1
  · refine h.was.kept gr ?_
    cases hv : wv.ownBlock with
    | none => exact .inl rfl
    | some b =>
      right
      intro e
      obtain ⟨-, cs, t, h1, h2, -⟩ := hk b e.symm
      obtain ⟨c, hc⟩ := ownsRow_block h.was b hv
      rw [h1] at hc
      simp only [Option.some.injEq, Obj.cells.injEq] at hc
      exact h2 hc.2.1
  · exact h.bel.grown gr hB (fun b e => (hk b e).1)
theorem LP.onN {w0 W W' : World} {B g n kf kw : Nat} {fv wv : Value} {F V : List Int} (h : LP w0 B W g n fv wv kf kw F V) (gr : W.grownBy W' none) : LP w0 B W' g n fv wv kf kw F V := h.on gr (fun b e => by cases e)

/-- The runs that are lent, with what lies behind them. -/
def lentR (L : List (Int × Int)) : List (Int × Int) := L ++ List.replicate 40 (-7, -9)
theorem lentR_length (L : List (Int × Int)) : (lentR L).length = L.length + 40 := by simp [lentR]
theorem lentR_lo (L : List (Int × Int)) (k : Nat) (h : k < L.length) : (lentR L).getD k (0, 0) = L.getD k (0, 0) := by
  simp [lentR, List.getD, List.getElem?_append_left h]
theorem lentR_hi (L : List (Int × Int)) (k : Nat) (h : L.length ≤ k) (h2 : k < L.length + 40) : (lentR L).getD k (0, 0) = (-7, -9) := by
  rw [lentR, List.getD, List.getElem?_append_right h, List.getElem?_replicate, if_pos (by omega)]; rfl

/-- What is held while a frame is lent. -/
structure LdI (w W : World) (b G lg n gf cf gw cw : Nat) (f : Fr) (d0 r0 d r d' r' v : Value) (k : Nat) : Prop where
  bb : Blk W b (f.cs d0 r0) 26
  bG : Blk W G (loanC f d r d' r' (.pointer (some ⟨lg, 0, none⟩)) v) 37
  dat : OwnB w.heap.size W d' f.data
  run : OwnR w.heap.size W r' f.runs
  own : OwnR w.heap.size W v ((lentR f.runs).take k)
  sep : r'.ownBlock ≠ v.ownBlock ∨ r'.ownBlock = none
  lent : Lent w w.heap.size W lg n gf cf gw cw (lentL f.data) (lentL f.data)
  low : w.heap.size ≤ b ∧ b < G
  gr : w.grownBy W none
theorem row_far {W : World} {b base size n : Nat} {cs : Array Value} {t e : TypeId} {v : Value} {xs : List Value} (hb : Blk W b cs t) (h : W.ownsRow base e size v n xs) (ht : t ≠ e) : v.ownBlock = none ∨ v.ownBlock ≠ some b := by
  rcases h.2 with ⟨rfl, -⟩ | ⟨g, cap, cur, rfl, q1, q2, -⟩
  · exact .inl rfl
  · right
    intro e1
    injection e1 with e1
    have e1' : g = b := e1
    subst e1'
    rw [hb] at q2
    simp only [Option.some.injEq, Obj.cells.injEq] at q2
    exact ht q2.2.1
theorem row_shape {W : World} {base size n : Nat} {e : TypeId} {v : Value} {xs : List Value} (h : W.ownsRow base e size v n xs) : ∃ a c, v = .slice a n c ∧ n ≤ c ∧ c ≤ 9223372036854775807 := by
  rcases h.2 with ⟨rfl, e0⟩ | ⟨g, cap, cur, rfl, q1, q2, q3, q4, -⟩
  · exact ⟨none, 0, by rw [e0], by omega, by omega⟩
  · unfold maxLen at q4; exact ⟨_, _, rfl, q3, by omega⟩
theorem LdI.onN {w W W' : World} {b G lg n gf cf gw cw k : Nat} {f : Fr} {d0 r0 d r d' r' v : Value} (I : LdI w W b G lg n gf cf gw cw f d0 r0 d r d' r' v k) (g : W.grownBy W' none) : LdI w W' b G lg n gf cf gw cw f d0 r0 d r d' r' v k :=
  ⟨I.bb.grown g, I.bG.grown g, World.ownsRow.kept I.dat g (by cases d'.ownBlock <;> simp), World.ownsRow.kept I.run g (by cases r'.ownBlock <;> simp), World.ownsRow.kept I.own g (by cases v.ownBlock <;> simp), I.sep, LP.onN I.lent g, I.low, I.gr.trans g⟩
theorem LdI.setG {w W : World} {b G lg n gf cf gw cw k : Nat} {f : Fr} {d0 r0 d r d' r' v d2 r2 : Value} (I : LdI w W b G lg n gf cf gw cw f d0 r0 d r d' r' v k) (j : Nat) (x : Value)
    (hC : (loanC f d r d' r' (.pointer (some ⟨lg, 0, none⟩)) v).setIfInBounds j x = loanC f d2 r2 d' r' (.pointer (some ⟨lg, 0, none⟩)) v) : LdI w (W.setCell ⟨G, j, none⟩ x) b G lg n gf cf gw cw f d0 r0 d2 r2 d' r' v k := by
  have g := grown_cellS W G j x
  refine ⟨I.bb.setO G j x (by have := I.low; omega), ?_, World.ownsRow.kept I.dat g (row_far I.bG I.dat (by decide)), World.ownsRow.kept I.run g (row_far I.bG I.run (by decide)), World.ownsRow.kept I.own g (row_far I.bG I.own (by decide)), I.sep, ?_, I.low, grown_set I.gr G j x (by have := I.low; omega)⟩
  · have := I.bG.setC j x
    rw [hC] at this
    exact this
  · exact LP.on I.lent g (fun e he => by cases he; exact ⟨by have := I.low; omega, _, _, I.bG, by decide, by decide⟩)
/-- One run more is lent. -/
theorem LdI.push {w W W4 : World} {b G lg n gf cf gw cw k : Nat} {f : Fr} {d0 r0 d r d' r' v v4 : Value} {x y : Int} (I : LdI w W b G lg n gf cf gw cw f d0 r0 d r d' r' v k) (o : OwnR w.heap.size W4 v4 ((lentR f.runs).take (k + 1))) (g : W.grownBy W4 v.ownBlock)
    (h4 : r'.ownBlock ≠ v4.ownBlock ∨ r'.ownBlock = none) : LdI w (W4.setCell ⟨G, 35, none⟩ v4) b G lg n gf cf gw cw f d0 r0 d r d' r' v4 (k + 1) := by
  have hv := row_far I.bG I.own (by decide)
  have hvb := row_far I.bb I.own (by decide)
  have nG : (some G) ≠ v.ownBlock := fun e => by rcases hv with h | h; · rw [h] at e; cases e
                                                 · exact h e.symm
  have nb : (some b) ≠ v.ownBlock := fun e => by rcases hvb with h | h; · rw [h] at e; cases e
                                                 · exact h e.symm
  have BG : Blk W4 G _ _ := (g.block G I.bG.lt nG).trans I.bG
  have BB : Blk W4 b _ _ := (g.block b I.bb.lt nb).trans I.bb
  have gS := grown_cellS W4 G 35 v4
  have dd : d'.ownBlock = none ∨ d'.ownBlock ≠ v.ownBlock := by
    rcases I.dat.2 with ⟨e1, -⟩ | ⟨g1, c1, cur1, e1, q1, q2, -⟩
    · left; rw [e1]; rfl
    · right
      rcases I.own.2 with ⟨e2, -⟩ | ⟨g2, c2, cur2, e2, p1, p2, -⟩
      · rw [e1, e2]; intro e; cases e
      · rw [e1, e2]
        intro e
        injection e with e
        have e' : g1 = g2 := e
        rw [e', p2] at q2
        simp only [Option.some.injEq, Obj.cells.injEq] at q2
        exact absurd q2.2.1 (by decide)
  have rr : r'.ownBlock = none ∨ r'.ownBlock ≠ v.ownBlock := I.sep.symm
  have D4 : OwnB w.heap.size W4 d' f.data := World.ownsRow.kept I.dat g dd
  have R4 : OwnR w.heap.size W4 r' f.runs := World.ownsRow.kept I.run g rr
  have L4 : LP w w.heap.size W4 _ _ _ _ _ _ _ _ := LP.on I.lent g (fun e he => by
    rcases I.own.2 with ⟨e2, -⟩ | ⟨g2, c2, cur2, e2, p1, p2, -⟩
    · rw [e2] at he; cases he
    · rw [e2] at he
      injection he with he
      have he' : g2 = e := he
      subst he'
      exact ⟨p1, _, _, p2, by decide, by decide⟩)
  have gW4 : w.grownBy W4 none := grown_own I.gr g (fun e he => by
    rcases I.own.2 with ⟨e2, -⟩ | ⟨g2, c2, cur2, e2, p1, p2, -⟩
    · rw [e2] at he; cases he
    · rw [e2] at he
      injection he with he
      have he' : g2 = e := he
      subst he'
      exact p1)
  refine ⟨BB.setO G 35 v4 (by have := I.low; omega), ?_, World.ownsRow.kept D4 gS (row_far BG D4 (by decide)), World.ownsRow.kept R4 gS (row_far BG R4 (by decide)), World.ownsRow.kept o gS (row_far BG o (by decide)), h4, ?_, I.low, grown_set gW4 G 35 v4 (by have := I.low; omega)⟩
  · have := BG.setC 35 v4
    rw [loanC_35] at this
    exact this
  · exact LP.on L4 gS (fun e he => by cases he; exact ⟨by have := I.low; omega, _, _, BG, by decide, by decide⟩)
/-- One run more, and where it lies. -/
theorem app_spanM {base : Nat} {W : World} {v : Value} {T : List (Int × Int)} (x y : Int) (h : OwnR base W v T) (hbs : base ≤ W.heap.size) (hb : (T.length + 1) * 16 ≤ 140737488355328) :
    ∃ a' c' W', (∀ ty, (Builtin.append_ #[23, 23] ty #[v, .slice (some ⟨W.heap.size, 0, none⟩) 1 1]).run Try.prog (W.alloc (.cells #[.int .i64 x, .int .i64 y] 81)) = .ok (.slice a' (T.length + 1) c') W') ∧ OwnR base W' (.slice a' (T.length + 1) c') (T ++ [(x, y)]) ∧ Moved (W.alloc (.cells #[.int .i64 x, .int .i64 y] 81)) W' v (.slice a' (T.length + 1) c') := by
  obtain ⟨inf, hi0, hz0, hz1, hz2⟩ := info_parts Try.info57
  have gA := World.grownBy_alloc W (.cells #[.int .i64 x, .int .i64 y] 81) none
  obtain ⟨v', W', hrn, ho, hm, hnil⟩ := Rl.app_keepN (P := Try.prog) (W.alloc (.cells #[.int .i64 x, .int .i64 y] 81)) base 23 23 81 inf (.agg #[.int .i64 0, .int .i64 0]) 2 16 Try.underlying23 hi0 hz0 hz1 (by decide) hz2 rfl v T.length (clR T) (World.ownsRow.kept h gA (by cases v.ownBlock <;> simp)) ⟨W.heap.size, 0, none⟩ 1 1 [.int .i64 x, .int .i64 y] rfl (fun j u hu => by
    rw [show (⟨W.heap.size, 0, none⟩ : Addr).add j = ⟨W.heap.size, j, none⟩ by simp [Addr.add]; exact fun e => e.symm]
    simp only [World.cell?, heap_alloc_new]
    rw [← hu]
    simp) (fun u hu => by
    rcases List.mem_cons.1 hu with rfl | hu
    · rfl
    · obtain rfl := List.mem_singleton.1 hu; rfl) (by decide) (by unfold maxLen; omega) (by omega) (Nat.le_trans hbs gA.size)
  have e2 : (T ++ [(x, y)]).length = T.length + 1 := by simp
  have e3 : clR (T ++ [(x, y)]) = clR T ++ [.int .i64 x, .int .i64 y] := by simp [clR]
  obtain ⟨a', c', rfl, -⟩ := row_shape ho
  refine ⟨a', c', W', fun _ => hrn, ?_, hm⟩
  unfold OwnR
  rw [e2, e3]
  exact ho
theorem Moved.gr {W W' : World} {v v' : Value} (h : Moved W W' v v') : W.grownBy W' v.ownBlock := by
  rcases h with ⟨-, h⟩ | ⟨-, h, -⟩
  · exact h
  · exact ⟨h.os, h.tape, h.output, h.size, fun i hi _ => h.block i hi (by simp)⟩
theorem Moved.far {W W' : World} {v v' u : Value} {base n size : Nat} {e : TypeId} {xs : List Value} (h : Moved W W' v v') (hu : W.ownsRow base e size u n xs) (hs : u.ownBlock ≠ v.ownBlock ∨ u.ownBlock = none) : u.ownBlock ≠ v'.ownBlock ∨ u.ownBlock = none := by
  rcases h with ⟨e1, -⟩ | ⟨e1, -, -⟩
  · rw [e1]; exact hs
  · cases hb : u.ownBlock with
    | none => exact .inr rfl
    | some k =>
      left
      rw [e1]
      intro e2
      injection e2 with e2
      have := (hu.lt k hb).2
      omega
end Go.Proofs.Ytggjeamondampaa
