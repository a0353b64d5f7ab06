/- Apart: lists that share no memory. -/
import Derived.Test.YtmfbbamaleagiaaDoorXM
namespace Go.Proofs.YtmfbbamaleagiaaDoor
open Go.RowKit
set_option linter.unusedVariables false
set_option maxRecDepth 100000

def mkA (i k : Nat) : Int := (3 + 7 * (i : Int) + 5 * (k : Int)) % 256
def cA (i : Nat) : Int := (131 + 11 * (i : Int)) % 256

/-- The lists that are held against one another: where each lies, how long it is, its room. -/
structure Held where
  m : Nat
  ad : Nat → Option Addr
  ns : Nat → Nat
  cp : Nat → Nat
  cb : Array Value
def Held.v (h : Held) (j : Nat) : Value := .slice (h.ad j) (h.ns j) (h.cp j)

structure Held.Fit (h : Held) : Prop where
  cell : ∀ j, j < h.m → h.cb[j]? = some (h.v j)
  sep : ∀ i j, i < h.m → j < h.m → i ≠ j → (h.v i).ownBlock = none ∨ (h.v i).ownBlock ≠ (h.v j).ownBlock
  small : ∀ j, j < h.m → h.ns j ≤ 140737488350000
  few : h.m ≤ 1000000

section
variable {H : Held} {w0 wr : World} {B b : Nat}

/-- The first phase: the first i lists are written full, of the next one k places. -/
structure A1 (H : Held) (w0 : World) (B b : Nat) (wr : World) (i k : Nat) : Prop where
  blk : wr.heap[b]? = some (.cells H.cb 31 (0, 0))
  own : ∀ j, j < H.m → ∃ xs, wr.ownsRow B 5 1 (H.v j) (H.ns j) xs ∧ ∀ q, q < H.ns j → (j < i ∨ (j = i ∧ q < k)) → xs[q]? = some (.int .u8 (mkA j q))
  bel : Below B w0 wr
  low : B ≤ b

theorem A1.next {i : Nat} (h : A1 H w0 B b wr i (H.ns i)) : A1 H w0 B b wr (i + 1) 0 :=
  ⟨h.blk, fun j hj => by
    obtain ⟨xs, h1, h2⟩ := h.own j hj
    refine ⟨xs, h1, fun q hq hd => h2 q hq ?_⟩
    by_cases e : j = i
    · subst e; exact .inr ⟨rfl, hq⟩
    · left; omega, h.bel, h.low⟩

theorem cellB (hb : wr.heap[b]? = some (.cells H.cb 31 (0, 0))) (hf : H.Fit) (j : Nat) (hj : j < H.m) : wr.cell? ⟨b, j, none⟩ = some (.slice (H.ad j) (H.ns j) (H.cp j)) := by
  simp only [World.cell?, hb]
  simpa [Held.v] using hf.cell j hj

theorem neB (hb : wr.heap[b]? = some (.cells H.cb 31 (0, 0))) {g : Nat} {c : Array Value} (hg : wr.heap[g]? = some (.cells c 5 (0, 0))) : b ≠ g := by
  intro e
  subst e
  rw [hb] at hg
  simp at hg

theorem ownsRow_block {w : World} {base : Nat} {e : TypeId} {v : Value} {n : Nat} {xs : List Value} (h : w.ownsRow base e 1 v n xs) : ∀ g, v.ownBlock = some g → ∃ c, w.heap[g]? = some (.cells c e (0, 0)) := by
  intro g hg
  rcases h.2 with ⟨rfl, _⟩ | ⟨g', cap, cur, rfl, _, hh, _⟩
  · simp [Value.ownBlock] at hg
  · simp [Value.ownBlock] at hg
    subst hg
    exact ⟨cur, hh⟩

theorem A1.step {i k : Nat} (h : A1 H w0 B b wr i k) (hf : H.Fit) (hi : i < H.m) (hk : k < H.ns i) :
    ∃ g y, H.ad i = some ⟨g, 0, none⟩ ∧ H.ns i ≤ H.cp i ∧ H.cp i ≤ maxLen ∧ wr.cell? ⟨g, k, none⟩ = some y ∧ wr.frozen? ⟨g, k, none⟩ = false ∧ A1 H w0 B b (wr.setCell ⟨g, k, none⟩ (.int .u8 (mkA i k))) i (k + 1) := by
  obtain ⟨xs, ho, hx⟩ := h.own i hi
  obtain ⟨g, cap, e, hg, hgl, hnc, hcm⟩ := ownsRow_open ho (by omega)
  have e' := e
  simp only [Held.v, Value.slice.injEq] at e'
  obtain ⟨ea, -, ec⟩ := e'
  rw [e] at ho
  have hc := ho.cellAt k (by omega)
  have hl := ho.1
  have st := ho.stored k (.int .u8 (mkA i k))
  obtain ⟨c, hcb⟩ := ownsRow_block ho g rfl
  refine ⟨g, xs[k]'(by omega), ea, by omega, by rw [ec]; exact hcm, by rw [hc, List.getElem?_eq_getElem], ho.frozenAt k, ⟨?_, fun j hj => ?_, h.bel.setCell hg _, h.low⟩⟩
  · rw [heap_setCell_other _ _ _ _ (by show b ≠ g; exact neB h.blk hcb)]; exact h.blk
  · by_cases eij : j = i
    · subst eij
      refine ⟨xs.set k (.int .u8 (mkA j k)), by rw [e]; exact st.1, fun q hq hd => ?_⟩
      by_cases eq : k = q
      · subst eq; rw [List.getElem?_set_self (by omega)]
      · rw [List.getElem?_set_ne eq]; exact hx q hq (by omega)
    · obtain ⟨ys, h1, h2⟩ := h.own j hj
      refine ⟨ys, h1.kept st.2 ?_, fun q hq hd => h2 q hq (by omega)⟩
      rcases hf.sep j i hj hi eij with hs | hs
      · exact .inl hs
      · right; rw [e] at hs; exact hs

theorem Moved.kept {w w' : World} {y y' v : Value} {e : TypeId} {n : Nat} {xs : List Value} (h : Moved w w' y y') (ho : w.ownsRow B e 1 v n xs) (hs : v.ownBlock = none ∨ v.ownBlock ≠ y.ownBlock) : w'.ownsRow B e 1 v n xs := by
  rcases h with ⟨_, hg⟩ | ⟨_, hg, _⟩
  · exact ho.kept hg hs
  · exact ho.kept hg (by cases v.ownBlock <;> simp)
theorem Moved.cell {w w' : World} {y y' : Value} (h : Moved w w' y y') {a : Addr} {v : Value} (hc : w.cell? a = some v) (hs : y.ownBlock ≠ some a.block) : w'.cell? a = some v := by
  rcases h with ⟨_, hg⟩ | ⟨_, hg, _⟩
  · exact hg.cell hc (Ne.symm hs)
  · exact hg.cell hc (by simp)
theorem Moved.block {w w' : World} {y y' : Value} (h : Moved w w' y y') {k : Nat} {o : Obj} (hc : w.heap[k]? = some o) (hs : y.ownBlock ≠ some k) : w'.heap[k]? = some o := by
  rcases h with ⟨_, hg⟩ | ⟨_, hg, _⟩
  · rw [hg.block k (lt_of_block hc) (Ne.symm hs)]; exact hc
  · rw [hg.block k (lt_of_block hc) (by simp)]; exact hc
theorem Moved.size {w w' : World} {y y' : Value} (h : Moved w w' y y') : w.heap.size ≤ w'.heap.size := by
  rcases h with ⟨_, hg⟩ | ⟨_, hg, _⟩ <;> exact hg.size
theorem cell_alloc {w : World} {a : Addr} {v : Value} (h : w.cell? a = some v) (o : Obj) : (w.alloc o).cell? a = some v := by
  rw [World.cell?_of_block (Below.heap_alloc w o _ (World.block_lt_of_cell? w _ h))]; exact h
theorem block_alloc {w : World} {k : Nat} {x : Obj} (h : w.heap[k]? = some x) (o : Obj) : (w.alloc o).heap[k]? = some x := by
  rw [Below.heap_alloc w o _ (lt_of_block h)]; exact h

/-- What holds of a list that was made longer. -/
def Long (H : Held) (B : Nat) (w : World) (j k : Nat) (u : Value) : Prop :=
  ∃ xs, w.ownsRow B 5 1 u (H.ns j + k) xs ∧ (∀ q, q < H.ns j → xs[q]? = some (.int .u8 (mkA j q))) ∧ ∀ q, H.ns j ≤ q → q < H.ns j + k → xs[q]? = some (.int .u8 (cA j))

/-- The second phase, between two lists. -/
structure A2 (H : Held) (w0 : World) (B b : Nat) (wr : World) (i : Nat) (lv : Value) (ys : List Value) : Prop where
  blk : wr.heap[b]? = some (.cells H.cb 31 (0, 0))
  rd : ∀ j, j < H.m → ∀ q, q < H.ns j → ∃ g, H.ad j = some ⟨g, 0, none⟩ ∧ wr.cell? ⟨g, q, none⟩ = some (.int .u8 (mkA j q))
  own : ∀ j, i ≤ j → j < H.m → Long H B wr j 0 (H.v j)
  typ : ∀ j, j < H.m → ∀ g, (H.v j).ownBlock = some g → ∃ c, wr.heap[g]? = some (.cells c 5 (0, 0))
  len : ys.length = i
  old : ∀ (j : Nat) (u : Value), ys[j]? = some u → Long H B wr j 80 u
  row : wr.ownsRow (b + 1) 31 1 lv i ys
  sep : ∀ (j : Nat) (u : Value), ys[j]? = some u → ∀ q, q < H.m → i ≤ q → u.ownBlock ≠ (H.v q).ownBlock
  bel : Below B w0 wr
  low : B ≤ b

/-- The second phase, within a list: y is made longer. -/
structure A2y (H : Held) (w0 : World) (B b : Nat) (wr : World) (i k : Nat) (y lv : Value) (ys : List Value) : Prop where
  blk : wr.heap[b]? = some (.cells H.cb 31 (0, 0))
  rd : ∀ j, j < H.m → ∀ q, q < H.ns j → ∃ g, H.ad j = some ⟨g, 0, none⟩ ∧ wr.cell? ⟨g, q, none⟩ = some (.int .u8 (mkA j q))
  own : ∀ j, i < j → j < H.m → Long H B wr j 0 (H.v j)
  cur : Long H B wr i k y
  typ : ∀ j, j < H.m → ∀ g, (H.v j).ownBlock = some g → ∃ c, wr.heap[g]? = some (.cells c 5 (0, 0))
  len : ys.length = i
  old : ∀ (j : Nat) (u : Value), ys[j]? = some u → Long H B wr j 80 u
  row : wr.ownsRow (b + 1) 31 1 lv i ys
  sepv : ∀ j, j < H.m → j ≠ i → y.ownBlock = none ∨ y.ownBlock ≠ (H.v j).ownBlock
  sepu : ∀ (j : Nat) (u : Value), ys[j]? = some u → y.ownBlock = none ∨ y.ownBlock ≠ u.ownBlock
  sep : ∀ (j : Nat) (u : Value), ys[j]? = some u → ∀ q, q < H.m → i < q → u.ownBlock ≠ (H.v q).ownBlock
  bel : Below B w0 wr
  low : B ≤ b

theorem A1.turn (h : A1 H w0 B b wr H.m 0) : A2 H w0 B b wr 0 (.slice none 0 0) [] := by
  have ow : ∀ j, j < H.m → Long H B wr j 0 (H.v j) := fun j hj => by
    obtain ⟨xs, h1, h2⟩ := h.own j hj
    exact ⟨xs, h1, fun q hq => h2 q hq (.inl hj), fun q h1 h2 => by omega⟩
  refine ⟨h.blk, fun j hj q hq => ?_, fun j _ hj => ow j hj, fun j hj g hg => ?_, rfl, fun j u hu => by simp at hu, World.ownsRow_nil _ _ _ _, fun j u hu => by simp at hu, h.bel, h.low⟩
  · obtain ⟨xs, h1, h2, _⟩ := ow j hj
    obtain ⟨g, cap, e, _⟩ := ownsRow_open h1 (by omega)
    have e' := e
    simp only [Held.v, Value.slice.injEq] at e'
    rw [e] at h1
    exact ⟨g, e'.1, by rw [h1.cellAt q (by omega)]; exact h2 q hq⟩
  · obtain ⟨xs, h1, h2, _⟩ := ow j hj
    exact ownsRow_block h1 g hg

theorem A2.enter {i : Nat} {lv : Value} {ys : List Value} (h : A2 H w0 B b wr i lv ys) (hf : H.Fit) (hi : i < H.m) : A2y H w0 B b wr i 0 (H.v i) lv ys :=
  ⟨h.blk, h.rd, fun j h1 h2 => h.own j (by omega) h2, h.own i (Nat.le_refl _) hi, h.typ, h.len, h.old, h.row, fun j hj hne => hf.sep i j hi hj (Ne.symm hne),
    fun j u hu => .inr (Ne.symm (h.sep j u hu i hi (Nat.le_refl _))), fun j u hu q hq hiq => h.sep j u hu q hq (by omega), h.bel, h.low⟩

theorem rows_apart {e e' : TypeId} {v v' : Value} {n n' : Nat} {xs xs' : List Value} {B' : Nat} (h : wr.ownsRow B e 1 v n xs) (h' : wr.ownsRow B' e' 1 v' n' xs') (hne : e ≠ e') : v.ownBlock = none ∨ v.ownBlock ≠ v'.ownBlock := by
  cases hv : v.ownBlock with
  | none => exact .inl rfl
  | some g =>
    right
    intro e1
    obtain ⟨c, h1⟩ := ownsRow_block h g hv
    obtain ⟨c', h2⟩ := ownsRow_block h' g e1.symm
    rw [h1] at h2
    simp at h2
    exact hne h2.2

theorem A2y.app {i k : Nat} {y lv : Value} {ys : List Value} (h : A2y H w0 B b wr i k y lv ys) (hi : i < H.m) (o : Obj) {W1 : World} {y' : Value} {xs : List Value} (hx : wr.ownsRow B 5 1 y (H.ns i + k) xs) (hm : Moved (wr.alloc o) W1 y y') (ho : W1.ownsRow B 5 1 y' (H.ns i + k + 1) (xs ++ [.int .u8 (cA i)])) :
    A2y H w0 B b W1 i (k + 1) y' lv ys := by
  have hsz := hm.size
  simp only [World.size_alloc] at hsz
  have yb : y.ownBlock ≠ some b := fun e => by
    obtain ⟨c, hc⟩ := ownsRow_block hx b e
    exact neB h.blk hc rfl
  have hl := hx.1
  obtain ⟨xs0, hx0, hx1, hx2⟩ := h.cur
  have exs : xs0 = xs := by
    rcases hx.2 with ⟨rfl, h0⟩ | ⟨g, cap, c, rfl, _, hg, _, _, _, ht⟩
    · have := hx0.1
      simp only [h0, Nat.zero_mul] at this hl
      rw [List.eq_nil_of_length_eq_zero this, List.eq_nil_of_length_eq_zero hl]
    · rcases hx0.2 with ⟨h', _⟩ | ⟨g', cap', c', h', _, hg', _, _, _, ht'⟩
      · simp at h'
      · simp only [Value.slice.injEq, Option.some.injEq, Addr.mk.injEq, and_true, true_and] at h'
        obtain ⟨rfl, rfl⟩ := h'
        rw [hg] at hg'
        simp only [Option.some.injEq, Obj.cells.injEq, and_true] at hg'
        subst hg'
        rw [← ht, ← ht']
  subst exs
  have cur' : Long H B W1 i (k + 1) y' := by
    refine ⟨xs0 ++ [.int .u8 (cA i)], by rw [← Nat.add_assoc]; exact ho, fun q hq => ?_, fun q h1 h2 => ?_⟩
    · rw [List.getElem?_append_left (by omega)]; exact hx1 q hq
    · by_cases e : q < H.ns i + k
      · rw [List.getElem?_append_left (by omega)]; exact hx2 q h1 e
      · have : q = xs0.length := by omega
        subst this
        simp
  have nb : ∀ g, y'.ownBlock = some g → y.ownBlock = some g ∨ g = wr.heap.size + 1 := fun g hg => by
    rcases hm with ⟨e, _⟩ | ⟨e, _, _⟩
    · left; rw [← e]; exact hg
    · right; rw [e] at hg; simpa using hg.symm
  refine ⟨hm.block (block_alloc h.blk o) yb, fun j hj q hq => ?_, fun j h1 h2 => ?_, cur', fun j hj g hg => ?_, h.len, fun j u hu => ?_, ?_, fun j hj hne => ?_, fun j u hu => ?_, h.sep, ?_, h.low⟩
  · obtain ⟨g, hg, hc⟩ := h.rd j hj q hq
    refine ⟨g, hg, ?_⟩
    by_cases e : y.ownBlock = some g
    · have eji : j = i := by
        by_cases e2 : j = i
        · exact e2
        · rcases h.sepv j hj e2 with hs | hs
          · rw [hs] at e; cases e
          · exact absurd (by rw [e, Held.v, hg]; rfl) hs
      subst eji
      rcases hm with ⟨e3, hgr⟩ | ⟨e3, hgr, _⟩
      · obtain ⟨g2, cap, e4, _⟩ := ownsRow_open ho (by omega)
        rw [e4] at e3 ho
        rw [e] at e3
        simp only [Value.ownBlock, Option.some.injEq] at e3
        subst e3
        rw [ho.cellAt q (by omega), List.getElem?_append_left (by omega)]
        exact hx1 q hq
      · exact hgr.cell (cell_alloc hc o) (by simp)
    · exact hm.cell (cell_alloc hc o) e
  · obtain ⟨zs, z1, z2, z3⟩ := h.own j h1 h2
    refine ⟨zs, hm.kept (z1.alloc o) ?_, z2, z3⟩
    rcases h.sepv j h2 (by omega) with hs | hs
    · rw [hs]; cases (H.v j).ownBlock <;> simp
    · exact .inr (Ne.symm hs)
  · obtain ⟨c, hc⟩ := h.typ j hj g hg
    by_cases e : y.ownBlock = some g
    · rcases hm with ⟨e3, hgr⟩ | ⟨e3, hgr, _⟩
      · exact ownsRow_block ho g (by rw [e3]; exact e)
      · exact ⟨c, by rw [hgr.block g (by have := lt_of_block hc; simp; omega) (by simp)]; exact block_alloc hc o⟩
    · exact ⟨c, hm.block (block_alloc hc o) e⟩
  · obtain ⟨zs, z1, z2, z3⟩ := h.old j u hu
    refine ⟨zs, hm.kept (z1.alloc o) ?_, z2, z3⟩
    rcases h.sepu j u hu with hs | hs
    · rw [hs]; cases u.ownBlock <;> simp
    · exact .inr (Ne.symm hs)
  · exact hm.kept (h.row.alloc o) (rows_apart (h.row.alloc o) (hx.alloc o) (by decide))
  · cases hy : y'.ownBlock with
    | none => exact .inl rfl
    | some g =>
      right
      intro e
      rcases nb g hy with h1 | h1
      · rcases h.sepv j hj hne with hs | hs
        · rw [hs] at h1; cases h1
        · exact hs (by rw [h1]; exact e)
      · obtain ⟨c, hc⟩ := h.typ j hj g e.symm
        have := lt_of_block hc
        omega
  · cases hy : y'.ownBlock with
    | none => exact .inl rfl
    | some g =>
      right
      intro e
      rcases nb g hy with h1 | h1
      · rcases h.sepu j u hu with hs | hs
        · rw [hs] at h1; cases h1
        · exact hs (by rw [h1]; exact e)
      · obtain ⟨zs, z1, _⟩ := h.old j u hu
        have := (z1.lt g e.symm).2
        omega
  · exact hm.below (h.bel.alloc (by have := h.bel.size; have := lt_of_block h.blk; have := h.low; omega) o) (by have := lt_of_block h.blk; have := h.low; simp; omega) (fun g hg => (hx.lt g hg).1)

theorem A2y.leave {i : Nat} {y lv : Value} {ys : List Value} (h : A2y H w0 B b wr i 80 y lv ys) (hi : i < H.m) (o : Obj) {W1 : World} {lv' : Value} (hm : Moved (wr.alloc o) W1 lv lv') (ho : W1.ownsRow (b + 1) 31 1 lv' (i + 1) (ys ++ [y])) :
    A2 H w0 B b W1 (i + 1) lv' (ys ++ [y]) := by
  have hsz := hm.size
  simp only [World.size_alloc] at hsz
  have hb : lv.ownBlock ≠ some b := fun e => by have := (h.row.lt b e).1; omega
  have keep : ∀ j k u, Long H B wr j k u → Long H B W1 j k u := fun j k u ⟨xs, h1, h2, h3⟩ =>
    ⟨xs, hm.kept (h1.alloc o) (rows_apart (h1.alloc o) (h.row.alloc o) (by decide)), h2, h3⟩
  have ge : ∀ (j : Nat) (u : Value), (ys ++ [y])[j]? = some u → (ys[j]? = some u) ∨ (j = i ∧ u = y) := fun j u hu => by
    by_cases e : j < ys.length
    · rw [List.getElem?_append_left e] at hu; exact .inl hu
    · rw [List.getElem?_append_right (by omega)] at hu
      have hl := h.len
      match hj : j - ys.length, hu with
      | 0, hu => right; simp at hu; exact ⟨by omega, hu.symm⟩
      | q + 1, hu => simp at hu
  refine ⟨hm.block (block_alloc h.blk o) hb, fun j hj q hq => ?_, fun j h1 h2 => keep j 0 _ (h.own j (by omega) h2), fun j hj g hg => ?_, by simp [h.len], fun j u hu => ?_, ho, fun j u hu q hq hiq => ?_, ?_, h.low⟩
  · obtain ⟨g, hg, hc⟩ := h.rd j hj q hq
    refine ⟨g, hg, hm.cell (cell_alloc hc o) (fun e => ?_)⟩
    obtain ⟨c, h1⟩ := ownsRow_block h.row g e
    obtain ⟨c', h2⟩ := h.typ j hj g (by rw [Held.v, hg]; rfl)
    rw [h1] at h2
    simp at h2
  · obtain ⟨c, hc⟩ := h.typ j hj g hg
    refine ⟨c, hm.block (block_alloc hc o) (fun e => ?_)⟩
    obtain ⟨c', h1⟩ := ownsRow_block h.row g e
    rw [hc] at h1
    simp at h1
  · rcases ge j u hu with h1 | ⟨rfl, rfl⟩
    · exact keep j 80 u (h.old j u h1)
    · exact keep _ 80 _ h.cur
  · rcases ge j u hu with h1 | ⟨rfl, rfl⟩
    · exact h.sep j u h1 q hq (by omega)
    · rcases h.sepv q hq (by omega) with hs | hs
      · obtain ⟨xs, z1, _⟩ := h.cur
        obtain ⟨g, cap, e, _⟩ := ownsRow_open z1 (by omega)
        rw [e] at hs
        simp [Value.ownBlock] at hs
      · exact hs
  · exact hm.below (h.bel.alloc (by have := h.bel.size; have := lt_of_block h.blk; have := h.low; omega) o) (by have := lt_of_block h.blk; have := h.low; simp; omega) (fun g hg => by have := (h.row.lt g hg).1; have := h.low; omega)
end
end Go.Proofs.YtmfbbamaleagiaaDoor
