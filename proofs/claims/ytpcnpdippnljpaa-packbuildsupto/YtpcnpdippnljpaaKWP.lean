/- KWP, KWQ, KWS, KWT, one text. -/
import Derived.Test.YtpcnpdippnljpaaKWL
namespace Go.Proofs.Ytpcnpdippnljpaa
open Go.RowKit
set_option maxRecDepth 100000
set_option linter.unusedVariables false

def mkA (i k : Nat) : Int := (3 + 7 * (i : Int) + 5 * (k : Int)) % 256
def cA (i : Nat) : Int := (131 + 11 * (i : Int)) % 256

/-- The lists that are held against one another: where each lies, how long it is, its room. -/
structure Held where
  m : Nat
  ad : Nat → Option Addr
  ns : Nat → Nat
  cp : Nat → Nat
  cb : Array Value
def Held.v (h : Held) (j : Nat) : Value := .slice (h.ad j) (h.ns j) (h.cp j)

structure Held.Fit (h : Held) : Prop where
  cell : ∀ j, j < h.m → h.cb[j]? = some (h.v j)
  sep : ∀ i j, i < h.m → j < h.m → i ≠ j → (h.v i).ownBlock = none ∨ (h.v i).ownBlock ≠ (h.v j).ownBlock
  small : ∀ j, j < h.m → h.ns j ≤ 140737488355000
  few : h.m ≤ 1000000

section
variable {H : Held} {w0 wr : World} {B b : Nat}

/-- The first phase: the first i lists are written full, of the next one k places. -/
structure A1 (H : Held) (w0 : World) (B b : Nat) (wr : World) (i k : Nat) : Prop where
  blk : wr.heap[b]? = some (.cells H.cb 27 (0, 0))
  own : ∀ j, j < H.m → ∃ xs, wr.ownsRow B 5 1 (H.v j) (H.ns j) xs ∧ ∀ q, q < H.ns j → (j < i ∨ (j = i ∧ q < k)) → xs[q]? = some (.int .u8 (mkA j q))
  bel : Below B w0 wr
  low : B ≤ b

theorem A1.next {i : Nat} (h : A1 H w0 B b wr i (H.ns i)) : A1 H w0 B b wr (i + 1) 0 :=
  ⟨h.blk, fun j hj => by
    obtain ⟨xs, h1, h2⟩ := h.own j hj
    refine ⟨xs, h1, fun q hq hd => h2 q hq ?_⟩
    by_cases e : j = i
    · subst e; exact .inr ⟨rfl, hq⟩
    · left; omega, h.bel, h.low⟩

theorem cellB (hb : wr.heap[b]? = some (.cells H.cb 27 (0, 0))) (hf : H.Fit) (j : Nat) (hj : j < H.m) : wr.cell? ⟨b, j, none⟩ = some (.slice (H.ad j) (H.ns j) (H.cp j)) := by
  simp only [World.cell?, hb]
  simpa [Held.v] using hf.cell j hj

theorem neB (hb : wr.heap[b]? = some (.cells H.cb 27 (0, 0))) {g : Nat} {c : Array Value} (hg : wr.heap[g]? = some (.cells c 5 (0, 0))) : b ≠ g := by
  intro e
  subst e
  rw [hb] at hg
  simp at hg

theorem ownsRow_block {w : World} {base : Nat} {e : TypeId} {v : Value} {n : Nat} {xs : List Value} (h : w.ownsRow base e 1 v n xs) : ∀ g, v.ownBlock = some g → ∃ c, w.heap[g]? = some (.cells c e (0, 0)) := by
  intro g hg
  rcases h.2 with ⟨rfl, _⟩ | ⟨g', cap, cur, rfl, _, hh, _⟩
  · simp [Value.ownBlock] at hg
  · simp [Value.ownBlock] at hg
    subst hg
    exact ⟨cur, hh⟩

theorem A1.step {i k : Nat} (h : A1 H w0 B b wr i k) (hf : H.Fit) (hi : i < H.m) (hk : k < H.ns i) :
    ∃ g y, H.ad i = some ⟨g, 0, none⟩ ∧ H.ns i ≤ H.cp i ∧ H.cp i ≤ maxLen ∧ wr.cell? ⟨g, k, none⟩ = some y ∧ wr.frozen? ⟨g, k, none⟩ = false ∧ A1 H w0 B b (wr.setCell ⟨g, k, none⟩ (.int .u8 (mkA i k))) i (k + 1) := by
  obtain ⟨xs, ho, hx⟩ := h.own i hi
  obtain ⟨g, cap, e, hg, hgl, hnc, hcm⟩ := ownsRow_open ho (by omega)
  have e' := e
  simp only [Held.v, Value.slice.injEq] at e'
  obtain ⟨ea, -, ec⟩ := e'
  rw [e] at ho
  have hc := ho.cellAt k (by omega)
  have hl := ho.1
  have st := ho.stored k (.int .u8 (mkA i k))
  obtain ⟨c, hcb⟩ := ownsRow_block ho g rfl
  refine ⟨g, xs[k]'(by omega), ea, by omega, by rw [ec]; exact hcm, by rw [hc, List.getElem?_eq_getElem], ho.frozenAt k, ⟨?_, fun j hj => ?_, h.bel.setCell hg _, h.low⟩⟩
  · rw [heap_setCell_other _ _ _ _ (by show b ≠ g; exact neB h.blk hcb)]; exact h.blk
  · by_cases eij : j = i
    · subst eij
      refine ⟨xs.set k (.int .u8 (mkA j k)), by rw [e]; exact st.1, fun q hq hd => ?_⟩
      by_cases eq : k = q
      · subst eq; rw [List.getElem?_set_self (by omega)]
      · rw [List.getElem?_set_ne eq]; exact hx q hq (by omega)
    · obtain ⟨ys, h1, h2⟩ := h.own j hj
      refine ⟨ys, h1.kept st.2 ?_, fun q hq hd => h2 q hq (by omega)⟩
      rcases hf.sep j i hj hi eij with hs | hs
      · exact .inl hs
      · right; rw [e] at hs; exact hs

theorem Moved.kept {w w' : World} {y y' v : Value} {e : TypeId} {n : Nat} {xs : List Value} (h : Moved w w' y y') (ho : w.ownsRow B e 1 v n xs) (hs : v.ownBlock = none ∨ v.ownBlock ≠ y.ownBlock) : w'.ownsRow B e 1 v n xs := by
  rcases h with ⟨_, hg⟩ | ⟨_, hg, _⟩
  · exact ho.kept hg hs
  · exact ho.kept hg (by cases v.ownBlock <;> simp)
theorem Moved.cell {w w' : World} {y y' : Value} (h : Moved w w' y y') {a : Addr} {v : Value} (hc : w.cell? a = some v) (hs : y.ownBlock ≠ some a.block) : w'.cell? a = some v := by
  rcases h with ⟨_, hg⟩ | ⟨_, hg, _⟩
  · exact hg.cell hc (Ne.symm hs)
  · exact hg.cell hc (by simp)
theorem Moved.block {w w' : World} {y y' : Value} (h : Moved w w' y y') {k : Nat} {o : Obj} (hc : w.heap[k]? = some o) (hs : y.ownBlock ≠ some k) : w'.heap[k]? = some o := by
  rcases h with ⟨_, hg⟩ | ⟨_, hg, _⟩
  · rw [hg.block k (lt_of_block hc) (Ne.symm hs)]; exact hc
  · rw [hg.block k (lt_of_block hc) (by simp)]; exact hc
theorem Moved.size {w w' : World} {y y' : Value} (h : Moved w w' y y') : w.heap.size ≤ w'.heap.size := by
  rcases h with ⟨_, hg⟩ | ⟨_, hg, _⟩ <;> exact hg.size
theorem cell_alloc {w : World} {a : Addr} {v : Value} (h : w.cell? a = some v) (o : Obj) : (w.alloc o).cell? a = some v := by
  rw [World.cell?_of_block (Below.heap_alloc w o _ (World.block_lt_of_cell? w _ h))]; exact h
theorem block_alloc {w : World} {k : Nat} {x : Obj} (h : w.heap[k]? = some x) (o : Obj) : (w.alloc o).heap[k]? = some x := by
  rw [Below.heap_alloc w o _ (lt_of_block h)]; exact h

/-- What holds of a list that was made longer. -/
def Long (H : Held) (B : Nat) (w : World) (j k : Nat) (u : Value) : Prop :=
  ∃ xs, w.ownsRow B 5 1 u (H.ns j + k) xs ∧ (∀ q, q < H.ns j → xs[q]? = some (.int .u8 (mkA j q))) ∧ ∀ q, H.ns j ≤ q → q < H.ns j + k → xs[q]? = some (.int .u8 (cA j))

/-- The second phase, between two lists. -/
structure A2 (H : Held) (w0 : World) (B b : Nat) (wr : World) (i : Nat) (lv : Value) (ys : List Value) : Prop where
  blk : wr.heap[b]? = some (.cells H.cb 27 (0, 0))
  rd : ∀ j, j < H.m → ∀ q, q < H.ns j → ∃ g, H.ad j = some ⟨g, 0, none⟩ ∧ wr.cell? ⟨g, q, none⟩ = some (.int .u8 (mkA j q))
  own : ∀ j, i ≤ j → j < H.m → Long H B wr j 0 (H.v j)
  typ : ∀ j, j < H.m → ∀ g, (H.v j).ownBlock = some g → ∃ c, wr.heap[g]? = some (.cells c 5 (0, 0))
  len : ys.length = i
  old : ∀ (j : Nat) (u : Value), ys[j]? = some u → Long H B wr j 80 u
  row : wr.ownsRow (b + 1) 27 1 lv i ys
  sep : ∀ (j : Nat) (u : Value), ys[j]? = some u → ∀ q, q < H.m → i ≤ q → u.ownBlock ≠ (H.v q).ownBlock
  bel : Below B w0 wr
  low : B ≤ b

/-- The second phase, within a list: y is made longer. -/
structure A2y (H : Held) (w0 : World) (B b : Nat) (wr : World) (i k : Nat) (y lv : Value) (ys : List Value) : Prop where
  blk : wr.heap[b]? = some (.cells H.cb 27 (0, 0))
  rd : ∀ j, j < H.m → ∀ q, q < H.ns j → ∃ g, H.ad j = some ⟨g, 0, none⟩ ∧ wr.cell? ⟨g, q, none⟩ = some (.int .u8 (mkA j q))
  own : ∀ j, i < j → j < H.m → Long H B wr j 0 (H.v j)
  cur : Long H B wr i k y
  typ : ∀ j, j < H.m → ∀ g, (H.v j).ownBlock = some g → ∃ c, wr.heap[g]? = some (.cells c 5 (0, 0))
  len : ys.length = i
  old : ∀ (j : Nat) (u : Value), ys[j]? = some u → Long H B wr j 80 u
  row : wr.ownsRow (b + 1) 27 1 lv i ys
  sepv : ∀ j, j < H.m → j ≠ i → y.ownBlock = none ∨ y.ownBlock ≠ (H.v j).ownBlock
  sepu : ∀ (j : Nat) (u : Value), ys[j]? = some u → y.ownBlock = none ∨ y.ownBlock ≠ u.ownBlock
  sep : ∀ (j : Nat) (u : Value), ys[j]? = some u → ∀ q, q < H.m → i < q → u.ownBlock ≠ (H.v q).ownBlock
  bel : Below B w0 wr
  low : B ≤ b

theorem A1.turn (h : A1 H w0 B b wr H.m 0) : A2 H w0 B b wr 0 (.slice none 0 0) [] := by
  have ow : ∀ j, j < H.m → Long H B wr j 0 (H.v j) := fun j hj => by
    obtain ⟨xs, h1, h2⟩ := h.own j hj
    exact ⟨xs, h1, fun q hq => h2 q hq (.inl hj), fun q h1 h2 => by omega⟩
  refine ⟨h.blk, fun j hj q hq => ?_, fun j _ hj => ow j hj, fun j hj g hg => ?_, rfl, fun j u hu => by simp at hu, World.ownsRow_nil _ _ _ _, fun j u hu => by simp at hu, h.bel, h.low⟩
  · obtain ⟨xs, h1, h2, _⟩ := ow j hj
    obtain ⟨g, cap, e, _⟩ := ownsRow_open h1 (by omega)
    have e' := e
    simp only [Held.v, Value.slice.injEq] at e'
    rw [e] at h1
    exact ⟨g, e'.1, by rw [h1.cellAt q (by omega)]; exact h2 q hq⟩
  · obtain ⟨xs, h1, h2, _⟩ := ow j hj
    exact ownsRow_block h1 g hg

theorem A2.enter {i : Nat} {lv : Value} {ys : List Value} (h : A2 H w0 B b wr i lv ys) (hf : H.Fit) (hi : i < H.m) : A2y H w0 B b wr i 0 (H.v i) lv ys :=
  ⟨h.blk, h.rd, fun j h1 h2 => h.own j (by omega) h2, h.own i (Nat.le_refl _) hi, h.typ, h.len, h.old, h.row, fun j hj hne => hf.sep i j hi hj (Ne.symm hne),
    fun j u hu => .inr (Ne.symm (h.sep j u hu i hi (Nat.le_refl _))), fun j u hu q hq hiq => h.sep j u hu q hq (by omega), h.bel, h.low⟩

theorem rows_apart {e e' : TypeId} {v v' : Value} {n n' : Nat} {xs xs' : List Value} {B' : Nat} (h : wr.ownsRow B e 1 v n xs) (h' : wr.ownsRow B' e' 1 v' n' xs') (hne : e ≠ e') : v.ownBlock = none ∨ v.ownBlock ≠ v'.ownBlock := by
  cases hv : v.ownBlock with
  | none => exact .inl rfl
  | some g =>
    right
    intro e1
    obtain ⟨c, h1⟩ := ownsRow_block h g hv
    obtain ⟨c', h2⟩ := ownsRow_block h' g e1.symm
    rw [h1] at h2
    simp at h2
    exact hne h2.2

theorem A2y.app {i k : Nat} {y lv : Value} {ys : List Value} (h : A2y H w0 B b wr i k y lv ys) (hi : i < H.m) (o : Obj) {W1 : World} {y' : Value} {xs : List Value} (hx : wr.ownsRow B 5 1 y (H.ns i + k) xs) (hm : Moved (wr.alloc o) W1 y y') (ho : W1.ownsRow B 5 1 y' (H.ns i + k + 1) (xs ++ [.int .u8 (cA i)])) :
    A2y H w0 B b W1 i (k + 1) y' lv ys := by
  have hsz := hm.size
  simp only [World.size_alloc] at hsz
  have yb : y.ownBlock ≠ some b := fun e => by
    obtain ⟨c, hc⟩ := ownsRow_block hx b e
    exact neB h.blk hc rfl
  have hl := hx.1
  obtain ⟨xs0, hx0, hx1, hx2⟩ := h.cur
  have exs : xs0 = xs := by
    rcases hx.2 with ⟨rfl, h0⟩ | ⟨g, cap, c, rfl, _, hg, _, _, _, ht⟩
    · have := hx0.1
      simp only [h0, Nat.zero_mul] at this hl
      rw [List.eq_nil_of_length_eq_zero this, List.eq_nil_of_length_eq_zero hl]
    · rcases hx0.2 with ⟨h', _⟩ | ⟨g', cap', c', h', _, hg', _, _, _, ht'⟩
      · simp at h'
      · simp only [Value.slice.injEq, Option.some.injEq, Addr.mk.injEq, and_true, true_and] at h'
        obtain ⟨rfl, rfl⟩ := h'
        rw [hg] at hg'
        simp only [Option.some.injEq, Obj.cells.injEq, and_true] at hg'
        subst hg'
        rw [← ht, ← ht']
  subst exs
  have cur' : Long H B W1 i (k + 1) y' := by
    refine ⟨xs0 ++ [.int .u8 (cA i)], by rw [← Nat.add_assoc]; exact ho, fun q hq => ?_, fun q h1 h2 => ?_⟩
    · rw [List.getElem?_append_left (by omega)]; exact hx1 q hq
    · by_cases e : q < H.ns i + k
      · rw [List.getElem?_append_left (by omega)]; exact hx2 q h1 e
      · have : q = xs0.length := by omega
        subst this
        simp
  have nb : ∀ g, y'.ownBlock = some g → y.ownBlock = some g ∨ g = wr.heap.size + 1 := fun g hg => by
    rcases hm with ⟨e, _⟩ | ⟨e, _, _⟩
    · left; rw [← e]; exact hg
    · right; rw [e] at hg; simpa using hg.symm
  refine ⟨hm.block (block_alloc h.blk o) yb, fun j hj q hq => ?_, fun j h1 h2 => ?_, cur', fun j hj g hg => ?_, h.len, fun j u hu => ?_, ?_, fun j hj hne => ?_, fun j u hu => ?_, h.sep, ?_, h.low⟩
  · obtain ⟨g, hg, hc⟩ := h.rd j hj q hq
    refine ⟨g, hg, ?_⟩
    by_cases e : y.ownBlock = some g
    · have eji : j = i := by
        by_cases e2 : j = i
        · exact e2
        · rcases h.sepv j hj e2 with hs | hs
          · rw [hs] at e; cases e
          · exact absurd (by rw [e, Held.v, hg]; rfl) hs
      subst eji
      rcases hm with ⟨e3, hgr⟩ | ⟨e3, hgr, _⟩
      · obtain ⟨g2, cap, e4, _⟩ := ownsRow_open ho (by omega)
        rw [e4] at e3 ho
        rw [e] at e3
        simp only [Value.ownBlock, Option.some.injEq] at e3
        subst e3
        rw [ho.cellAt q (by omega), List.getElem?_append_left (by omega)]
        exact hx1 q hq
      · exact hgr.cell (cell_alloc hc o) (by simp)
    · exact hm.cell (cell_alloc hc o) e
  · obtain ⟨zs, z1, z2, z3⟩ := h.own j h1 h2
    refine ⟨zs, hm.kept (z1.alloc o) ?_, z2, z3⟩
    rcases h.sepv j h2 (by omega) with hs | hs
    · rw [hs]; cases (H.v j).ownBlock <;> simp
    · exact .inr (Ne.symm hs)
  · obtain ⟨c, hc⟩ := h.typ j hj g hg
    by_cases e : y.ownBlock = some g
    · rcases hm with ⟨e3, hgr⟩ | ⟨e3, hgr, _⟩
      · exact ownsRow_block ho g (by rw [e3]; exact e)
      · exact ⟨c, by rw [hgr.block g (by have := lt_of_block hc; simp; omega) (by simp)]; exact block_alloc hc o⟩
    · exact ⟨c, hm.block (block_alloc hc o) e⟩
  · obtain ⟨zs, z1, z2, z3⟩ := h.old j u hu
    refine ⟨zs, hm.kept (z1.alloc o) ?_, z2, z3⟩
    rcases h.sepu j u hu with hs | hs
    · rw [hs]; cases u.ownBlock <;> simp
    · exact .inr (Ne.symm hs)
  · exact hm.kept (h.row.alloc o) (rows_apart (h.row.alloc o) (hx.alloc o) (by decide))
  · cases hy : y'.ownBlock with
    | none => exact .inl rfl
    | some g =>
      right
      intro e
      rcases nb g hy with h1 | h1
      · rcases h.sepv j hj hne with hs | hs
        · rw [hs] at h1; cases h1
        · exact hs (by rw [h1]; exact e)
      · obtain ⟨c, hc⟩ := h.typ j hj g e.symm
        have := lt_of_block hc
        omega
  · cases hy : y'.ownBlock with
    | none => exact .inl rfl
    | some g =>
      right
      intro e
      rcases nb g hy with h1 | h1
      · rcases h.sepu j u hu with hs | hs
        · rw [hs] at h1; cases h1
        · exact hs (by rw [h1]; exact e)
      · obtain ⟨zs, z1, _⟩ := h.old j u hu
        have := (z1.lt g e.symm).2
        omega
  · exact hm.below (h.bel.alloc (by have := h.bel.size; have := lt_of_block h.blk; have := h.low; omega) o) (by have := lt_of_block h.blk; have := h.low; simp; omega) (fun g hg => (hx.lt g hg).1)

theorem A2y.leave {i : Nat} {y lv : Value} {ys : List Value} (h : A2y H w0 B b wr i 80 y lv ys) (hi : i < H.m) (o : Obj) {W1 : World} {lv' : Value} (hm : Moved (wr.alloc o) W1 lv lv') (ho : W1.ownsRow (b + 1) 27 1 lv' (i + 1) (ys ++ [y])) :
    A2 H w0 B b W1 (i + 1) lv' (ys ++ [y]) := by
  have hsz := hm.size
  simp only [World.size_alloc] at hsz
  have hb : lv.ownBlock ≠ some b := fun e => by have := (h.row.lt b e).1; omega
  have keep : ∀ j k u, Long H B wr j k u → Long H B W1 j k u := fun j k u ⟨xs, h1, h2, h3⟩ =>
    ⟨xs, hm.kept (h1.alloc o) (rows_apart (h1.alloc o) (h.row.alloc o) (by decide)), h2, h3⟩
  have ge : ∀ (j : Nat) (u : Value), (ys ++ [y])[j]? = some u → (ys[j]? = some u) ∨ (j = i ∧ u = y) := fun j u hu => by
    by_cases e : j < ys.length
    · rw [List.getElem?_append_left e] at hu; exact .inl hu
    · rw [List.getElem?_append_right (by omega)] at hu
      have hl := h.len
      match hj : j - ys.length, hu with
      | 0, hu => right; simp at hu; exact ⟨by omega, hu.symm⟩
      | q + 1, hu => simp at hu
  refine ⟨hm.block (block_alloc h.blk o) hb, fun j hj q hq => ?_, fun j h1 h2 => keep j 0 _ (h.own j (by omega) h2), fun j hj g hg => ?_, by simp [h.len], fun j u hu => ?_, ho, fun j u hu q hq hiq => ?_, ?_, h.low⟩
  · obtain ⟨g, hg, hc⟩ := h.rd j hj q hq
    refine ⟨g, hg, hm.cell (cell_alloc hc o) (fun e => ?_)⟩
    obtain ⟨c, h1⟩ := ownsRow_block h.row g e
    obtain ⟨c', h2⟩ := h.typ j hj g (by rw [Held.v, hg]; rfl)
    rw [h1] at h2
    simp at h2
  · obtain ⟨c, hc⟩ := h.typ j hj g hg
    refine ⟨c, hm.block (block_alloc hc o) (fun e => ?_)⟩
    obtain ⟨c', h1⟩ := ownsRow_block h.row g e
    rw [hc] at h1
    simp at h1
  · rcases ge j u hu with h1 | ⟨rfl, rfl⟩
    · exact keep j 80 u (h.old j u h1)
    · exact keep _ 80 _ h.cur
  · rcases ge j u hu with h1 | ⟨rfl, rfl⟩
    · exact h.sep j u h1 q hq (by omega)
    · rcases h.sepv q hq (by omega) with hs | hs
      · obtain ⟨xs, z1, _⟩ := h.cur
        obtain ⟨g, cap, e, _⟩ := ownsRow_open z1 (by omega)
        rw [e] at hs
        simp [Value.ownBlock] at hs
      · exact hs
  · exact hm.below (h.bel.alloc (by have := h.bel.size; have := lt_of_block h.blk; have := h.low; omega) o) (by have := lt_of_block h.blk; have := h.low; simp; omega) (fun g hg => by have := (h.row.lt g hg).1; have := h.low; omega)
end
end Go.Proofs.Ytpcnpdippnljpaa

namespace Go.Proofs.Ytpcnpdippnljpaa
open Go.RowKit
set_option maxRecDepth 100000
set_option linter.unusedVariables false

theorem Try.infoS : (Try.prog.info? 27).map (fun i => (i.zero, i.size, i.bytes)) = some (some (.slice none 0 0), 1, 24) := by kernel_rfl

/-- One list more. -/
theorem wpList_appS {ops : Array Oper} {rest : List Oper} {o : Oper} {a : Act} {Q : Exit → Act → World → Prop} (w : World) (hgd : o.guard = none) (s x : Operand)
    (ho : o.op = .call { callee := .builtin .append, args := #[s, x], argTypes := #[45, 45] }) (base : Nat) (v : Value) (n : Nat) (xs : List Value) (hown : w.ownsRow base 27 1 v n xs) (hs : a.eval s = v) (b : Value) (hb : b.oneCell' = true)
    (gs : Nat) (hx : a.eval x = .slice (some ⟨gs, 0, none⟩) 1 1) (hgs : w.heap.size = gs) (hn : n + 1 ≤ 1000000000) (hbase : base ≤ w.heap.size)
    (h : ∀ v' w', w'.ownsRow base 27 1 v' (n + 1) (xs ++ [b]) → Moved (w.alloc (.cells #[b] 27)) w' v v' → v' ≠ .slice none 0 0 → wpList Try.prog ops Q rest (a.put o.dst v') w') : wpList Try.prog ops Q (o :: rest) a (w.alloc (.cells #[b] 27)) := by
  subst hgs
  obtain ⟨i, hi, hz0, hz1, hz2⟩ := info_parts Try.infoS
  refine wpList_app _ hgd s x 45 ho base 27 i (.slice none 0 0) 24 Try.underlying45 hi hz0 hz1 hz2 rfl v n xs hs (hown.alloc _) ⟨w.heap.size, 0, none⟩ 1 1 [b] hx rfl ?_ ?_ (by decide) (by unfold maxLen; omega) (by omega) (by simp; omega) h
  · intro j u hj
    match j, hj with
    | 0, hj =>
      simp at hj; subst hj
      rw [show (⟨w.heap.size, 0, none⟩ : Addr).add 0 = ⟨w.heap.size, 0, none⟩ by simp [Addr.add]]
      unfold World.cell?
      simp only [heap_alloc_new]
      rfl
  · intro u hu
    simp at hu; subst hu; exact hb

theorem Long.cells {H : Held} {B : Nat} {w : World} {j : Nat} {u : Value} (h : Long H B w j 80 u) : ∃ g cap, u = .slice (some ⟨g, 0, none⟩) (H.ns j + 80) cap ∧ H.ns j + 80 ≤ cap ∧ cap ≤ maxLen ∧ (∀ q, q < H.ns j → w.cell? ⟨g, q, none⟩ = some (.int .u8 (mkA j q))) ∧ ∀ q, H.ns j ≤ q → q < H.ns j + 80 → w.cell? ⟨g, q, none⟩ = some (.int .u8 (cA j)) := by
  obtain ⟨xs, h1, h2, h3⟩ := h
  obtain ⟨g, cap, rfl, _, _, hc, hm⟩ := ownsRow_open h1 (by omega)
  exact ⟨g, cap, rfl, hc, hm, fun q hq => by rw [h1.cellAt q (by omega)]; exact h2 q hq, fun q hq hq2 => by rw [h1.cellAt q (by omega)]; exact h3 q hq hq2⟩

set_option maxHeartbeats 6400000 in
theorem apart_any (H : Held) (w0 wr : World) (B b c : Nat) (hf : H.Fit) (ha : A1 H w0 B b wr 0 0) :
    Calls Try.prog 18 #[.slice (some ⟨b, 0, none⟩) H.m c] wr fun e w' => e = .returned (.bool true) ∧ Below B w0 w' := by
  have few := hf.few
  have HF := hide hf; have HA := hide ha
  clear hf ha
  go_enter Try.func18, Try.ntmps18
  go_wp2
  go_loopw [3] (fun i w => ∃ j : Nat, j ≤ H.m ∧ i = .int .i64 j ∧ A1 H w0 B b w j 0) (fun i _ => H.m - (intOf i).toNat)
  case atStart => exact ⟨0, Nat.zero_le _, rfl, unhide HA⟩
  case round =>
    clear HA
    obtain ⟨i, hi, rfl, h1⟩ := hrel
    by_cases hlt : i < H.m
    · have small := (unhide HF).small i hlt
      have A0 := hide h1
      clear h1
      go_wp2
      go_loopw [4] (fun q w => ∃ k : Nat, k ≤ H.ns i ∧ q = .int .i64 k ∧ A1 H w0 B b w i k) (fun q _ => H.ns i - (intOf q).toNat)
      case atStart => exact ⟨0, Nat.zero_le _, rfl, unhide A0⟩
      case round =>
        clear A0
        obtain ⟨k, hk, rfl, h1⟩ := hrel
        have cb := cellB h1.blk (unhide HF) i hlt
        by_cases hlk : k < H.ns i
        · obtain ⟨g, y, e1, e2, e3, e4, e5, h2⟩ := h1.step (unhide HF) hlt hlk
          unfold maxLen at e3
          have A2 := hide h2
          unfold mkA at A2
          clear h1 h2
          go_wp2
          go_roundw
          case rel => exact ⟨k + 1, by omega, by go_num, unhide A2⟩
          case measure => simp [intOf]; omega
        · have ek : k = H.ns i := by omega
          subst ek
          have A2 := hide h1.next
          clear h1
          go_wp2
          go_roundw
          case rel => exact ⟨i + 1, by omega, by go_num, unhide A2⟩
          case measure => simp [intOf]; omega
    · have ei : i = H.m := by omega
      subst ei
      have A0 := hide h1.turn
      clear h1 hlt
      go_wp2
      go_loopw [5, 6] (fun lv i w => ∃ (j : Nat) (ys : List Value), j ≤ H.m ∧ i = .int .i64 j ∧ A2 H w0 B b w j lv ys) (fun _ i _ => H.m - (intOf i).toNat)
      case atStart => exact ⟨0, [], Nat.zero_le _, rfl, unhide A0⟩
      case round =>
        clear A0
        obtain ⟨i, ys, hi, rfl, h1⟩ := hrel
        by_cases hlt : i < H.m
        · have small := (unhide HF).small i hlt
          have cb := cellB h1.blk (unhide HF) i hlt
          have A0 := hide (h1.enter (unhide HF) hlt)
          unfold Held.v at A0
          clear h1
          go_wp2
          go_loopw [7, 8] (fun y q w => ∃ k : Nat, k ≤ 80 ∧ q = .int .i64 k ∧ A2y H w0 B b w i k y u5 ys) (fun _ q _ => 80 - (intOf q).toNat)
          case atStart => exact ⟨0, by omega, rfl, unhide A0⟩
          case round =>
            clear A0 cb
            obtain ⟨k, hk, rfl, h1⟩ := hrel
            have hB : B ≤ wr.heap.size := by have := lt_of_block h1.blk; have := h1.low; omega
            have hb1 : b + 1 ≤ wr.heap.size := lt_of_block h1.blk
            by_cases hlk : k < 80
            · obtain ⟨xs, hx, -⟩ := h1.cur
              have HX := hide hx; have HY := hide h1
              clear hx h1
              go_wp2_with (first
                | (at_builtin; refine wpList_app1g _ rfl (.tmp 54) (.tmp 59) rfl B _ (H.ns i + k) xs (unhide HX) rfl (.int .u8 ((131 + 11 * (i : Int)) % 256)) rfl _ rfl (by simp) (by omega) hB ?_; intro y' W1 ho hmv _; have HN := hide ((unhide HY).app hlt _ (unhide HX) hmv ho); clear ho hmv)
                | go_in)
              go_roundw
              case rel => exact ⟨k + 1, by omega, by go_num, unhide HN⟩
              case measure => simp [intOf]; omega
            · have ek : k = 80 := by omega
              subst ek
              obtain ⟨xs, hx, -⟩ := h1.cur
              obtain ⟨g, cap, rfl, -⟩ := ownsRow_open hx (by omega)
              have HY := hide h1
              clear hx h1
              go_wp2_with (first
                | (at_builtin; refine wpList_appS _ rfl (.tmp 61) (.tmp 63) rfl (b + 1) _ i ys (unhide HY).row rfl (.slice (some ⟨g, 0, none⟩) (H.ns i + 80) cap) rfl _ rfl (by simp) (by omega) hb1 ?_; intro lv' W1 ho hmv _; have HN := hide ((unhide HY).leave hlt _ hmv ho); clear ho hmv)
                | go_in)
              go_roundw
              case rel => exact ⟨i + 1, _, by omega, by go_num, unhide HN⟩
              case measure => simp [intOf]; omega
        · have ei : i = H.m := by omega
          subst ei
          have A0 := hide h1
          clear h1 hlt hi
          go_wp2
          go_loop [9] (fun i => ∃ j : Nat, j ≤ H.m ∧ i = .int .i64 j) (fun i => H.m - (intOf i).toNat)
          case atStart => exact ⟨0, Nat.zero_le _, rfl⟩
          case round =>
            obtain ⟨i, hi, rfl⟩ := hrel
            by_cases hlt : i < H.m
            · have small := (unhide HF).small i hlt
              have cb := cellB (unhide A0).blk (unhide HF) i hlt
              have hlen := (unhide A0).len
              obtain ⟨gl, cl, el, -, -, ncl, mcl⟩ := ownsRow_open (unhide A0).row (by omega)
              subst el
              have hu := (unhide A0).row.cellAt i (by omega)
              rw [List.getElem?_eq_getElem (by omega)] at hu
              have lg := (unhide A0).old i _ (List.getElem?_eq_getElem (by omega))
              generalize ys[i] = u at hu lg
              obtain ⟨gu, cu, rfl, ncu, mcu, cu1, cu2⟩ := lg.cells
              have RD := hide ((unhide A0).rd i hlt); have CU1 := hide cu1; have CU2 := hide cu2
              unfold maxLen at mcl mcu
              clear lg cu1 cu2 hlen
              go_wp2
              go_loop [10] (fun q => ∃ k : Nat, k ≤ H.ns i + 80 ∧ q = .int .i64 k) (fun q => H.ns i + 80 - (intOf q).toNat)
              case atStart => exact ⟨0, Nat.zero_le _, rfl⟩
              case round =>
                obtain ⟨k, hk, rfl⟩ := hrel
                by_cases hlk : k < H.ns i
                · obtain ⟨g, eg, cg⟩ := (unhide RD) k hlk
                  have cu := (unhide CU1) k hlk
                  unfold mkA at cg cu
                  go_wp2
                  go_round
                  case rel => exact ⟨k + 1, by omega, by go_num⟩
                  case measure => simp [intOf]; omega
                · by_cases hl2 : k < H.ns i + 80
                  · have cu := (unhide CU2) k (by omega) hl2
                    unfold cA at cu
                    go_wp2
                    go_round
                    case rel => exact ⟨k + 1, by omega, by go_num⟩
                    case measure => simp [intOf]; omega
                  · go_wp2
                    go_round
                    case rel => exact ⟨i + 1, by omega, by go_num⟩
                    case measure => simp [intOf]; omega
            · go_wp2
              go_ret
              exact ⟨rfl, (unhide A0).bel⟩
end Go.Proofs.Ytpcnpdippnljpaa

namespace Go.Proofs.Ytpcnpdippnljpaa
open Go.RowKit
set_option maxRecDepth 100000
set_option linter.unusedVariables false

def vad : Value → Option Addr | .slice a _ _ => a | _ => none
def vns : Value → Nat | .slice _ n _ => n | _ => 0
def vcp : Value → Nat | .slice _ _ c => c | _ => 0

/-- The lists of a literal. -/
def heldOf (vs : List Value) : Held := ⟨vs.length, fun j => vad (vs.getD j (.slice none 0 0)), fun j => vns (vs.getD j (.slice none 0 0)), fun j => vcp (vs.getD j (.slice none 0 0)), vs.toArray⟩

theorem ownsRow_shape {w : World} {base : Nat} {e : TypeId} {v : Value} {n : Nat} {xs : List Value} (h : w.ownsRow base e 1 v n xs) : v = .slice (vad v) (vns v) (vcp v) ∧ vns v = n := by
  rcases h.2 with ⟨rfl, rfl⟩ | ⟨g, cap, cur, rfl, _⟩ <;> exact ⟨rfl, rfl⟩

theorem apart_list (vs : List Value) (w0 wr : World) (B b c : Nat) (hB : B ≤ b) (hb : wr.heap[b]? = some (.cells vs.toArray 27 (0, 0))) (hown : ∀ v ∈ vs, ∃ n xs, wr.ownsRow B 5 1 v n xs ∧ n ≤ 140737488355000)
    (hsep : vs.Pairwise fun u v => u.ownBlock = none ∨ u.ownBlock ≠ v.ownBlock) (few : vs.length ≤ 1000000) (bel : Below B w0 wr) :
    Calls Try.prog 18 #[.slice (some ⟨b, 0, none⟩) vs.length c] wr fun e w' => e = .returned (.bool true) ∧ Below B w0 w' := by
  have get : ∀ j, j < vs.length → vs[j]? = some (vs.getD j (.slice none 0 0)) := fun j hj => by simp [List.getD, hj]
  have mem : ∀ j, j < vs.length → vs.getD j (.slice none 0 0) ∈ vs := fun j hj => List.mem_of_getElem? (get j hj)
  have hv : ∀ j, j < vs.length → (heldOf vs).v j = vs.getD j (.slice none 0 0) := fun j hj => by
    obtain ⟨n, xs, ho, _⟩ := hown _ (mem j hj)
    exact (ownsRow_shape ho).1.symm
  have fit : (heldOf vs).Fit := by
    refine ⟨fun j hj => ?_, fun i j hi hj hne => ?_, fun j hj => ?_, few⟩
    · rw [hv j hj]; simpa [heldOf] using get j hj
    · rw [hv i hi, hv j hj]
      rw [List.pairwise_iff_getElem] at hsep
      have hi' : i < vs.length := hi
      have hj' : j < vs.length := hj
      have e1 : vs.getD i (.slice none 0 0) = vs[i] := by simp [List.getD, hi']
      have e2 : vs.getD j (.slice none 0 0) = vs[j] := by simp [List.getD, hj']
      rw [e1, e2]
      rcases Nat.lt_or_gt_of_ne hne with h | h
      · exact hsep i j hi' hj' h
      · rcases hsep j i hj' hi' h with h1 | h1
        · rw [h1]; cases vs[i].ownBlock <;> simp
        · exact .inr (Ne.symm h1)
    · obtain ⟨n, xs, ho, hn⟩ := hown _ (mem j hj)
      show vns _ ≤ _
      rw [(ownsRow_shape ho).2]; exact hn
  exact apart_any (heldOf vs) w0 wr B b c fit ⟨hb, fun j hj => by
    obtain ⟨n, xs, ho, _⟩ := hown _ (mem j hj)
    refine ⟨xs, ?_, fun q _ h => by omega⟩
    rw [hv j hj]
    show wr.ownsRow B 5 1 _ (vns _) xs
    rw [(ownsRow_shape ho).2]; exact ho, bel, hB⟩

theorem bts_own {w : World} {g : Nat} {l : List Int} (base : Nat) (h : w.heap[g]? = some (bts l)) (hb : base ≤ g) (hl : l.length ≤ maxLen) : w.ownsRow base 5 1 (.slice (some ⟨g, 0, none⟩) l.length l.length) l.length (vals l) :=
  ⟨by simp [vals], .inr ⟨g, l.length, _, rfl, hb, h, Nat.le_refl _, hl, by simp, by rw [Nat.mul_one, List.take_of_length_le (by simp)]; rfl⟩⟩

theorem own_rd {w : World} {base : Nat} {s : Value} {n : Nat} {l : List Int} (h : w.ownsRow base 5 1 s n (vals l)) (hl : ∀ x ∈ l, IsB x) : l.length = n ∧ ∃ a c, s = .slice a n c ∧ Rd w a l := by
  have hn : l.length = n := by have := h.1; simpa [vals] using this
  refine ⟨hn, ?_⟩
  by_cases h0 : n = 0
  · obtain ⟨e1, e2⟩ := ownsRow_shape h
    refine ⟨vad s, vcp s, by rw [e2] at e1; exact e1, hl, fun hne => absurd (List.eq_nil_of_length_eq_zero (by omega)) hne⟩
  · obtain ⟨g, c, rfl, _⟩ := ownsRow_open h h0
    refine ⟨_, _, rfl, hl, fun _ => ⟨g, 0, rfl, fun i hi => ?_⟩⟩
    rw [Nat.zero_add, h.cellAt i (by omega), vals_get l i hi]
end Go.Proofs.Ytpcnpdippnljpaa

namespace Go.Proofs.Ytpcnpdippnljpaa
open Go.RowKit
set_option maxRecDepth 100000
set_option linter.unusedVariables false

def putAsF (v n : Int) : List Int × Int := if n = 1 ∨ n = 2 ∨ n = 4 ∨ n = 8 then (if v ≤ 4611686018427387903 ∧ (sizeF v : Int) ≤ n then (layF v n.toNat, 0) else ([], 10)) else ([], 1)

/-- An answer of bytes: its owner's, of new memory. -/
def Own (w w' : World) (s : Value) (l : List Int) : Prop := w'.ownsRow w.heap.size 5 1 s l.length (vals l) ∧ Below w.heap.size w w'

theorem own_nil (w : World) : Own w w (.slice none 0 0) [] := ⟨World.ownsRow_nil _ _ _ _, Below.refl _ _⟩
theorem own_bts (w : World) (l : List Int) (n : Nat) (hn : l.length = n) (h : l.length ≤ maxLen) : Own w (w.alloc (bts l)) (.slice (some ⟨w.heap.size, 0, none⟩) n n) l := by
  subst hn
  exact ⟨bts_own _ (heap_alloc_new w _) (Nat.le_refl _) h, (Below.refl _ _).alloc (Nat.le_refl _) _⟩
theorem Own.alloc {w w' : World} {s : Value} {l : List Int} {o : Obj} (h : Own (w.alloc o) w' s l) : Own w w' s l := by
  refine ⟨?_, ((Below.refl _ _).alloc (Nat.le_refl _) o).trans (h.2.mono (by simp))⟩
  refine ⟨h.1.1, ?_⟩
  rcases h.1.2 with h2 | ⟨g, cap, cur, hv, hg, r⟩
  · exact .inl h2
  · exact .inr ⟨g, cap, cur, hv, by simp at hg; omega, r⟩

theorem layF_small (v : Int) (n : Nat) (h : Fits v n) : (layF v n).length ≤ maxLen := by
  rw [layF_length]; unfold maxLen; rcases h with h | h | h | h <;> omega

theorem putAs_own (v n : Int) (w : World) (v0 : 0 ≤ v) (v1 : v < 18446744073709551616) :
    Calls Try.prog 46 #[.int .u64 v, .int .i64 n] w fun e w' => ∃ s, e = .returned (.tuple #[s, .int .i64 (putAsF v n).2]) ∧ Own w w' s (putAsF v n).1 := by
  unfold putAsF
  by_cases hs : n = 1 ∨ n = 2 ∨ n = 4 ∨ n = 8
  · rw [if_pos hs]
    by_cases h : v ≤ 4611686018427387903 ∧ (sizeF v : Int) ≤ n
    · rw [if_pos h]
      exact (putAs_ok v n w v0 h.1 hs h.2).mono fun e w' ⟨he, hw⟩ => ⟨_, he, by subst hw; exact own_bts w _ _ (layF_length _ _) (layF_small v _ (fits_of v n hs h.2 h.1))⟩
    · rw [if_neg h]
      exact (putAs_no v n w v0 v1 hs (by omega)).mono fun e w' ⟨he, hw⟩ => ⟨_, he, by subst hw; exact own_nil _⟩
  · rw [if_neg hs]
    exact (putAs_arg v n w hs).mono fun e w' ⟨he, hw⟩ => ⟨_, he, by subst hw; exact own_nil _⟩

/-! the document's answer -/
set_option maxHeartbeats 800000 in
theorem rputAs_arg (v n : Int) (w : World) (h : firstF n = 0) :
    Calls Try.prog 49 #[.int .u64 v, .int .i64 n] w fun e w' => e = .returned (.tuple #[.slice none 0 0, .int .i64 1]) ∧ w' = w := by
  go_enter Try.func49, Try.ntmps49
  go_wp2_with (go_at_call 64; refine (first_any _ _).mono ?_; rintro e w' ⟨rfl, hw⟩; subst w')
  go_ret2
  exact ⟨rfl, rfl⟩
set_option maxHeartbeats 800000 in
theorem rputAs_no (v n : Int) (w : World) (h : firstF n ≠ 0) (h2 : firstF n ≤ v) :
    Calls Try.prog 49 #[.int .u64 v, .int .i64 n] w fun e w' => e = .returned (.tuple #[.slice none 0 0, .int .i64 10]) ∧ w' = w := by
  have hne : (firstF n == 0) = false := by simp [h]
  clear h
  go_enter Try.func49, Try.ntmps49
  go_wp2_with (go_at_call 64; refine (first_any _ _).mono ?_; rintro e w' ⟨rfl, hw⟩; subst w')
  go_ret2
  exact ⟨rfl, rfl⟩

theorem rputAs_own (v n : Int) (w : World) (v0 : 0 ≤ v) (v1 : v < 18446744073709551616) :
    Calls Try.prog 49 #[.int .u64 v, .int .i64 n] w fun e w' => ∃ s, e = .returned (.tuple #[s, .int .i64 (putAsF v n).2]) ∧ Own w w' s (putAsF v n).1 := by
  unfold putAsF
  by_cases hs : n = 1 ∨ n = 2 ∨ n = 4 ∨ n = 8
  · rw [if_pos hs]
    have hf : firstF n ≠ 0 := by unfold firstF; rcases hs with rfl | rfl | rfl | rfl <;> decide
    have hcmp : (v ≤ 4611686018427387903 ∧ (sizeF v : Int) ≤ n) ↔ v < firstF n := by
      unfold firstF sizeF
      rcases hs with rfl | rfl | rfl | rfl <;> (repeat' split) <;> omega
    by_cases h : v ≤ 4611686018427387903 ∧ (sizeF v : Int) ≤ n
    · rw [if_pos h]
      have hfit := fits_of v n hs h.2 h.1
      have key : ∀ (k m idx : Nat), n = k → k = m + 1 → k ≤ 8 → idx < 4 → szA idx = k → (∀ q, q < 4 → q ≠ idx → szA q ≠ k) → markF k = 64 * (idx : Int) → v / 256 ^ m % 256 ≤ 63 → Calls Try.prog 49 #[.int .u64 v, .int .i64 n] w fun e w' => ∃ s, e = .returned (.tuple #[s, .int .i64 0]) ∧ Own w w' s (layF v n.toNat) := fun k m idx e1 e2 e3 e4 e5 e6 e7 e8 => by
        subst e1
        rw [Int.toNat_natCast] at hfit ⊢
        exact (rputAs_ok v k m idx w v0 e2 e3 hfit e4 e5 e6 e7 (hcmp.1 h) e8).mono fun e w' ⟨s, he, ho, hb⟩ => ⟨s, he, by rw [Own, layF_length]; exact ⟨ho, hb⟩⟩
      have h4 : ∀ (k idx : Nat), (∀ q, q < 4 → q ≠ idx → szA q ≠ (k : Int)) ↔ ((0 ≠ idx → (1 : Int) ≠ k) ∧ (1 ≠ idx → (2 : Int) ≠ k) ∧ (2 ≠ idx → (4 : Int) ≠ k) ∧ (3 ≠ idx → (8 : Int) ≠ k)) := fun k idx => by
        constructor
        · intro hh; exact ⟨hh 0 (by omega), hh 1 (by omega), hh 2 (by omega), hh 3 (by omega)⟩
        · rintro ⟨a0, a1, a2, a3⟩ q hq
          have : q = 0 ∨ q = 1 ∨ q = 2 ∨ q = 3 := by omega
          rcases this with rfl | rfl | rfl | rfl
          · exact a0
          · exact a1
          · exact a2
          · exact a3
      rcases hs with rfl | rfl | rfl | rfl
      · exact key 1 0 0 rfl rfl (by omega) (by omega) rfl ((h4 1 0).2 (by omega)) rfl (by rcases hfit with h | h | h | h <;> simp <;> omega)
      · exact key 2 1 1 rfl rfl (by omega) (by omega) rfl ((h4 2 1).2 (by omega)) rfl (by rcases hfit with h | h | h | h <;> simp <;> omega)
      · exact key 4 3 2 rfl rfl (by omega) (by omega) rfl ((h4 4 2).2 (by omega)) rfl (by rcases hfit with h | h | h | h <;> simp <;> omega)
      · exact key 8 7 3 rfl rfl (by omega) (by omega) rfl ((h4 8 3).2 (by omega)) rfl (by rcases hfit with h | h | h | h <;> simp <;> omega)
    · rw [if_neg h]
      exact (rputAs_no v n w hf (by rw [hcmp] at h; omega)).mono fun e w' ⟨he, hw⟩ => ⟨_, he, by subst hw; exact own_nil _⟩
  · rw [if_neg hs]
    exact (rputAs_arg v n w (by unfold firstF; (repeat' split) <;> omega)).mono fun e w' ⟨he, hw⟩ => ⟨_, he, by subst hw; exact own_nil _⟩

end Go.Proofs.Ytpcnpdippnljpaa
