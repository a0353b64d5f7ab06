/- A Recv in memory. -/
import Derived.Test.YthihabjegpacaaaGreatT6K
namespace Go.Proofs.YthihabjegpacaaaGreat
open Go.RowKit
set_option linter.unusedVariables false
set_option maxHeartbeats 400000
set_option maxRecDepth 100000

theorem Pq.Row.ne_of {w : World} {v : Value} {L : List Pq.Pc} (h : Pq.Row w v L) {k : Nat} {cs : Array Value} {t : TypeId} {fr : Nat × Nat} (hk : w.heap[k]? = some (.cells cs t fr)) (ht : t ≠ 88) : v.ownBlock ≠ some k := fun e => by
  rcases h with ⟨rfl, _⟩ | ⟨g, pr, c, sp, rfl, hR⟩
  · cases e
  · injection e with e
    have e' : g = k := e
    have h1 := hR.1
    rw [e', hk] at h1
    injection h1 with h1
    injection h1 with _ h1
    exact ht h1

/-- The cells of a Recv. -/
def rvc (bk : Nat) (vh : Value) (S : Rv) : Array Value := #[.int .i64 S.limit, .int .i64 S.read, .int .i64 S.high, .int .i64 S.final, ptr bk, vh, .bool S.ended, .bool S.reset]
/-- A Recv at b, its blocks those of M or new since w; all else is as it was. -/
structure RA (w : World) (M : Nat → Prop) (b bk : Nat) (vh : Value) (E : List He) (W : World) (S : Rv) : Prop where
  kp : Kp M w W
  blk : Blk W b (rvc bk vh S) 53
  set : ∃ va, SetAt W bk 0 va S.K ∧ ∀ g, va.ownBlock = some g → M g ∨ w.heap.size ≤ g
  row : Pq.Row W vh (E.map pcOf)
  pcs : ∀ e ∈ E, Blk W e.g (by8 e.p) 5 ∧ (M e.g ∨ w.heap.size ≤ e.g)
  mb : M b ∨ w.heap.size ≤ b
  mq : M bk ∨ w.heap.size ≤ bk
  mh : ∀ g, vh.ownBlock = some g → M g ∨ w.heap.size ≤ g

section
variable {w W W' : World} {M D : Nat → Prop} {b bk : Nat} {vh : Value} {E : List He} {S S' : Rv}
theorem RA.cells (h : RA w M b bk vh E W S) : W.cell? ⟨b, 0, none⟩ = some (.int .i64 S.limit) ∧ W.cell? ⟨b, 1, none⟩ = some (.int .i64 S.read) ∧ W.cell? ⟨b, 2, none⟩ = some (.int .i64 S.high) ∧ W.cell? ⟨b, 3, none⟩ = some (.int .i64 S.final) ∧ W.cell? ⟨b, 4, none⟩ = some (ptr bk) ∧ W.cell? ⟨b, 5, none⟩ = some vh ∧ W.cell? ⟨b, 6, none⟩ = some (.bool S.ended) ∧ W.cell? ⟨b, 7, none⟩ = some (.bool S.reset) :=
  ⟨h.blk.cell 0 _ rfl, h.blk.cell 1 _ rfl, h.blk.cell 2 _ rfl, h.blk.cell 3 _ rfl, h.blk.cell 4 _ rfl, h.blk.cell 5 _ rfl, h.blk.cell 6 _ rfl, h.blk.cell 7 _ rfl⟩
/-- Its blocks, in a world that keeps them. -/
theorem RA.same (h : RA w M b bk vh E W S) (k : Kp M w W') (hb : W'.heap[b]? = W.heap[b]?) (hk : W'.heap[bk]? = W.heap[bk]?) (hs : ∀ va, SetAt W bk 0 va S.K → ∀ g, va.ownBlock = some g → W'.heap[g]? = W.heap[g]?) (hr : ∀ g, vh.ownBlock = some g → W'.heap[g]? = W.heap[g]?) (hp : ∀ e ∈ E, W'.heap[e.g]? = W.heap[e.g]?) : RA w M b bk vh E W' S := by
  obtain ⟨va, s, m⟩ := h.set
  exact ⟨k, hb.trans h.blk, ⟨va, setAt_kept s hk (hs va s), m⟩, h.row.kept hr, fun e he => ⟨(hp e he).trans (h.pcs e he).1, (h.pcs e he).2⟩, h.mb, h.mq, h.mh⟩
theorem RA.grown (h : RA w M b bk vh E W S) (g : W.grownBy W' none) : RA w M b bk vh E W' S := by
  have e : ∀ {k : Nat}, k < W.heap.size → W'.heap[k]? = W.heap[k]? := fun hk => g.block _ hk (by simp)
  obtain ⟨va, s, m⟩ := h.set
  exact h.same (h.kp.nothing g) (e h.blk.lt) (e (setAt_lt s)) (fun va s k q => e (row_lt s.row k q)) (fun k q => e (h.row.lt k q)) (fun x hx => e (h.pcs x hx).1.lt)
/-- A cell is written. -/
theorem RA.put (h : RA w M b bk vh E W S) (j : Nat) (x : Value) (e : rvc bk vh S' = (rvc bk vh S).setIfInBounds j x) (eK : S'.K = S.K) : RA w M b bk vh E (W.setCell ⟨b, j, none⟩ x) S' := by
  obtain ⟨va, s, m⟩ := h.set
  have o : ∀ {k : Nat}, k ≠ b → (W.setCell ⟨b, j, none⟩ x).heap[k]? = W.heap[k]? := fun hk => set_heap _ _ _ _ _ hk
  refine ⟨h.kp.set b j x (or_lt h.mb), by rw [e]; exact h.blk.setC j x, ⟨va, by rw [eK]; exact setAt_kept s (o (heap_ne s.blk h.blk (by decide))) (fun g hg => o (fun q => s.row.ne_of h.blk (by decide) (q ▸ hg))), m⟩, h.row.kept fun g hg => o (fun q => h.row.ne_of h.blk (by decide) (q ▸ hg)), fun y hy => ⟨(o (heap_ne (h.pcs y hy).1 h.blk (by decide))).trans (h.pcs y hy).1, (h.pcs y hy).2⟩, h.mb, h.mq, h.mh⟩
/-- The same, told from a later world on. -/
theorem RA.rebase (h : RA w M b bk vh E W S) (g : W.grownBy W' none) : RA W' (fun k => (M k ∨ w.heap.size ≤ k) ∧ k < W.heap.size) b bk vh E W' S := by
  obtain ⟨va, s, m⟩ := h.set
  have h1 := h.grown g
  obtain ⟨va', s', m'⟩ := h1.set
  exact ⟨Kp.refl _ _, h1.blk, ⟨va, s.keep g, fun k e => .inl ⟨m k e, row_lt s.row k e⟩⟩, h1.row, fun x hx => ⟨(h1.pcs x hx).1, .inl ⟨(h.pcs x hx).2, (h.pcs x hx).1.lt⟩⟩, .inl ⟨h.mb, h.blk.lt⟩, .inl ⟨h.mq, setAt_lt s⟩, fun k e => .inl ⟨h.mh k e, h.row.lt k e⟩⟩
theorem RA.unbase {W1 X : World} {n : Nat} (k : Kp M w W1) (h : RA W1 (fun k => (M k ∨ w.heap.size ≤ k) ∧ k < n) b bk vh E X S) : RA w M b bk vh E X S := by
  obtain ⟨va, s, m⟩ := h.set
  have e : ∀ {g : Nat}, ((M g ∨ w.heap.size ≤ g) ∧ g < n) ∨ W1.heap.size ≤ g → M g ∨ w.heap.size ≤ g := fun q => by
    rcases q with q | q
    · exact q.1
    · exact .inr (Nat.le_trans k.size q)
  exact ⟨k.then h.kp (fun g hg q => q.1.resolve_right (by omega)), h.blk, ⟨va, s, fun g q => e (m g q)⟩, h.row, fun x hx => ⟨(h.pcs x hx).1, e (h.pcs x hx).2⟩, e h.mb, e h.mq, fun g q => e (h.mh g q)⟩
/-- Other blocks are written. -/
theorem RA.keep {X Y : World} (h : RA X M b bk vh E X S) (k : Kp D X Y) (hM : ∀ g, M g → ¬ D g) : RA Y M b bk vh E Y S := by
  obtain ⟨va, s, m⟩ := h.set
  have e : ∀ {j : Nat}, M j ∨ X.heap.size ≤ j → j < X.heap.size → Y.heap[j]? = X.heap[j]? := fun q hj => k.block _ hj (hM _ (q.resolve_right (by omega)))
  have f : ∀ {j : Nat}, M j ∨ X.heap.size ≤ j → j < X.heap.size → M j ∨ Y.heap.size ≤ j := fun q hj => .inl (q.resolve_right (by omega))
  exact ⟨Kp.refl _ _, (e h.mb h.blk.lt).trans h.blk, ⟨va, setAt_kept s (e h.mq (setAt_lt s)) (fun j q => e (m j q) (row_lt s.row j q)), fun j q => f (m j q) (row_lt s.row j q)⟩, h.row.kept fun j q => e (h.mh j q) (h.row.lt j q), fun x hx => ⟨(e (h.pcs x hx).2 (h.pcs x hx).1.lt).trans (h.pcs x hx).1, f (h.pcs x hx).2 (h.pcs x hx).1.lt⟩, f h.mb h.blk.lt, f h.mq (setAt_lt s), fun j q => f (h.mh j q) (h.row.lt j q)⟩
/-- The set is grown. -/
theorem RA.setK {va va' : Value} {K' : List Sp} (h : RA w M b bk vh E W S) (s : SetAt W bk 0 va S.K) (m : ∀ g, va.ownBlock = some g → M g ∨ w.heap.size ≤ g) (hs : SetAt W' bk 0 va' K') (ho : va'.ownBlock = va.ownBlock ∨ Fresh W va') (t : Touch W W' bk va) : RA w M b bk vh E W' { S with K := K' } := by
  have nb : ∀ {k : Nat}, k < W.heap.size → k ≠ bk → va.ownBlock ≠ some k → W'.heap[k]? = W.heap[k]? := fun hk h1 h2 => t.block _ hk h1 (fun e => h2 e.symm)
  have nr : ∀ {k : Nat} {cs : Array Value} {tt : TypeId}, Blk W k cs tt → tt ≠ 74 → tt ≠ 69 → W'.heap[k]? = W.heap[k]? := fun hk h1 h2 => nb hk.lt (heap_ne hk s.blk h1) (s.row.ne_of hk h2)
  refine ⟨kp_touch h.kp t h.mq m, (nr h.blk (by decide) (by decide)).trans h.blk, ⟨va', hs, fun g e => ?_⟩, h.row.kept fun g hg => ?_, fun x hx => ⟨(nr (h.pcs x hx).1 (by decide) (by decide)).trans (h.pcs x hx).1, (h.pcs x hx).2⟩, h.mb, h.mq, h.mh⟩
  · rcases ho with ho | ho
    · exact m g (ho ▸ e)
    · exact .inr (Nat.le_trans h.kp.size (ho g e))
  · rcases h.row with ⟨rfl, -⟩ | ⟨g', pr, c, sp, rfl, hR⟩
    · cases hg
    · cases hg
      exact nr (show Blk W g' _ _ from hR.1) (by decide) (by decide)
/-- The row is another one. -/
theorem RA.setE {vh' : Value} {E' : List He} (h : RA w M b bk vh E W S) (k : Kp M w W') (hk : ∀ {j : Nat} {cs : Array Value} {tt : TypeId}, Blk W j cs tt → tt ≠ 88 → W'.heap[j]? = W.heap[j]?) (hr : Pq.Row W' vh' (E'.map pcOf)) (hp : ∀ e ∈ E', Blk W' e.g (by8 e.p) 5 ∧ (M e.g ∨ w.heap.size ≤ e.g)) (hm : ∀ g, vh'.ownBlock = some g → M g ∨ w.heap.size ≤ g) : RA w M b bk vh' E' (W'.setCell ⟨b, 5, none⟩ vh') S := by
  obtain ⟨va, s, m⟩ := h.set
  have hb : Blk W' b (rvc bk vh S) 53 := (hk h.blk (by decide)).trans h.blk
  have o : ∀ {k : Nat}, k ≠ b → (W'.setCell ⟨b, 5, none⟩ vh').heap[k]? = W'.heap[k]? := fun hk => set_heap _ _ _ _ _ hk
  have s' : SetAt W' bk 0 va S.K := setAt_kept s (hk (show Blk W bk _ _ from s.blk) (by decide)) (fun g hg => by
    rcases Row.at s.row with ⟨rfl, -⟩ | ⟨g', c, sp, rfl, hR⟩
    · cases hg
    · cases hg; exact hk (show Blk W g' _ _ from hR.1) (by decide))
  refine ⟨k.set b 5 vh' (or_lt h.mb), by have := hb.setC 5 vh'; exact this, ⟨va, setAt_kept s' (o (heap_ne s'.blk hb (by decide))) (fun g hg => o (fun q => s'.row.ne_of hb (by decide) (q ▸ hg))), m⟩, hr.kept fun g hg => o (fun q => hr.ne_of hb (by decide) (q ▸ hg)), fun y hy => ⟨(o (heap_ne (hp y hy).1 hb (by decide))).trans (hp y hy).1, (hp y hy).2⟩, h.mb, h.mq, hm⟩
end
end Go.Proofs.YthihabjegpacaaaGreat
