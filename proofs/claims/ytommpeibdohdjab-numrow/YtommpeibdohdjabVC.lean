import Derived.Test.YtommpeibdohdjabVB
import Derived.Test.YtommpeibdohdjabPR
namespace Go.Proofs.Ytommpeibdohdjab
open Go.RowKit Go.Shelf
set_option linter.unusedVariables false

theorem Try.info3 : (Try.prog.info? 3).map (fun i => (i.zero, i.size, i.bytes)) = some (some (.int .i64 0), 1, 8) := by kernel_rfl
theorem Try.info22 : (Try.prog.info? 22).map (fun i => (i.zero, i.size, i.bytes)) = some (some (.int .u64 0), 1, 8) := by kernel_rfl

theorem func_nilIn (W : World) (d : Nat) (f : Fn) (x y : Array Value) : (Op.equalIn (d + 1) 33 (.func f x y) .nilFunc).run Try.prog W = .ok false W := by
  rw [Op.equalIn]
  simp [run_underlying Try.underlying33]
theorem func_nil (W : World) (f : Fn) (x y : Array Value) : (binOp .eql 33 (.func f x y) .nilFunc).run Try.prog W = .ok (.bool false) W := by
  simp only [binOp]
  simp [Op.equal, Op.maxDepth, func_nilIn W 9999 f x y]

section
variable {w w' : World} {B B' : Nat} {e e' : TypeId} {k k' : IntKind} {v y y' : Value} {l l' : List Int}
theorem IRow.alloc (h : IRow w B e k v l) (o : Obj) : IRow (w.alloc o) B e k v l := World.ownsRow.alloc h o
theorem IRow.below (h : IRow w B e k v l) (hb : Below w.heap.size w w') : IRow w' B e k v l :=
  World.ownsRow.kept (row := none) h ⟨hb.os, hb.tape, hb.output, hb.size, fun k hk _ => hb.block k hk⟩ (by cases v.ownBlock <;> simp)
theorem IRow.block (h : IRow w B e k v l) : ∀ g, v.ownBlock = some g → ∃ c, w.heap[g]? = some (.cells c e (0, 0)) := by
  intro g hg
  rcases h.2 with ⟨rfl, _⟩ | ⟨g', cap, cur, rfl, _, hh, _⟩
  · simp [Value.ownBlock] at hg
  · simp [Value.ownBlock] at hg
    subst hg
    exact ⟨cur, hh⟩
theorem IRow.apart (h : IRow w B e k v l) (h' : IRow w B' e' k' y l') (hne : e ≠ e') : v.ownBlock = none ∨ v.ownBlock ≠ y.ownBlock := by
  cases hv : v.ownBlock with
  | none => exact .inl rfl
  | some g =>
    right
    intro e1
    obtain ⟨c, h1⟩ := h.block g hv
    obtain ⟨c', h2⟩ := h'.block g e1.symm
    rw [h1] at h2
    simp at h2
    exact hne h2.2
theorem IRow.moved (h : IRow w B e k v l) (hm : Moved w w' y y') (h' : IRow w B' e' k' y l') (hne : e ≠ e') : IRow w' B e k v l := by
  rcases hm with ⟨_, hg⟩ | ⟨_, hg, _⟩
  · exact World.ownsRow.kept h hg (h.apart h' hne)
  · exact World.ownsRow.kept h hg (by cases v.ownBlock <;> simp)
theorem moved_block (hm : Moved w w' y y') (h' : IRow w B' e' k' y l') {g : Nat} {c : Array Value} {t : TypeId} {fr : Nat × Nat} (hg : w.heap[g]? = some (.cells c t fr)) (hne : t ≠ e') : w'.heap[g]? = some (.cells c t fr) := by
  rcases hm with ⟨_, hgr⟩ | ⟨_, hgr, _⟩
  · rw [hgr.block g (lt_of_block hg) (fun e1 => by
      obtain ⟨c', h2⟩ := h'.block g e1.symm
      rw [hg] at h2
      simp at h2
      exact hne h2.2.1)]
    exact hg
  · rw [hgr.block g (lt_of_block hg) (by simp)]; exact hg
theorem IRow.bel (h' : IRow w B e' k' y l') (hm : Moved w w' y y') {w0 : World} (hb : Below B w0 w) (hB : B ≤ w.heap.size) : Below B w0 w' := hm.below hb hB (fun k hk => (World.ownsRow.lt h' k hk).1)
end

/-- The three rows of a building round, and the number that is laid next. -/
structure RS (W0 : World) (B : Nat) (W : World) (bv pv av : Value) (lb lp la : List Int) (g : Nat) (c : List Int) : Prop where
  rb : IRow W B 5 .u8 bv lb
  rp : IRow W B 3 .i64 pv lp
  ra : IRow W B 22 .u64 av la
  bel : Below B W0 W
  low : B ≤ W.heap.size
  chunk : c = [] ∨ W.heap[g]? = some (bts c)

section
variable {W0 W W1 : World} {B g g' : Nat} {bv pv av : Value} {lb lp la c c' : List Int}
theorem RS.cells (h : RS W0 B W bv pv av lb lp la g c) (hc : c ≠ []) : ∀ j, j < c.length → W.cell? ⟨g, j, none⟩ = some (.int .u8 (c.getD j 0)) := fun j hj => by
  rcases h.chunk with h1 | h1
  · exact absurd h1 hc
  · unfold World.cell?
    rw [h1]
    simp [bts, List.getD, hj]
theorem RS.newc (h : RS W0 B W bv pv av lb lp la g c) (c' : List Int) : RS W0 B (W.alloc (bts c')) bv pv av lb lp la W.heap.size c' :=
  ⟨h.rb.alloc _, h.rp.alloc _, h.ra.alloc _, h.bel.alloc h.low _, by have := h.low; simp; omega, .inr (heap_alloc_new W _)⟩
theorem RS.oldc (h : RS W0 B W bv pv av lb lp la g c) (o : Obj) : RS W0 B (W.alloc o) bv pv av lb lp la g c :=
  ⟨h.rb.alloc _, h.rp.alloc _, h.ra.alloc _, h.bel.alloc h.low _, by have := h.low; simp; omega, by
    rcases h.chunk with h1 | h1
    · exact .inl h1
    · exact .inr (by rw [Below.heap_alloc _ _ _ (lt_of_block h1)]; exact h1)⟩
theorem RS.app_p (h0 : RS W0 B W bv pv av lb lp la g c) (o : Obj) {pv' : Value} {lp' : List Int} (hm : Moved (W.alloc o) W1 pv pv') (hr : IRow W1 B 3 .i64 pv' lp') : RS W0 B W1 bv pv' av lb lp' la g c := by
  have h := h0.oldc o
  refine ⟨h.rb.moved hm h.rp (by decide), hr, h.ra.moved hm h.rp (by decide), h.rp.bel hm h.bel h.low, Nat.le_trans h.low (by rcases hm with ⟨_, hg⟩ | ⟨_, hg, _⟩ <;> exact hg.size), ?_⟩
  rcases h.chunk with h1 | h1
  · exact .inl h1
  · exact .inr (moved_block hm h.rp h1 (by decide))
theorem RS.app_a (h0 : RS W0 B W bv pv av lb lp la g c) (o : Obj) {av' : Value} {la' : List Int} (hm : Moved (W.alloc o) W1 av av') (hr : IRow W1 B 22 .u64 av' la') : RS W0 B W1 bv pv av' lb lp la' g c := by
  have h := h0.oldc o
  refine ⟨h.rb.moved hm h.ra (by decide), h.rp.moved hm h.ra (by decide), hr, h.ra.bel hm h.bel h.low, Nat.le_trans h.low (by rcases hm with ⟨_, hg⟩ | ⟨_, hg, _⟩ <;> exact hg.size), ?_⟩
  rcases h.chunk with h1 | h1
  · exact .inl h1
  · exact .inr (moved_block hm h.ra h1 (by decide))
theorem RS.app_b (h : RS W0 B W bv pv av lb lp la g c) {bv' : Value} {lb' : List Int} (hm : Moved W W1 bv bv') (hr : IRow W1 B 5 .u8 bv' lb') : RS W0 B W1 bv' pv av lb' lp la 0 [] :=
  ⟨hr, h.rp.moved hm h.rb (by decide), h.ra.moved hm h.rb (by decide), h.rb.bel hm h.bel h.low, Nat.le_trans h.low (by rcases hm with ⟨_, hg⟩ | ⟨_, hg, _⟩ <;> exact hg.size), .inl rfl⟩
end
end Go.Proofs.Ytommpeibdohdjab
