import Derived.Test.YtihhgminbmngcaaNVB
namespace Go.Proofs.Ytihhgminbmngcaa
open Go.RowKit Go.Shelf
set_option linter.unusedVariables false
set_option maxRecDepth 100000

theorem Try.info3 : (Try.prog.info? 3).map (fun i => (i.zero, i.size, i.bytes)) = some (some (.int .i64 0), 1, 8) := by kernel_rfl
theorem Try.infoU64 : (Try.prog.info? 35).map (fun i => (i.zero, i.size, i.bytes)) = some (some (.int .u64 0), 1, 8) := by kernel_rfl

theorem func_nilIn (W : World) (d : Nat) (f : Fn) (x y : Array Value) : (Op.equalIn (d + 1) 27 (.func f x y) .nilFunc).run Try.prog W = .ok false W := by
  rw [Op.equalIn]
  simp [run_underlying Try.underlying27]
theorem func_nil (W : World) (f : Fn) (x y : Array Value) : (binOp .eql 27 (.func f x y) .nilFunc).run Try.prog W = .ok (.bool false) W := by
  simp only [binOp]
  simp [Op.equal, Op.maxDepth, func_nilIn W 9999 f x y]

section
variable {w w' : World} {B B' : Nat} {e e' : TypeId} {k k' : IntKind} {v y y' : Value} {l l' : List Int}
theorem IRow.alloc (h : IRow w B e k v l) (o : Obj) : IRow (w.alloc o) B e k v l := World.ownsRow.alloc h o
theorem IRow.below (h : IRow w B e k v l) (hb : Below w.heap.size w w') : IRow w' B e k v l :=
  World.ownsRow.kept (row := none) h ⟨hb.os, hb.tape, hb.output, hb.size, fun k hk _ => hb.block k hk⟩ (by cases v.ownBlock <;> simp)
theorem IRow.block (h : IRow w B e k v l) : ∀ g, v.ownBlock = some g → ∃ c, w.heap[g]? = some (.cells c e (0, 0)) := by
  intro g hg
  rcases h.2 with ⟨rfl, _⟩ | ⟨g', cap, cur, rfl, _, hh, _⟩
  · simp [Value.ownBlock] at hg
  · simp [Value.ownBlock] at hg
    subst hg
    exact ⟨cur, hh⟩
theorem IRow.apart (h : IRow w B e k v l) (h' : IRow w B' e' k' y l') (hne : e ≠ e') : v.ownBlock = none ∨ v.ownBlock ≠ y.ownBlock := by
  cases hv : v.ownBlock with
  | none => exact .inl rfl
  | some g =>
    right
    intro e1
    obtain ⟨c, h1⟩ := h.block g hv
    obtain ⟨c', h2⟩ := h'.block g e1.symm
    rw [h1] at h2
    simp at h2
    exact hne h2.2
theorem IRow.moved (h : IRow w B e k v l) (hm : Moved w w' y y') (h' : IRow w B' e' k' y l') (hne : e ≠ e') : IRow w' B e k v l := by
  rcases hm with ⟨_, hg⟩ | ⟨_, hg, _⟩
  · exact World.ownsRow.kept h hg (h.apart h' hne)
  · exact World.ownsRow.kept h hg (by cases v.ownBlock <;> simp)
theorem moved_block (hm : Moved w w' y y') (h' : IRow w B' e' k' y l') {g : Nat} {c : Array Value} {t : TypeId} {fr : Nat × Nat} (hg : w.heap[g]? = some (.cells c t fr)) (hne : t ≠ e') : w'.heap[g]? = some (.cells c t fr) := by
  rcases hm with ⟨_, hgr⟩ | ⟨_, hgr, _⟩
  · rw [hgr.block g (lt_of_block hg) (fun e1 => by
      obtain ⟨c', h2⟩ := h'.block g e1.symm
      rw [hg] at h2
      simp at h2
      exact hne h2.2.1)]
    exact hg
  · rw [hgr.block g (lt_of_block hg) (by simp)]; exact hg
theorem IRow.bel (h' : IRow w B e' k' y l') (hm : Moved w w' y y') {w0 : World} (hb : Below B w0 w) (hB : B ≤ w.heap.size) : Below B w0 w' := hm.below hb hB (fun k hk => (World.ownsRow.lt h' k hk).1)
end

end Go.Proofs.Ytihhgminbmngcaa
