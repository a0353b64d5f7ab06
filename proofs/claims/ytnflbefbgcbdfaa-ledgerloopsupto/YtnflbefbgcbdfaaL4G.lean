/- Ledger: Drop. -/
import Derived.Test.YtnflbefbgcbdfaaL4F
namespace Go.Proofs.Ytnflbefbgcbdfaa
open Go.RowKit
set_option linter.unusedVariables false
set_option linter.unusedSimpArgs false
set_option maxRecDepth 100000
set_option maxHeartbeats 2000000

theorem TkP.from {R : Nat → Prop} {w w1 : World} {b q : Nat} {kv va : Value} {l : Lg} {M : Int → Bool} {e : Ending} {w' : World} (h : TkP R w1 b q kv va l M e w') (k : Kp (fun x => x = b ∨ kv.ownBlock = some x) w w1) : TkP R w b q kv va l M e w' := by
  obtain ⟨ov, Ro, kv', h1, h2, h3, h4, h5, h6, h7⟩ := h
  have s := k.size
  exact ⟨ov, Ro, kv', h1, h2, fun g hg => ⟨by have := (h3 g hg).1; omega, (h3 g hg).2⟩, fun g hg => ⟨by have := (h4 g hg).1; omega, (h4 g hg).2⟩, h5, h6, k.trans h7⟩

/-- A ledger of which a cell was written. -/
theorem LgAt.set1 {R : Nat → Prop} {W : World} {b q : Nat} {kv va : Value} {l l' : Lg} (h : LgAt R W b q kv va l) (j : Nat) (v : Value) (hcs : (l.cs kv q).setIfInBounds j v = l'.cs kv q) (hk : l'.ks = l.ks) (ha : l'.ac = l.ac) : LgAt R (W.setCell ⟨b, j, none⟩ v) b q kv va l' := by
  have hd := h.diff
  have hne : ∀ x, x ≠ b → (W.setCell ⟨b, j, none⟩ v).heap[x]? = W.heap[x]? := fun x hx => set_heap W b j v x hx
  refine ⟨by rw [← hcs]; exact h.blk.setC j v, ?_, ?_, fun g hg => by rw [set_size]; exact h.low g hg, h.nb, h.nq, h.nk, h.na⟩
  · rw [ha]
    exact h.set.kept (hne q (Ne.symm hd.bq)) (fun g e => hne g (hd.vb g e).1)
  · rw [hk]
    exact h.row.kept (fun x hx => hne x (fun e => h.nb (e ▸ hx))) (fun g e => hne g (hd.kb g e).1)

theorem drop1_any (w : World) (k : Int) : Calls Try.prog 35 #[.int .i64 k] w fun e w' => e = .returned (.bool true) ∧ w.grownBy w' none := by
  go_enter Try.func35, Try.ntmps35
  go_wp2
  go_ret
  exact ⟨rfl, grown_self _ _⟩

theorem drop_any (b q : Nat) (kv va : Value) (l : Lg) (R : Nat → Prop) (w : World) (h : LgAt R w b q kv va l) (hn : l.ks.length ≤ 1100000) :
    Calls Try.prog 20 #[.pointer (some ⟨b, 0, none⟩)] w fun e w' => TkP R w b q kv va { l with op := false } (fun _ => true) e w' := by
  have hM : Mn (w.setCell ⟨b, 0, none⟩ (.bool false)) kv.ownBlock 35 #[] #[] (fun _ => true) := ⟨Go.Proofs.enters_of Try.func35 (by kernel_rfl) rfl, fun Z k _ => drop1_any Z k⟩
  have h1 : LgAt R (w.setCell ⟨b, 0, none⟩ (.bool false)) b q kv va { l with op := false } := h.set1 0 _ rfl rfl rfl
  have ht := take_any b q kv va _ R _ _ _ _ _ hM h1 hn
  have c0 : w.cell? ⟨b, 0, none⟩ = some (.bool l.op) := h.blk.cell 0 _ rfl
  have f0 := h.blk.thaw 0
  have KW : Hid (Kp (fun x => x = b ∨ kv.ownBlock = some x) w (w.setCell ⟨b, 0, none⟩ (.bool false))) := Kp.set (Kp.refl _ _) b 0 _ (fun _ => .inl rfl)
  clear hM h1 h hn
  go_enter Try.func20, Try.ntmps20
  go_wp2_with fail
  refine ht.mono ?_
  intro e X hP
  have hP := hP.from (unhide KW)
  obtain ⟨ov, Ro, kv', rfl, rest⟩ := hP
  have FIN := hide rest
  clear ht rest KW c0 f0
  go_wp2_with fail
  go_ret
  exact ⟨ov, Ro, kv', rfl, unhide FIN⟩
end Go.Proofs.Ytnflbefbgcbdfaa
