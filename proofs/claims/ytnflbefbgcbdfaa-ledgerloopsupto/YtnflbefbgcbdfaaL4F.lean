/- Ledger: take. -/
import Derived.Test.YtnflbefbgcbdfaaL4E
namespace Go.Proofs.Ytnflbefbgcbdfaa
open Go.RowKit
set_option linter.unusedVariables false
set_option linter.unusedSimpArgs false
set_option maxRecDepth 100000
set_option maxHeartbeats 2000000

theorem KvAt.ty {R : Nat → Prop} {W : World} {kv : Value} {ks : List St} (h : KvAt R W kv ks) : ∀ g, kv.ownBlock = some g → ∃ cs, Blk W g cs 36 := by
  intro g e
  obtain ⟨fvs, h1, h2, h3⟩ := h
  rcases h2.2 with ⟨rfl, -⟩ | ⟨g', c, cur, rfl, q1, q2, -⟩
  · cases e
  · cases e; exact ⟨cur, q2⟩
theorem row_ty {w : World} {v : Value} {L : List Sp} (h : Row w v L) : ∀ g, v.ownBlock = some g → ∃ cs, Blk w g cs 48 := by
  intro g e
  rcases h.2 with ⟨rfl, -⟩ | ⟨g', c, cur, rfl, q1, q2, -⟩
  · cases e
  · cases e; exact ⟨cur, q2⟩
theorem ty_ne {w : World} {a b : Nat} {ca cb : Array Value} {ta tb : TypeId} (ha : Blk w a ca ta) (hb : Blk w b cb tb) (h : ta ≠ tb) : a ≠ b := by
  rintro rfl
  unfold Blk at ha hb
  rw [ha] at hb
  injection hb with hb
  injection hb with _ hb
  exact h hb
/-- A ledger's blocks are apart. -/
structure LgD (b q : Nat) (kv va : Value) : Prop where
  bq : b ≠ q
  kb : ∀ g, kv.ownBlock = some g → g ≠ b ∧ g ≠ q ∧ va.ownBlock ≠ some g
  vb : ∀ g, va.ownBlock = some g → g ≠ b ∧ g ≠ q
theorem LgAt.diff {R : Nat → Prop} {W : World} {b q : Nat} {kv va : Value} {l : Lg} (h : LgAt R W b q kv va l) : LgD b q kv va := by
  have hs : Blk W q _ 79 := h.set.blk
  refine ⟨ty_ne h.blk hs (by decide), fun g e => ?_, fun g e => ?_⟩
  · obtain ⟨cs, hg⟩ := h.row.ty g e
    refine ⟨ty_ne hg h.blk (by decide), ty_ne hg hs (by decide), fun e2 => ?_⟩
    obtain ⟨cs2, hg2⟩ := row_ty h.set.row g e2
    exact ty_ne hg hg2 (by decide) rfl
  · obtain ⟨cs2, hg2⟩ := row_ty h.set.row g e
    exact ⟨ty_ne hg2 h.blk (by decide), ty_ne hg2 hs (by decide)⟩
theorem row_kept {w w' : World} {v : Value} {L : List Sp} (h : Row w v L) (ho : ∀ g, v.ownBlock = some g → w'.heap[g]? = w.heap[g]?) : Row w' v L := by
  refine ⟨h.1, ?_⟩
  rcases h.2 with q | ⟨g, c, cur, e1, q1, q2, q3⟩
  · exact .inl q
  · exact .inr ⟨g, c, cur, e1, q1, (ho g (by rw [e1]; rfl)).trans q2, q3⟩
theorem row_lt {w : World} {v : Value} {L : List Sp} (h : Row w v L) : ∀ g, v.ownBlock = some g → g < w.heap.size := fun g e => by
  obtain ⟨cs, hg⟩ := row_ty h g e
  exact hg.lt
theorem SetAt.kept {w w' : World} {b : Nat} {most : Int} {v : Value} {L : List Sp} (h : SetAt w b most v L) (hb : w'.heap[b]? = w.heap[b]?) (ho : ∀ g, v.ownBlock = some g → w'.heap[g]? = w.heap[g]?) : SetAt w' b most v L := ⟨hb.trans h.blk, row_kept h.row ho⟩
/-- A ledger whose blocks nobody wrote. -/
theorem LgAt.kept {R : Nat → Prop} {W W' : World} {b q : Nat} {kv va : Value} {l : Lg} (h : LgAt R W b q kv va l) {S : Nat → Prop} (k : Kp S W W') (hs : ∀ g, S g → ¬ R g ∧ g ≠ b ∧ g ≠ q ∧ kv.ownBlock ≠ some g ∧ va.ownBlock ≠ some g) : LgAt R W' b q kv va l := by
  have hq : Blk W q _ 79 := h.set.blk
  exact ⟨(k.block b h.blk.lt (fun e => (hs b e).2.1 rfl)).trans h.blk, h.set.kept (k.block q hq.lt (fun e => (hs q e).2.2.1 rfl)) (fun g e => k.block g (row_lt h.set.row g e) (fun e2 => (hs g e2).2.2.2.2 e)), h.row.kept (fun g hg => k.block g (h.low g hg) (fun e => (hs g e).1 hg)) (fun g e => k.block g (h.row.lt g e) (fun e2 => (hs g e2).2.2.2.1 e)), fun g hg => Nat.lt_of_lt_of_le (h.low g hg) k.size, h.nb, h.nq, h.nk, h.na⟩

/-- What is left. -/
def Lg.left (l : Lg) (M : Int → Bool) : Lg := { l with ks := l.ks.filter (fun s => !M s.nu) }
/-- What take leaves. -/
def TkP (R : Nat → Prop) (w : World) (b q : Nat) (kv va : Value) (l : Lg) (M : Int → Bool) (e : Ending) (w' : World) : Prop :=
  ∃ ov Ro kv', e = .returned ov ∧ KvAt Ro w' ov (l.ks.filter (fun s => M s.nu)) ∧ (∀ g, Ro g → w.heap.size ≤ g ∧ g < w'.heap.size) ∧ (∀ g, ov.ownBlock = some g → w.heap.size ≤ g ∧ ¬ Ro g) ∧ LgAt R w' b q kv' va (l.left M) ∧ kv'.ownBlock = kv.ownBlock ∧ Kp (fun x => x = b ∨ kv.ownBlock = some x) w w'

theorem idx_nil (v : Value) (W : World) : Calls Try.prog 66 #[.slice none 0 0, v] W fun e W' => e = .returned (.int .i64 (-1)) ∧ W' = W := by
  go_enter Try.func66, Try.ntmps66
  go_wp2
  go_loopw [8] (fun iv wr => iv = .int .i64 0 ∧ wr = W) (fun _ _ => 0)
  case atStart => exact ⟨rfl, rfl⟩
  case round =>
    obtain ⟨rfl, rfl⟩ := hrel
    go_wp2
    go_ret
    exact ⟨rfl, rfl⟩
theorem del_nil (v : Value) (W : World) : Calls Try.prog 44 #[.slice none 0 0, v] W fun e W' => e = .returned (.slice none 0 0) ∧ W' = W := by
  have h := idx_nil v W
  go_enter Try.func44, Try.ntmps44
  go_wp2_with (refine h.mono ?_; rintro e X ⟨rfl, rfl⟩)
  all_goals go_ret
  all_goals exact ⟨rfl, rfl⟩

theorem take_any (b q : Nat) (kv va : Value) (l : Lg) (R : Nat → Prop) (w : World) (f : FuncId) (pre cb : Array Value) (M : Int → Bool) (hM : Mn w kv.ownBlock f pre cb M) (h : LgAt R w b q kv va l) (hn : l.ks.length ≤ 1100000) :
    Calls Try.prog 23 #[.pointer (some ⟨b, 0, none⟩), .func (.func f) pre cb] w fun e w' => TkP R w b q kv va l M e w' := by
  obtain ⟨W2, hW2⟩ : ∃ W2, W2 = (w.alloc (.cells #[.func (.func f) pre cb] 72)).alloc (.cells #[.slice none 0 0] 49) := ⟨_, rfl⟩
  have bb := Blk.two w #[.func (.func f) pre cb] #[.slice none 0 0] 72 49
  rw [← hW2] at bb
  obtain ⟨B1, B2, g2⟩ := bb
  obtain ⟨bm, hbm⟩ : ∃ bm, bm = w.heap.size := ⟨_, rfl⟩
  have sz2 : W2.heap.size = bm + 2 := by rw [hW2, hbm]; simp
  rw [← hbm] at B1 B2
  have hb := h.blk.lt
  have TO0 : TO bm W2 (bm + 1) (.slice none 0 0) (fun _ => False) [] := ⟨B2, KvAt.nil _ _, fun g e => e.elim, fun g e => (by cases e), id, by omega⟩
  have h2 := h.grown g2
  have hd : Calls Try.prog 44 #[kv, .func (.func 45) #[] #[.pointer (some ⟨bm, 0, none⟩), .pointer (some ⟨bm + 1, 0, none⟩)]] W2 fun e W3 => ∃ ka kn kc, e = .returned (.slice ka kn kc) ∧ KvAt R W3 (.slice ka kn kc) (l.ks.filter (fun s => !M s.nu)) ∧ (∃ v Ro, TO bm W3 (bm + 1) v Ro (l.ks.filter (fun s => M s.nu))) ∧ Kp (fun x => kv.ownBlock = some x ∨ x = bm + 1) W2 W3 ∧ (Value.slice ka kn kc).ownBlock = kv.ownBlock := by
    rcases h.row.sh with ⟨e1, e2⟩ | ⟨g, c, e1, e2⟩
    · rw [e1, e2]
      refine (del_nil _ W2).mono ?_
      rintro e X ⟨rfl, rfl⟩
      exact ⟨none, 0, 0, rfl, KvAt.nil _ _, ⟨_, _, TO0⟩, Kp.refl _ _, rfl⟩
    · subst e1
      refine (del_any bm bm (bm + 1) g c w f pre cb M l.ks R W2 _ hM (grown_any g2 g) B1 h2.row TO0 hn (by have := h.row.lt g rfl; omega) (h.nk g rfl) (fun x hx => by have := h.low x hx; omega) (by omega) (by omega) ⟨by omega, by have := h.row.lt g rfl; omega⟩).mono ?_
      rintro e X ⟨rfl, q1, q2, q3⟩
      refine ⟨_, _, _, rfl, q1, q2, q3.mono (fun x _ e => e.imp (fun e => by rw [e]; rfl) id), rfl⟩
  have c6 : W2.cell? ⟨b, 6, none⟩ = some kv := h2.blk.cell 6 _ rfl
  have HH := hide (And.intro h (And.intro h2 (And.intro g2 (And.intro sz2 (And.intro hb hbm)))))
  obtain ⟨ka, kn, kc, rfl⟩ : ∃ ka kn kc, kv = .slice ka kn kc := by
    rcases h.row.sh with ⟨e1, e2⟩ | ⟨g, c, e1, e2⟩
    · exact ⟨_, _, _, e1⟩
    · exact ⟨_, _, _, e1⟩
  have hd2 : Calls Try.prog 44 #[.slice ka kn kc, .func (.func 45) #[] #[.pointer (some ⟨bm, 0, none⟩), .pointer (some ⟨bm + 1, 0, none⟩)]] W2 fun e X => ∃ ka2 kn2 kc2 va2 vn vc Ro, e = .returned (.slice ka2 kn2 kc2) ∧ X.cell? ⟨b, 6, none⟩ = some (.slice ka kn kc) ∧ X.frozen? ⟨b, 6, none⟩ = false ∧ (X.setCell ⟨b, 6, none⟩ (.slice ka2 kn2 kc2)).cell? ⟨bm + 1, 0, none⟩ = some (.slice va2 vn vc) ∧ Hid (KvAt R X (.slice ka2 kn2 kc2) (l.ks.filter (fun s => !M s.nu)) ∧ TO bm X (bm + 1) (.slice va2 vn vc) Ro (l.ks.filter (fun s => M s.nu)) ∧ Kp (fun x => (Value.slice ka kn kc).ownBlock = some x ∨ x = bm + 1) W2 X ∧ (Value.slice ka2 kn2 kc2).ownBlock = (Value.slice ka kn kc).ownBlock ∧ Blk X b (l.cs (.slice ka kn kc) q) 63) := by
    refine hd.mono ?_
    rintro e X ⟨ka2, kn2, kc2, rfl, q1, ⟨v, Ro, qT⟩, qK, qO⟩
    have bX : Blk X b (l.cs (.slice ka kn kc) q) 63 := (qK.block b h2.blk.lt (fun e => e.elim (fun e => (h.diff.kb b e).1 rfl) (fun e => by omega))).trans h2.blk
    obtain ⟨va2, vn, vc, rfl⟩ : ∃ va2 vn vc, v = .slice va2 vn vc := by
      rcases qT.row.sh with ⟨e1, -⟩ | ⟨g, c, e1, -⟩
      · exact ⟨_, _, _, e1⟩
      · exact ⟨_, _, _, e1⟩
    exact ⟨ka2, kn2, kc2, va2, vn, vc, Ro, rfl, bX.cell 6 _ rfl, bX.thaw 6, (qT.blk.setO b 6 _ (by omega)).cell 0 _ rfl, q1, qT, qK, qO, bX⟩
  clear h h2 g2 sz2 hb TO0 B1 B2 hM hd
  go_enter Try.func23, Try.ntmps23
  go_upto_region 2 with fail
  rw [← hW2, ← hbm]
  replace hW2 := hide hW2
  clear hbm
  go_wp2_with fail
  refine hd2.mono ?_
  rintro e X ⟨ka2, kn2, kc2, va2, vn, vc, Ro, rfl, x6, f6, oX, FIN⟩
  clear hd2 c6 hn
  go_wp2_with fail
  go_ret
  obtain ⟨h, h2, g2, sz2, hb, hbm⟩ := unhide HH
  obtain ⟨q1, qT, qK, qO, bX⟩ := unhide FIN
  have hdf := h.diff
  have sX := qK.size
  have k2 : Kp (fun x => x = b ∨ (Value.slice ka kn kc).ownBlock = some x) w (X.setCell ⟨b, 6, none⟩ (.slice ka2 kn2 kc2)) := by
    refine Kp.set ⟨qK.os.trans g2.os, qK.tape.trans g2.tape, qK.output.trans g2.output, by omega, fun x hx hn => (qK.block x (by omega) (fun e => ?_)).trans (g2.block x hx (by simp))⟩ b 6 _ (fun _ => .inl rfl)
    rcases e with e | e
    · exact hn (.inr e)
    · omega
  refine ⟨_, Ro, .slice ka2 kn2 kc2, rfl, ?_, ?_, ?_, ?_, qO, k2⟩
  · refine qT.row.kept (fun x hx => set_heap _ _ _ _ _ ?_) (fun x e => set_heap _ _ _ _ _ ?_)
    · have := (qT.rg x hx).1; omega
    · have := (qT.og x e).1; omega
  · intro g e
    rw [set_size]
    have := qT.rg g e
    omega
  · intro g e
    have := qT.og g e
    exact ⟨by omega, this.2.1⟩
  · have hne : ∀ x, x ≠ b → (Value.slice ka kn kc).ownBlock ≠ some x → x < w.heap.size → (X.setCell ⟨b, 6, none⟩ (.slice ka2 kn2 kc2)).heap[x]? = w.heap[x]? := fun x h1 h3 h4 => k2.block x h4 (fun e => e.elim h1 h3)
    have hq : Blk w q _ 79 := h.set.blk
    refine ⟨?_, h.set.kept (hne q (Ne.symm hdf.bq) (fun e => (hdf.kb q e).2.1 rfl) hq.lt) (fun g e => hne g (hdf.vb g e).1 (fun e2 => (hdf.kb g e2).2.2 e) (row_lt h.set.row g e)), ?_, fun g hg => Nat.lt_of_lt_of_le (h.low g hg) k2.size, h.nb, h.nq, fun g e => h.nk g (by rw [← qO]; exact e), h.na⟩
    · exact bX.setC 6 _
    · refine q1.kept (fun x hx => set_heap _ _ _ _ _ ?_) (fun x e => set_heap _ _ _ _ _ ?_)
      · rintro rfl; exact h.nb hx
      · rw [qO] at e
        exact (hdf.kb x e).1
end Go.Proofs.Ytnflbefbgcbdfaa
