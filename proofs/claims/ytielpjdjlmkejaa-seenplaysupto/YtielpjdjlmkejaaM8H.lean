/- E9A, E9B, E9C, one text. -/
import Derived.Test.YtielpjdjlmkejaaM8G
namespace Go.Proofs.Ytielpjdjlmkejaa
open Go.RowKit Go.Shelf Go.Maps
set_option linter.unusedVariables false
set_option maxRecDepth 100000
set_option maxHeartbeats 4000000

/-- A pair: where it lies, what it knows. -/
structure PD where
  b : Nat
  bs : Nat
  p : Nat
  v : Value
  s : Sn
  a : Option Addr
  n : Nat
  c : Nat
  r : Rn
def PrD (B : Nat) (w : World) (k : Nat) : Option PD → Prop
  | none => True
  | some d => Pr B w k d.b d.bs d.p d.v d.s d.a d.n d.c d.r
def FpD : Option PD → Nat → Prop
  | none => fun _ => False
  | some d => Fp d.b d.bs d.p d.v
theorem Pr.up {B : Nat} {w : World} {k k' b bs p n c : Nat} {v : Value} {s : Sn} {a : Option Addr} {r : Rn} (h : Pr B w k b bs p v s a n c r) (hk : k ≤ k') (hl : LkS k' s r) : Pr B w k' b bs p v s a n c r := ⟨h.sn, h.rn, hl, Nat.le_trans h.len hk, h.new⟩
theorem Pr.fp_lt {B : Nat} {w : World} {k b bs p n c : Nat} {v : Value} {s : Sn} {a : Option Addr} {r : Rn} (h : Pr B w k b bs p v s a n c r) {g : Nat} (hg : Fp b bs p v g) : g < w.heap.size := by
  rcases hg with (e | e | e) | e
  · rw [e]; exact h.sn.blk.lt
  · rw [e]; exact Blk.lt (show Blk w bs _ _ from h.sn.set.blk)
  · exact rowS_lt h.sn.set.row e
  · rw [e]; exact h.rn.blk.lt
theorem PrD.lt {B : Nat} {w : World} {k : Nat} {d : Option PD} (h : PrD B w k d) {g : Nat} (hg : FpD d g) : g < w.heap.size := by
  cases d with
  | none => exact hg.elim
  | some d => exact Pr.fp_lt h hg
theorem PrD.new {B : Nat} {w : World} {k : Nat} {d : Option PD} (h : PrD B w k d) {g : Nat} (hg : FpD d g) : B ≤ g := by
  cases d with
  | none => exact hg.elim
  | some d => exact Pr.new h g hg
theorem PrD.keep {B : Nat} {w w' : World} {k : Nat} {d : Option PD} (h : PrD B w k d) {S : Nat → Prop} (kp : Kp S w w') (hS : ∀ g, FpD d g → ¬ S g) (hn : NoI w S) : PrD B w' k d := by
  cases d with
  | none => trivial
  | some d => exact Pr.keep h kp hS hn
theorem PrD.noi {B : Nat} {w : World} {k : Nat} {d : Option PD} (h : PrD B w k d) : NoI w (FpD d) := by
  cases d with
  | none => intro g hg; exact hg.elim
  | some d =>
    rintro g (hg | hg)
    · exact noi_sn (Pr.sn h) g hg
    · exact noi_blk (Pr.rn h).blk (by decide) g hg
/-- By their types: a pair's blocks are neither the owner's own nor those of its list. -/
theorem PrD.ty {B : Nat} {w : World} {k : Nat} {d : Option PD} (h : PrD B w k d) {g : Nat} (hg : FpD d g) {cs : Array Value} {t : TypeId} (hb : Blk w g cs t) : t = 63 ∨ t = 83 ∨ t = 55 ∨ t = 65 := by
  have one : ∀ {g' : Nat} {cs' : Array Value} {t' : TypeId}, Blk w g' cs' t' → g = g' → t = t' := fun h1 e => by
    subst e
    have := (show w.heap[g]? = _ from hb).symm.trans (show w.heap[g]? = _ from h1)
    simp at this
    exact this.2
  cases d with
  | none => exact hg.elim
  | some d =>
    have hp : Pr B w k d.b d.bs d.p d.v d.s d.a d.n d.c d.r := h
    rcases hg with (e | e | e) | e
    · exact .inl (one hp.sn.blk e)
    · exact .inr (.inl (one (show Blk w d.bs _ _ from hp.sn.set.blk) e))
    · right; right; left
      rcases hp.sn.set.row.2 with ⟨e1, -⟩ | ⟨g', c', cur, e1, q1, q2, -⟩
      · rw [e1] at e; cases e
      · rw [e1] at e
        cases e
        exact one (show Blk w _ cur _ from q2) rfl
    · exact .inr (.inr (.inr (one hp.rn.blk e)))
theorem row_ty {w : World} {B n sz : Nat} {e : TypeId} {v : Value} {xs : List Value} (r : w.ownsRow B e sz v n xs) {g : Nat} (hg : v.ownBlock = some g) : B ≤ g ∧ ∃ cs, Blk w g cs e := by
  rcases r.2 with ⟨rfl, -⟩ | ⟨g', c', cur, rfl, q1, q2, -⟩
  · cases hg
  · cases hg; exact ⟨q1, cur, q2⟩

/-- The owner, with what it holds; D: its blocks of runs. -/
structure OS (B : Nat) (w : World) (m O : Nat) (V : Nat → Prop) (D : Nat → Prop) : Prop where
  ex : ∃ (es : List En) (lv : Value) (a1 a2 : Option Addr) (n1 c1 c2 : Nat) (X1 : List Sp), OW B w V O es lv (.slice a1 n1 c1) (.slice a2 n1 c2) ∧ VI w V ∧ w.ownsRow B 55 2 (.slice a1 n1 c1) n1 (cl X1) ∧ w.ownsRow B 55 2 (.slice a2 n1 c2) n1 (cl X1) ∧ (∀ g, (Value.slice a1 n1 c1).ownBlock = some g → ¬ V g) ∧ es.length ≤ m ∧ n1 ≤ 32 ∧ (∀ g, D g ↔ V g ∨ (Value.slice a1 n1 c1).ownBlock = some g ∨ (Value.slice a2 n1 c2).ownBlock = some g)
theorem OS.lt {B : Nat} {w : World} {m O : Nat} {V D : Nat → Prop} (h : OS B w m O V D) {g : Nat} (hg : D g) : g < w.heap.size := by
  obtain ⟨es, lv, a1, a2, n1, c1, c2, X1, ow, vi, r1, r2, hV, few, hn, hD⟩ := h.ex
  rcases (hD g).1 hg with e | e | e
  · exact vi.lt e
  · obtain ⟨-, cs, hb⟩ := row_ty r1 e; exact hb.lt
  · obtain ⟨-, cs, hb⟩ := row_ty r2 e; exact hb.lt
theorem OS.kept {B : Nat} {w w' : World} {m O : Nat} {V D : Nat → Prop} (h : OS B w m O V D) {S : Nat → Prop} (kp : Kp S w w') (hD : ∀ g, D g → ¬ S g) (hT : ∀ g cs t, Blk w g cs t → t = 35 ∨ t = 68 → ¬ S g) : OS B w' m O V D := by
  obtain ⟨es, lv, a1, a2, n1, c1, c2, X1, ow, vi, r1, r2, hV, few, hn, hDD⟩ := h.ex
  refine ⟨es, lv, a1, a2, n1, c1, c2, X1, ow.kept kp.size (fun g hg hl => kp.block g hl ?_), vi.kept (fun g hg hl => kp.block g hl (hD g ((hDD g).2 (.inl hg)))), row_keep r1 (fun g hg hl => kp.block g hl (hD g ((hDD g).2 (.inr (.inl hg))))), row_keep r2 (fun g hg hl => kp.block g hl (hD g ((hDD g).2 (.inr (.inr hg))))), hV, few, hn, hDD⟩
  rcases hg with e | e | e
  · rw [e]; exact hT O _ _ ow.o (.inl rfl)
  · obtain ⟨-, cs, hb⟩ := row_ty ow.row e
    exact hT g cs _ hb (.inr rfl)
  · exact hD g ((hDD g).2 (.inl e))

/-- Both pairs and the owner, behind k and m. -/
structure ST (w0 w : World) (k m O : Nat) (x y : Option PD) (D : Nat → Prop) : Prop where
  px : PrD w0.heap.size w k x
  py : PrD w0.heap.size w k y
  own : ∃ V, OS w0.heap.size w m O V D
  dj : ∀ g, FpD x g ∨ FpD y g → ¬ D g
  ap : ∀ g, FpD x g → ¬ FpD y g
  gr : w0.grownBy w none
  nO : w0.heap.size ≤ O
theorem ST.swap {w0 w : World} {k m O : Nat} {x y : Option PD} {D : Nat → Prop} (h : ST w0 w k m O x y D) : ST w0 w k m O y x D :=
  ⟨h.py, h.px, h.own, fun g hg => h.dj g hg.symm, fun g a b => h.ap g b a, h.gr, h.nO⟩
theorem kp_new {w0 w w' : World} (g : w0.grownBy w none) {S : Nat → Prop} (kp : Kp S w w') (hS : ∀ g, S g → w0.heap.size ≤ g) : w0.grownBy w' none :=
  ⟨kp.os.trans g.os, kp.tape.trans g.tape, kp.output.trans g.output, Nat.le_trans g.size kp.size, fun i hi _ => (kp.block i (Nat.lt_of_lt_of_le hi g.size) (fun h => by have := hS i h; omega)).trans (g.block i hi (by simp))⟩
theorem ST.lt {w0 w : World} {k m O : Nat} {x y : Option PD} {D : Nat → Prop} (h : ST w0 w k m O x y D) {g : Nat} (hg : D g) : g < w.heap.size := by
  obtain ⟨V, o⟩ := h.own
  exact o.lt hg
theorem ST.grown {w0 w w' : World} {k m O : Nat} {x y : Option PD} {D : Nat → Prop} (h : ST w0 w k m O x y D) (g : w.grownBy w' none) : ST w0 w' k m O x y D := by
  have kp : Kp (fun _ => False) w w' := Kp.grown g _
  obtain ⟨V, o⟩ := h.own
  exact ⟨h.px.keep kp (fun _ _ e => e) (fun _ e => e.elim), h.py.keep kp (fun _ _ e => e) (fun _ e => e.elim), ⟨V, o.kept kp (fun _ _ e => e) (fun _ _ _ _ _ e => e)⟩, h.dj, h.ap, h.gr.trans g, h.nO⟩
/-- A call of one pair. -/
theorem ST.pair {w0 w w' : World} {k m O : Nat} {d : PD} {x' y : Option PD} {D : Nat → Prop} (h : ST w0 w k m O (some d) y D) (px : PrD w0.heap.size w' k x') (kp : Kp (FpD (some d)) w w') (hf : ∀ g, FpD x' g → FpD (some d) g ∨ w.heap.size ≤ g) : ST w0 w' k m O x' y D := by
  obtain ⟨V, o⟩ := h.own
  refine ⟨px, h.py.keep kp (fun g hy hx => h.ap g hx hy) h.px.noi, ⟨V, o.kept kp (fun g hD hx => h.dj g (.inl hx) hD) (fun g cs t hb ht hx => ?_)⟩, fun g hg hD => ?_, fun g hx hy => ?_, kp_new h.gr kp (fun g hg => h.px.new hg), h.nO⟩
  · have := h.px.ty hx hb
    rcases ht with rfl | rfl <;> revert this <;> decide
  · rcases hg with hg | hg
    · rcases hf g hg with e | e
      · exact h.dj g (.inl e) hD
      · have := o.lt hD; omega
    · exact h.dj g (.inr hg) hD
  · rcases hf g hx with e | e
    · exact h.ap g e hy
    · have := h.py.lt hy; omega
/-- What came out is held. -/
theorem st_takes {w0 w : World} {k m O : Nat} {x y : Option PD} {D : Nat → Prop} (h : ST w0 w k m O x y D) {a3 a4 : Option Addr} {n3 c3 c4 : Nat} {X3 : List Sp} (r3 : w.ownsRow w0.heap.size 55 2 (.slice a3 n3 c3) n3 (cl X3)) (r4 : w.ownsRow w0.heap.size 55 2 (.slice a4 n3 c4) n3 (cl X3)) (hn3 : n3 ≤ 32) (few : m ≤ 10000000)
    (hr : ∀ g, (Value.slice a3 n3 c3).ownBlock = some g ∨ (Value.slice a4 n3 c4).ownBlock = some g → ¬ D g ∧ ¬ FpD x g ∧ ¬ FpD y g) :
    Calls Try.prog 10 #[ptr O, .slice a3 n3 c3, .slice a4 n3 c4] w fun e w' => e = .returned (.bool true) ∧ ∃ D', ST w0 w' k (m + 2) O x y D' := by
  obtain ⟨V, ⟨es, lv, a1, a2, n1, c1, c2, X1, ow, vi, r1, r2, hV, fw, hn, hDD⟩⟩ := h.own
  refine (takes_any ow vi r1 r2 r3 r4 hV (by omega) (by omega)).mono ?_
  rintro e w' ⟨rfl, es', lv', V', ow', len', vi', hV', kp⟩
  refine ⟨rfl, fun g => V' g ∨ (Value.slice a3 n3 c3).ownBlock = some g ∨ (Value.slice a4 n3 c4).ownBlock = some g, ?_⟩
  have tyO : ∀ {d : Option PD}, PrD w0.heap.size w k d → ∀ g, FpD d g → ¬ (g = O ∨ lv.ownBlock = some g) := fun hp g hg e => by
    rcases e with e | e
    · have := hp.ty hg (by rw [e]; exact ow.o)
      revert this; decide
    · obtain ⟨-, cs, hb⟩ := row_ty ow.row e
      have := hp.ty hg hb
      revert this; decide
  have nS : NoI w (fun x => x = O ∨ lv.ownBlock = some x ∨ (Value.slice a1 n1 c1).ownBlock = some x) := by
    rintro g (e | e | e)
    · exact noi_blk ow.o (by decide) g e
    · exact noi_row ow.row (by decide) g e
    · exact noi_row r1 (by decide) g e
  have nH : ∀ g, (Value.slice a1 n1 c1).ownBlock = some g → D g := fun g e => (hDD g).2 (.inr (.inl e))
  have kS : ∀ {g : Nat}, (Value.slice a3 n3 c3).ownBlock = some g ∨ (Value.slice a4 n3 c4).ownBlock = some g → ¬ (g = O ∨ lv.ownBlock = some g ∨ (Value.slice a1 n1 c1).ownBlock = some g) := fun {g} hg e => by
    have hb : ∃ cs, Blk w g cs 55 := by
      rcases hg with hg | hg
      · exact (row_ty r3 hg).2
      · exact (row_ty r4 hg).2
    obtain ⟨cs, hb⟩ := hb
    rcases e with e | e | e
    · subst e
      exact heap_ne hb ow.o (by decide) rfl
    · obtain ⟨-, cs2, hb2⟩ := row_ty ow.row e
      exact heap_ne hb hb2 (by decide) rfl
    · exact (hr g hg).1 (nH g e)
  have ltR : ∀ {g : Nat}, (Value.slice a3 n3 c3).ownBlock = some g ∨ (Value.slice a4 n3 c4).ownBlock = some g → g < w.heap.size := fun {g} hg => by
    rcases hg with hg | hg
    · obtain ⟨-, cs, hb⟩ := row_ty r3 hg; exact hb.lt
    · obtain ⟨-, cs, hb⟩ := row_ty r4 hg; exact hb.lt
  have inD : ∀ {g : Nat}, V' g → g < w.heap.size → D g := fun {g} hg hl => by
    rcases hV' g hg with e | e | e
    · exact (hDD g).2 (.inl e)
    · exact nH g e
    · omega
  refine ⟨h.px.keep kp (fun g hg e => ?_) nS, h.py.keep kp (fun g hg e => ?_) nS, ⟨V', es', lv', a3, a4, n3, c3, c4, X3, ow', vi', row_keep r3 (fun g hg hl => kp.block g hl (kS (.inl hg))), row_keep r4 (fun g hg hl => kp.block g hl (kS (.inr hg))), fun g hg hv => (hr g (.inl hg)).1 (inD hv (ltR (.inl hg))), by omega, hn3, fun g => Iff.rfl⟩, fun g hg hD => ?_, h.ap, kp_new h.gr kp ?_, h.nO⟩
  · rcases e with e | e | e
    · exact tyO h.px g hg (.inl e)
    · exact tyO h.px g hg (.inr e)
    · exact h.dj g (.inl hg) (nH g e)
  · rcases e with e | e | e
    · exact tyO h.py g hg (.inl e)
    · exact tyO h.py g hg (.inr e)
    · exact h.dj g (.inr hg) (nH g e)
  · rcases hD with hD | hD
    · have hl : g < w.heap.size := by
        rcases hg with hg | hg
        · exact h.px.lt hg
        · exact h.py.lt hg
      exact h.dj g hg (inD hD hl)
    · rcases hg with hg | hg
      · exact (hr g hD).2.1 hg
      · exact (hr g hD).2.2 hg
  · rintro g (e | e | e)
    · rw [e]; exact h.nO
    · exact (row_ty ow.row e).1
    · exact (row_ty r1 e).1
end Go.Proofs.Ytielpjdjlmkejaa

namespace Go.Proofs.Ytielpjdjlmkejaa
open Go.RowKit Go.Shelf Go.Maps
set_option linter.unusedVariables false
set_option maxRecDepth 100000
set_option maxHeartbeats 4000000

theorem To.grown {b bs : Nat} {v : Value} {w w1 w2 : World} {s' : Sn} (t : To b bs v w s' w1) (g : w1.grownBy w2 none) : To b bs v w s' w2 := by
  obtain ⟨v', t1, t2, t3⟩ := t
  exact ⟨v', t1.grown g, t2, t3.trans (Kp.grown g _)⟩
theorem To.kp {b bs p : Nat} {v : Value} {w w1 : World} {s' : Sn} (t : To b bs v w s' w1) : Kp (Fp b bs p v) w w1 := by
  obtain ⟨v', t1, t2, t3⟩ := t
  exact t3.mono (fun g _ e => .inl e)

theorem pr_take2 {B : Nat} {w : World} {k b bs p n c : Nat} {v : Value} {s : Sn} {a : Option Addr} {r : Rn} (h : Pr B w k b bs p v s a n c r) (hB : B ≤ w.heap.size) (hk : k ≤ 1000000000) (now x mark : Int) (el : Bool) :
    Calls Try.prog 13 #[ptr b, .int .i64 now, .int .i64 x, .bool el, .int .i64 mark] w fun e w1 => ∃ z : Bool, e = .returned (.bool z) ∧ Kp (Fp b bs p v) w w1 ∧ Hid (Calls Try.prog 22 #[ptr p, .int .i64 now, .int .i64 x, .bool el, .int .i64 mark] w1 fun e w2 => e = .returned (.bool z) ∧ PrTo B (k + 2) w b bs p v (takeF now x el mark s) (rtookF now x el mark r) w2) := by
  have ok := h.lk.ok
  have hck : r.clock ≤ 1125899906842624 := by have := ok.clock; rw [h.lk.clock]; omega
  have hln := h.len
  rcases lk_take h.lk now x el mark with ⟨f1, f2, lk⟩ | ⟨f1, f2, lk, g1, g2⟩
  · refine (stale_any b bs v s now x mark el w h.sn ok.ok f1).mono ?_
    rintro e w1 ⟨rfl, t⟩
    have t' : To b bs v w (takeF now x el mark s) w1 := by unfold takeF; rw [f1]; exact t
    refine ⟨false, rfl, t'.kp, hide ?_⟩
    refine (rstale_any p n c a r now x mark el w1 (h.to1 t') hck f2).mono ?_
    rintro e w2 ⟨rfl, q1, q2⟩
    refine ⟨rfl, ?_⟩
    unfold rtookF
    rw [if_neg (by rw [f2]; simp)]
    exact h.to2 hB t' q1 q2 lk (by show r.l.length ≤ _; omega)
  · refine (take_any b bs v s now x mark el w h.sn (take_ok ok h.lk.cb (by omega) now x f1) ok.floor.1).mono ?_
    rintro e w1 ⟨rfl, t⟩
    refine ⟨true, by rw [f1], t.kp, hide ?_⟩
    have g := lk_go h.lk now
    have gk := g.ok
    have e1 := g.waits
    have e2 := gk.clock
    have e3 := gk.delay
    have e4 := gk.large
    have e5 := gk.floor
    have e6 := gk.c0
    have e7 := gk.c2
    have e8 := g.cb
    unfold Cb at e8
    have hrl := h.rn.rd.1
    refine (rtake_any p n c a r now x mark el w1 (h.to1 t) hck (rgoF now r) rfl f2 (by omega) g1 g2 (by omega) (by rw [g.clock]; omega) (by rw [g.delay]; omega) (by rw [g.largest]; omega) (by rw [g.c0]; omega) (by rw [g.c2]; omega)).mono ?_
    rintro e w2 ⟨rfl, ⟨a', n', c', q1⟩, q2⟩
    refine ⟨rfl, ?_⟩
    unfold rtookF
    rw [if_pos f2]
    have hl := rtake_len x el mark (rgoF now r)
    exact h.to2 hB t q1 q2 lk (by have : (rgoF now r).l.length = r.l.length := rfl; omega)

theorem pr_forget2 {B : Nat} {w : World} {k b bs p n c : Nat} {v : Value} {s : Sn} {a : Option Addr} {r : Rn} (h : Pr B w k b bs p v s a n c r) (hB : B ≤ w.heap.size) (x : Int) :
    Calls Try.prog 18 #[ptr b, .int .i64 x] w fun e w1 => e = .returned (.tuple #[]) ∧ Kp (Fp b bs p v) w w1 ∧ Hid (Calls Try.prog 28 #[ptr p, .int .i64 x] w1 fun e w2 => e = .returned (.tuple #[]) ∧ PrTo B k w b bs p v (forgetF x s) (rforgetF x r) w2) := by
  have ok := h.lk.ok
  refine (forget_any b bs v s x w h.sn ok.ok (by have := ok.large; omega)).mono ?_
  rintro e w1 ⟨rfl, t⟩
  refine ⟨rfl, t.kp, hide ?_⟩
  refine (rforget_any p n c a r x w1 (h.to1 t)).mono ?_
  rintro e w2 ⟨rfl, ⟨a', n', c', q1⟩, q2⟩
  exact ⟨rfl, h.to2 hB t q1 q2 (lk_forget h.lk x) (Nat.le_trans (rforget_len x r) h.len)⟩

theorem pr_ack2 {B : Nat} {w : World} {k b bs p n c : Nat} {v : Value} {s : Sn} {a : Option Addr} {r : Rn} (h : Pr B w k b bs p v s a n c r) (hB : B ≤ w.heap.size) (hk : k ≤ 1000000000) (now ex : Int) :
    Calls Try.prog 14 #[ptr b, .int .i64 now, .int .i64 ex] w fun e w1 => ∃ (kk d : Int) (m : Bool) (c0 c2 : Int) (X : List Sp) (a1 : Option Addr) (g1 : Nat) (z : Bool), X.length ≤ 32 ∧ e = .returned (.tuple #[.agg (frK kk d m c0 c2 (.slice a1 X.length g1)), .bool z]) ∧ Kp (Fp b bs p v) w w1 ∧
      Hid (∀ w1', w1.grownBy w1' none → Calls Try.prog 26 #[ptr p, .int .i64 now, .int .i64 ex] w1' fun e w2 => ∃ (a2 : Option Addr) (g2 : Nat), e = .returned (.tuple #[.agg (frK kk d m c0 c2 (.slice a2 X.length g2)), .bool z]) ∧ Rows w w2 (.slice a1 X.length g1) (.slice a2 X.length g2) X ∧ (∃ a' n' c', Pr B w2 k b bs p v (ackF now s) a' n' c' (rackF now r)) ∧ Kp (Fp b bs p v) w w2 ∧ Kp (fun g => g = p) w1' w2) := by
  have ok := h.lk.ok
  have g := sok_go ok now
  have hck : r.clock ≤ 1125899906842624 := by have := ok.clock; rw [h.lk.clock]; omega
  have hln := h.len
  have hrl := h.rn.rd.1
  by_cases hL : s.L = []
  · have hl := h.lk.nil.2 hL
    refine (ackT_none b bs v s now ex w h.sn hL).mono ?_
    rintro e w1 ⟨rfl, t⟩
    refine ⟨0, 0, false, 0, 0, [], none, 0, false, by simp, rfl, t.to.kp, hide fun w1' gr => ?_⟩
    have t' := t.to.grown gr
    refine (rack_none p n c a r now ex w1' (h.to1 t') hck hl).mono ?_
    rintro e w2 ⟨rfl, q1, q2⟩
    obtain ⟨_, _, _, _, _, _, p3⟩ := h.to2 hB t' q1 q2 ((lk_go h.lk now)) (by show r.l.length ≤ k; exact hln)
    refine ⟨none, 0, rfl, ⟨rowS_nil _, rowS_nil _, (by intro g e; cases e), (by intro g e; cases e), (by intro g e; cases e)⟩, ⟨a, n, c, ?_⟩, p3, q2⟩
    unfold ackF rackF
    rw [if_pos hL, if_pos hl]
    exact ⟨(t.sn.grown gr).keep q2 (fun x hx e => h.apart (e ▸ hx)), q1, lk_go h.lk now, hln, h.new⟩
  · have hl : r.l ≠ [] := fun e => hL (h.lk.nil.1 e)
    refine (ackT_some b bs v s now ex w h.sn hL ok.ok ⟨ok.came.1, g.came.2, g.clock.2⟩).mono ?_
    rintro e w1 ⟨a1, g1, rfl, h3, h4, t⟩
    refine ⟨2, _, _, _, _, s.L.reverse, a1, g1, true, by have := ok.len; simpa using this, by rw [List.length_reverse]; rfl, t.to.kp, hide fun w1' gr => ?_⟩
    have t' := t.to.grown gr
    have gl := lk_go h.lk now
    have e1 := gl.clock
    have hcm : 0 ≤ r.came ∧ r.came ≤ lat r.clock now ∧ lat r.clock now ≤ 1125899906842624 := by
      rw [show lat r.clock now = (goF now s).clock from e1, h.lk.came]; exact ⟨ok.came.1, g.came.2, g.clock.2⟩
    refine (rack_some p n c a r now ex w1' (h.to1 t') hck hl h.lk.pw h.lk.nums (by omega) hcm (by rw [h.lk.c0]; exact ok.c0) (by rw [h.lk.c2]; exact ok.c2)).mono ?_
    rintro e w2 ⟨a2, g2, rfl, q1, q2, q3, q4⟩
    rw [h.lk.runs] at q1 q2 ⊢
    have h3' : Row w1' (.slice a1 s.L.length g1) s.L.reverse := row_kept h3 (fun x e1 => gr.block x (rowS_lt h3 e1) (by simp))
    have hnp : ∀ x, (Value.slice a1 s.L.length g1).ownBlock = some x → x ≠ p := fun x e1 e2 => by
      have := h4 x e1
      have := h.rn.blk.lt
      omega
    have hl1 : (Value.slice a1 s.L.length g1) = .slice a1 s.L.reverse.length g1 := by rw [List.length_reverse]
    have hl2 : (Value.slice a2 s.L.length g2) = .slice a2 s.L.reverse.length g2 := by rw [List.length_reverse]
    have pp := h.to2 hB t' q3 q4 (lk_rest gl) (by show r.l.length ≤ k; exact hln)
    have sz : w.heap.size ≤ w1'.heap.size := Nat.le_trans t.kp.size gr.size
    refine ⟨a2, g2, ?_, ?_, ⟨a, n, c, ?_⟩, ?_, q4⟩
    · rw [show lat r.clock now = (goF now s).clock from e1, h.lk.came, h.lk.c0, h.lk.c2, List.length_reverse]; rfl
    · rw [← hl1, ← hl2]
      refine ⟨row_kept h3' (fun x e1 => q4.block x (rowS_lt h3' e1) (hnp x e1)), q1, h4, fun x e1 => Nat.le_trans sz (q2 x e1), fun x e1 e2 => ?_⟩
      have := rowS_lt h3' e1
      have := q2 x e2
      omega
    · unfold ackF rackF
      rw [if_neg hL, if_neg hl]
      exact ⟨(t.sn.grown gr).keep q4 (fun x hx e => h.apart (e ▸ hx)), q3, lk_rest gl, hln, h.new⟩
    · obtain ⟨_, _, _, _, _, _, p3⟩ := pp
      exact p3

theorem PrD.up {B : Nat} {w : World} {k k' : Nat} {d : Option PD} (h : PrD B w k d) (hk : k ≤ k') : PrD B w k' d := by
  cases d with
  | none => trivial
  | some d => exact Pr.up h hk ((Pr.lk h).up hk)
theorem ST.up {w0 w : World} {k k' m O : Nat} {x y : Option PD} {D : Nat → Prop} (h : ST w0 w k m O x y D) (hk : k ≤ k') : ST w0 w k' m O x y D := ⟨h.px.up hk, h.py.up hk, h.own, h.dj, h.ap, h.gr, h.nO⟩
/-- What a call of both leaves, beside the rest. -/
theorem ST.prto {w0 w w' : World} {k m O : Nat} {d : PD} {y : Option PD} {D : Nat → Prop} (h : ST w0 w k m O (some d) y D) {k' : Nat} (hk : k ≤ k') {s' : Sn} {r' : Rn} (p : PrTo w0.heap.size k' w d.b d.bs d.p d.v s' r' w') : ∃ d' : PD, d'.b = d.b ∧ d'.p = d.p ∧ ST w0 w' k' m O (some d') y D := by
  obtain ⟨v', a', n', c', p1, p2, p3⟩ := p
  refine ⟨⟨d.b, d.bs, d.p, v', s', a', n', c', r'⟩, rfl, rfl, ?_⟩
  refine (h.up hk).pair p1 p3 ?_
  rintro g ((e | e | e) | e)
  · exact .inl (.inl (.inl e))
  · exact .inl (.inl (.inr (.inl e)))
  · rcases p2 with p2 | p2
    · exact .inl (.inl (.inr (.inr (p2 ▸ e))))
    · exact .inr (p2 g e)
  · exact .inl (.inr e)
/-- Two rows that were made since w. -/
theorem rows_at {w0 w w' : World} {a1 a2 : Option Addr} {n c1 c2 : Nat} {X : List Sp} (hn : X.length = n) (h : Rows w w' (.slice a1 n c1) (.slice a2 n c2) X) (hB : w0.heap.size ≤ w.heap.size) :
    w'.ownsRow w0.heap.size 55 2 (.slice a1 n c1) n (cl X) ∧ w'.ownsRow w0.heap.size 55 2 (.slice a2 n c2) n (cl X) ∧ ∀ g, (Value.slice a1 n c1).ownBlock = some g ∨ (Value.slice a2 n c2).ownBlock = some g → w.heap.size ≤ g := by
  obtain ⟨h1, h2, h3, h4, -⟩ := h
  have up : ∀ {v : Value}, Row w' v X → Fresh w v → w'.ownsRow w0.heap.size 55 2 v n (cl X) := fun {v} r f => by
    unfold Row at r
    rw [hn] at r
    refine ⟨r.1, ?_⟩
    rcases r.2 with e | ⟨g, c, cur, e1, q1, q2⟩
    · exact .inl e
    · exact .inr ⟨g, c, cur, e1, Nat.le_trans hB (f g (by rw [e1]; rfl)), q2⟩
  exact ⟨up h1 h3, up h2 h4, fun g hg => hg.elim (h3 g) (h4 g)⟩
end Go.Proofs.Ytielpjdjlmkejaa

namespace Go.Proofs.Ytielpjdjlmkejaa
open Go.RowKit Go.Shelf Go.Maps
set_option linter.unusedVariables false
set_option maxRecDepth 100000
set_option maxHeartbeats 4000000

abbrev opA (y : OpE) : Array Value := #[.int .i64 y.kind, .bool y.other, .int .i64 y.now, .int .i64 y.number, .bool y.el, .int .i64 y.mark]
theorem OS.up {B : Nat} {w : World} {m m' O : Nat} {V D : Nat → Prop} (h : OS B w m O V D) (hm : m ≤ m') : OS B w m' O V D := by
  obtain ⟨es, lv, a1, a2, n1, c1, c2, X1, ow, vi, r1, r2, hV, few, hn, hD⟩ := h.ex
  exact ⟨es, lv, a1, a2, n1, c1, c2, X1, ow, vi, r1, r2, hV, Nat.le_trans few hm, hn, hD⟩
theorem ST.upm {w0 w : World} {k k' m m' O : Nat} {x y : Option PD} {D : Nat → Prop} (h : ST w0 w k m O x y D) (hk : k ≤ k') (hm : m ≤ m') : ST w0 w k' m' O x y D := by
  obtain ⟨V, o⟩ := h.own
  exact ⟨h.px.up hk, h.py.up hk, ⟨V, o.up hm⟩, h.dj, h.ap, h.gr, h.nO⟩
theorem Blk.sixO {W : World} {g : Nat} {t : TypeId} {v0 v1 v2 v3 v4 v5 : Value} (h : Blk W g #[v0, v1, v2, v3, v4, v5] t) : W.cell? ⟨g, 0, none⟩ = some v0 ∧ W.cell? ⟨g, 2, none⟩ = some v2 ∧ W.cell? ⟨g, 3, none⟩ = some v3 ∧ W.cell? ⟨g, 4, none⟩ = some v4 ∧ W.cell? ⟨g, 5, none⟩ = some v5 :=
  ⟨h.cell 0 _ rfl, h.cell 2 _ rfl, h.cell 3 _ rfl, h.cell 4 _ rfl, h.cell 5 _ rfl⟩
/-- A block of another type stays. -/
theorem kp_blk {B : Nat} {w w' : World} {k g : Nat} {d : Option PD} {cs : Array Value} {t : TypeId} (h : PrD B w k d) (kp : Kp (FpD d) w w') (b : Blk w g cs t) (ht : ¬ (t = 63 ∨ t = 83 ∨ t = 55 ∨ t = 65)) : Blk w' g cs t :=
  (kp.block g b.lt (fun hf => ht (h.ty hf b))).trans b
/-- What step leaves. -/
def StepTo (w0 : World) (k m O : Nat) (d : PD) (y : Option PD) (w' : World) : Prop := ∃ (d' : PD) (D' : Nat → Prop), d'.b = d.b ∧ d'.p = d.p ∧ ST w0 w' (k + 2) (m + 2) O (some d') y D'

theorem step_any {w0 w : World} {k m O : Nat} {d : PD} {y : Option PD} {D : Nat → Prop} (h : ST w0 w k m O (some d) y D) (hk : k ≤ 10000000) (hm : m ≤ 10000000) (x : OpE) (hx : i64B x.kind) :
    Calls Try.prog 9 #[ptr d.b, ptr d.p, .agg (opA x), ptr O] w fun e w' => e = .returned (.bool true) ∧ StepTo w0 k m O d y w' := by
  have PK := pick_any x.kind 6 hx (by decide)
  have H1 := hide (h.grown (World.grownBy_alloc w (.cells (opA x) 37) none))
  have BO := hide (Blk.new w (opA x) 37)
  obtain ⟨oc0, oc2, oc3, oc4, oc5⟩ := (unhide BO).sixO
  have q0 : 0 ≤ pk x.kind 6 ∧ pk x.kind 6 < 6 := by unfold pk; omega
  clear h
  generalize pk x.kind 6 = q at *
  have qq : q = 0 ∨ q = 1 ∨ q = 2 ∨ q = 3 ∨ q = 4 ∨ q = 5 := by omega
  clear q0
  obtain ⟨o, ho⟩ : ∃ o, o = w.heap.size := ⟨_, rfl⟩
  obtain ⟨W1, hW1⟩ : ∃ W1, W1 = w.alloc (.cells (opA x) 37) := ⟨_, rfl⟩
  rw [← hW1] at H1 BO oc0 oc2 oc3 oc4 oc5
  rw [← ho] at BO oc0 oc2 oc3 oc4 oc5
  go_enter Try.func9, Try.ntmps9
  go_upto_region 1 with fail
  rw [← hW1, ← ho]
  clear ho hW1
  go_wp2_with fail
  refine (PK _).mono ?_
  rintro e W1' ⟨rfl, hw⟩
  replace hw := hw.symm
  subst hw
  clear PK
  rcases qq with rfl | rfl | rfl | rfl | rfl | rfl
  · as_aux_lemma =>
    have T := pr_take2 (unhide H1).px (unhide H1).gr.size (by omega) x.now x.number x.mark x.el
    go_wp2_with fail
    refine T.mono ?_
    rintro e W2 ⟨z, rfl, kp, C2⟩
    have B2 := kp_blk (unhide H1).px kp (unhide BO) (by decide)
    clear T oc0 oc2 oc3 oc4 oc5 kp
    obtain ⟨oc0, oc2, oc3, oc4, oc5⟩ := B2.sixO
    go_wp2_with fail
    refine (unhide C2).mono ?_
    rintro e W3 ⟨rfl, pt⟩
    have FIN : Hid (StepTo w0 k m O d y W3) := by
      obtain ⟨d', e1, e2, st⟩ := (unhide H1).prto (Nat.le_add_right k 2) pt
      exact ⟨d', D, e1, e2, st.upm (Nat.le_refl _) (Nat.le_add_right m 2)⟩
    clear C2 pt H1 BO B2
    go_wp2_with fail
    go_ret
    exact ⟨by cases z <;> rfl, unhide FIN⟩
  · as_aux_lemma =>
    have T := pr_fresh (unhide H1).px x.number
    go_wp2_with fail
    refine T.mono ?_
    rintro e W2 ⟨rfl, g2, C2⟩
    have B2 := (unhide BO).grown g2
    have FIN : Hid (StepTo w0 k m O d y W2) := ⟨d, D, rfl, rfl, ((unhide H1).grown g2).upm (Nat.le_add_right k 2) (Nat.le_add_right m 2)⟩
    clear T oc0 oc2 oc3 oc4 oc5 g2
    obtain ⟨oc0, oc2, oc3, oc4, oc5⟩ := B2.sixO
    go_wp2_with fail
    refine (unhide C2).mono ?_
    rintro e W3 ⟨rfl, hw⟩
    replace hw := hw.symm
    subst hw
    clear C2 H1 BO B2
    generalize freshF d.s x.number = z at *
    go_wp2_with fail
    go_ret
    exact ⟨by cases z <;> rfl, unhide FIN⟩
  · as_aux_lemma =>
    have pr : Pr w0.heap.size W1 k d.b d.bs d.p d.v d.s d.a d.n d.c d.r := (unhide H1).px
    have D1 := due_any d.b d.bs d.v d.s W1 pr.sn
    have D2 := any_any d.b d.bs d.v d.s W1 pr.sn
    have D3 := largest_any d.b d.bs d.v d.s W1 pr.sn
    have D4 := floor_any d.b d.bs d.v d.s W1 pr.sn
    obtain ⟨-, r4, r5, -, r11, r12⟩ := pr.rn.cells
    rw [pr.lk.floor] at r4
    rw [pr.lk.largest] at r5
    rw [pr.lk.due] at r11
    rw [pr.lk.any] at r12
    have FIN : Hid (StepTo w0 k m O d y W1) := ⟨d, D, rfl, rfl, (unhide H1).upm (Nat.le_add_right k 2) (Nat.le_add_right m 2)⟩
    clear pr H1 BO
    generalize d.s.floor = fl at *
    generalize d.s.largest = la at *
    generalize d.s.due = du at *
    generalize d.s.any = an at *
    go_wp2_with fail
    refine D1.mono ?_
    rintro e W2 ⟨rfl, hw⟩
    replace hw := hw.symm
    subst hw
    go_wp2_with fail
    refine D2.mono ?_
    rintro e W2 ⟨rfl, hw⟩
    replace hw := hw.symm
    subst hw
    go_wp2_with fail
    refine D3.mono ?_
    rintro e W2 ⟨rfl, hw⟩
    replace hw := hw.symm
    subst hw
    go_wp2_with fail
    refine D4.mono ?_
    rintro e W2 ⟨rfl, hw⟩
    replace hw := hw.symm
    subst hw
    go_wp2_with fail
    go_ret
    exact ⟨by cases an <;> simp, unhide FIN⟩
  · as_aux_lemma =>
    have T := pr_ack2 (unhide H1).px (unhide H1).gr.size (by omega) x.now x.mark
    go_wp2_with fail
    refine T.mono ?_
    rintro e W2 ⟨kk, dd, mm, c0, c2, X, a1, g1, z, hX, rfl, kp, C2⟩
    have B2 := kp_blk (unhide H1).px kp (unhide BO) (by decide)
    obtain ⟨W2a, hW2a⟩ : ∃ W, W = W2.alloc (.cells (frK kk dd mm c0 c2 (.slice a1 X.length g1)) 48) := ⟨_, rfl⟩
    have g2 : W2.grownBy W2a none := by rw [hW2a]; exact World.grownBy_alloc _ _ _
    have BF1 : Blk W2a W2.heap.size (frK kk dd mm c0 c2 (.slice a1 X.length g1)) 48 := by rw [hW2a]; exact Blk.new _ _ _
    have B2' := B2.grown g2
    have C3 := unhide C2 W2a g2
    have hp : W2.heap.size ≠ d.p := by have := (Pr.rn (unhide H1).px).blk.lt; have := kp.size; omega
    clear T oc0 oc2 oc3 oc4 oc5 kp C2 B2 g2
    obtain ⟨oc0, oc2, oc3, oc4, oc5⟩ := B2'.sixO
    obtain ⟨f1, hf1⟩ : ∃ f1, f1 = W2.heap.size := ⟨_, rfl⟩
    rw [← hf1] at BF1 hp
    go_upto_region 18 with (refine wpList_store_row rfl _ _ _ rfl W2.heap.size (frK kk dd mm c0 c2 (.slice a1 X.length g1)) rfl rfl 48 _ (Blk.new W2 fr0 48) Try.sizeFr rfl (by simp [frK, Value.oneCell']) ?_; rw [World.setRow_alloc_new])
    rw [← hW2a, ← hf1]
    clear hW2a hf1
    go_wp2_with fail
    refine C3.mono ?_
    rintro e W3 ⟨a2, g2, rfl, rows, ⟨a', n', c', pr'⟩, kp3, kpp⟩
    have BF1a : Blk W3 f1 (frK kk dd mm c0 c2 (.slice a1 X.length g1)) 48 := (kpp.block f1 BF1.lt hp).trans BF1
    have st3 : ST w0 W3 k m O (some ⟨d.b, d.bs, d.p, d.v, ackF x.now d.s, a', n', c', rackF x.now d.r⟩) y D := (unhide H1).pair pr' kp3 (fun g hg => .inl hg)
    obtain ⟨W3a, hW3a⟩ : ∃ W, W = W3.alloc (.cells (frK kk dd mm c0 c2 (.slice a2 X.length g2)) 48) := ⟨_, rfl⟩
    have g3 : W3.grownBy W3a none := by rw [hW3a]; exact World.grownBy_alloc _ _ _
    have BF2 : Blk W3a W3.heap.size (frK kk dd mm c0 c2 (.slice a2 X.length g2)) 48 := by rw [hW3a]; exact Blk.new _ _ _
    have BF1b := BF1a.grown g3
    have PL := plain_same kk dd c0 c2 mm (.slice a1 X.length g1) (.slice a2 X.length g2) W3a
    obtain ⟨r3, r4, fr⟩ := rows_at rfl rows (unhide H1).gr.size
    have TK := hide (fun (W4 : World) (g4 : W3a.grownBy W4 none) => st_takes ((st3.grown g3).grown g4) (trow_kept (trow_kept r3 g3) g4) (trow_kept (trow_kept r4 g3) g4) hX hm (fun g hg => by
      have f := fr g hg
      refine ⟨fun e => by have := (unhide H1).lt e; omega, fun e => ?_, fun e => by have := (unhide H1).py.lt e; omega⟩
      have : g < W1.heap.size := (unhide H1).px.lt (show FpD (some d) g from e)
      omega))
    have FB := hide (And.intro BF1b BF2)
    obtain ⟨f2, hf2⟩ : ∃ f2, f2 = W3.heap.size := ⟨_, rfl⟩
    rw [← hf2] at BF2 FB
    have f0 := BF1b.cell 0 _ rfl
    have f1c := BF1b.cell 1 _ rfl
    have f2 := BF1b.cell 2 _ rfl
    have f3 := BF1b.cell 3 _ rfl
    have f4 := BF1b.cell 4 _ rfl
    have f5 := BF1b.cell 5 _ rfl
    have f6 := BF1b.cell 6 _ rfl
    have f7 := BF1b.cell 7 _ rfl
    have f8 := BF1b.cell 8 _ rfl
    have f9 := BF1b.cell 9 _ rfl
    have f10 := BF1b.cell 10 _ rfl
    have f11 := BF1b.cell 11 _ rfl
    have f12 := BF1b.cell 12 _ rfl
    have f13 := BF1b.cell 13 _ rfl
    have f14 := BF1b.cell 14 _ rfl
    have f15 := BF1b.cell 15 _ rfl
    have f16 := BF1b.cell 16 _ rfl
    have h0 := BF2.cell 0 _ rfl
    have h1 := BF2.cell 1 _ rfl
    have h2 := BF2.cell 2 _ rfl
    have h3 := BF2.cell 3 _ rfl
    have h4 := BF2.cell 4 _ rfl
    have h5 := BF2.cell 5 _ rfl
    have h6 := BF2.cell 6 _ rfl
    have h7 := BF2.cell 7 _ rfl
    have h8 := BF2.cell 8 _ rfl
    have h9 := BF2.cell 9 _ rfl
    have h10 := BF2.cell 10 _ rfl
    have h11 := BF2.cell 11 _ rfl
    have h12 := BF2.cell 12 _ rfl
    have h13 := BF2.cell 13 _ rfl
    have h14 := BF2.cell 14 _ rfl
    have h15 := BF2.cell 15 _ rfl
    have h16 := BF2.cell 16 _ rfl
    clear C3 rows pr' kp3 kpp BF1 BF1a st3 g3 BF1b BF2 r3 r4 fr H1 BO B2' oc0 oc2 oc3 oc4 oc5 hp
    go_upto_region 19 with (refine wpList_store_row rfl _ _ _ rfl W3.heap.size (frK kk dd mm c0 c2 (.slice a2 X.length g2)) rfl rfl 48 _ (Blk.new W3 fr0 48) Try.sizeFr rfl (by simp [frK, Value.oneCell']) ?_; rw [World.setRow_alloc_new])
    rw [← hW3a, ← hf2]
    clear hW3a hf2
    go_wp2_with fail
    refine PL.mono ?_
    rintro e W4 ⟨rfl, g4⟩
    have T4 := unhide TK W4 g4
    clear PL TK f0 f1c f2 f3 f4 f5 f6 f7 f8 f9 f10 f11 f12 f13 f14 f15 f16 h0 h1 h2 h3 h4 h5 h6 h7 h8 h9 h10 h11 h12 h13 h14 h15 h16
    have f12 := ((unhide FB).1.grown g4).cell 12 _ rfl
    have h12 := ((unhide FB).2.grown g4).cell 12 _ rfl
    clear g4 FB
    go_wp2_with fail
    refine T4.mono ?_
    rintro e W5 ⟨rfl, D', st⟩
    have FIN : Hid (StepTo w0 k m O d y W5) := ⟨⟨d.b, d.bs, d.p, d.v, ackF x.now d.s, a', n', c', rackF x.now d.r⟩, D', rfl, rfl, st.upm (Nat.le_add_right k 2) (Nat.le_refl _)⟩
    clear T4 st f12 h12
    go_wp2_with fail
    go_ret
    exact ⟨by cases z <;> rfl, unhide FIN⟩
  · as_aux_lemma =>
    have T := pr_forget2 (unhide H1).px (unhide H1).gr.size x.number
    go_wp2_with fail
    refine T.mono ?_
    rintro e W2 ⟨rfl, kp, C2⟩
    have B2 := kp_blk (unhide H1).px kp (unhide BO) (by decide)
    clear T oc0 oc2 oc3 oc4 oc5 kp
    obtain ⟨oc0, oc2, oc3, oc4, oc5⟩ := B2.sixO
    go_wp2_with fail
    refine (unhide C2).mono ?_
    rintro e W3 ⟨rfl, pt⟩
    have FIN : Hid (StepTo w0 k m O d y W3) := by
      obtain ⟨d', e1, e2, st⟩ := (unhide H1).prto (Nat.le_refl k) pt
      exact ⟨d', D, e1, e2, st.upm (Nat.le_add_right k 2) (Nat.le_add_right m 2)⟩
    clear C2 pt H1 BO B2
    go_wp2_with fail
    go_ret
    exact ⟨rfl, unhide FIN⟩
  · as_aux_lemma =>
    have T := pr_runs (unhide H1).px (by omega)
    go_wp2_with fail
    refine T.mono ?_
    rintro e W2 ⟨a1, c1, rfl, C2⟩
    clear T oc0 oc2 oc3 oc4 oc5
    go_wp2_with fail
    refine (unhide C2).mono ?_
    rintro e W3 ⟨a2, c2, rfl, rows, g3⟩
    obtain ⟨r3, r4, fr⟩ := rows_at rfl rows (unhide H1).gr.size
    have ln : d.s.L.length ≤ 32 := (Pr.lk (unhide H1).px).ok.len
    have TK := st_takes ((unhide H1).grown g3) r3 r4 ln hm (fun g hg => by
      have f := fr g hg
      exact ⟨fun e => by have := (unhide H1).lt e; omega, fun e => by have := (unhide H1).px.lt e; omega, fun e => by have := (unhide H1).py.lt e; omega⟩)
    clear C2 rows g3 r3 r4 fr H1 BO
    go_wp2_with fail
    refine TK.mono ?_
    rintro e W4 ⟨rfl, D', st⟩
    have FIN : Hid (StepTo w0 k m O d y W4) := ⟨d, D', rfl, rfl, st.upm (Nat.le_add_right k 2) (Nat.le_refl _)⟩
    clear TK st
    go_wp2_with fail
    go_ret
    exact ⟨rfl, unhide FIN⟩
end Go.Proofs.Ytielpjdjlmkejaa
