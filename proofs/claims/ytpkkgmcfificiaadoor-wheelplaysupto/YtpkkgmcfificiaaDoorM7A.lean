/- D7V, D7W, D7X, one text. -/
import Derived.Test.YtpkkgmcfificiaaDoorD7U
import Derived.Test.YtpkkgmcfificiaaDoorM7C
namespace Go.Proofs.YtpkkgmcfificiaaDoor
open Go.RowKit Go.Shelf Go.Maps
set_option linter.unusedVariables false
set_option maxRecDepth 100000
set_option maxHeartbeats 1000000

/-- The owner, with what it holds; D: its blocks. -/
structure OS (B : Nat) (w : World) (m O : Nat) (D : Nat → Prop) : Prop where
  ex : ∃ (V : Nat → Prop) (es : List En) (lv : Value) (a1 a2 : Option Addr) (n1 c1 c2 : Nat) (X1 : List Int), OW B w V O es lv (.slice a1 n1 c1) (.slice a2 n1 c2) ∧ VI w V ∧ w.ownsRow B 3 1 (.slice a1 n1 c1) n1 (intsV X1) ∧ w.ownsRow B 3 1 (.slice a2 n1 c2) n1 (intsV X1) ∧ (∀ g, (Value.slice a1 n1 c1).ownBlock = some g → ¬ V g) ∧ es.length ≤ m ∧ n1 ≤ 4096 ∧ ∀ g, (g = O ∨ lv.ownBlock = some g ∨ V g ∨ (Value.slice a1 n1 c1).ownBlock = some g ∨ (Value.slice a2 n1 c2).ownBlock = some g) → D g
  lt : ∀ g, D g → B ≤ g ∧ g < w.heap.size
theorem OS.kept {B : Nat} {w w' : World} {m O : Nat} {D S : Nat → Prop} (h : OS B w m O D) (k : Kp S w w') (hD : ∀ g, D g → ¬ S g) : OS B w' m O D := by
  obtain ⟨V, es, lv, a1, a2, n1, c1, c2, X1, ow, vi, r1, r2, hV, few, hn, hDD⟩ := h.ex
  exact ⟨⟨V, es, lv, a1, a2, n1, c1, c2, X1, ow.kept k.size (fun g hg hl => k.block g hl (hD g (hDD g (hg.elim .inl (fun e => e.elim (fun e => .inr (.inl e)) (fun e => .inr (.inr (.inl e)))))))), vi.kept (fun g hg hl => k.block g hl (hD g (hDD g (.inr (.inr (.inl hg)))))), row_keep r1 (fun g hg hl => k.block g hl (hD g (hDD g (.inr (.inr (.inr (.inl hg))))))), row_keep r2 (fun g hg hl => k.block g hl (hD g (hDD g (.inr (.inr (.inr (.inr hg))))))), hV, few, hn, hDD⟩, fun g hg => ⟨(h.lt g hg).1, Nat.lt_of_lt_of_le (h.lt g hg).2 k.size⟩⟩
theorem OS.grown {B : Nat} {w w' : World} {m O : Nat} {D : Nat → Prop} (h : OS B w m O D) (g : w.grownBy w' none) : OS B w' m O D := h.kept (Kp.grown g (fun _ => False)) (fun _ _ e => e)

theorem os_takes {B : Nat} {w : World} {m O : Nat} {D : Nat → Prop} (h : OS B w m O D) {a3 a4 : Option Addr} {n3 c3 c4 : Nat} {X3 : List Int} (r3 : w.ownsRow B 3 1 (.slice a3 n3 c3) n3 (intsV X3)) (r4 : w.ownsRow B 3 1 (.slice a4 n3 c4) n3 (intsV X3)) (hn3 : n3 ≤ 4096) (few : m ≤ 10000000)
    (hr : ∀ g, (Value.slice a3 n3 c3).ownBlock = some g ∨ (Value.slice a4 n3 c4).ownBlock = some g → ¬ D g) :
    Calls Tryd.prog 11 #[ptr O, .slice a3 n3 c3, .slice a4 n3 c4] w fun e w' => e = .returned (.bool true) ∧ ∃ D', OS B w' (m + 2) O D' ∧ Kp D w w' ∧ ∀ g, D' g → D g ∨ ((Value.slice a3 n3 c3).ownBlock = some g ∨ (Value.slice a4 n3 c4).ownBlock = some g) ∨ w.heap.size ≤ g := by
  obtain ⟨V, es, lv, a1, a2, n1, c1, c2, X1, ow, vi, r1, r2, hV, fw, hn, hDD⟩ := h.ex
  refine (takes_any ow vi r1 r2 r3 r4 hV (by omega) (by omega)).mono ?_
  rintro e w' ⟨rfl, es', lv', V', ow', len', vi', hV', kp, lvn⟩
  have kD : Kp D w w' := kp.mono (fun g _ hg => hDD g (by
    rcases hg with e | e | e
    · exact .inl e
    · exact .inr (.inl e)
    · exact .inr (.inr (.inr (.inl e)))))
  have sz := kp.size
  have B0 := ow.hB
  have l3 := r3.lt
  have l4 := r4.lt
  have r3' := row_keep r3 (fun g hg hl => kD.block g hl (hr g (.inl hg)))
  have r4' := row_keep r4 (fun g hg hl => kD.block g hl (hr g (.inr hg)))
  refine ⟨rfl, fun g => D g ∨ ((Value.slice a3 n3 c3).ownBlock = some g ∨ (Value.slice a4 n3 c4).ownBlock = some g) ∨ (w.heap.size ≤ g ∧ g < w'.heap.size), ⟨⟨V', es', lv', a3, a4, n3, c3, c4, X3, ow', vi', r3', r4', fun g hg hv => ?_, by omega, hn3, fun g hg => ?_⟩, fun g hg => ?_⟩, kD, fun g hg => hg.imp id (fun e => e.imp id (fun e => e.1))⟩
  · have lg := (l3 g hg).2
    rcases hV' g hv with e | e | e
    · exact hr g (.inl hg) (hDD g (.inr (.inr (.inl e))))
    · exact hr g (.inl hg) (hDD g (.inr (.inr (.inr (.inl e)))))
    · omega
  · rcases hg with e | e | e | e | e
    · exact .inl (hDD g (.inl e))
    · rcases lvn g e with e2 | e2
      · exact .inl (hDD g (.inr (.inl e2)))
      · exact .inr (.inr ⟨e2, (ow'.row.lt g e).2⟩)
    · rcases hV' g e with e2 | e2 | e2
      · exact .inl (hDD g (.inr (.inr (.inl e2))))
      · exact .inl (hDD g (.inr (.inr (.inr (.inl e2)))))
      · exact .inr (.inr ⟨e2, vi'.lt e⟩)
    · exact .inr (.inl (.inl e))
    · exact .inr (.inl (.inr e))
  · rcases hg with e | (e | e) | e
    · exact ⟨(h.lt g e).1, Nat.lt_of_lt_of_le (h.lt g e).2 sz⟩
    · have := l3 g e; omega
    · have := l4 g e; omega
    · omega

/-- One of two pairs: the wheel at W, the document's at R. -/
structure PX where
  W : Nat
  R : Nat
  c : Nat
  T : List Tm
/-- Both pairs and the owner, behind m lists. -/
structure ST (w0 w : World) (m O : Nat) (p q : PX) : Prop where
  ex : ∃ U1 U2 D : Nat → Prop, PW w0.heap.size w U1 p.W p.R p.c p.T ∧ PW w0.heap.size w U2 q.W q.R q.c q.T ∧ OS w0.heap.size w m O D ∧ (∀ g, U1 g → ¬ U2 g) ∧ (∀ g, U1 g → ¬ D g) ∧ ∀ g, U2 g → ¬ D g
  gr : w0.grownBy w none
  tb : Tb w
theorem ST.swap {w0 w : World} {m O : Nat} {p q : PX} (h : ST w0 w m O p q) : ST w0 w m O q p := by
  obtain ⟨U1, U2, D, p1, p2, o, d12, d1, d2⟩ := h.ex
  exact ⟨⟨U2, U1, D, p2, p1, o, fun g a b => d12 g b a, d2, d1⟩, h.gr, h.tb⟩
theorem ST.grown {w0 w w' : World} {m O : Nat} {p q : PX} (h : ST w0 w m O p q) (g : w.grownBy w' none) : ST w0 w' m O p q := by
  obtain ⟨U1, U2, D, p1, p2, o, d12, d1, d2⟩ := h.ex
  have k : Kp (fun _ => False) w w' := Kp.grown g _
  exact ⟨⟨U1, U2, D, p1.other k (fun _ _ e => e), p2.other k (fun _ _ e => e), o.grown g, d12, d1, d2⟩, h.gr.trans g, h.tb.kept (g.block 0 h.tb.lt (by simp))⟩
theorem kp_new {w0 w w' : World} (g : w0.grownBy w none) {S : Nat → Prop} (kp : Kp S w w') (hS : ∀ g, S g → w0.heap.size ≤ g) : w0.grownBy w' none :=
  ⟨kp.os.trans g.os, kp.tape.trans g.tape, kp.output.trans g.output, Nat.le_trans g.size kp.size, fun i hi _ => (kp.block i (Nat.lt_of_lt_of_le hi g.size) (fun h => by have := hS i h; omega)).trans (g.block i hi (by simp))⟩
/-- A call of the first pair. -/
theorem st_pair {w0 w w' : World} {m O : Nat} {p q p' : PX} {U1 U2 D U' : Nat → Prop} (h0 : 0 < w0.heap.size) (gr : w0.grownBy w none) (tb : Tb w) (p1 : PW w0.heap.size w U1 p.W p.R p.c p.T) (p2 : PW w0.heap.size w U2 q.W q.R q.c q.T) (o : OS w0.heap.size w m O D) (d12 : ∀ g, U1 g → ¬ U2 g) (d1 : ∀ g, U1 g → ¬ D g) (d2 : ∀ g, U2 g → ¬ D g) (n1 : PW w0.heap.size w' U' p'.W p'.R p'.c p'.T) (s : St w w' U1 U') : ST w0 w' m O p' q := by
  refine ⟨⟨U', U2, D, n1, p2.other s.kp (fun g a b => d12 g b a), o.kept s.kp (fun g a b => d1 g b a), fun g a b => ?_, fun g a b => ?_, d2⟩, kp_new gr s.kp (fun g hg => (p1.lt g hg).1), tb.kept (s.kp.block 0 tb.lt (fun e => by have := (p1.lt 0 e).1; omega))⟩
  · rcases s.dn g a with e | e
    · exact d12 g e b
    · have := (p2.lt g b).2; omega
  · rcases s.dn g a with e | e
    · exact d1 g e b
    · have := (o.lt g b).2; omega
end Go.Proofs.YtpkkgmcfificiaaDoor

namespace Go.Proofs.YtpkkgmcfificiaaDoor
open Go.RowKit Go.Shelf Go.Maps
set_option linter.unusedVariables false
set_option maxRecDepth 100000
set_option maxHeartbeats 2000000

theorem OS.more {B : Nat} {w : World} {m m' O : Nat} {D : Nat → Prop} (h : OS B w m O D) (hm : m ≤ m') : OS B w m' O D := by
  obtain ⟨V, es, lv, a1, a2, n1, c1, c2, X1, ow, vi, r1, r2, hV, few, hn, hDD⟩ := h.ex
  exact ⟨⟨V, es, lv, a1, a2, n1, c1, c2, X1, ow, vi, r1, r2, hV, by omega, hn, hDD⟩, h.lt⟩
theorem ST.more {w0 w : World} {m m' O : Nat} {p q : PX} (h : ST w0 w m O p q) (hm : m ≤ m') : ST w0 w m' O p q := by
  obtain ⟨U1, U2, D, p1, p2, o, d⟩ := h.ex
  exact ⟨⟨U1, U2, D, p1, p2, o.more hm, d⟩, h.gr, h.tb⟩

/-- What gives promises. -/
def GivesOk : Prop := ∀ {B : Nat} {w : World} {U : Nat → Prop} {W R c : Nat} {T : List Tm}, PW B w U W R c T → Tb w → 0 < B → ∀ x : OpD, x.Ok →
    Calls Tryd.prog 28 #[ptr W, ptr R, .agg #[.int .i64 x.kind, .bool x.other, .int .i64 x.id, .int .i64 x.at_]] w fun e w' => e = .returned (.bool true) ∧ ∃ U' T', PW B w' U' W R c T' ∧ St w w' U U'

/-- What step leaves. -/
def StepTo (w0 : World) (m O : Nat) (p q : PX) (e : Ending) (w' : World) : Prop := e = .returned (.bool true) ∧ ∃ p' : PX, p'.W = p.W ∧ p'.R = p.R ∧ ST w0 w' (m + 2) O p' q

/-- Advance, both, and what came out is held. -/
theorem st_adv {w0 w : World} {m O : Nat} {p q : PX} {U1 U2 D : Nat → Prop} (h0 : 0 < w0.heap.size) (gr : w0.grownBy w none) (tb : Tb w) (p1 : PW w0.heap.size w U1 p.W p.R p.c p.T) (p2 : PW w0.heap.size w U2 q.W q.R q.c q.T) (o : OS w0.heap.size w m O D) (d12 : ∀ g, U1 g → ¬ U2 g) (d1 : ∀ g, U1 g → ¬ D g) (d2 : ∀ g, U2 g → ¬ D g) (few : m ≤ 10000000) (now : Int) :
    Calls Tryd.prog 13 #[ptr p.W, .int .i64 now] w fun e w1 => ∃ (a1 : Option Addr) (n c1 : Nat), e = .returned (.slice a1 n c1) ∧ Kp U1 w w1 ∧
      Hid (Calls Tryd.prog 14 #[ptr p.R, .int .i64 now] w1 fun e w2 => ∃ (a2 : Option Addr) (c2 : Nat), e = .returned (.slice a2 n c2) ∧
        Hid (Calls Tryd.prog 11 #[ptr O, .slice a1 n c1, .slice a2 n c2] w2 (StepTo w0 m O p q))) := by
  refine (pw_adw p1 tb now).mono ?_
  rintro e w1 ⟨a1, n, c1, rfl, hm, hn4, r1, k1, ADV⟩
  refine ⟨a1, n, c1, rfl, k1, ?_⟩
  refine (unhide ADV).mono ?_
  rintro e w2 ⟨a2, c2, rfl, r2, k2, pw2⟩
  refine ⟨a2, c2, rfl, ?_⟩
  have z0 := gr.size
  have z1 := k1.size
  have z2 := k2.size
  have l1 := r1.lt
  have l2 := r2.lt
  have k12 := k1.trans k2
  have r1' : w2.ownsRow w0.heap.size 3 1 (.slice a1 n c1) n (intsV (idI (dueT p.T (adv p.c now)))) := by
    have q := row_keep r1 (fun g hg hl => k2.block g hl (fun hu => by have := (p1.lt g hu).2; have := (l1 g hg).1; omega))
    refine ⟨q.1, q.2.imp id (fun ⟨g, cap, cur, e, b, r⟩ => ⟨g, cap, cur, e, by omega, r⟩)⟩
  have r2' : w2.ownsRow w0.heap.size 3 1 (.slice a2 n c2) n (intsV (idI (dueT p.T (adv p.c now)))) := ⟨r2.1, r2.2.imp id (fun ⟨g, cap, cur, e, b, r⟩ => ⟨g, cap, cur, e, by omega, r⟩)⟩
  have o2 := o.kept k12 (fun g a b => d1 g b a)
  have new : ∀ g, (Value.slice a1 n c1).ownBlock = some g ∨ (Value.slice a2 n c2).ownBlock = some g → w.heap.size ≤ g ∧ g < w2.heap.size := fun g hg => by
    rcases hg with e | e
    · have := l1 g e; omega
    · have := l2 g e; omega
  refine (os_takes o2 r1' r2' hn4 few (fun g hg hD => by have := (o.lt g hD).2; have := (new g hg).1; omega)).mono ?_
  rintro e w3 ⟨rfl, D', o3, k3, dn⟩
  have dU1 : ∀ g, U1 g → ¬ D' g := fun g hu hd => by
    have := (p1.lt g hu).2
    rcases dn g hd with e | e | e
    · exact d1 g hu e
    · have := (new g e).1; omega
    · omega
  have dU2 : ∀ g, U2 g → ¬ D' g := fun g hu hd => by
    have := (p2.lt g hu).2
    rcases dn g hd with e | e | e
    · exact d2 g hu e
    · have := (new g e).1; omega
    · omega
  have gr2 := kp_new gr k12 (fun g hg => (p1.lt g hg).1)
  refine ⟨rfl, ⟨p.W, p.R, adv p.c now, lateT p.T (adv p.c now)⟩, rfl, rfl, ⟨U1, U2, D', pw2.other k3 d1, (p2.other k12 (fun g a b => d12 g b a)).other k3 d2, o3, d12, dU1, dU2⟩, kp_new gr2 k3 (fun g hg => (o.lt g hg).1), ?_⟩
  refine tb.kept ((k3.block 0 (by have := tb.lt; omega) (fun e => by have := (o.lt 0 e).1; omega)).trans (k12.block 0 tb.lt (fun e => by have := (p1.lt 0 e).1; omega)))

theorem step_any (hgv : GivesOk) {w0 w : World} {m O : Nat} {p q : PX} (h : ST w0 w m O p q) (h0 : 0 < w0.heap.size) (x : OpD) (ok : x.Ok) (few : m ≤ 10000000) :
    Calls Tryd.prog 10 #[ptr p.W, ptr p.R, .agg #[.int .i64 x.kind, .bool x.other, .int .i64 x.id, .int .i64 x.at_], ptr O] w (StepTo w0 m O p q) := by
  obtain ⟨U1, U2, D, p1, p2, o, d12, d1, d2⟩ := h.ex
  have gA := World.grownBy_alloc w (.cells #[.int .i64 x.kind, .bool x.other, .int .i64 x.id, .int .i64 x.at_] 34) none
  have bx := Blk.new w #[.int .i64 x.kind, .bool x.other, .int .i64 x.id, .int .i64 x.at_] 34
  have kA : Kp (fun _ => False) w (w.alloc (.cells #[.int .i64 x.kind, .bool x.other, .int .i64 x.id, .int .i64 x.at_] 34)) := Kp.grown gA _
  have nb : ¬ U1 w.heap.size := fun e => by have := (p1.lt _ e).2; omega
  have q1 := p1.other kA (fun _ _ e => e)
  have q2 := p2.other kA (fun _ _ e => e)
  have qo := o.grown gA
  have gr := h.gr.trans gA
  have tb : Tb (w.alloc (.cells #[.int .i64 x.kind, .bool x.other, .int .i64 x.id, .int .i64 x.at_] 34)) := h.tb.kept (gA.block 0 h.tb.lt (by simp))
  have hs := h.grown gA
  have pc := fun X => pick_any x.kind 6 ok.k (by omega) X
  have p0 : 0 ≤ pk x.kind 6 := Int.emod_nonneg _ (by omega)
  have p6 : pk x.kind 6 < 6 := Int.emod_lt_of_pos _ (by omega)
  have c0 := bx.cell 0 (.int .i64 x.kind) rfl
  have c1 := bx.cell 1 (.bool x.other) rfl
  have c2 := bx.cell 2 (.int .i64 x.id) rfl
  have c3 := bx.cell 3 (.int .i64 x.at_) rfl
  have KEEP : Hid (∀ (X : World), Kp U1 (w.alloc (.cells #[.int .i64 x.kind, .bool x.other, .int .i64 x.id, .int .i64 x.at_] 34)) X → X.cell? ⟨w.heap.size, 2, none⟩ = some (.int .i64 x.id) ∧ X.cell? ⟨w.heap.size, 3, none⟩ = some (.int .i64 x.at_)) := fun X k => by
    have b2 : Blk X w.heap.size _ _ := (k.block _ bx.lt nb).trans bx
    exact ⟨b2.cell 2 _ rfl, b2.cell 3 _ rfl⟩
  have PR := hide (fun (w' : World) (p' : PX) (U' : Nat → Prop) (n1 : PW w0.heap.size w' U' p'.W p'.R p'.c p'.T) (s : St (w.alloc (.cells #[.int .i64 x.kind, .bool x.other, .int .i64 x.id, .int .i64 x.at_] 34)) w' U1 U') => (st_pair (m := m) (O := O) h0 gr tb q1 q2 qo d12 d1 d2 n1 s).more (m' := m + 2) (by omega))
  have ADV := hide (fun (now : Int) => st_adv h0 gr tb q1 q2 qo d12 d1 d2 few now)
  have GIV := hide (hgv q1 tb h0 x ok)
  have HS := hide (hs.more (m' := m + 2) (by omega))
  clear h p1 p2 o gA bx kA q2 qo hs gr d12 d1 d2 nb
  have QQ := hide q1
  have TB := hide tb
  clear q1 tb
  by_cases e0 : pk x.kind 6 = 0
  · as_aux_lemma =>
      rw [e0] at pc
      have ARM := pwm_arm ((unhide QQ).pwm (Nat.le_refl _)) x.id x.at_
      clear ADV GIV HS TB QQ c1 p0 p6 e0
      go_enter Tryd.func10, Tryd.ntmps10
      go_wp2_with fail
      refine (pc _).mono ?_
      rintro e X ⟨rfl, rfl⟩
      go_wp2_with fail
      refine ARM.mono ?_
      rintro e w1 ⟨v, rfl, k1, HA⟩
      obtain ⟨z2, z3⟩ := unhide KEEP _ k1
      clear ARM k1 c0 c2 c3 pc
      go_wp2_with fail
      refine (unhide HA w1 (World.grownBy.refl _ _)).mono ?_
      rintro e w2 ⟨rfl, U', pw', s'⟩
      have E : Hid (StepTo w0 m O p q (.returned (.bool true)) w2) := ⟨rfl, ⟨p.W, p.R, p.c, armT p.T x.id x.at_⟩, rfl, rfl, unhide PR w2 ⟨p.W, p.R, p.c, armT p.T x.id x.at_⟩ U' pw'.pw s'⟩
      have vv : (v == v) = true := by simp
      clear pw' s' PR KEEP HA z2 z3
      go_wp2_with fail
      go_ret
      exact unhide E
  by_cases e1 : pk x.kind 6 = 1
  · as_aux_lemma =>
      rw [e1] at pc
      have CAN := pwm_cancel ((unhide QQ).pwm (Nat.le_refl _)) x.id ok.i
      clear ADV GIV HS TB QQ c1 p0 p6 e0 e1
      go_enter Tryd.func10, Tryd.ntmps10
      go_wp2_with fail
      refine (pc _).mono ?_
      rintro e X ⟨rfl, rfl⟩
      go_wp2_with fail
      refine CAN.mono ?_
      rintro e w1 ⟨v, rfl, k1, HA⟩
      obtain ⟨z2, z3⟩ := unhide KEEP _ k1
      clear CAN k1 c0 c2 c3 pc
      go_wp2_with fail
      refine (unhide HA w1 (World.grownBy.refl _ _)).mono ?_
      rintro e w2 ⟨rfl, U', pw', s'⟩
      have E : Hid (StepTo w0 m O p q (.returned (.bool true)) w2) := ⟨rfl, ⟨p.W, p.R, p.c, delT p.T x.id⟩, rfl, rfl, unhide PR w2 ⟨p.W, p.R, p.c, delT p.T x.id⟩ U' pw'.pw s'⟩
      have vv : (v == v) = true := by simp
      clear pw' s' PR KEEP HA z2 z3
      go_wp2_with fail
      go_ret
      exact unhide E
  by_cases e2 : pk x.kind 6 = 2
  · as_aux_lemma =>
      rw [e2] at pc
      obtain ⟨S, Q, wl, rw, -, -⟩ := (unhide QQ).ex
      have WH := wl_when _ _ _ _ _ _ wl x.id ok.i
      have RWH := rwhen_any rw x.id
      have E : Hid (StepTo w0 m O p q (.returned (.bool true)) (w.alloc (.cells #[.int .i64 x.kind, .bool x.other, .int .i64 x.id, .int .i64 x.at_] 34))) := ⟨rfl, p, rfl, rfl, unhide HS⟩
      clear ADV GIV HS TB QQ c1 p0 p6 e0 e1 e2 wl rw KEEP PR c3
      cases hwt : whenT p.T x.id with
      | none =>
        rw [hwt] at WH RWH
        clear hwt
        simp only at WH RWH
        go_enter Tryd.func10, Tryd.ntmps10
        go_wp2_with fail
        refine (pc _).mono ?_
        rintro e X ⟨rfl, rfl⟩
        go_wp2_with fail
        refine WH.mono ?_
        rintro e X ⟨rfl, rfl⟩
        go_wp2_with fail
        refine RWH.mono ?_
        rintro e X ⟨rfl, rfl⟩
        go_wp2_with fail
        go_ret
        exact unhide E
      | some a =>
        rw [hwt] at WH RWH
        clear hwt
        simp only at WH RWH
        have vv : ((a : Int) == (a : Int)) = true := by simp
        go_enter Tryd.func10, Tryd.ntmps10
        go_wp2_with fail
        refine (pc _).mono ?_
        rintro e X ⟨rfl, rfl⟩
        go_wp2_with fail
        refine WH.mono ?_
        rintro e X ⟨rfl, rfl⟩
        go_wp2_with fail
        refine RWH.mono ?_
        rintro e X ⟨rfl, rfl⟩
        go_wp2_with fail
        go_ret
        exact unhide E
  by_cases e3 : pk x.kind 6 = 3
  · as_aux_lemma =>
      rw [e3] at pc
      obtain ⟨S, Q, wl, rw, -, -⟩ := (unhide QQ).ex
      have NX := wl_next _ _ _ _ _ _ wl (unhide TB)
      have MORE := hide (fun (X : World) (g : World.grownBy (w.alloc (.cells #[.int .i64 x.kind, .bool x.other, .int .i64 x.id, .int .i64 x.at_] 34)) X none) => And.intro (rnext_any (rw.grown g)) (And.intro (wl_now _ _ _ _ _ _ (wl.grown g)) (And.intro (wl_len _ _ _ _ _ _ (wl.grown g)) (And.intro ((rw.grown g).ex) ((unhide HS).grown g)))))
      clear ADV GIV HS TB QQ c1 p0 p6 e0 e1 e2 e3 wl rw KEEP PR c2 c3
      go_enter Tryd.func10, Tryd.ntmps10
      go_wp2_with fail
      refine (pc _).mono ?_
      rintro e X ⟨rfl, rfl⟩
      go_wp2_with fail
      refine NX.mono ?_
      rintro e X ⟨rfl, g⟩
      obtain ⟨rn, nw, ln, ⟨a, cp, bR, rd⟩, st⟩ := unhide MORE X g
      have r0 := bR.cell 0 (.int .i64 (p.c : Int)) rfl
      have r1 := bR.cell 1 (.slice a p.T.length cp) rfl
      have cap := rd.cap
      have lI : ¬ (9223372036854775807 : Int) < (p.T.length : Int) := by omega
      have E : Hid (StepTo w0 m O p q (.returned (.bool true)) X) := ⟨rfl, p, rfl, rfl, st⟩
      have v1 : ((nextT p.T : Int) == (nextT p.T : Int)) = true := by simp
      have v2 : ((p.c : Int) == (p.c : Int)) = true := by simp
      have v3 : ((p.T.length : Int) == (p.T.length : Int)) = true := by simp
      clear MORE NX g st rd bR c0
      go_wp2_with fail
      refine rn.mono ?_
      rintro e X2 ⟨rfl, hw⟩
      replace hw := hw.symm
      subst hw
      go_wp2_with fail
      refine nw.mono ?_
      rintro e X2 ⟨rfl, hw⟩
      replace hw := hw.symm
      subst hw
      go_wp2_with fail
      refine ln.mono ?_
      rintro e X2 ⟨rfl, hw⟩
      replace hw := hw.symm
      subst hw
      go_wp2_with fail
      go_ret
      exact unhide E
  by_cases e4 : pk x.kind 6 = 4
  · as_aux_lemma =>
      rw [e4] at pc
      have AD := unhide ADV x.at_
      clear ADV GIV HS TB QQ c1 p0 p6 e0 e1 e2 e3 e4 PR c2
      go_enter Tryd.func10, Tryd.ntmps10
      go_wp2_with fail
      refine (pc _).mono ?_
      rintro e X ⟨rfl, rfl⟩
      go_wp2_with fail
      refine AD.mono ?_
      rintro e w1 ⟨a1, n, cc1, rfl, k1, HA⟩
      obtain ⟨z2, z3⟩ := unhide KEEP _ k1
      clear AD k1 c0 c3 pc KEEP
      go_wp2_with fail
      refine (unhide HA).mono ?_
      rintro e w2 ⟨a2, cc2, rfl, HT⟩
      clear HA z2 z3
      go_wp2_with fail
      refine (unhide HT).mono ?_
      rintro e w3 ⟨rfl, st⟩
      have E : Hid (StepTo w0 m O p q (.returned (.bool true)) w3) := ⟨rfl, st⟩
      clear HT st
      go_wp2_with fail
      go_ret
      exact unhide E
  · as_aux_lemma =>
      have e5 : pk x.kind 6 = 5 := by omega
      rw [e5] at pc
      have GV := unhide GIV
      clear ADV GIV HS TB QQ p0 p6 e0 e1 e2 e3 e4 e5 KEEP
      go_enter Tryd.func10, Tryd.ntmps10
      go_wp2_with fail
      refine (pc _).mono ?_
      rintro e X ⟨rfl, rfl⟩
      go_wp2_with fail
      refine GV.mono ?_
      rintro e w2 ⟨rfl, U', T', pw', s'⟩
      have E : Hid (StepTo w0 m O p q (.returned (.bool true)) w2) := ⟨rfl, ⟨p.W, p.R, p.c, T'⟩, rfl, rfl, unhide PR w2 ⟨p.W, p.R, p.c, T'⟩ U' pw' s'⟩
      clear pw' s' PR GV
      go_wp2_with fail
      go_ret
      exact unhide E
end Go.Proofs.YtpkkgmcfificiaaDoor

namespace Go.Proofs.YtpkkgmcfificiaaDoor
open Go.RowKit Go.Shelf Go.Maps
set_option linter.unusedVariables false
set_option maxRecDepth 100000
set_option maxHeartbeats 2000000

theorem wl_into {B : Nat} {w w' : World} {S S' : Nat → Prop} {W c : Nat} {T : List Tm} (h : Wl B w S W c T) (g : w.grownBy w' none) (hs : ∀ x, S x → S' x) (hl : ∀ x, S' x → B ≤ x ∧ x < w'.heap.size) : Wl B w' S' W c T := by
  obtain ⟨mb, L, h1, h2, h3⟩ := (h.grown g).ex
  exact ⟨⟨mb, L, h1, h2, fun x hx => hs x (h3 x hx)⟩, hl⟩

/-- As both pairs are made. -/
theorem st_start {w w1 w2 w3 w4 w5 : World} {now other : Int} {W1 W2 R1 R2 : Nat} (ht : Tb w) (g1 : w.grownBy w1 none)
    (a1 : Wl w.heap.size w2 (fun g => w1.heap.size ≤ g ∧ g < w2.heap.size) W1 (clk now) []) (g2 : w1.grownBy w2 none)
    (a2 : Wl w.heap.size w3 (fun g => w2.heap.size ≤ g ∧ g < w3.heap.size) W2 (clk other) []) (g3 : w2.grownBy w3 none)
    (b1 : RW w.heap.size w4 (fun g => w3.heap.size ≤ g ∧ g < w4.heap.size) R1 (clk now) []) (g4 : w3.grownBy w4 none)
    (b2 : RW w.heap.size w5 (fun g => w4.heap.size ≤ g ∧ g < w5.heap.size) R2 (clk other) []) (g5 : w4.grownBy w5 none) :
    ST w (w5.alloc (.cells #[.slice none 0 0, .slice none 0 0, .slice none 0 0] 32)) 0 w5.heap.size ⟨W1, R1, clk now, []⟩ ⟨W2, R2, clk other, []⟩ := by
  have g6 := World.grownBy_alloc w5 (.cells #[.slice none 0 0, .slice none 0 0, .slice none 0 0] 32) none
  have bO := Blk.new w5 #[.slice none 0 0, .slice none 0 0, .slice none 0 0] 32
  have z6 : (w5.alloc (.cells #[.slice none 0 0, .slice none 0 0, .slice none 0 0] 32)).heap.size = w5.heap.size + 1 := World.size_alloc _ _
  generalize w5.alloc (.cells #[.slice none 0 0, .slice none 0 0, .slice none 0 0] 32) = w6 at *
  have z1 := g1.size; have z2 := g2.size; have z3 := g3.size; have z4 := g4.size; have z5 := g5.size
  have gr := ((((g1.trans g2).trans g3).trans g4).trans g5).trans g6
  refine ⟨⟨fun g => (w1.heap.size ≤ g ∧ g < w2.heap.size) ∨ (w3.heap.size ≤ g ∧ g < w4.heap.size), fun g => (w2.heap.size ≤ g ∧ g < w3.heap.size) ∨ (w4.heap.size ≤ g ∧ g < w5.heap.size), fun g => g = w5.heap.size,
    ⟨⟨_, _, a1.grown (((g3.trans g4).trans g5).trans g6), b1.grown (g5.trans g6), fun g h1 h2 => by omega, fun g hg => hg⟩, fun g hg => by omega⟩,
    ⟨⟨_, _, a2.grown ((g4.trans g5).trans g6), b2.grown g6, fun g h1 h2 => by omega, fun g hg => hg⟩, fun g hg => by omega⟩,
    ⟨⟨fun _ => False, [], .slice none 0 0, none, none, 0, 0, 0, [], ⟨bO, World.ownsRow_nil _ _ _ _, fun e he => by simp at he, by omega⟩, fun g hg => hg.elim, World.ownsRow_nil _ _ _ _, World.ownsRow_nil _ _ _ _, (fun g e => by cases e), Nat.le_refl _, by omega, fun g hg => ?_⟩, fun g hg => by omega⟩,
    fun g h1 h2 => by omega, fun g h1 h2 => by omega, fun g h1 h2 => by omega⟩, gr, ht.kept (gr.block 0 ht.lt (by simp))⟩
  rcases hg with e | e | e | e | e
  · exact e
  · cases e
  · exact e.elim
  · cases e
  · cases e

/-- The last list is looked at. -/
theorem st_close {w0 w : World} {m O : Nat} {p q : PX} (h : ST w0 w m O p q) (h0 : 0 < w0.heap.size) (few : m ≤ 10000000) :
    Calls Tryd.prog 11 #[ptr O, .slice none 0 0, .slice none 0 0] w fun e w' => e = .returned (.bool true) ∧ ST w0 w' (m + 2) O p q := by
  obtain ⟨U1, U2, D, p1, p2, o, d12, d1, d2⟩ := h.ex
  refine (os_takes o (a3 := none) (a4 := none) (n3 := 0) (c3 := 0) (c4 := 0) (X3 := []) (World.ownsRow_nil _ _ _ _) (World.ownsRow_nil _ _ _ _) (by omega) few (fun g hg => by rcases hg with e | e <;> cases e)).mono ?_
  rintro e w' ⟨rfl, D', o', k, dn⟩
  have dd : ∀ {U : Nat → Prop} {r : PX}, PW w0.heap.size w U r.W r.R r.c r.T → (∀ g, U g → ¬ D g) → ∀ g, U g → ¬ D' g := fun hp hd g hu hD => by
    have := (hp.lt g hu).2
    rcases dn g hD with e | (e | e) | e
    · exact hd g hu e
    · cases e
    · cases e
    · omega
  exact ⟨rfl, ⟨U1, U2, D', p1.other k d1, p2.other k d2, o', d12, dd p1 d1, dd p2 d2⟩, kp_new h.gr k (fun g hg => (o.lt g hg).1), h.tb.kept (k.block 0 h.tb.lt (fun e => by have := (o.lt 0 e).1; omega))⟩

theorem same_rows {w : World} {b1 b2 n c1 c2 : Nat} {a1 a2 : Option Addr} {X : List Int} (r1 : w.ownsRow b1 3 1 (.slice a1 n c1) n (intsV X)) (r2 : w.ownsRow b2 3 1 (.slice a2 n c2) n (intsV X)) :
    Calls Tryd.prog 15 #[.slice a1 n c1, .slice a2 n c2] w fun e w' => e = .returned (.bool true) ∧ w.grownBy w' none := by
  obtain ⟨d1, l1, q1⟩ := rd_caps r1
  obtain ⟨d2, l2, q2⟩ := rd_caps r2
  refine (same_any a1 a2 X X n n c1 c2 l1 l2 w d1 d2 q1 q2).mono ?_
  rintro e w' ⟨rfl, g⟩
  exact ⟨by simp, g⟩

/-- The end: both are brought on, and what came out is held beside what the document says. -/
theorem st_last {w0 w : World} {m O : Nat} {p q : PX} (h : ST w0 w m O p q) (h0 : 0 < w0.heap.size) (x y : Int) :
    Calls Tryd.prog 13 #[ptr p.W, .int .i64 x] w fun e w1 => ∃ a1 k c1, e = .returned (.slice a1 k c1) ∧ Hid (Calls Tryd.prog 14 #[ptr p.R, .int .i64 x] w1 fun e w2 => ∃ a2 c2, e = .returned (.slice a2 k c2) ∧
      Hid (Calls Tryd.prog 13 #[ptr q.W, .int .i64 y] w2 fun e w3 => ∃ a3 k3 c3, e = .returned (.slice a3 k3 c3) ∧ Hid (Calls Tryd.prog 14 #[ptr q.R, .int .i64 y] w3 fun e w4 => ∃ a4 c4, e = .returned (.slice a4 k3 c4) ∧
        Hid (Calls Tryd.prog 15 #[.slice a1 k c1, .slice a2 k c2] w4 fun e w5 => e = .returned (.bool true) ∧ Hid (Calls Tryd.prog 15 #[.slice a3 k3 c3, .slice a4 k3 c4] w5 fun e w6 => e = .returned (.bool true) ∧ w0.grownBy w6 none))))) := by
  obtain ⟨U1, U2, D, p1, p2, o, d12, d1, d2⟩ := h.ex
  refine (pw_adw p1 h.tb x).mono ?_
  rintro e w1 ⟨a1, k, c1, rfl, -, -, r1, k1, A2⟩
  refine ⟨a1, k, c1, rfl, ?_⟩
  refine (unhide A2).mono ?_
  rintro e w2 ⟨a2, c2, rfl, r2, k2, -⟩
  refine ⟨a2, c2, rfl, ?_⟩
  have k12 := k1.trans k2
  have tb2 : Tb w2 := h.tb.kept (k12.block 0 h.tb.lt (fun e => by have := (p1.lt 0 e).1; omega))
  have q2 := p2.other k12 (fun g a b => d12 g b a)
  refine (pw_adw q2 tb2 y).mono ?_
  rintro e w3 ⟨a3, k3', c3, rfl, -, -, r3, k3, A4⟩
  refine ⟨a3, k3', c3, rfl, ?_⟩
  refine (unhide A4).mono ?_
  rintro e w4 ⟨a4, c4, rfl, r4, k4, -⟩
  refine ⟨a4, c4, rfl, ?_⟩
  have z1 := k1.size; have z2 := k2.size; have z3 := k3.size; have z4 := k4.size
  have l1 := r1.lt; have l2 := r2.lt; have l3 := r3.lt
  have k34 := k3.trans k4
  have r1' := row_keep (row_keep r1 (fun g hg hl => k2.block g hl (fun hu => by have := (p1.lt g hu).2; have := (l1 g hg).1; omega))) (fun g hg hl => k34.block g hl (fun hu => by have := (p2.lt g hu).2; have := (l1 g hg).1; omega))
  have r2' := row_keep r2 (fun g hg hl => k34.block g hl (fun hu => by have := (p2.lt g hu).2; have := (l2 g hg).1; omega))
  have r3' := row_keep r3 (fun g hg hl => k4.block g hl (fun hu => by have := (p2.lt g hu).2; have := (l3 g hg).1; omega))
  refine (same_rows r1' r2').mono ?_
  rintro e w5 ⟨rfl, g5⟩
  refine ⟨rfl, ?_⟩
  refine (same_rows (trow_kept r3' g5) (trow_kept r4 g5)).mono ?_
  rintro e w6 ⟨rfl, g6⟩
  exact ⟨rfl, ((kp_new (kp_new h.gr k12 (fun g hg => (p1.lt g hg).1)) k34 (fun g hg => (p2.lt g hg).1)).trans g5).trans g6⟩
end Go.Proofs.YtpkkgmcfificiaaDoor
