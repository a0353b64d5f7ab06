/- D7P, D7R, D7S, one text. -/
import Derived.Test.YtpkkgmcfificiaaDoorD7O
import Derived.Laws.EntriesVeiled
import Derived.Sort.QuietIn
namespace Go.Proofs.YtpkkgmcfificiaaDoor
open Go.RowKit Go.Shelf Go.Maps
set_option linter.unusedVariables false
set_option maxHeartbeats 1000000
set_option maxRecDepth 100000
attribute [local go_sem] Oper.semAt_some

/-- What gives leaves of the deadlines. -/
def giveT (T : List Tm) (x : OpD) : List Tm := match T with | [] => [] | p :: _ => armT (delT T (p.1 : Int)) x.id x.at_

theorem wf_id {i : Int} (h : wfI i) : -9223372036854775808 ≤ i ∧ i ≤ 9223372036854775807 := by
  simp [wfI, Lit.wf, IntKind.min, IntKind.max, IntKind.bits, IntKind.signed] at h
  omega

theorem want_app {X : World} {Q : Nat → Prop} {R : Nat} {a : Option Addr} {cp : Nat} {T : List Tm} (h : RdT X Q R a cp T) (few : T.length ≤ 1000000) :
    ∃ v X', (Builtin.append_ #[60, 60] 60 #[.slice none 0 0, .slice a T.length cp]).run Tryd.prog X = .ok v X' ∧ X'.ownsRow X.heap.size 69 2 v T.length (T.flatMap tcl) ∧ X.grownBy X' none := by
  obtain ⟨inf, hi0, hz0, hz1, hz2⟩ := info_parts Tryd.infoTm
  rcases h.at_ with rfl | ⟨g, off, rfl, -, -, hl, hc⟩
  · refine ⟨.slice none 0 0, X, ?_, World.ownsRow_nil _ _ _ _, World.grownBy.refl _ _⟩
    cases a <;> simp [Builtin.append_, run_underlying Tryd.underlying60, sizeOf, typeInfo, hi0, Builtin.lenOf, Builtin.firstCells, loadCells, loadCellsFrom]
  · have hlen : (T.flatMap tcl).length = T.length * 2 := by
      clear h hc few
      induction T with
      | nil => rfl
      | cons p t ih => rw [List.flatMap_cons, List.length_append, ih]; simp [tcl]; omega
    have hnews : ∀ (i : Nat) u, (T.flatMap tcl)[i]? = some u → X.cell? ((⟨g, off, none⟩ : Addr).add i) = some u := fun i u hu => by
      have hi : i < (T.flatMap tcl).length := (List.getElem?_eq_some_iff.1 hu).1
      have hk : i / 2 < T.length := by omega
      have hp : T[i / 2]? = some T[i / 2] := by simp
      have f := flat_two T (i / 2) T[i / 2] hp (i % 2) (by omega)
      rw [show i / 2 * 2 + i % 2 = i by omega, hu] at f
      obtain ⟨c0, c1⟩ := hc (i / 2) T[i / 2] hp
      have ea : (⟨g, off, none⟩ : Addr).add i = ⟨g, off + i, none⟩ := by simp [Addr.add]
      rw [ea]
      have hm : i % 2 = 0 ∨ i % 2 = 1 := by omega
      rcases hm with e | e
      · rw [e] at f
        rw [show off + i = off + i / 2 * 2 by omega, c0, f]; rfl
      · rw [e] at f
        rw [show off + i = off + i / 2 * 2 + 1 by omega, c1, f]; rfl
    obtain ⟨v5, W5, hrun, o5, g5, -⟩ := run_append_own (P := Tryd.prog) X X.heap.size 60 60 69 inf (.agg #[.int .i64 0, .int .i64 0]) 2 16 Tryd.underlying60 hi0 hz0 hz1 hz2 rfl (by decide) (.slice none 0 0) 0 [] (World.ownsRow_nil _ _ _ _) ⟨g, off, none⟩ T.length cp (T.flatMap tcl) hlen hnews (fun u hu => by
      simp only [List.mem_flatMap, tcl, List.mem_cons, List.not_mem_nil, or_false] at hu
      obtain ⟨p, -, rfl | rfl⟩ := hu <;> rfl) (by unfold maxLen; omega) (by omega) (Nat.le_refl _)
    rw [Nat.zero_add, List.nil_append] at o5
    exact ⟨v5, W5, hrun, o5, g5⟩

/-- The world as gives has laid its boxes: N where they begin, M where the numbers lie. -/
structure G0 (B : Nat) (w : World) (U : Nat → Prop) (W R c : Nat) (T : List Tm) (x : OpD) (a : Option Addr) (cp : Nat) (wc : World) : Prop where
  b0 : Boxed wc w.heap.size 24 (ptr W)
  b1 : Boxed wc (w.heap.size + 1) 26 (ptr R)
  b2 : Blk wc (w.heap.size + 1 + 1) #[.int .i64 x.kind, .bool x.other, .int .i64 x.id, .int .i64 x.at_] 34
  b3 : Boxed wc (w.heap.size + 1 + 1 + 1) 4 (.bool false)
  b4 : Boxed wc (w.heap.size + 1 + 1 + 1 + 1) 60 (.slice a T.length cp)
  rd : RdT wc (fun g => w.heap.size + 5 ≤ g) 0 a cp T
  gr : w.grownBy wc none
  sz : w.heap.size + 5 ≤ wc.heap.size

theorem g0_start {B : Nat} {w : World} {U : Nat → Prop} {W R c : Nat} {T : List Tm} (h : PW B w U W R c T) (ht : Tb w) (x : OpD) {a0 : Option Addr} {cp0 : Nat} {Q : Nat → Prop} (rd : RdT w Q R a0 cp0 T) :
    ∃ a cp X, (Builtin.append_ #[60, 60] 60 #[.slice none 0 0, .slice a0 T.length cp0]).run Tryd.prog (((((w.alloc (.cells #[ptr W] 24)).alloc (.cells #[ptr R] 26)).alloc (.cells #[.int .i64 x.kind, .bool x.other, .int .i64 x.id, .int .i64 x.at_] 34)).alloc (.cells #[.bool false] 4)).alloc (.cells #[.slice none 0 0] 60)).drew = .ok (.slice a T.length cp) X
      ∧ Boxed X (w.heap.size + 1 + 1 + 1 + 1) 60 (.slice none 0 0) ∧ G0 B w U W R c T x a cp (X.setCell ⟨w.heap.size + 1 + 1 + 1 + 1, 0, none⟩ (.slice a T.length cp)) := by
  obtain ⟨ok, -, hl⟩ := h.ok
  have b0 := Blk.new w #[ptr W] 24
  have g1 := World.grownBy_alloc w (.cells #[ptr W] 24) none
  have z1 : (w.alloc (.cells #[ptr W] 24)).heap.size = w.heap.size + 1 := World.size_alloc _ _
  generalize w.alloc (.cells #[ptr W] 24) = w1 at *
  have b1 := Blk.new w1 #[ptr R] 26
  have g2 := World.grownBy_alloc w1 (.cells #[ptr R] 26) none
  have z2 : (w1.alloc (.cells #[ptr R] 26)).heap.size = w1.heap.size + 1 := World.size_alloc _ _
  generalize w1.alloc (.cells #[ptr R] 26) = w2 at *
  have b2 := Blk.new w2 #[.int .i64 x.kind, .bool x.other, .int .i64 x.id, .int .i64 x.at_] 34
  have g3 := World.grownBy_alloc w2 (.cells #[.int .i64 x.kind, .bool x.other, .int .i64 x.id, .int .i64 x.at_] 34) none
  have z3 : (w2.alloc (.cells #[.int .i64 x.kind, .bool x.other, .int .i64 x.id, .int .i64 x.at_] 34)).heap.size = w2.heap.size + 1 := World.size_alloc _ _
  generalize w2.alloc (.cells #[.int .i64 x.kind, .bool x.other, .int .i64 x.id, .int .i64 x.at_] 34) = w3 at *
  have b3 := Blk.new w3 #[.bool false] 4
  have g4 := World.grownBy_alloc w3 (.cells #[.bool false] 4) none
  have z4 : (w3.alloc (.cells #[.bool false] 4)).heap.size = w3.heap.size + 1 := World.size_alloc _ _
  generalize w3.alloc (.cells #[.bool false] 4) = w4 at *
  have b4 := Blk.new w4 #[.slice none 0 0] 60
  have g5 := World.grownBy_alloc w4 (.cells #[.slice none 0 0] 60) none
  have z5 : (w4.alloc (.cells #[.slice none 0 0] 60)).heap.size = w4.heap.size + 1 := World.size_alloc _ _
  generalize w4.alloc (.cells #[.slice none 0 0] 60) = w5 at *
  have gd : w5.grownBy w5.drew none := ⟨rfl, rfl, rfl, Nat.le_refl _, fun _ _ _ => rfl⟩
  have zd : w5.drew.heap.size = w5.heap.size := rfl
  have g15 := (((g1.trans g2).trans g3).trans g4).trans g5
  have rd5 : RdT w5.drew Q R a0 cp0 T := rd.kept (g15.trans gd).size (fun g _ _ hl => (g15.trans gd).block g hl (by simp))
  obtain ⟨v, X, hrun, own, gX⟩ := want_app rd5 (by omega)
  obtain ⟨a, cp, rfl, rdX⟩ := rdT_row own (by omega)
  have gA := gd.trans gX
  have c0 := ((b0.grown g2).grown g3 |>.grown g4 |>.grown g5).grown gA
  have c1 := ((b1.grown g3).grown g4 |>.grown g5).grown gA
  have c2 := (b2.grown g4 |>.grown g5).grown gA
  have c3 := (b3.grown g5).grown gA
  have c4 := b4.grown gA
  rw [z1] at c1; rw [z2, z1] at c2; rw [z3, z2, z1] at c3; rw [z4, z3, z2, z1] at c4
  have zX := gA.size
  refine ⟨a, cp, X, hrun, c4, ?_⟩
  have gS := grownBy_setCell' X (w.heap.size + 1 + 1 + 1 + 1) (.slice a T.length cp)
  refine ⟨c0.setO _ _ _ (by omega), c1.setO _ _ _ (by omega), c2.setO _ _ _ (by omega), c3.setO _ _ _ (by omega), Boxed.set _ c4, ?_, ?_, Nat.le_trans (by omega) gS.size⟩
  · refine ⟨rdX.cap, rdX.at_.imp id (fun ⟨g, off, e, hn, hq, hl, hc⟩ => ?_)⟩
    have hq' : w5.heap.size ≤ g := hq
    have k := gS.block g hl (by simp; omega)
    have cc : ∀ o, (X.setCell ⟨w.heap.size + 1 + 1 + 1 + 1, 0, none⟩ (.slice a T.length cp)).cell? ⟨g, o, none⟩ = X.cell? ⟨g, o, none⟩ := fun o => by simp only [World.cell?, k]
    exact ⟨g, off, e, hn, by omega, Nat.lt_of_lt_of_le hl gS.size, fun i p hp => ⟨(cc _).trans (hc i p hp).1, (cc _).trans (hc i p hp).2⟩⟩
  · have gg := g15.trans gA
    exact ⟨gS.os.trans gg.os, gS.tape.trans gg.tape, gS.output.trans gg.output, Nat.le_trans gg.size gS.size, fun i hi hne => (gS.block i (Nat.lt_of_lt_of_le hi gg.size) (by simp; omega)).trans (gg.block i hi hne)⟩

abbrev seqV (M : Nat) : Value := .func (.func 45) #[] #[.pointer (some ⟨M + 1 + 1 + 1 + 1, 0, none⟩)]
theorem seq_ne (M : Nat) (X : World) : (binOp BinOp.eql 85 (seqV M) Value.nilFunc).run Tryd.prog X = .ok (.bool false) X := by
  first
    | (simp [binOp, go_sem]; done)
    | kernel_rfl
/-- The world as the first range begins. -/
structure G1 (B : Nat) (w : World) (U : Nat → Prop) (W R c : Nat) (T : List Tm) (x : OpD) (a : Option Addr) (cp M : Nat) (nn : Int) (w1 : World) : Prop where
  b0 : Boxed w1 w.heap.size 24 (ptr W)
  b1 : Boxed w1 (w.heap.size + 1) 26 (ptr R)
  b2 : Blk w1 (w.heap.size + 1 + 1) #[.int .i64 x.kind, .bool x.other, .int .i64 x.id, .int .i64 x.at_] 34
  b3 : Boxed w1 (w.heap.size + 1 + 1 + 1) 4 (.bool false)
  b4 : Boxed w1 (w.heap.size + 1 + 1 + 1 + 1) 60 (.slice a T.length cp)
  rd : RdT w1 (fun g => w.heap.size + 5 ≤ g ∧ g < M) 0 a cp T
  bn : Boxed w1 M 3 (.int .i64 nn)
  bk : Boxed w1 (M + 1) 3 (.int .i64 0)
  bi : Boxed w1 (M + 1 + 1) 3 (.int .i64 0)
  bo : Boxed w1 (M + 1 + 1 + 1) 4 (.bool true)
  bw : Boxed w1 (M + 1 + 1 + 1 + 1) 24 (ptr W)
  bs : Boxed w1 (M + 1 + 1 + 1 + 1 + 1) 85 (seqV M)
  gr : w.grownBy w1 none
  sz : w1.heap.size = M + 6
  nM : w.heap.size + 5 ≤ M
  pw : PWM B w1.heap.size w1 U W R c T
  tb : Tb w1
  hU : ∀ g, U g → g < w.heap.size
abbrev wld1 (wc : World) (W : Nat) (nn : Int) : World := (((((wc.alloc (.cells #[.int .i64 nn] 3)).alloc (.cells #[.int .i64 0] 3)).alloc (.cells #[.int .i64 0] 3)).alloc (.cells #[.bool true] 4)).alloc (.cells #[ptr W] 24)).alloc (.cells #[seqV wc.heap.size] 85)

theorem g1_start {B : Nat} {w : World} {U : Nat → Prop} {W R c : Nat} {T : List Tm} {x : OpD} {a : Option Addr} {cp : Nat} {wc : World} (h : PW B w U W R c T) (ht : Tb w) (g : G0 B w U W R c T x a cp wc) (nn : Int) : G1 B w U W R c T x a cp wc.heap.size nn (wld1 wc W nn) := by
  unfold wld1
  have n1 := Blk.new wc #[.int .i64 nn] 3
  have g1 := World.grownBy_alloc wc (.cells #[.int .i64 nn] 3) none
  have z1 : (wc.alloc (.cells #[.int .i64 nn] 3)).heap.size = wc.heap.size + 1 := World.size_alloc _ _
  generalize wc.alloc (.cells #[.int .i64 nn] 3) = w1 at *
  have n2 := Blk.new w1 #[.int .i64 0] 3
  have g2 := World.grownBy_alloc w1 (.cells #[.int .i64 0] 3) none
  have z2 : (w1.alloc (.cells #[.int .i64 0] 3)).heap.size = w1.heap.size + 1 := World.size_alloc _ _
  generalize w1.alloc (.cells #[.int .i64 0] 3) = w2 at *
  have n3 := Blk.new w2 #[.int .i64 0] 3
  have g3 := World.grownBy_alloc w2 (.cells #[.int .i64 0] 3) none
  have z3 : (w2.alloc (.cells #[.int .i64 0] 3)).heap.size = w2.heap.size + 1 := World.size_alloc _ _
  generalize w2.alloc (.cells #[.int .i64 0] 3) = w3 at *
  have n4 := Blk.new w3 #[.bool true] 4
  have g4 := World.grownBy_alloc w3 (.cells #[.bool true] 4) none
  have z4 : (w3.alloc (.cells #[.bool true] 4)).heap.size = w3.heap.size + 1 := World.size_alloc _ _
  generalize w3.alloc (.cells #[.bool true] 4) = w4 at *
  have n5 := Blk.new w4 #[ptr W] 24
  have g5 := World.grownBy_alloc w4 (.cells #[ptr W] 24) none
  have z5 : (w4.alloc (.cells #[ptr W] 24)).heap.size = w4.heap.size + 1 := World.size_alloc _ _
  generalize w4.alloc (.cells #[ptr W] 24) = w5 at *
  have n6 := Blk.new w5 #[seqV wc.heap.size] 85
  have g6 := World.grownBy_alloc w5 (.cells #[seqV wc.heap.size] 85) none
  have z6 : (w5.alloc (.cells #[seqV wc.heap.size] 85)).heap.size = w5.heap.size + 1 := World.size_alloc _ _
  generalize w5.alloc (.cells #[seqV wc.heap.size] 85) = w6 at *
  have q1 := ((((g2.trans g3).trans g4).trans g5).trans g6)
  have q2 := (((g3.trans g4).trans g5).trans g6)
  have q3 := ((g4.trans g5).trans g6)
  have q4 := (g5.trans g6)
  have q0 := g1.trans q1
  have m2 := n2.grown q2
  have m3 := n3.grown q3
  have m4 := n4.grown q4
  have m5 := n5.grown g6
  rw [z1] at m2; rw [z2, z1] at m3; rw [z3, z2, z1] at m4; rw [z4, z3, z2, z1] at m5; rw [z5, z4, z3, z2, z1] at n6
  have gr := g.gr.trans q0
  have szc := g.sz
  refine ⟨Boxed.kept g.b0 q0 (by simp), Boxed.kept g.b1 q0 (by simp), g.b2.grown q0, Boxed.kept g.b3 q0 (by simp), Boxed.kept g.b4 q0 (by simp), ?_, n1.grown q1, m2, m3, m4, m5, n6, gr, by omega, by omega, ?_, ht.kept (gr.block 0 ht.lt (by simp)), fun x hx => (h.lt x hx).2⟩
  · have r := g.rd.kept q0.size (fun x _ _ hl => q0.block x hl (by simp))
    refine ⟨r.cap, ?_⟩
    rcases g.rd.at_ with e | ⟨x, off, e, hn, hq, hl, hc⟩
    · exact .inl e
    · rcases r.at_ with e2 | ⟨x2, off2, e2, hn2, hq2, hl2, hc2⟩
      · exact .inl e2
      · rw [e] at e2; cases e2
        exact .inr ⟨x, off, e, hn, ⟨hq, hl⟩, hl2, hc2⟩
  · exact (h.other (Kp.grown gr (fun _ => False)) (fun _ _ e => e)).pwm (Nat.le_refl _)
end Go.Proofs.YtpkkgmcfificiaaDoor

namespace Go.Proofs.YtpkkgmcfificiaaDoor
open Go.RowKit Go.Shelf Go.Maps
set_option linter.unusedVariables false
set_option maxHeartbeats 1000000
set_option maxRecDepth 100000

theorem Kp.own {S : Nat → Prop} {w1 X X' : World} {row : Option Nat} (h : Kp S w1 X) (g : X.grownBy X' row) (hr : Rec w1.heap.size X row) : Kp S w1 X' :=
  ⟨g.os.trans h.os, g.tape.trans h.tape, g.output.trans h.output, Nat.le_trans h.size g.size, fun x hx hn => (g.block x (Nat.lt_of_lt_of_le hx h.size) (fun e => by have := (hr x e.symm).1; omega)).trans (h.block x hx hn)⟩
theorem bxOwn {X X' : World} {b M : Nat} {t : TypeId} {v : Value} {row : Option Nat} (h : Boxed X b t v) (g : X.grownBy X' row) (hr : Rec M X row) : Boxed X' b t v := h.kept g (hr.ne_blk (show Blk X b #[v] t from h))
theorem bxKp {S : Nat → Prop} {X X' : World} {b : Nat} {t : TypeId} {v : Value} (h : Boxed X b t v) (k : Kp S X X') (hn : ¬ S b) : Boxed X' b t v := (k.block b h.lt hn).trans h
theorem Kp.then {S S' : Nat → Prop} {A B C : World} (h : Kp S A B) (k : Kp S' B C) (hs : ∀ g, g < A.heap.size → S' g → S g) : Kp S A C :=
  ⟨k.os.trans h.os, k.tape.trans h.tape, k.output.trans h.output, Nat.le_trans h.size k.size, fun g hg hn => (k.block g (Nat.lt_of_lt_of_le hg h.size) (fun hS => hn (hs g hg hS))).trans (h.block g hg hn)⟩
theorem Kp.kf {S : Nat → Prop} {A B : World} {n : Nat} (k : Kp S A B) (hs : ∀ g, S g → g < n) : KeepsFrom n A B :=
  ⟨k.size, fun g o hg h1 _ => (k.block g (Array.getElem?_eq_some_iff.1 h1).1 (fun hS => by have := hs g hS; omega)).trans h1⟩

/-- What the first range may change. -/
def Uv (N M : Nat) (U : Nat → Prop) (g : Nat) : Prop := U g ∨ g = N + 1 + 1 + 1 ∨ g = M + 1 ∨ g = M + 1 + 1 ∨ g = M + 1 + 1 + 1
/-- The pair: as it was, or given. -/
def PwS (B : Nat) (U : Nat → Prop) (W R c : Nat) (T : List Tm) (x : OpD) (Z : Nat) : Bool → World → Prop
  | false, X => PWM B Z X U W R c T
  | true, X => ∃ U', PWM B Z X U' W R c (giveT T x) ∧ (∀ g, U g → U' g) ∧ ∀ g, U' g → U g ∨ Z ≤ g
structure I1 (B : Nat) (w : World) (U : Nat → Prop) (W R c : Nat) (T : List Tm) (x : OpD) (M : Nat) (w1 : World) (k : Nat) (d : Bool) (X : World) : Prop where
  kp : Kp (Uv w.heap.size M U) w1 X
  bk : Boxed X (M + 1) 3 (.int .i64 (k : Int))
  bi : Boxed X (M + 1 + 1) 3 (.int .i64 (if d then (T.length : Int) else 0))
  bo : Boxed X (M + 1 + 1 + 1) 4 (.bool true)
  br : Boxed X (w.heap.size + 1 + 1 + 1) 4 (.bool false)
  pw : PwS B U W R c T x w1.heap.size d X

theorem PwS.own {B : Nat} {U : Nat → Prop} {W R c : Nat} {T : List Tm} {x : OpD} {Z : Nat} {d : Bool} {X X' : World} {row : Option Nat} (h : PwS B U W R c T x Z d X) (g : X.grownBy X' row) (hr : Rec Z X row) : PwS B U W R c T x Z d X' := by
  cases d with
  | false => exact PWM.own h g hr
  | true =>
    obtain ⟨U', h1, h2, h3⟩ := h
    exact ⟨U', h1.own g hr, h2, h3⟩
theorem I1.own {B : Nat} {w : World} {U : Nat → Prop} {W R c : Nat} {T : List Tm} {x : OpD} {M : Nat} {w1 : World} {k : Nat} {d : Bool} {X X' : World} {row : Option Nat} (h : I1 B w U W R c T x M w1 k d X) (g : X.grownBy X' row) (hr : Rec w1.heap.size X row) : I1 B w U W R c T x M w1 k d X' :=
  ⟨h.kp.own g hr, bxOwn h.bk g hr, bxOwn h.bi g hr, bxOwn h.bo g hr, bxOwn h.br g hr, h.pw.own g hr⟩
theorem PwS.other {B : Nat} {w : World} {U V : Nat → Prop} {W R c : Nat} {T : List Tm} {x : OpD} {Z : Nat} {d : Bool} {X X' : World} (h : PwS B U W R c T x Z d X) (k : Kp V X X') (hU : ∀ g, U g → ¬ V g) (hZ : ∀ g, V g → g < Z) : PwS B U W R c T x Z d X' := by
  cases d with
  | false => exact PWM.other h k hU
  | true =>
    obtain ⟨U', h1, h2, h3⟩ := h
    exact ⟨U', h1.other k (fun g hg hv => (h3 g hg).elim (fun e => hU g e hv) (fun e => by have := hZ g hv; omega)), h2, h3⟩

/-- What is fixed, as it lies in X. -/
structure Fx (w : World) (W R : Nat) (T : List Tm) (x : OpD) (a : Option Addr) (cp M : Nat) (nn : Int) (X : World) : Prop where
  b0 : X.cell? ⟨w.heap.size, 0, none⟩ = some (ptr W)
  b1 : X.cell? ⟨w.heap.size + 1, 0, none⟩ = some (ptr R)
  id : X.cell? ⟨w.heap.size + 1 + 1, 2, none⟩ = some (.int .i64 x.id)
  at_ : X.cell? ⟨w.heap.size + 1 + 1, 3, none⟩ = some (.int .i64 x.at_)
  b4 : X.cell? ⟨w.heap.size + 1 + 1 + 1 + 1, 0, none⟩ = some (.slice a T.length cp)
  rd : RdT X (fun g => w.heap.size + 5 ≤ g ∧ g < M) 0 a cp T
  bn : X.cell? ⟨M, 0, none⟩ = some (.int .i64 nn)
  bw : X.cell? ⟨M + 1 + 1 + 1 + 1, 0, none⟩ = some (ptr W)
  bs : X.cell? ⟨M + 1 + 1 + 1 + 1 + 1, 0, none⟩ = some (seqV M)
  tb : Tb X
theorem G1.fx {B : Nat} {w : World} {U V : Nat → Prop} {W R c : Nat} {T : List Tm} {x : OpD} {a : Option Addr} {cp M : Nat} {nn : Int} {w1 X : World} (g : G1 B w U W R c T x a cp M nn w1) (k : Kp V w1 X) (hV : ∀ g, V g → g < w.heap.size ∧ g ≠ 0 ∨ g = w.heap.size + 1 + 1 + 1 ∨ g = M + 1 ∨ g = M + 1 + 1 ∨ g = M + 1 + 1 + 1) : Fx w W R T x a cp M nn X := by
  have nM := g.nM
  have h0 := g.tb.lt
  have n0 : ∀ {b : Nat}, w.heap.size ≤ b → b ≠ w.heap.size + 1 + 1 + 1 → b ≠ M + 1 → b ≠ M + 1 + 1 → b ≠ M + 1 + 1 + 1 → ¬ V b := fun {b} h1 h2 h3 h4 h5 hv => by
    rcases hV b hv with e | e | e | e | e
    · have := e.1; omega
    · exact h2 e
    · exact h3 e
    · exact h4 e
    · exact h5 e
  have bl : ∀ {b : Nat} {cs : Array Value} {t : TypeId}, Blk w1 b cs t → ¬ V b → Blk X b cs t := fun {b cs t} hb hn => (k.block b hb.lt hn).trans hb
  refine ⟨(bxKp g.b0 k (n0 (Nat.le_refl _) (by omega) (by omega) (by omega) (by omega))).cell, (bxKp g.b1 k (n0 (by omega) (by omega) (by omega) (by omega) (by omega))).cell, (bl g.b2 (n0 (by omega) (by omega) (by omega) (by omega) (by omega))).cell 2 _ rfl, (bl g.b2 (n0 (by omega) (by omega) (by omega) (by omega) (by omega))).cell 3 _ rfl, (bxKp g.b4 k (n0 (by omega) (by omega) (by omega) (by omega) (by omega))).cell, g.rd.kept k.size (fun b hb _ hl => k.block b hl (n0 (by omega) (by omega) (by omega) (by omega) (by omega))), (bxKp g.bn k (n0 (by omega) (by omega) (by omega) (by omega) (by omega))).cell, (bxKp g.bw k (n0 (by omega) (by omega) (by omega) (by omega) (by omega))).cell, (bxKp g.bs k (n0 (by omega) (by omega) (by omega) (by omega) (by omega))).cell, g.tb.kept (k.block 0 h0 (fun hv => ?_))⟩
  rcases hV 0 hv with e | e | e | e | e
  · exact e.2 rfl
  · omega
  · omega
  · omega
  · omega

/-- The first range. -/
def Ia (B : Nat) (w : World) (U : Nat → Prop) (W R c : Nat) (T : List Tm) (x : OpD) (M : Nat) (nn : Int) (w1 : World) (pre : List Tm) (X : World) : Prop :=
  I1 B w U W R c T x M w1 pre.length (!pre.isEmpty) X ∧ pre <+: T ∧ (nn = 0 ∨ (pre.length : Int) < nn)
def Ie (B : Nat) (w : World) (U : Nat → Prop) (W R c : Nat) (T : List Tm) (x : OpD) (M : Nat) (nn : Int) (w1 : World) (cd : Code) (pre : List Tm) (X : World) : Prop :=
  (cd = .ret ∧ ¬ pre <+: T) ∨ (cd = .exit 0 ∧ I1 B w U W R c T x M w1 pre.length (!pre.isEmpty) X ∧ pre <+: T ∧ pre ≠ [] ∧ nn = (pre.length : Int))
theorem ia_own (B : Nat) (w : World) (U : Nat → Prop) (W R c : Nat) (T : List Tm) (x : OpD) (M : Nat) (nn : Int) (w1 : World) : OwnFrom w1.heap.size (Ia B w U W R c T x M nn w1) := fun pre X X' row h g hr => ⟨h.1.own g hr, h.2⟩
theorem ie_own (B : Nat) (w : World) (U : Nat → Prop) (W R c : Nat) (T : List Tm) (x : OpD) (M : Nat) (nn : Int) (w1 : World) (cd : Code) : OwnFrom w1.heap.size (Ie B w U W R c T x M nn w1 cd) := fun pre X X' row h g hr => by
  rcases h with h | ⟨h1, h2, h3⟩
  · exact .inl h
  · exact .inr ⟨h1, h2.own g hr, h3⟩
theorem ia_start {B : Nat} {w : World} {U : Nat → Prop} {W R c : Nat} {T : List Tm} {x : OpD} {a : Option Addr} {cp M : Nat} {nn : Int} {w1 : World} (g : G1 B w U W R c T x a cp M nn w1) (hn : 0 ≤ nn) : Ia B w U W R c T x M nn w1 [] w1 :=
  ⟨⟨Kp.refl _ _, g.bk, g.bi, g.bo, g.b3, g.pw⟩, List.nil_prefix, by simp; omega⟩
/-- The range within the first round. -/
structure I2 (T : List Tm) (M : Nat) (Y : World) (pre : List Tm) (X : World) : Prop where
  kp : Kp (fun g => g = M + 1 + 1) Y X
  bi : Boxed X (M + 1 + 1) 3 (.int .i64 (pre.length : Int))
  le : pre.length ≤ T.length
theorem i2_own (T : List Tm) (M : Nat) (Y : World) : OwnFrom Y.heap.size (I2 T M Y) := fun pre X X' row h g hr => ⟨h.kp.own g hr, bxOwn h.bi g hr, h.le⟩
theorem I2.step {T : List Tm} {M : Nat} {Y : World} {pre : List Tm} {X : World} (h : I2 T M Y pre X) (y : Tm) (hM : M + 1 + 1 < Y.heap.size) (hle : pre.length + 1 ≤ T.length) :
    KeepsFrom Y.heap.size X (X.setCell ⟨M + 1 + 1, 0, none⟩ (.int .i64 ((pre.length : Int) + 1))) ∧ KC Y.heap.size X (X.setCell ⟨M + 1 + 1, 0, none⟩ (.int .i64 ((pre.length : Int) + 1))) ∧ I2 T M Y (pre ++ [y]) (X.setCell ⟨M + 1 + 1, 0, none⟩ (.int .i64 ((pre.length : Int) + 1))) := by
  have k : Kp (fun g => g = M + 1 + 1) X (X.setCell ⟨M + 1 + 1, 0, none⟩ (.int .i64 ((pre.length : Int) + 1))) := (Kp.refl _ X).set _ _ _ (fun _ => rfl)
  refine ⟨k.kf (fun g e => by omega), KC.of k (fun g e => by omega), h.kp.trans k, ?_, by simp; omega⟩
  have e : ((pre ++ [y]).length : Int) = (pre.length : Int) + 1 := by simp
  rw [e]
  exact Boxed.set _ h.bi

theorem kp_drew {S : Nat → Prop} {A B : World} (k : Kp S A.drew B) : Kp S A B := ⟨k.os, k.tape, k.output, k.size, k.block⟩
theorem drew_grown (A : World) : A.grownBy A.drew none := ⟨rfl, rfl, rfl, Nat.le_refl _, fun _ _ _ => rfl⟩
theorem st_drew {S S' : Nat → Prop} {A B : World} (s : St A.drew B S S') : St A B S S' := ⟨kp_drew s.kp, s.up, s.dn⟩

theorem i1_next {B : Nat} {w : World} {U : Nat → Prop} {W R c : Nat} {T : List Tm} {x : OpD} {M : Nat} {w1 Y X : World} {k : Nat} (h : I1 B w U W R c T x M w1 k true X) (kf : KeepsFrom w1.heap.size Y X) (kc : KC w1.heap.size Y X) (sz : w1.heap.size = M + 6) (nM : w.heap.size + 5 ≤ M) (hU : ∀ g, U g → g < w.heap.size) :
    I1 B w U W R c T x M w1 (k + 1) true (X.setCell ⟨M + 1, 0, none⟩ (.int .i64 ((k : Int) + 1))) ∧ KeepsFrom w1.heap.size Y (X.setCell ⟨M + 1, 0, none⟩ (.int .i64 ((k : Int) + 1))) ∧ KC w1.heap.size Y (X.setCell ⟨M + 1, 0, none⟩ (.int .i64 ((k : Int) + 1))) := by
  have kk : Kp (fun g => g = M + 1) X (X.setCell ⟨M + 1, 0, none⟩ (.int .i64 ((k : Int) + 1))) := (Kp.refl _ X).set _ _ _ (fun _ => rfl)
  refine ⟨⟨h.kp.then kk (fun g _ e => .inr (.inr (.inl e))), ?_, bxKp h.bi kk (by omega), bxKp h.bo kk (by omega), bxKp h.br kk (by omega), h.pw.other (w := w) kk (fun g hg e => by have := hU g hg; omega) (fun g e => by omega)⟩, kf.trans (kk.kf (fun g e => by omega)), kc.trans (KC.of kk (fun g e => by omega))⟩
  have e : ((k + 1 : Nat) : Int) = (k : Int) + 1 := by omega
  rw [e]
  exact Boxed.set _ h.bk

theorem kp_v1 {w : World} {U U1 : Nat → Prop} {M : Nat} {w1 Z wy V : World} (kZ : Kp (Uv w.heap.size M U) w1 Z) (s1 : St Z wy U U1) (k2 : Kp U1 wy V) : Kp (Uv w.heap.size M U) w1 V :=
  (kZ.then s1.kp (fun g _ h => .inl h)).then k2 (fun g hg h => (s1.dn g h).elim .inl (fun e => by have := kZ.size; omega))

theorem i1_given {B : Nat} {w : World} {U U1 U2 : Nat → Prop} {W R c : Nat} {T : List Tm} {x : OpD} {M : Nat} {w1 Y Z wy V : World} {y : Tm} (h : I1 B w U W R c T x M w1 0 false Y) (kYZ : Kp (fun g => g = M + 1 + 1) Y Z) (bi : Boxed Z (M + 1 + 1) 3 (.int .i64 (T.length : Int))) (s1 : St Z wy U U1) (pw2 : PWM B w1.heap.size V U2 W R c (armT (delT T (y.1 : Int)) x.id x.at_)) (s2 : St wy V U1 U2) (hp : T[0]? = some y) (sz : w1.heap.size = M + 6) (nM : w.heap.size + 5 ≤ M) (hU : ∀ g, U g → g < w.heap.size) :
    Boxed V (M + 1 + 1 + 1) 4 (.bool true) ∧ Boxed V (M + 1 + 1) 3 (.int .i64 (T.length : Int)) ∧ Kp (Uv w.heap.size M U) w1 V ∧ I1 B w U W R c T x M w1 0 true (V.setCell ⟨M + 1 + 1 + 1, 0, none⟩ (.bool true)) ∧ KeepsFrom w1.heap.size Y (V.setCell ⟨M + 1 + 1 + 1, 0, none⟩ (.bool true)) ∧ KC w1.heap.size Y (V.setCell ⟨M + 1 + 1 + 1, 0, none⟩ (.bool true)) := by
  have kZ : Kp (Uv w.heap.size M U) w1 Z := h.kp.then kYZ (fun g _ e => .inr (.inr (.inr (.inl e))))
  have kV := kp_v1 kZ s1 s2.kp
  have szZ := kZ.size
  have szY := kYZ.size
  have h1 := h.kp.size
  have nU : ∀ {b : Nat}, w.heap.size ≤ b → ¬ U b := fun {b} hb hu => by have := hU b hu; omega
  have nU1 : ∀ {b : Nat}, w.heap.size ≤ b → b < w1.heap.size → ¬ U1 b := fun {b} hb hl hu => by
    rcases s1.dn b hu with e | e
    · exact nU hb e
    · omega
  have up : ∀ {b : Nat} {t : TypeId} {v : Value}, Boxed Z b t v → w.heap.size ≤ b → b < w1.heap.size → Boxed V b t v := fun hb h1 h2 => bxKp (bxKp hb s1.kp (nU h1)) s2.kp (nU1 h1 h2)
  have kk : Kp (fun g => g = M + 1 + 1 + 1) V (V.setCell ⟨M + 1 + 1 + 1, 0, none⟩ (.bool true)) := (Kp.refl _ V).set _ _ _ (fun _ => rfl)
  have bo := up (bxKp h.bo kYZ (by omega)) (by omega) (by omega)
  have biV := up bi (by omega) (by omega)
  have kYV : Kp (fun g => U g ∨ g = M + 1 + 1) Y V := ((kYZ.mono (fun g _ e => .inr e)).then s1.kp (fun g _ e => .inl e)).then s2.kp (fun g hg e => by
    rcases s1.dn g e with e | e
    · exact .inl e
    · omega)
  have kAll : Kp (fun g => U g ∨ g = M + 1 + 1 ∨ g = M + 1 + 1 + 1) Y (V.setCell ⟨M + 1 + 1 + 1, 0, none⟩ (.bool true)) := (kYV.mono (fun g _ e => e.elim .inl (fun e => .inr (.inl e)))).then kk (fun g _ e => .inr (.inr e))
  have lt : ∀ g, (U g ∨ g = M + 1 + 1 ∨ g = M + 1 + 1 + 1) → g < w1.heap.size := fun g hg => by
    rcases hg with e | e | e
    · have := hU g e; omega
    · omega
    · omega
  refine ⟨bo, biV, kV, ⟨kV.then kk (fun g _ e => .inr (.inr (.inr (.inr e)))), bxKp (up (bxKp h.bk kYZ (by omega)) (by omega) (by omega)) kk (by omega), bxKp biV kk (by omega), Boxed.set _ bo, bxKp (up (bxKp h.br kYZ (by omega)) (by omega) (by omega)) kk (by omega), ?_⟩, kAll.kf lt, KC.of kAll lt⟩
  refine ⟨U2, ?_, fun g hg => s2.up g (s1.up g hg), fun g hg => ?_⟩
  · have e : giveT T x = armT (delT T (y.1 : Int)) x.id x.at_ := by
      cases T with
      | nil => simp at hp
      | cons p t => simp at hp; subst hp; rfl
    rw [e]
    refine pw2.other kk (fun g hg e => ?_)
    rcases s2.dn g hg with e1 | e1
    · exact nU1 (b := g) (by omega) (by omega) e1
    · have := s1.kp.size; omega
  · rcases s2.dn g hg with e1 | e1
    · rcases s1.dn g e1 with e2 | e2
      · exact .inl e2
      · exact .inr (by omega)
    · exact .inr (by have := s1.kp.size; omega)

theorem snoc_prefix {T pre : List Tm} {y : Tm} (h : pre <+: T) : pre ++ [y] <+: T ↔ T[pre.length]? = some y := by
  obtain ⟨t, rfl⟩ := h
  cases t with
  | nil =>
    simp only [List.append_nil, List.getElem?_eq_none (Nat.le_refl _), reduceCtorEq, iff_false]
    intro h
    have := h.length_le
    rw [List.length_append] at this
    simp at this
    omega
  | cons z t => simp [List.prefix_append_right_inj]; exact eq_comm
end Go.Proofs.YtpkkgmcfificiaaDoor

namespace Go.Proofs.YtpkkgmcfificiaaDoor
open Go.RowKit Go.Shelf Go.Maps
set_option linter.unusedVariables false
set_option maxHeartbeats 1000000
set_option maxRecDepth 100000

def noDefer (o : Oper) : Bool := match o.op with | .defer _ => false | _ => true
theorem noDefer_ne {o : Oper} (h : noDefer o = true) : ∀ c, o.op ≠ .defer c := fun c e => by
  unfold noDefer at h; rw [e] at h; cases h

theorem wpOpIn_round {F : Fence} {n : Nat} {P : Program} {ops : Array Oper} {Q : Exit → Act → World → Prop} {i : Nat} {K : Act → World → Prop} {a : Act} {w : World} (l : Nat) (hnd : ∀ o, ops[i]? = some o → noDefer o = true) (h : wpOpIn F n P ops Q i K a w) : wpOpIn (F.inRound l) n P ops Q i K a w := by
  unfold wpOpIn at *
  cases ho : ops[i]? with
  | none => rw [ho] at h; exact h
  | some o =>
    rw [ho] at h
    have hd := noDefer_ne (hnd o ho)
    simp only at h ⊢
    by_cases hw : Region.wanted o (yielded ops a.tmps) = true
    · rw [if_pos hw] at h ⊢
      unfold Oper.wpIn at h ⊢
      refine ⟨h.1, ?_⟩
      rw [Oper.semAt_plain (F.inRound l) _ _ hd]
      have h2 := h.2
      rw [Oper.semAt_plain F _ _ hd] at h2
      exact h2
    · rw [if_neg hw] at h ⊢
      exact h

theorem wpAnyIn_round {F : Fence} {n : Nat} {P : Program} {md : Region.Mode} {ops : Array Oper} {Q : Exit → Act → World → Prop} (l : Nat) (hnd : ∀ (i : Nat) o, ops[i]? = some o → noDefer o = true) : ∀ (fuel : Nat) (listed : Array Bool) (a : Act) (w : World), wpAnyIn F n P md ops Q fuel listed a w → wpAnyIn (F.inRound l) n P md ops Q fuel listed a w
  | 0, _, _, _, h => h
  | fuel + 1, listed, a, w, h => ⟨h.1, fun i hi => wpOpIn_round l (hnd i) (wpOpIn_mono (fun a' w' hh => wpAnyIn_round l hnd fuel _ a' w' hh) (h.2 i hi))⟩

theorem region_quiet_round {F : Fence} {n : Nat} {P : Program} {id l : Nat} {Q : Exit → Act → World → Prop} {a : Act} {w : World} {ls : List Oper} (hro : F.round = none) (hm : P.follows .mixedOrders = true) (hB : Region.lexB .any ls.toArray = true) (hnd : ls.all noDefer = true)
    (h : wpQuietIn F n P ls.toArray (fun w' => ∃ n, w' = w.drewN n) (fun a' => ∀ w', (∃ n, w' = w.drewN n) → Q .normal a' w') ls a) : (Code.region id ls.toArray true).wpIn (F.inRound l) n P Q a w := by
  refine wpIn_region_any hm (wpAnyIn_round l (fun i o ho => ?_) _ _ _ _ ?_)
  · have : o ∈ ls := by
      have h2 : ls[i]? = some o := by simpa using ho
      exact List.mem_of_getElem? h2
    exact List.all_eq_true.1 hnd o this
  · simp only [Region.lexB, Bool.and_eq_true] at hB
    refine wpAnyIn_of_quiet (C := fun w' => ∃ n, w' = w.drewN n) (Q := fun a' => ∀ w', (∃ n, w' = w.drewN n) → Q .normal a' w') hro (fun _ w' hw' h => h w' hw') _ _ _ _ ⟨1, rfl⟩ ?_
    have := wpAnyQIn_lex (F := F) (n := n) (C := fun w' => ∃ n, w' = w.drewN n) (md := .any) hB.1 ls.toArray.toList 0 (Array.replicate ls.toArray.size false) a (by simp) (by simpa using hB.2) (by simpa using h)
    simpa using this

/-- The world as the last range begins: b its count. -/
structure G3 (B : Nat) (w : World) (U : Nat → Prop) (W R c : Nat) (T : List Tm) (M k D b : Nat) (w2 : World) : Prop where
  pw : ∃ U', PWM B (M + 6) w2 U' W R c T ∧ (∀ g, U g → U' g) ∧ ∀ g, U' g → (U g ∨ M + 6 ≤ g) ∧ g < b
  kp : Kp U w w2
  b1 : Boxed w2 (w.heap.size + 1) 26 (ptr R)
  br : Boxed w2 (w.heap.size + 1 + 1 + 1) 4 (.bool false)
  bn : Boxed w2 M 3 (.int .i64 (k : Int))
  bk : Boxed w2 (M + 1) 3 (.int .i64 (k : Int))
  bo : Boxed w2 (M + 1 + 1 + 1) 4 (.bool true)
  bw : Boxed w2 (M + 1 + 1 + 1 + 1) 24 (ptr W)
  bs : Boxed w2 (M + 1 + 1 + 1 + 1 + 1) 85 (seqV M)
  ba : Boxed w2 b 3 (.int .i64 0)
  tb : Tb w2
  hb : M + 6 ≤ b ∧ w2.heap.size = b + 1
  hD : w2.heap[D]? = some (.deferred (some []))
  hDl : M + 6 ≤ D
  nM : w.heap.size + 5 ≤ M
  hU : ∀ g, U g → g < w.heap.size

/-- The last range. -/
structure I3 (w : World) (T : List Tm) (b : Nat) (w2 : World) (pre : List Tm) (X : World) : Prop where
  kp : Kp (fun g => g = b ∨ g = w.heap.size + 1 + 1 + 1) w2 X
  ba : Boxed X b 3 (.int .i64 (pre.length : Int))
  br : Boxed X (w.heap.size + 1 + 1 + 1) 4 (.bool false)
  pf : pre <+: T
theorem i3_own (w : World) (T : List Tm) (b : Nat) (w2 : World) : OwnFrom w2.heap.size (I3 w T b w2) := fun pre X X' row h g hr => ⟨h.kp.own g hr, bxOwn h.ba g hr, bxOwn h.br g hr, h.pf⟩
theorem I3.step {w : World} {T : List Tm} {b : Nat} {w2 : World} {pre : List Tm} {X : World} (h : I3 w T b w2 pre X) {y : Tm} (hy : T[pre.length]? = some y) (hb : b < w2.heap.size) (hn : b ≠ w.heap.size + 1 + 1 + 1) :
    KeepsFrom w2.heap.size X (X.setCell ⟨b, 0, none⟩ (.int .i64 ((pre.length : Int) + 1))) ∧ KC w2.heap.size X (X.setCell ⟨b, 0, none⟩ (.int .i64 ((pre.length : Int) + 1))) ∧ I3 w T b w2 (pre ++ [y]) (X.setCell ⟨b, 0, none⟩ (.int .i64 ((pre.length : Int) + 1))) := by
  have k : Kp (fun g => g = b) X (X.setCell ⟨b, 0, none⟩ (.int .i64 ((pre.length : Int) + 1))) := (Kp.refl _ X).set _ _ _ (fun _ => rfl)
  refine ⟨k.kf (fun g e => by omega), KC.of k (fun g e => by omega), h.kp.then k (fun g _ e => .inl e), ?_, bxKp h.br k (by omega), (snoc_prefix h.pf).2 hy⟩
  have e : ((pre ++ [y]).length : Int) = (pre.length : Int) + 1 := by simp
  rw [e]
  exact Boxed.set _ h.ba
/-- The document's list, as it is read between two rounds. -/
theorem G3.read {B : Nat} {w : World} {U : Nat → Prop} {W R c : Nat} {T : List Tm} {M k D b : Nat} {w2 X : World} (g : G3 B w U W R c T M k D b w2) (kx : Kp (fun g => g = b ∨ g = w.heap.size + 1 + 1 + 1) w2 X) :
    ∃ a cp, X.cell? ⟨R, 1, none⟩ = some (.slice a T.length cp) ∧ RdT X (fun _ => True) R a cp T := by
  obtain ⟨U', p, -, dn⟩ := g.pw
  obtain ⟨S, Q, wl, rw, dj, hs⟩ := (p.other kx (fun x hx e => by
    have := g.nM; have := g.hb; have := (dn x hx).2
    rcases (dn x hx).1 with h | h
    · have := g.hU x h; omega
    · omega)).ex
  obtain ⟨a, cp, bl, rd⟩ := rw.ex
  exact ⟨a, cp, bl.cell 1 _ rfl, rd.cap, rd.at_.imp id (fun ⟨x, off, e, hn, hq, hl, hc⟩ => ⟨x, off, e, hn, trivial, hl, hc⟩)⟩

theorem g3_start {B : Nat} {w : World} {U : Nat → Prop} {W R c : Nat} {T : List Tm} {x : OpD} {a : Option Addr} {cp M : Nat} {nn : Int} {w1 Y Y2 : World} {k D : Nat} {d : Bool} (g : G1 B w U W R c T x a cp M nn w1) (hB : 0 < B) (h : I1 B w U W R c T x M w1 k d Y) (hd : d = true ∨ T = []) (k2 : Kp (fun g => g = M) Y Y2) (bn : Boxed Y2 M 3 (.int .i64 (k : Int))) (hD : Y.heap[D]? = some (.deferred (some []))) (hDl : w1.heap.size ≤ D) :
    G3 B w U W R c (giveT T x) M k D Y2.heap.size (Y2.alloc (.cells #[.int .i64 0] 3)) := by
  have gA := World.grownBy_alloc Y2 (.cells #[.int .i64 0] 3) none
  have ba := Blk.new Y2 #[.int .i64 0] 3
  have zA : (Y2.alloc (.cells #[.int .i64 0] 3)).heap.size = Y2.heap.size + 1 := World.size_alloc _ _
  generalize Y2.alloc (.cells #[.int .i64 0] 3) = w2 at *
  have sz := g.sz
  have nM := g.nM
  have zY := h.kp.size
  have zY2 := k2.size
  have kA : Kp (fun _ => False) Y2 w2 := Kp.grown gA _
  have nUv : ∀ {q : Nat}, w.heap.size ≤ q → q ≠ w.heap.size + 1 + 1 + 1 → q ≠ M + 1 → q ≠ M + 1 + 1 → q ≠ M + 1 + 1 + 1 → ¬ Uv w.heap.size M U q := fun {q} h0 h1 h2 h3 h4 hv => by
    rcases hv with e | e | e | e | e
    · have := g.hU q e; omega
    · exact h1 e
    · exact h2 e
    · exact h3 e
    · exact h4 e
  have up : ∀ {q : Nat} {t : TypeId} {v : Value}, Boxed Y q t v → q ≠ M → Boxed w2 q t v := fun hb hn => bxKp (bxKp hb k2 hn) kA (fun e => e)
  have U0 : ¬ Uv w.heap.size M U 0 := fun hv => by
    rcases hv with e | e | e | e | e
    · have := (g.pw.lt 0 e).1; omega
    all_goals omega
  have t0 := g.tb.lt
  refine ⟨?_, ?_, up (bxKp g.b1 h.kp (nUv (by omega) (by omega) (by omega) (by omega) (by omega))) (by omega), up h.br (by omega), bxKp bn kA (fun e => e), up h.bk (by omega), up h.bo (by omega), up (bxKp g.bw h.kp (nUv (by omega) (by omega) (by omega) (by omega) (by omega))) (by omega), up (bxKp g.bs h.kp (nUv (by omega) (by omega) (by omega) (by omega) (by omega))) (by omega), ba, ?_, ⟨by omega, zA⟩, ?_, by omega, nM, g.hU⟩
  · cases d with
    | false =>
      have e : T = [] := hd.resolve_left (by simp)
      subst e
      have p : PWM B w1.heap.size Y U W R c [] := h.pw
      rw [sz] at p
      exact ⟨U, ((p.other k2 (fun q hq e => by have := g.hU q hq; omega)).grown gA), fun _ h => h, fun q hq => ⟨.inl hq, by have := g.hU q hq; omega⟩⟩
    | true =>
      obtain ⟨U', p, u1, d1⟩ := h.pw
      rw [sz] at p
      refine ⟨U', ((p.other k2 (fun q hq e => ?_)).grown gA), u1, fun q hq => ⟨(d1 q hq).imp id (fun e => by omega), by have := (p.lt q hq).2; omega⟩⟩
      rcases d1 q hq with e1 | e1
      · have := g.hU q e1; omega
      · omega
  · refine (((Kp.grown g.gr U).then h.kp (fun q hq hv => ?_)).then k2 (fun q hq e => by omega)).then kA (fun _ _ e => e.elim)
    rcases hv with e | e | e | e | e
    · exact e
    all_goals omega
  · have b0 : w2.heap[0]? = w1.heap[0]? := (kA.block 0 (by omega) (fun e => e)).trans ((k2.block 0 (by omega) (by omega)).trans (h.kp.block 0 t0 U0))
    exact g.tb.kept b0
  · have hl : D < Y.heap.size := (Array.getElem?_eq_some_iff.1 hD).1
    exact (kA.block D (by omega) (fun e => e)).trans ((k2.block D hl (by omega)).trans hD)

theorem I3.drewN {w : World} {T : List Tm} {b : Nat} {w2 : World} {pre : List Tm} {X : World} (h : I3 w T b w2 pre X) (q : Nat) : I3 w T b w2 pre (X.drewN q) := ⟨h.kp.drewN q, h.ba, h.br, h.pf⟩

/-- The end: what the two marks leave. -/
theorem g3_end {B : Nat} {w : World} {U : Nat → Prop} {W R c : Nat} {T : List Tm} {M k D D2 b : Nat} {w2 X : World} (g : G3 B w U W R c T M k D b w2) {ys : List Tm} (i : I3 w T b w2 ys X) (hD2 : X.heap[D2]? = some (.deferred (some []))) (hl : w2.heap.size ≤ D2) (X1 : World) (hX1 : X1 = X.setCell ⟨w.heap.size + 1 + 1 + 1, 0, none⟩ (.bool true) ∨ X1 = (X.setCell ⟨w.heap.size + 1 + 1 + 1, 0, none⟩ (.bool true)).drew) :
    X1.heap[D2]? = some (.deferred (some [])) ∧ (X1.putObj D2 (.deferred none)).heap[D]? = some (.deferred (some [])) ∧ ((X1.putObj D2 (.deferred none)).putObj D (.deferred none)).cell? ⟨w.heap.size + 1 + 1 + 1, 0, none⟩ = some (.bool true) ∧ ∃ U', PW B ((X1.putObj D2 (.deferred none)).putObj D (.deferred none)) U' W R c T ∧ St w ((X1.putObj D2 (.deferred none)).putObj D (.deferred none)) U U' := by
  have nM := g.nM
  have hb := g.hb
  have hDl := g.hDl
  have hDs : D < w2.heap.size := (Array.getElem?_eq_some_iff.1 g.hD).1
  have k1 : Kp (fun q => q = w.heap.size + 1 + 1 + 1) X X1 := by
    have : Kp (fun q => q = w.heap.size + 1 + 1 + 1) X (X.setCell ⟨w.heap.size + 1 + 1 + 1, 0, none⟩ (.bool true)) := (Kp.refl _ X).set _ _ _ (fun _ => rfl)
    rcases hX1 with rfl | rfl
    · exact this
    · exact this.drewN 1
  have bx : Boxed X1 (w.heap.size + 1 + 1 + 1) 4 (.bool true) := by
    have : Boxed (X.setCell ⟨w.heap.size + 1 + 1 + 1, 0, none⟩ (.bool true)) (w.heap.size + 1 + 1 + 1) 4 (.bool true) := Boxed.set _ i.br
    rcases hX1 with rfl | rfl
    · exact this
    · exact this
  have kw : Kp (fun q => q = b ∨ q = w.heap.size + 1 + 1 + 1) w2 X1 := i.kp.then k1 (fun q _ e => .inr e)
  have l2 : D2 < X.heap.size := (Array.getElem?_eq_some_iff.1 hD2).1
  have e2 : X1.heap[D2]? = some (.deferred (some [])) := (k1.block D2 l2 (by omega)).trans hD2
  have bD : D ≠ b := fun e => by
    have h1 := g.hD
    have h2 : w2.heap[b]? = _ := g.ba
    rw [e, h2] at h1; cases h1
  have e1 : X1.heap[D]? = some (.deferred (some [])) := (kw.block D hDs (fun e => by rcases e with e | e; exact bD e; omega)).trans g.hD
  have e1' : (X1.putObj D2 (.deferred none)).heap[D]? = some (.deferred (some [])) := (World.putObj_heap_other (by omega)).trans e1
  have r2 : Rec (M + 6) X1 (some D2) := fun r e => by cases e; exact ⟨by omega, _, e2, rfl⟩
  have r1 : Rec (M + 6) (X1.putObj D2 (.deferred none)) (some D) := fun r e => by cases e; exact ⟨hDl, _, e1', rfl⟩
  have q2 := grownBy_putObj' X1 D2 (.deferred none)
  have q1 := grownBy_putObj' (X1.putObj D2 (.deferred none)) D (.deferred none)
  obtain ⟨U', p, up, dn⟩ := g.pw
  have pX : PWM B (M + 6) X1 U' W R c T := p.other kw (fun q hq e => by
    have := (dn q hq).2
    rcases (dn q hq).1 with h | h
    · have := g.hU q h; omega
    · omega)
  refine ⟨e2, e1', (bxOwn (bxOwn bx q2 r2) q1 r1).cell, U', ((pX.own q2 r2).own q1 r1).pw, ?_, up, fun q hq => (dn q hq).1.imp id (fun e => by omega)⟩
  refine ((g.kp.then kw (fun q hq e => by omega)).then (Kp.grownS q2 (S := fun q => q = D2) rfl) (fun q hq e => ?_)).then (Kp.grownS q1 (S := fun q => q = D) rfl) (fun q hq e => by omega)
  have := g.kp.size; omega
end Go.Proofs.YtpkkgmcfificiaaDoor
