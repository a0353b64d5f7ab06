/- Two roads beside one another. -/
import Derived.Test.YtbdjlhkgpblebaaDoorY2U
namespace Go.Proofs.YtbdjlhkgpblebaaDoor
open Go.RowKit Go.Shelf Go.Maps
set_option linter.unusedVariables false
set_option linter.unusedSimpArgs false
set_option maxRecDepth 100000
set_option maxHeartbeats 1000000

structure TW (w0 w : World) (S1 : Nat → Prop) (r : Nat) (R1 : Rs) (S2 : Nat → Prop) (s : Nat) (R2 : Rs) : Prop where
  a : RI w0.heap.size w S1 r R1
  b : RI w0.heap.size w S2 s R2
  dis : ∀ g, S1 g → ¬ S2 g
  bel : Below w0.heap.size w0 w
  tb : Tb w
section
variable {w0 w w' : World} {S1 S1' S2 : Nat → Prop} {r s : Nat} {R1 R1' R2 : Rs}
theorem TW.swap (h : TW w0 w S1 r R1 S2 s R2) : TW w0 w S2 s R2 S1 r R1 := ⟨h.b, h.a, fun g h2 h1 => h.dis g h1 h2, h.bel, h.tb⟩
theorem TW.grown (h : TW w0 w S1 r R1 S2 s R2) (g : w.grownBy w' none) : TW w0 w' S1 r R1 S2 s R2 :=
  ⟨h.a.grown g, h.b.grown g, h.dis, h.bel.trans ((grown_bel g).mono h.bel.size), h.tb.grown g⟩
theorem TW.step (h : TW w0 w S1 r R1 S2 s R2) (h0 : 0 < w0.heap.size) (ri : RI w0.heap.size w' S1' r R1') (st : St w w' S1 S1') : TW w0 w' S1' r R1' S2 s R2 := by
  have b := st.kp.bel (fun g hg => (h.a.lt g hg).1) h.bel.size
  refine ⟨ri, h.b.other st.kp (fun g h2 h1 => h.dis g h1 h2), fun g h1 h2 => ?_, h.bel.trans b, h.tb.bel b h0⟩
  rcases st.dn g h1 with h3 | h3
  · exact h.dis g h3 h2
  · have := (h.b.lt g h2).2; omega
/-- A block of neither's is written. -/
theorem TW.wrote (h : TW w0 w S1 r R1 S2 s R2) (h0 : 0 < w0.heap.size) {S : Nat → Prop} (k : Kp S w w') (hS : ∀ g, S g → w0.heap.size ≤ g ∧ ¬ S1 g ∧ ¬ S2 g) : TW w0 w' S1 r R1 S2 s R2 := by
  have b := k.bel (fun g hg => (hS g hg).1) h.bel.size
  exact ⟨h.a.other k (fun g h1 hs => (hS g hs).2.1 h1), h.b.other k (fun g h1 hs => (hS g hs).2.2 h1), h.dis, h.bel.trans b, h.tb.bel b h0⟩

theorem putC_any {b : Nat} {S : Nat → Prop} {R : Rs} (h : RI b w S r R) (now to mark : Int) (a : Option Addr) (n cap : Nat) (tx : List Int) (hl : tx.length = n) (hr : Rd w a tx) (hb : ∀ g off, tx ≠ [] → a = some ⟨g, off, none⟩ → ¬ S g) (hnx : R.nx < 4611686018427387904) :
    Calls Tryd.prog 7 #[ptr r, .int .i64 now, .int .i64 to, .slice a n cap, .int .i64 mark] w (CallP b w S r (putS R now to tx mark) (.tuple #[.int .i64 (putN R to mark n), .int .i64 (putE R to mark n)])) := by
  by_cases h1 : isEndT to ∧ isMarkT mark
  · by_cases h2 : 9000 < n
    · have := put_long h now to mark a n cap h1.1 h1.2 h2
      have e1 : putS R now to tx mark = passS R now := by unfold putS; rw [if_neg (by simp [h1]), if_pos (by omega)]
      have e2 : putN R to mark n = 0 ∧ putE R to mark n = 2 := by unfold putN putE; rw [if_neg (by simp [h1]), if_pos h2, if_neg (by simp [h1]), if_pos h2]; exact ⟨rfl, rfl⟩
      rw [e1, e2.1, e2.2]
      exact this
    · have := put_ok h now to mark a n cap tx h1.1 h1.2 hl (by omega) hr hb hnx
      have e1 : putS R now to tx mark = layS (passS R now) ⟨0, to, (passS R now).now + R.sp, tx, mark⟩ := by unfold putS; rw [if_neg (by simp [h1]), if_neg (by omega)]
      have e2 : putN R to mark n = layN R ∧ putE R to mark n = layE R := by unfold putN putE; rw [if_neg (by simp [h1]), if_neg h2, if_neg (by simp [h1]), if_neg h2]; exact ⟨rfl, rfl⟩
      rw [e1, e2.1, e2.2]
      exact this
  · have := put_bad h now to mark a n cap h1
    have e1 : putS R now to tx mark = passS R now := by unfold putS; rw [if_pos h1]
    have e2 : putN R to mark n = 0 ∧ putE R to mark n = 1 := by unfold putN putE; rw [if_pos h1, if_pos h1]; exact ⟨rfl, rfl⟩
    rw [e1, e2.1, e2.2]
    exact this
theorem putS_nx (R : Rs) (now to : Int) (tx : List Int) (mark : Int) : (putS R now to tx mark).nx ≤ R.nx + 1 := by
  unfold putS
  split
  · exact Nat.le_succ _
  · split
    · exact Nat.le_succ _
    · unfold layS
      split
      · exact Nat.le_succ _
      · exact Nat.le_refl _
theorem delayS_nx (R : Rs) (id a : Int) : (delayS R id a).nx = R.nx := by unfold delayS; split <;> rfl

theorem put_tw (h : TW w0 w S1 r R1 S2 s R2) (h0 : 0 < w0.heap.size) (now to mark : Int) (a : Option Addr) (n cap : Nat) (tx : List Int) (hl : tx.length = n) (hr : Rd w a tx) (hb : ∀ g off, tx ≠ [] → a = some ⟨g, off, none⟩ → ¬ S1 g) (hnx : R1.nx < 4611686018427387904) :
    Calls Tryd.prog 7 #[ptr r, .int .i64 now, .int .i64 to, .slice a n cap, .int .i64 mark] w fun e w' => e = .returned (.tuple #[.int .i64 (putN R1 to mark n), .int .i64 (putE R1 to mark n)]) ∧ ∃ S1', TW w0 w' S1' r (putS R1 now to tx mark) S2 s R2 ∧ w.heap.size ≤ w'.heap.size := by
  refine (putC_any h.a now to mark a n cap tx hl hr hb hnx).mono ?_
  rintro e w' ⟨rfl, S', q, st⟩
  exact ⟨rfl, S', h.step h0 q st, st.kp.size⟩
theorem delay_tw (h : TW w0 w S1 r R1 S2 s R2) (h0 : 0 < w0.heap.size) (id : Nat) (a : Int) (hid : id < 4611686018427387904) (hnx : R1.nx ≤ 4611686018427387904) :
    Calls Tryd.prog 13 #[ptr r, .int .i64 (id : Int), .int .i64 a] w fun e w' => (∃ v, e = .returned (.int .i64 v)) ∧ ∃ S1', TW w0 w' S1' r (delayS R1 id a) S2 s R2 := by
  refine (delay_any h.a id a hid hnx).mono ?_
  rintro e w' ⟨rfl, S', q, st⟩
  exact ⟨⟨_, rfl⟩, S', h.step h0 q st⟩

/-- What Take leaves of two. -/
def TakeT (w0 w : World) (S1 : Nat → Prop) (r : Nat) (R1 : Rs) (S2 : Nat → Prop) (s : Nat) (R2 : Rs) (t : Int) (a : Option Addr) (m c : Nat) (w' : World) : Prop :=
  ∃ L n2 S1', L.length = m ∧ w.heap.size ≤ n2 ∧ n2 ≤ w'.heap.size ∧ w'.ownsRow n2 35 5 (.slice a m c) m (clF L) ∧ (∀ f ∈ L, FlOk n2 w' f) ∧ Told R1.B (adv R1.now t) (L.map Fl.g) ∧ TW w0 w' S1' r (takeS R1 t) S2 s R2 ∧ (∀ g, S1' g → g < n2) ∧ (∀ g, S2 g → g < n2) ∧ Kp S1 w w' ∧ L.length ≤ 4096 ∧ ∀ g, S1' g → S1 g ∨ w.heap.size ≤ g
theorem take_tw (h : TW w0 w S1 r R1 S2 s R2) (h0 : 0 < w0.heap.size) (t : Int) (hnx : R1.nx ≤ 4611686018427387904) :
    Calls Tryd.prog 11 #[ptr r, .int .i64 t] w fun e w' => ∃ a m c, e = .returned (.slice a m c) ∧ Hid (TakeT w0 w S1 r R1 S2 s R2 t a m c w') := by
  refine (take_any h.a h.tb h0 t hnx).mono ?_
  rintro e w' ⟨a, m, c', n2, S', L, rfl, hm, hn, hn2, ro, fo, td, ri, st, lo⟩
  refine ⟨a, m, c', rfl, L, n2, S', hm, hn, hn2, ro, fo, td, h.step h0 ri st, lo, fun g hg => ?_, st.kp, ?_, st.dn⟩
  · have := (h.b.lt g hg).2; omega
  · have := td.p.length_eq
    rw [List.length_map] at this
    rw [this]
    unfold dueB
    exact Nat.le_trans (List.length_filter_le _ _) h.a.b4.1
end
/-- In two steps as in one. -/
theorem takes_chain {w0 w : World} {S1 S2 : Nat → Prop} {r s : Nat} {R : Rs} (h : TW w0 w S1 r R S2 s R) (h0 : 0 < w0.heap.size) (X Y : Int) (hXY : X ≤ Y) (hnx : R.nx ≤ 4611686018427387904) :
    Calls Tryd.prog 11 #[ptr r, .int .i64 X] w fun e w4 => ∃ a1 m1 c1, e = .returned (.slice a1 m1 c1) ∧ Hid (Calls Tryd.prog 11 #[ptr r, .int .i64 Y] w4 fun e w5 => ∃ a2 m2 c2, e = .returned (.slice a2 m2 c2) ∧
      Hid (∃ a4 m4 c4 w6, (Builtin.append_ #[28, 28] 28 #[.slice a1 m1 c1, .slice a2 m2 c2]).run Tryd.prog w5 = .ok (.slice a4 m4 c4) w6 ∧
        Hid (Calls Tryd.prog 11 #[ptr s, .int .i64 Y] w6 fun e w7 => ∃ a3 m3 c3, e = .returned (.slice a3 m3 c3) ∧
          Hid (Calls Tryd.prog 14 #[.slice a4 m4 c4, .slice a3 m3 c3] w7 fun e w8 => e = .returned (.bool true) ∧ Below w0.heap.size w0 w8)))) := by
  obtain ⟨q1, q2, q3⟩ := adv_adv R.now X Y h.a.b4.2.2.2.1 hXY
  refine (take_tw h h0 X hnx).mono ?_
  rintro e w4 ⟨a1, m1, c1, rfl, H1⟩
  refine ⟨a1, m1, c1, rfl, ?_⟩
  obtain ⟨L1, n1, Sa, l1, lo1, hi1, ro1, fo1, td1, tw1, sa1, sb1, k1, le1, dn1⟩ := unhide H1
  refine (take_tw tw1 h0 Y hnx).mono ?_
  rintro e w5 ⟨a2, m2, c2, rfl, H2⟩
  refine ⟨a2, m2, c2, rfl, ?_⟩
  obtain ⟨L2, n2, Sc, l2, lo2, hi2, ro2, fo2, td2, tw2, sa2, sb2, k2, le2, dn2⟩ := unhide H2
  have ro1' : w5.ownsRow n1 35 5 (.slice a1 m1 c1) m1 (clF L1) := rows_kept ro1 (fun g e => k2.block g (ro1.lt g e).2 (fun hs => by have := (ro1.lt g e).1; have := sa1 g hs; omega))
  have fo1' : ∀ f ∈ L1, FlOk n1 w5 f := fun f hf => (fo1 f hf).kept k2.size (k2.block f.db (fo1 f hf).lt (fun hs => by have := (fo1 f hf).lo; have := sa1 _ hs; omega))
  have hz2 := k2.size
  have hz1 := k1.size
  obtain ⟨a4, c4, w6, hrun, ro4, g6⟩ := app_fls l1 ro1' l2 ro2 (by omega) (by omega)
  refine ⟨a4, m1 + m2, c4, w6, hrun, ?_⟩
  have own1 : ∀ g, (Value.slice a1 m1 c1).ownBlock = some g → n1 ≤ g ∧ g < w4.heap.size := fun g e => ro1.lt g e
  have k6 : Kp (fun g => (Value.slice a1 m1 c1).ownBlock = some g) w5 w6 := ⟨g6.os, g6.tape, g6.output, g6.size, fun g hg hn => g6.block g hg (fun e => hn e.symm)⟩
  have tw6 : TW w0 w6 Sc r (takeS (takeS R X) Y) S2 s R := tw2.wrote h0 k6 (fun g e => by
    have := own1 g e
    have := h.bel.size
    refine ⟨by omega, fun hs => ?_, fun hs => ?_⟩
    · rcases dn2 g hs with q | q
      · have := sa1 g q; omega
      · omega
    · have := sb1 g hs; omega)
  have dbn : ∀ (n : Nat) (f : Fl), FlOk n w5 f → (Value.slice a1 m1 c1).ownBlock ≠ some f.db := fun n f hf e => by
    obtain ⟨cur, hb⟩ := row_blk ro1' e
    obtain ⟨cs, hc, -⟩ := hf.blk
    unfold Blk at hb
    rw [hc] at hb
    injection hb with hb
    injection hb with q1 q2 q3
    exact absurd q2 (by decide)
  have fo6 : ∀ f ∈ L1 ++ L2, FlOk n1 w6 f := fun f hf => by
    rcases List.mem_append.1 hf with hf | hf
    · exact (fo1' f hf).kept g6.size (g6.block f.db (fo1' f hf).lt (fun e => dbn _ f (fo1' f hf) e.symm))
    · have q := fo2 f hf
      exact (q.mono (by omega)).kept g6.size (g6.block f.db q.lt (fun e => dbn _ f q e.symm))
  refine (take_tw tw6.swap h0 Y hnx).mono ?_
  rintro e w7 ⟨a3, m3, c3, rfl, H3⟩
  refine ⟨a3, m3, c3, rfl, ?_⟩
  obtain ⟨L3, n3, Sd, l3, lo3, hi3, ro3, fo3, td3, tw7, sa3, sb3, k7, le3, dn3⟩ := unhide H3
  have own4 : ∀ g, (Value.slice a4 (m1 + m2) c4).ownBlock = some g → n1 ≤ g := fun g e => (ro4.lt g e).1
  have ro4' := rows_kept ro4 (w' := w7) (fun g e => k7.block g (ro4.lt g e).2 (fun hs => by have := own4 g e; have := sb1 g hs; omega))
  have fo7 : ∀ f ∈ L1 ++ L2, FlOk n1 w7 f := fun f hf => (fo6 f hf).kept k7.size (k7.block f.db (fo6 f hf).lt (fun hs => by have := (fo6 f hf).lo; have := sb1 _ hs; omega))
  have td12 : Told R.B (adv R.now Y) (L1.map Fl.g ++ L2.map Fl.g) := by
    refine told_split q2 td1 ?_
    have e1 : (takeS R X).now = adv R.now X := rfl
    have e2 : (takeS R X).B = lateB R.B (adv R.now X) := rfl
    rw [e1, e2, q1] at td2
    exact td2
  have eqs : L1.map Fl.g ++ L2.map Fl.g = L3.map Fl.g := told_eq td12 td3
  have e3 : m3 = m1 + m2 := by
    have := congrArg List.length eqs
    simp only [List.length_append, List.length_map] at this
    omega
  subst e3
  obtain ⟨r4, l4, x1, x2⟩ := rdF_row ro4' (fun f hf => (fo7 f hf).rd)
  obtain ⟨r3, l3', y1, y2⟩ := rdF_row ro3 (fun f hf => (fo3 f hf).rd)
  refine (alike_true a4 a3 (m1 + m2) c4 c3 (L1 ++ L2) L3 l4 l3' (by rw [List.map_append]; exact eqs) ⟨x1, x2⟩ ⟨y1, y2⟩ w7 r4 r3).mono ?_
  rintro e w8 ⟨rfl, g8⟩
  exact ⟨rfl, (tw7.grown g8).bel⟩
end Go.Proofs.YtbdjlhkgpblebaaDoor
