/- S9A, S9B, S9C, S9D, S9E, S9F, S9G, S9H, one text. -/
import Derived.Test.YtdalekjpjnhboaaM9B
import Derived.Test.YtdalekjpjnhboaaM9C
import Derived.Deep.RegionHeld3
namespace Go.Proofs.Ytdalekjpjnhboaa
open Go.RowKit
set_option linter.unusedVariables false
set_option maxHeartbeats 1000000
set_option maxRecDepth 100000

/-- A pair behind the code's call, ahead of the document's. -/
structure PMs (X : World) (b rb : Nat) (P : Nat → Prop) (S' S : Sd) (M : Nat → Prop) (ba bl : Nat) (vh vt vi : Value) (Y : World) : Prop where
  at_ : At Y M b ba bl vh Y S'
  rs : RS 0 Y rb vt vi S
  dis : ∀ g, M g → ¬ Rm rb vt vi g
  lt : ∀ g, M g → g < Y.heap.size
  pM : ∀ g, M g → P g ∨ X.heap.size ≤ g
  pR : ∀ g, Rm rb vt vi g → P g
  rl : ∀ g, Rm rb vt vi g → g < X.heap.size
  kp : Kp P X Y
/-- What a step of both leaves. -/
def PrP (X : World) (b rb : Nat) (P : Nat → Prop) (S' : Sd) (Z : World) : Prop := ∃ P', PR Z b rb P' S' ∧ (∀ g, P' g → P g ∨ X.heap.size ≤ g) ∧ Kp P X Z

section
variable {X Y Z : World} {b rb : Nat} {P D : Nat → Prop} {S S' : Sd} {M M' : Nat → Prop} {ba bl ba' bl' : Nat} {vh vh' vt vi vt' vi' : Value}

theorem PRs.code' (h : PRs X b rb P S M ba bl vh vt vi) (k : Kp M X Y) (a : At Y M' b ba' bl' vh' Y S') (hM : ∀ g, M' g → M g ∨ X.heap.size ≤ g) : PMs X b rb P S' S (fun g => M' g ∧ g < Y.heap.size) ba' bl' vh' vt vi Y := by
  obtain ⟨va, vl, s1, s2, d, m1, m2⟩ := a.sets
  have e : ∀ {g : Nat}, M' g ∨ Y.heap.size ≤ g → g < Y.heap.size → (M' g ∧ g < Y.heap.size) ∨ Y.heap.size ≤ g := fun q l => .inl ⟨q.resolve_right (by omega), l⟩
  refine ⟨⟨Kp.refl _ _, a.blk, ⟨va, vl, s1, s2, d, fun g q => e (m1 g q) (row_lt s1.row g q), fun g q => e (m2 g q) (row_lt s2.row g q)⟩, a.ring, a.ne, e a.mb a.blk.lt, e a.ma (setAt_lt s1), e a.ml (setAt_lt s2), fun g q => e (a.mh g q) (a.ring.lt g q), a.tb⟩, RF.kp h.rs k fun g q m => h.dis g m q, fun g q r => ?_, fun g q => q.2, fun g q => ?_, fun g q => (h.p g).2 (.inr q), fun g q => (RF.lt h.rs g q).2, k.mono fun g _ m => (h.p g).2 (.inl m)⟩
  · rcases hM g q.1 with m | m
    · exact h.dis g m r
    · have := (RF.lt h.rs g r).2; omega
  · rcases hM g q.1 with m | m
    · exact .inl ((h.p g).2 (.inl m))
    · exact .inr m

/-- Behind the code's call. -/
theorem PRs.code (h : PRs X b rb P S M ba bl vh vt vi) (a : At X M b ba' bl' vh' Y S') : ∃ M', PMs X b rb P S' S M' ba' bl' vh' vt vi Y :=
  ⟨_, h.code' a.kp (a.rebase (World.grownBy.refl _ _)) fun g q => q.1⟩

/-- Other blocks are written in between. -/
theorem PMs.past (h : PMs X b rb P S' S M ba bl vh vt vi Y) (k : Kp D Y Z) (hM : ∀ g, M g → ¬ D g) (hD : ∀ g, D g → X.heap.size ≤ g) : PMs X b rb P S' S M ba bl vh vt vi Z :=
  ⟨h.at_.keep k hM, RF.kp h.rs k fun g q d => by have := h.rl g q; have := hD g d; omega, h.dis, fun g q => Nat.lt_of_lt_of_le (h.lt g q) k.size, h.pM, h.pR, h.rl, h.kp.then k fun g hg d => by have := hD g d; omega⟩

/-- Behind the document's call. -/
theorem PMs.doc (h : PMs X b rb P S' S M ba bl vh vt vi Y) (r : RS 0 Z rb vt' vi' S') (k : Kp (Rm rb vt vi) Y Z) (hn : ∀ g, Rm rb vt' vi' g → Rm rb vt vi g ∨ Y.heap.size ≤ g) (ok : SdOk S') (st : StOk S') :
    PR Z b rb (fun g => M g ∨ Rm rb vt' vi' g) S' ∧ (∀ g, M g ∨ Rm rb vt' vi' g → P g ∨ X.heap.size ≤ g) ∧ Kp P X Z := by
  refine ⟨⟨M, ba, bl, vh, vt', vi', h.at_.keep k h.dis, r, ok, st, fun g q z => ?_, fun g q => Nat.lt_of_lt_of_le (h.lt g q) k.size, fun g => Iff.rfl⟩, fun g q => ?_, h.kp.then k fun g _ q => h.pR g q⟩
  · rcases hn g z with z | z
    · exact h.dis g q z
    · have := h.lt g q; omega
  · rcases q with q | q
    · exact h.pM g q
    · rcases hn g q with q | q
      · exact .inl (h.pR g q)
      · exact .inr (Nat.le_trans h.kp.size q)
theorem PMs.doc' (h : PMs X b rb P S' S M ba bl vh vt vi Y) (r : RS 0 Z rb vt vi S') (k : Kp (Rm rb vt vi) Y Z) (ok : SdOk S') (st : StOk S') : PrP X b rb P S' Z :=
  ⟨_, h.doc r k (fun g q => .inl q) ok st⟩
theorem PMs.docTo (h : PMs X b rb P S' S M ba bl vh vt vi Y) (r : RTo 0 Y rb vt vi S' Z) (ok : SdOk S') (st : StOk S') : PrP X b rb P S' Z := by
  obtain ⟨vt', vi', r', hn⟩ := r.ex
  exact ⟨_, h.doc r' r.kp hn ok st⟩
/-- Nothing is changed. -/
theorem PR.self (h : PR X b rb P S) (g : X.grownBy Z none) : PrP X b rb P S Z := ⟨P, h.kp (Kp.grown g (fun _ => False)) (fun _ _ q => q), fun g q => .inl q, Kp.grown g P⟩
theorem PrP.later {X0 : World} (h : PrP X b rb P S Z) (g : X0.grownBy X none) : PrP X0 b rb P S Z := by
  obtain ⟨P', h1, h2, h3⟩ := h
  exact ⟨P', h1, fun k q => (h2 k q).imp id fun e => Nat.le_trans g.size e, (Kp.grown g P).trans h3⟩
theorem PrP.grown (h : PrP X b rb P S Y) (g : Y.grownBy Z none) : PrP X b rb P S Z := by
  obtain ⟨P', h1, h2, h3⟩ := h
  exact ⟨P', h1.kp (Kp.grown g (fun _ => False)) (fun _ _ q => q), h2, h3.nothing g⟩
end

section
variable {X : World} {ob N : Nat} {Q : Nat → Prop}
theorem OW.mono {N' : Nat} (h : OW X ob Q N) (hn : N ≤ N') : OW X ob Q N' := by
  obtain ⟨vl, vB, H, S, va, vL, wa, wL, V, es, h⟩ := h
  exact ⟨vl, vB, H, S, va, vL, wa, wL, V, es, h.ol, h.rB, h.bH, h.nH, h.ra, h.rL, h.qa, h.qL, h.nA, h.nL, Nat.le_trans h.n hn, h.sz, h.vB_, h.va_, h.vL_, h.wa_, h.wL_, h.q⟩
end

/-- What step leaves. -/
structure StepP (X : World) (b rb ob : Nat) (P Q : Nat → Prop) (N : Nat) (S : Sd) (n : Nat) (e : Ending) (U : World) : Prop where
  e : e = .returned (.bool true)
  ex : ∃ P' Q' S', PR U b rb P' S' ∧ OW U ob Q' (N + 4) ∧ (∀ g, P' g → P g ∨ X.heap.size ≤ g) ∧ (∀ g, Q' g → Q g ∨ X.heap.size ≤ g) ∧ (∀ g, P' g → ¬ Q' g) ∧ wr S' ≤ wr S + n
  kp : Kp (fun g => P g ∨ Q g) X U

section
variable {X X0 Y Z U : World} {b rb ob N n : Nat} {P Q : Nat → Prop} {S S' : Sd}
/-- Where the owner has nothing to do. -/
theorem PrP.step (h : PrP X b rb P S' U) (ho : OW X ob Q N) (hd : ∀ g, P g → ¬ Q g) (hw : wr S' ≤ wr S + n) : StepP X b rb ob P Q N S n (.returned (.bool true)) U := by
  obtain ⟨P', h1, h2, h3⟩ := h
  refine ⟨rfl, ⟨P', Q, S', h1, (ho.kp h3 fun g q p => hd g p q).mono (by omega), h2, fun g q => .inl q, fun g p q => ?_, hw⟩, h3.mono fun g _ q => .inl q⟩
  rcases h2 g p with p | p
  · exact hd g p q
  · have := ho.lt g q; omega
theorem StepP.later {e : Ending} (h : StepP X b rb ob P Q N S n e U) (g : X0.grownBy X none) : StepP X0 b rb ob P Q N S n e U := by
  obtain ⟨P', Q', S', h1, h2, h3, h4, h5, h6⟩ := h.ex
  exact ⟨h.e, ⟨P', Q', S', h1, h2, fun k q => (h3 k q).imp id fun e => Nat.le_trans g.size e, fun k q => (h4 k q).imp id fun e => Nat.le_trans g.size e, h5, h6⟩, (Kp.grown g _).trans h.kp⟩
/-- Where the owner is called behind the pair. -/
theorem OwP.step {F P' : Nat → Prop} (hp : PR Z b rb P' S') (hP : ∀ g, P' g → P g ∨ X.heap.size ≤ g) (hk : Kp P X Z) (ho : OW X ob Q N) (hd : ∀ g, P g → ¬ Q g) {N' : Nat} (h : OwP Z ob Q F N' U) (hN : N' ≤ N + 4) (hF : ∀ g, F g → X.heap.size ≤ g ∧ ¬ P' g) (hw : wr S' ≤ wr S + n) : StepP X b rb ob P Q N S n (.returned (.bool true)) U := by
  obtain ⟨Q', h1, h2, h3⟩ := h
  have hPQ : ∀ g, P' g → ¬ Q g := fun g p q => by
    rcases hP g p with p | p
    · exact hd g p q
    · have := ho.lt g q; omega
  refine ⟨rfl, ⟨P', Q', S', hp.kp h3 hPQ, h1.mono hN, hP, fun g q => ?_, fun g p q => ?_, hw⟩, (hk.mono fun g _ q => .inl q).then h3 fun g _ q => .inr q⟩
  · rcases h2 g q with q | q | q
    · exact .inl q
    · exact .inr (hF g q).1
    · exact .inr (Nat.le_trans hk.size q)
  · rcases h2 g q with q | q | q
    · exact hPQ g p q
    · exact (hF g q).2 p
    · have := hp.lt g p; omega
end
end Go.Proofs.Ytdalekjpjnhboaa

namespace Go.Proofs.Ytdalekjpjnhboaa
open Go.RowKit
set_option linter.unusedVariables false
set_option maxHeartbeats 4000000
set_option maxRecDepth 100000

theorem StOk.fin {S : Sd} (h : StOk S) : StOk (if S.ended = true ∨ S.stopped = true then S else finG S) := by
  by_cases hs : S.ended = true ∨ S.stopped = true
  · rw [if_pos hs]; exact h
  · rw [if_neg hs]; exact fun q => absurd (Or.inr q) hs
theorem wr_fin (S : Sd) : wr (if S.ended = true ∨ S.stopped = true then S else finG S) = wr S := by split <;> rfl
theorem wr_ack (S : Sd) (off size : Int) (fin : Bool) : wr (ackS S off size fin) = wr S := by unfold ackS; split <;> rfl
theorem wr_lost (S : Sd) (off size : Int) (fin : Bool) : wr (lostS S off size fin) = wr S := by unfold lostS; split <;> rfl
theorem wr_stop (S : Sd) : wr (stopS S) = wr S := by unfold stopS; split <;> rfl

/-- A pair in a grown world. -/
theorem PRs.grown {X Y : World} {b rb : Nat} {P : Nat → Prop} {S : Sd} {M : Nat → Prop} {ba bl : Nat} {vh vt vi : Value} (h : PRs X b rb P S M ba bl vh vt vi) (g : X.grownBy Y none) : PRs Y b rb P S M ba bl vh vt vi :=
  ⟨h.at_.keep (Kp.grown g (fun _ => False)) (fun _ _ q => q), RF.grown h.rs g, h.ok, h.st, h.dis, fun k q => Nat.lt_of_lt_of_le (h.lt k q) g.size, h.p⟩
theorem PRs.plt {X : World} {b rb : Nat} {P : Nat → Prop} {S : Sd} {M : Nat → Prop} {ba bl : Nat} {vh vt vi : Value} (h : PRs X b rb P S M ba bl vh vt vi) : ∀ g, P g → g < X.heap.size := PR.lt ⟨M, ba, bl, vh, vt, vi, h⟩

/-- Which kind a step is of. -/
def PickIs (k : Nat) (kind : Int) : Prop := ∀ Z, Calls Try.prog 13 #[.int .i64 kind, .int .i64 8] Z fun e w' => e = .returned (.int .i64 (k : Int)) ∧ w' = Z

section
variable {X : World} {b rb ob N : Nat} {P Q : Nat → Prop} {S : Sd} {kind : Int} {other : Bool} {da : Option Addr} {dn dc : Nat} {off size : Int} {fin : Bool} {most : Int}

theorem step_fin (h : PR X b rb P S) (ho : OW X ob Q N) (hd : ∀ g, P g → ¬ Q g) (hbig : wr S ≤ 1000000000) (hpk : PickIs 1 kind) :
    Calls Try.prog 9 #[ptr b, ptr rb, .agg #[.int .i64 kind, .bool other, .slice da dn dc, .int .i64 off, .int .i64 size, .bool fin, .int .i64 most], ptr ob] X (StepP X b rb ob P Q N S dn) := by
  obtain ⟨X1, hX1⟩ : ∃ X1, X1 = X.alloc (.cells #[.int .i64 kind, .bool other, .slice da dn dc, .int .i64 off, .int .i64 size, .bool fin, .int .i64 most] 40) := ⟨_, rfl⟩
  have g1 : X.grownBy X1 none := by rw [hX1]; exact grown_alloc _ _
  have bo : Blk X1 X.heap.size #[.int .i64 kind, .bool other, .slice da dn dc, .int .i64 off, .int .i64 size, .bool fin, .int .i64 most] 40 := by rw [hX1]; exact Blk.new _ _ _
  obtain ⟨M, ba, bl, vh, vt, vi, h⟩ := h
  have h1 := h.grown g1
  have hP1 := h.plt
  have ok := h.ok
  have st := h.st
  have o0 : X1.cell? ⟨X.heap.size, 0, none⟩ = some (.int .i64 kind) := bo.cell 0 _ rfl
  have hcode := fin_at h1.at_
  have pk := hpk X1
  have FIN : Hid (∀ S' Z, PrP X1 b rb P S' Z → wr S' ≤ wr S → StepP X b rb ob P Q N S dn (.returned (.bool true)) Z) := fun S' Z hz hw => (hz.later g1).step ho hd (by omega)
  have HM : Hid (∀ g, M g → g < X.heap.size) := h.lt
  have BO := hide bo
  have H1 := hide h1
  have OK := hide ok
  have ST := hide st
  clear h hpk ho hd g1 hP1 h1 ok st bo
  go_enter Try.func9, Try.ntmps9
  go_upto_region 1 with fail
  rw [← hX1]
  clear hX1
  go_wp2_with fail
  refine pk.mono ?_
  rintro e w' ⟨rfl, hw'⟩
  subst hw'
  clear pk
  go_wp2_with fail
  refine hcode.mono ?_
  rintro e Y ⟨rfl, vh', hA⟩
  obtain ⟨M', hm⟩ := (unhide H1).code hA
  have bo2 : Blk Y X.heap.size #[.int .i64 kind, .bool other, .slice da dn dc, .int .i64 off, .int .i64 size, .bool fin, .int .i64 most] 40 := (hA.kp.block _ (unhide BO).lt (fun q => by have := unhide HM _ q; omega)).trans (unhide BO)
  have hdoc := endR hm.rs
  have PM := hide hm
  clear hA bo2 hm
  generalize (if S.ended = true ∨ S.stopped = true then (150 : Int) else 0) = err at hdoc ⊢
  clear hcode
  go_wp2_with fail
  refine hdoc.mono ?_
  rintro e Z ⟨rfl, r, k⟩
  have E := unhide FIN _ _ ((unhide PM).doc' r k (stp_fin (lim := S.sent) (unhide OK) (Int.le_refl _)).ok (unhide ST).fin) (by rw [wr_fin]; exact Int.le_refl _)
  have HE := hide E
  clear E r k hdoc PM FIN
  go_wp2_with fail
  all_goals (try simp only [Exit.inBlock, Exit.then])
  all_goals go_ret
  all_goals exact unhide HE

theorem step_waits (h : PR X b rb P S) (ho : OW X ob Q N) (hd : ∀ g, P g → ¬ Q g) (hbig : wr S ≤ 1000000000) (hpk : PickIs 2 kind) (hl : -9223372036854775808 ≤ off ∧ off ≤ 9223372036854775807) :
    Calls Try.prog 9 #[ptr b, ptr rb, .agg #[.int .i64 kind, .bool other, .slice da dn dc, .int .i64 off, .int .i64 size, .bool fin, .int .i64 most], ptr ob] X (StepP X b rb ob P Q N S dn) := by
  obtain ⟨X1, hX1⟩ : ∃ X1, X1 = X.alloc (.cells #[.int .i64 kind, .bool other, .slice da dn dc, .int .i64 off, .int .i64 size, .bool fin, .int .i64 most] 40) := ⟨_, rfl⟩
  have g1 : X.grownBy X1 none := by rw [hX1]; exact grown_alloc _ _
  have bo : Blk X1 X.heap.size #[.int .i64 kind, .bool other, .slice da dn dc, .int .i64 off, .int .i64 size, .bool fin, .int .i64 most] 40 := by rw [hX1]; exact Blk.new _ _ _
  obtain ⟨M, ba, bl, vh, vt, vi, h⟩ := h
  have h1 := h.grown g1
  have hP1 := h.plt
  have ok := h.ok
  have st := h.st
  have o0 : X1.cell? ⟨X.heap.size, 0, none⟩ = some (.int .i64 kind) := bo.cell 0 _ rfl
  have o3 : X1.cell? ⟨X.heap.size, 3, none⟩ = some (.int .i64 off) := bo.cell 3 _ rfl
  have hcode := waits_at h1.at_ ok (by omega) off hl
  have pk := hpk X1
  have FIN : Hid (∀ S' Z, PrP X1 b rb P S' Z → wr S' ≤ wr S → StepP X b rb ob P Q N S dn (.returned (.bool true)) Z) := fun S' Z hz hw => (hz.later g1).step ho hd (by omega)
  have HM : Hid (∀ g, M g → g < X.heap.size) := h.lt
  have BO := hide bo
  have H1 := hide h1
  have OK := hide ok
  have ST := hide st
  clear h hpk ho hd g1 hP1 h1 ok st bo
  go_enter Try.func9, Try.ntmps9
  go_upto_region 1 with fail
  rw [← hX1]
  clear hX1
  go_wp2_with fail
  refine pk.mono ?_
  rintro e w' ⟨rfl, hw'⟩
  subst hw'
  clear pk
  go_wp2_with fail
  refine hcode.mono ?_
  rintro e Y ⟨rfl, gY⟩
  have bo2 := (unhide BO).grown gY
  have o3' : Y.cell? ⟨X.heap.size, 3, none⟩ = some (.int .i64 off) := bo2.cell 3 _ rfl
  have hdoc := waitsR ((unhide H1).grown gY).rs (unhide OK) hbig off
  have GY := hide gY
  clear gY bo2
  generalize (dueS S 1 off).2.2 = err at hdoc ⊢
  clear hcode
  go_wp2_with fail
  refine hdoc.mono ?_
  rintro e Z ⟨rfl, gZ⟩
  have E := unhide FIN _ _ (PR.self ⟨M, ba, bl, vh, vt, vi, unhide H1⟩ (grown_trans (unhide GY) gZ)) (Int.le_refl _)
  have HE := hide E
  clear E gZ hdoc FIN
  go_wp2_with fail
  all_goals (try simp only [Exit.inBlock, Exit.then])
  all_goals go_ret
  all_goals exact unhide HE

theorem step_acked (h : PR X b rb P S) (ho : OW X ob Q N) (hd : ∀ g, P g → ¬ Q g) (hbig : wr S ≤ 1000000000) (hpk : PickIs 4 kind) (hl : -9223372036854775808 ≤ off ∧ off ≤ 9223372036854775807) (hz : -9223372036854775808 ≤ size ∧ size ≤ 9223372036854775807) :
    Calls Try.prog 9 #[ptr b, ptr rb, .agg #[.int .i64 kind, .bool other, .slice da dn dc, .int .i64 off, .int .i64 size, .bool fin, .int .i64 most], ptr ob] X (StepP X b rb ob P Q N S dn) := by
  obtain ⟨X1, hX1⟩ : ∃ X1, X1 = X.alloc (.cells #[.int .i64 kind, .bool other, .slice da dn dc, .int .i64 off, .int .i64 size, .bool fin, .int .i64 most] 40) := ⟨_, rfl⟩
  have g1 : X.grownBy X1 none := by rw [hX1]; exact grown_alloc _ _
  have bo : Blk X1 X.heap.size #[.int .i64 kind, .bool other, .slice da dn dc, .int .i64 off, .int .i64 size, .bool fin, .int .i64 most] 40 := by rw [hX1]; exact Blk.new _ _ _
  obtain ⟨M, ba, bl, vh, vt, vi, h⟩ := h
  have h1 := h.grown g1
  have hP1 := h.plt
  have ok := h.ok
  have st := h.st
  have o0 : X1.cell? ⟨X.heap.size, 0, none⟩ = some (.int .i64 kind) := bo.cell 0 _ rfl
  have o3 : X1.cell? ⟨X.heap.size, 3, none⟩ = some (.int .i64 off) := bo.cell 3 _ rfl
  have o4 : X1.cell? ⟨X.heap.size, 4, none⟩ = some (.int .i64 size) := bo.cell 4 _ rfl
  have o5 : X1.cell? ⟨X.heap.size, 5, none⟩ = some (.bool fin) := bo.cell 5 _ rfl
  have hcode := acked_at h1.at_ ok (by omega) off size fin hl hz
  have pk := hpk X1
  have FIN : Hid (∀ S' Z, PrP X1 b rb P S' Z → wr S' ≤ wr S → StepP X b rb ob P Q N S dn (.returned (.bool true)) Z) := fun S' Z hz hw => (hz.later g1).step ho hd (by omega)
  have HM : Hid (∀ g, M g → g < X.heap.size) := h.lt
  have BO := hide bo
  have H1 := hide h1
  have OK := hide ok
  have ST := hide st
  clear h hpk ho hd g1 hP1 h1 ok st bo
  go_enter Try.func9, Try.ntmps9
  go_upto_region 1 with fail
  rw [← hX1]
  clear hX1
  go_wp2_with fail
  refine pk.mono ?_
  rintro e w' ⟨rfl, hw'⟩
  subst hw'
  clear pk
  go_wp2_with fail
  refine hcode.mono ?_
  rintro e Y ⟨rfl, vh', hA⟩
  obtain ⟨M', hm⟩ := (unhide H1).code hA
  have bo2 : Blk Y X.heap.size #[.int .i64 kind, .bool other, .slice da dn dc, .int .i64 off, .int .i64 size, .bool fin, .int .i64 most] 40 := (hA.kp.block _ (unhide BO).lt (fun q => by have := unhide HM _ q; omega)).trans (unhide BO)
  have o3' : Y.cell? ⟨X.heap.size, 3, none⟩ = some (.int .i64 off) := bo2.cell 3 _ rfl
  have o4' : Y.cell? ⟨X.heap.size, 4, none⟩ = some (.int .i64 size) := bo2.cell 4 _ rfl
  have o5' : Y.cell? ⟨X.heap.size, 5, none⟩ = some (.bool fin) := bo2.cell 5 _ rfl
  have hdoc := acksR hm.rs (unhide OK) (by omega) off size fin hl hz
  have PM := hide hm
  clear hA bo2 hm
  clear hcode
  go_wp2_with fail
  refine hdoc.mono ?_
  rintro e Z ⟨rfl, r, k⟩
  have E := unhide FIN _ _ ((unhide PM).doc' r k (stp_ack (lim := S.sent) (unhide OK) (by omega) (Int.le_refl _) off size fin).ok ((unhide ST).ack off size fin)) (by rw [wr_ack]; exact Int.le_refl _)
  have HE := hide E
  clear E r k hdoc PM FIN
  go_wp2_with fail
  all_goals (try simp only [Exit.inBlock, Exit.then])
  all_goals go_ret
  all_goals exact unhide HE

theorem step_lost (h : PR X b rb P S) (ho : OW X ob Q N) (hd : ∀ g, P g → ¬ Q g) (hbig : wr S ≤ 1000000000) (hpk : PickIs 5 kind) (hl : -9223372036854775808 ≤ off ∧ off ≤ 9223372036854775807) (hz : -9223372036854775808 ≤ size ∧ size ≤ 9223372036854775807) :
    Calls Try.prog 9 #[ptr b, ptr rb, .agg #[.int .i64 kind, .bool other, .slice da dn dc, .int .i64 off, .int .i64 size, .bool fin, .int .i64 most], ptr ob] X (StepP X b rb ob P Q N S dn) := by
  obtain ⟨X1, hX1⟩ : ∃ X1, X1 = X.alloc (.cells #[.int .i64 kind, .bool other, .slice da dn dc, .int .i64 off, .int .i64 size, .bool fin, .int .i64 most] 40) := ⟨_, rfl⟩
  have g1 : X.grownBy X1 none := by rw [hX1]; exact grown_alloc _ _
  have bo : Blk X1 X.heap.size #[.int .i64 kind, .bool other, .slice da dn dc, .int .i64 off, .int .i64 size, .bool fin, .int .i64 most] 40 := by rw [hX1]; exact Blk.new _ _ _
  obtain ⟨M, ba, bl, vh, vt, vi, h⟩ := h
  have h1 := h.grown g1
  have hP1 := h.plt
  have ok := h.ok
  have st := h.st
  have o0 : X1.cell? ⟨X.heap.size, 0, none⟩ = some (.int .i64 kind) := bo.cell 0 _ rfl
  have o3 : X1.cell? ⟨X.heap.size, 3, none⟩ = some (.int .i64 off) := bo.cell 3 _ rfl
  have o4 : X1.cell? ⟨X.heap.size, 4, none⟩ = some (.int .i64 size) := bo.cell 4 _ rfl
  have o5 : X1.cell? ⟨X.heap.size, 5, none⟩ = some (.bool fin) := bo.cell 5 _ rfl
  have hcode := lost_at h1.at_ ok (by omega) off size fin hl hz
  have pk := hpk X1
  have FIN : Hid (∀ S' Z, PrP X1 b rb P S' Z → wr S' ≤ wr S → StepP X b rb ob P Q N S dn (.returned (.bool true)) Z) := fun S' Z hz hw => (hz.later g1).step ho hd (by omega)
  have HM : Hid (∀ g, M g → g < X.heap.size) := h.lt
  have BO := hide bo
  have H1 := hide h1
  have OK := hide ok
  have ST := hide st
  clear h hpk ho hd g1 hP1 h1 ok st bo
  go_enter Try.func9, Try.ntmps9
  go_upto_region 1 with fail
  rw [← hX1]
  clear hX1
  go_wp2_with fail
  refine pk.mono ?_
  rintro e w' ⟨rfl, hw'⟩
  subst hw'
  clear pk
  go_wp2_with fail
  refine hcode.mono ?_
  rintro e Y ⟨rfl, hA⟩
  obtain ⟨M', hm⟩ := (unhide H1).code hA
  have bo2 : Blk Y X.heap.size #[.int .i64 kind, .bool other, .slice da dn dc, .int .i64 off, .int .i64 size, .bool fin, .int .i64 most] 40 := (hA.kp.block _ (unhide BO).lt (fun q => by have := unhide HM _ q; omega)).trans (unhide BO)
  have o3' : Y.cell? ⟨X.heap.size, 3, none⟩ = some (.int .i64 off) := bo2.cell 3 _ rfl
  have o4' : Y.cell? ⟨X.heap.size, 4, none⟩ = some (.int .i64 size) := bo2.cell 4 _ rfl
  have o5' : Y.cell? ⟨X.heap.size, 5, none⟩ = some (.bool fin) := bo2.cell 5 _ rfl
  have hdoc := losesR hm.rs (unhide OK) (by omega) off size fin hl hz
  have PM := hide hm
  clear hA bo2 hm
  clear hcode
  go_wp2_with fail
  refine hdoc.mono ?_
  rintro e Z ⟨rfl, r, k⟩
  have E := unhide FIN _ _ ((unhide PM).doc' r k (stp_lost (lim := S.sent) (unhide OK) (by omega) (Int.le_refl _) off size fin).ok ((unhide ST).lost off size fin)) (by rw [wr_lost]; exact Int.le_refl _)
  have HE := hide E
  clear E r k hdoc PM FIN
  go_wp2_with fail
  all_goals (try simp only [Exit.inBlock, Exit.then])
  all_goals go_ret
  all_goals exact unhide HE

theorem step_stop (h : PR X b rb P S) (ho : OW X ob Q N) (hd : ∀ g, P g → ¬ Q g) (hbig : wr S ≤ 1000000000) (hpk : PickIs 6 kind) :
    Calls Try.prog 9 #[ptr b, ptr rb, .agg #[.int .i64 kind, .bool other, .slice da dn dc, .int .i64 off, .int .i64 size, .bool fin, .int .i64 most], ptr ob] X (StepP X b rb ob P Q N S dn) := by
  obtain ⟨X1, hX1⟩ : ∃ X1, X1 = X.alloc (.cells #[.int .i64 kind, .bool other, .slice da dn dc, .int .i64 off, .int .i64 size, .bool fin, .int .i64 most] 40) := ⟨_, rfl⟩
  have g1 : X.grownBy X1 none := by rw [hX1]; exact grown_alloc _ _
  have bo : Blk X1 X.heap.size #[.int .i64 kind, .bool other, .slice da dn dc, .int .i64 off, .int .i64 size, .bool fin, .int .i64 most] 40 := by rw [hX1]; exact Blk.new _ _ _
  obtain ⟨M, ba, bl, vh, vt, vi, h⟩ := h
  have h1 := h.grown g1
  have hP1 := h.plt
  have ok := h.ok
  have st := h.st
  have o0 : X1.cell? ⟨X.heap.size, 0, none⟩ = some (.int .i64 kind) := bo.cell 0 _ rfl
  have hcode := stop_at h1.at_
  have pk := hpk X1
  have FIN : Hid (∀ S' Z, PrP X1 b rb P S' Z → wr S' ≤ wr S → StepP X b rb ob P Q N S dn (.returned (.bool true)) Z) := fun S' Z hz hw => (hz.later g1).step ho hd (by omega)
  have HM : Hid (∀ g, M g → g < X.heap.size) := h.lt
  have BO := hide bo
  have H1 := hide h1
  have OK := hide ok
  have ST := hide st
  clear h hpk ho hd g1 hP1 h1 ok st bo
  go_enter Try.func9, Try.ntmps9
  go_upto_region 1 with fail
  rw [← hX1]
  clear hX1
  go_wp2_with fail
  refine pk.mono ?_
  rintro e w' ⟨rfl, hw'⟩
  subst hw'
  clear pk
  go_wp2_with fail
  refine hcode.mono ?_
  rintro e Y ⟨rfl, bl', vh', hA⟩
  obtain ⟨M', hm⟩ := (unhide H1).code hA
  have bo2 : Blk Y X.heap.size #[.int .i64 kind, .bool other, .slice da dn dc, .int .i64 off, .int .i64 size, .bool fin, .int .i64 most] 40 := (hA.kp.block _ (unhide BO).lt (fun q => by have := unhide HM _ q; omega)).trans (unhide BO)
  have hdoc := stopR hm.rs (unhide OK) (by omega)
  have PM := hide hm
  clear hA bo2 hm
  clear hcode
  go_wp2_with fail
  refine hdoc.mono ?_
  rintro e Z ⟨rfl, r, k⟩
  rw [(unhide ST).same] at r
  have E := unhide FIN _ _ ((unhide PM).doc' r k (stp_stop (lim := S.sent) (unhide OK) (Int.le_refl _)).ok (unhide ST).stop) (by rw [wr_stop]; exact Int.le_refl _)
  have HE := hide E
  clear E r k hdoc PM FIN
  go_wp2_with fail
  all_goals (try simp only [Exit.inBlock, Exit.then])
  all_goals go_ret
  all_goals exact unhide HE
end
end Go.Proofs.Ytdalekjpjnhboaa

namespace Go.Proofs.Ytdalekjpjnhboaa
open Go.RowKit
set_option linter.unusedVariables false
set_option maxHeartbeats 4000000
set_option maxRecDepth 100000

theorem rd_kept {W W' : World} {D : Nat → Prop} {a : Option Addr} {l : List Int} (h : Rd W a l) (k : Kp D W W') (hn : l ≠ [] → ∀ b off, a = some ⟨b, off, none⟩ → ¬ D b) : Rd W' a l := by
  by_cases hl : l = []
  · subst hl
    exact ⟨h.1, fun q => absurd rfl q⟩
  · exact rd_kp h k (hn hl)
theorem rd_lt {W : World} {a : Option Addr} {l : List Int} (h : Rd W a l) (hl : l ≠ []) : ∀ b off, a = some ⟨b, off, none⟩ → b < W.heap.size := fun b off e => by
  obtain ⟨b', off', e', hc⟩ := Rd.nil_of h (List.length_pos_iff.2 hl)
  rw [e] at e'
  cases e'
  have := hc 0 (List.length_pos_iff.2 hl)
  unfold World.cell? at this
  split at this
  · rename_i hq
    exact (Array.getElem?_eq_some_iff.1 hq).1
  · cases this
theorem StOk.write {S : Sd} (h : StOk S) (p : List Int) : StOk (writeS S p) := by
  unfold writeS
  split
  · rename_i he
    unfold writeE at he
    by_cases h1 : S.ended = true ∨ S.stopped = true
    · rw [if_pos h1] at he; omega
    · exact fun q => absurd (Or.inr q) h1
  · exact h
theorem wr_write (S : Sd) (p : List Int) : wr (writeS S p) ≤ wr S + p.length := by
  unfold writeS
  split
  · simp [wr, writeG]
  · omega
theorem PMs.later {X X0 Y : World} {b rb : Nat} {P : Nat → Prop} {S S' : Sd} {M : Nat → Prop} {ba bl : Nat} {vh vt vi : Value} (h : PMs X b rb P S' S M ba bl vh vt vi Y) (g : X0.grownBy X none) (rl : ∀ g, Rm rb vt vi g → g < X0.heap.size) : PMs X0 b rb P S' S M ba bl vh vt vi Y :=
  ⟨h.at_, h.rs, h.dis, h.lt, fun k q => (h.pM k q).imp id fun e => Nat.le_trans g.size e, h.pR, rl, (Kp.grown g P).trans h.kp⟩
theorem rd_lent {Y : World} {g : Nat} {p q : List Int} (h : Blk Y g (by8 (p ++ q)) 5) (hb : ∀ x ∈ p, IsB x) : Rd Y (some ⟨g, 0, none⟩) p := by
  refine ⟨hb, fun _ => ⟨g, 0, rfl, fun i hi => ?_⟩⟩
  refine h.cell _ _ ?_
  have : i < (p ++ q).length := by simp; omega
  simp only [by8, Nat.zero_add]
  rw [List.getElem?_toArray, List.getElem?_map, List.getElem?_append_left hi]
  simp [List.getD, List.getElem?_eq_getElem hi]

section
variable {X : World} {b rb ob N : Nat} {P Q : Nat → Prop} {S : Sd} {kind : Int} {other : Bool} {da : Option Addr} {dn dc : Nat} {off size : Int} {fin : Bool} {most : Int} {p : List Int}

theorem step_write (h : PR X b rb P S) (ho : OW X ob Q N) (hd : ∀ g, P g → ¬ Q g) (hbig : wr S ≤ 1000000000) (hpk : PickIs 0 kind) (hp : Rd X da p) (hn : p.length = dn) (hpc : dn ≤ dc ∧ dc ≤ 9223372036854775807) (hnn : dn ≤ 1000000000) (hout : p ≠ [] → ∀ pb off, da = some ⟨pb, off, none⟩ → ¬ P pb) :
    Calls Try.prog 9 #[ptr b, ptr rb, .agg #[.int .i64 kind, .bool other, .slice da dn dc, .int .i64 off, .int .i64 size, .bool fin, .int .i64 most], ptr ob] X (StepP X b rb ob P Q N S dn) := by
  obtain ⟨X1, hX1⟩ : ∃ X1, X1 = X.alloc (.cells #[.int .i64 kind, .bool other, .slice da dn dc, .int .i64 off, .int .i64 size, .bool fin, .int .i64 most] 40) := ⟨_, rfl⟩
  have g1 : X.grownBy X1 none := by rw [hX1]; exact grown_alloc _ _
  have bo : Blk X1 X.heap.size #[.int .i64 kind, .bool other, .slice da dn dc, .int .i64 off, .int .i64 size, .bool fin, .int .i64 most] 40 := by rw [hX1]; exact Blk.new _ _ _
  obtain ⟨M, ba, bl, vh, vt, vi, h⟩ := h
  have h1 := h.grown g1
  have o0 : X1.cell? ⟨X.heap.size, 0, none⟩ = some (.int .i64 kind) := bo.cell 0 _ rfl
  have o2 : X1.cell? ⟨X.heap.size, 2, none⟩ = some (.slice da dn dc) := bo.cell 2 _ rfl
  have rd1 : Rd X1 da p := rd_kept hp (Kp.grown g1 (fun _ => False)) fun _ _ _ _ q => q
  have hlent := lent_any X1 da dn dc p rd1 hn hnn
  have pk := hpk X1
  have FIN : Hid (∀ S' Z, PrP X1 b rb P S' Z → wr S' ≤ wr S + dn → StepP X b rb ob P Q N S dn (.returned (.bool true)) Z) := fun S' Z hz hw => (hz.later g1).step ho hd hw
  have HP : Hid (∀ g, P g → g < X.heap.size) := h.plt
  have LT : Hid (X.heap.size < X1.heap.size ∧ ∀ g, Rm rb vt vi g → g < X1.heap.size) := ⟨bo.lt, fun g q => (RF.lt h1.rs g q).2⟩
  have PL : Hid (p ≠ [] → ∀ pb off, da = some ⟨pb, off, none⟩ → pb < X.heap.size) := fun hl => rd_lt hp hl
  have BO := hide bo
  have H1 := hide h1
  have R1 := hide rd1
  have HO := hide hout
  have HN := hide hn
  clear h hpk ho hd g1 h1 bo rd1 hp hout hn
  go_enter Try.func9, Try.ntmps9
  go_upto_region 1 with fail
  rw [← hX1]
  clear hX1
  go_wp2_with fail
  refine pk.mono ?_
  rintro e w' ⟨rfl, hw'⟩
  subst w'
  clear pk
  go_wp2_with fail
  refine hlent.mono ?_
  rintro e Y1 ⟨g, rfl, bg, hgx, gY1⟩
  have h2 := (unhide H1).grown gY1
  have nMg : ¬ M g := fun q => by have := (unhide H1).lt g q; omega
  have rdg : Rd Y1 (some ⟨g, 0, none⟩) p := rd_lent bg (unhide R1).1
  have hcode := write_at h2.at_ h2.ok (some ⟨g, 0, none⟩) dn (dn + 8) p rdg (fun _ pb off e => by cases e; exact ⟨nMg, bg.lt⟩) (unhide HN) ⟨by omega, by omega⟩ (by omega) (by omega)
  have BG := hide bg
  have H2 := hide h2
  have GX := hide hgx
  have GY1 := hide gY1
  clear hlent bg hgx gY1 h2 rdg nMg o0 o2
  go_wp2_with fail
  refine hcode.mono ?_
  rintro e Y2 ⟨rfl, vh', hA⟩
  obtain ⟨M', hm⟩ := (unhide H2).code hA
  have hP2 := unhide HP
  have hX1 := unhide LT
  have gx := unhide GX
  have nM : ∀ k, M k → k < X.heap.size := fun k q => hP2 k (((unhide H1).p k).2 (.inl q))
  have nP : ¬ P g := fun q => by have := hP2 g q; omega
  have kk := hA.kp
  have gs1 := (unhide GY1).size
  have bo1 := (unhide BO).grown (unhide GY1)
  have bo2 : Blk Y2 X.heap.size #[.int .i64 kind, .bool other, .slice da dn dc, .int .i64 off, .int .i64 size, .bool fin, .int .i64 most] 40 := (kk.block _ bo1.lt (fun q => by have := nM _ q; omega)).trans bo1
  have bg2 : Blk Y2 g (by8 (p ++ List.replicate 8 201)) 5 := (kk.block _ (unhide BG).lt (fun q => by have := nM _ q; omega)).trans (unhide BG)
  have o2 : Y2.cell? ⟨X.heap.size, 2, none⟩ = some (.slice da dn dc) := bo2.cell 2 _ rfl
  have rd1 : Rd Y1 da p := rd_kept (unhide R1) (Kp.grown (unhide GY1) (fun _ => False)) fun _ _ _ _ q => q
  have rd2 : Rd Y2 da p := rd_kept rd1 kk fun hl pb off e q => unhide HO hl pb off e (((unhide H1).p pb).2 (.inl q))
  have hback := back_any Y2 g da dn dc p bg2 rd2 (fun pb off e hl q => by have := unhide PL hl pb off e; omega) (unhide HN) hnn
  have BO2 := hide bo2
  have R2 := hide rd2
  have HNM : Hid (∀ k, M' k → k ≠ g) := fun k q e => by
    subst e
    rcases hm.pM k q with q | q
    · exact nP q
    · have := (unhide BG).lt; omega
  have PM := hide (hm.later (unhide GY1) hX1.2)
  have SZ : Hid (X.heap.size < Y2.heap.size) := by have := kk.size; show X.heap.size < Y2.heap.size; omega
  have HXL : Hid (X.heap.size < X1.heap.size ∧ X1.heap.size ≤ g) := ⟨hX1.1, gx⟩
  have OK := hide (unhide H2).ok
  have ST := hide (unhide H2).st
  clear hcode hA hm hP2 hX1 gx nM nP kk gs1 bo1 bo2 bg2 rd1 rd2 H2 GX
  go_wp2_with fail
  refine hback.mono ?_
  rintro e Y3 ⟨rfl, g3⟩
  have hm := (unhide PM).past (Z := Y3) (D := fun k => k = g) (Kp.grownS g3 rfl) (fun k q e => unhide HNM k q e) (fun k e => by rw [e]; exact (unhide HXL).2)
  have hxl := unhide HXL
  have bo3 := (unhide BO2).far g3 (by omega)
  have o2' : Y3.cell? ⟨X.heap.size, 2, none⟩ = some (.slice da dn dc) := bo3.cell 2 _ rfl
  have rd3 : Rd Y3 da p := rd_kept (unhide R2) (Kp.grownS (S := fun k => k = g) g3 rfl) fun hl pb off e q => by have := unhide PL hl pb off e; omega
  have hdoc := writeR hm.rs (unhide OK) (Nat.zero_le _) hbig da dn dc p rd3 (fun hl pb off e => ⟨fun q => unhide HO hl pb off e ((unhide PM).pR pb q), by have := unhide PL hl pb off e; have := unhide SZ; have := g3.size; omega⟩) (unhide HN) hpc hnn
  have PM3 := hide hm
  clear hback g3 hm hxl bo3 rd3 o2 PM
  go_wp2_with fail
  refine hdoc.mono ?_
  rintro e Z ⟨rfl, r⟩
  have E := unhide FIN _ _ ((unhide PM3).docTo r (stp_write (lim := S.sent) (unhide OK) (Int.le_refl _) p).ok ((unhide ST).write p)) (by have := wr_write S p; rw [unhide HN] at this; exact this)
  have HE := hide E
  clear E r hdoc PM3 FIN
  generalize writeE S dn = err
  go_wp2_with fail
  all_goals (try simp only [Exit.inBlock, Exit.then])
  all_goals go_ret
  all_goals exact unhide HE
end
end Go.Proofs.Ytdalekjpjnhboaa

namespace Go.Proofs.Ytdalekjpjnhboaa
open Go.RowKit
set_option linter.unusedVariables false
set_option maxHeartbeats 4000000
set_option maxRecDepth 100000

section
variable {n0 : Nat} {X Y : World} {rb : Nat} {vt vi : Value} {S : Sd}
theorem nextR_any (h : RS n0 X rb vt vi S) (hok : SdOk S) (hn0 : n0 ≤ X.heap.size) (hbig : wr S ≤ 1000000000) (htb : ∀ x ∈ S.T, IsB x) (most limit : Int) (hm : -9223372036854775808 ≤ most ∧ most ≤ 9223372036854775807) :
    Calls Try.prog 32 #[ptr rb, .int .i64 most, .int .i64 limit] X (NextR n0 X rb vt vi S most limit) := by
  cases hd : (dueS S most limit).2.2 with
  | false => exact nextR_no h hok hbig most limit hm hd
  | true => exact nextR_yes h hok hn0 hbig htb most limit hm (dueS S most limit).1 (dueS S most limit).2.1 (by rw [← hd])
theorem RowV.low {t : TypeId} {v : Value} {L : List Value} (h : RowV n0 t X v L) : RowV 0 t X v L := own_low h
theorem wr_next (S : Sd) (most limit : Int) : wr (nextS S most limit) = wr S := by unfold nextS; split <;> rfl
theorem due_stopped {S : Sd} {most limit : Int} (hs : S.stopped = true) : (dueS S most limit).2.2 = false := by
  unfold dueS
  simp [hs]
end

section
variable {X : World} {b rb ob N : Nat} {P Q : Nat → Prop} {S : Sd} {kind : Int} {other : Bool} {da : Option Addr} {dn dc : Nat} {off size : Int} {fin : Bool} {most : Int}

theorem step_next (h : PR X b rb P S) (ho : OW X ob Q N) (hd : ∀ g, P g → ¬ Q g) (hN : N + 4 ≤ 100000000) (hbig : wr S ≤ 1000000000) (hpk : PickIs 3 kind) (hl : -9223372036854775808 ≤ off ∧ off ≤ 9223372036854775807) (hmm : -9223372036854775808 ≤ most ∧ most ≤ 9223372036854775807) :
    Calls Try.prog 9 #[ptr b, ptr rb, .agg #[.int .i64 kind, .bool other, .slice da dn dc, .int .i64 off, .int .i64 size, .bool fin, .int .i64 most], ptr ob] X (StepP X b rb ob P Q N S dn) := by
  obtain ⟨X1, hX1⟩ : ∃ X1, X1 = X.alloc (.cells #[.int .i64 kind, .bool other, .slice da dn dc, .int .i64 off, .int .i64 size, .bool fin, .int .i64 most] 40) := ⟨_, rfl⟩
  have g1 : X.grownBy X1 none := by rw [hX1]; exact grown_alloc _ _
  have bo : Blk X1 X.heap.size #[.int .i64 kind, .bool other, .slice da dn dc, .int .i64 off, .int .i64 size, .bool fin, .int .i64 most] 40 := by rw [hX1]; exact Blk.new _ _ _
  obtain ⟨M, ba, bl, vh, vt, vi, h⟩ := h
  have h1 := h.grown g1
  have o0 : X1.cell? ⟨X.heap.size, 0, none⟩ = some (.int .i64 kind) := bo.cell 0 _ rfl
  have o3 : X1.cell? ⟨X.heap.size, 3, none⟩ = some (.int .i64 off) := bo.cell 3 _ rfl
  have o6 : X1.cell? ⟨X.heap.size, 6, none⟩ = some (.int .i64 most) := bo.cell 6 _ rfl
  have hcode := next_anyO h1.at_ h1.ok (by omega) most off hl
  have pk := hpk X1
  have ho1 := ho.kp (Kp.grown g1 (fun _ => False)) (fun _ _ q => q)
  have HO1 := hide ho1
  have HD := hide hd
  have G1 := hide g1
  have HM : Hid (∀ g, M g → g < X.heap.size) := h.lt
  have BO := hide bo
  have H1 := hide h1
  clear h hpk ho hd g1 h1 bo ho1
  go_enter Try.func9, Try.ntmps9
  go_upto_region 1 with fail
  rw [← hX1]
  clear hX1
  go_wp2_with fail
  refine pk.mono ?_
  rintro e w' ⟨rfl, hw'⟩
  subst w'
  clear pk
  go_wp2_with fail
  refine hcode.mono ?_
  rintro e Y ⟨v, rfl, hA, hB, hF, n, hv, hA'⟩
  have hm := (unhide H1).code' hA.kp hA' (fun g q => q.1)
  have bo2 : Blk Y X.heap.size #[.int .i64 kind, .bool other, .slice da dn dc, .int .i64 off, .int .i64 size, .bool fin, .int .i64 most] 40 := (hA.kp.block _ (unhide BO).lt (fun q => by have := unhide HM _ q; omega)).trans (unhide BO)
  have o3' : Y.cell? ⟨X.heap.size, 3, none⟩ = some (.int .i64 off) := bo2.cell 3 _ rfl
  have o6' : Y.cell? ⟨X.heap.size, 6, none⟩ = some (.int .i64 most) := bo2.cell 6 _ rfl
  have hdoc := nextR_any hm.rs (unhide H1).ok (Nat.zero_le _) hbig (unhide H1).at_.tb most off hmm
  have okn := (stp_next (lim := max S.sent 0) (unhide H1).ok (by omega) (by omega) (by omega) most off).ok
  have stn := (unhide H1).st.next most off (fun q => due_stopped q)
  have wrn := wr_next S most off
  have nB : Hid ((if (dueS S most off).2.2 = true then pieceT S.T (dueS S most off).1 (dueS S most off).2.1 else []).length ≤ 65536) := by obtain ⟨a, c, ev, -, hlc, hc⟩ := hB.ex; exact Nat.le_trans hlc hc
  have PM := hide hm
  have BB := hide hB.own
  have FF := hide hF
  have HV := hide hv
  have OKN := hide (And.intro okn (And.intro stn wrn))
  obtain ⟨a, n1, c, rfl⟩ : ∃ a n c, v = .slice a n c := let ⟨a, c, ev, _⟩ := hB.ex; ⟨a, _, c, ev⟩
  clear hcode hA hA' hm bo2 hB hF hv okn stn wrn o3 o6 o0
  unfold NextR at hdoc
  generalize (if (dueS S most off).2.2 = true then pieceT S.T (dueS S most off).1 (dueS S most off).2.1 else []) = B at *
  generalize ((dueS S most off).2.2 && endB S (dueS S most off).2.1) = be at *
  generalize (dueS S most off).1 = d1 at *
  generalize (dueS S most off).2.2 = d2 at *
  go_wp2_with fail
  refine hdoc.mono ?_
  rintro e Z ⟨v2, rfl, r, k, bv⟩
  obtain ⟨a2, n2, c2, rfl⟩ : ∃ a n c, v2 = .slice a n c := let ⟨a, c, ev, _⟩ := bv.row.at; ⟨a, _, c, ev⟩
  obtain ⟨hp, hsub, hk⟩ := (unhide PM).doc r k (fun g q => .inl q) (unhide OKN).1 (unhide OKN).2.1
  have ho2 := (unhide HO1).kp hk (fun g q p => unhide HD g p q)
  obtain ⟨Z1, hZ1⟩ : ∃ Z1, Z1 = Z.alloc (.cells #[.int .i64 d1, .slice a2 n2 c2, .bool be, .bool d2] 78) := ⟨_, rfl⟩
  have gZ : Z.grownBy Z1 none := by rw [hZ1]; exact grown_alloc _ _
  have bp : Blk Z1 Z.heap.size #[.int .i64 d1, .slice a2 n2 c2, .bool be, .bool d2] 78 := by rw [hZ1]; exact Blk.new _ _ _
  have ho3 := ho2.kp (Kp.grown gZ (fun _ => False)) (fun _ _ q => q)
  have fx : ∀ g, (Value.slice a n1 c).ownBlock = some g → X1.heap.size ≤ g := fun g q => unhide FF g q
  have ylt : ∀ g, (Value.slice a n1 c).ownBlock = some g → g < Y.heap.size := fun g q => (World.ownsRow.lt (unhide BB) g q).2
  have rv : RowV 0 5 Z1 (.slice a n1 c) (uV B) := ((unhide BB).kept fun g q => k.block g (ylt g q) (fun m => by have := (unhide PM).rl g m; have := fx g q; omega)).kept fun g q => gZ.block g (Nat.lt_of_lt_of_le (ylt g q) k.size) (by simp)
  have f2 : ∀ g, (Value.slice a2 n2 c2).ownBlock = some g → Y.heap.size ≤ g ∧ g < Z.heap.size := fun g q => World.ownsRow.lt bv.row g q
  have rw2 : RowV 0 5 Z1 (.slice a2 n2 c2) (uV B) := bv.row.low.kept fun g q => gZ.block g (f2 g q).2 (by simp)
  have xy := (unhide PM).kp.size
  have yz := k.size
  have hby := ho3.bytes (by omega) rv rw2 bv.by_ (unhide nB) (fun g q z => by have := (unhide HO1).lt g z; have := fx g q; omega) (fun g q z => by have := (unhide HO1).lt g z; have := (f2 g q).1; omega)
  have hp1 := hp.kp (Kp.grown gZ (fun _ => False)) (fun _ _ q => q)
  have hF : ∀ g, (Value.slice a n1 c).ownBlock = some g → X1.heap.size ≤ g ∧ ¬ ((((M g ∨ X1.heap.size ≤ g) ∧ g < n) ∧ g < Y.heap.size) ∨ Rm rb vt vi g) := fun g q => ⟨fx g q, fun z => by
    rcases z with z | z
    · have := unhide HV g q; have := z.1.2; omega
    · have := (unhide PM).rl g z; have := fx g q; omega⟩
  have FIN : Hid (∀ U, OwP Z1 ob Q (fun g => (Value.slice a n1 c).ownBlock = some g) (N + 2) U → StepP X b rb ob P Q N S dn (.returned (.bool true)) U ∧ Blk U Z.heap.size #[.int .i64 d1, .slice a2 n2 c2, .bool be, .bool d2] 78) := fun U hu => by
    refine ⟨(OwP.step hp1 hsub (hk.nothing gZ) (unhide HO1) (unhide HD) hu (by omega) hF (by have := (unhide OKN).2.2; omega)).later (unhide G1), ?_⟩
    obtain ⟨Q', -, -, kq⟩ := hu
    exact (kq.block _ bp.lt (fun q => by have := (unhide HO1).lt _ q; omega)).trans bp
  have p1 : Z1.cell? ⟨Z.heap.size, 1, none⟩ = some (.slice a2 n2 c2) := bp.cell 1 _ rfl
  rw [hZ1] at p1
  clear hdoc r k bv hp hsub hk ho2 gZ bp ho3 fx ylt rv f2 rw2 xy yz hp1 hF
  go_upto_region 19 with fail
  rw [← hZ1]
  rw [← hZ1] at p1
  clear hZ1
  go_wp2_with fail
  refine hby.mono ?_
  rintro e U ⟨rfl, hu⟩
  obtain ⟨E, bp⟩ := unhide FIN U hu
  have HE := hide E
  have q0 : U.cell? ⟨Z.heap.size, 0, none⟩ = some (.int .i64 d1) := bp.cell 0 _ rfl
  have q2 : U.cell? ⟨Z.heap.size, 2, none⟩ = some (.bool be) := bp.cell 2 _ rfl
  have q3 : U.cell? ⟨Z.heap.size, 3, none⟩ = some (.bool d2) := bp.cell 3 _ rfl
  clear hby hu E bp FIN p1
  go_wp2_with fail
  all_goals (try simp only [Exit.inBlock, Exit.then])
  all_goals go_ret
  all_goals exact unhide HE
end
end Go.Proofs.Ytdalekjpjnhboaa

namespace Go.Proofs.Ytdalekjpjnhboaa
open Go.RowKit
set_option linter.unusedVariables false
set_option maxHeartbeats 4000000
set_option maxRecDepth 100000

section
variable {X : World} {b rb ob N : Nat} {P Q : Nat → Prop} {S : Sd} {kind : Int} {other : Bool} {da : Option Addr} {dn dc : Nat} {off size : Int} {fin : Bool} {most : Int}

theorem step_view (h : PR X b rb P S) (ho : OW X ob Q N) (hd : ∀ g, P g → ¬ Q g) (hN : N + 4 ≤ 100000000) (hbig : wr S ≤ 1000000000) (hpk : PickIs 7 kind) :
    Calls Try.prog 9 #[ptr b, ptr rb, .agg #[.int .i64 kind, .bool other, .slice da dn dc, .int .i64 off, .int .i64 size, .bool fin, .int .i64 most], ptr ob] X (StepP X b rb ob P Q N S dn) := by
  obtain ⟨X1, hX1⟩ : ∃ X1, X1 = X.alloc (.cells #[.int .i64 kind, .bool other, .slice da dn dc, .int .i64 off, .int .i64 size, .bool fin, .int .i64 most] 40) := ⟨_, rfl⟩
  have g1 : X.grownBy X1 none := by rw [hX1]; exact grown_alloc _ _
  have bo : Blk X1 X.heap.size #[.int .i64 kind, .bool other, .slice da dn dc, .int .i64 off, .int .i64 size, .bool fin, .int .i64 most] 40 := by rw [hX1]; exact Blk.new _ _ _
  obtain ⟨M, ba, bl, vh, vt, vi, h⟩ := h
  have h1 := h.grown g1
  have o0 : X1.cell? ⟨X.heap.size, 0, none⟩ = some (.int .i64 kind) := bo.cell 0 _ rfl
  have hcode := view_at h1.at_ h1.ok (by omega)
  have pk := hpk X1
  have ho1 := ho.kp (Kp.grown g1 (fun _ => False)) (fun _ _ q => q)
  have HO1 := hide ho1
  have HD := hide hd
  have G1 := hide g1
  have H1 := hide h1
  clear h hpk ho hd g1 h1 bo ho1
  go_enter Try.func9, Try.ntmps9
  go_upto_region 1 with fail
  rw [← hX1]
  clear hX1
  go_wp2_with fail
  refine pk.mono ?_
  rintro e w' ⟨rfl, hw'⟩
  subst w'
  clear pk
  go_wp2_with fail
  refine hcode.mono ?_
  rintro e Y ⟨va, vl, rfl, r1, r2, f1, f2, d12, gv⟩
  obtain ⟨a3, n3, c3, rfl⟩ : ∃ a n c, va = .slice a n c := let ⟨a, c, ev, _⟩ := r1.shape; ⟨a, _, c, ev⟩
  obtain ⟨a4, n4, c4, rfl⟩ : ∃ a n c, vl = .slice a n c := let ⟨a, c, ev, _⟩ := r2.shape; ⟨a, _, c, ev⟩
  obtain ⟨Y1, hY1⟩ : ∃ Y1, Y1 = Y.alloc (.cells (viewC S (.slice a3 n3 c3) (.slice a4 n4 c4)) 36) := ⟨_, rfl⟩
  have gY1 : Y.grownBy Y1 none := by rw [hY1]; exact grown_alloc _ _
  have bv : Blk Y1 Y.heap.size (viewC S (.slice a3 n3 c3) (.slice a4 n4 c4)) 36 := by rw [hY1]; exact Blk.new _ _ _
  have h2 := (unhide H1).grown (grown_trans gv gY1)
  have hdoc := viewR h2.rs h2.ok (Nat.zero_le _) hbig
  have H2 := hide h2
  have RR := hide (And.intro r1 (And.intro r2 (And.intro f1 (And.intro f2 d12))))
  have GV := hide gv
  have GY1 := hide gY1
  have BV1 := hide bv
  have HY := hide (And.intro (row_lt r1) (row_lt r2))
  clear hcode r1 r2 f1 f2 d12 gv gY1 bv h2 o0
  unfold viewC at hY1 ⊢
  go_upto_region 34 with fail
  rw [← hY1]
  replace hY1 := hide hY1
  go_wp2_with fail
  refine hdoc.mono ?_
  rintro e Z ⟨wa, wl, rfl, s1, s2, k1, k2, e12, gw⟩
  obtain ⟨a5, n5, c5, rfl⟩ : ∃ a n c, wa = .slice a n c := let ⟨a, c, ev, _⟩ := s1.shape; ⟨a, _, c, ev⟩
  obtain ⟨a6, n6, c6, rfl⟩ : ∃ a n c, wl = .slice a n c := let ⟨a, c, ev, _⟩ := s2.shape; ⟨a, _, c, ev⟩
  obtain ⟨Z1, hZ1⟩ : ∃ Z1, Z1 = Z.alloc (.cells (viewC S (.slice a5 n5 c5) (.slice a6 n6 c6)) 36) := ⟨_, rfl⟩
  have gZ1 : Z.grownBy Z1 none := by rw [hZ1]; exact grown_alloc _ _
  have bw : Blk Z1 Z.heap.size (viewC S (.slice a5 n5 c5) (.slice a6 n6 c6)) 36 := by rw [hZ1]; exact Blk.new _ _ _
  obtain ⟨r1, r2, f1, f2, d12⟩ := unhide RR
  have gY := unhide GY1
  have gA := grown_trans gY (grown_trans gw gZ1)
  have gX := grown_trans (unhide GV) gA
  have bv := (unhide BV1).grown (grown_trans gw gZ1)
  have s0 := (unhide GV).size
  have s3 := gY.size
  have s4 := gw.size
  have ho3 := (unhide HO1).kp (Kp.grown gX (fun _ => False)) (fun _ _ q => q)
  have lo := (unhide HO1).lt
  have lenA := (unhide H2).ok.lenA
  have lenL := (unhide H2).ok.lenL
  have lcap := (unhide H2).ok.cap
  have hvi := ho3.viewed hN (r1.keep gA) (r2.keep gA) (s1.keep gZ1) (s2.keep gZ1) (by omega) (by omega) (fun g q z => by have := lo g z; have := f1 g q; omega) (fun g q => ⟨fun z => by have := lo g z; have := f2 g q; omega, fun z => d12 g z q⟩) (fun g q z => by have := lo g z; have := k1 g q; omega) (fun g q z => by have := lo g z; have := k2 g q; omega)
  have hpl := (unhide H1).plt
  have hp : PR Z1 b rb P S := ⟨M, ba, bl, vh, vt, vi, (unhide H1).grown gX⟩
  have FIN : Hid (∀ U, OwP Z1 ob Q (fun g => (Value.slice a3 n3 c3).ownBlock = some g ∨ (Value.slice a4 n4 c4).ownBlock = some g ∨ (Value.slice a5 n5 c5).ownBlock = some g ∨ (Value.slice a6 n6 c6).ownBlock = some g) (N + 4) U → StepP X b rb ob P Q N S dn (.returned (.bool true)) U) := fun U hu =>
    (OwP.step hp (fun g q => .inl q) (Kp.grown gX P) (unhide HO1) (unhide HD) hu (by omega) (fun g q => by
      have : X1.heap.size ≤ g := by
        rcases q with q | q | q | q
        · exact f1 g q
        · exact f2 g q
        · have := k1 g q; omega
        · have := k2 g q; omega
      exact ⟨this, fun z => by have := hpl g z; omega⟩) (by omega)).later (unhide G1)
  have bvH := hide bv
  have bwH := hide bw
  clear hdoc s1 s2 k1 k2 e12 gw gZ1 bw r1 r2 f1 f2 d12 gY gA gX bv s0 s3 s4 ho3 lo lenA lenL lcap hpl hp hY1
  unfold viewC at hZ1 ⊢
  go_upto_region 35 with fail
  rw [← hZ1]
  have bv := unhide bvH
  have bw := unhide bwH
  clear hZ1
  obtain ⟨m0, m1, m2, m3, m4, m5, m6, m7, m8, m9⟩ : Z1.cell? ⟨Y.heap.size, 0, none⟩ = some (.int .i64 (wr S)) ∧ Z1.cell? ⟨Y.heap.size, 1, none⟩ = some (.int .i64 S.sent) ∧ Z1.cell? ⟨Y.heap.size, 2, none⟩ = some (.int .i64 S.base) ∧ Z1.cell? ⟨Y.heap.size, 3, none⟩ = some (.slice a3 n3 c3) ∧ Z1.cell? ⟨Y.heap.size, 4, none⟩ = some (.slice a4 n4 c4) ∧ Z1.cell? ⟨Y.heap.size, 5, none⟩ = some (.bool S.ended) ∧ Z1.cell? ⟨Y.heap.size, 6, none⟩ = some (.bool (decide (S.fin = 1) || decide (S.fin = 3))) ∧ Z1.cell? ⟨Y.heap.size, 7, none⟩ = some (.bool (decide (S.fin = 3))) ∧ Z1.cell? ⟨Y.heap.size, 8, none⟩ = some (.bool S.stopped) ∧ Z1.cell? ⟨Y.heap.size, 9, none⟩ = some (.bool (doneB S)) := ⟨bv.cell 0 _ rfl, bv.cell 1 _ rfl, bv.cell 2 _ rfl, bv.cell 3 _ rfl, bv.cell 4 _ rfl, bv.cell 5 _ rfl, bv.cell 6 _ rfl, bv.cell 7 _ rfl, bv.cell 8 _ rfl, bv.cell 9 _ rfl⟩
  obtain ⟨q0, q1, q2, q3, q4, q5, q6, q7, q8, q9⟩ : Z1.cell? ⟨Z.heap.size, 0, none⟩ = some (.int .i64 (wr S)) ∧ Z1.cell? ⟨Z.heap.size, 1, none⟩ = some (.int .i64 S.sent) ∧ Z1.cell? ⟨Z.heap.size, 2, none⟩ = some (.int .i64 S.base) ∧ Z1.cell? ⟨Z.heap.size, 3, none⟩ = some (.slice a5 n5 c5) ∧ Z1.cell? ⟨Z.heap.size, 4, none⟩ = some (.slice a6 n6 c6) ∧ Z1.cell? ⟨Z.heap.size, 5, none⟩ = some (.bool S.ended) ∧ Z1.cell? ⟨Z.heap.size, 6, none⟩ = some (.bool (decide (S.fin = 1) || decide (S.fin = 3))) ∧ Z1.cell? ⟨Z.heap.size, 7, none⟩ = some (.bool (decide (S.fin = 3))) ∧ Z1.cell? ⟨Z.heap.size, 8, none⟩ = some (.bool S.stopped) ∧ Z1.cell? ⟨Z.heap.size, 9, none⟩ = some (.bool (doneB S)) := ⟨bw.cell 0 _ rfl, bw.cell 1 _ rfl, bw.cell 2 _ rfl, bw.cell 3 _ rfl, bw.cell 4 _ rfl, bw.cell 5 _ rfl, bw.cell 6 _ rfl, bw.cell 7 _ rfl, bw.cell 8 _ rfl, bw.cell 9 _ rfl⟩
  clear bv bw
  unfold viewC at hvi
  generalize (decide (S.fin = 1) || decide (S.fin = 3)) = fs at *
  generalize decide (S.fin = 3) = fa at *
  generalize wr S = ws at *
  generalize doneB S = ds at *
  go_wp2_with fail
  refine hvi.mono ?_
  rintro e U ⟨rfl, hu⟩
  have HE := hide (unhide FIN U hu)
  clear hvi hu FIN m0 m1 m2 m3 m4 m5 m6 m7 m8 m9 q0 q1 q2 q3 q4 q5 q6 q7 q8 q9
  go_wp2_with fail
  all_goals (try simp only [Exit.inBlock, Exit.then])
  all_goals go_ret
  all_goals exact unhide HE
end
end Go.Proofs.Ytdalekjpjnhboaa

namespace Go.Proofs.Ytdalekjpjnhboaa
open Go.RowKit
set_option linter.unusedVariables false
set_option maxHeartbeats 1000000
set_option maxRecDepth 100000

theorem pick_is (c : Int) (hc : -9223372036854775808 ≤ c ∧ c ≤ 9223372036854775807) : ∃ k : Nat, k < 8 ∧ PickIs k c := by
  by_cases h : c < 0
  · have d : decide (c < 0) = true := decide_eq_true h
    have w1 : IntKind.i64.wrap (c + 1) = c + 1 := by rw [IntKind.wrap_i64]; omega
    have w2 : IntKind.i64.wrap (-(c + 1)) = -(c + 1) := by rw [IntKind.wrap_i64]; omega
    obtain ⟨m, hm⟩ : ∃ m : Nat, -(c + 1) = (m : Int) := ⟨(-(c + 1)).toNat, by omega⟩
    have ht : Int.tmod (-(c + 1)) 8 = ((m % 8 : Nat) : Int) := by rw [hm, show (8 : Int) = ((8 : Nat) : Int) from rfl, ← Int.ofNat_tmod]
    have HM := hide hm
    clear hm
    have hk : m % 8 < 8 := Nat.mod_lt _ (by omega)
    generalize m % 8 = k at *
    refine ⟨k, hk, fun w => ?_⟩
    go_enter Try.func13, Try.ntmps13
    go_wp2
    all_goals go_ret
    all_goals exact ⟨by simp [*], rfl⟩
  · have d : decide (c < 0) = false := decide_eq_false h
    obtain ⟨m, hm⟩ : ∃ m : Nat, c = (m : Int) := ⟨c.toNat, by omega⟩
    have ht : Int.tmod c 8 = ((m % 8 : Nat) : Int) := by rw [hm, show (8 : Int) = ((8 : Nat) : Int) from rfl, ← Int.ofNat_tmod]
    have HM := hide hm
    clear hm
    have hk : m % 8 < 8 := Nat.mod_lt _ (by omega)
    generalize m % 8 = k at *
    refine ⟨k, hk, fun w => ?_⟩
    go_enter Try.func13, Try.ntmps13
    go_wp2
    all_goals go_ret
    all_goals exact ⟨by simp [*], rfl⟩

section
variable {X : World} {b rb ob N : Nat} {P Q : Nat → Prop} {S : Sd} {kind : Int} {other : Bool} {da : Option Addr} {dn dc : Nat} {off size : Int} {fin : Bool} {most : Int} {p : List Int}

theorem step_any (h : PR X b rb P S) (ho : OW X ob Q N) (hd : ∀ g, P g → ¬ Q g) (hN : N + 4 ≤ 100000000) (hbig : wr S ≤ 1000000000) (hk : i64B kind) (hl : i64B off) (hz : i64B size) (hm : i64B most) (hp : Rd X da p) (hn : p.length = dn) (hpc : dn ≤ dc ∧ dc ≤ 9223372036854775807) (hnn : dn ≤ 1000000000) (hout : p ≠ [] → ∀ pb off, da = some ⟨pb, off, none⟩ → ¬ P pb) :
    Calls Try.prog 9 #[ptr b, ptr rb, .agg #[.int .i64 kind, .bool other, .slice da dn dc, .int .i64 off, .int .i64 size, .bool fin, .int .i64 most], ptr ob] X (StepP X b rb ob P Q N S dn) := by
  obtain ⟨k, hk8, pk⟩ := pick_is kind hk
  match k, hk8, pk with
  | 0, _, pk => exact step_write h ho hd hbig pk hp hn hpc hnn hout
  | 1, _, pk => exact step_fin h ho hd hbig pk
  | 2, _, pk => exact step_waits h ho hd hbig pk hl
  | 3, _, pk => exact step_next h ho hd hN hbig pk hl hm
  | 4, _, pk => exact step_acked h ho hd hbig pk hl hz
  | 5, _, pk => exact step_lost h ho hd hbig pk hl hz
  | 6, _, pk => exact step_stop h ho hd hbig pk
  | 7, _, pk => exact step_view h ho hd hN hbig pk
  | k + 8, q, _ => omega
end
end Go.Proofs.Ytdalekjpjnhboaa

namespace Go.Proofs.Ytdalekjpjnhboaa
open Go.RowKit
set_option linter.unusedVariables false
set_option maxHeartbeats 1000000
set_option maxRecDepth 100000

/-- A pair, or none. -/
def Sl (X : World) (o : Option (Nat × Nat)) (P : Nat → Prop) (K : Int) : Prop := ∀ b rb, o = some (b, rb) → ∃ S, PR X b rb P S ∧ wr S ≤ K
theorem Sl.kp {X Y : World} {o : Option (Nat × Nat)} {P D : Nat → Prop} {K K' : Int} (h : Sl X o P K) (k : Kp D X Y) (hd : ∀ g, P g → ¬ D g) (hK : K ≤ K') : Sl Y o P K' := fun b rb e => by
  obtain ⟨S, h1, h2⟩ := h b rb e
  exact ⟨S, h1.kp k hd, by omega⟩

/-- What is so between two steps. -/
structure WI (w X : World) (o1 o2 : Option (Nat × Nat)) (ob N : Nat) (K : Int) (P1 P2 Q : Nat → Prop) : Prop where
  s1 : Sl X o1 P1 K
  s2 : Sl X o2 P2 K
  ow : OW X ob Q N
  d12 : ∀ g, P1 g → ¬ P2 g
  d1 : ∀ g, P1 g → ¬ Q g
  d2 : ∀ g, P2 g → ¬ Q g
  l1 : ∀ g, P1 g → w.heap.size ≤ g ∧ g < X.heap.size
  l2 : ∀ g, P2 g → w.heap.size ≤ g ∧ g < X.heap.size
  lQ : ∀ g, Q g → w.heap.size ≤ g
  gr : w.grownBy X none
def WJ (w X : World) (o1 o2 : Option (Nat × Nat)) (ob N : Nat) (K : Int) : Prop := ∃ P1 P2 Q, WI w X o1 o2 ob N K P1 P2 Q

section
variable {w X Y : World} {o1 o2 : Option (Nat × Nat)} {b rb ob N : Nat} {K : Int}
theorem WJ.swap (h : WJ w X o1 o2 ob N K) : WJ w X o2 o1 ob N K := by
  obtain ⟨P1, P2, Q, h⟩ := h
  exact ⟨P2, P1, Q, h.s2, h.s1, h.ow, fun g q p => h.d12 g p q, h.d2, h.d1, h.l2, h.l1, h.lQ, h.gr⟩
theorem WJ.gr (h : WJ w X o1 o2 ob N K) : w.grownBy X none := by obtain ⟨P1, P2, Q, h⟩ := h; exact h.gr
theorem WJ.grown (h : WJ w X o1 o2 ob N K) (g : X.grownBy Y none) : WJ w Y o1 o2 ob N K := by
  obtain ⟨P1, P2, Q, h⟩ := h
  have k := Kp.grown g (fun _ => False)
  exact ⟨P1, P2, Q, h.s1.kp k (fun _ _ q => q) (Int.le_refl _), h.s2.kp k (fun _ _ q => q) (Int.le_refl _), h.ow.kp k (fun _ _ q => q), h.d12, h.d1, h.d2, fun j q => ⟨(h.l1 j q).1, Nat.lt_of_lt_of_le (h.l1 j q).2 g.size⟩, fun j q => ⟨(h.l2 j q).1, Nat.lt_of_lt_of_le (h.l2 j q).2 g.size⟩, h.lQ, grown_trans h.gr g⟩
theorem WJ.mono {N' : Nat} {K' : Int} (h : WJ w X o1 o2 ob N K) (hn : N ≤ N') (hk : K ≤ K') : WJ w X o1 o2 ob N' K' := by
  obtain ⟨P1, P2, Q, h⟩ := h
  have k := Kp.refl (fun _ => False) X
  exact ⟨P1, P2, Q, h.s1.kp k (fun _ _ q => q) hk, h.s2.kp k (fun _ _ q => q) hk, h.ow.mono hn, h.d12, h.d1, h.d2, h.l1, h.l2, h.lQ, h.gr⟩

def StepJ (w : World) (o1 o2 : Option (Nat × Nat)) (ob N : Nat) (K : Int) (e : Ending) (Y : World) : Prop := e = .returned (.bool true) ∧ WJ w Y o1 o2 ob N K

/-- A step of the first pair. -/
theorem WJ.step (h : WJ w X (some (b, rb)) o2 ob N K) (x : OpE) (hx : x.Ok w) (hb : x.dn ≤ 1000000000) (hK : K ≤ 1000000000) (hN : N + 4 ≤ 100000000) :
    Calls Try.prog 9 #[ptr b, ptr rb, .agg #[.int .i64 x.kind, .bool x.other, .slice x.da x.dn x.dc, .int .i64 x.off, .int .i64 x.size, .bool x.fin, .int .i64 x.most], ptr ob] X (StepJ w (some (b, rb)) o2 ob (N + 4) (K + x.dn)) := by
  obtain ⟨P1, P2, Q, h⟩ := h
  obtain ⟨S, hp, hw⟩ := h.s1 b rb rfl
  have rd : Rd X x.da x.p := rd_kept hx.rd (Kp.grown h.gr (fun _ => False)) fun _ _ _ _ q => q
  refine (step_any hp h.ow h.d1 hN (by omega) hx.k hx.o hx.s hx.m rd hx.len hx.cap hb fun hl pb off e q => ?_).mono ?_
  · have := (h.l1 pb q).1
    have := rd_lt hx.rd hl pb off e
    omega
  · rintro e U hu
    obtain ⟨P', Q', S', k1, k2, k3, k4, k5, k6⟩ := hu.ex
    have xs := h.gr.size
    have n2 : ∀ g, P2 g → ¬ (P1 g ∨ Q g) := fun g q z => z.elim (fun z => h.d12 g z q) (fun z => h.d2 g q z)
    refine ⟨hu.e, P', P2, Q', fun b' rb' e => ?_, h.s2.kp hu.kp n2 (by omega), k2, fun g q z => ?_, k5, fun g q z => ?_, fun g q => ⟨?_, k1.lt g q⟩, fun g q => ⟨(h.l2 g q).1, Nat.lt_of_lt_of_le (h.l2 g q).2 hu.kp.size⟩, fun g q => ?_, ?_⟩
    · cases e
      exact ⟨S', k1, by omega⟩
    · rcases k3 g q with q | q
      · exact h.d12 g q z
      · have := (h.l2 g z).2; omega
    · rcases k4 g z with z | z
      · exact h.d2 g q z
      · have := (h.l2 g q).2; omega
    · rcases k3 g q with q | q
      · exact (h.l1 g q).1
      · omega
    · rcases k4 g q with q | q
      · exact h.lQ g q
      · omega
    · exact ⟨hu.kp.os.trans h.gr.os, hu.kp.tape.trans h.gr.tape, hu.kp.output.trans h.gr.output, Nat.le_trans h.gr.size hu.kp.size, fun g hg _ => (hu.kp.block g (Nat.lt_of_lt_of_le hg h.gr.size) (fun z => by
        rcases z with z | z
        · have := (h.l1 g z).1; omega
        · have := h.lQ g z; omega)).trans (h.gr.block g hg (by simp))⟩

/-- The owner's last bytes, its last view. -/
theorem WJ.own {F : Nat → Prop} {N' : Nat} (h : WJ w X o1 o2 ob N K) {P1 P2 Q : Nat → Prop} (hi : WI w X o1 o2 ob N K P1 P2 Q) (hu : OwP X ob Q F N' Y) (hF : ∀ g, ¬ F g) : WJ w Y o1 o2 ob N' K := by
  obtain ⟨Q', k1, k2, k3⟩ := hu
  have k4 : ∀ g, Q' g → Q g ∨ X.heap.size ≤ g := fun g q => by
    rcases k2 g q with q | q | q
    · exact .inl q
    · exact (hF g q).elim
    · exact .inr q
  have xs := hi.gr.size
  refine ⟨P1, P2, Q', hi.s1.kp k3 hi.d1 (Int.le_refl _), hi.s2.kp k3 hi.d2 (Int.le_refl _), k1, hi.d12, fun g q z => ?_, fun g q z => ?_, fun g q => ⟨(hi.l1 g q).1, Nat.lt_of_lt_of_le (hi.l1 g q).2 k3.size⟩, fun g q => ⟨(hi.l2 g q).1, Nat.lt_of_lt_of_le (hi.l2 g q).2 k3.size⟩, fun g q => ?_, ?_⟩
  · rcases k4 g z with z | z
    · exact hi.d1 g q z
    · have := (hi.l1 g q).2; omega
  · rcases k4 g z with z | z
    · exact hi.d2 g q z
    · have := (hi.l2 g q).2; omega
  · rcases k4 g q with q | q
    · exact hi.lQ g q
    · omega
  · exact ⟨k3.os.trans hi.gr.os, k3.tape.trans hi.gr.tape, k3.output.trans hi.gr.output, Nat.le_trans hi.gr.size k3.size, fun g hg _ => (k3.block g (Nat.lt_of_lt_of_le hg hi.gr.size) (fun z => by have := hi.lQ g z; omega)).trans (hi.gr.block g hg (by simp))⟩
theorem WJ.bytes (h : WJ w X o1 o2 ob N K) (hN : N + 2 ≤ 100000000) : Calls Try.prog 10 #[ptr ob, .slice none 0 0, .slice none 0 0] X (StepJ w o1 o2 ob (N + 2) K) := by
  obtain ⟨P1, P2, Q, hi⟩ := h
  have r0 : RowV 0 5 X (.slice none 0 0) (uV []) := rowV_nil 0 5 X
  refine (hi.ow.bytes hN r0 r0 (fun x hx => (by cases hx)) (Nat.zero_le _) (fun g e => (by cases e)) (fun g e => (by cases e))).mono ?_
  rintro e Y ⟨rfl, hu⟩
  exact ⟨rfl, WJ.own ⟨P1, P2, Q, hi⟩ hi hu (fun g e => (by cases e))⟩
abbrev S0 : Sd := ⟨0, [], 0, 0, [], [], false, 0, false⟩
theorem WJ.viewed (h : WJ w X o1 o2 ob N K) (hN : N + 4 ≤ 100000000) : Calls Try.prog 11 #[ptr ob, .agg #[.int .i64 0, .int .i64 0, .int .i64 0, .slice none 0 0, .slice none 0 0, .bool false, .bool false, .bool false, .bool false, .bool false], .agg #[.int .i64 0, .int .i64 0, .int .i64 0, .slice none 0 0, .slice none 0 0, .bool false, .bool false, .bool false, .bool false, .bool false]] X (StepJ w o1 o2 ob (N + 4) K) := by
  obtain ⟨P1, P2, Q, hi⟩ := h
  have r0 : Row X (.slice none 0 0) [] := row_nil X
  refine (hi.ow.viewed (T := S0) hN r0 r0 r0 r0 (Nat.zero_le _) (Nat.zero_le _) (fun g e => (by cases e)) (fun g e => (by cases e)) (fun g e => (by cases e)) (fun g e => (by cases e))).mono ?_
  rintro e Y ⟨rfl, hu⟩
  exact ⟨rfl, WJ.own ⟨P1, P2, Q, hi⟩ hi hu (fun g e => by rcases e with e | e | e | e <;> cases e)⟩
end

/-- The owner as it begins. -/
theorem ow_new (X : World) : OW (X.alloc (.cells #[.slice none 0 0, .slice none 0 0, .string ⟨#[]⟩, .int .i64 0, .int .i64 0, .int .i64 0, .slice none 0 0, .slice none 0 0, .bool false, .bool false, .bool false, .bool false, .bool false, .int .i64 0, .int .i64 0, .int .i64 0, .slice none 0 0, .slice none 0 0, .bool false, .bool false, .bool false, .bool false, .bool false] 38)) X.heap.size (fun g => g = X.heap.size) 0 := by
  have r0 : ∀ Y, Row Y (.slice none 0 0) [] := fun Y => row_nil Y
  refine ⟨.slice none 0 0, .slice none 0 0, [], S0, .slice none 0 0, .slice none 0 0, .slice none 0 0, .slice none 0 0, fun _ => False, [], ⟨?_, ⟨rfl, .inl ⟨rfl, rfl⟩⟩, fun e he => (by cases he), Nat.zero_le _, fun g q => q.elim⟩, rowV_nil 0 5 _, fun x hx => (by cases hx), Nat.zero_le _, r0 _, r0 _, r0 _, r0 _, Nat.zero_le _, Nat.zero_le _, Nat.zero_le _, fun e he => (by cases he), fun g e => (by cases e), fun g e => (by cases e), fun g e => (by cases e), fun g e => (by cases e), fun g e => (by cases e), fun g => ?_⟩
  · exact Blk.new _ _ _
  · constructor
    · exact fun e => .inl (.inl e)
    · rintro ((e | e) | e | e | e | e | e | e)
      · exact e
      all_goals first | exact e.elim | cases e

theorem RF.low {n0 : Nat} {X : World} {rb : Nat} {vt vi : Value} {R : Rs} (h : RF n0 X rb vt vi R) : RF 0 X rb vt vi R := ⟨h.blk, own_low h.tr, own_low h.ir, Nat.zero_le _⟩
/-- A pair as it begins. -/
theorem pr_new {W0 W1 W3 W5 : World} {b ba bl rb n2 : Nat} {cap : Int} (hA : At W0 (fun _ => False) b ba bl nilS W1 (new0 cap)) (h2 : W1.heap.size ≤ n2) (g15 : W1.grownBy W5 none) (hR : RS n2 W3 rb nilS nilS (new0 cap)) (g35 : W3.grownBy W5 none) (hc : 1 ≤ cap ∧ cap ≤ 65536) :
    PR W5 b rb (fun g => (W0.heap.size ≤ g ∧ g < W1.heap.size) ∨ g = rb) (new0 cap) := by
  refine ⟨_, ba, bl, nilS, nilS, nilS, hA.rebase g15, (RF.grown hR g35).low, sdok_new hc, StOk.new cap, fun g q z => ?_, fun g q => Nat.lt_of_lt_of_le q.2 g15.size, fun g => ?_⟩
  · have := hR.nb
    rcases z with z | z | z
    · have := q.2; omega
    · cases z
    · cases z
  · constructor
    · rintro (q | q)
      · exact .inl ⟨.inr q.1, q.2⟩
      · exact .inr (.inl q)
    · rintro (q | q | q | q)
      · exact .inl ⟨q.1.resolve_left id, q.2⟩
      · exact .inr q
      · cases q
      · cases q
end Go.Proofs.Ytdalekjpjnhboaa

namespace Go.Proofs.Ytdalekjpjnhboaa
open Go.RowKit
set_option linter.unusedVariables false
set_option maxHeartbeats 4000000
set_option maxRecDepth 100000

/-- How many bytes the first steps have. -/
def tot (ol : List OpE) : Nat → Int
  | 0 => 0
  | k + 1 => tot ol k + ((ol[k]?.map fun x => x.dn).getD 0 : Nat)
theorem tot_at {ol : List OpE} {k : Nat} {x : OpE} (h : ol[k]? = some x) : tot ol (k + 1) = tot ol k + (x.dn : Int) := by simp [tot, h]
theorem tot_nn (ol : List OpE) : ∀ k, 0 ≤ tot ol k
  | 0 => Int.le_refl _
  | k + 1 => by have := tot_nn ol k; simp only [tot]; omega
theorem tot_le (ol : List OpE) : ∀ {j k : Nat}, j ≤ k → tot ol j ≤ tot ol k := fun {j k} h => by
  induction h with
  | refl => exact Int.le_refl _
  | step h ih => simp only [tot]; omega

def xV : OpE := ⟨7, false, none, 0, 0, 0, 0, false, 0, []⟩
def xN : OpE := ⟨3, false, none, 0, 0, 4611686018427387904, 0, false, 1099511627776, []⟩
theorem xV_ok (w : World) : xV.Ok w := ⟨by decide, by decide, by decide, by decide, rfl, by decide, by decide, ⟨fun x hx => (by cases hx), fun q => absurd rfl q⟩⟩
theorem xN_ok (w : World) : xN.Ok w := ⟨by decide, by decide, by decide, by decide, rfl, by decide, by decide, ⟨fun x hx => (by cases hx), fun q => absurd rfl q⟩⟩

set_option maxHeartbeats 8000000 in
theorem plays_11 (cap oth : Int) (oa : Option Addr) (len ocap : Nat) (ol : List OpE) (w : World) (hops : IsOps w oa len ocap ol) (hlen : len ≤ 1048576) (htot : tot ol len ≤ 1048576) (hb : ∀ x ∈ ol, x.dn ≤ 1048576) (hc : (1 ≤ cap ∧ cap ≤ 65536)) (hd : (1 ≤ oth ∧ oth ≤ 65536)) :
    Calls Try.prog 3 #[.int .i64 cap, .int .i64 oth, .slice oa len ocap] w fun e w' => e = .returned (.bool true) ∧ w.grownBy w' none := by
  have hcell := hops.cell
  have hopok := hops.ok
  have hol := hops.hlen
  have hocap := hops.hcap
  clear hops
  have hsh := shown_ok w
  go_enter Try.func3, Try.ntmps3
  go_wp2_with fail
  refine hsh.mono ?_
  rintro e W0 ⟨rfl, g0⟩
  clear hsh
  have hn := new_at cap W0 hc
  go_wp2_with fail
  refine hn.mono ?_
  rintro e W1 ⟨b1, ba1, bl1, rfl, hA1⟩
  have A1 := hide hA1
  have G1 : Hid (W0.grownBy W1 none) := kp_none hA1.kp
  clear hn hA1
  have hn := new_at oth W1 hd
  go_wp2_with fail
  refine hn.mono ?_
  rintro e W2 ⟨b2, ba2, bl2, rfl, hA2⟩
  have A2 := hide hA2
  have G2 : Hid (W1.grownBy W2 none) := kp_none hA2.kp
  clear hn hA2
  have hn := newR cap W2 hc
  go_wp2_with fail
  refine hn.mono ?_
  rintro e W3 ⟨r1, rfl, hR1, gR1⟩
  have R1 := hide hR1
  have G3 : Hid (W2.grownBy W3 none) := gR1
  clear hn hR1 gR1
  have hn := newR oth W3 hd
  go_wp2_with fail
  refine hn.mono ?_
  rintro e W4 ⟨r2, rfl, hR2, gR2⟩
  have R2 := hide hR2
  have G4 : Hid (W3.grownBy W4 none) := gR2
  clear hn hR2 gR2
  obtain ⟨X0, hX0⟩ : ∃ X0, X0 = W4.alloc (.cells #[.slice none 0 0, .slice none 0 0, .string ⟨#[]⟩, .int .i64 0, .int .i64 0, .int .i64 0, .slice none 0 0, .slice none 0 0, .bool false, .bool false, .bool false, .bool false, .bool false, .int .i64 0, .int .i64 0, .int .i64 0, .slice none 0 0, .slice none 0 0, .bool false, .bool false, .bool false, .bool false, .bool false] 38) := ⟨_, rfl⟩
  have gX : W4.grownBy X0 none := by rw [hX0]; exact grown_alloc _ _
  have ow : OW X0 W4.heap.size (fun g => g = W4.heap.size) 0 := by rw [hX0]; exact ow_new _
  have gall : w.grownBy X0 none := grown_trans g0 (grown_trans (unhide G1) (grown_trans (unhide G2) (grown_trans (unhide G3) (grown_trans (unhide G4) (gX)))))
  have z0 := g0.size
  have z1 := (unhide G1).size
  have z2 := (unhide G2).size
  have z3 := (unhide G3).size
  have z4 := (unhide G4).size
  have z5 := (gX).size
  have zX : X0.heap.size = W4.heap.size + 1 := by rw [hX0]; exact alloc_size _ _
  have p1 := pr_new (unhide A1) (n2 := W2.heap.size) (by omega) (grown_trans (unhide G2) (grown_trans (unhide G3) (grown_trans (unhide G4) (gX)))) (unhide R1) (grown_trans (unhide G4) (gX)) hc
  have n1 := (unhide R1).nb
  have m1 := (unhide R1).blk.lt
  have p2 := pr_new (unhide A2) (n2 := W3.heap.size) (by omega) (grown_trans (unhide G3) (grown_trans (unhide G4) (gX))) (unhide R2) (gX) hd
  have n2 := (unhide R2).nb
  have m2 := (unhide R2).blk.lt
  have I0 : Hid (WJ w X0 (some (b1, r1)) (some (b2, r2)) W4.heap.size 0 (tot ol 0)) := by
    refine ⟨(fun g => (W0.heap.size ≤ g ∧ g < W1.heap.size) ∨ g = r1), (fun g => (W1.heap.size ≤ g ∧ g < W2.heap.size) ∨ g = r2), fun g => g = W4.heap.size, fun b rb e => ?_, fun b rb e => ?_, ow, fun g q z => ?_, fun g q z => ?_, fun g q z => ?_, fun g q => ?_, fun g q => ?_, fun g q => ?_, gall⟩
    · cases e; exact ⟨_, p1, by simp [wr, new0, tot]⟩
    · cases e; exact ⟨_, p2, by simp [wr, new0, tot]⟩
    · rcases q with q | q <;> rcases z with z | z <;> omega
    · rcases q with q | q <;> omega
    · rcases q with q | q <;> omega
    · rcases q with q | q <;> constructor <;> omega
    · rcases q with q | q <;> constructor <;> omega
    · omega
  clear g0 ow gX gall z0 zX z1 z2 z3 z4 z5 A1 G1 R1 G3 p1 n1 m1 A2 G2 R2 G4 p2 n2 m2
  obtain ⟨ob, hob⟩ : ∃ ob, ob = W4.heap.size := ⟨_, rfl⟩
  rw [← hob] at I0
  go_upto_region 9 with fail
  rw [← hX0, ← hob]
  clear hX0 hob
  have HC := hide hcell
  have HO := hide hopok
  have HL := hide hol
  have HT := hide htot
  have HB := hide hb
  clear hcell hopok hol htot hb
  go_wp2_with fail
  go_loopw [17, 18] (fun i ok X => ∃ k : Nat, k ≤ len ∧ i = .int .i64 k ∧ Hid (WJ w X (some (b1, r1)) (some (b2, r2)) ob (4 * k) (tot ol k))) (fun i _ _ => len - (intOf i).toNat)
  case atStart => exact ⟨0, Nat.zero_le _, rfl, I0⟩
  case round =>
    clear I0
    obtain ⟨k, hk, rfl, I⟩ := hrel
    by_cases hlt : k < len
    · have hI := unhide I
      have hkl : k < ol.length := by rw [unhide HL]; exact hlt
      obtain ⟨x, hx⟩ : ∃ x, ol[k]? = some x := ⟨_, List.getElem?_eq_getElem hkl⟩
      have hxo := unhide HO x (List.mem_of_getElem? hx)
      have hxb := unhide HB x (List.mem_of_getElem? hx)
      have hT1 : Hid (tot ol (k + 1) = tot ol k + (x.dn : Int)) := tot_at hx
      have hT2 : tot ol k ≤ 1048576 := Int.le_trans (tot_le ol (Nat.le_of_lt hlt)) (unhide HT)
      obtain ⟨sb, soff, rfl, hcells⟩ := (unhide HC).resolve_left (by omega)
      have cx : ∀ j v, x.cs[j]? = some v → wr.cell? ⟨sb, soff + k * 7 + j, none⟩ = some v := fun j v hj => cell_grown (hcells k x hx j v hj) hI.gr
      have x0 := cx 0 _ rfl
      have x1 := cx 1 _ rfl
      have x2 := cx 2 _ rfl
      have x3 := cx 3 _ rfl
      have x4 := cx 4 _ rfl
      have x5 := cx 5 _ rfl
      have x6 := cx 6 _ rfl
      rw [Nat.add_zero] at x0
      have hkn : (k : Int) < (len : Int) := by omega
      have kw : IntKind.i64.wrap ((k : Int) + 1) = ((k + 1 : Nat) : Int) := by rw [IntKind.wrap_i64]; omega
      have NXT : Hid (∀ Y, WJ w Y (some (b1, r1)) (some (b2, r2)) ob (4 * k + 4) (tot ol k + (x.dn : Int)) → WJ w Y (some (b1, r1)) (some (b2, r2)) ob (4 * (k + 1)) (tot ol (k + 1))) := fun Y h => h.mono (by omega) (by rw [unhide hT1]; exact Int.le_refl _)
      have NXS : Hid (WJ w wr (some (b1, r1)) (some (b2, r2)) ob (4 * (k + 1)) (tot ol (k + 1))) := hI.mono (by omega) (by rw [unhide hT1]; omega)
      have st1 := hI.step x hxo (by omega) (by omega) (by omega)
      have st2 := hI.swap.step x hxo (by omega) (by omega) (by omega)
      clear cx hcells hI hxo hxb hT2 hkl
      have HX := hide hx
      have HLT := hide hlt
      clear hx
      cases hoth : x.other with
      | true =>
        rw [hoth] at x1 st1 st2
        go_wp2_with fail
        refine st2.mono ?_
        rintro e Y ⟨rfl, hY⟩
        have HY : Hid (WJ w Y (some (b1, r1)) (some (b2, r2)) ob (4 * (k + 1)) (tot ol (k + 1))) := unhide NXT Y hY.swap
        clear st2 hY
        go_wp2_with fail
        all_goals exact ⟨⟨k + 1, by omega, by simp [*], HY⟩, by simp [intOf]; omega⟩
      | false =>
        rw [hoth] at x1 st1 st2
        go_wp2_with fail
        refine st1.mono ?_
        rintro e Y ⟨rfl, hY⟩
        have HY : Hid (WJ w Y (some (b1, r1)) (some (b2, r2)) ob (4 * (k + 1)) (tot ol (k + 1))) := unhide NXT Y hY
        clear st1 hY
        go_wp2_with fail
        all_goals exact ⟨⟨k + 1, by omega, by simp [*], HY⟩, by simp [intOf]; omega⟩
    · obtain rfl : k = len := by omega
      have hI := unhide I
      have hT2 := unhide HT
      have hnk : ¬ (k : Int) < (k : Int) := by omega
      clear I
      have st := (hI.mono (N' := 4 * k) (K' := 1048576) (by omega) (by omega)).step xV (xV_ok w) (by decide) (by decide) (by omega)
      unfold xV at st
      have HH := hide hT2
      go_wp2_with fail
      refine st.mono ?_
      rintro e Y0 ⟨rfl, hY0⟩
      clear st HH
      have st := (hY0.mono (N' := 4 * k + 4) (K' := 1048576) (by omega) (by simp)).swap.step xV (xV_ok w) (by decide) (by decide) (by omega)
      unfold xV at st
      have HH := hide hT2
      go_wp2_with fail
      refine st.mono ?_
      rintro e Y1 ⟨rfl, hY1⟩
      clear st HH
      have st := (hY1.swap.mono (N' := 4 * k + 4 + 4) (K' := 1048576) (by omega) (by simp)).step xN (xN_ok w) (by decide) (by decide) (by omega)
      unfold xN at st
      have HH := hide hT2
      go_wp2_with fail
      refine st.mono ?_
      rintro e Y2 ⟨rfl, hY2⟩
      clear st HH
      have st := (hY2.mono (N' := 4 * k + 4 + 4 + 4) (K' := 1048576) (by omega) (by simp)).swap.step xN (xN_ok w) (by decide) (by decide) (by omega)
      unfold xN at st
      have HH := hide hT2
      go_wp2_with fail
      refine st.mono ?_
      rintro e Y3 ⟨rfl, hY3⟩
      clear st HH
      have hZ := hY3.swap
      have by0 := hZ.bytes (by omega)
      clear hZ
      go_wp2_with fail
      refine by0.mono ?_
      rintro e Yb ⟨rfl, hYb⟩
      have vi0 := hYb.viewed (by omega)
      clear by0 hYb
      go_wp2_with fail
      refine vi0.mono ?_
      rintro e Yv ⟨rfl, hYv⟩
      have GE := hide hYv.gr
      clear vi0 hYv
      go_wp2_with fail
      all_goals go_ret
      all_goals exact ⟨rfl, unhide GE⟩

set_option maxHeartbeats 8000000 in
theorem plays_10 (cap oth : Int) (oa : Option Addr) (len ocap : Nat) (ol : List OpE) (w : World) (hops : IsOps w oa len ocap ol) (hlen : len ≤ 1048576) (htot : tot ol len ≤ 1048576) (hb : ∀ x ∈ ol, x.dn ≤ 1048576) (hc : (1 ≤ cap ∧ cap ≤ 65536)) (hd : ¬ (1 ≤ oth ∧ oth ≤ 65536)) :
    Calls Try.prog 3 #[.int .i64 cap, .int .i64 oth, .slice oa len ocap] w fun e w' => e = .returned (.bool true) ∧ w.grownBy w' none := by
  have hcell := hops.cell
  have hopok := hops.ok
  have hol := hops.hlen
  have hocap := hops.hcap
  clear hops
  have hsh := shown_ok w
  go_enter Try.func3, Try.ntmps3
  go_wp2_with fail
  refine hsh.mono ?_
  rintro e W0 ⟨rfl, g0⟩
  clear hsh
  have hn := new_at cap W0 hc
  go_wp2_with fail
  refine hn.mono ?_
  rintro e W1 ⟨b1, ba1, bl1, rfl, hA1⟩
  have A1 := hide hA1
  have G1 : Hid (W0.grownBy W1 none) := kp_none hA1.kp
  clear hn hA1
  have hn := new_bad oth W1 hd
  go_wp2_with fail
  refine hn.mono ?_
  rintro e W2 ⟨rfl, hW2⟩
  subst W2
  clear hn
  have hn := newR cap W1 hc
  go_wp2_with fail
  refine hn.mono ?_
  rintro e W3 ⟨r1, rfl, hR1, gR1⟩
  have R1 := hide hR1
  have G3 : Hid (W1.grownBy W3 none) := gR1
  clear hn hR1 gR1
  have hn := newR_bad oth W3 hd
  go_wp2_with fail
  refine hn.mono ?_
  rintro e W4 ⟨rfl, hW4⟩
  subst W4
  clear hn
  obtain ⟨X0, hX0⟩ : ∃ X0, X0 = W3.alloc (.cells #[.slice none 0 0, .slice none 0 0, .string ⟨#[]⟩, .int .i64 0, .int .i64 0, .int .i64 0, .slice none 0 0, .slice none 0 0, .bool false, .bool false, .bool false, .bool false, .bool false, .int .i64 0, .int .i64 0, .int .i64 0, .slice none 0 0, .slice none 0 0, .bool false, .bool false, .bool false, .bool false, .bool false] 38) := ⟨_, rfl⟩
  have gX : W3.grownBy X0 none := by rw [hX0]; exact grown_alloc _ _
  have ow : OW X0 W3.heap.size (fun g => g = W3.heap.size) 0 := by rw [hX0]; exact ow_new _
  have gall : w.grownBy X0 none := grown_trans g0 (grown_trans (unhide G1) (grown_trans (unhide G3) (gX)))
  have z0 := g0.size
  have z1 := (unhide G1).size
  have z2 := (unhide G3).size
  have z3 := (gX).size
  have zX : X0.heap.size = W3.heap.size + 1 := by rw [hX0]; exact alloc_size _ _
  have p1 := pr_new (unhide A1) (n2 := W1.heap.size) (by omega) (grown_trans (unhide G3) (gX)) (unhide R1) (gX) hc
  have n1 := (unhide R1).nb
  have m1 := (unhide R1).blk.lt
  have I0 : Hid (WJ w X0 (some (b1, r1)) none W3.heap.size 0 (tot ol 0)) := by
    refine ⟨(fun g => (W0.heap.size ≤ g ∧ g < W1.heap.size) ∨ g = r1), (fun _ => False), fun g => g = W3.heap.size, fun b rb e => ?_, fun b rb e => ?_, ow, fun g q z => ?_, fun g q z => ?_, fun g q z => ?_, fun g q => ?_, fun g q => ?_, fun g q => ?_, gall⟩
    · cases e; exact ⟨_, p1, by simp [wr, new0, tot]⟩
    · cases e
    · first | exact q.elim | exact z.elim
    · rcases q with q | q <;> omega
    · exact q.elim
    · rcases q with q | q <;> constructor <;> omega
    · exact q.elim
    · omega
  clear g0 ow gX gall z0 zX z1 z2 z3 A1 G1 R1 G3 p1 n1 m1
  obtain ⟨ob, hob⟩ : ∃ ob, ob = W3.heap.size := ⟨_, rfl⟩
  rw [← hob] at I0
  go_upto_region 9 with fail
  rw [← hX0, ← hob]
  clear hX0 hob
  have HC := hide hcell
  have HO := hide hopok
  have HL := hide hol
  have HT := hide htot
  have HB := hide hb
  clear hcell hopok hol htot hb
  go_wp2_with fail
  go_loopw [17, 18] (fun i ok X => ∃ k : Nat, k ≤ len ∧ i = .int .i64 k ∧ Hid (WJ w X (some (b1, r1)) none ob (4 * k) (tot ol k))) (fun i _ _ => len - (intOf i).toNat)
  case atStart => exact ⟨0, Nat.zero_le _, rfl, I0⟩
  case round =>
    clear I0
    obtain ⟨k, hk, rfl, I⟩ := hrel
    by_cases hlt : k < len
    · have hI := unhide I
      have hkl : k < ol.length := by rw [unhide HL]; exact hlt
      obtain ⟨x, hx⟩ : ∃ x, ol[k]? = some x := ⟨_, List.getElem?_eq_getElem hkl⟩
      have hxo := unhide HO x (List.mem_of_getElem? hx)
      have hxb := unhide HB x (List.mem_of_getElem? hx)
      have hT1 : Hid (tot ol (k + 1) = tot ol k + (x.dn : Int)) := tot_at hx
      have hT2 : tot ol k ≤ 1048576 := Int.le_trans (tot_le ol (Nat.le_of_lt hlt)) (unhide HT)
      obtain ⟨sb, soff, rfl, hcells⟩ := (unhide HC).resolve_left (by omega)
      have cx : ∀ j v, x.cs[j]? = some v → wr.cell? ⟨sb, soff + k * 7 + j, none⟩ = some v := fun j v hj => cell_grown (hcells k x hx j v hj) hI.gr
      have x0 := cx 0 _ rfl
      have x1 := cx 1 _ rfl
      have x2 := cx 2 _ rfl
      have x3 := cx 3 _ rfl
      have x4 := cx 4 _ rfl
      have x5 := cx 5 _ rfl
      have x6 := cx 6 _ rfl
      rw [Nat.add_zero] at x0
      have hkn : (k : Int) < (len : Int) := by omega
      have kw : IntKind.i64.wrap ((k : Int) + 1) = ((k + 1 : Nat) : Int) := by rw [IntKind.wrap_i64]; omega
      have NXT : Hid (∀ Y, WJ w Y (some (b1, r1)) none ob (4 * k + 4) (tot ol k + (x.dn : Int)) → WJ w Y (some (b1, r1)) none ob (4 * (k + 1)) (tot ol (k + 1))) := fun Y h => h.mono (by omega) (by rw [unhide hT1]; exact Int.le_refl _)
      have NXS : Hid (WJ w wr (some (b1, r1)) none ob (4 * (k + 1)) (tot ol (k + 1))) := hI.mono (by omega) (by rw [unhide hT1]; omega)
      have st1 := hI.step x hxo (by omega) (by omega) (by omega)
      clear cx hcells hI hxo hxb hT2 hkl
      have HX := hide hx
      have HLT := hide hlt
      clear hx
      cases hoth : x.other with
      | true =>
        rw [hoth] at x1 st1
        go_wp2_with fail
        all_goals exact ⟨⟨k + 1, by omega, by simp [*], NXS⟩, by simp [intOf]; omega⟩
      | false =>
        rw [hoth] at x1 st1
        go_wp2_with fail
        refine st1.mono ?_
        rintro e Y ⟨rfl, hY⟩
        have HY : Hid (WJ w Y (some (b1, r1)) none ob (4 * (k + 1)) (tot ol (k + 1))) := unhide NXT Y hY
        clear st1 hY
        go_wp2_with fail
        all_goals exact ⟨⟨k + 1, by omega, by simp [*], HY⟩, by simp [intOf]; omega⟩
    · obtain rfl : k = len := by omega
      have hI := unhide I
      have hT2 := unhide HT
      have hnk : ¬ (k : Int) < (k : Int) := by omega
      clear I
      have st := (hI.mono (N' := 4 * k) (K' := 1048576) (by omega) (by omega)).step xV (xV_ok w) (by decide) (by decide) (by omega)
      unfold xV at st
      have HH := hide hT2
      go_wp2_with fail
      refine st.mono ?_
      rintro e Y0 ⟨rfl, hY0⟩
      clear st HH
      have st := (hY0.mono (N' := 4 * k + 4) (K' := 1048576) (by omega) (by simp)).step xN (xN_ok w) (by decide) (by decide) (by omega)
      unfold xN at st
      have HH := hide hT2
      go_wp2_with fail
      refine st.mono ?_
      rintro e Y1 ⟨rfl, hY1⟩
      clear st HH
      have hZ := hY1
      have by0 := hZ.bytes (by omega)
      clear hZ
      go_wp2_with fail
      refine by0.mono ?_
      rintro e Yb ⟨rfl, hYb⟩
      have vi0 := hYb.viewed (by omega)
      clear by0 hYb
      go_wp2_with fail
      refine vi0.mono ?_
      rintro e Yv ⟨rfl, hYv⟩
      have GE := hide hYv.gr
      clear vi0 hYv
      go_wp2_with fail
      all_goals go_ret
      all_goals exact ⟨rfl, unhide GE⟩

set_option maxHeartbeats 8000000 in
theorem plays_01 (cap oth : Int) (oa : Option Addr) (len ocap : Nat) (ol : List OpE) (w : World) (hops : IsOps w oa len ocap ol) (hlen : len ≤ 1048576) (htot : tot ol len ≤ 1048576) (hb : ∀ x ∈ ol, x.dn ≤ 1048576) (hc : ¬ (1 ≤ cap ∧ cap ≤ 65536)) (hd : (1 ≤ oth ∧ oth ≤ 65536)) :
    Calls Try.prog 3 #[.int .i64 cap, .int .i64 oth, .slice oa len ocap] w fun e w' => e = .returned (.bool true) ∧ w.grownBy w' none := by
  have hcell := hops.cell
  have hopok := hops.ok
  have hol := hops.hlen
  have hocap := hops.hcap
  clear hops
  have hsh := shown_ok w
  go_enter Try.func3, Try.ntmps3
  go_wp2_with fail
  refine hsh.mono ?_
  rintro e W0 ⟨rfl, g0⟩
  clear hsh
  have hn := new_bad cap W0 hc
  go_wp2_with fail
  refine hn.mono ?_
  rintro e W1 ⟨rfl, hW1⟩
  subst W1
  clear hn
  have hn := new_at oth W0 hd
  go_wp2_with fail
  refine hn.mono ?_
  rintro e W2 ⟨b2, ba2, bl2, rfl, hA2⟩
  have A2 := hide hA2
  have G2 : Hid (W0.grownBy W2 none) := kp_none hA2.kp
  clear hn hA2
  have hn := newR_bad cap W2 hc
  go_wp2_with fail
  refine hn.mono ?_
  rintro e W3 ⟨rfl, hW3⟩
  subst W3
  clear hn
  have hn := newR oth W2 hd
  go_wp2_with fail
  refine hn.mono ?_
  rintro e W4 ⟨r2, rfl, hR2, gR2⟩
  have R2 := hide hR2
  have G4 : Hid (W2.grownBy W4 none) := gR2
  clear hn hR2 gR2
  obtain ⟨X0, hX0⟩ : ∃ X0, X0 = W4.alloc (.cells #[.slice none 0 0, .slice none 0 0, .string ⟨#[]⟩, .int .i64 0, .int .i64 0, .int .i64 0, .slice none 0 0, .slice none 0 0, .bool false, .bool false, .bool false, .bool false, .bool false, .int .i64 0, .int .i64 0, .int .i64 0, .slice none 0 0, .slice none 0 0, .bool false, .bool false, .bool false, .bool false, .bool false] 38) := ⟨_, rfl⟩
  have gX : W4.grownBy X0 none := by rw [hX0]; exact grown_alloc _ _
  have ow : OW X0 W4.heap.size (fun g => g = W4.heap.size) 0 := by rw [hX0]; exact ow_new _
  have gall : w.grownBy X0 none := grown_trans g0 (grown_trans (unhide G2) (grown_trans (unhide G4) (gX)))
  have z0 := g0.size
  have z1 := (unhide G2).size
  have z2 := (unhide G4).size
  have z3 := (gX).size
  have zX : X0.heap.size = W4.heap.size + 1 := by rw [hX0]; exact alloc_size _ _
  have p2 := pr_new (unhide A2) (n2 := W2.heap.size) (by omega) (grown_trans (unhide G4) (gX)) (unhide R2) (gX) hd
  have n2 := (unhide R2).nb
  have m2 := (unhide R2).blk.lt
  have I0 : Hid (WJ w X0 none (some (b2, r2)) W4.heap.size 0 (tot ol 0)) := by
    refine ⟨(fun _ => False), (fun g => (W0.heap.size ≤ g ∧ g < W2.heap.size) ∨ g = r2), fun g => g = W4.heap.size, fun b rb e => ?_, fun b rb e => ?_, ow, fun g q z => ?_, fun g q z => ?_, fun g q z => ?_, fun g q => ?_, fun g q => ?_, fun g q => ?_, gall⟩
    · cases e
    · cases e; exact ⟨_, p2, by simp [wr, new0, tot]⟩
    · first | exact q.elim | exact z.elim
    · exact q.elim
    · rcases q with q | q <;> omega
    · exact q.elim
    · rcases q with q | q <;> constructor <;> omega
    · omega
  clear g0 ow gX gall z0 zX z1 z2 z3 A2 G2 R2 G4 p2 n2 m2
  obtain ⟨ob, hob⟩ : ∃ ob, ob = W4.heap.size := ⟨_, rfl⟩
  rw [← hob] at I0
  go_upto_region 9 with fail
  rw [← hX0, ← hob]
  clear hX0 hob
  have HC := hide hcell
  have HO := hide hopok
  have HL := hide hol
  have HT := hide htot
  have HB := hide hb
  clear hcell hopok hol htot hb
  go_wp2_with fail
  go_loopw [17, 18] (fun i ok X => ∃ k : Nat, k ≤ len ∧ i = .int .i64 k ∧ Hid (WJ w X none (some (b2, r2)) ob (4 * k) (tot ol k))) (fun i _ _ => len - (intOf i).toNat)
  case atStart => exact ⟨0, Nat.zero_le _, rfl, I0⟩
  case round =>
    clear I0
    obtain ⟨k, hk, rfl, I⟩ := hrel
    by_cases hlt : k < len
    · have hI := unhide I
      have hkl : k < ol.length := by rw [unhide HL]; exact hlt
      obtain ⟨x, hx⟩ : ∃ x, ol[k]? = some x := ⟨_, List.getElem?_eq_getElem hkl⟩
      have hxo := unhide HO x (List.mem_of_getElem? hx)
      have hxb := unhide HB x (List.mem_of_getElem? hx)
      have hT1 : Hid (tot ol (k + 1) = tot ol k + (x.dn : Int)) := tot_at hx
      have hT2 : tot ol k ≤ 1048576 := Int.le_trans (tot_le ol (Nat.le_of_lt hlt)) (unhide HT)
      obtain ⟨sb, soff, rfl, hcells⟩ := (unhide HC).resolve_left (by omega)
      have cx : ∀ j v, x.cs[j]? = some v → wr.cell? ⟨sb, soff + k * 7 + j, none⟩ = some v := fun j v hj => cell_grown (hcells k x hx j v hj) hI.gr
      have x0 := cx 0 _ rfl
      have x1 := cx 1 _ rfl
      have x2 := cx 2 _ rfl
      have x3 := cx 3 _ rfl
      have x4 := cx 4 _ rfl
      have x5 := cx 5 _ rfl
      have x6 := cx 6 _ rfl
      rw [Nat.add_zero] at x0
      have hkn : (k : Int) < (len : Int) := by omega
      have kw : IntKind.i64.wrap ((k : Int) + 1) = ((k + 1 : Nat) : Int) := by rw [IntKind.wrap_i64]; omega
      have NXT : Hid (∀ Y, WJ w Y none (some (b2, r2)) ob (4 * k + 4) (tot ol k + (x.dn : Int)) → WJ w Y none (some (b2, r2)) ob (4 * (k + 1)) (tot ol (k + 1))) := fun Y h => h.mono (by omega) (by rw [unhide hT1]; exact Int.le_refl _)
      have NXS : Hid (WJ w wr none (some (b2, r2)) ob (4 * (k + 1)) (tot ol (k + 1))) := hI.mono (by omega) (by rw [unhide hT1]; omega)
      have st2 := hI.swap.step x hxo (by omega) (by omega) (by omega)
      clear cx hcells hI hxo hxb hT2 hkl
      have HX := hide hx
      have HLT := hide hlt
      clear hx
      cases hoth : x.other with
      | true =>
        rw [hoth] at x1 st2
        go_wp2_with fail
        refine st2.mono ?_
        rintro e Y ⟨rfl, hY⟩
        have HY : Hid (WJ w Y none (some (b2, r2)) ob (4 * (k + 1)) (tot ol (k + 1))) := unhide NXT Y hY.swap
        clear st2 hY
        go_wp2_with fail
        all_goals exact ⟨⟨k + 1, by omega, by simp [*], HY⟩, by simp [intOf]; omega⟩
      | false =>
        rw [hoth] at x1 st2
        go_wp2_with fail
        all_goals exact ⟨⟨k + 1, by omega, by simp [*], NXS⟩, by simp [intOf]; omega⟩
    · obtain rfl : k = len := by omega
      have hI := unhide I
      have hT2 := unhide HT
      have hnk : ¬ (k : Int) < (k : Int) := by omega
      clear I
      have st := (hI.mono (N' := 4 * k) (K' := 1048576) (by omega) (by omega)).swap.step xV (xV_ok w) (by decide) (by decide) (by omega)
      unfold xV at st
      have HH := hide hT2
      go_wp2_with fail
      refine st.mono ?_
      rintro e Y0 ⟨rfl, hY0⟩
      clear st HH
      have st := (hY0.swap.mono (N' := 4 * k + 4) (K' := 1048576) (by omega) (by simp)).swap.step xN (xN_ok w) (by decide) (by decide) (by omega)
      unfold xN at st
      have HH := hide hT2
      go_wp2_with fail
      refine st.mono ?_
      rintro e Y1 ⟨rfl, hY1⟩
      clear st HH
      have hZ := hY1.swap
      have by0 := hZ.bytes (by omega)
      clear hZ
      go_wp2_with fail
      refine by0.mono ?_
      rintro e Yb ⟨rfl, hYb⟩
      have vi0 := hYb.viewed (by omega)
      clear by0 hYb
      go_wp2_with fail
      refine vi0.mono ?_
      rintro e Yv ⟨rfl, hYv⟩
      have GE := hide hYv.gr
      clear vi0 hYv
      go_wp2_with fail
      all_goals go_ret
      all_goals exact ⟨rfl, unhide GE⟩

set_option maxHeartbeats 8000000 in
theorem plays_00 (cap oth : Int) (oa : Option Addr) (len ocap : Nat) (ol : List OpE) (w : World) (hops : IsOps w oa len ocap ol) (hlen : len ≤ 1048576) (htot : tot ol len ≤ 1048576) (hb : ∀ x ∈ ol, x.dn ≤ 1048576) (hc : ¬ (1 ≤ cap ∧ cap ≤ 65536)) (hd : ¬ (1 ≤ oth ∧ oth ≤ 65536)) :
    Calls Try.prog 3 #[.int .i64 cap, .int .i64 oth, .slice oa len ocap] w fun e w' => e = .returned (.bool true) ∧ w.grownBy w' none := by
  have hcell := hops.cell
  have hopok := hops.ok
  have hol := hops.hlen
  have hocap := hops.hcap
  clear hops
  have hsh := shown_ok w
  go_enter Try.func3, Try.ntmps3
  go_wp2_with fail
  refine hsh.mono ?_
  rintro e W0 ⟨rfl, g0⟩
  clear hsh
  have hn := new_bad cap W0 hc
  go_wp2_with fail
  refine hn.mono ?_
  rintro e W1 ⟨rfl, hW1⟩
  subst W1
  clear hn
  have hn := new_bad oth W0 hd
  go_wp2_with fail
  refine hn.mono ?_
  rintro e W2 ⟨rfl, hW2⟩
  subst W2
  clear hn
  have hn := newR_bad cap W0 hc
  go_wp2_with fail
  refine hn.mono ?_
  rintro e W3 ⟨rfl, hW3⟩
  subst W3
  clear hn
  have hn := newR_bad oth W0 hd
  go_wp2_with fail
  refine hn.mono ?_
  rintro e W4 ⟨rfl, hW4⟩
  subst W4
  clear hn
  obtain ⟨X0, hX0⟩ : ∃ X0, X0 = W0.alloc (.cells #[.slice none 0 0, .slice none 0 0, .string ⟨#[]⟩, .int .i64 0, .int .i64 0, .int .i64 0, .slice none 0 0, .slice none 0 0, .bool false, .bool false, .bool false, .bool false, .bool false, .int .i64 0, .int .i64 0, .int .i64 0, .slice none 0 0, .slice none 0 0, .bool false, .bool false, .bool false, .bool false, .bool false] 38) := ⟨_, rfl⟩
  have gX : W0.grownBy X0 none := by rw [hX0]; exact grown_alloc _ _
  have ow : OW X0 W0.heap.size (fun g => g = W0.heap.size) 0 := by rw [hX0]; exact ow_new _
  have gall : w.grownBy X0 none := grown_trans g0 (gX)
  have z0 := g0.size
  have z1 := (gX).size
  have zX : X0.heap.size = W0.heap.size + 1 := by rw [hX0]; exact alloc_size _ _
  have I0 : Hid (WJ w X0 none none W0.heap.size 0 (tot ol 0)) := by
    refine ⟨(fun _ => False), (fun _ => False), fun g => g = W0.heap.size, fun b rb e => ?_, fun b rb e => ?_, ow, fun g q z => ?_, fun g q z => ?_, fun g q z => ?_, fun g q => ?_, fun g q => ?_, fun g q => ?_, gall⟩
    · cases e
    · cases e
    · first | exact q.elim | exact z.elim
    · exact q.elim
    · exact q.elim
    · exact q.elim
    · exact q.elim
    · omega
  clear g0 ow gX gall z0 zX z1
  obtain ⟨ob, hob⟩ : ∃ ob, ob = W0.heap.size := ⟨_, rfl⟩
  rw [← hob] at I0
  go_upto_region 9 with fail
  rw [← hX0, ← hob]
  clear hX0 hob
  have HC := hide hcell
  have HO := hide hopok
  have HL := hide hol
  have HT := hide htot
  have HB := hide hb
  clear hcell hopok hol htot hb
  go_wp2_with fail
  go_loopw [17, 18] (fun i ok X => ∃ k : Nat, k ≤ len ∧ i = .int .i64 k ∧ Hid (WJ w X none none ob (4 * k) (tot ol k))) (fun i _ _ => len - (intOf i).toNat)
  case atStart => exact ⟨0, Nat.zero_le _, rfl, I0⟩
  case round =>
    clear I0
    obtain ⟨k, hk, rfl, I⟩ := hrel
    by_cases hlt : k < len
    · have hI := unhide I
      have hkl : k < ol.length := by rw [unhide HL]; exact hlt
      obtain ⟨x, hx⟩ : ∃ x, ol[k]? = some x := ⟨_, List.getElem?_eq_getElem hkl⟩
      have hxo := unhide HO x (List.mem_of_getElem? hx)
      have hxb := unhide HB x (List.mem_of_getElem? hx)
      have hT1 : Hid (tot ol (k + 1) = tot ol k + (x.dn : Int)) := tot_at hx
      have hT2 : tot ol k ≤ 1048576 := Int.le_trans (tot_le ol (Nat.le_of_lt hlt)) (unhide HT)
      obtain ⟨sb, soff, rfl, hcells⟩ := (unhide HC).resolve_left (by omega)
      have cx : ∀ j v, x.cs[j]? = some v → wr.cell? ⟨sb, soff + k * 7 + j, none⟩ = some v := fun j v hj => cell_grown (hcells k x hx j v hj) hI.gr
      have x0 := cx 0 _ rfl
      have x1 := cx 1 _ rfl
      have x2 := cx 2 _ rfl
      have x3 := cx 3 _ rfl
      have x4 := cx 4 _ rfl
      have x5 := cx 5 _ rfl
      have x6 := cx 6 _ rfl
      rw [Nat.add_zero] at x0
      have hkn : (k : Int) < (len : Int) := by omega
      have kw : IntKind.i64.wrap ((k : Int) + 1) = ((k + 1 : Nat) : Int) := by rw [IntKind.wrap_i64]; omega
      have NXT : Hid (∀ Y, WJ w Y none none ob (4 * k + 4) (tot ol k + (x.dn : Int)) → WJ w Y none none ob (4 * (k + 1)) (tot ol (k + 1))) := fun Y h => h.mono (by omega) (by rw [unhide hT1]; exact Int.le_refl _)
      have NXS : Hid (WJ w wr none none ob (4 * (k + 1)) (tot ol (k + 1))) := hI.mono (by omega) (by rw [unhide hT1]; omega)
      clear cx hcells hI hxo hxb hT2 hkl
      have HX := hide hx
      have HLT := hide hlt
      clear hx
      cases hoth : x.other with
      | true =>
        rw [hoth] at x1
        go_wp2_with fail
        all_goals exact ⟨⟨k + 1, by omega, by simp [*], NXS⟩, by simp [intOf]; omega⟩
      | false =>
        rw [hoth] at x1
        go_wp2_with fail
        all_goals exact ⟨⟨k + 1, by omega, by simp [*], NXS⟩, by simp [intOf]; omega⟩
    · obtain rfl : k = len := by omega
      have hI := unhide I
      have hT2 := unhide HT
      have hnk : ¬ (k : Int) < (k : Int) := by omega
      clear I
      have hZ := hI.mono (N' := 4 * k) (K' := 1048576) (by omega) (by omega)
      have by0 := hZ.bytes (by omega)
      clear hZ
      go_wp2_with fail
      refine by0.mono ?_
      rintro e Yb ⟨rfl, hYb⟩
      have vi0 := hYb.viewed (by omega)
      clear by0 hYb
      go_wp2_with fail
      refine vi0.mono ?_
      rintro e Yv ⟨rfl, hYv⟩
      have GE := hide hYv.gr
      clear vi0 hYv
      go_wp2_with fail
      all_goals go_ret
      all_goals exact ⟨rfl, unhide GE⟩
end Go.Proofs.Ytdalekjpjnhboaa
