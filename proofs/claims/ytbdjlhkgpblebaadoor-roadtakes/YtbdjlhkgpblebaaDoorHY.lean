/- A wheel by its deadlines alone, and the blocks that it has. -/
import Derived.Test.YtbdjlhkgpblebaaDoorHX
namespace Go.Proofs.YtbdjlhkgpblebaaDoor
open Go.RowKit Go.Shelf Go.Maps
set_option linter.unusedVariables false
set_option maxRecDepth 100000
set_option maxHeartbeats 1000000

/-- A deadline: number and time. -/
abbrev Tm := Nat × Nat
def tm (n : Nd) : Tm := (n.id, n.at_)
def ltT (a b : Tm) : Prop := a.2 < b.2 ∨ (a.2 = b.2 ∧ a.1 < b.1)
instance (a b : Tm) : Decidable (ltT a b) := by unfold ltT; infer_instance
def insT (x : Tm) : List Tm → List Tm
  | [] => [x]
  | m :: t => if ltT x m then x :: m :: t else m :: insT x t
def delT (T : List Tm) (i : Int) : List Tm := T.filter (fun p => decide ((p.1 : Int) ≠ i))
def armOk (i a : Int) : Prop := 0 ≤ i ∧ i < 4096 ∧ 0 ≤ a ∧ a < 4611686018427387904
instance (i a : Int) : Decidable (armOk i a) := by unfold armOk; infer_instance
def armT (T : List Tm) (i a : Int) : List Tm := if armOk i a then insT (i.toNat, a.toNat) (delT T i) else T
def lateT (T : List Tm) (t : Nat) : List Tm := T.filter (fun p => decide (t < p.2))
def dueT (T : List Tm) (t : Nat) : List Tm := T.filter (fun p => !decide (t < p.2))
def nextT : List Tm → Nat
  | [] => 4611686018427387904
  | n :: _ => n.2
abbrev idT (T : List Tm) : List Value := T.map fun p => Value.int .i64 (p.1 : Int)

theorem map_insN (n : Nd) (L : List Nd) : (insN n L).map tm = insT (tm n) (L.map tm) := by
  induction L with
  | nil => rfl
  | cons m t ih =>
    unfold insN
    rw [List.map_cons]
    unfold insT
    have e : ltT (tm n) (tm m) ↔ lt2 n m := Iff.rfl
    by_cases c : lt2 n m
    · rw [if_pos c, if_pos (e.2 c)]; rfl
    · rw [if_neg c, if_neg (fun h => c (e.1 h)), List.map_cons, ih]
theorem map_delN (L : List Nd) (i : Int) : (delN L i).map tm = delT (L.map tm) i := by
  unfold delN delT
  rw [List.filter_map]; rfl
theorem map_late (L : List Nd) (t : Nat) : (L.filter (late t)).map tm = lateT (L.map tm) t := by
  unfold lateT
  rw [List.filter_map]; rfl
theorem map_due (L : List Nd) (t : Nat) : (L.filter (fun n => !late t n)).map tm = dueT (L.map tm) t := by
  unfold dueT
  rw [List.filter_map]; rfl

/-- A wheel at W, made of blocks from B on, all of them in S. -/
structure Wl (B : Nat) (w : World) (S : Nat → Prop) (W c : Nat) (T : List Tm) : Prop where
  ex : ∃ mb L, WI w W mb c L ∧ L.map tm = T ∧ ∀ g, FP W mb L g → S g
  lt : ∀ g, S g → B ≤ g ∧ g < w.heap.size

/-- A step on a wheel: its blocks alone are written; those that it has behind it. -/
structure St (w w' : World) (S S' : Nat → Prop) : Prop where
  kp : Kp S w w'
  up : ∀ g, S g → S' g
  dn : ∀ g, S' g → S g ∨ w.heap.size ≤ g

theorem Wl.grown {B : Nat} {w w' : World} {S : Nat → Prop} {W c : Nat} {T : List Tm} (h : Wl B w S W c T) (g : w.grownBy w' none) : Wl B w' S W c T := by
  obtain ⟨mb, L, h1, h2, h3⟩ := h.ex
  exact ⟨⟨mb, L, h1.grown g, h2, h3⟩, fun g' hg => ⟨(h.lt g' hg).1, Nat.lt_of_lt_of_le (h.lt g' hg).2 g.size⟩⟩
theorem Wl.other {B : Nat} {w w' : World} {S S2 : Nat → Prop} {W c : Nat} {T : List Tm} (h : Wl B w S W c T) (k : Kp S2 w w') (hd : ∀ g, S g → ¬ S2 g) : Wl B w' S W c T := by
  obtain ⟨mb, L, h1, h2, h3⟩ := h.ex
  exact ⟨⟨mb, L, h1.kept (fun g hg => k.block g (h.lt g (h3 g hg)).2 (hd g (h3 g hg))), h2, h3⟩, fun g hg => ⟨(h.lt g hg).1, Nat.lt_of_lt_of_le (h.lt g hg).2 k.size⟩⟩
theorem Kp.bel {B : Nat} {S : Nat → Prop} {w w' : World} (k : Kp S w w') (hS : ∀ g, S g → B ≤ g) (hB : B ≤ w.heap.size) : Below B w w' :=
  ⟨k.os, k.tape, k.output, k.size, fun i hi => k.block i (Nat.lt_of_lt_of_le hi hB) (fun hs => by have := hS i hs; omega)⟩
theorem Tb.bel {B : Nat} {w w' : World} (h : Tb w) (b : Below B w w') (hB : 0 < B) : Tb w' := h.kept (b.block 0 hB)

theorem wl_new (B : Nat) (now : Int) (w : World) (hB : B ≤ w.heap.size) :
    Calls Tryd.prog 15 #[.int .i64 now] w fun e w' => ∃ W, e = .returned (ptr W) ∧ Wl B w' (fun g => w.heap.size ≤ g ∧ g < w'.heap.size) W (clk now) [] ∧ w.grownBy w' none := by
  refine (new_any now w).mono ?_
  rintro e w' ⟨rfl, h1, h2⟩
  refine ⟨_, rfl, ⟨⟨_, _, h1, rfl, fun g hg => ?_⟩, fun g hg => ⟨by omega, hg.2⟩⟩, h2⟩
  refine ⟨?_, h1.fp_lt hg⟩
  rcases hg with rfl | rfl | ⟨n, hn, -⟩
  · omega
  · omega
  · cases hn

theorem wl_arm (B : Nat) (w : World) (S : Nat → Prop) (W c : Nat) (T : List Tm) (h : Wl B w S W c T) (i a : Int) :
    Calls Tryd.prog 41 #[ptr W, .int .i64 i, .int .i64 a] w fun e w' => e = .returned (.int .i64 (if armOk i a then 0 else 1)) ∧ ∃ S', Wl B w' S' W c (armT T i a) ∧ St w w' S S' := by
  by_cases c1 : armOk i a
  · obtain ⟨mb, L, h1, h2, h3⟩ := h.ex
    obtain ⟨i0, i1, a0, a1⟩ := id c1
    obtain ⟨I, rfl⟩ := Int.eq_ofNat_of_zero_le i0
    obtain ⟨A, rfl⟩ := Int.eq_ofNat_of_zero_le a0
    rw [if_pos c1]
    refine (arm_yes W mb c L w h1 I A (by omega) (by omega)).mono ?_
    rintro e w' ⟨rfl, g, hg, wi, k⟩
    have kS : Kp S w w' := k.mono (fun g _ hg => h3 g hg)
    refine ⟨rfl, fun x => S x ∨ x = g, ⟨⟨mb, _, wi, ?_, fun x hx => ?_⟩, fun x hx => ?_⟩, kS, fun x hx => .inl hx, fun x hx => ?_⟩
    · rw [map_insN, map_delN, h2]
      unfold armT
      rw [if_pos c1]; rfl
    · rcases hx with rfl | rfl | ⟨n, hn, rfl⟩
      · exact .inl (h3 _ (.inl rfl))
      · exact .inl (h3 _ (.inr (.inl rfl)))
      · rcases List.mem_cons.1 ((insN_perm _ _).mem_iff.1 hn) with rfl | hn
        · exact .inr rfl
        · exact .inl (h3 _ (.inr (.inr ⟨n, (List.mem_filter.1 hn).1, rfl⟩)))
    · rcases hx with hx | rfl
      · exact ⟨(h.lt x hx).1, Nat.lt_of_lt_of_le (h.lt x hx).2 k.size⟩
      · refine ⟨?_, wi.fp_lt (.inr (.inr ⟨_, (insN_perm _ _).mem_iff.2 (List.mem_cons_self ..), rfl⟩))⟩
        have := (h.lt W (h3 W (.inl rfl))); omega
    · rcases hx with hx | rfl
      · exact .inl hx
      · exact .inr hg
  · rw [if_neg c1]
    refine (arm_no W w i a (by unfold armOk at c1; omega)).mono ?_
    rintro e w' ⟨rfl, rfl⟩
    refine ⟨rfl, S, ?_, Kp.refl _ _, fun _ hx => hx, fun _ hx => .inl hx⟩
    unfold armT
    rw [if_neg c1]; exact h

theorem wl_cancel (B : Nat) (w : World) (S : Nat → Prop) (W c : Nat) (T : List Tm) (h : Wl B w S W c T) (i : Int) (hw : wfI i) :
    Calls Tryd.prog 21 #[ptr W, .int .i64 i] w fun e w' => e = .returned (.int .i64 (if T.any (fun p => decide ((p.1 : Int) = i)) then 0 else 4)) ∧ ∃ S', Wl B w' S' W c (delT T i) ∧ St w w' S S' := by
  obtain ⟨mb, L, h1, h2, h3⟩ := h.ex
  have e1 : L.any (fun n => decide ((n.id : Int) = i)) = T.any (fun p => decide ((p.1 : Int) = i)) := by rw [← h2, List.any_map]; rfl
  refine (cancel_any W mb c L w h1 i hw).mono ?_
  rintro e w' ⟨rfl, wi, k⟩
  rw [e1]
  have kS : Kp S w w' := k.mono (fun g _ hg => h3 g hg)
  refine ⟨rfl, S, ⟨⟨mb, _, wi, by rw [map_delN, h2], fun x hx => ?_⟩, fun x hx => ⟨(h.lt x hx).1, Nat.lt_of_lt_of_le (h.lt x hx).2 k.size⟩⟩, kS, fun _ hx => hx, fun _ hx => .inl hx⟩
  rcases hx with rfl | rfl | ⟨n, hn, rfl⟩
  · exact h3 _ (.inl rfl)
  · exact h3 _ (.inr (.inl rfl))
  · exact h3 _ (.inr (.inr ⟨n, (List.mem_filter.1 hn).1, rfl⟩))

/-- What Advance leaves. -/
def AdvT (B : Nat) (w : World) (S : Nat → Prop) (W t : Nat) (T : List Tm) (e : Ending) (w' : World) : Prop :=
  ∃ (a : Option Addr) (m c' : Nat), e = .returned (.slice a m c') ∧ (dueT T t).length = m ∧ w'.ownsRow w.heap.size 3 1 (.slice a m c') m (idT (dueT T t)) ∧ Wl B w' S W t (lateT T t) ∧ Kp S w w'

theorem wl_adv (B : Nat) (w : World) (S : Nat → Prop) (W c : Nat) (T : List Tm) (h : Wl B w S W c T) (ht : Tb w) (now : Int) :
    Calls Tryd.prog 24 #[ptr W, .int .i64 now] w (AdvT B w S W (adv c now) T) := by
  obtain ⟨mb, L, h1, h2, h3⟩ := h.ex
  refine (advance_any W mb c L w h1 ht now).mono ?_
  rintro e w' ⟨a, m, c', rfl, hm, ro, wi, k⟩
  have kS : Kp S w w' := k.mono (fun g _ hg => h3 g hg)
  have e1 : idsV (L.filter (fun n => !late (adv c now) n)) = idT (dueT T (adv c now)) := by
    rw [← h2, ← map_due]; simp [idT, idsV, tm, List.map_map, Function.comp_def]
  refine ⟨a, m, c', rfl, ?_, by rw [← e1]; exact ro, ⟨⟨mb, _, wi, by rw [map_late, h2], fun x hx => ?_⟩, fun x hx => ⟨(h.lt x hx).1, Nat.lt_of_lt_of_le (h.lt x hx).2 k.size⟩⟩, kS⟩
  · rw [← h2, ← map_due, List.length_map]; exact hm
  · rcases hx with rfl | rfl | ⟨n, hn, rfl⟩
    · exact h3 _ (.inl rfl)
    · exact h3 _ (.inr (.inl rfl))
    · exact h3 _ (.inr (.inr ⟨n, (List.mem_filter.1 hn).1, rfl⟩))

theorem wl_next (B : Nat) (w : World) (S : Nat → Prop) (W c : Nat) (T : List Tm) (h : Wl B w S W c T) (ht : Tb w) :
    Calls Tryd.prog 27 #[ptr W] w fun e w' => e = .returned (.int .i64 (nextT T : Nat)) ∧ w.grownBy w' none := by
  obtain ⟨mb, L, h1, h2, h3⟩ := h.ex
  refine (next_any W mb c L w h1 ht).mono ?_
  rintro e w' ⟨rfl, hb⟩
  refine ⟨?_, below_grown hb⟩
  have : nextA L = nextT T := by
    rw [← h2]
    cases L <;> rfl
  rw [this]
theorem wl_now (B : Nat) (w : World) (S : Nat → Prop) (W c : Nat) (T : List Tm) (h : Wl B w S W c T) :
    Calls Tryd.prog 16 #[ptr W] w fun e w' => e = .returned (.int .i64 (c : Nat)) ∧ w' = w := by
  obtain ⟨mb, L, h1, h2, h3⟩ := h.ex
  exact now_any W mb c L w h1

/-- The time of a number. -/
def whenT (T : List Tm) (i : Int) : Option Nat := (T.find? (fun p => decide ((p.1 : Int) = i))).map Prod.snd
end Go.Proofs.YtbdjlhkgpblebaaDoor
