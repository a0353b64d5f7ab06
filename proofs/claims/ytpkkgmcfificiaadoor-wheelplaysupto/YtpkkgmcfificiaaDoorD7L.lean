/- A pair whose map lies below M: what a loop's own records leave as it is; the pair's Arm and Cancel with what lies between. -/
import Derived.Test.YtpkkgmcfificiaaDoorD7F
import Derived.RangeFuncNested
namespace Go.Proofs.YtpkkgmcfificiaaDoor
open Go.RowKit Go.Shelf Go.Maps
set_option linter.unusedVariables false
set_option maxRecDepth 100000
set_option maxHeartbeats 1000000

/-- A block of no cells from M on. -/
def Rec (M : Nat) (w : World) (row : Option Nat) : Prop := ∀ r, row = some r → M ≤ r ∧ ∃ o : Obj, w.heap[r]? = some o ∧ o.isCells = false
theorem Rec.ne_blk {M : Nat} {w : World} {row : Option Nat} (h : Rec M w row) {g : Nat} {cs : Array Value} {t : TypeId} (hb : Blk w g cs t) : some g ≠ row := fun e => by
  obtain ⟨-, o, h1, h2⟩ := h g e.symm
  rw [show w.heap[g]? = _ from hb] at h1
  cases h1; cases h2
theorem Rec.ne_cell {M : Nat} {w : World} {row : Option Nat} (h : Rec M w row) {a : Addr} {v : Value} (hc : w.cell? a = some v) : some a.block ≠ row := fun e => by
  obtain ⟨-, o, h1, h2⟩ := h _ e.symm
  obtain ⟨o', h3, h4⟩ := cells_of_cell hc
  rw [h1] at h3; cases h3; rw [h2] at h4; cases h4

/-- Blocks of cells from n on are kept. -/
structure KC (n : Nat) (W W' : World) : Prop where
  size : W.heap.size ≤ W'.heap.size
  same : ∀ (g : Nat) (o : Obj), n ≤ g → W.heap[g]? = some o → o.isCells = true → W'.heap[g]? = some o
theorem KC.refl (n : Nat) (W : World) : KC n W W := ⟨Nat.le_refl _, fun _ _ _ h _ => h⟩
theorem KC.trans {n : Nat} {A B C : World} (h : KC n A B) (k : KC n B C) : KC n A C := ⟨Nat.le_trans h.size k.size, fun g o hg h1 h2 => k.same g o hg (h.same g o hg h1 h2) h2⟩
theorem KC.put {n : Nat} (W : World) (l : Nat) (o o' : Obj) (hl : W.heap[l]? = some o) (ho : o.isCells = false) : KC n W (W.putObj l o') :=
  ⟨by simp, fun g ob hg h1 h2 => (World.putObj_heap_other (fun e => by subst e; rw [hl] at h1; cases h1; rw [ho] at h2; cases h2)).trans h1⟩
theorem KC.of {n : Nat} {U : Nat → Prop} {W W' : World} (k : Kp U W W') (hU : ∀ g, U g → g < n) : KC n W W' :=
  ⟨k.size, fun g o hg h1 _ => (k.block g (Array.getElem?_eq_some_iff.1 h1).1 (fun hu => by have := hU g hu; omega)).trans h1⟩

/-- A wheel whose map lies below M. -/
structure WlM (B M : Nat) (w : World) (S : Nat → Prop) (W c : Nat) (T : List Tm) : Prop where
  ex : ∃ mb L, WI w W mb c L ∧ L.map tm = T ∧ (∀ g, FP W mb L g → S g) ∧ mb < M
  lt : ∀ g, S g → B ≤ g ∧ g < w.heap.size
theorem WlM.wl {B M : Nat} {w : World} {S : Nat → Prop} {W c : Nat} {T : List Tm} (h : WlM B M w S W c T) : Wl B w S W c T := by
  obtain ⟨mb, L, h1, h2, h3, -⟩ := h.ex
  exact ⟨⟨mb, L, h1, h2, h3⟩, h.lt⟩
theorem Wl.wlm {B M : Nat} {w : World} {S : Nat → Prop} {W c : Nat} {T : List Tm} (h : Wl B w S W c T) (hM : w.heap.size ≤ M) : WlM B M w S W c T := by
  obtain ⟨mb, L, h1, h2, h3⟩ := h.ex
  exact ⟨⟨mb, L, h1, h2, h3, Nat.lt_of_lt_of_le h1.mp.lt hM⟩, h.lt⟩
theorem WlM.own {B M : Nat} {w w' : World} {S : Nat → Prop} {W c : Nat} {T : List Tm} {row : Option Nat} (h : WlM B M w S W c T) (g : w.grownBy w' row) (hr : Rec M w row) : WlM B M w' S W c T := by
  obtain ⟨mb, L, h1, h2, h3, h4⟩ := h.ex
  refine ⟨⟨mb, L, h1.kept (fun x hx => g.block x (h1.fp_lt hx) ?_), h2, h3, h4⟩, fun x hx => ⟨(h.lt x hx).1, Nat.lt_of_lt_of_le (h.lt x hx).2 g.size⟩⟩
  rcases hx with rfl | rfl | ⟨n, hn, rfl⟩
  · obtain ⟨fl, sl, sw⟩ := h1.sw
    exact hr.ne_cell sw.wb.clock
  · intro e; have := (hr _ e.symm).1; omega
  · obtain ⟨fl, sl, sw⟩ := h1.sw
    obtain ⟨b, f, hb⟩ := sw.node hn
    exact hr.ne_blk hb
theorem WlM.other {B M : Nat} {w w' : World} {S S2 : Nat → Prop} {W c : Nat} {T : List Tm} (h : WlM B M w S W c T) (k : Kp S2 w w') (hd : ∀ g, S g → ¬ S2 g) : WlM B M w' S W c T := by
  obtain ⟨mb, L, h1, h2, h3, h4⟩ := h.ex
  exact ⟨⟨mb, L, h1.kept (fun g hg => k.block g (h.lt g (h3 g hg)).2 (hd g (h3 g hg))), h2, h3, h4⟩, fun g hg => ⟨(h.lt g hg).1, Nat.lt_of_lt_of_le (h.lt g hg).2 k.size⟩⟩
theorem RW.own {B M : Nat} {w w' : World} {Q : Nat → Prop} {R c : Nat} {T : List Tm} {row : Option Nat} (h : RW B w Q R c T) (g : w.grownBy w' row) (hr : Rec M w row) : RW B w' Q R c T := by
  obtain ⟨a, cp, b, r⟩ := h.ex
  refine ⟨⟨a, cp, (g.block R b.lt (hr.ne_blk b)).trans b, r.cap, ?_⟩, h.q, fun x hq => ⟨(h.lt x hq).1, Nat.lt_of_lt_of_le (h.lt x hq).2 g.size⟩⟩
  rcases r.at_ with h1 | ⟨x, off, e, hn, hq, hl, hc⟩
  · exact .inl h1
  · cases T with
    | nil => exact .inl rfl
    | cons p t =>
      have k := g.block x hl (hr.ne_cell (a := ⟨x, off + 0 * 2, none⟩) (hc 0 p rfl).1)
      have cc : ∀ o, w'.cell? ⟨x, o, none⟩ = w.cell? ⟨x, o, none⟩ := fun o => by simp only [World.cell?, k]
      exact .inr ⟨x, off, e, hn, hq, Nat.lt_of_lt_of_le hl g.size, fun i p hp => ⟨(cc _).trans (hc i p hp).1, (cc _).trans (hc i p hp).2⟩⟩

theorem wlm_arm (B M : Nat) (w : World) (S : Nat → Prop) (W c : Nat) (T : List Tm) (h : WlM B M w S W c T) (i a : Int) :
    Calls Tryd.prog 21 #[ptr W, .int .i64 i, .int .i64 a] w fun e w' => e = .returned (.int .i64 (if armOk i a then 0 else 1)) ∧ ∃ S', WlM B M w' S' W c (armT T i a) ∧ St w w' S S' := by
  by_cases c1 : armOk i a
  · obtain ⟨mb, L, h1, h2, h3, h4⟩ := h.ex
    obtain ⟨i0, i1, a0, a1⟩ := id c1
    obtain ⟨I, rfl⟩ := Int.eq_ofNat_of_zero_le i0
    obtain ⟨A, rfl⟩ := Int.eq_ofNat_of_zero_le a0
    rw [if_pos c1]
    refine (arm_yes W mb c L w h1 I A (by omega) (by omega)).mono ?_
    rintro e w' ⟨rfl, g, hg, wi, k⟩
    have kS : Kp S w w' := k.mono (fun g _ hg => h3 g hg)
    refine ⟨rfl, fun x => S x ∨ x = g, ⟨⟨mb, _, wi, ?_, fun x hx => ?_, h4⟩, fun x hx => ?_⟩, kS, fun x hx => .inl hx, fun x hx => ?_⟩
    · rw [map_insN, map_delN, h2]
      unfold armT
      rw [if_pos c1]; rfl
    · rcases hx with rfl | rfl | ⟨n, hn, rfl⟩
      · exact .inl (h3 _ (.inl rfl))
      · exact .inl (h3 _ (.inr (.inl rfl)))
      · rcases List.mem_cons.1 ((insN_perm _ _).mem_iff.1 hn) with rfl | hn
        · exact .inr rfl
        · exact .inl (h3 _ (.inr (.inr ⟨n, (List.mem_filter.1 hn).1, rfl⟩)))
    · rcases hx with hx | rfl
      · exact ⟨(h.lt x hx).1, Nat.lt_of_lt_of_le (h.lt x hx).2 k.size⟩
      · refine ⟨?_, wi.fp_lt (.inr (.inr ⟨_, (insN_perm _ _).mem_iff.2 (List.mem_cons_self ..), rfl⟩))⟩
        have := (h.lt W (h3 W (.inl rfl))); omega
    · rcases hx with hx | rfl
      · exact .inl hx
      · exact .inr hg
  · rw [if_neg c1]
    refine (arm_no W w i a (by unfold armOk at c1; omega)).mono ?_
    rintro e w' ⟨rfl, rfl⟩
    refine ⟨rfl, S, ?_, Kp.refl _ _, fun _ hx => hx, fun _ hx => .inl hx⟩
    unfold armT
    rw [if_neg c1]; exact h

theorem wlm_cancel (B M : Nat) (w : World) (S : Nat → Prop) (W c : Nat) (T : List Tm) (h : WlM B M w S W c T) (i : Int) (hw : wfI i) :
    Calls Tryd.prog 22 #[ptr W, .int .i64 i] w fun e w' => e = .returned (.int .i64 (if T.any (fun p => decide ((p.1 : Int) = i)) then 0 else 4)) ∧ ∃ S', WlM B M w' S' W c (delT T i) ∧ St w w' S S' := by
  obtain ⟨mb, L, h1, h2, h3, h4⟩ := h.ex
  have e1 : L.any (fun n => decide ((n.id : Int) = i)) = T.any (fun p => decide ((p.1 : Int) = i)) := by rw [← h2, List.any_map]; rfl
  refine (cancel_any W mb c L w h1 i hw).mono ?_
  rintro e w' ⟨rfl, wi, k⟩
  rw [e1]
  have kS : Kp S w w' := k.mono (fun g _ hg => h3 g hg)
  refine ⟨rfl, S, ⟨⟨mb, _, wi, by rw [map_delN, h2], fun x hx => ?_, h4⟩, fun x hx => ⟨(h.lt x hx).1, Nat.lt_of_lt_of_le (h.lt x hx).2 k.size⟩⟩, kS, fun _ hx => hx, fun _ hx => .inl hx⟩
  rcases hx with rfl | rfl | ⟨n, hn, rfl⟩
  · exact h3 _ (.inl rfl)
  · exact h3 _ (.inr (.inl rfl))
  · exact h3 _ (.inr (.inr ⟨n, (List.mem_filter.1 hn).1, rfl⟩))

/-- A pair whose map lies below M. -/
structure PWM (B M : Nat) (w : World) (U : Nat → Prop) (W R c : Nat) (T : List Tm) : Prop where
  ex : ∃ S Q, WlM B M w S W c T ∧ RW B w Q R c T ∧ (∀ g, S g → ¬ Q g) ∧ ∀ g, S g ∨ Q g → U g
  lt : ∀ g, U g → B ≤ g ∧ g < w.heap.size
theorem PWM.pw {B M : Nat} {w : World} {U : Nat → Prop} {W R c : Nat} {T : List Tm} (h : PWM B M w U W R c T) : PW B w U W R c T := by
  obtain ⟨S, Q, wl, rw, dj, hs⟩ := h.ex
  exact ⟨⟨S, Q, wl.wl, rw, dj, hs⟩, h.lt⟩
theorem PW.pwm {B M : Nat} {w : World} {U : Nat → Prop} {W R c : Nat} {T : List Tm} (h : PW B w U W R c T) (hM : w.heap.size ≤ M) : PWM B M w U W R c T := by
  obtain ⟨S, Q, wl, rw, dj, hs⟩ := h.ex
  exact ⟨⟨S, Q, wl.wlm hM, rw, dj, hs⟩, h.lt⟩
theorem PWM.own {B M : Nat} {w w' : World} {U : Nat → Prop} {W R c : Nat} {T : List Tm} {row : Option Nat} (h : PWM B M w U W R c T) (g : w.grownBy w' row) (hr : Rec M w row) : PWM B M w' U W R c T := by
  obtain ⟨S, Q, wl, rw, dj, hs⟩ := h.ex
  exact ⟨⟨S, Q, wl.own g hr, rw.own g hr, dj, hs⟩, fun x hx => ⟨(h.lt x hx).1, Nat.lt_of_lt_of_le (h.lt x hx).2 g.size⟩⟩
theorem PWM.other {B M : Nat} {w w' : World} {U V : Nat → Prop} {W R c : Nat} {T : List Tm} (h : PWM B M w U W R c T) (k : Kp V w w') (hd : ∀ g, U g → ¬ V g) : PWM B M w' U W R c T := by
  obtain ⟨S, Q, wl, rw, dj, hs⟩ := h.ex
  exact ⟨⟨S, Q, wl.other k (fun g hg => hd g (hs g (.inl hg))), rw.other k (fun g hg => hd g (hs g (.inr hg))), dj, hs⟩, fun g hg => ⟨(h.lt g hg).1, Nat.lt_of_lt_of_le (h.lt g hg).2 k.size⟩⟩
theorem PWM.grown {B M : Nat} {w w' : World} {U : Nat → Prop} {W R c : Nat} {T : List Tm} (h : PWM B M w U W R c T) (g : w.grownBy w' none) : PWM B M w' U W R c T := h.own g (fun r e => by cases e)

theorem pwm_mk {B M : Nat} {w w1 X w2 : World} {U S S' Q Q' : Nat → Prop} {W R c c' : Nat} {T T' : List Tm} (hU : ∀ g, U g → B ≤ g ∧ g < w.heap.size) (hSU : ∀ g, S g ∨ Q g → U g) (rw : RW B w Q R c T) (dj : ∀ g, S g → ¬ Q g) (wl1 : WlM B M w1 S' W c' T') (s1 : St w w1 S S') (gX : w1.grownBy X none) (rw2 : RW B w2 Q' R c' T') (s2 : St X w2 Q Q') :
    ∃ U', PWM B M w2 U' W R c' T' ∧ St w w2 U U' := by
  have sz1 := s1.kp.size
  have szX := gX.size
  have sz2 := s2.kp.size
  have d1 : ∀ g, S' g → ¬ Q g := fun g hs hq => by
    rcases s1.dn g hs with h | h
    · exact dj g h hq
    · have := (rw.lt g hq).2; omega
  have d2 : ∀ g, S' g → ¬ Q' g := fun g hs hq => by
    rcases s2.dn g hq with h | h
    · exact d1 g hs h
    · have := (wl1.lt g hs).2; omega
  have wl2 := (wl1.own gX (fun r e => by cases e)).other s2.kp d1
  refine ⟨fun g => U g ∨ S' g ∨ Q' g, ⟨⟨S', Q', wl2, rw2, d2, fun g h => .inr h⟩, fun g hg => ?_⟩, ?_, fun g hg => .inl hg, fun g hg => ?_⟩
  · rcases hg with h | h | h
    · exact ⟨(hU g h).1, by have := (hU g h).2; omega⟩
    · exact wl2.lt g h
    · exact rw2.lt g h
  · exact (s1.kp.mono (fun g _ h => hSU g (.inl h))).trans ((Kp.grown gX U).trans (s2.kp.mono (fun g _ h => hSU g (.inr h))))
  · rcases hg with h | h | h
    · exact .inl h
    · rcases s1.dn g h with h | h
      · exact .inl (hSU g (.inl h))
      · exact .inr h
    · rcases s2.dn g h with h | h
      · exact .inl (hSU g (.inr h))
      · exact .inr (by omega)

theorem pwm_arm {B M : Nat} {w : World} {U : Nat → Prop} {W R c : Nat} {T : List Tm} (h : PWM B M w U W R c T) (i a : Int) :
    Calls Tryd.prog 21 #[ptr W, .int .i64 i, .int .i64 a] w fun e w1 => ∃ x : Int, e = .returned (.int .i64 x) ∧ Kp U w w1 ∧ Hid (∀ X, w1.grownBy X none → Calls Tryd.prog 25 #[ptr R, .int .i64 i, .int .i64 a] X fun e w2 => e = .returned (.int .i64 x) ∧ ∃ U', PWM B M w2 U' W R c (armT T i a) ∧ St w w2 U U') := by
  obtain ⟨ok, -, hl⟩ := h.pw.ok
  obtain ⟨S, Q, wl, rw, dj, hs⟩ := h.ex
  refine (wlm_arm B M w S W c T wl i a).mono ?_
  rintro e w1 ⟨rfl, S', wl1, s1⟩
  refine ⟨_, rfl, s1.kp.mono (fun g _ hg => hs g (.inl hg)), fun X gX => ?_⟩
  refine (rarm_any ((rw.other s1.kp (fun g hq hs' => dj g hs' hq)).grown gX) ok.ids hl i a).mono ?_
  rintro e w2 ⟨rfl, Q', rw2, s2⟩
  exact ⟨rfl, pwm_mk h.lt hs rw dj wl1 s1 gX rw2 s2⟩
theorem pwm_cancel {B M : Nat} {w : World} {U : Nat → Prop} {W R c : Nat} {T : List Tm} (h : PWM B M w U W R c T) (i : Int) (hw : wfI i) :
    Calls Tryd.prog 22 #[ptr W, .int .i64 i] w fun e w1 => ∃ x : Int, e = .returned (.int .i64 x) ∧ Kp U w w1 ∧ Hid (∀ X, w1.grownBy X none → Calls Tryd.prog 26 #[ptr R, .int .i64 i] X fun e w2 => e = .returned (.int .i64 x) ∧ ∃ U', PWM B M w2 U' W R c (delT T i) ∧ St w w2 U U') := by
  obtain ⟨ok, -, hl⟩ := h.pw.ok
  obtain ⟨S, Q, wl, rw, dj, hs⟩ := h.ex
  refine (wlm_cancel B M w S W c T wl i hw).mono ?_
  rintro e w1 ⟨rfl, S', wl1, s1⟩
  refine ⟨_, rfl, s1.kp.mono (fun g _ hg => hs g (.inl hg)), fun X gX => ?_⟩
  refine (rcancel_any ((rw.other s1.kp (fun g hq hs' => dj g hs' hq)).grown gX) ok.ids hl i).mono ?_
  rintro e w2 ⟨rfl, Q', rw2, s2⟩
  exact ⟨rfl, pwm_mk h.lt hs rw dj wl1 s1 gX rw2 s2⟩
end Go.Proofs.YtpkkgmcfificiaaDoor
