/- The program's wheel and the document's, side by side. -/
import Derived.Test.YtpkkgmcfificiaaDoorD7E
namespace Go.Proofs.YtpkkgmcfificiaaDoor
open Go.RowKit Go.Shelf Go.Maps
set_option linter.unusedVariables false
set_option maxRecDepth 100000
set_option maxHeartbeats 1000000

/-- A wheel at W and the document's at R, both of the deadlines T; their blocks lie in U. -/
structure PW (B : Nat) (w : World) (U : Nat → Prop) (W R c : Nat) (T : List Tm) : Prop where
  ex : ∃ S Q, Wl B w S W c T ∧ RW B w Q R c T ∧ (∀ g, S g → ¬ Q g) ∧ ∀ g, S g ∨ Q g → U g
  lt : ∀ g, U g → B ≤ g ∧ g < w.heap.size

theorem pw_mk {B : Nat} {w w1 w2 : World} {U S S' Q Q' : Nat → Prop} {W R c c' : Nat} {T T' : List Tm} (hU : ∀ g, U g → B ≤ g ∧ g < w.heap.size) (hSU : ∀ g, S g ∨ Q g → U g) (rw : RW B w Q R c T) (dj : ∀ g, S g → ¬ Q g) (wl1 : Wl B w1 S' W c' T') (s1 : St w w1 S S') (rw2 : RW B w2 Q' R c' T') (s2 : St w1 w2 Q Q') :
    ∃ U', PW B w2 U' W R c' T' ∧ St w w2 U U' := by
  have sz1 := s1.kp.size
  have sz2 := s2.kp.size
  have d1 : ∀ g, S' g → ¬ Q g := fun g hs hq => by
    rcases s1.dn g hs with h | h
    · exact dj g h hq
    · have := (rw.lt g hq).2; omega
  have d2 : ∀ g, S' g → ¬ Q' g := fun g hs hq => by
    rcases s2.dn g hq with h | h
    · exact d1 g hs h
    · have := (wl1.lt g hs).2; omega
  have wl2 := wl1.other s2.kp d1
  refine ⟨fun g => U g ∨ S' g ∨ Q' g, ⟨⟨S', Q', wl2, rw2, d2, fun g h => .inr h⟩, fun g hg => ?_⟩, ?_, fun g hg => .inl hg, fun g hg => ?_⟩
  · rcases hg with h | h | h
    · exact ⟨(hU g h).1, by have := (hU g h).2; omega⟩
    · exact wl2.lt g h
    · exact rw2.lt g h
  · exact (s1.kp.mono (fun g _ h => hSU g (.inl h))).trans (s2.kp.mono (fun g _ h => hSU g (.inr h)))
  · rcases hg with h | h | h
    · exact .inl h
    · rcases s1.dn g h with h | h
      · exact .inl (hSU g (.inl h))
      · exact .inr h
    · rcases s2.dn g h with h | h
      · exact .inl (hSU g (.inr h))
      · exact .inr (by omega)

theorem PW.ok {B : Nat} {w : World} {U : Nat → Prop} {W R c : Nat} {T : List Tm} (h : PW B w U W R c T) : TOk T ∧ c ≤ 2 ^ 50 ∧ T.length ≤ 4096 := by
  obtain ⟨S, Q, wl, -⟩ := h.ex
  exact ⟨⟨wl.srt, wl.in_.1, wl.in_.2.1⟩, wl.c50, wl.in_.2.2⟩
theorem PW.other {B : Nat} {w w' : World} {U V : Nat → Prop} {W R c : Nat} {T : List Tm} (h : PW B w U W R c T) (k : Kp V w w') (hd : ∀ g, U g → ¬ V g) : PW B w' U W R c T := by
  obtain ⟨S, Q, wl, rw, dj, hs⟩ := h.ex
  exact ⟨⟨S, Q, wl.other k (fun g hg => hd g (hs g (.inl hg))), rw.other k (fun g hg => hd g (hs g (.inr hg))), dj, hs⟩, fun g hg => ⟨(h.lt g hg).1, Nat.lt_of_lt_of_le (h.lt g hg).2 k.size⟩⟩

theorem pw_arm {B : Nat} {w : World} {U : Nat → Prop} {W R c : Nat} {T : List Tm} (h : PW B w U W R c T) (i a : Int) :
    Calls Tryd.prog 21 #[ptr W, .int .i64 i, .int .i64 a] w fun e w1 => ∃ x : Int, e = .returned (.int .i64 x) ∧ Hid (Calls Tryd.prog 25 #[ptr R, .int .i64 i, .int .i64 a] w1 fun e w2 => e = .returned (.int .i64 x) ∧ ∃ U', PW B w2 U' W R c (armT T i a) ∧ St w w2 U U') := by
  obtain ⟨ok, -, hl⟩ := h.ok
  obtain ⟨S, Q, wl, rw, dj, hs⟩ := h.ex
  refine (wl_arm B w S W c T wl i a).mono ?_
  rintro e w1 ⟨rfl, S', wl1, s1⟩
  refine ⟨_, rfl, ?_⟩
  refine (rarm_any (rw.other s1.kp (fun g hq hs' => dj g hs' hq)) ok.ids hl i a).mono ?_
  rintro e w2 ⟨rfl, Q', rw2, s2⟩
  exact ⟨rfl, pw_mk h.lt hs rw dj wl1 s1 rw2 s2⟩

theorem pw_cancel {B : Nat} {w : World} {U : Nat → Prop} {W R c : Nat} {T : List Tm} (h : PW B w U W R c T) (i : Int) (hw : wfI i) :
    Calls Tryd.prog 22 #[ptr W, .int .i64 i] w fun e w1 => ∃ x : Int, e = .returned (.int .i64 x) ∧ Hid (Calls Tryd.prog 26 #[ptr R, .int .i64 i] w1 fun e w2 => e = .returned (.int .i64 x) ∧ ∃ U', PW B w2 U' W R c (delT T i) ∧ St w w2 U U') := by
  obtain ⟨ok, -, hl⟩ := h.ok
  obtain ⟨S, Q, wl, rw, dj, hs⟩ := h.ex
  refine (wl_cancel B w S W c T wl i hw).mono ?_
  rintro e w1 ⟨rfl, S', wl1, s1⟩
  refine ⟨_, rfl, ?_⟩
  refine (rcancel_any (rw.other s1.kp (fun g hq hs' => dj g hs' hq)) ok.ids hl i).mono ?_
  rintro e w2 ⟨rfl, Q', rw2, s2⟩
  exact ⟨rfl, pw_mk h.lt hs rw dj wl1 s1 rw2 s2⟩

theorem pw_adv {B : Nat} {w : World} {U : Nat → Prop} {W R c : Nat} {T : List Tm} (h : PW B w U W R c T) (ht : Tb w) (now : Int) :
    Calls Tryd.prog 13 #[ptr W, .int .i64 now] w fun e w1 => ∃ (a1 : Option Addr) (m c1 : Nat), e = .returned (.slice a1 m c1) ∧ (dueT T (adv c now)).length = m ∧ w1.ownsRow w.heap.size 3 1 (.slice a1 m c1) m (idT (dueT T (adv c now))) ∧ Kp U w w1 ∧
      Hid (Calls Tryd.prog 14 #[ptr R, .int .i64 now] w1 fun e w2 => ∃ (a2 : Option Addr) (c2 : Nat), e = .returned (.slice a2 m c2) ∧ w2.ownsRow w1.heap.size 3 1 (.slice a2 m c2) m (idT (dueT T (adv c now))) ∧ Kp U w1 w2 ∧ ∃ U', PW B w2 U' W R (adv c now) (lateT T (adv c now)) ∧ St w w2 U U') := by
  obtain ⟨ok, hc, hl⟩ := h.ok
  obtain ⟨S, Q, wl, rw, dj, hs⟩ := h.ex
  refine (wl_adv B w S W c T wl ht now).mono ?_
  rintro e w1 ⟨a1, m, c1, rfl, hm, ro, wl1, k1⟩
  refine ⟨a1, m, c1, rfl, hm, ro, k1.mono (fun g _ hg => hs g (.inl hg)), ?_⟩
  refine (radv_any (rw.other k1 (fun g hq hs' => dj g hs' hq)) ok.srt hl (by omega) now).mono ?_
  rintro e w2 ⟨a2, m2, c2, rfl, hm2, ro2, Q', rw2, s2⟩
  obtain rfl : m2 = m := by omega
  exact ⟨a2, c2, rfl, ro2, s2.kp.mono (fun g _ hg => hs g (.inr hg)), pw_mk h.lt hs rw dj wl1 ⟨k1, fun _ hg => hg, fun _ hg => .inl hg⟩ rw2 s2⟩
end Go.Proofs.YtpkkgmcfificiaaDoor
