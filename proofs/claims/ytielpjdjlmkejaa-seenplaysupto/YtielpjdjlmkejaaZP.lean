/- What a Seen keeps true, by lists. -/
import Derived.Test.YtielpjdjlmkejaaZL
import Derived.Test.YtielpjdjlmkejaaZM
namespace Go.Proofs.Ytielpjdjlmkejaa
set_option linter.unusedVariables false
set_option maxRecDepth 100000

theorem bound0 (L : List Sp) : boundF 0 L = L := by unfold boundF; rw [if_neg (by omega)]

theorem addS_g {mn mx n : Int} {L : List Sp} (h : Good mn mx L) (h1 : mn ≤ n) (h2 : n ≤ mx) : Good mn mx (addS 0 n n L) ∧ (addS 0 n n L).length ≤ L.length + 1 ∧ addS 0 n n L ≠ [] := by
  unfold addS
  rw [if_neg (by omega), bound0]
  obtain ⟨A, M, D, rfl, hA, hM, hD⟩ := split3 (n - 1) (n + 1) h (by omega)
  rw [addF_split h (by omega) hA hM hD]
  refine ⟨(add_good h (by omega) h1 h2 hA hM hD).1, by simp only [List.length_append, List.length_cons, List.length_nil]; omega, by simp⟩

theorem good_up {mn mx k : Int} {D : List Sp} (h : Good mn mx D) (hD : ∀ s ∈ D, k ≤ s.1) : Good k mx D := by
  cases D with
  | nil => trivial
  | cons d D => exact ⟨hD d (by simp), h.2⟩

theorem last_mem (m : Sp) (M : List Sp) : M.getLastD m ∈ m :: M := by
  cases M with
  | nil => simp
  | cons a M =>
    rw [List.getLastD_cons]
    have : ∀ (M : List Sp) (a : Sp), M.getLastD a = a ∨ M.getLastD a ∈ M := by
      intro M
      induction M with
      | nil => intro a; exact .inl rfl
      | cons b M ih =>
        intro a
        rw [List.getLastD_cons]
        rcases ih b with e | e
        · exact .inr (by rw [e]; simp)
        · exact .inr (List.mem_cons_of_mem _ e)
    rcases this M a with e | e
    · rw [e]; simp
    · exact List.mem_cons_of_mem _ (List.mem_cons_of_mem _ e)

/-- What is cut off at the low end. -/
theorem cutS_g {mn mx f : Int} {L : List Sp} (h : Good mn mx L) (h0 : 0 ≤ mn) : Good (max mn (f + 1)) mx (cutS 0 0 f L) ∧ (cutS 0 0 f L).length ≤ L.length := by
  unfold cutS
  by_cases hf : f < 0
  · rw [if_pos hf]
    exact ⟨by rw [show max mn (f + 1) = mn by omega]; exact h, Nat.le_refl _⟩
  · rw [if_neg hf, bound0]
    obtain ⟨A, M, D, rfl, hA, hM, hD⟩ := split3 0 f h (by omega)
    rw [cutF_split h (by omega) hA hM hD]
    have eA : A = [] := by
      cases A with
      | nil => rfl
      | cons a A => have := hA a (by simp); have := h.1; have := h.2.1; omega
    subst eA
    simp only [List.nil_append] at *
    have gD : Good (max mn (f + 1)) mx D := good_up h.right (fun s hs => by have := hD s hs; have := h.right.mem hs; omega)
    cases M with
    | nil => exact ⟨gD, by simp [restF]⟩
    | cons m M =>
      have hm := h.left.mem (s := m) (by simp)
      have hl := h.left.mem (last_mem m M)
      simp only [restF]
      rw [if_neg (by omega), List.nil_append]
      by_cases hc : f < (M.getLastD m).2
      · rw [if_pos hc]
        refine ⟨⟨by have := (hM _ (last_mem m M)).2; show max mn (f + 1) ≤ f + 1; omega, by show f + 1 ≤ (M.getLastD m).2; omega, hl.2.2, ?_⟩, by simp only [List.cons_append, List.nil_append, List.length_cons, List.length_append]; omega⟩
        exact good_up h.right (fun s hs => by have := h.mid (last_mem m M) hs; show (M.getLastD m).2 + 2 ≤ s.1; omega)
      · rw [if_neg hc]
        exact ⟨gD, by simp only [List.nil_append, List.length_append, List.length_cons]; omega⟩

/-- The lowest run goes. -/
theorem cutS_head {mn mx : Int} {x : Sp} {T : List Sp} (h : Good mn mx (x :: T)) (h0 : 0 ≤ mn) : cutS 0 0 x.2 (x :: T) = T := by
  have hx := h.1; have hx2 := h.2.1
  unfold cutS
  rw [if_neg (by omega), bound0]
  have e : x :: T = [] ++ ([x] ++ T) := rfl
  rw [e]
  have h' : Good mn mx ([] ++ ([x] ++ T)) := h
  rw [cutF_split h' (by omega) (by simp) (fun s hs => by simp at hs; subst hs; omega) (fun s hs => by
    have := (show Good (x.2 + 2) mx T from h.2.2.2).mem hs
    omega)]
  simp [restF]
  omega

structure SOk (s : Sn) : Prop where
  space : 0 ≤ s.space ∧ s.space ≤ 2
  delay : 0 ≤ s.delay ∧ s.delay ≤ 68719476736
  clock : 0 ≤ s.clock ∧ s.clock ≤ 1125899906842624
  floor : -1 ≤ s.floor ∧ s.floor ≤ s.largest
  large : s.largest ≤ 4611686018427387903
  came : 0 ≤ s.came ∧ s.came ≤ s.clock
  c0 : 0 ≤ s.c0
  c2 : 0 ≤ s.c2
  good : Good (s.floor + 1) s.largest s.L
  len : s.L.length ≤ 32
  due : s.due = never ∨ (0 ≤ s.due ∧ s.due ≤ 1125968626319360)

theorem ok_good {mn mx : Int} {L : List Sp} (h : Good mn mx L) (h1 : -9223372036854775808 ≤ mn) (h2 : mx ≤ 9223372036854775807) (hl : L.length ≤ 33) : Ok L := ⟨(h.mono h1).top h2, by omega⟩
theorem SOk.ok {s : Sn} (h : SOk s) : Ok s.L := ok_good h.good (by have := h.floor; omega) (by have := h.large; omega) (by have := h.len; omega)

theorem sok0 {space delay : Int} (h : rightF space delay) : SOk (sn0 space delay) := by
  obtain ⟨h1, h2, h3, h4⟩ := h
  exact ⟨⟨h1, h2⟩, ⟨h3, h4⟩, by simp [sn0], by simp [sn0], by simp [sn0], by simp [sn0], by simp [sn0], by simp [sn0], trivial, by simp [sn0], .inl rfl⟩

theorem sok_go {s : Sn} (h : SOk s) (now : Int) : SOk (goF now s) := by
  have hc := h.clock; have hm := h.came
  have e : s.clock ≤ min (max now s.clock) 1125899906842624 := by omega
  exact ⟨h.space, h.delay, by show 0 ≤ min (max now s.clock) 1125899906842624 ∧ min (max now s.clock) 1125899906842624 ≤ _; omega, h.floor, h.large, ⟨hm.1, by show s.came ≤ min (max now s.clock) 1125899906842624; omega⟩, h.c0, h.c2, h.good, h.len, h.due⟩

theorem sok_rest {s : Sn} (h : SOk s) : SOk (restF0 s) := ⟨h.space, h.delay, h.clock, h.floor, h.large, h.came, h.c0, h.c2, h.good, h.len, .inl rfl⟩

theorem sok_raise {s : Sn} (h : SOk s) {f : Int} (hf : f ≤ s.largest) : SOk (raiseF f s) := by
  have hfl := h.floor
  have hc := cutS_g (f := f) h.good (by omega)
  refine ⟨h.space, h.delay, h.clock, by show -1 ≤ max s.floor f ∧ max s.floor f ≤ s.largest; omega, h.large, h.came, h.c0, h.c2, ?_, by have := h.len; have := hc.2; show (cutS 0 0 f s.L).length ≤ 32; omega, h.due⟩
  show Good (max s.floor f + 1) s.largest (cutS 0 0 f s.L)
  rw [show max s.floor f + 1 = max (s.floor + 1) (f + 1) by omega]
  exact hc.1

theorem sok_forget {s : Sn} (h : SOk s) (n : Int) : SOk (forgetF n s) := by
  have hr := sok_raise h (f := min n s.largest) (by omega)
  unfold forgetF
  split
  · exact sok_rest hr
  · exact hr

theorem fresh_iff {s : Sn} {n : Int} : freshF s n = true ↔ s.floor < n ∧ n ≤ 4611686018427387903 ∧ memB n s.L = false := by
  unfold freshF
  cases memB n s.L <;> simp

theorem sok_w1 {s : Sn} (h : SOk s) (n : Int) (el : Bool) (mark : Int) : SOk (w1F n el mark s) := by
  unfold w1F
  cases el with
  | false => exact h
  | true =>
    refine ⟨h.space, h.delay, h.clock, h.floor, h.large, h.came, h.c0, h.c2, h.good, h.len, .inr ?_⟩
    show 0 ≤ min s.due (if (arrF n mark s).hurries = true then s.clock else s.clock + s.delay) ∧ min s.due (if (arrF n mark s).hurries = true then s.clock else s.clock + s.delay) ≤ _
    have := h.clock; have := h.delay; have hd := h.due
    simp only [never] at hd
    split <;> omega

theorem sok_top {s : Sn} (h : SOk s) {n : Int} (h1 : s.floor < n) (h2 : n ≤ 4611686018427387903) : SOk (topF n s) ∧ n ≤ (topF n s).largest ∧ (topF n s).floor = s.floor := by
  unfold topF
  by_cases c : s.largest < n
  · rw [if_pos c]
    have := h.clock; have := h.floor
    exact ⟨⟨h.space, h.delay, h.clock, ⟨h.floor.1, by show s.floor ≤ n; omega⟩, h2, ⟨h.clock.1, Int.le_refl _⟩, h.c0, h.c2, h.good.top (by show s.largest ≤ n; omega), h.len, h.due⟩, Int.le_refl _, rfl⟩
  · rw [if_neg c]
    exact ⟨h, by omega, rfl⟩

theorem sok_count {s : Sn} (h : SOk s) (mark : Int) : SOk (countF mark s) := by
  have := h.c0; have := h.c2
  refine ⟨h.space, h.delay, h.clock, h.floor, h.large, h.came, ?_, ?_, h.good, h.len, h.due⟩
  · show 0 ≤ if mark = 1 then s.c0 + 1 else s.c0
    split <;> omega
  · show 0 ≤ if mark = 2 then s.c2 + 1 else s.c2
    split <;> omega

theorem sok_keep {s : Sn} (h : SOk s) {n : Int} (h1 : s.floor < n) (h2 : n ≤ s.largest) : SOk (keepF n s) := by
  have ha := addS_g h.good (n := n) (by omega) h2
  have hfl := h.floor
  unfold keepF
  by_cases c : 32 < (addS 0 n n s.L).length
  · rw [if_pos c]
    obtain ⟨x, T, e⟩ : ∃ x T, addS 0 n n s.L = x :: T := by
      cases hx : addS 0 n n s.L with
      | nil => exact absurd hx ha.2.2
      | cons x T => exact ⟨x, T, rfl⟩
    rw [e] at ha c ⊢
    have hc := cutS_head ha.1 (by omega)
    have hx := ha.1.mem (s := x) (by simp)
    refine ⟨h.space, h.delay, h.clock, by show -1 ≤ max s.floor x.2 ∧ max s.floor x.2 ≤ s.largest; omega, h.large, h.came, h.c0, h.c2, ?_, ?_, h.due⟩
    · show Good (max s.floor x.2 + 1) s.largest (cutS 0 0 x.2 (x :: T))
      rw [hc, show max s.floor x.2 + 1 = x.2 + 1 by omega]
      exact (show Good (x.2 + 2) s.largest T from ha.1.2.2.2).mono (by omega)
    · show (cutS 0 0 x.2 (x :: T)).length ≤ 32
      rw [hc]
      have := ha.2.1; have := h.len
      simp at *; omega
  · rw [if_neg c]
    exact ⟨h.space, h.delay, h.clock, h.floor, h.large, h.came, h.c0, h.c2, ha.1, by show (addS 0 n n s.L).length ≤ 32; omega, h.due⟩

theorem sok_any {s : Sn} (h : SOk s) (x : Bool) : SOk { s with any := x } := ⟨h.space, h.delay, h.clock, h.floor, h.large, h.came, h.c0, h.c2, h.good, h.len, h.due⟩

theorem sok_took {s : Sn} (h : SOk s) {n : Int} (hf : freshF s n = true) (el : Bool) (mark : Int) : SOk (tookF n el mark s) := by
  obtain ⟨h1, h2, -⟩ := fresh_iff.1 hf
  have a := sok_w1 h n el mark
  have ef : (w1F n el mark s).floor = s.floor := by unfold w1F; split <;> rfl
  obtain ⟨b1, b2, b3⟩ := sok_top a (n := n) (by omega) h2
  have c := sok_count b1 mark
  exact sok_any (sok_keep c (n := n) (by show (topF n (w1F n el mark s)).floor < n; omega) b2) true

theorem sok_take {s : Sn} (h : SOk s) (now n : Int) (el : Bool) (mark : Int) : SOk (takeF now n el mark s) := by
  unfold takeF
  cases hf : freshF (goF now s) n with
  | false => exact sok_go h now
  | true => exact sok_took (sok_go h now) hf el mark

/-- How high the counts are. -/
def Cb (k : Nat) (s : Sn) : Prop := s.c0 ≤ (k : Int) ∧ s.c2 ≤ (k : Int)
theorem keepF_c (n : Int) (s : Sn) : (keepF n s).c0 = s.c0 ∧ (keepF n s).c2 = s.c2 := by unfold keepF; split <;> exact ⟨rfl, rfl⟩
theorem cb_take {s : Sn} {k : Nat} (h : Cb k s) (now n : Int) (el : Bool) (mark : Int) : Cb (k + 1) (takeF now n el mark s) := by
  unfold takeF
  obtain ⟨h1, h2⟩ := h
  split
  · have e1 := w1F_L n el mark (goF now s)
    have e2 := topF_L n (w1F n el mark (goF now s))
    have e3 := keepF_c n (countF mark (topF n (w1F n el mark (goF now s))))
    refine ⟨?_, ?_⟩
    · show (keepF n (countF mark (topF n (w1F n el mark (goF now s))))).c0 ≤ _
      rw [e3.1]
      show (if mark = 1 then (topF n (w1F n el mark (goF now s))).c0 + 1 else (topF n (w1F n el mark (goF now s))).c0) ≤ _
      rw [e2.2.1, e1.2.1]
      show (if mark = 1 then s.c0 + 1 else s.c0) ≤ _
      split <;> omega
    · show (keepF n (countF mark (topF n (w1F n el mark (goF now s))))).c2 ≤ _
      rw [e3.2]
      show (if mark = 2 then (topF n (w1F n el mark (goF now s))).c2 + 1 else (topF n (w1F n el mark (goF now s))).c2) ≤ _
      rw [e2.2.2, e1.2.2.1]
      show (if mark = 2 then s.c2 + 1 else s.c2) ≤ _
      split <;> omega
  · exact ⟨by show s.c0 ≤ _; omega, by show s.c2 ≤ _; omega⟩
theorem cb_mono {s : Sn} {k j : Nat} (h : Cb k s) (hj : k ≤ j) : Cb j s := ⟨by have := h.1; omega, by have := h.2; omega⟩

theorem take_ok {s : Sn} (h : SOk s) {k : Nat} (hc : Cb k s) (hk : (k : Int) < 9223372036854775807) (now n : Int) (hf : freshF (goF now s) n = true) : TakeOk (goF now s) n := by
  have g := sok_go h now
  obtain ⟨h1, h2, -⟩ := fresh_iff.1 hf
  have hL : Ok (addS 0 n n (goF now s).L) := by
    have ha := addS_g (mx := 4611686018427387903) (g.good.top g.large) (n := n) (by omega) h2
    exact ok_good ha.1 (by have := g.floor; omega) (by omega) (by have := ha.2.1; have := g.len; omega)
  exact ⟨g.ok, hL, g.clock, g.delay, ⟨by have := g.floor; omega, by have := g.large; omega⟩, ⟨g.c0, by have := hc.1; show s.c0 < _; omega⟩, ⟨g.c2, by have := hc.2; show s.c2 < _; omega⟩⟩
end Go.Proofs.Ytielpjdjlmkejaa
