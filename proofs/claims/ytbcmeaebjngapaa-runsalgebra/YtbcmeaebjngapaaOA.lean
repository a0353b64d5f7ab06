/- A set of runs is told by its numbers. No program in sight. -/
import Derived.Test.YtbcmeaebjngapaaRA
import Derived.Test.YtbcmeaebjngapaaTB0
namespace Go.Proofs.Ytbcmeaebjngapaa
set_option linter.unusedVariables false
set_option maxRecDepth 100000

theorem memB_iff {x : Int} {L : List Sp} : memB x L = true ↔ ∃ s ∈ L, s.1 ≤ x ∧ x ≤ s.2 := by
  unfold memB
  rw [List.any_eq_true]
  simp only [Bool.and_eq_true, decide_eq_true_eq]

theorem good_ext {mn mx : Int} {A B : List Sp} (hA : Good mn mx A) (hB : Good mn mx B) (h : ∀ x, memB x A = true ↔ memB x B = true) : A = B := by
  induction A generalizing mn B with
  | nil =>
    cases B with
    | nil => rfl
    | cons t B =>
      have := (h t.1).2 (memB_true (s := t) (by simp) (Int.le_refl _) hB.2.1)
      simp [memB] at this
  | cons s A ih =>
    cases B with
    | nil =>
      have := (h s.1).1 (memB_true (s := s) (by simp) (Int.le_refl _) hA.2.1)
      simp [memB] at this
    | cons t B =>
      have inA : ∀ x, memB x (s :: A) = true → s.1 ≤ x ∧ (x ≤ s.2 ∨ s.2 + 2 ≤ x) := fun x hx => by
        obtain ⟨u, hu, h1, h2⟩ := memB_iff.1 hx
        rcases List.mem_cons.1 hu with rfl | hu
        · exact ⟨h1, .inl h2⟩
        · have := hA.2.2.2.mem hu; have := hA.2.1; omega
      have inB : ∀ x, memB x (t :: B) = true → t.1 ≤ x ∧ (x ≤ t.2 ∨ t.2 + 2 ≤ x) := fun x hx => by
        obtain ⟨u, hu, h1, h2⟩ := memB_iff.1 hx
        rcases List.mem_cons.1 hu with rfl | hu
        · exact ⟨h1, .inl h2⟩
        · have := hB.2.2.2.mem hu; have := hB.2.1; omega
      have e1 := (inB s.1 ((h s.1).1 (memB_true (s := s) (by simp) (Int.le_refl _) hA.2.1))).1
      have e2 := (inA t.1 ((h t.1).2 (memB_true (s := t) (by simp) (Int.le_refl _) hB.2.1))).1
      have e3 : s.2 = t.2 := by
        rcases Int.lt_trichotomy s.2 t.2 with hl | hl | hl
        · have := (inA (s.2 + 1) ((h (s.2 + 1)).2 (memB_true (s := t) (by simp) (by have := hA.2.1; omega) (by omega)))).2
          omega
        · exact hl
        · have := (inB (t.2 + 1) ((h (t.2 + 1)).1 (memB_true (s := s) (by simp) (by have := hB.2.1; omega) (by omega)))).2
          omega
      have e : s = t := Prod.ext (by omega) e3
      subst e
      have := ih (mn := s.2 + 2) hA.2.2.2 hB.2.2.2 (fun x => by
        constructor
        · intro hx
          obtain ⟨u, hu, h1, h2⟩ := memB_iff.1 hx
          have k := hA.2.2.2.mem hu
          obtain ⟨v, hv, h3, h4⟩ := memB_iff.1 ((h x).1 (memB_true (s := u) (by simp [hu]) h1 h2))
          rcases List.mem_cons.1 hv with rfl | hv
          · omega
          · exact memB_true hv h3 h4
        · intro hx
          obtain ⟨u, hu, h1, h2⟩ := memB_iff.1 hx
          have k := hB.2.2.2.mem hu
          obtain ⟨v, hv, h3, h4⟩ := memB_iff.1 ((h x).2 (memB_true (s := u) (by simp [hu]) h1 h2))
          rcases List.mem_cons.1 hv with rfl | hv
          · omega
          · exact memB_true hv h3 h4)
      rw [this]

theorem getLastD_cons (m m' : Sp) (M : List Sp) : (m' :: M).getLastD m = M.getLastD m' := by cases M <;> rfl

theorem grown_mem {k mx lo hi x : Int} {m : Sp} {M : List Sp} (h : Good k mx (m :: M)) (hlh : lo ≤ hi) (hM : ∀ s ∈ m :: M, lo - 1 ≤ s.2 ∧ s.1 ≤ hi + 1) :
    (min lo m.1 ≤ x ∧ x ≤ max hi (M.getLastD m).2) ↔ (memB x (m :: M) = true ∨ (lo ≤ x ∧ x ≤ hi)) := by
  induction M generalizing m k with
  | nil =>
    have := hM m (by simp)
    have := h.2.1
    have e : memB x [m] = true ↔ m.1 ≤ x ∧ x ≤ m.2 := by rw [memB_iff]; simp
    rw [e]
    simp only [List.getLastD]
    omega
  | cons m' M ih =>
    have h1 := hM m (by simp)
    have h2 := h.2.1
    have h3 := h.2.2.2
    have h4 := h3.1
    have h5 := h3.2.1
    have i := ih (m := m') h3 (fun s hs => hM s (by simp at hs; simp [hs]))
    have e : memB x (m :: m' :: M) = true ↔ (m.1 ≤ x ∧ x ≤ m.2) ∨ memB x (m' :: M) = true := by
      rw [memB_iff, memB_iff]
      simp
    have hl : m'.1 ≤ (M.getLastD m').2 := by
      cases M with
      | nil => exact h5
      | cons u M =>
        have hmem : (u :: M).getLastD m' ∈ m' :: u :: M := by
          have := getLastD_mem (M := u :: M) (by simp) m'
          exact List.mem_cons_of_mem _ this
        have := h3.mem hmem
        rcases List.mem_cons.1 hmem with hq | hq
        · rw [hq]; exact h5
        · have := h3.2.2.2.mem hq; omega
    rw [e, getLastD_cons]
    have hmin : min lo m'.1 = lo := Int.min_eq_left (by omega)
    rw [hmin] at i
    generalize (M.getLastD m').2 = z at *
    by_cases hmm : memB x (m' :: M) = true
    · have := i.2 (.inl hmm)
      simp only [hmm, or_true, true_or, iff_true]
      omega
    · have hi2 : (lo ≤ x ∧ x ≤ max hi z) ↔ (lo ≤ x ∧ x ≤ hi) := by rw [i]; simp [hmm]
      have e3 : (((m.1 ≤ x ∧ x ≤ m.2) ∨ memB x (m' :: M) = true) ∨ (lo ≤ x ∧ x ≤ hi)) ↔ ((m.1 ≤ x ∧ x ≤ m.2) ∨ (lo ≤ x ∧ x ≤ hi)) := by simp [hmm]
      rw [e3]
      clear e3 hmm i e ih
      omega

theorem memB_append (x : Int) (A B : List Sp) : memB x (A ++ B) = true ↔ memB x A = true ∨ memB x B = true := by
  unfold memB; rw [List.any_append, Bool.or_eq_true]

theorem memB_addS {L : List Sp} {lo hi : Int} (h : Good (-9223372036854775808) 9223372036854775807 L) (x : Int) : memB x (addS 0 lo hi L) = true ↔ memB x L = true ∨ (lo ≤ x ∧ x ≤ hi) := by
  unfold addS
  by_cases hlh : hi < lo
  · rw [if_pos hlh]
    constructor
    · exact .inl
    · rintro (h | h)
      · exact h
      · omega
  · rw [if_neg hlh, boundF_zero]
    obtain ⟨A, M, D, rfl, hA, hM, hD⟩ := split3 (lo - 1) (hi + 1) h (by omega)
    rw [addF_split h (by omega) hA hM hD, memB_append, memB_append, memB_append, memB_append]
    have e : memB x [grownF lo hi M] = true ↔ memB x M = true ∨ (lo ≤ x ∧ x ≤ hi) := by
      cases M with
      | nil =>
        simp [memB, grownF]
      | cons m M =>
        rw [← grown_mem (h.right.left) (by omega) hM, memB_iff]
        simp [grownF]
    rw [e]
    constructor
    · rintro (h | (h | h) | h)
      · exact .inl (.inl h)
      · exact .inl (.inr (.inl h))
      · exact .inr h
      · exact .inl (.inr (.inr h))
    · rintro ((h | h | h) | h)
      · exact .inl h
      · exact .inr (.inl (.inl h))
      · exact .inr (.inr h)
      · exact .inr (.inl (.inr h))

theorem memB_putL {L P : List Sp} (h : Good (-9223372036854775808) 9223372036854775807 L) (hP : InB P) (x : Int) : memB x (putL L P) = true ↔ memB x L = true ∨ memB x P = true := by
  induction P generalizing L with
  | nil => simp [putL, memB]
  | cons s P ih =>
    have hs := hP s (by simp)
    rw [putL, ih (addS_good (most := 0) h hs.1 hs.2).1 (fun t ht => hP t (by simp [ht])), memB_addS h, memB_iff (L := s :: P), memB_iff (L := P)]
    simp only [List.mem_cons, exists_eq_or_imp]
    constructor
    · rintro ((h | h) | h)
      · exact .inl h
      · exact .inr (.inl h)
      · exact .inr (.inr h)
    · rintro (h | h | h)
      · exact .inl (.inl h)
      · exact .inl (.inr h)
      · exact .inr h

/-- Spans that hold the same numbers make the same set. -/
theorem putL_eq {P Q : List Sp} (hP : InB P) (hQ : InB Q) (h : ∀ s, s ∈ P ↔ s ∈ Q) : putL [] P = putL [] Q := by
  refine good_ext (putL_good (L := []) trivial hP).1 (putL_good (L := []) trivial hQ).1 (fun x => ?_)
  rw [memB_putL (L := []) trivial hP, memB_putL (L := []) trivial hQ, memB_iff (L := P), memB_iff (L := Q)]
  simp only [h]

/-- No hole where all is there. -/
theorem holes_none {A : List Sp} {lo hi : Int} (h : Good (-9223372036854775808) 9223372036854775807 A) (hlh : lo ≤ hi) (hall : ∀ x, lo ≤ x → x ≤ hi → memB x A = true) : holesF lo hi A = [] := by
  obtain ⟨s, hs, h1, h2⟩ := memB_iff.1 (hall lo (Int.le_refl _) hlh)
  obtain ⟨X, Y, rfl⟩ := List.append_of_mem hs
  have hy : ∀ t ∈ Y, s.2 + 1 < t.1 := fun t ht => by
    have := h.right.2.2.2.mem ht
    omega
  have hx : ∀ t ∈ X, t.2 + 1 < s.1 := fun t ht => h.mid ht (t := s) (by simp)
  have h3 : hi ≤ s.2 := by
    rcases Int.lt_or_le s.2 hi with hl | hl
    · obtain ⟨t, ht, k1, k2⟩ := memB_iff.1 (hall (s.2 + 1) (by omega) (by omega))
      rcases List.mem_append.1 ht with ht | ht
      · have := hx t ht; have := h.right.2.1; omega
      · rcases List.mem_cons.1 ht with rfl | ht
        · omega
        · have := hy t ht; omega
    · exact hl
  have e1 : withinF lo hi X = [] := withinF_none fun t ht => by have := hx t ht; omega
  have e2 : withinF lo hi Y = [] := withinF_none fun t ht => by have := hy t ht; omega
  unfold holesF
  rw [withinF_append, e1]
  simp only [withinF, List.nil_append]
  rw [if_pos ⟨by omega, h2⟩, e2]
  have c : clip lo hi s = (lo, hi) := by unfold clip; rw [Int.max_eq_right (by omega), Int.min_eq_right (by omega)]
  rw [c]
  simp [holesGo]
end Go.Proofs.Ytbcmeaebjngapaa
