/- Which numbers are there behind an Add and a Cut; how many there are. -/
import Derived.Test.YtielpjdjlmkejaaZP
namespace Go.Proofs.Ytielpjdjlmkejaa
set_option linter.unusedVariables false
set_option maxRecDepth 100000

theorem memB_iff {x : Int} {L : List Sp} : memB x L = true ↔ ∃ s ∈ L, s.1 ≤ x ∧ x ≤ s.2 := by
  unfold memB
  rw [List.any_eq_true]
  simp only [Bool.and_eq_true, decide_eq_true_eq]

theorem good_ext {mn mx : Int} {A B : List Sp} (hA : Good mn mx A) (hB : Good mn mx B) (h : ∀ x, memB x A = true ↔ memB x B = true) : A = B := by
  induction A generalizing mn B with
  | nil =>
    cases B with
    | nil => rfl
    | cons t B =>
      have := (h t.1).2 (memB_true (s := t) (by simp) (Int.le_refl _) hB.2.1)
      simp [memB] at this
  | cons s A ih =>
    cases B with
    | nil =>
      have := (h s.1).1 (memB_true (s := s) (by simp) (Int.le_refl _) hA.2.1)
      simp [memB] at this
    | cons t B =>
      have inA : ∀ x, memB x (s :: A) = true → s.1 ≤ x ∧ (x ≤ s.2 ∨ s.2 + 2 ≤ x) := fun x hx => by
        obtain ⟨u, hu, h1, h2⟩ := memB_iff.1 hx
        rcases List.mem_cons.1 hu with rfl | hu
        · exact ⟨h1, .inl h2⟩
        · have := hA.2.2.2.mem hu; have := hA.2.1; omega
      have inB : ∀ x, memB x (t :: B) = true → t.1 ≤ x ∧ (x ≤ t.2 ∨ t.2 + 2 ≤ x) := fun x hx => by
        obtain ⟨u, hu, h1, h2⟩ := memB_iff.1 hx
        rcases List.mem_cons.1 hu with rfl | hu
        · exact ⟨h1, .inl h2⟩
        · have := hB.2.2.2.mem hu; have := hB.2.1; omega
      have e1 := (inB s.1 ((h s.1).1 (memB_true (s := s) (by simp) (Int.le_refl _) hA.2.1))).1
      have e2 := (inA t.1 ((h t.1).2 (memB_true (s := t) (by simp) (Int.le_refl _) hB.2.1))).1
      have e3 : s.2 = t.2 := by
        rcases Int.lt_trichotomy s.2 t.2 with hl | hl | hl
        · have := (inA (s.2 + 1) ((h (s.2 + 1)).2 (memB_true (s := t) (by simp) (by have := hA.2.1; omega) (by omega)))).2
          omega
        · exact hl
        · have := (inB (t.2 + 1) ((h (t.2 + 1)).1 (memB_true (s := s) (by simp) (by have := hB.2.1; omega) (by omega)))).2
          omega
      have e : s = t := Prod.ext (by omega) e3
      subst e
      have := ih (mn := s.2 + 2) hA.2.2.2 hB.2.2.2 (fun x => by
        constructor
        · intro hx
          obtain ⟨u, hu, h1, h2⟩ := memB_iff.1 hx
          have k := hA.2.2.2.mem hu
          obtain ⟨v, hv, h3, h4⟩ := memB_iff.1 ((h x).1 (memB_true (s := u) (by simp [hu]) h1 h2))
          rcases List.mem_cons.1 hv with rfl | hv
          · omega
          · exact memB_true hv h3 h4
        · intro hx
          obtain ⟨u, hu, h1, h2⟩ := memB_iff.1 hx
          have k := hB.2.2.2.mem hu
          obtain ⟨v, hv, h3, h4⟩ := memB_iff.1 ((h x).2 (memB_true (s := u) (by simp [hu]) h1 h2))
          rcases List.mem_cons.1 hv with rfl | hv
          · omega
          · exact memB_true hv h3 h4)
      rw [this]

theorem getLastD_cons (m m' : Sp) (M : List Sp) : (m' :: M).getLastD m = M.getLastD m' := by cases M <;> rfl

theorem grown_mem {k mx lo hi x : Int} {m : Sp} {M : List Sp} (h : Good k mx (m :: M)) (hlh : lo ≤ hi) (hM : ∀ s ∈ m :: M, lo - 1 ≤ s.2 ∧ s.1 ≤ hi + 1) :
    (min lo m.1 ≤ x ∧ x ≤ max hi (M.getLastD m).2) ↔ (memB x (m :: M) = true ∨ (lo ≤ x ∧ x ≤ hi)) := by
  induction M generalizing m k with
  | nil =>
    have := hM m (by simp)
    have := h.2.1
    have e : memB x [m] = true ↔ m.1 ≤ x ∧ x ≤ m.2 := by rw [memB_iff]; simp
    rw [e]
    simp only [List.getLastD]
    omega
  | cons m' M ih =>
    have h1 := hM m (by simp)
    have h2 := h.2.1
    have h3 := h.2.2.2
    have h4 := h3.1
    have h5 := h3.2.1
    have i := ih (m := m') h3 (fun s hs => hM s (by simp at hs; simp [hs]))
    have e : memB x (m :: m' :: M) = true ↔ (m.1 ≤ x ∧ x ≤ m.2) ∨ memB x (m' :: M) = true := by
      rw [memB_iff, memB_iff]
      simp
    have hl : m'.1 ≤ (M.getLastD m').2 := by
      cases M with
      | nil => exact h5
      | cons u M =>
        have hmem : (u :: M).getLastD m' ∈ m' :: u :: M := by
          have := getLastD_mem (M := u :: M) (by simp) m'
          exact List.mem_cons_of_mem _ this
        have := h3.mem hmem
        rcases List.mem_cons.1 hmem with hq | hq
        · rw [hq]; exact h5
        · have := h3.2.2.2.mem hq; omega
    rw [e, getLastD_cons]
    have hmin : min lo m'.1 = lo := Int.min_eq_left (by omega)
    rw [hmin] at i
    generalize (M.getLastD m').2 = z at *
    by_cases hmm : memB x (m' :: M) = true
    · have := i.2 (.inl hmm)
      simp only [hmm, or_true, true_or, iff_true]
      omega
    · have hi2 : (lo ≤ x ∧ x ≤ max hi z) ↔ (lo ≤ x ∧ x ≤ hi) := by rw [i]; simp [hmm]
      have e3 : (((m.1 ≤ x ∧ x ≤ m.2) ∨ memB x (m' :: M) = true) ∨ (lo ≤ x ∧ x ≤ hi)) ↔ ((m.1 ≤ x ∧ x ≤ m.2) ∨ (lo ≤ x ∧ x ≤ hi)) := by simp [hmm]
      rw [e3]
      clear e3 hmm i e ih
      omega

theorem memB_append (x : Int) (A B : List Sp) : memB x (A ++ B) = true ↔ memB x A = true ∨ memB x B = true := by
  unfold memB; rw [List.any_append, Bool.or_eq_true]

theorem memB_addS {L : List Sp} {lo hi : Int} (h : Good (-9223372036854775808) 9223372036854775807 L) (x : Int) : memB x (addS 0 lo hi L) = true ↔ memB x L = true ∨ (lo ≤ x ∧ x ≤ hi) := by
  unfold addS
  by_cases hlh : hi < lo
  · rw [if_pos hlh]
    constructor
    · exact .inl
    · rintro (h | h)
      · exact h
      · omega
  · rw [if_neg hlh, bound0]
    obtain ⟨A, M, D, rfl, hA, hM, hD⟩ := split3 (lo - 1) (hi + 1) h (by omega)
    rw [addF_split h (by omega) hA hM hD, memB_append, memB_append, memB_append, memB_append]
    have e : memB x [grownF lo hi M] = true ↔ memB x M = true ∨ (lo ≤ x ∧ x ≤ hi) := by
      cases M with
      | nil =>
        simp [memB, grownF]
      | cons m M =>
        rw [← grown_mem (h.right.left) (by omega) hM, memB_iff]
        simp [grownF]
    rw [e]
    constructor
    · rintro (h | (h | h) | h)
      · exact .inl (.inl h)
      · exact .inl (.inr (.inl h))
      · exact .inr h
      · exact .inl (.inr (.inr h))
    · rintro ((h | h | h) | h)
      · exact .inl h
      · exact .inr (.inl (.inl h))
      · exact .inr (.inr h)
      · exact .inr (.inl (.inr h))


theorem memB_cut {mn mx f : Int} {L : List Sp} (h : Good mn mx L) (h0 : 0 ≤ mn) (x : Int) : memB x (cutS 0 0 f L) = true ↔ memB x L = true ∧ f < x := by
  unfold cutS
  by_cases hf : f < 0
  · rw [if_pos hf]
    constructor
    · intro hx
      obtain ⟨s, hs, h1, h2⟩ := memB_iff.1 hx
      have := h.mem hs
      exact ⟨hx, by omega⟩
    · exact fun hx => hx.1
  · rw [if_neg hf, bound0]
    obtain ⟨A, M, D, rfl, hA, hM, hD⟩ := split3 0 f h (by omega)
    rw [cutF_split h (by omega) hA hM hD]
    have eA : A = [] := by
      cases A with
      | nil => rfl
      | cons a A => have := hA a (by simp); have := h.1; have := h.2.1; omega
    subst eA
    simp only [List.nil_append] at *
    rw [memB_append, memB_append]
    have eD : memB x D = true → f < x := fun hx => by
      obtain ⟨s, hs, h1, h2⟩ := memB_iff.1 hx
      have := hD s hs
      omega
    cases M with
    | nil =>
      have e0 : memB x (restF 0 f []) = true ↔ False := by simp [restF, memB]
      have e1 : memB x ([] : List Sp) = true ↔ False := by simp [memB]
      rw [e0, e1]
      exact ⟨fun h => h.elim False.elim (fun h => ⟨.inr h, eD h⟩), fun h => h.1.elim False.elim .inr⟩
    | cons m M =>
      have hm := h.left.mem (s := m) (by simp)
      have hl := h.left.mem (last_mem m M)
      have hlm := hM _ (last_mem m M)
      have key : f < x → (memB x (m :: M) = true ↔ x ≤ (M.getLastD m).2) := fun hx => by
        constructor
        · intro hb
          obtain ⟨s, hs, h1, h2⟩ := memB_iff.1 hb
          have : ∀ (M : List Sp) (k : Int) (m s : Sp), Good k mx (m :: M) → s ∈ m :: M → s.2 ≤ (M.getLastD m).2 := by
            intro M
            induction M with
            | nil => intro k m s hg hs; simp at hs; subst hs; exact Int.le_refl _
            | cons a M ih =>
              intro k m s hg hs
              rw [List.getLastD_cons]
              rcases List.mem_cons.1 hs with rfl | hs
              · have e1 := ih _ a a hg.2.2.2 (by simp)
                have e2 := hg.2.2.2.1
                have e3 := hg.2.2.2.2.1
                omega
              · exact ih _ a s hg.2.2.2 hs
          have := this M mn m s h.left hs
          omega
        · intro hx2
          exact memB_iff.2 ⟨_, last_mem m M, by omega, hx2⟩
      simp only [restF]
      rw [if_neg (by omega), List.nil_append]
      by_cases hc : f < (M.getLastD m).2
      · rw [if_pos hc]
        have e1 : memB x [(f + 1, (M.getLastD m).2)] = true ↔ f < x ∧ x ≤ (M.getLastD m).2 := by
          rw [memB_iff]
          constructor
          · rintro ⟨s, hs, h1, h2⟩
            rw [List.mem_singleton] at hs
            subst hs
            exact ⟨by have : f + 1 ≤ x := h1; omega, h2⟩
          · rintro ⟨h1, h2⟩
            exact ⟨(f + 1, (M.getLastD m).2), List.mem_singleton.2 rfl, by show f + 1 ≤ x; omega, h2⟩
        rw [e1]
        constructor
        · rintro (⟨h1, h2⟩ | h1)
          · exact ⟨.inl ((key h1).2 h2), h1⟩
          · exact ⟨.inr h1, eD h1⟩
        · rintro ⟨h1 | h1, h2⟩
          · exact .inl ⟨h2, (key h2).1 h1⟩
          · exact .inr h1
      · rw [if_neg hc]
        constructor
        · rintro (h1 | h1)
          · simp [memB] at h1
          · exact ⟨.inr h1, eD h1⟩
        · rintro ⟨h1 | h1, h2⟩
          · have := (key h2).1 h1; omega
          · exact .inr h1

/-- How many of a row lie between two numbers, where all do that can. -/
theorem in_count (T : List Int) (hT : T.Nodup) (a : Int) : ∀ n : Nat, (∀ x, a ≤ x → x < a + n → x ∈ T) → (T.filter fun x => decide (a ≤ x) && decide (x < a + n)).length = n
  | 0, _ => by
    rw [List.filter_eq_nil_iff.2 (fun x _ => by simp)]
    rfl
  | n + 1, h => by
    have ih := in_count T hT a n (fun x h1 h2 => h x h1 (by omega))
    have hm : a + n ∈ T := h _ (by omega) (by omega)
    have key : ∀ (T : List Int), T.Nodup → (T.filter fun x => decide (a ≤ x) && decide (x < a + ((n + 1 : Nat) : Int))).length = (T.filter fun x => decide (a ≤ x) && decide (x < a + (n : Int))).length + (if a + n ∈ T then 1 else 0) := by
      intro T
      induction T with
      | nil => intro _; rfl
      | cons y T iy =>
        intro hd
        rw [List.nodup_cons] at hd
        have e := iy hd.2
        by_cases c : y = a + n
        · subst c
          have n1 : ¬ (a + (n : Int) ∈ T) := hd.1
          rw [if_neg n1] at e
          rw [List.filter_cons_of_pos (by simp; omega), List.filter_cons_of_neg (by simp), if_pos (by simp), List.length_cons, e]
        · have e2 : (a + (n : Int) ∈ y :: T) ↔ (a + (n : Int) ∈ T) := by
            rw [List.mem_cons]
            exact ⟨fun h => h.resolve_left (fun q => c q.symm), .inr⟩
          by_cases c2 : a ≤ y ∧ y < a + n
          · rw [List.filter_cons_of_pos (by simp; omega), List.filter_cons_of_pos (by simp; omega), List.length_cons, List.length_cons, e]
            simp only [e2]
            omega
          · rw [List.filter_cons_of_neg (by simp; omega), List.filter_cons_of_neg (by simp; omega), e]
            simp only [e2]
    rw [key T hT, ih, if_pos hm]

/-- Runs hold as many numbers as a row that holds just them. -/
theorem cnt_row {mn mx : Int} {L : List Sp} (h : Good mn mx L) (T : List Int) (hT : T.Nodup) (hm : ∀ x, memB x L = true → x ∈ T) : cnt L = ((T.filter fun x => memB x L).length : Int) := by
  induction L generalizing mn with
  | nil =>
    have e : (T.filter fun x => memB x []) = [] := List.filter_eq_nil_iff.2 (fun x _ => by simp [memB])
    rw [e]
    rfl
  | cons s L ih =>
    have i := ih h.2.2.2 (fun x hx => hm x (by rw [memB_iff] at *; obtain ⟨t, ht, r⟩ := hx; exact ⟨t, by simp [ht], r⟩))
    have h2 := h.2.1
    have hc := in_count T hT s.1 (s.2 - s.1 + 1).toNat (fun x h3 h4 => hm x (memB_iff.2 ⟨s, by simp, h3, by omega⟩))
    have dis : ∀ x, memB x L = true → s.2 < x := fun x hx => by
      obtain ⟨t, ht, r1, r2⟩ := memB_iff.1 hx
      have := (show Good (s.2 + 2) mx L from h.2.2.2).mem ht
      omega
    have split : ∀ T : List Int, (T.filter fun x => memB x (s :: L)).length = (T.filter fun x => decide (s.1 ≤ x) && decide (x < s.1 + ((s.2 - s.1 + 1).toNat : Int))).length + (T.filter fun x => memB x L).length := by
      intro T
      induction T with
      | nil => rfl
      | cons y T iy =>
        have e : memB y (s :: L) = ((decide (s.1 ≤ y) && decide (y ≤ s.2)) || memB y L) := rfl
        by_cases c : s.1 ≤ y ∧ y ≤ s.2
        · have n1 : memB y L = false := by
            cases hb : memB y L with
            | false => rfl
            | true => have := dis y hb; omega
          rw [List.filter_cons_of_pos (by rw [e]; simp [c]), List.filter_cons_of_pos (by simp; omega), List.filter_cons_of_neg (by simp [n1]), List.length_cons, List.length_cons, iy]
          omega
        · have e' : memB y (s :: L) = memB y L := by
            rw [e]
            have : (decide (s.1 ≤ y) && decide (y ≤ s.2)) = false := by
              rw [Bool.and_eq_false_iff]
              by_cases c1 : s.1 ≤ y
              · right; simp; omega
              · left; simp; omega
            rw [this, Bool.false_or]
          cases hb : memB y L with
          | true => rw [List.filter_cons_of_pos (by rw [e', hb]), List.filter_cons_of_neg (by simp; omega), List.filter_cons_of_pos (by rw [hb]), List.length_cons, List.length_cons, iy]; omega
          | false => rw [List.filter_cons_of_neg (by simp [e', hb]), List.filter_cons_of_neg (by simp; omega), List.filter_cons_of_neg (by simp [hb]), iy]
    rw [split T, hc]
    simp only [cnt]
    omega
end Go.Proofs.Ytielpjdjlmkejaa
