/- Sets of numbers as rising lists of runs. No program in sight. -/
import Derived.WalkKit
namespace Go.Proofs.YtnflbefbgcbdfaaGreat
set_option maxRecDepth 100000
set_option linter.unusedVariables false

abbrev Sp := Int × Int

/-- Runs that rise, apart, from mn to mx. -/
def Good (mn mx : Int) : List Sp → Prop
  | [] => True
  | s :: L => mn ≤ s.1 ∧ s.1 ≤ s.2 ∧ s.2 ≤ mx ∧ Good (s.2 + 2) mx L

/-- How many numbers. -/
def cnt : List Sp → Int
  | [] => 0
  | s :: L => s.2 - s.1 + 1 + cnt L

/-- The part of a run that lies between two numbers. -/
def clip (lo hi : Int) (s : Sp) : Sp := (max s.1 lo, min s.2 hi)

/-- What is there of some numbers. -/
def withinF (lo hi : Int) : List Sp → List Sp
  | [] => []
  | s :: L => if s.1 ≤ hi ∧ lo ≤ s.2 then clip lo hi s :: withinF lo hi L else withinF lo hi L

/-- What isn't there, from next on, of what is within. -/
def holesGo (hi next : Int) : List Sp → List Sp
  | [] => [(next, hi)]
  | r :: rs => (if next < r.1 then [(next, r.1 - 1)] else []) ++ (if r.2 = hi then [] else holesGo hi (r.2 + 1) rs)

def holesF (lo hi : Int) (L : List Sp) : List Sp := holesGo hi lo (withinF lo hi L)

theorem Good.mono {mn mn' mx : Int} {L : List Sp} (h : Good mn mx L) (hm : mn' ≤ mn) : Good mn' mx L := by
  cases L with
  | nil => trivial
  | cons s L => exact ⟨by have := h.1; omega, h.2⟩

theorem Good.top {mn mx mx' : Int} {L : List Sp} (h : Good mn mx L) (hm : mx ≤ mx') : Good mn mx' L := by
  induction L generalizing mn with
  | nil => trivial
  | cons s L ih => exact ⟨h.1, h.2.1, by have := h.2.2.1; omega, ih h.2.2.2⟩

theorem Good.mem {mn mx : Int} {L : List Sp} (h : Good mn mx L) {s : Sp} (hs : s ∈ L) : mn ≤ s.1 ∧ s.1 ≤ s.2 ∧ s.2 ≤ mx := by
  induction L generalizing mn with
  | nil => cases hs
  | cons t L ih =>
    rcases List.mem_cons.1 hs with rfl | hs
    · exact ⟨h.1, h.2.1, h.2.2.1⟩
    · have := ih h.2.2.2 hs
      have := h.1; have := h.2.1
      omega

theorem Good.right {mn mx : Int} {A B : List Sp} (h : Good mn mx (A ++ B)) : Good mn mx B := by
  induction A generalizing mn with
  | nil => exact h
  | cons s A ih => exact (ih h.2.2.2).mono (by have := h.1; have := h.2.1; omega)

theorem Good.left {mn mx : Int} {A B : List Sp} (h : Good mn mx (A ++ B)) : Good mn mx A := by
  induction A generalizing mn with
  | nil => trivial
  | cons s A ih => exact ⟨h.1, h.2.1, h.2.2.1, ih h.2.2.2⟩

theorem Good.mid {mn mx : Int} {A B : List Sp} (h : Good mn mx (A ++ B)) {s t : Sp} (hs : s ∈ A) (ht : t ∈ B) : s.2 + 1 < t.1 := by
  induction A generalizing mn with
  | nil => cases hs
  | cons a A ih =>
    rcases List.mem_cons.1 hs with rfl | hs
    · have := (h.2.2.2.right).mem ht; omega
    · exact ih h.2.2.2 hs

/-- Two lists, the one below the other, with a number between. -/
theorem Good.join {mn mx k : Int} {A B : List Sp} (h : Good mn mx A) (hA : ∀ s ∈ A, s.2 + 2 ≤ k) (hk : mn ≤ k) (hB : Good k mx B) : Good mn mx (A ++ B) := by
  induction A generalizing mn with
  | nil => exact hB.mono hk
  | cons s A ih =>
    refine ⟨h.1, h.2.1, h.2.2.1, ih h.2.2.2 (fun t ht => hA t (List.mem_cons_of_mem _ ht)) (hA s List.mem_cons_self)⟩

theorem cnt_append (A B : List Sp) : cnt (A ++ B) = cnt A + cnt B := by
  induction A with
  | nil => simp [cnt]
  | cons s A ih => simp only [List.cons_append, cnt, ih]; omega

theorem withinF_append (lo hi : Int) (A B : List Sp) : withinF lo hi (A ++ B) = withinF lo hi A ++ withinF lo hi B := by
  induction A with
  | nil => rfl
  | cons s A ih => simp only [List.cons_append, withinF]; split <;> simp [ih]

theorem withinF_none {lo hi : Int} {A : List Sp} (h : ∀ s ∈ A, s.2 < lo ∨ hi < s.1) : withinF lo hi A = [] := by
  induction A with
  | nil => rfl
  | cons s A ih =>
    have h1 := h s List.mem_cons_self
    simp only [withinF]
    rw [if_neg (by omega)]
    exact ih fun t ht => h t (List.mem_cons_of_mem _ ht)

theorem withinF_all {lo hi : Int} {A : List Sp} (h : ∀ s ∈ A, lo ≤ s.2 ∧ s.1 ≤ hi) : withinF lo hi A = A.map (clip lo hi) := by
  induction A with
  | nil => rfl
  | cons s A ih =>
    have h1 := h s List.mem_cons_self
    simp only [withinF, List.map_cons]
    rw [if_pos (by omega), ih fun t ht => h t (List.mem_cons_of_mem _ ht)]

/-- The runs below, those that meet, those above. -/
theorem split3 {mn mx : Int} (lo hi : Int) {L : List Sp} (h : Good mn mx L) (hlh : lo ≤ hi + 1) :
    ∃ A M D, L = A ++ (M ++ D) ∧ (∀ s ∈ A, s.2 < lo) ∧ (∀ s ∈ M, lo ≤ s.2 ∧ s.1 ≤ hi) ∧ (∀ s ∈ D, hi < s.1 ∧ lo ≤ s.2) := by
  induction L generalizing mn with
  | nil => exact ⟨[], [], [], rfl, by simp, by simp, by simp⟩
  | cons s L ih =>
    obtain ⟨A, M, D, rfl, hA, hM, hD⟩ := ih h.2.2.2
    have h1 := h.1; have h2 := h.2.1
    by_cases c1 : s.2 < lo
    · exact ⟨s :: A, M, D, rfl, List.forall_mem_cons.2 ⟨c1, hA⟩, hM, hD⟩
    · have hA0 : A = [] := by
        cases A with
        | nil => rfl
        | cons a A => have := h.2.2.2.mem (s := a) (by simp); have := hA a (by simp); omega
      subst hA0
      by_cases c2 : s.1 ≤ hi
      · exact ⟨[], s :: M, D, rfl, by simp, List.forall_mem_cons.2 ⟨⟨by omega, c2⟩, hM⟩, hD⟩
      · have hM0 : M = [] := by
          cases M with
          | nil => rfl
          | cons a M => have := h.2.2.2.mem (s := a) (by simp); have := hM a (by simp); omega
        subst hM0
        exact ⟨[], [], s :: D, rfl, by simp, by simp, List.forall_mem_cons.2 ⟨⟨by omega, by omega⟩, hD⟩⟩

theorem countP_all {p : Sp → Bool} {A : List Sp} (h : ∀ s ∈ A, p s = true) : A.countP p = A.length := List.countP_eq_length.2 h
theorem countP_no {p : Sp → Bool} {A : List Sp} (h : ∀ s ∈ A, p s = false) : A.countP p = 0 := List.countP_eq_zero.2 fun s hs => by simp [h s hs]

theorem clip_good {mn mx lo hi : Int} {M : List Sp} (h : Good mn mx M) (hM : ∀ s ∈ M, lo ≤ s.2 ∧ s.1 ≤ hi) (hlh : lo ≤ hi) : Good (max mn lo) (min mx hi) (M.map (clip lo hi)) := by
  induction M generalizing mn with
  | nil => trivial
  | cons s M ih =>
    have h1 := h.1; have h2 := h.2.1; have h3 := h.2.2.1
    have hs := hM s List.mem_cons_self
    have h4 := ih h.2.2.2 fun t ht => hM t (List.mem_cons_of_mem _ ht)
    simp only [List.map_cons, Good, clip]
    refine ⟨by omega, by omega, by omega, h4.mono (by omega)⟩

theorem within_good {mn mx lo hi : Int} {L : List Sp} (h : Good mn mx L) (hlh : lo ≤ hi) : Good (max mn lo) (min mx hi) (withinF lo hi L) := by
  obtain ⟨A, M, D, rfl, hA, hM, hD⟩ := split3 lo hi h (by omega)
  rw [withinF_append, withinF_append, withinF_none fun s hs => .inl (hA s hs), withinF_none (A := D) fun s hs => .inr (hD s hs).1, withinF_all hM]
  simpa using clip_good h.right.left hM hlh

/-- Holes lie apart, and with what is within they are all. -/
theorem holesGo_good {hi next mx : Int} {R : List Sp} (h : Good next hi R) (hn : next ≤ hi) : Good next hi (holesGo hi next R) ∧ cnt (holesGo hi next R) + cnt R = hi - next + 1 := by
  induction R generalizing next with
  | nil => exact ⟨⟨Int.le_refl _, hn, Int.le_refl _, trivial⟩, by simp [holesGo, cnt]⟩
  | cons r R ih =>
    have h1 := h.1; have h2 := h.2.1; have h3 := h.2.2.1
    simp only [holesGo]
    by_cases e : r.2 = hi
    · have : R = [] := by
        cases R with
        | nil => rfl
        | cons t R => have := h.2.2.2.1; have := h.2.2.2.2.1; have := h.2.2.2.2.2.1; omega
      subst this
      rw [if_pos e]
      split
      · rename_i c
        exact ⟨⟨Int.le_refl _, show next ≤ r.1 - 1 by omega, show r.1 - 1 ≤ hi by omega, trivial⟩, by simp only [List.append_nil, cnt]; omega⟩
      · exact ⟨trivial, by simp only [List.append_nil, cnt]; omega⟩
    · rw [if_neg e]
      have h4 := ih (next := r.2 + 1) (h.2.2.2.mono (by omega)) (by omega)
      split
      · refine ⟨⟨by simp, by simp; omega, by simp; omega, h4.1.mono (by simp; omega)⟩, ?_⟩
        simp only [List.cons_append, List.nil_append, cnt]; omega
      · refine ⟨h4.1.mono (by omega), ?_⟩
        simp only [List.nil_append, cnt]; omega

theorem holes_good {mn mx lo hi : Int} {L : List Sp} (h : Good mn mx L) (hlh : lo ≤ hi) : Good lo hi (holesF lo hi L) ∧ cnt (holesF lo hi L) + cnt (withinF lo hi L) = hi - lo + 1 :=
  holesGo_good (mx := mx) (((within_good h hlh).mono (by omega)).top (by omega)) hlh

theorem cnt_nonneg {mn mx : Int} {L : List Sp} (h : Good mn mx L) : 0 ≤ cnt L := by
  induction L generalizing mn with
  | nil => simp [cnt]
  | cons s L ih => have := ih h.2.2.2; have := h.2.1; simp only [cnt]; omega

theorem cnt_le {mn mx : Int} {L : List Sp} (h : Good mn mx L) : L = [] ∨ cnt L + 1 ≤ mx - mn + 1 ∨ (cnt L = mx - mn + 1 ∧ L = [(mn, mx)]) := by
  induction L generalizing mn with
  | nil => exact .inl rfl
  | cons s L ih =>
    right
    have h1 := h.1; have h2 := h.2.1; have h3 := h.2.2.1
    simp only [cnt]
    rcases ih h.2.2.2 with rfl | h4 | ⟨h4, rfl⟩
    · obtain ⟨a, b⟩ := s
      by_cases e : a = mn ∧ b = mx
      · right; obtain ⟨rfl, rfl⟩ := e; simp [cnt]
      · left; simp only [cnt] at *; omega
    · left; omega
    · left; have := h.2.2.2.2.1; simp only [cnt]; simp at this; omega

/-- The numbers of runs outside of some. -/
def outs (lo hi : Int) (M : List Sp) : Int := cnt M - cnt (withinF lo hi M)

/-- The runs that touch, taken together with some numbers. -/
def grownF (lo hi : Int) : List Sp → Sp
  | [] => (lo, hi)
  | m :: M => (min lo m.1, max hi (M.getLastD m).2)

theorem outs_right {k mx lo hi : Int} {M : List Sp} (h : Good k mx M) (hk : lo ≤ k) (hlh : lo ≤ hi) (hM : ∀ s ∈ M, lo - 1 ≤ s.2 ∧ s.1 ≤ hi + 1) (x : Sp) (hx : x.2 ≤ hi) :
    max hi ((M.getLastD x).2) = hi + outs lo hi M := by
  induction M generalizing k x with
  | nil => simp [outs, cnt, withinF]; omega
  | cons s M ih =>
    have h1 := h.1; have h2 := h.2.1; have h3 := h.2.2.1
    have hs := hM s List.mem_cons_self
    cases M with
    | nil =>
      simp only [outs, cnt, withinF, List.getLastD_cons, List.getLastD_nil]
      split
      · simp only [cnt, clip]; omega
      · simp only [cnt]; omega
    | cons t M =>
      have ht := hM t (by simp)
      have h4 := h.2.2.2.1
      have := ih h.2.2.2 (by omega) (fun u hu => hM u (List.mem_cons_of_mem _ hu)) s (by omega)
      rw [List.getLastD_cons, this]
      simp only [outs, cnt, withinF]
      rw [if_pos (show s.1 ≤ hi ∧ lo ≤ s.2 by omega)]
      simp only [cnt, clip]; omega

theorem grown_cnt {k mx lo hi : Int} {M : List Sp} (h : Good k mx M) (hlh : lo ≤ hi) (hM : ∀ s ∈ M, lo - 1 ≤ s.2 ∧ s.1 ≤ hi + 1) :
    (grownF lo hi M).2 - (grownF lo hi M).1 + 1 = (hi - lo + 1) + outs lo hi M := by
  cases M with
  | nil => simp [grownF, outs, cnt, withinF]
  | cons s M =>
    have h1 := h.1; have h2 := h.2.1; have h3 := h.2.2.1
    have hs := hM s List.mem_cons_self
    simp only [grownF]
    cases M with
    | nil =>
      simp only [outs, cnt, withinF, List.getLastD_nil]
      split
      · simp only [cnt, clip]; omega
      · simp only [cnt]; omega
    | cons t M =>
      have ht := hM t (by simp)
      have h4 := h.2.2.2.1
      have := outs_right h.2.2.2 (lo := lo) (hi := hi) (by omega) hlh (fun u hu => hM u (List.mem_cons_of_mem _ hu)) s (by omega)
      rw [this]
      simp only [outs, cnt, withinF]
      by_cases c : s.1 ≤ hi ∧ lo ≤ s.2
      · rw [if_pos c]; simp only [cnt, clip]; omega
      · rw [if_neg c]; omega

theorem getLastD_mem {M : List Sp} (h : M ≠ []) (x : Sp) : M.getLastD x ∈ M := by
  cases M with
  | nil => exact absurd rfl h
  | cons m M => rw [List.getLastD_eq_getLast?, List.getLast?_eq_some_getLast (by simp)]; exact List.getLast_mem (by simp)

/-- Add, of a list cut into those below, those that touch, those above. -/
theorem add_good {mn mx lo hi : Int} {A M D : List Sp} (h : Good mn mx (A ++ (M ++ D))) (hlh : lo ≤ hi) (hlo : mn ≤ lo) (hhi : hi ≤ mx)
    (hA : ∀ s ∈ A, s.2 < lo - 1) (hM : ∀ s ∈ M, lo - 1 ≤ s.2 ∧ s.1 ≤ hi + 1) (hD : ∀ s ∈ D, hi + 1 < s.1 ∧ lo - 1 ≤ s.2) :
    Good mn mx (A ++ (grownF lo hi M :: D)) ∧ cnt (A ++ (grownF lo hi M :: D)) = cnt (A ++ (M ++ D)) + cnt (holesF lo hi (A ++ (M ++ D))) := by
  have hg := grown_cnt h.right.left hlh hM
  have hh := (holes_good h hlh).2
  rw [withinF_append, withinF_append, withinF_none fun s hs => .inl (by have := hA s hs; omega), withinF_none (A := D) fun s hs => .inr (by have := hD s hs; omega)] at hh
  simp only [List.nil_append, List.append_nil] at hh
  refine ⟨?_, ?_⟩
  · -- the ends of what grew
    have hMm : ∀ s ∈ M, mn ≤ s.1 ∧ s.1 ≤ s.2 ∧ s.2 ≤ mx := fun s hs => h.right.left.mem hs
    have e1 : ∃ a b, grownF lo hi M = (a, b) ∧ mn ≤ a ∧ a ≤ b ∧ b ≤ mx ∧ (∀ s ∈ A, s.2 + 2 ≤ a) ∧ (∀ s ∈ D, b + 2 ≤ s.1) := by
      cases M with
      | nil => exact ⟨lo, hi, rfl, hlo, hlh, hhi, fun s hs => by have := hA s hs; omega, fun s hs => by have := hD s hs; omega⟩
      | cons m M =>
        have hl : M.getLastD m ∈ m :: M := by
          have := getLastD_mem (M := m :: M) (by simp) m
          rwa [List.getLastD_cons] at this
        refine ⟨min lo m.1, max hi (M.getLastD m).2, rfl, ?_, ?_, ?_, ?_, ?_⟩
        · have := hMm m (by simp); omega
        · omega
        · have := hMm _ hl; omega
        · intro s hs; have := hA s hs; have := h.mid hs (t := m) (by simp); omega
        · intro s hs; have := hD s hs; have := h.right.mid hl hs; omega
    obtain ⟨a, b, e, h1, h2, h3, h4, h5⟩ := e1
    rw [e]
    refine h.left.join (k := a) h4 h1 ⟨Int.le_refl _, h2, h3, ?_⟩
    have hD' : Good mn mx D := h.right.right
    cases D with
    | nil => trivial
    | cons d D => exact ⟨h5 d (by simp), hD'.2⟩
  · simp only [cnt_append, cnt]
    simp only [outs] at hg
    omega

/-- What is left of the runs that meet. -/
def restF (lo hi : Int) : List Sp → List Sp
  | [] => []
  | m :: M => (if m.1 < lo then [(m.1, lo - 1)] else []) ++ (if hi < (M.getLastD m).2 then [(hi + 1, (M.getLastD m).2)] else [])

theorem within_right {k mx lo hi : Int} {M : List Sp} (h : Good k mx M) (hk : lo ≤ k) (hlh : lo ≤ hi) (hM : ∀ s ∈ M, lo ≤ s.2 ∧ s.1 ≤ hi) (x : Sp) (hx : x.2 ≤ hi) :
    cnt M - cnt (withinF lo hi M) = max 0 ((M.getLastD x).2 - hi) := by
  have := outs_right h hk hlh (fun s hs => by have := hM s hs; omega) x hx
  simp only [outs] at this
  omega

theorem rest_cnt {k mx lo hi : Int} {M : List Sp} (h : Good k mx M) (hlh : lo ≤ hi) (hM : ∀ s ∈ M, lo ≤ s.2 ∧ s.1 ≤ hi) : cnt (restF lo hi M) = cnt M - cnt (withinF lo hi M) := by
  cases M with
  | nil => simp [restF, cnt, withinF]
  | cons s M =>
    have h1 := h.1; have h2 := h.2.1; have h3 := h.2.2.1
    have hs := hM s List.mem_cons_self
    simp only [restF]
    rw [cnt_append]
    have e2 : cnt (if hi < (M.getLastD s).2 then [(hi + 1, (M.getLastD s).2)] else []) = max 0 ((M.getLastD s).2 - hi) := by split <;> simp only [cnt] <;> omega
    have e1 : cnt (if s.1 < lo then [(s.1, lo - 1)] else []) = max 0 (lo - s.1) := by split <;> simp only [cnt] <;> omega
    rw [e1, e2]
    simp only [cnt, withinF]
    rw [if_pos ⟨hs.2, hs.1⟩]
    cases M with
    | nil => simp only [cnt, clip, List.getLastD_nil, withinF]; omega
    | cons t M =>
      have ht := hM t (by simp)
      have h4 := h.2.2.2.1
      have := within_right h.2.2.2 (lo := lo) (hi := hi) (by omega) hlh (fun u hu => hM u (List.mem_cons_of_mem _ hu)) s (by omega)
      simp only [cnt, clip] at this ⊢
      omega

theorem cut_good {mn mx lo hi : Int} {A M D : List Sp} (h : Good mn mx (A ++ (M ++ D))) (hlh : lo ≤ hi)
    (hA : ∀ s ∈ A, s.2 < lo) (hM : ∀ s ∈ M, lo ≤ s.2 ∧ s.1 ≤ hi) (hD : ∀ s ∈ D, hi < s.1 ∧ lo ≤ s.2) :
    Good mn mx (A ++ (restF lo hi M ++ D)) ∧ cnt (A ++ (restF lo hi M ++ D)) = cnt (A ++ (M ++ D)) - cnt (withinF lo hi (A ++ (M ++ D))) := by
  refine ⟨?_, ?_⟩
  · cases M with
    | nil => simpa [restF] using h
    | cons m M =>
      have hm := h.right.left.mem (s := m) (by simp)
      have hl := getLastD_mem (M := m :: M) (by simp) m
      rw [List.getLastD_cons] at hl
      generalize hle : M.getLastD m = l at hl
      have hlm := h.right.left.mem hl
      have hlM := hM l hl
      have hmM := hM m (by simp)
      simp only [restF, hle]
      refine h.left.join (k := m.1) (fun s hs => by have := h.mid hs (t := m) (by simp); omega) hm.1 ?_
      have hDg : Good (l.2 + 2) mx D := by
        have hD' : Good mn mx D := h.right.right
        cases D with
        | nil => trivial
        | cons d D => exact ⟨by have := h.right.mid hl (t := d) (by simp); omega, hD'.2⟩
      have g2 : Good (hi + 1) mx ((if hi < l.2 then [(hi + 1, l.2)] else []) ++ D) := by
        split
        · exact ⟨by simp, by simp; omega, hlm.2.2, hDg⟩
        · have hD' : Good mn mx D := h.right.right
          cases D with
          | nil => trivial
          | cons d D => exact ⟨by have := hD d (by simp); omega, hD'.2⟩
      rw [List.append_assoc]
      split
      · exact ⟨by simp, by simp; omega, by simp; omega, g2.mono (by simp; omega)⟩
      · exact g2.mono (by omega)
  · rw [withinF_append, withinF_append, withinF_none fun s hs => .inl (hA s hs), withinF_none (A := D) fun s hs => .inr (hD s hs).1]
    have := rest_cnt h.right.left hlh hM
    simp only [cnt_append, List.nil_append, List.append_nil]
    omega
end Go.Proofs.YtnflbefbgcbdfaaGreat
