/- 'with' is addF, 'without' is cutF: by lists alone. -/
import Derived.Test.YtcojhjnledeciaaRY
namespace Go.Proofs.Ytcojhjnledeciaa.Kr
set_option linter.unusedVariables false
set_option maxRecDepth 100000

/-- What with's first loop makes of the two numbers. -/
def accF (lo hi : Int) : Int × Int → List Sp → Int × Int
  | p, [] => p
  | p, s :: L => accF lo hi (if s.1 ≤ hi + 1 ∧ lo - 1 ≤ s.2 then (min p.1 s.1, max p.2 s.2) else p) L

theorem accF_append (lo hi : Int) (p : Int × Int) (A B : List Sp) : accF lo hi p (A ++ B) = accF lo hi (accF lo hi p A) B := by
  induction A generalizing p with
  | nil => rfl
  | cons s A ih => exact ih _

theorem accF_none {lo hi : Int} {p : Int × Int} {A : List Sp} (h : ∀ s ∈ A, s.2 < lo - 1 ∨ hi + 1 < s.1) : accF lo hi p A = p := by
  induction A generalizing p with
  | nil => rfl
  | cons s A ih =>
    have := h s (by simp)
    rw [accF, if_neg (by omega)]
    exact ih (fun t ht => h t (by simp [ht]))

theorem accF_mid {k mx lo hi : Int} {p : Int × Int} {m : Sp} {M : List Sp} (h : Good k mx (m :: M)) (hM : ∀ s ∈ m :: M, lo - 1 ≤ s.2 ∧ s.1 ≤ hi + 1) : accF lo hi p (m :: M) = (min p.1 m.1, max p.2 (M.getLastD m).2) := by
  induction M generalizing m k p with
  | nil =>
    have := hM m (by simp)
    rw [accF, if_pos (by omega)]
    rfl
  | cons m' M ih =>
    have h1 := hM m (by simp)
    have h2 := h.2.2.2.1
    have h3 := h.2.1
    have h4 := h.2.2.2.2.1
    rw [accF, if_pos (by omega), ih h.2.2.2 (fun s hs => hM s (by simp at hs; simp [hs])), getLastD_cons]
    have hl : m'.2 ≤ (M.getLastD m').2 := by
      cases M with
      | nil => exact Int.le_refl _
      | cons u M =>
        have hmem := getLastD_mem (M := u :: M) (by simp) m'
        have := h.2.2.2.2.2.2.mem hmem
        omega
    simp only
    generalize (M.getLastD m').2 = z at *
    exact Prod.ext (by simp only; omega) (by simp only; omega)

theorem accF_grown {k mx lo hi : Int} {A M D : List Sp} (h : Good k mx (A ++ (M ++ D))) (hlh : lo ≤ hi) (hA : ∀ s ∈ A, s.2 < lo - 1) (hM : ∀ s ∈ M, lo - 1 ≤ s.2 ∧ s.1 ≤ hi + 1) (hD : ∀ s ∈ D, hi + 1 < s.1 ∧ lo - 1 ≤ s.2) :
    accF lo hi (lo, hi) (A ++ (M ++ D)) = grownF lo hi M := by
  rw [accF_append, accF_none (fun s hs => .inl (hA s hs)), accF_append]
  cases M with
  | nil => exact accF_none (fun s hs => .inr (hD s hs).1)
  | cons m M =>
    rw [accF_mid h.right.left hM, accF_none (fun s hs => .inr (hD s hs).1)]
    rfl

theorem within_self {lo hi : Int} {A : List Sp} (h : ∀ s ∈ A, lo ≤ s.1 ∧ s.1 ≤ s.2 ∧ s.2 ≤ hi) : withinR lo hi A = A := by
  induction A with
  | nil => rfl
  | cons s A ih =>
    have h1 := h s (by simp)
    rw [withinR, ih (fun t ht => h t (by simp [ht])), if_pos (by omega), Int.max_eq_right (by omega), Int.min_eq_right (by omega)]

theorem within_out {lo hi : Int} {A : List Sp} (h : ∀ s ∈ A, s.2 < lo ∨ hi < s.1) : withinR lo hi A = [] := by
  induction A with
  | nil => rfl
  | cons s A ih =>
    have h1 := h s (by simp)
    rw [withinR, ih (fun t ht => h t (by simp [ht])), if_neg (by omega)]

theorem getLastD_ge {k mx : Int} {m : Sp} {M : List Sp} (h : Good k mx (m :: M)) : m.2 ≤ (M.getLastD m).2 ∧ (M.getLastD m).2 ≤ mx ∧ ∀ s ∈ m :: M, s.2 ≤ (M.getLastD m).2 := by
  induction M generalizing m k with
  | nil => exact ⟨Int.le_refl _, h.2.2.1, fun s hs => by simp at hs; rw [hs]; exact Int.le_refl _⟩
  | cons m' M ih =>
    obtain ⟨i1, i2, i3⟩ := ih h.2.2.2
    have := h.2.2.2.1
    have := h.2.2.2.2.1
    rw [getLastD_cons]
    exact ⟨by omega, i2, fun s hs => by
      rcases List.mem_cons.1 hs with rfl | hs
      · omega
      · exact i3 s hs⟩

/-- What is left beside what grows. -/
theorem without_grown {lo hi : Int} {A M D : List Sp} (h : Good 0 18446744073709551615 (A ++ (M ++ D))) (hlh : lo ≤ hi) (hlo : 0 ≤ lo) (hhi : hi ≤ 18446744073709551615) (hA : ∀ s ∈ A, s.2 < lo - 1) (hM : ∀ s ∈ M, lo - 1 ≤ s.2 ∧ s.1 ≤ hi + 1) (hD : ∀ s ∈ D, hi + 1 < s.1 ∧ lo - 1 ≤ s.2) :
    withoutR (grownF lo hi M).1 (grownF lo hi M).2 (A ++ (M ++ D)) = A ++ D ∧ (∀ s ∈ A, s.1 < (grownF lo hi M).1) ∧ (∀ s ∈ D, (grownF lo hi M).2 < s.1) ∧ 0 ≤ (grownF lo hi M).1 ∧ (grownF lo hi M).1 ≤ (grownF lo hi M).2 ∧ (grownF lo hi M).2 ≤ 18446744073709551615 := by
  have gA : ∀ s ∈ A, s.2 + 1 < (grownF lo hi M).1 := fun s hs => by
    have h1 := hA s hs
    cases M with
    | nil => simp only [grownF]; omega
    | cons m M => simp only [grownF]; have := h.mid hs (t := m) (by simp); omega
  have gD : ∀ s ∈ D, (grownF lo hi M).2 + 1 < s.1 := fun s hs => by
    have h1 := (hD s hs).1
    cases M with
    | nil => simp only [grownF]; omega
    | cons m M =>
      simp only [grownF]
      have hmem : M.getLastD m ∈ m :: M := by
        cases M with
        | nil => simp
        | cons u M => exact List.mem_cons_of_mem _ (getLastD_mem (by simp) m)
      have := h.right.mid hmem hs
      omega
  have gM : ∀ s ∈ M, (grownF lo hi M).1 ≤ s.1 ∧ s.2 ≤ (grownF lo hi M).2 := fun s hs => by
    cases M with
    | nil => cases hs
    | cons m M =>
      simp only [grownF]
      have h1 := (getLastD_ge h.right.left).2.2 s hs
      have h2 : m.1 ≤ s.1 := by
        rcases List.mem_cons.1 hs with rfl | hs
        · exact Int.le_refl _
        · have := h.right.left.2.2.2.mem hs; have := h.right.left.2.1; omega
      omega
  have gb : 0 ≤ (grownF lo hi M).1 ∧ (grownF lo hi M).1 ≤ (grownF lo hi M).2 ∧ (grownF lo hi M).2 ≤ 18446744073709551615 := by
    cases M with
    | nil => simp only [grownF]; omega
    | cons m M =>
      simp only [grownF]
      have h1 := (getLastD_ge h.right.left).2.1
      have h2 := h.right.left.1
      have h3 := h.right.left.mem (s := m) (by simp)
      omega
  generalize (grownF lo hi M).1 = a at *
  generalize (grownF lo hi M).2 = b at *
  have vA := fun s hs => h.left.mem (s := s) hs
  have vM := fun s hs => h.right.left.mem (s := s) hs
  have vD := fun s hs => h.right.right.mem (s := s) hs
  refine ⟨?_, fun s hs => by have := gA s hs; have := vA s hs; omega, fun s hs => by have := gD s hs; omega, gb⟩
  unfold withoutR
  have e1 : (if 0 < a then withinR 0 (a - 1) (A ++ (M ++ D)) else []) = A := by
    split
    · rw [withinR_append, withinR_append, within_self (fun s hs => by have := gA s hs; have := vA s hs; omega), within_out (A := M) (fun s hs => by have := gM s hs; have := vM s hs; omega), within_out (A := D) (fun s hs => by have := gD s hs; omega)]
      simp
    · cases A with
      | nil => rfl
      | cons s A => have := gA s (by simp); have := vA s (by simp); omega
  have e2 : (if b < 18446744073709551615 then withinR (b + 1) 18446744073709551615 (A ++ (M ++ D)) else []) = D := by
    split
    · rw [withinR_append, withinR_append, within_out (A := A) (fun s hs => by have := gA s hs; omega), within_out (A := M) (fun s hs => by have := gM s hs; omega), within_self (A := D) (fun s hs => by have := gD s hs; have := vD s hs; omega)]
      simp
    · cases D with
      | nil => rfl
      | cons s D => have := gD s (by simp); have := vD s (by simp); omega
  rw [e1, e2]

theorem within_last {k mx lo hi : Int} {m : Sp} {M : List Sp} (h : Good k mx (m :: M)) (hmx : mx ≤ 18446744073709551615) (hM : ∀ s ∈ m :: M, lo ≤ s.2 ∧ s.1 ≤ hi) :
    withinR (hi + 1) 18446744073709551615 (m :: M) = if hi < (M.getLastD m).2 then [(hi + 1, (M.getLastD m).2)] else [] := by
  induction M generalizing m k with
  | nil =>
    have h1 := hM m (by simp)
    have h2 := h.2.2.1
    have e : ([] : List Sp).getLastD m = m := rfl
    rw [e]
    simp only [withinR]
    by_cases hc : hi < m.2
    · rw [if_pos (by omega), if_pos hc, Int.max_eq_left (by omega), Int.min_eq_right (by omega)]
    · rw [if_neg (by omega), if_neg hc]
  | cons m' M ih =>
    have h1 := hM m' (by simp)
    have h2 := h.2.2.2.1
    rw [withinR, if_neg (by omega), ih h.2.2.2 (fun s hs => hM s (by simp at hs; simp [hs])), getLastD_cons]

/-- without is what Cut leaves. -/
theorem without_cut {lo hi : Int} {L : List Sp} (h : Good 0 18446744073709551615 L) (hlh : lo ≤ hi) (hlo : 0 ≤ lo) (hhi : hi ≤ 18446744073709551615) : withoutR lo hi L = Ku.cutF lo hi L := by
  obtain ⟨A, M, D, rfl, hA, hM, hD⟩ := split3 lo hi h (by omega)
  rw [Ku.cutF_split h hlh hA hM hD]
  have vA := fun s hs => h.left.mem (s := s) hs
  have vM := fun s hs => h.right.left.mem (s := s) hs
  have vD := fun s hs => h.right.right.mem (s := s) hs
  unfold withoutR
  have eA1 : 0 < lo → withinR 0 (lo - 1) A = A := fun _ => within_self (fun s hs => by have := hA s hs; have := vA s hs; omega)
  have eD1 : withinR 0 (lo - 1) D = [] := within_out (fun s hs => by have := hD s hs; omega)
  have eA2 : withinR (hi + 1) 18446744073709551615 A = [] := within_out (fun s hs => by have := hA s hs; omega)
  have eD2 : withinR (hi + 1) 18446744073709551615 D = D := within_self (fun s hs => by have := hD s hs; have := vD s hs; omega)
  have eA0 : ¬ 0 < lo → A = [] := fun hq => by
    cases A with
    | nil => rfl
    | cons s A => have := hA s (by simp); have := vA s (by simp); omega
  have eD0 : ¬ hi < 18446744073709551615 → D = [] := fun hq => by
    cases D with
    | nil => rfl
    | cons s D => have := hD s (by simp); have := vD s (by simp); omega
  have eM1 : (if 0 < lo then withinR 0 (lo - 1) M else []) = (match M with | [] => [] | m :: _ => if m.1 < lo then [(m.1, lo - 1)] else []) := by
    cases M with
    | nil => simp [withinR]
    | cons m M =>
      have h1 := hM m (by simp)
      have h2 := vM m (by simp)
      have hr : withinR 0 (lo - 1) M = [] := within_out (fun s hs => by have := h.right.left.2.2.2.mem hs; omega)
      simp only
      by_cases hq : 0 < lo
      · rw [if_pos hq, withinR, hr]
        by_cases hc : m.1 < lo
        · rw [if_pos (by omega), if_pos hc, Int.max_eq_right (by omega), Int.min_eq_left (by omega)]
        · rw [if_neg (by omega), if_neg hc]
      · rw [if_neg hq, if_neg (by omega)]
  have eM2 : (if hi < 18446744073709551615 then withinR (hi + 1) 18446744073709551615 M else []) = (match M with | [] => [] | m :: M => if hi < (M.getLastD m).2 then [(hi + 1, (M.getLastD m).2)] else []) := by
    cases M with
    | nil => simp [withinR]
    | cons m M =>
      simp only
      by_cases hq : hi < 18446744073709551615
      · rw [if_pos hq]
        exact within_last h.right.left (Int.le_refl _) hM
      · have := (getLastD_ge h.right.left).2.1
        rw [if_neg hq, if_neg (by omega)]
  have r1 : (if 0 < lo then withinR 0 (lo - 1) (A ++ (M ++ D)) else []) = A ++ (if 0 < lo then withinR 0 (lo - 1) M else []) := by
    by_cases hq : 0 < lo
    · rw [if_pos hq, if_pos hq, withinR_append, withinR_append, eA1 hq, eD1, List.append_nil]
    · rw [if_neg hq, if_neg hq, eA0 hq]; rfl
  have r2 : (if hi < 18446744073709551615 then withinR (hi + 1) 18446744073709551615 (A ++ (M ++ D)) else []) = (if hi < 18446744073709551615 then withinR (hi + 1) 18446744073709551615 M else []) ++ D := by
    by_cases hq : hi < 18446744073709551615
    · rw [if_pos hq, if_pos hq, withinR_append, withinR_append, eA2, eD2, List.nil_append]
    · rw [if_neg hq, if_neg hq, eD0 hq]; rfl
  rw [r1, r2, eM1, eM2]
  cases M with
  | nil => simp [restF]
  | cons m M => simp only [restF, List.append_assoc]
end Go.Proofs.Ytcojhjnledeciaa.Kr
