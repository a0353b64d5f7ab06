/- What is there and what isn't follow one another. No program in sight. -/
import Derived.Test.YtnflbefbgcbdfaaGreatRM
namespace Go.Proofs.YtnflbefbgcbdfaaGreat
set_option maxRecDepth 100000
set_option linter.unusedVariables false

/-- Is a number there? -/
def memB (x : Int) (L : List Sp) : Bool := L.any fun s => decide (s.1 ≤ x) && decide (x ≤ s.2)

theorem memB_split {x : Int} {A M D : List Sp} (hA : ∀ s ∈ A, s.2 < x) (hM : ∀ s ∈ M, x ≤ s.2 ∧ s.1 ≤ x) (hD : ∀ s ∈ D, x < s.1 ∧ x ≤ s.2) : memB x (A ++ (M ++ D)) = decide (0 < M.length) := by
  unfold memB
  have h1 : A.any (fun s => decide (s.1 ≤ x) && decide (x ≤ s.2)) = false := List.any_eq_false.2 fun s hs => by have := hA s hs; simp; omega
  have h3 : D.any (fun s => decide (s.1 ≤ x) && decide (x ≤ s.2)) = false := List.any_eq_false.2 fun s hs => by have := hD s hs; simp; omega
  rw [List.any_append, List.any_append, h1, h3]
  cases M with
  | nil => rfl
  | cons m M => have := hM m (by simp); simp; left; omega

theorem memB_true {x : Int} {L : List Sp} {s : Sp} (hs : s ∈ L) (h1 : s.1 ≤ x) (h2 : x ≤ s.2) : memB x L = true := by
  unfold memB
  exact List.any_eq_true.2 ⟨s, hs, by simp [h1, h2]⟩
theorem memB_false {x : Int} {L : List Sp} (h : ∀ s ∈ L, s.2 < x ∨ x < s.1) : memB x L = false := by
  unfold memB
  exact List.any_eq_false.2 fun s hs => by have := h s hs; simp; omega

theorem memB_within (x lo hi : Int) (L : List Sp) (h1 : lo ≤ x) (h2 : x ≤ hi) : memB x (withinF lo hi L) = memB x L := by
  induction L with
  | nil => rfl
  | cons s L ih =>
    simp only [withinF]
    have e : memB x (s :: L) = ((decide (s.1 ≤ x) && decide (x ≤ s.2)) || memB x L) := rfl
    rw [e]
    split
    · have e2 : memB x (clip lo hi s :: withinF lo hi L) = ((decide ((clip lo hi s).1 ≤ x) && decide (x ≤ (clip lo hi s).2)) || memB x (withinF lo hi L)) := rfl
      rw [e2, ih]
      congr 1
      rw [show decide ((clip lo hi s).1 ≤ x) = decide (s.1 ≤ x) from decide_eq_decide.2 (by show max s.1 lo ≤ x ↔ s.1 ≤ x; omega), show decide (x ≤ (clip lo hi s).2) = decide (x ≤ s.2) from decide_eq_decide.2 (by show x ≤ min s.2 hi ↔ x ≤ s.2; omega)]
    · rw [ih]
      have : (decide (s.1 ≤ x) && decide (x ≤ s.2)) = false := by simp; omega
      rw [this]
      rfl

/-- How far one has come: i runs, k holes, next is 'at'. -/
structure Tile (R H : List Sp) (lo hi : Int) (i k : Nat) (nx : Int) : Prop where
  eq : H.drop k = holesGo hi nx (R.drop i)
  good : Good nx hi (R.drop i)
  le : nx ≤ hi
  ge : lo ≤ nx
  before : ∀ s ∈ R.take i, s.2 < nx

theorem Tile.start {R H : List Sp} {lo hi : Int} (hH : H = holesGo hi lo R) (hg : Good lo hi R) (hlh : lo ≤ hi) : Tile R H lo hi 0 0 lo := ⟨hH, hg, hlh, Int.le_refl _, by simp⟩

theorem drop_len {L : List Sp} {k : Nat} {x : Sp} {T : List Sp} (h : L.drop k = x :: T) : k < L.length ∧ L.getD k (0, 0) = x ∧ L.drop (k + 1) = T := by
  have hk : k < L.length := by
    rcases Nat.lt_or_ge k L.length with h1 | h1
    · exact h1
    · rw [List.drop_eq_nil_of_le h1] at h; cases h
  rw [List.drop_eq_getElem_cons hk] at h
  injection h with e1 e2
  exact ⟨hk, by rw [List.getD_eq_getElem?_getD, List.getElem?_eq_getElem hk]; exact e1, e2⟩

theorem drop_done {L : List Sp} {k : Nat} (h : L.drop k = []) (hk : k ≤ L.length) : k = L.length := by
  have := congrArg List.length h
  simp only [List.length_drop, List.length_nil] at this
  omega

/-- A run is next. -/
theorem Tile.run {R H : List Sp} {lo hi : Int} {i k : Nat} {nx : Int} (t : Tile R H lo hi i k nx) (hi' : i < R.length) (hat : (R.getD i (0, 0)).1 = nx) (hk : k ≤ H.length) :
    (R.getD i (0, 0)).1 ≤ (R.getD i (0, 0)).2 ∧ (R.getD i (0, 0)).2 ≤ hi ∧ ((R.getD i (0, 0)).2 = hi → i + 1 = R.length ∧ k = H.length) ∧ ((R.getD i (0, 0)).2 ≠ hi → Tile R H lo hi (i + 1) k ((R.getD i (0, 0)).2 + 1)) := by
  have hd : R.drop i = R.getD i (0, 0) :: R.drop (i + 1) := by rw [List.drop_eq_getElem_cons hi', List.getD_eq_getElem?_getD, List.getElem?_eq_getElem hi']; rfl
  have htk : ∀ s ∈ R.take (i + 1), s ∈ R.take i ∨ s = R.getD i (0, 0) := fun s hs => by
    rw [List.take_add_one, List.mem_append] at hs
    rcases hs with hs | hs
    · exact .inl hs
    · rw [List.getElem?_eq_getElem hi'] at hs
      simp at hs
      right
      rw [hs, List.getD_eq_getElem?_getD, List.getElem?_eq_getElem hi']; rfl
  generalize R.getD i (0, 0) = r at *
  have hg := t.good
  have he := t.eq
  rw [hd] at hg he
  have q1 := hg.1; have q2 := hg.2.1; have q3 := hg.2.2.1; have q4 := hg.2.2.2
  simp only [holesGo] at he
  rw [if_neg (by omega), List.nil_append] at he
  refine ⟨q2, q3, fun e => ?_, fun e => ?_⟩
  · rw [if_pos e] at he
    have hrest : R.drop (i + 1) = [] := by
      cases hc : R.drop (i + 1) with
      | nil => rfl
      | cons t T => rw [hc] at q4; have := q4.1; have := q4.2.1; have := q4.2.2.1; omega
    exact ⟨drop_done hrest (by omega), drop_done he hk⟩
  · rw [if_neg e] at he
    exact ⟨he, q4.mono (by omega), by omega, by have := t.ge; omega, fun s hs => by
      rcases htk s hs with h | rfl
      · have := t.before s h; omega
      · omega⟩

/-- A hole is next. -/
theorem Tile.hole {R H : List Sp} {lo hi : Int} {i k : Nat} {nx : Int} (t : Tile R H lo hi i k nx) (hi' : i ≤ R.length) (hat : i < R.length → (R.getD i (0, 0)).1 ≠ nx) :
    k < H.length ∧ (H.getD k (0, 0)).1 = nx ∧ nx ≤ (H.getD k (0, 0)).2 ∧ (H.getD k (0, 0)).2 ≤ hi ∧ memB nx R = false ∧ memB (H.getD k (0, 0)).2 R = false ∧ ((H.getD k (0, 0)).2 = hi → i = R.length ∧ k + 1 = H.length) ∧ ((H.getD k (0, 0)).2 ≠ hi → Tile R H lo hi i (k + 1) ((H.getD k (0, 0)).2 + 1)) := by
  have hR : ∀ s ∈ R, s ∈ R.take i ∨ s ∈ R.drop i := fun s hs => by rw [← List.take_append_drop i R] at hs; exact List.mem_append.1 hs
  cases hd : R.drop i with
  | nil =>
    have he := t.eq
    rw [hd] at he
    simp only [holesGo] at he
    obtain ⟨h1, h2, h3⟩ := drop_len he
    have hle := t.le
    have hno : ∀ x, nx ≤ x → memB x R = false := fun x hx => memB_false fun s hs => by
      rcases hR s hs with h | h
      · have := t.before s h; omega
      · rw [hd] at h; cases h
    rw [h2]
    exact ⟨h1, rfl, hle, Int.le_refl _, hno _ (Int.le_refl _), hno _ hle, fun _ => ⟨drop_done hd hi', by have := drop_done h3 (by omega); omega⟩, fun e => absurd rfl e⟩
  | cons r T =>
    obtain ⟨h1, h2, h3⟩ := drop_len hd
    have hne := hat h1
    rw [h2] at hne
    have hg := t.good
    have he := t.eq
    rw [hd] at hg he
    have q1 := hg.1; have q2 := hg.2.1; have q3 := hg.2.2.1; have q4 := hg.2.2.2
    simp only [holesGo] at he
    rw [if_pos (by omega), List.cons_append, List.nil_append] at he
    obtain ⟨k1, k2, k3⟩ := drop_len he
    have hno : ∀ x, nx ≤ x → x < r.1 → memB x R = false := fun x hx hx2 => memB_false fun s hs => by
      rcases hR s hs with h | h
      · have := t.before s h; omega
      · rw [hd] at h
        rcases List.mem_cons.1 h with rfl | h
        · omega
        · have := q4.mem h; omega
    rw [k2]
    refine ⟨k1, rfl, by simp; omega, by simp; omega, hno _ (Int.le_refl _) (by omega), hno _ (by simp; omega) (by simp; omega), fun e => ?_, fun e => ⟨?_, ?_, ?_, ?_, ?_⟩⟩
    · simp at e; omega
    · simp only [Int.sub_add_cancel]
      rw [k3, hd]
      simp only [holesGo]
      rw [if_neg (show ¬ r.1 < r.1 by omega), List.nil_append]
    · simp only [Int.sub_add_cancel]
      rw [hd]
      exact ⟨Int.le_refl _, q2, q3, q4⟩
    · simp only [Int.sub_add_cancel]; omega
    · simp only [Int.sub_add_cancel]; have := t.ge; omega
    · intro s hs; have := t.before s hs; simp only [Int.sub_add_cancel]; omega

/-- Something is left. -/
theorem Tile.left {R H : List Sp} {lo hi : Int} {i k : Nat} {nx : Int} (t : Tile R H lo hi i k nx) (hi' : i ≤ R.length) : i < R.length ∨ k < H.length := by
  rcases Nat.lt_or_ge i R.length with h | h
  · exact .inl h
  · right
    exact (t.hole hi' (fun h' => by omega)).1
end Go.Proofs.YtnflbefbgcbdfaaGreat
