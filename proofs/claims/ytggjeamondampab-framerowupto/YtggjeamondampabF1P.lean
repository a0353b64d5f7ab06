/- There and back, by lists. No program in sight. -/
import Derived.Test.YtggjeamondampabFX5
namespace Go.Proofs.Ytggjeamondampab
open Go.RowKit
set_option linter.unusedVariables false
set_option linter.unusedSimpArgs false
set_option maxRecDepth 100000
set_option maxHeartbeats 4000000

theorem shape_list {k : Int} {bare : Fr} {l : Parts} (hs : shapeF k = some (bare, l)) : k = 0 ∨ k = 1 ∨ k = 30 ∨ k = 2 ∨ k = 3 ∨ k = 4 ∨ k = 5 ∨ k = 6 ∨ k = 8 ∨ k = 9 ∨ k = 10 ∨ k = 11 ∨ k = 12 ∨ k = 13 ∨ k = 14 ∨ k = 15 ∨ k = 16 ∨ k = 20 ∨ k = 17 ∨ k = 21 ∨ k = 19 ∨ k = 23 ∨ k = 18 ∨ k = 22 ∨ k = 26 ∨ k = 27 ∨ k = 28 ∨ k = 29 := by
  have := shape_dom hs
  omega

/-- What a type's frame is, the parts aside. -/
theorem bare_zero {k : Int} {bare : Fr} {l : Parts} (hs : shapeF k = some (bare, l)) : bare.stream = 0 ∧ bare.offset = 0 ∧ bare.data = [] ∧ bare.size = 0 ∧ bare.limit = 0 ∧ bare.code = 0 ∧ bare.delay = 0 ∧ bare.runs = [] ∧ bare.c0 = 0 ∧ bare.c1 = 0 ∧ bare.c2 = 0 := by
  have hd := shape_list hs
  rcases hd with rfl | rfl | rfl | rfl | rfl | rfl | rfl | rfl | rfl | rfl | rfl | rfl | rfl | rfl | rfl | rfl | rfl | rfl | rfl | rfl | rfl | rfl | rfl | rfl | rfl | rfl | rfl | rfl
  all_goals (cases hs; exact ⟨rfl, rfl, rfl, rfl, rfl, rfl, rfl, rfl, rfl, rfl, rfl⟩)

theorem shape_12 {k : Int} {bare : Fr} {l : Parts} (hs : shapeF k = some (bare, l)) (e : l.2.2.1 = 12) : bare.tail = true := by
  have hd := shape_list hs
  rcases hd with rfl | rfl | rfl | rfl | rfl | rfl | rfl | rfl | rfl | rfl | rfl | rfl | rfl | rfl | rfl | rfl | rfl | rfl | rfl | rfl | rfl | rfl | rfl | rfl | rfl | rfl | rfl | rfl
  all_goals (cases hs; first | rfl | exact absurd e (by decide))
theorem shape_14 {k : Int} {bare : Fr} {l : Parts} (hs : shapeF k = some (bare, l)) (e : l.1 = 14) : bare.kind = 0 := by
  have hd := shape_list hs
  rcases hd with rfl | rfl | rfl | rfl | rfl | rfl | rfl | rfl | rfl | rfl | rfl | rfl | rfl | rfl | rfl | rfl | rfl | rfl | rfl | rfl | rfl | rfl | rfl | rfl | rfl | rfl | rfl | rfl
  all_goals (cases hs; first | rfl | exact absurd e (by decide))
theorem type_kind {f bare : Fr} {l : Parts} (hk : isKindF f.kind = true) (hs : shapeF (typeF f) = some (bare, l)) : bare.kind = f.kind := by
  have hd := kind_dom hk
  have b1 := one_bounds (decide (f.offset > 0)); have b2 := one_bounds (!f.tail); have b3 := one_bounds f.fin
  have b4 := one_bounds f.marks; have b5 := one_bounds f.uni; have b6 := one_bounds f.own
  have ht : (f.kind = 8 ∧ 8 ≤ typeF f ∧ typeF f ≤ 15) ∨ (f.kind = 2 ∧ (typeF f = 2 ∨ typeF f = 3)) ∨ ((f.kind = 18 ∨ f.kind = 22) ∧ (typeF f = f.kind ∨ typeF f = f.kind + 1)) ∨ (f.kind = 28 ∧ (typeF f = 28 ∨ typeF f = 29)) ∨ (typeF f = f.kind ∧ f.kind ≠ 8 ∧ f.kind ≠ 2 ∧ f.kind ≠ 18 ∧ f.kind ≠ 22 ∧ f.kind ≠ 28) := by
    unfold typeF
    (repeat' split) <;> omega
  generalize typeF f = t at *
  generalize f.kind = k at *
  have hl := shape_list hs
  rcases hl with rfl | rfl | rfl | rfl | rfl | rfl | rfl | rfl | rfl | rfl | rfl | rfl | rfl | rfl | rfl | rfl | rfl | rfl | rfl | rfl | rfl | rfl | rfl | rfl | rfl | rfl | rfl | rfl
  all_goals (cases hs; simp only; omega)

/-- What mayF asks, field by field. -/
theorem may_fields {f bare : Fr} {l : Parts} (h : mayF f bare l = true) : (fitsF f l.1 = true ∧ fitsF f l.2.1 = true ∧ fitsF f l.2.2.1 = true ∧ fitsF f l.2.2.2 = true) ∧
    (let t := takeF (takeF (takeF (takeF f l.1) l.2.1) l.2.2.1) l.2.2.2; t.data = [] ∧ t.runs = [] ∧ (t.c0 = bare.c0 ∧ t.c1 = bare.c1 ∧ t.c2 = bare.c2) ∧ t.stream = 0 ∧ t.offset = 0 ∧ t.size = 0 ∧ t.limit = 0 ∧ t.code = 0 ∧ t.delay = 0 ∧ t.fin = bare.fin ∧ t.tail = bare.tail ∧ t.uni = bare.uni ∧ t.own = bare.own ∧ t.marks = bare.marks) := by
  unfold mayF bareF at h
  simp only [Bool.and_eq_true, decide_eq_true_eq, List.isEmpty_iff] at h
  obtain ⟨⟨⟨⟨q1, q2⟩, q3⟩, q4⟩, ⟨⟨⟨⟨⟨⟨⟨⟨⟨⟨⟨⟨⟨a1, a2⟩, a3⟩, a4⟩, a5⟩, a6⟩, a7⟩, a8⟩, a9⟩, a10⟩, a11⟩, a12⟩, a13⟩, a14⟩⟩ := h
  exact ⟨⟨q1, q2, q3, q4⟩, a1, a2, a3, a4, a5, a6, a7, a8, a9, a10, a11, a12, a13, a14⟩

/-- All parts, given one behind the other. -/
def givePs (g f : Fr) (l : Parts) : Fr := giveF (giveF (giveF (giveF g f l.1) f l.2.1) f l.2.2.1) f l.2.2.2

theorem give_back {f bare : Fr} {l : Parts} {k : Int} (hs : shapeF k = some (bare, l)) (hk : bare.kind = f.kind) (h : mayF f bare l = true) : givePs bare f l = f := by
  obtain ⟨-, h⟩ := may_fields h
  obtain ⟨b1, b2, b3, b4, b5, b6, b7, b8, b9, b10, b11⟩ := bare_zero hs
  obtain ⟨kind, stream, offset, data, size, fin, tail, limit, uni, code, own, delay, runs, marks, c0, c1, c2⟩ := f
  obtain ⟨bkind, bstream, boffset, bdata, bsize, bfin, btail, blimit, buni, bcode, bown, bdelay, bruns, bmarks, bc0, bc1, bc2⟩ := bare
  simp only at b1 b2 b3 b4 b5 b6 b7 b8 b9 b10 b11 hk
  subst b1 b2 b3 b4 b5 b6 b7 b8 b9 b10 b11 hk
  have hl := shape_parts hs
  clear hs
  rcases hl with e | e | e | e | e | e | e | e | e | e | e | e | e | e | e | e | e <;> subst e
  all_goals
    simp [takeF, setF] at h
    simp [givePs, giveF, setF, fieldF]
    simp [h]

/-- The bytes of all parts. -/
theorem enc_parts {f bare : Fr} {l : Parts} {k : Int} (hs : shapeF k = some (bare, l)) (h : mayF f bare l = true) (x : List Int) :
    encL (numsP f l.1 ++ numsP f l.2.1 ++ numsP f l.2.2.1 ++ numsP f l.2.2.2) ++ restF f l.1 f.data ++ x = encP f l.1 ++ (encP f l.2.1 ++ (encP f l.2.2.1 ++ (encP f l.2.2.2 ++ x))) := by
  obtain ⟨-, h⟩ := may_fields h
  have hd := h.1
  clear h
  have hl := shape_parts hs
  clear hs
  rcases hl with e | e | e | e | e | e | e | e | e | e | e | e | e | e | e | e | e <;> subst e
  all_goals
    simp [takeF, setF] at hd
    simp [encP, numsP, restF, encL, hd]

/-- Where a part is not the offset's. -/
theorem may_off0 {f bare : Fr} {l : Parts} (h : mayF f bare l = true) (n2 : l.1 ≠ 2 ∧ l.2.1 ≠ 2 ∧ l.2.2.1 ≠ 2 ∧ l.2.2.2 ≠ 2) : f.offset = 0 := by
  obtain ⟨-, h⟩ := may_fields h
  have := h.2.2.2.2.1
  rwa [takeF_off _ _ n2.2.2.2, takeF_off _ _ n2.2.2.1, takeF_off _ _ n2.2.1, takeF_off _ _ n2.1] at this

/-- THERE AND BACK. -/
theorem back_pure {f : Fr} {n rs : List Int} (h : tellF f = .inl (n, rs)) (hm : (f.runs.length : Int) ≤ MAXN) (x : List Int) (ht : f.tail = true → x = []) (hp : f.kind = 0 → x.head? ≠ some 0) :
    decF (encL n ++ rs ++ x) = .inl (f, x) := by
  unfold tellF at h
  by_cases hk : isKindF f.kind = true
  · obtain ⟨bare, l, hs⟩ := type_some hk
    rw [if_pos hk, hs] at h
    simp only at h
    by_cases hmay : mayF f bare l = true
    · rw [if_pos hmay] at h
      simp only [Sum.inl.injEq, Prod.mk.injEq] at h
      obtain ⟨rfl, rfl⟩ := h
      have off := may_off hmay
      have tr := typeF_range hk
      have kd := type_kind hk hs
      have gb := give_back hs kd hmay
      have ep := enc_parts hs hmay x
      have e1 : encL (typeF f :: (numsP f l.1 ++ numsP f l.2.1 ++ numsP f l.2.2.1 ++ numsP f l.2.2.2)) ++ restF f l.1 f.data ++ x = encN (typeF f) ++ (encP f l.1 ++ (encP f l.2.1 ++ (encP f l.2.2.1 ++ (encP f l.2.2.2 ++ x)))) := by
        rw [← ep]
        simp [encL]
      rw [e1]
      unfold decF
      rw [numF_enc _ _ tr.1 (by unfold MAXN; omega)]
      simp only
      rw [hs]
      simp only
      rw [if_neg (by rw [List.length_append, encN_length]; omega)]
      obtain ⟨⟨q1, q2, q3, q4⟩, fl⟩ := may_fields hmay
      have o0 := may_off0 hmay
      obtain ⟨z1, z2, z3, z4, z5, z6, z7, z8, z9, z10, z11⟩ := bare_zero hs
      have tl : f.tail = bare.tail := by
        have := fl.2.2.2.2.2.2.2.2.2.2.1
        have hh : ∀ (g : Fr) (q : Nat), (takeF g q).tail = g.tail := fun g q => by unfold takeF setF; (repeat' split) <;> rfl
        rwa [hh, hh, hh, hh] at this
      have t12 : l.2.2.1 = 12 → bare.tail = true := fun e => by
        exact shape_12 hs e
      have k14 : l.1 = 14 → f.kind = 0 := fun e => by
        rw [← kd]
        exact shape_14 hs e
      unfold givePs at gb
      have R : ∀ (p : Nat) (g : Fr) (y : List Int), p ≤ 14 → fitsF f p = true → (p = 8 → areF f.runs = true) → (p = 9 → (g.runs.headD (0, 0)).2 = (f.runs.headD (0, 0)).2) → (p = 11 ∨ p = 12 → g.offset = f.offset) → (p = 12 → y = []) → (p = 14 → y.head? ≠ some 0) → readP p g (encP f p ++ y) = .inl (giveF g f p, y) :=
        fun p g y hp hf h8 h9 h11 h12 h14 => readP_enc f g p y hp hf h8 (fun e => ⟨h9 e, hm⟩) (fun e => ⟨h11 e, off.1⟩) h12 h14
      have hl := shape_parts hs
      clear hs
      rcases hl with e | e | e | e | e | e | e | e | e | e | e | e | e | e | e | e | e <;> subst e
      all_goals
        simp only at q1 q2 q3 q4 gb o0 t12 k14
        unfold readPs
        simp only
        rw [R _ _ _ (by decide) q1 (by first | (intro hh; exact absurd hh (by decide)) | (intro _; exact q3)) (fun hh => absurd hh (by decide)) (by first | (intro hh; exact absurd hh (by decide)) | (intro _; rw [z2, o0 (by decide)])) (by first | (intro hh; exact absurd hh (by decide))) (by first | (intro hh; exact absurd hh (by decide)) | (intro _; simpa [encP, numsP, encL] using hp (k14 (by first | rfl | trivial))))]
        simp only [bind']
        rw [R _ _ _ (by decide) q2 (by first | (intro hh; exact absurd hh (by decide)) | (intro _; exact q3)) (fun hh => absurd hh (by decide)) (by first | (intro hh; exact absurd hh (by decide)) | (intro _; simp [giveF, setF, fieldF, z2, o0]) | (intro _; simp [giveF, setF, fieldF, z2])) (by first | (intro hh; exact absurd hh (by decide))) (by first | (intro hh; exact absurd hh (by decide)))]
        simp only
        rw [R _ _ _ (by decide) q3 (by first | (intro hh; exact absurd hh (by decide)) | (intro _; exact q3)) (by first | (intro hh; exact absurd hh (by decide)) | (intro _; simp [giveF, setF, fieldF])) (by first | (intro hh; exact absurd hh (by decide)) | (intro _; simp [giveF, setF, fieldF, z2, o0]) | (intro _; simp [giveF, setF, fieldF, z2])) (by first | (intro hh; exact absurd hh (by decide)) | (intro _; simpa [encP, numsP, encL] using ht (tl.trans (t12 (by first | rfl | trivial))))) (by first | (intro hh; exact absurd hh (by decide)))]
        simp only
        rw [R _ _ _ (by decide) q4 (by first | (intro hh; exact absurd hh (by decide))) (fun hh => absurd hh (by decide)) (by first | (intro hh; exact absurd hh (by decide))) (by first | (intro hh; exact absurd hh (by decide))) (by first | (intro hh; exact absurd hh (by decide)))]
        rw [gb]
    · rw [if_neg hmay] at h; cases h
  · rw [if_neg hk] at h; cases h
end Go.Proofs.Ytggjeamondampab
