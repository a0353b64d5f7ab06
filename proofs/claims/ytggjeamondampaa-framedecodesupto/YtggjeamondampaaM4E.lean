/- F1P, F1R, F1S, one text. -/
import Derived.Test.YtggjeamondampaaFX5
namespace Go.Proofs.Ytggjeamondampaa
open Go.RowKit
set_option linter.unusedVariables false
set_option linter.unusedSimpArgs false
set_option maxRecDepth 100000
set_option maxHeartbeats 4000000

theorem shape_list {k : Int} {bare : Fr} {l : Parts} (hs : shapeF k = some (bare, l)) : k = 0 ∨ k = 1 ∨ k = 30 ∨ k = 2 ∨ k = 3 ∨ k = 4 ∨ k = 5 ∨ k = 6 ∨ k = 8 ∨ k = 9 ∨ k = 10 ∨ k = 11 ∨ k = 12 ∨ k = 13 ∨ k = 14 ∨ k = 15 ∨ k = 16 ∨ k = 20 ∨ k = 17 ∨ k = 21 ∨ k = 19 ∨ k = 23 ∨ k = 18 ∨ k = 22 ∨ k = 26 ∨ k = 27 ∨ k = 28 ∨ k = 29 := by
  have := shape_dom hs
  omega

/-- What a type's frame is, the parts aside. -/
theorem bare_zero {k : Int} {bare : Fr} {l : Parts} (hs : shapeF k = some (bare, l)) : bare.stream = 0 ∧ bare.offset = 0 ∧ bare.data = [] ∧ bare.size = 0 ∧ bare.limit = 0 ∧ bare.code = 0 ∧ bare.delay = 0 ∧ bare.runs = [] ∧ bare.c0 = 0 ∧ bare.c1 = 0 ∧ bare.c2 = 0 := by
  have hd := shape_list hs
  rcases hd with rfl | rfl | rfl | rfl | rfl | rfl | rfl | rfl | rfl | rfl | rfl | rfl | rfl | rfl | rfl | rfl | rfl | rfl | rfl | rfl | rfl | rfl | rfl | rfl | rfl | rfl | rfl | rfl
  all_goals (cases hs; exact ⟨rfl, rfl, rfl, rfl, rfl, rfl, rfl, rfl, rfl, rfl, rfl⟩)

theorem shape_12 {k : Int} {bare : Fr} {l : Parts} (hs : shapeF k = some (bare, l)) (e : l.2.2.1 = 12) : bare.tail = true := by
  have hd := shape_list hs
  rcases hd with rfl | rfl | rfl | rfl | rfl | rfl | rfl | rfl | rfl | rfl | rfl | rfl | rfl | rfl | rfl | rfl | rfl | rfl | rfl | rfl | rfl | rfl | rfl | rfl | rfl | rfl | rfl | rfl
  all_goals (cases hs; first | rfl | exact absurd e (by decide))
theorem shape_14 {k : Int} {bare : Fr} {l : Parts} (hs : shapeF k = some (bare, l)) (e : l.1 = 14) : bare.kind = 0 := by
  have hd := shape_list hs
  rcases hd with rfl | rfl | rfl | rfl | rfl | rfl | rfl | rfl | rfl | rfl | rfl | rfl | rfl | rfl | rfl | rfl | rfl | rfl | rfl | rfl | rfl | rfl | rfl | rfl | rfl | rfl | rfl | rfl
  all_goals (cases hs; first | rfl | exact absurd e (by decide))
theorem type_kind {f bare : Fr} {l : Parts} (hk : isKindF f.kind = true) (hs : shapeF (typeF f) = some (bare, l)) : bare.kind = f.kind := by
  have hd := kind_dom hk
  have b1 := one_bounds (decide (f.offset > 0)); have b2 := one_bounds (!f.tail); have b3 := one_bounds f.fin
  have b4 := one_bounds f.marks; have b5 := one_bounds f.uni; have b6 := one_bounds f.own
  have ht : (f.kind = 8 ∧ 8 ≤ typeF f ∧ typeF f ≤ 15) ∨ (f.kind = 2 ∧ (typeF f = 2 ∨ typeF f = 3)) ∨ ((f.kind = 18 ∨ f.kind = 22) ∧ (typeF f = f.kind ∨ typeF f = f.kind + 1)) ∨ (f.kind = 28 ∧ (typeF f = 28 ∨ typeF f = 29)) ∨ (typeF f = f.kind ∧ f.kind ≠ 8 ∧ f.kind ≠ 2 ∧ f.kind ≠ 18 ∧ f.kind ≠ 22 ∧ f.kind ≠ 28) := by
    unfold typeF
    (repeat' split) <;> omega
  generalize typeF f = t at *
  generalize f.kind = k at *
  have hl := shape_list hs
  rcases hl with rfl | rfl | rfl | rfl | rfl | rfl | rfl | rfl | rfl | rfl | rfl | rfl | rfl | rfl | rfl | rfl | rfl | rfl | rfl | rfl | rfl | rfl | rfl | rfl | rfl | rfl | rfl | rfl
  all_goals (cases hs; simp only; omega)

/-- What mayF asks, field by field. -/
theorem may_fields {f bare : Fr} {l : Parts} (h : mayF f bare l = true) : (fitsF f l.1 = true ∧ fitsF f l.2.1 = true ∧ fitsF f l.2.2.1 = true ∧ fitsF f l.2.2.2 = true) ∧
    (let t := takeF (takeF (takeF (takeF f l.1) l.2.1) l.2.2.1) l.2.2.2; t.data = [] ∧ t.runs = [] ∧ (t.c0 = bare.c0 ∧ t.c1 = bare.c1 ∧ t.c2 = bare.c2) ∧ t.stream = 0 ∧ t.offset = 0 ∧ t.size = 0 ∧ t.limit = 0 ∧ t.code = 0 ∧ t.delay = 0 ∧ t.fin = bare.fin ∧ t.tail = bare.tail ∧ t.uni = bare.uni ∧ t.own = bare.own ∧ t.marks = bare.marks) := by
  unfold mayF bareF at h
  simp only [Bool.and_eq_true, decide_eq_true_eq, List.isEmpty_iff] at h
  obtain ⟨⟨⟨⟨q1, q2⟩, q3⟩, q4⟩, ⟨⟨⟨⟨⟨⟨⟨⟨⟨⟨⟨⟨⟨a1, a2⟩, a3⟩, a4⟩, a5⟩, a6⟩, a7⟩, a8⟩, a9⟩, a10⟩, a11⟩, a12⟩, a13⟩, a14⟩⟩ := h
  exact ⟨⟨q1, q2, q3, q4⟩, a1, a2, a3, a4, a5, a6, a7, a8, a9, a10, a11, a12, a13, a14⟩

/-- All parts, given one behind the other. -/
def givePs (g f : Fr) (l : Parts) : Fr := giveF (giveF (giveF (giveF g f l.1) f l.2.1) f l.2.2.1) f l.2.2.2

theorem give_back {f bare : Fr} {l : Parts} {k : Int} (hs : shapeF k = some (bare, l)) (hk : bare.kind = f.kind) (h : mayF f bare l = true) : givePs bare f l = f := by
  obtain ⟨-, h⟩ := may_fields h
  obtain ⟨b1, b2, b3, b4, b5, b6, b7, b8, b9, b10, b11⟩ := bare_zero hs
  obtain ⟨kind, stream, offset, data, size, fin, tail, limit, uni, code, own, delay, runs, marks, c0, c1, c2⟩ := f
  obtain ⟨bkind, bstream, boffset, bdata, bsize, bfin, btail, blimit, buni, bcode, bown, bdelay, bruns, bmarks, bc0, bc1, bc2⟩ := bare
  simp only at b1 b2 b3 b4 b5 b6 b7 b8 b9 b10 b11 hk
  subst b1 b2 b3 b4 b5 b6 b7 b8 b9 b10 b11 hk
  have hl := shape_parts hs
  clear hs
  rcases hl with e | e | e | e | e | e | e | e | e | e | e | e | e | e | e | e | e <;> subst e
  all_goals
    simp [takeF, setF] at h
    simp [givePs, giveF, setF, fieldF]
    simp [h]

/-- The bytes of all parts. -/
theorem enc_parts {f bare : Fr} {l : Parts} {k : Int} (hs : shapeF k = some (bare, l)) (h : mayF f bare l = true) (x : List Int) :
    encL (numsP f l.1 ++ numsP f l.2.1 ++ numsP f l.2.2.1 ++ numsP f l.2.2.2) ++ restF f l.1 f.data ++ x = encP f l.1 ++ (encP f l.2.1 ++ (encP f l.2.2.1 ++ (encP f l.2.2.2 ++ x))) := by
  obtain ⟨-, h⟩ := may_fields h
  have hd := h.1
  clear h
  have hl := shape_parts hs
  clear hs
  rcases hl with e | e | e | e | e | e | e | e | e | e | e | e | e | e | e | e | e <;> subst e
  all_goals
    simp [takeF, setF] at hd
    simp [encP, numsP, restF, encL, hd]

/-- Where a part is not the offset's. -/
theorem may_off0 {f bare : Fr} {l : Parts} (h : mayF f bare l = true) (n2 : l.1 ≠ 2 ∧ l.2.1 ≠ 2 ∧ l.2.2.1 ≠ 2 ∧ l.2.2.2 ≠ 2) : f.offset = 0 := by
  obtain ⟨-, h⟩ := may_fields h
  have := h.2.2.2.2.1
  rwa [takeF_off _ _ n2.2.2.2, takeF_off _ _ n2.2.2.1, takeF_off _ _ n2.2.1, takeF_off _ _ n2.1] at this

/-- THERE AND BACK. -/
theorem back_pure {f : Fr} {n rs : List Int} (h : tellF f = .inl (n, rs)) (hm : (f.runs.length : Int) ≤ MAXN) (x : List Int) (ht : f.tail = true → x = []) (hp : f.kind = 0 → x.head? ≠ some 0) :
    decF (encL n ++ rs ++ x) = .inl (f, x) := by
  unfold tellF at h
  by_cases hk : isKindF f.kind = true
  · obtain ⟨bare, l, hs⟩ := type_some hk
    rw [if_pos hk, hs] at h
    simp only at h
    by_cases hmay : mayF f bare l = true
    · rw [if_pos hmay] at h
      simp only [Sum.inl.injEq, Prod.mk.injEq] at h
      obtain ⟨rfl, rfl⟩ := h
      have off := may_off hmay
      have tr := typeF_range hk
      have kd := type_kind hk hs
      have gb := give_back hs kd hmay
      have ep := enc_parts hs hmay x
      have e1 : encL (typeF f :: (numsP f l.1 ++ numsP f l.2.1 ++ numsP f l.2.2.1 ++ numsP f l.2.2.2)) ++ restF f l.1 f.data ++ x = encN (typeF f) ++ (encP f l.1 ++ (encP f l.2.1 ++ (encP f l.2.2.1 ++ (encP f l.2.2.2 ++ x)))) := by
        rw [← ep]
        simp [encL]
      rw [e1]
      unfold decF
      rw [numF_enc _ _ tr.1 (by unfold MAXN; omega)]
      simp only
      rw [hs]
      simp only
      rw [if_neg (by rw [List.length_append, encN_length]; omega)]
      obtain ⟨⟨q1, q2, q3, q4⟩, fl⟩ := may_fields hmay
      have o0 := may_off0 hmay
      obtain ⟨z1, z2, z3, z4, z5, z6, z7, z8, z9, z10, z11⟩ := bare_zero hs
      have tl : f.tail = bare.tail := by
        have := fl.2.2.2.2.2.2.2.2.2.2.1
        have hh : ∀ (g : Fr) (q : Nat), (takeF g q).tail = g.tail := fun g q => by unfold takeF setF; (repeat' split) <;> rfl
        rwa [hh, hh, hh, hh] at this
      have t12 : l.2.2.1 = 12 → bare.tail = true := fun e => by
        exact shape_12 hs e
      have k14 : l.1 = 14 → f.kind = 0 := fun e => by
        rw [← kd]
        exact shape_14 hs e
      unfold givePs at gb
      have R : ∀ (p : Nat) (g : Fr) (y : List Int), p ≤ 14 → fitsF f p = true → (p = 8 → areF f.runs = true) → (p = 9 → (g.runs.headD (0, 0)).2 = (f.runs.headD (0, 0)).2) → (p = 11 ∨ p = 12 → g.offset = f.offset) → (p = 12 → y = []) → (p = 14 → y.head? ≠ some 0) → readP p g (encP f p ++ y) = .inl (giveF g f p, y) :=
        fun p g y hp hf h8 h9 h11 h12 h14 => readP_enc f g p y hp hf h8 (fun e => ⟨h9 e, hm⟩) (fun e => ⟨h11 e, off.1⟩) h12 h14
      have hl := shape_parts hs
      clear hs
      rcases hl with e | e | e | e | e | e | e | e | e | e | e | e | e | e | e | e | e <;> subst e
      all_goals
        simp only at q1 q2 q3 q4 gb o0 t12 k14
        unfold readPs
        simp only
        rw [R _ _ _ (by decide) q1 (by first | (intro hh; exact absurd hh (by decide)) | (intro _; exact q3)) (fun hh => absurd hh (by decide)) (by first | (intro hh; exact absurd hh (by decide)) | (intro _; rw [z2, o0 (by decide)])) (by first | (intro hh; exact absurd hh (by decide))) (by first | (intro hh; exact absurd hh (by decide)) | (intro _; simpa [encP, numsP, encL] using hp (k14 (by first | rfl | trivial))))]
        simp only [bind']
        rw [R _ _ _ (by decide) q2 (by first | (intro hh; exact absurd hh (by decide)) | (intro _; exact q3)) (fun hh => absurd hh (by decide)) (by first | (intro hh; exact absurd hh (by decide)) | (intro _; simp [giveF, setF, fieldF, z2, o0]) | (intro _; simp [giveF, setF, fieldF, z2])) (by first | (intro hh; exact absurd hh (by decide))) (by first | (intro hh; exact absurd hh (by decide)))]
        simp only
        rw [R _ _ _ (by decide) q3 (by first | (intro hh; exact absurd hh (by decide)) | (intro _; exact q3)) (by first | (intro hh; exact absurd hh (by decide)) | (intro _; simp [giveF, setF, fieldF])) (by first | (intro hh; exact absurd hh (by decide)) | (intro _; simp [giveF, setF, fieldF, z2, o0]) | (intro _; simp [giveF, setF, fieldF, z2])) (by first | (intro hh; exact absurd hh (by decide)) | (intro _; simpa [encP, numsP, encL] using ht (tl.trans (t12 (by first | rfl | trivial))))) (by first | (intro hh; exact absurd hh (by decide)))]
        simp only
        rw [R _ _ _ (by decide) q4 (by first | (intro hh; exact absurd hh (by decide))) (fun hh => absurd hh (by decide)) (by first | (intro hh; exact absurd hh (by decide))) (by first | (intro hh; exact absurd hh (by decide))) (by first | (intro hh; exact absurd hh (by decide)))]
        rw [gb]
    · rw [if_neg hmay] at h; cases h
  · rw [if_neg hk] at h; cases h
end Go.Proofs.Ytggjeamondampaa

namespace Go.Proofs.Ytggjeamondampaa
open Go.RowKit
set_option linter.unusedVariables false
set_option linter.unusedSimpArgs false
set_option maxRecDepth 100000
set_option maxHeartbeats 4000000

def Bs (l : List Int) : Prop := ∀ x ∈ l, IsB x
theorem Bs.drop {l : List Int} (h : Bs l) (n : Nat) : Bs (l.drop n) := fun x hx => h x (List.mem_of_mem_drop hx)

theorem dig_bytes (v : Int) (n : Nat) : Bs (dig v n) := by
  induction n with
  | zero => intro x hx; cases hx
  | succ n ih =>
    intro x hx
    rcases List.mem_cons.1 hx with rfl | hx
    · unfold IsB; omega
    · exact ih x hx
theorem layF_bytes {v : Int} {n : Nat} (h : Fits v n) (v0 : 0 ≤ v) : Bs (layF v n) := by
  cases n with
  | zero => intro x hx; simp [layF, dig] at hx
  | succ m =>
    obtain ⟨h1, h2, -, -⟩ := sz_mark v m (m + 1) rfl h v0
    have e : layF v (m + 1) = (v / 256 ^ m % 256 + markF (m + 1)) :: dig v m := rfl
    rw [e]
    have hm : 0 ≤ markF (m + 1) ∧ markF (m + 1) ≤ 192 := by unfold markF; (repeat' split) <;> omega
    intro x hx
    rcases List.mem_cons.1 hx with rfl | hx
    · unfold IsB
      generalize v / 256 ^ m = q at *
      omega
    · exact dig_bytes v m x hx
theorem encN_bytes {v : Int} (v0 : 0 ≤ v) (v1 : v ≤ MAXN) : Bs (encN v) := layF_bytes (fits_size v v1) v0
theorem encL_bytes {n : List Int} (h : ∀ v ∈ n, 0 ≤ v ∧ v ≤ MAXN) : Bs (encL n) := fun x hx => by
  obtain ⟨v, hv, hx⟩ := List.mem_flatMap.1 hx
  exact encN_bytes (h v hv).1 (h v hv).2 x hx
theorem Bs.app {a b : List Int} (h : Bs a) (k : Bs b) : Bs (a ++ b) := fun x hx => (List.mem_append.1 hx).elim (h x) (k x)

theorem numF_read {l l1 : List Int} {v : Int} (hb : Bs l) (h : numF l = some (v, l1)) : 0 ≤ v ∧ v ≤ MAXN ∧ (encN v).length + l1.length ≤ l.length ∧ 1 ≤ (encN v).length ∧ Bs l1 := by
  obtain ⟨n, rfl, h1, h2, h3, h4, h5, h6⟩ := numF_some hb h
  refine ⟨h3, h4, ?_, by rw [encN_length]; exact h6, hb.drop n⟩
  rw [encN_length, List.length_drop]; omega

theorem runF_read {l l1 : List Int} {hi : Int} {r : Int × Int} (hb : Bs l) (h : runF hi l = .inl (r, l1)) : 0 ≤ hi ∧ r.2 = hi ∧ 0 ≤ r.1 ∧ r.1 ≤ r.2 ∧ (encN (r.2 - r.1)).length + l1.length ≤ l.length ∧ 1 ≤ (encN (r.2 - r.1)).length ∧ Bs l1 := by
  unfold runF at h
  split at h
  · cases h
  · split at h
    · cases h
    · rename_i less l2 hn
      split at h
      · cases h
      · simp only [Sum.inl.injEq, Prod.mk.injEq] at h
        obtain ⟨rfl, rfl⟩ := h
        obtain ⟨a, b, c, d, e⟩ := numF_read hb hn
        have e1 : hi - (hi - less) = less := by omega
        simp only [e1]
        exact ⟨by omega, by first | rfl | trivial, by omega, by omega, c, d, e⟩

theorem moreF_read : ∀ (n : Nat) (lo : Int) (l : List Int) (rs : List (Int × Int)) (l' : List Int), Bs l → lo ≤ MAXN → moreF n lo l = .inl (rs, l') →
    fallF (lo - 2) rs = true ∧ rs.length = n ∧ (encL (gapsF lo rs)).length + l'.length ≤ l.length ∧ rs.length + l'.length ≤ l.length ∧ Bs l' := by
  intro n
  induction n with
  | zero =>
    intro lo l rs l' hb hl h
    simp only [moreF, Sum.inl.injEq, Prod.mk.injEq] at h
    obtain ⟨rfl, rfl⟩ := h
    exact ⟨rfl, rfl, by simp [gapsF, encL], by simp, hb⟩
  | succ n ih =>
    intro lo l rs l' hb hl h
    simp only [moreF] at h
    split at h
    · cases h
    · rename_i gap l1 hn
      obtain ⟨a1, a2, a3, a4, a5⟩ := numF_read hb hn
      split at h
      · cases h
      · rename_i r l2 hr
        obtain ⟨b1, b2, b3, b4, b5, b6, b7⟩ := runF_read a5 hr
        split at h
        · cases h
        · rename_i rs' l3 hm
          simp only [Sum.inl.injEq, Prod.mk.injEq] at h
          obtain ⟨rfl, rfl⟩ := h
          obtain ⟨c1, c2, c3, c4, c5⟩ := ih r.1 l2 rs' l3 b7 (by omega) hm
          have e1 : lo - r.2 - 2 = gap := by omega
          refine ⟨?_, by simp [c2], ?_, by simp; omega, c5⟩
          · simp only [fallF, Bool.and_eq_true, decide_eq_true_eq]
            exact ⟨⟨⟨b3, b4⟩, by omega⟩, c1⟩
          · simp only [gapsF, e1, encL, List.flatMap_cons, List.length_append] at c3 ⊢
            omega

theorem runsF_read {hi : Int} {l l' : List Int} {rs : List (Int × Int)} (hb : Bs l) (hh : hi ≤ MAXN) (h : runsF hi l = .inl (rs, l')) :
    areF rs = true ∧ (rs.headD (0, 0)).2 = hi ∧ (encL (runsN rs)).length + l'.length ≤ l.length ∧ rs.length + l'.length ≤ l.length ∧ Bs l' ∧ 0 ≤ hi := by
  unfold runsF at h
  split at h
  · cases h
  · rename_i n l1 hn
    obtain ⟨a1, a2, a3, a4, a5⟩ := numF_read hb hn
    split at h
    · cases h
    · rename_i r l2 hr
      obtain ⟨b1, b2, b3, b4, b5, b6, b7⟩ := runF_read a5 hr
      split at h
      · cases h
      · rename_i rs' l3 hm
        simp only [Sum.inl.injEq, Prod.mk.injEq] at h
        obtain ⟨rfl, rfl⟩ := h
        obtain ⟨c1, c2, c3, c4, c5⟩ := moreF_read n.toNat r.1 l2 rs' l3 b7 (by omega) hm
        have e1 : (rs'.length : Int) = n := by omega
        refine ⟨?_, by simp [b2], ?_, by simp; omega, c5, b1⟩
        · simp only [areF, fallF, Bool.and_eq_true, decide_eq_true_eq]
          exact ⟨⟨⟨⟨b3, b4⟩, by omega⟩, c1⟩, by simp⟩
        · simp only [runsN, e1, encL, List.flatMap_cons, List.length_append] at c3 ⊢
          omega

theorem Bs.take {l : List Int} (h : Bs l) (n : Nat) : Bs (l.take n) := fun x hx => h x (List.mem_of_mem_take hx)
theorem bytesF_read {off n : Int} {l d l' : List Int} (hn : 0 ≤ n) (h : bytesF off n l = .inl (d, l')) : (d.length : Int) = n ∧ n ≤ MAXN - off ∧ d.length + l'.length = l.length ∧ l' = l.drop n.toNat ∧ d = l.take n.toNat := by
  unfold bytesF at h
  split at h
  · cases h
  · split at h
    · cases h
    · simp only [Sum.inl.injEq, Prod.mk.injEq] at h
      obtain ⟨rfl, rfl⟩ := h
      refine ⟨?_, by omega, ?_, rfl, rfl⟩ <;> simp <;> omega

section
variable {g g' : Fr} {l l' : List Int}
theorem read_num {p : Nat} (hp : p = 1 ∨ p = 2 ∨ p = 3 ∨ p = 4 ∨ p = 5 ∨ p = 6 ∨ p = 7) (hb : Bs l) (h : readP p g l = .inl (g', l')) : ∃ v, g' = setF g p v ∧ 0 ≤ v ∧ v ≤ mostF p ∧ v ≤ MAXN ∧ (encN v).length + l'.length ≤ l.length ∧ Bs l' := by
  have r : readP p g l = match numF l with | none => .inr 40 | some (v, l1) => if v > mostF p then .inr 42 else .inl (setF g p v, l1) := by
    rcases hp with rfl | rfl | rfl | rfl | rfl | rfl | rfl <;> rfl
  rw [r] at h
  split at h
  · cases h
  · rename_i v l1 hn
    split at h
    · cases h
    · simp only [Sum.inl.injEq, Prod.mk.injEq] at h
      obtain ⟨rfl, rfl⟩ := h
      obtain ⟨a1, a2, a3, a4, a5⟩ := numF_read hb hn
      exact ⟨v, rfl, a1, by omega, a2, a3, a5⟩
theorem read_8 (hb : Bs l) (h : readP 8 g l = .inl (g', l')) : ∃ v, g' = { g with runs := [(0, v)] } ∧ 0 ≤ v ∧ v ≤ MAXN ∧ (encN v).length + l'.length ≤ l.length ∧ Bs l' := by
  have r : readP 8 g l = match numF l with | none => .inr 40 | some (v, l1) => .inl ({ g with runs := [(0, v)] }, l1) := rfl
  rw [r] at h
  split at h
  · cases h
  · rename_i v l1 hn
    simp only [Sum.inl.injEq, Prod.mk.injEq] at h
    obtain ⟨rfl, rfl⟩ := h
    obtain ⟨a1, a2, a3, a4, a5⟩ := numF_read hb hn
    exact ⟨v, rfl, a1, a2, a3, a5⟩
theorem read_9 (hb : Bs l) (hh : (g.runs.headD (0, 0)).2 ≤ MAXN) (h : readP 9 g l = .inl (g', l')) : ∃ rs, g' = { g with runs := rs } ∧ areF rs = true ∧ (rs.headD (0, 0)).2 = (g.runs.headD (0, 0)).2 ∧ (encL (runsN rs)).length + l'.length ≤ l.length ∧ rs.length + l'.length ≤ l.length ∧ Bs l' := by
  have r : readP 9 g l = match runsF (g.runs.headD (0, 0)).2 l with | .inr e => .inr e | .inl (rs, l1) => .inl ({ g with runs := rs }, l1) := rfl
  rw [r] at h
  split at h
  · cases h
  · rename_i rs l1 hn
    simp only [Sum.inl.injEq, Prod.mk.injEq] at h
    obtain ⟨rfl, rfl⟩ := h
    obtain ⟨a1, a2, a3, a4, a5, a6⟩ := runsF_read hb hh hn
    exact ⟨rs, rfl, a1, a2, a3, a4, a5⟩
theorem read_10 (hb : Bs l) (h : readP 10 g l = .inl (g', l')) : ∃ a b c, g' = { g with c0 := a, c1 := b, c2 := c } ∧ (0 ≤ a ∧ a ≤ MAXN) ∧ (0 ≤ b ∧ b ≤ MAXN) ∧ (0 ≤ c ∧ c ≤ MAXN) ∧ (encN a).length + (encN b).length + (encN c).length + l'.length ≤ l.length := by
  have r : readP 10 g l = match numF l with
    | none => .inr 40
    | some (a, l1) => match numF l1 with
      | none => .inr 40
      | some (b, l2) => match numF l2 with
        | none => .inr 40
        | some (c, l3) => .inl ({ g with c0 := a, c1 := b, c2 := c }, l3) := rfl
  rw [r] at h
  split at h
  · cases h
  · rename_i a l1 h1
    split at h
    · cases h
    · rename_i b l2 h2
      split at h
      · cases h
      · rename_i c l3 h3
        simp only [Sum.inl.injEq, Prod.mk.injEq] at h
        obtain ⟨rfl, rfl⟩ := h
        obtain ⟨a1, a2, a3, a4, a5⟩ := numF_read hb h1
        obtain ⟨b1, b2, b3, b4, b5⟩ := numF_read a5 h2
        obtain ⟨c1, c2, c3, c4, c5⟩ := numF_read b5 h3
        exact ⟨a, b, c, rfl, ⟨a1, a2⟩, ⟨b1, b2⟩, ⟨c1, c2⟩, by omega⟩
theorem read_11 (hb : Bs l) (h : readP 11 g l = .inl (g', l')) : ∃ d : List Int, g' = { g with data := d } ∧ (d.length : Int) ≤ MAXN - g.offset ∧ (encN (d.length : Int)).length + d.length + l'.length ≤ l.length ∧ Bs d := by
  have r : readP 11 g l = match numF l with
    | none => .inr 40
    | some (n, l1) => match bytesF g.offset n l1 with | .inr e => .inr e | .inl (d, l2) => .inl ({ g with data := d }, l2) := rfl
  rw [r] at h
  split at h
  · cases h
  · rename_i n l1 h1
    obtain ⟨a1, a2, a3, a4, a5⟩ := numF_read hb h1
    split at h
    · cases h
    · rename_i d l2 h2
      simp only [Sum.inl.injEq, Prod.mk.injEq] at h
      obtain ⟨rfl, rfl⟩ := h
      obtain ⟨b1, b2, b3, -, b5⟩ := bytesF_read a1 h2
      exact ⟨d, rfl, by omega, by rw [b1]; omega, by rw [b5]; exact a5.take _⟩
theorem read_12 (hb : Bs l) (h : readP 12 g l = .inl (g', l')) : ∃ d : List Int, g' = { g with data := d } ∧ (d.length : Int) ≤ MAXN - g.offset ∧ d.length + l'.length ≤ l.length ∧ Bs d := by
  have r : readP 12 g l = match bytesF g.offset l.length l with | .inr e => .inr e | .inl (d, l2) => .inl ({ g with data := d }, l2) := rfl
  rw [r] at h
  split at h
  · cases h
  · rename_i d l2 h2
    simp only [Sum.inl.injEq, Prod.mk.injEq] at h
    obtain ⟨rfl, rfl⟩ := h
    obtain ⟨b1, b2, b3, -, b5⟩ := bytesF_read (by omega) h2
    exact ⟨d, rfl, by omega, by omega, by rw [b5]; exact hb.take _⟩
theorem read_13 (hb : Bs l) (h : readP 13 g l = .inl (g', l')) : ∃ d : List Int, g' = { g with data := d } ∧ d.length = 8 ∧ d.length + l'.length ≤ l.length ∧ Bs d := by
  have r : readP 13 g l = match bytesF 0 8 l with | .inr e => .inr e | .inl (d, l2) => .inl ({ g with data := d }, l2) := rfl
  rw [r] at h
  split at h
  · cases h
  · rename_i d l2 h2
    simp only [Sum.inl.injEq, Prod.mk.injEq] at h
    obtain ⟨rfl, rfl⟩ := h
    obtain ⟨b1, b2, b3, -, b5⟩ := bytesF_read (by omega) h2
    exact ⟨d, rfl, by omega, by omega, by rw [b5]; exact hb.take _⟩
theorem zrs_le : ∀ (m : Nat) (l : List Int), zrs m l ≤ m ∧ zrs m l ≤ l.length := by
  intro m
  induction m with
  | zero => intro l; simp [zrs]
  | succ m ih =>
    intro l
    cases l with
    | nil => simp [zrs]
    | cons x l =>
      have := ih l
      simp only [zrs]
      split <;> simp <;> omega
theorem read_14 (h : readP 14 g l = .inl (g', l')) : ∃ z : Nat, g' = { g with size := (z : Int) + 1 } ∧ z ≤ 65534 ∧ z + l'.length ≤ l.length := by
  have r : readP 14 g l = .inl ({ g with size := (zrs 65534 l : Int) + 1 }, l.drop (zrs 65534 l)) := rfl
  rw [r] at h
  simp only [Sum.inl.injEq, Prod.mk.injEq] at h
  obtain ⟨rfl, rfl⟩ := h
  obtain ⟨h1, h2⟩ := zrs_le 65534 l
  exact ⟨_, rfl, h1, by simp; omega⟩
theorem read_0 (h : readP 0 g l = .inl (g', l')) : g' = g ∧ l' = l := by
  have r : readP 0 g l = .inl (g, l) := rfl
  rw [r] at h
  simp only [Sum.inl.injEq, Prod.mk.injEq] at h
  exact ⟨h.1.symm, h.2.symm⟩
end

theorem bind_inl {x : (Fr × List Int) ⊕ Int} {k : Fr → List Int → (Fr × List Int) ⊕ Int} {y : Fr × List Int} (h : bind' x k = .inl y) : ∃ f l, x = .inl (f, l) ∧ k f l = .inl y := by
  unfold bind' at h
  split at h
  · cases h
  · exact ⟨_, _, rfl, h⟩
theorem readPs_inl {p : Parts} {f : Fr} {l : List Int} {y : Fr × List Int} (h : readPs p f l = .inl y) : ∃ f1 l1 f2 l2 f3 l3, readP p.1 f l = .inl (f1, l1) ∧ readP p.2.1 f1 l1 = .inl (f2, l2) ∧ readP p.2.2.1 f2 l2 = .inl (f3, l3) ∧ readP p.2.2.2 f3 l3 = .inl y := by
  unfold readPs at h
  obtain ⟨f1, l1, h1, h⟩ := bind_inl h
  obtain ⟨f2, l2, h2, h⟩ := bind_inl h
  obtain ⟨f3, l3, h3, h⟩ := bind_inl h
  exact ⟨f1, l1, f2, l2, f3, l3, h1, h2, h3, h⟩

/-- What is told of a frame of a type. -/
theorem tell_of {f bare : Fr} {l : Parts} (hk : isKindF f.kind = true) (hs : shapeF (typeF f) = some (bare, l)) (hm : mayF f bare l = true) : tellF f = .inl (typeF f :: (numsP f l.1 ++ numsP f l.2.1 ++ numsP f l.2.2.1 ++ numsP f l.2.2.2), restF f l.1 f.data) := by
  unfold tellF
  rw [if_pos hk, hs]
  simp only
  rw [if_pos hm]
theorem size_one {k : Int} (h0 : 0 ≤ k) (h : k ≤ 63) : (encN k).length = 1 := by
  rw [encN_length]; unfold sizeF; (repeat' split) <;> omega
end Go.Proofs.Ytggjeamondampaa

namespace Go.Proofs.Ytggjeamondampaa
open Go.RowKit
set_option linter.unusedVariables false
set_option linter.unusedSimpArgs false
set_option maxRecDepth 100000
set_option maxHeartbeats 4000000

def ReadP (f : Fr) (l l' : List Int) : Prop := ∃ n rs, tellF f = .inl (n, rs) ∧ (encL n).length + rs.length + l'.length ≤ l.length + 1 ∧ 1 ≤ (encL n).length ∧ f.runs.length ≤ l.length ∧ Bs f.data
theorem readP_mk {f bare : Fr} {l l' : List Int} {p : Parts} {k : Int} (hk : isKindF f.kind = true) (ht : typeF f = k) (h0 : 0 ≤ k ∧ k ≤ 63) (hs : shapeF k = some (bare, p)) (hm : mayF f bare p = true)
    (hl : (encL (numsP f p.1 ++ numsP f p.2.1 ++ numsP f p.2.2.1 ++ numsP f p.2.2.2)).length + (restF f p.1 f.data).length + l'.length ≤ l.length) (hr : f.runs.length ≤ l.length) (hd : Bs f.data) : ReadP f l l' := by
  refine ⟨_, _, tell_of hk (ht ▸ hs) hm, ?_, ?_, hr, hd⟩
  · rw [ht]
    simp only [encL, List.flatMap_cons, List.length_append, size_one h0.1 h0.2] at hl ⊢
    omega
  · rw [ht]
    simp only [encL, List.flatMap_cons, List.length_append, size_one h0.1 h0.2]
    omega
theorem setZ {f : Fr} : True := trivial
theorem read_t0 {l l' : List Int} {f : Fr} (hb : Bs l) (h : readPs (14, 0, 0, 0) { Fr.zero with kind := 0 } l = .inl (f, l')) : ReadP f l l' := by
  obtain ⟨f1, l1, f2, l2, f3, l3, h1, h2, h3, h4⟩ := readPs_inl h
  simp only at h1 h2 h3 h4
  clear h
  obtain ⟨z, rfl, a1, d1⟩ := read_14 h1
  obtain ⟨rfl, rfl⟩ := read_0 h2
  obtain ⟨rfl, rfl⟩ := read_0 h3
  obtain ⟨rfl, rfl⟩ := read_0 h4
  show ReadP ({ Fr.zero with kind := 0, size := (z : Int) + 1 } : Fr) _ _
  refine readP_mk (k := 0) (bare := ({ Fr.zero with kind := 0 } : Fr)) (p := (14, 0, 0, 0)) rfl (rfl) (by omega) rfl ?_ ?_ ?_ (by first | exact bd | (intro x hx; cases hx))
  · simp [mayF, fitsF, takeF, bareF, setF, fieldF, numb, mostF, Fr.zero, MAXN] at *; first | done | omega | (simp_all; done) | (simp_all; omega)
  · simp [numsP, restF, encL, fieldF, runsN, Fr.zero] at *; first | done | omega | (simp_all; done) | (simp_all; omega)
  · simp [Fr.zero] at *; first | done | omega | (simp_all; omega)

theorem read_t1 {l l' : List Int} {f : Fr} (hb : Bs l) (h : readPs (0, 0, 0, 0) { Fr.zero with kind := 1 } l = .inl (f, l')) : ReadP f l l' := by
  obtain ⟨f1, l1, f2, l2, f3, l3, h1, h2, h3, h4⟩ := readPs_inl h
  simp only at h1 h2 h3 h4
  clear h
  obtain ⟨rfl, rfl⟩ := read_0 h1
  obtain ⟨rfl, rfl⟩ := read_0 h2
  obtain ⟨rfl, rfl⟩ := read_0 h3
  obtain ⟨rfl, rfl⟩ := read_0 h4
  show ReadP ({ Fr.zero with kind := 1 } : Fr) _ _
  refine readP_mk (k := 1) (bare := ({ Fr.zero with kind := 1 } : Fr)) (p := (0, 0, 0, 0)) rfl (rfl) (by omega) rfl ?_ ?_ ?_ (by first | exact bd | (intro x hx; cases hx))
  · simp [mayF, fitsF, takeF, bareF, setF, fieldF, numb, mostF, Fr.zero, MAXN] at *; first | done | omega | (simp_all; done) | (simp_all; omega)
  · simp [numsP, restF, encL, fieldF, runsN, Fr.zero] at *; first | done | omega | (simp_all; done) | (simp_all; omega)
  · simp [Fr.zero] at *; first | done | omega | (simp_all; omega)

theorem read_t30 {l l' : List Int} {f : Fr} (hb : Bs l) (h : readPs (0, 0, 0, 0) { Fr.zero with kind := 30 } l = .inl (f, l')) : ReadP f l l' := by
  obtain ⟨f1, l1, f2, l2, f3, l3, h1, h2, h3, h4⟩ := readPs_inl h
  simp only at h1 h2 h3 h4
  clear h
  obtain ⟨rfl, rfl⟩ := read_0 h1
  obtain ⟨rfl, rfl⟩ := read_0 h2
  obtain ⟨rfl, rfl⟩ := read_0 h3
  obtain ⟨rfl, rfl⟩ := read_0 h4
  show ReadP ({ Fr.zero with kind := 30 } : Fr) _ _
  refine readP_mk (k := 30) (bare := ({ Fr.zero with kind := 30 } : Fr)) (p := (0, 0, 0, 0)) rfl (rfl) (by omega) rfl ?_ ?_ ?_ (by first | exact bd | (intro x hx; cases hx))
  · simp [mayF, fitsF, takeF, bareF, setF, fieldF, numb, mostF, Fr.zero, MAXN] at *; first | done | omega | (simp_all; done) | (simp_all; omega)
  · simp [numsP, restF, encL, fieldF, runsN, Fr.zero] at *; first | done | omega | (simp_all; done) | (simp_all; omega)
  · simp [Fr.zero] at *; first | done | omega | (simp_all; omega)

theorem read_t2 {l l' : List Int} {f : Fr} (hb : Bs l) (h : readPs (8, 7, 9, 0) { Fr.zero with kind := 2 } l = .inl (f, l')) : ReadP f l l' := by
  obtain ⟨f1, l1, f2, l2, f3, l3, h1, h2, h3, h4⟩ := readPs_inl h
  simp only at h1 h2 h3 h4
  clear h
  obtain ⟨v1, rfl, a1, c1, d1, e1⟩ := read_8 hb h1
  obtain ⟨v2, rfl, a2, b2, c2, d2, e2⟩ := read_num (by decide) e1 h2
  obtain ⟨r3, rfl, a3, b3, c3, d3, e3⟩ := read_9 e2 (by simpa [setF] using c1) h3
  have b9 : (r3.headD (0, 0)).2 = v1 := by simpa [setF] using b3
  obtain ⟨rfl, rfl⟩ := read_0 h4
  show ReadP ({ Fr.zero with kind := 2, delay := v2, runs := r3 } : Fr) _ _
  refine readP_mk (k := 2) (bare := ({ Fr.zero with kind := 2 } : Fr)) (p := (8, 7, 9, 0)) rfl (rfl) (by omega) rfl ?_ ?_ ?_ (by first | exact bd | (intro x hx; cases hx))
  · have hb9 : areF r3 = true := a3
    unfold MAXN at *
    simp [mayF, fitsF, takeF, bareF, setF, fieldF, numb, mostF, Fr.zero, hb9, MAXN]
    omega
  · simp only [encL] at c3
    simp [numsP, restF, encL, fieldF, Fr.zero, -List.headD_eq_head?_getD, -List.length_flatMap, b9]
    omega
  · simp [Fr.zero]
    omega

theorem read_t3 {l l' : List Int} {f : Fr} (hb : Bs l) (h : readPs (8, 7, 9, 10) { Fr.zero with kind := 2, marks := true } l = .inl (f, l')) : ReadP f l l' := by
  obtain ⟨f1, l1, f2, l2, f3, l3, h1, h2, h3, h4⟩ := readPs_inl h
  simp only at h1 h2 h3 h4
  clear h
  obtain ⟨v1, rfl, a1, c1, d1, e1⟩ := read_8 hb h1
  obtain ⟨v2, rfl, a2, b2, c2, d2, e2⟩ := read_num (by decide) e1 h2
  obtain ⟨r3, rfl, a3, b3, c3, d3, e3⟩ := read_9 e2 (by simpa [setF] using c1) h3
  have b9 : (r3.headD (0, 0)).2 = v1 := by simpa [setF] using b3
  obtain ⟨x0, x1, x2, rfl, a4, b4, c4, d4⟩ := read_10 e3 h4
  show ReadP ({ Fr.zero with kind := 2, marks := true, delay := v2, runs := r3, c0 := x0, c1 := x1, c2 := x2 } : Fr) _ _
  refine readP_mk (k := 3) (bare := ({ Fr.zero with kind := 2, marks := true } : Fr)) (p := (8, 7, 9, 10)) rfl (rfl) (by omega) rfl ?_ ?_ ?_ (by first | exact bd | (intro x hx; cases hx))
  · have hb9 : areF r3 = true := a3
    unfold MAXN at *
    simp [mayF, fitsF, takeF, bareF, setF, fieldF, numb, mostF, Fr.zero, hb9, MAXN]
    omega
  · simp only [encL] at c3
    simp [numsP, restF, encL, fieldF, Fr.zero, -List.headD_eq_head?_getD, -List.length_flatMap, b9]
    omega
  · simp [Fr.zero]
    omega

theorem read_t4 {l l' : List Int} {f : Fr} (hb : Bs l) (h : readPs (1, 5, 6, 0) { Fr.zero with kind := 4 } l = .inl (f, l')) : ReadP f l l' := by
  obtain ⟨f1, l1, f2, l2, f3, l3, h1, h2, h3, h4⟩ := readPs_inl h
  simp only at h1 h2 h3 h4
  clear h
  obtain ⟨v1, rfl, a1, b1, c1, d1, e1⟩ := read_num (by decide) hb h1
  obtain ⟨v2, rfl, a2, b2, c2, d2, e2⟩ := read_num (by decide) e1 h2
  obtain ⟨v3, rfl, a3, b3, c3, d3, e3⟩ := read_num (by decide) e2 h3
  obtain ⟨rfl, rfl⟩ := read_0 h4
  show ReadP ({ Fr.zero with kind := 4, stream := v1, code := v2, size := v3 } : Fr) _ _
  refine readP_mk (k := 4) (bare := ({ Fr.zero with kind := 4 } : Fr)) (p := (1, 5, 6, 0)) rfl (rfl) (by omega) rfl ?_ ?_ ?_ (by first | exact bd | (intro x hx; cases hx))
  · simp [mayF, fitsF, takeF, bareF, setF, fieldF, numb, mostF, Fr.zero, MAXN] at *; first | done | omega | (simp_all; done) | (simp_all; omega)
  · simp [numsP, restF, encL, fieldF, runsN, Fr.zero] at *; first | done | omega | (simp_all; done) | (simp_all; omega)
  · simp [Fr.zero] at *; first | done | omega | (simp_all; omega)

theorem read_t5 {l l' : List Int} {f : Fr} (hb : Bs l) (h : readPs (1, 5, 0, 0) { Fr.zero with kind := 5 } l = .inl (f, l')) : ReadP f l l' := by
  obtain ⟨f1, l1, f2, l2, f3, l3, h1, h2, h3, h4⟩ := readPs_inl h
  simp only at h1 h2 h3 h4
  clear h
  obtain ⟨v1, rfl, a1, b1, c1, d1, e1⟩ := read_num (by decide) hb h1
  obtain ⟨v2, rfl, a2, b2, c2, d2, e2⟩ := read_num (by decide) e1 h2
  obtain ⟨rfl, rfl⟩ := read_0 h3
  obtain ⟨rfl, rfl⟩ := read_0 h4
  show ReadP ({ Fr.zero with kind := 5, stream := v1, code := v2 } : Fr) _ _
  refine readP_mk (k := 5) (bare := ({ Fr.zero with kind := 5 } : Fr)) (p := (1, 5, 0, 0)) rfl (rfl) (by omega) rfl ?_ ?_ ?_ (by first | exact bd | (intro x hx; cases hx))
  · simp [mayF, fitsF, takeF, bareF, setF, fieldF, numb, mostF, Fr.zero, MAXN] at *; first | done | omega | (simp_all; done) | (simp_all; omega)
  · simp [numsP, restF, encL, fieldF, runsN, Fr.zero] at *; first | done | omega | (simp_all; done) | (simp_all; omega)
  · simp [Fr.zero] at *; first | done | omega | (simp_all; omega)

theorem read_t6 {l l' : List Int} {f : Fr} (hb : Bs l) (h : readPs (2, 11, 0, 0) { Fr.zero with kind := 6 } l = .inl (f, l')) : ReadP f l l' := by
  obtain ⟨f1, l1, f2, l2, f3, l3, h1, h2, h3, h4⟩ := readPs_inl h
  simp only at h1 h2 h3 h4
  clear h
  obtain ⟨v1, rfl, a1, b1, c1, d1, e1⟩ := read_num (by decide) hb h1
  obtain ⟨d, rfl, a2, d2, bd⟩ := read_11 e1 h2
  obtain ⟨rfl, rfl⟩ := read_0 h3
  obtain ⟨rfl, rfl⟩ := read_0 h4
  show ReadP ({ Fr.zero with kind := 6, offset := v1, data := d } : Fr) _ _
  refine readP_mk (k := 6) (bare := ({ Fr.zero with kind := 6 } : Fr)) (p := (2, 11, 0, 0)) rfl (rfl) (by omega) rfl ?_ ?_ ?_ (by first | exact bd | (intro x hx; cases hx))
  · simp [mayF, fitsF, takeF, bareF, setF, fieldF, numb, mostF, Fr.zero, MAXN] at *; first | done | omega | (simp_all; done) | (simp_all; omega)
  · simp [numsP, restF, encL, fieldF, runsN, Fr.zero] at *; first | done | omega | (simp_all; done) | (simp_all; omega)
  · simp [Fr.zero] at *; first | done | omega | (simp_all; omega)

theorem read_t8 {l l' : List Int} {f : Fr} (hb : Bs l) (h : readPs (1, 0, 12, 0) { Fr.zero with kind := 8, fin := false, tail := true } l = .inl (f, l')) : ReadP f l l' := by
  obtain ⟨f1, l1, f2, l2, f3, l3, h1, h2, h3, h4⟩ := readPs_inl h
  simp only at h1 h2 h3 h4
  clear h
  obtain ⟨v1, rfl, a1, b1, c1, d1, e1⟩ := read_num (by decide) hb h1
  obtain ⟨rfl, rfl⟩ := read_0 h2
  obtain ⟨d, rfl, a3, d3, bd⟩ := read_12 e1 h3
  obtain ⟨rfl, rfl⟩ := read_0 h4
  show ReadP ({ Fr.zero with kind := 8, fin := false, tail := true, stream := v1, data := d } : Fr) _ _
  refine readP_mk (k := 8) (bare := ({ Fr.zero with kind := 8, fin := false, tail := true } : Fr)) (p := (1, 0, 12, 0)) rfl (rfl) (by omega) rfl ?_ ?_ ?_ (by first | exact bd | (intro x hx; cases hx))
  · simp [mayF, fitsF, takeF, bareF, setF, fieldF, numb, mostF, Fr.zero, MAXN] at *; first | done | omega | (simp_all; done) | (simp_all; omega)
  · simp [numsP, restF, encL, fieldF, runsN, Fr.zero] at *; first | done | omega | (simp_all; done) | (simp_all; omega)
  · simp [Fr.zero] at *; first | done | omega | (simp_all; omega)

theorem read_t9 {l l' : List Int} {f : Fr} (hb : Bs l) (h : readPs (1, 0, 12, 0) { Fr.zero with kind := 8, fin := true, tail := true } l = .inl (f, l')) : ReadP f l l' := by
  obtain ⟨f1, l1, f2, l2, f3, l3, h1, h2, h3, h4⟩ := readPs_inl h
  simp only at h1 h2 h3 h4
  clear h
  obtain ⟨v1, rfl, a1, b1, c1, d1, e1⟩ := read_num (by decide) hb h1
  obtain ⟨rfl, rfl⟩ := read_0 h2
  obtain ⟨d, rfl, a3, d3, bd⟩ := read_12 e1 h3
  obtain ⟨rfl, rfl⟩ := read_0 h4
  show ReadP ({ Fr.zero with kind := 8, fin := true, tail := true, stream := v1, data := d } : Fr) _ _
  refine readP_mk (k := 9) (bare := ({ Fr.zero with kind := 8, fin := true, tail := true } : Fr)) (p := (1, 0, 12, 0)) rfl (rfl) (by omega) rfl ?_ ?_ ?_ (by first | exact bd | (intro x hx; cases hx))
  · simp [mayF, fitsF, takeF, bareF, setF, fieldF, numb, mostF, Fr.zero, MAXN] at *; first | done | omega | (simp_all; done) | (simp_all; omega)
  · simp [numsP, restF, encL, fieldF, runsN, Fr.zero] at *; first | done | omega | (simp_all; done) | (simp_all; omega)
  · simp [Fr.zero] at *; first | done | omega | (simp_all; omega)

theorem read_t10 {l l' : List Int} {f : Fr} (hb : Bs l) (h : readPs (1, 0, 11, 0) { Fr.zero with kind := 8, fin := false, tail := false } l = .inl (f, l')) : ReadP f l l' := by
  obtain ⟨f1, l1, f2, l2, f3, l3, h1, h2, h3, h4⟩ := readPs_inl h
  simp only at h1 h2 h3 h4
  clear h
  obtain ⟨v1, rfl, a1, b1, c1, d1, e1⟩ := read_num (by decide) hb h1
  obtain ⟨rfl, rfl⟩ := read_0 h2
  obtain ⟨d, rfl, a3, d3, bd⟩ := read_11 e1 h3
  obtain ⟨rfl, rfl⟩ := read_0 h4
  show ReadP ({ Fr.zero with kind := 8, fin := false, tail := false, stream := v1, data := d } : Fr) _ _
  refine readP_mk (k := 10) (bare := ({ Fr.zero with kind := 8, fin := false, tail := false } : Fr)) (p := (1, 0, 11, 0)) rfl (rfl) (by omega) rfl ?_ ?_ ?_ (by first | exact bd | (intro x hx; cases hx))
  · simp [mayF, fitsF, takeF, bareF, setF, fieldF, numb, mostF, Fr.zero, MAXN] at *; first | done | omega | (simp_all; done) | (simp_all; omega)
  · simp [numsP, restF, encL, fieldF, runsN, Fr.zero] at *; first | done | omega | (simp_all; done) | (simp_all; omega)
  · simp [Fr.zero] at *; first | done | omega | (simp_all; omega)

theorem read_t11 {l l' : List Int} {f : Fr} (hb : Bs l) (h : readPs (1, 0, 11, 0) { Fr.zero with kind := 8, fin := true, tail := false } l = .inl (f, l')) : ReadP f l l' := by
  obtain ⟨f1, l1, f2, l2, f3, l3, h1, h2, h3, h4⟩ := readPs_inl h
  simp only at h1 h2 h3 h4
  clear h
  obtain ⟨v1, rfl, a1, b1, c1, d1, e1⟩ := read_num (by decide) hb h1
  obtain ⟨rfl, rfl⟩ := read_0 h2
  obtain ⟨d, rfl, a3, d3, bd⟩ := read_11 e1 h3
  obtain ⟨rfl, rfl⟩ := read_0 h4
  show ReadP ({ Fr.zero with kind := 8, fin := true, tail := false, stream := v1, data := d } : Fr) _ _
  refine readP_mk (k := 11) (bare := ({ Fr.zero with kind := 8, fin := true, tail := false } : Fr)) (p := (1, 0, 11, 0)) rfl (rfl) (by omega) rfl ?_ ?_ ?_ (by first | exact bd | (intro x hx; cases hx))
  · simp [mayF, fitsF, takeF, bareF, setF, fieldF, numb, mostF, Fr.zero, MAXN] at *; first | done | omega | (simp_all; done) | (simp_all; omega)
  · simp [numsP, restF, encL, fieldF, runsN, Fr.zero] at *; first | done | omega | (simp_all; done) | (simp_all; omega)
  · simp [Fr.zero] at *; first | done | omega | (simp_all; omega)

theorem read_t12 {l l' : List Int} {f : Fr} (hb : Bs l) (h : readPs (1, 2, 12, 0) { Fr.zero with kind := 8, fin := false, tail := true } l = .inl (f, l')) : ReadP f l l' := by
  obtain ⟨f1, l1, f2, l2, f3, l3, h1, h2, h3, h4⟩ := readPs_inl h
  simp only at h1 h2 h3 h4
  clear h
  obtain ⟨v1, rfl, a1, b1, c1, d1, e1⟩ := read_num (by decide) hb h1
  obtain ⟨v2, rfl, a2, b2, c2, d2, e2⟩ := read_num (by decide) e1 h2
  obtain ⟨d, rfl, a3, d3, bd⟩ := read_12 e2 h3
  obtain ⟨rfl, rfl⟩ := read_0 h4
  show ReadP ({ Fr.zero with kind := 8, fin := false, tail := true, stream := v1, offset := v2, data := d } : Fr) _ _
  by_cases hv : v2 = 0
  · subst hv
    refine readP_mk (k := 8) (bare := ({ Fr.zero with kind := 8, fin := false, tail := true } : Fr)) (p := (1, 0, 12, 0)) rfl (rfl) (by omega) rfl ?_ ?_ ?_ (by first | exact bd | (intro x hx; cases hx))
    · simp [mayF, fitsF, takeF, bareF, setF, fieldF, numb, mostF, Fr.zero, MAXN] at *; first | done | omega | (simp_all; done) | (simp_all; omega)
    · simp [numsP, restF, encL, fieldF, runsN, Fr.zero] at *; first | done | omega | (simp_all; done) | (simp_all; omega)
    · simp [Fr.zero] at *; first | done | omega | (simp_all; omega)
  · have hv2 : 0 < v2 := by omega
    refine readP_mk (k := 12) (bare := ({ Fr.zero with kind := 8, fin := false, tail := true } : Fr)) (p := (1, 2, 12, 0)) rfl (by simp [typeF, Fr.zero, one, hv2]) (by omega) rfl ?_ ?_ ?_ (by first | exact bd | (intro x hx; cases hx))
    · simp [mayF, fitsF, takeF, bareF, setF, fieldF, numb, mostF, Fr.zero, MAXN] at *; first | done | omega | (simp_all; done) | (simp_all; omega)
    · simp [numsP, restF, encL, fieldF, runsN, Fr.zero] at *; first | done | omega | (simp_all; done) | (simp_all; omega)
    · simp [Fr.zero] at *; first | done | omega | (simp_all; omega)

theorem read_t13 {l l' : List Int} {f : Fr} (hb : Bs l) (h : readPs (1, 2, 12, 0) { Fr.zero with kind := 8, fin := true, tail := true } l = .inl (f, l')) : ReadP f l l' := by
  obtain ⟨f1, l1, f2, l2, f3, l3, h1, h2, h3, h4⟩ := readPs_inl h
  simp only at h1 h2 h3 h4
  clear h
  obtain ⟨v1, rfl, a1, b1, c1, d1, e1⟩ := read_num (by decide) hb h1
  obtain ⟨v2, rfl, a2, b2, c2, d2, e2⟩ := read_num (by decide) e1 h2
  obtain ⟨d, rfl, a3, d3, bd⟩ := read_12 e2 h3
  obtain ⟨rfl, rfl⟩ := read_0 h4
  show ReadP ({ Fr.zero with kind := 8, fin := true, tail := true, stream := v1, offset := v2, data := d } : Fr) _ _
  by_cases hv : v2 = 0
  · subst hv
    refine readP_mk (k := 9) (bare := ({ Fr.zero with kind := 8, fin := true, tail := true } : Fr)) (p := (1, 0, 12, 0)) rfl (rfl) (by omega) rfl ?_ ?_ ?_ (by first | exact bd | (intro x hx; cases hx))
    · simp [mayF, fitsF, takeF, bareF, setF, fieldF, numb, mostF, Fr.zero, MAXN] at *; first | done | omega | (simp_all; done) | (simp_all; omega)
    · simp [numsP, restF, encL, fieldF, runsN, Fr.zero] at *; first | done | omega | (simp_all; done) | (simp_all; omega)
    · simp [Fr.zero] at *; first | done | omega | (simp_all; omega)
  · have hv2 : 0 < v2 := by omega
    refine readP_mk (k := 13) (bare := ({ Fr.zero with kind := 8, fin := true, tail := true } : Fr)) (p := (1, 2, 12, 0)) rfl (by simp [typeF, Fr.zero, one, hv2]) (by omega) rfl ?_ ?_ ?_ (by first | exact bd | (intro x hx; cases hx))
    · simp [mayF, fitsF, takeF, bareF, setF, fieldF, numb, mostF, Fr.zero, MAXN] at *; first | done | omega | (simp_all; done) | (simp_all; omega)
    · simp [numsP, restF, encL, fieldF, runsN, Fr.zero] at *; first | done | omega | (simp_all; done) | (simp_all; omega)
    · simp [Fr.zero] at *; first | done | omega | (simp_all; omega)

theorem read_t14 {l l' : List Int} {f : Fr} (hb : Bs l) (h : readPs (1, 2, 11, 0) { Fr.zero with kind := 8, fin := false, tail := false } l = .inl (f, l')) : ReadP f l l' := by
  obtain ⟨f1, l1, f2, l2, f3, l3, h1, h2, h3, h4⟩ := readPs_inl h
  simp only at h1 h2 h3 h4
  clear h
  obtain ⟨v1, rfl, a1, b1, c1, d1, e1⟩ := read_num (by decide) hb h1
  obtain ⟨v2, rfl, a2, b2, c2, d2, e2⟩ := read_num (by decide) e1 h2
  obtain ⟨d, rfl, a3, d3, bd⟩ := read_11 e2 h3
  obtain ⟨rfl, rfl⟩ := read_0 h4
  show ReadP ({ Fr.zero with kind := 8, fin := false, tail := false, stream := v1, offset := v2, data := d } : Fr) _ _
  by_cases hv : v2 = 0
  · subst hv
    refine readP_mk (k := 10) (bare := ({ Fr.zero with kind := 8, fin := false, tail := false } : Fr)) (p := (1, 0, 11, 0)) rfl (rfl) (by omega) rfl ?_ ?_ ?_ (by first | exact bd | (intro x hx; cases hx))
    · simp [mayF, fitsF, takeF, bareF, setF, fieldF, numb, mostF, Fr.zero, MAXN] at *; first | done | omega | (simp_all; done) | (simp_all; omega)
    · simp [numsP, restF, encL, fieldF, runsN, Fr.zero] at *; first | done | omega | (simp_all; done) | (simp_all; omega)
    · simp [Fr.zero] at *; first | done | omega | (simp_all; omega)
  · have hv2 : 0 < v2 := by omega
    refine readP_mk (k := 14) (bare := ({ Fr.zero with kind := 8, fin := false, tail := false } : Fr)) (p := (1, 2, 11, 0)) rfl (by simp [typeF, Fr.zero, one, hv2]) (by omega) rfl ?_ ?_ ?_ (by first | exact bd | (intro x hx; cases hx))
    · simp [mayF, fitsF, takeF, bareF, setF, fieldF, numb, mostF, Fr.zero, MAXN] at *; first | done | omega | (simp_all; done) | (simp_all; omega)
    · simp [numsP, restF, encL, fieldF, runsN, Fr.zero] at *; first | done | omega | (simp_all; done) | (simp_all; omega)
    · simp [Fr.zero] at *; first | done | omega | (simp_all; omega)

theorem read_t15 {l l' : List Int} {f : Fr} (hb : Bs l) (h : readPs (1, 2, 11, 0) { Fr.zero with kind := 8, fin := true, tail := false } l = .inl (f, l')) : ReadP f l l' := by
  obtain ⟨f1, l1, f2, l2, f3, l3, h1, h2, h3, h4⟩ := readPs_inl h
  simp only at h1 h2 h3 h4
  clear h
  obtain ⟨v1, rfl, a1, b1, c1, d1, e1⟩ := read_num (by decide) hb h1
  obtain ⟨v2, rfl, a2, b2, c2, d2, e2⟩ := read_num (by decide) e1 h2
  obtain ⟨d, rfl, a3, d3, bd⟩ := read_11 e2 h3
  obtain ⟨rfl, rfl⟩ := read_0 h4
  show ReadP ({ Fr.zero with kind := 8, fin := true, tail := false, stream := v1, offset := v2, data := d } : Fr) _ _
  by_cases hv : v2 = 0
  · subst hv
    refine readP_mk (k := 11) (bare := ({ Fr.zero with kind := 8, fin := true, tail := false } : Fr)) (p := (1, 0, 11, 0)) rfl (rfl) (by omega) rfl ?_ ?_ ?_ (by first | exact bd | (intro x hx; cases hx))
    · simp [mayF, fitsF, takeF, bareF, setF, fieldF, numb, mostF, Fr.zero, MAXN] at *; first | done | omega | (simp_all; done) | (simp_all; omega)
    · simp [numsP, restF, encL, fieldF, runsN, Fr.zero] at *; first | done | omega | (simp_all; done) | (simp_all; omega)
    · simp [Fr.zero] at *; first | done | omega | (simp_all; omega)
  · have hv2 : 0 < v2 := by omega
    refine readP_mk (k := 15) (bare := ({ Fr.zero with kind := 8, fin := true, tail := false } : Fr)) (p := (1, 2, 11, 0)) rfl (by simp [typeF, Fr.zero, one, hv2]) (by omega) rfl ?_ ?_ ?_ (by first | exact bd | (intro x hx; cases hx))
    · simp [mayF, fitsF, takeF, bareF, setF, fieldF, numb, mostF, Fr.zero, MAXN] at *; first | done | omega | (simp_all; done) | (simp_all; omega)
    · simp [numsP, restF, encL, fieldF, runsN, Fr.zero] at *; first | done | omega | (simp_all; done) | (simp_all; omega)
    · simp [Fr.zero] at *; first | done | omega | (simp_all; omega)

theorem read_t16 {l l' : List Int} {f : Fr} (hb : Bs l) (h : readPs (3, 0, 0, 0) { Fr.zero with kind := 16 } l = .inl (f, l')) : ReadP f l l' := by
  obtain ⟨f1, l1, f2, l2, f3, l3, h1, h2, h3, h4⟩ := readPs_inl h
  simp only at h1 h2 h3 h4
  clear h
  obtain ⟨v1, rfl, a1, b1, c1, d1, e1⟩ := read_num (by decide) hb h1
  obtain ⟨rfl, rfl⟩ := read_0 h2
  obtain ⟨rfl, rfl⟩ := read_0 h3
  obtain ⟨rfl, rfl⟩ := read_0 h4
  show ReadP ({ Fr.zero with kind := 16, limit := v1 } : Fr) _ _
  refine readP_mk (k := 16) (bare := ({ Fr.zero with kind := 16 } : Fr)) (p := (3, 0, 0, 0)) rfl (rfl) (by omega) rfl ?_ ?_ ?_ (by first | exact bd | (intro x hx; cases hx))
  · simp [mayF, fitsF, takeF, bareF, setF, fieldF, numb, mostF, Fr.zero, MAXN] at *; first | done | omega | (simp_all; done) | (simp_all; omega)
  · simp [numsP, restF, encL, fieldF, runsN, Fr.zero] at *; first | done | omega | (simp_all; done) | (simp_all; omega)
  · simp [Fr.zero] at *; first | done | omega | (simp_all; omega)

theorem read_t20 {l l' : List Int} {f : Fr} (hb : Bs l) (h : readPs (3, 0, 0, 0) { Fr.zero with kind := 20 } l = .inl (f, l')) : ReadP f l l' := by
  obtain ⟨f1, l1, f2, l2, f3, l3, h1, h2, h3, h4⟩ := readPs_inl h
  simp only at h1 h2 h3 h4
  clear h
  obtain ⟨v1, rfl, a1, b1, c1, d1, e1⟩ := read_num (by decide) hb h1
  obtain ⟨rfl, rfl⟩ := read_0 h2
  obtain ⟨rfl, rfl⟩ := read_0 h3
  obtain ⟨rfl, rfl⟩ := read_0 h4
  show ReadP ({ Fr.zero with kind := 20, limit := v1 } : Fr) _ _
  refine readP_mk (k := 20) (bare := ({ Fr.zero with kind := 20 } : Fr)) (p := (3, 0, 0, 0)) rfl (rfl) (by omega) rfl ?_ ?_ ?_ (by first | exact bd | (intro x hx; cases hx))
  · simp [mayF, fitsF, takeF, bareF, setF, fieldF, numb, mostF, Fr.zero, MAXN] at *; first | done | omega | (simp_all; done) | (simp_all; omega)
  · simp [numsP, restF, encL, fieldF, runsN, Fr.zero] at *; first | done | omega | (simp_all; done) | (simp_all; omega)
  · simp [Fr.zero] at *; first | done | omega | (simp_all; omega)

theorem read_t17 {l l' : List Int} {f : Fr} (hb : Bs l) (h : readPs (1, 3, 0, 0) { Fr.zero with kind := 17 } l = .inl (f, l')) : ReadP f l l' := by
  obtain ⟨f1, l1, f2, l2, f3, l3, h1, h2, h3, h4⟩ := readPs_inl h
  simp only at h1 h2 h3 h4
  clear h
  obtain ⟨v1, rfl, a1, b1, c1, d1, e1⟩ := read_num (by decide) hb h1
  obtain ⟨v2, rfl, a2, b2, c2, d2, e2⟩ := read_num (by decide) e1 h2
  obtain ⟨rfl, rfl⟩ := read_0 h3
  obtain ⟨rfl, rfl⟩ := read_0 h4
  show ReadP ({ Fr.zero with kind := 17, stream := v1, limit := v2 } : Fr) _ _
  refine readP_mk (k := 17) (bare := ({ Fr.zero with kind := 17 } : Fr)) (p := (1, 3, 0, 0)) rfl (rfl) (by omega) rfl ?_ ?_ ?_ (by first | exact bd | (intro x hx; cases hx))
  · simp [mayF, fitsF, takeF, bareF, setF, fieldF, numb, mostF, Fr.zero, MAXN] at *; first | done | omega | (simp_all; done) | (simp_all; omega)
  · simp [numsP, restF, encL, fieldF, runsN, Fr.zero] at *; first | done | omega | (simp_all; done) | (simp_all; omega)
  · simp [Fr.zero] at *; first | done | omega | (simp_all; omega)

theorem read_t21 {l l' : List Int} {f : Fr} (hb : Bs l) (h : readPs (1, 3, 0, 0) { Fr.zero with kind := 21 } l = .inl (f, l')) : ReadP f l l' := by
  obtain ⟨f1, l1, f2, l2, f3, l3, h1, h2, h3, h4⟩ := readPs_inl h
  simp only at h1 h2 h3 h4
  clear h
  obtain ⟨v1, rfl, a1, b1, c1, d1, e1⟩ := read_num (by decide) hb h1
  obtain ⟨v2, rfl, a2, b2, c2, d2, e2⟩ := read_num (by decide) e1 h2
  obtain ⟨rfl, rfl⟩ := read_0 h3
  obtain ⟨rfl, rfl⟩ := read_0 h4
  show ReadP ({ Fr.zero with kind := 21, stream := v1, limit := v2 } : Fr) _ _
  refine readP_mk (k := 21) (bare := ({ Fr.zero with kind := 21 } : Fr)) (p := (1, 3, 0, 0)) rfl (rfl) (by omega) rfl ?_ ?_ ?_ (by first | exact bd | (intro x hx; cases hx))
  · simp [mayF, fitsF, takeF, bareF, setF, fieldF, numb, mostF, Fr.zero, MAXN] at *; first | done | omega | (simp_all; done) | (simp_all; omega)
  · simp [numsP, restF, encL, fieldF, runsN, Fr.zero] at *; first | done | omega | (simp_all; done) | (simp_all; omega)
  · simp [Fr.zero] at *; first | done | omega | (simp_all; omega)

theorem read_t19 {l l' : List Int} {f : Fr} (hb : Bs l) (h : readPs (4, 0, 0, 0) { Fr.zero with kind := 18, uni := true } l = .inl (f, l')) : ReadP f l l' := by
  obtain ⟨f1, l1, f2, l2, f3, l3, h1, h2, h3, h4⟩ := readPs_inl h
  simp only at h1 h2 h3 h4
  clear h
  obtain ⟨v1, rfl, a1, b1, c1, d1, e1⟩ := read_num (by decide) hb h1
  obtain ⟨rfl, rfl⟩ := read_0 h2
  obtain ⟨rfl, rfl⟩ := read_0 h3
  obtain ⟨rfl, rfl⟩ := read_0 h4
  show ReadP ({ Fr.zero with kind := 18, uni := true, limit := v1 } : Fr) _ _
  refine readP_mk (k := 19) (bare := ({ Fr.zero with kind := 18, uni := true } : Fr)) (p := (4, 0, 0, 0)) rfl (rfl) (by omega) rfl ?_ ?_ ?_ (by first | exact bd | (intro x hx; cases hx))
  · simp [mayF, fitsF, takeF, bareF, setF, fieldF, numb, mostF, Fr.zero, MAXN] at *; first | done | omega | (simp_all; done) | (simp_all; omega)
  · simp [numsP, restF, encL, fieldF, runsN, Fr.zero] at *; first | done | omega | (simp_all; done) | (simp_all; omega)
  · simp [Fr.zero] at *; first | done | omega | (simp_all; omega)

theorem read_t23 {l l' : List Int} {f : Fr} (hb : Bs l) (h : readPs (4, 0, 0, 0) { Fr.zero with kind := 22, uni := true } l = .inl (f, l')) : ReadP f l l' := by
  obtain ⟨f1, l1, f2, l2, f3, l3, h1, h2, h3, h4⟩ := readPs_inl h
  simp only at h1 h2 h3 h4
  clear h
  obtain ⟨v1, rfl, a1, b1, c1, d1, e1⟩ := read_num (by decide) hb h1
  obtain ⟨rfl, rfl⟩ := read_0 h2
  obtain ⟨rfl, rfl⟩ := read_0 h3
  obtain ⟨rfl, rfl⟩ := read_0 h4
  show ReadP ({ Fr.zero with kind := 22, uni := true, limit := v1 } : Fr) _ _
  refine readP_mk (k := 23) (bare := ({ Fr.zero with kind := 22, uni := true } : Fr)) (p := (4, 0, 0, 0)) rfl (rfl) (by omega) rfl ?_ ?_ ?_ (by first | exact bd | (intro x hx; cases hx))
  · simp [mayF, fitsF, takeF, bareF, setF, fieldF, numb, mostF, Fr.zero, MAXN] at *; first | done | omega | (simp_all; done) | (simp_all; omega)
  · simp [numsP, restF, encL, fieldF, runsN, Fr.zero] at *; first | done | omega | (simp_all; done) | (simp_all; omega)
  · simp [Fr.zero] at *; first | done | omega | (simp_all; omega)

theorem read_t18 {l l' : List Int} {f : Fr} (hb : Bs l) (h : readPs (4, 0, 0, 0) { Fr.zero with kind := 18 } l = .inl (f, l')) : ReadP f l l' := by
  obtain ⟨f1, l1, f2, l2, f3, l3, h1, h2, h3, h4⟩ := readPs_inl h
  simp only at h1 h2 h3 h4
  clear h
  obtain ⟨v1, rfl, a1, b1, c1, d1, e1⟩ := read_num (by decide) hb h1
  obtain ⟨rfl, rfl⟩ := read_0 h2
  obtain ⟨rfl, rfl⟩ := read_0 h3
  obtain ⟨rfl, rfl⟩ := read_0 h4
  show ReadP ({ Fr.zero with kind := 18, limit := v1 } : Fr) _ _
  refine readP_mk (k := 18) (bare := ({ Fr.zero with kind := 18 } : Fr)) (p := (4, 0, 0, 0)) rfl (rfl) (by omega) rfl ?_ ?_ ?_ (by first | exact bd | (intro x hx; cases hx))
  · simp [mayF, fitsF, takeF, bareF, setF, fieldF, numb, mostF, Fr.zero, MAXN] at *; first | done | omega | (simp_all; done) | (simp_all; omega)
  · simp [numsP, restF, encL, fieldF, runsN, Fr.zero] at *; first | done | omega | (simp_all; done) | (simp_all; omega)
  · simp [Fr.zero] at *; first | done | omega | (simp_all; omega)

theorem read_t22 {l l' : List Int} {f : Fr} (hb : Bs l) (h : readPs (4, 0, 0, 0) { Fr.zero with kind := 22 } l = .inl (f, l')) : ReadP f l l' := by
  obtain ⟨f1, l1, f2, l2, f3, l3, h1, h2, h3, h4⟩ := readPs_inl h
  simp only at h1 h2 h3 h4
  clear h
  obtain ⟨v1, rfl, a1, b1, c1, d1, e1⟩ := read_num (by decide) hb h1
  obtain ⟨rfl, rfl⟩ := read_0 h2
  obtain ⟨rfl, rfl⟩ := read_0 h3
  obtain ⟨rfl, rfl⟩ := read_0 h4
  show ReadP ({ Fr.zero with kind := 22, limit := v1 } : Fr) _ _
  refine readP_mk (k := 22) (bare := ({ Fr.zero with kind := 22 } : Fr)) (p := (4, 0, 0, 0)) rfl (rfl) (by omega) rfl ?_ ?_ ?_ (by first | exact bd | (intro x hx; cases hx))
  · simp [mayF, fitsF, takeF, bareF, setF, fieldF, numb, mostF, Fr.zero, MAXN] at *; first | done | omega | (simp_all; done) | (simp_all; omega)
  · simp [numsP, restF, encL, fieldF, runsN, Fr.zero] at *; first | done | omega | (simp_all; done) | (simp_all; omega)
  · simp [Fr.zero] at *; first | done | omega | (simp_all; omega)

theorem read_t26 {l l' : List Int} {f : Fr} (hb : Bs l) (h : readPs (13, 0, 0, 0) { Fr.zero with kind := 26 } l = .inl (f, l')) : ReadP f l l' := by
  obtain ⟨f1, l1, f2, l2, f3, l3, h1, h2, h3, h4⟩ := readPs_inl h
  simp only at h1 h2 h3 h4
  clear h
  obtain ⟨d, rfl, a1, d1, bd⟩ := read_13 hb h1
  obtain ⟨rfl, rfl⟩ := read_0 h2
  obtain ⟨rfl, rfl⟩ := read_0 h3
  obtain ⟨rfl, rfl⟩ := read_0 h4
  show ReadP ({ Fr.zero with kind := 26, data := d } : Fr) _ _
  refine readP_mk (k := 26) (bare := ({ Fr.zero with kind := 26 } : Fr)) (p := (13, 0, 0, 0)) rfl (rfl) (by omega) rfl ?_ ?_ ?_ (by first | exact bd | (intro x hx; cases hx))
  · simp [mayF, fitsF, takeF, bareF, setF, fieldF, numb, mostF, Fr.zero, MAXN] at *; first | done | omega | (simp_all; done) | (simp_all; omega)
  · simp [numsP, restF, encL, fieldF, runsN, Fr.zero] at *; first | done | omega | (simp_all; done) | (simp_all; omega)
  · simp [Fr.zero] at *; first | done | omega | (simp_all; omega)

theorem read_t27 {l l' : List Int} {f : Fr} (hb : Bs l) (h : readPs (13, 0, 0, 0) { Fr.zero with kind := 27 } l = .inl (f, l')) : ReadP f l l' := by
  obtain ⟨f1, l1, f2, l2, f3, l3, h1, h2, h3, h4⟩ := readPs_inl h
  simp only at h1 h2 h3 h4
  clear h
  obtain ⟨d, rfl, a1, d1, bd⟩ := read_13 hb h1
  obtain ⟨rfl, rfl⟩ := read_0 h2
  obtain ⟨rfl, rfl⟩ := read_0 h3
  obtain ⟨rfl, rfl⟩ := read_0 h4
  show ReadP ({ Fr.zero with kind := 27, data := d } : Fr) _ _
  refine readP_mk (k := 27) (bare := ({ Fr.zero with kind := 27 } : Fr)) (p := (13, 0, 0, 0)) rfl (rfl) (by omega) rfl ?_ ?_ ?_ (by first | exact bd | (intro x hx; cases hx))
  · simp [mayF, fitsF, takeF, bareF, setF, fieldF, numb, mostF, Fr.zero, MAXN] at *; first | done | omega | (simp_all; done) | (simp_all; omega)
  · simp [numsP, restF, encL, fieldF, runsN, Fr.zero] at *; first | done | omega | (simp_all; done) | (simp_all; omega)
  · simp [Fr.zero] at *; first | done | omega | (simp_all; omega)

theorem read_t28 {l l' : List Int} {f : Fr} (hb : Bs l) (h : readPs (5, 6, 11, 0) { Fr.zero with kind := 28 } l = .inl (f, l')) : ReadP f l l' := by
  obtain ⟨f1, l1, f2, l2, f3, l3, h1, h2, h3, h4⟩ := readPs_inl h
  simp only at h1 h2 h3 h4
  clear h
  obtain ⟨v1, rfl, a1, b1, c1, d1, e1⟩ := read_num (by decide) hb h1
  obtain ⟨v2, rfl, a2, b2, c2, d2, e2⟩ := read_num (by decide) e1 h2
  obtain ⟨d, rfl, a3, d3, bd⟩ := read_11 e2 h3
  obtain ⟨rfl, rfl⟩ := read_0 h4
  show ReadP ({ Fr.zero with kind := 28, code := v1, size := v2, data := d } : Fr) _ _
  refine readP_mk (k := 28) (bare := ({ Fr.zero with kind := 28 } : Fr)) (p := (5, 6, 11, 0)) rfl (rfl) (by omega) rfl ?_ ?_ ?_ (by first | exact bd | (intro x hx; cases hx))
  · simp [mayF, fitsF, takeF, bareF, setF, fieldF, numb, mostF, Fr.zero, MAXN] at *; first | done | omega | (simp_all; done) | (simp_all; omega)
  · simp [numsP, restF, encL, fieldF, runsN, Fr.zero] at *; first | done | omega | (simp_all; done) | (simp_all; omega)
  · simp [Fr.zero] at *; first | done | omega | (simp_all; omega)

theorem read_t29 {l l' : List Int} {f : Fr} (hb : Bs l) (h : readPs (5, 11, 0, 0) { Fr.zero with kind := 28, own := true } l = .inl (f, l')) : ReadP f l l' := by
  obtain ⟨f1, l1, f2, l2, f3, l3, h1, h2, h3, h4⟩ := readPs_inl h
  simp only at h1 h2 h3 h4
  clear h
  obtain ⟨v1, rfl, a1, b1, c1, d1, e1⟩ := read_num (by decide) hb h1
  obtain ⟨d, rfl, a2, d2, bd⟩ := read_11 e1 h2
  obtain ⟨rfl, rfl⟩ := read_0 h3
  obtain ⟨rfl, rfl⟩ := read_0 h4
  show ReadP ({ Fr.zero with kind := 28, own := true, code := v1, data := d } : Fr) _ _
  refine readP_mk (k := 29) (bare := ({ Fr.zero with kind := 28, own := true } : Fr)) (p := (5, 11, 0, 0)) rfl (rfl) (by omega) rfl ?_ ?_ ?_ (by first | exact bd | (intro x hx; cases hx))
  · simp [mayF, fitsF, takeF, bareF, setF, fieldF, numb, mostF, Fr.zero, MAXN] at *; first | done | omega | (simp_all; done) | (simp_all; omega)
  · simp [numsP, restF, encL, fieldF, runsN, Fr.zero] at *; first | done | omega | (simp_all; done) | (simp_all; omega)
  · simp [Fr.zero] at *; first | done | omega | (simp_all; omega)

theorem read_pure {l l' : List Int} {f : Fr} (hb : Bs l) (h : decF l = .inl (f, l')) : ∃ n rs, tellF f = .inl (n, rs) ∧ (encL n).length + rs.length + l'.length ≤ l.length ∧ 1 ≤ (encL n).length ∧ f.runs.length ≤ l.length ∧ Bs f.data := by
  unfold decF at h
  split at h
  · cases h
  · rename_i k l1 hn
    obtain ⟨a1, a2, a3, a4, a5⟩ := numF_read hb hn
    split at h
    · cases h
    · rename_i f0 ps hs
      split at h
      · cases h
      · have hq : ReadP f l1 l' := by
          have hd := shape_dom hs
          have hd' : k = 0 ∨ k = 1 ∨ k = 30 ∨ k = 2 ∨ k = 3 ∨ k = 4 ∨ k = 5 ∨ k = 6 ∨ k = 8 ∨ k = 9 ∨ k = 10 ∨ k = 11 ∨ k = 12 ∨ k = 13 ∨ k = 14 ∨ k = 15 ∨ k = 16 ∨ k = 20 ∨ k = 17 ∨ k = 21 ∨ k = 19 ∨ k = 23 ∨ k = 18 ∨ k = 22 ∨ k = 26 ∨ k = 27 ∨ k = 28 ∨ k = 29 := by omega
          clear hd hn a1 a2 a4 a3
          rcases hd' with rfl | rfl | rfl | rfl | rfl | rfl | rfl | rfl | rfl | rfl | rfl | rfl | rfl | rfl | rfl | rfl | rfl | rfl | rfl | rfl | rfl | rfl | rfl | rfl | rfl | rfl | rfl | rfl
          · cases hs; exact read_t0 a5 h
          · cases hs; exact read_t1 a5 h
          · cases hs; exact read_t30 a5 h
          · cases hs; exact read_t2 a5 h
          · cases hs; exact read_t3 a5 h
          · cases hs; exact read_t4 a5 h
          · cases hs; exact read_t5 a5 h
          · cases hs; exact read_t6 a5 h
          · cases hs; exact read_t8 a5 h
          · cases hs; exact read_t9 a5 h
          · cases hs; exact read_t10 a5 h
          · cases hs; exact read_t11 a5 h
          · cases hs; exact read_t12 a5 h
          · cases hs; exact read_t13 a5 h
          · cases hs; exact read_t14 a5 h
          · cases hs; exact read_t15 a5 h
          · cases hs; exact read_t16 a5 h
          · cases hs; exact read_t20 a5 h
          · cases hs; exact read_t17 a5 h
          · cases hs; exact read_t21 a5 h
          · cases hs; exact read_t19 a5 h
          · cases hs; exact read_t23 a5 h
          · cases hs; exact read_t18 a5 h
          · cases hs; exact read_t22 a5 h
          · cases hs; exact read_t26 a5 h
          · cases hs; exact read_t27 a5 h
          · cases hs; exact read_t28 a5 h
          · cases hs; exact read_t29 a5 h
        obtain ⟨n, rs, h1, h2, h3, h4, h5⟩ := hq
        exact ⟨n, rs, h1, by omega, h3, by omega, h5⟩
end Go.Proofs.Ytggjeamondampaa
