/- A beginning is never a frame; by lists. -/
import Derived.Test.YtggjeamondampabF1P
namespace Go.Proofs.Ytggjeamondampab
open Go.RowKit
set_option linter.unusedVariables false
set_option linter.unusedSimpArgs false
set_option maxRecDepth 100000
set_option maxHeartbeats 4000000

theorem num_take (v : Int) (B : List Int) (j : Nat) (v0 : 0 ≤ v) (v1 : v ≤ MAXN) : numF ((encN v ++ B).take j) = if j < (encN v).length then none else some (v, B.take (j - (encN v).length)) := by
  rw [List.take_append]
  split
  · rename_i h
    have e : B.take (j - (encN v).length) = [] := by rw [show j - (encN v).length = 0 by omega]; rfl
    rw [e, List.append_nil]
    exact numF_cut v j v0 v1 h
  · rename_i h
    rw [List.take_of_length_le (by omega), numF_enc v _ v0 v1]

theorem moreF_cut : ∀ (rs : List (Int × Int)) (lo : Int) (j : Nat), lo ≤ MAXN → fallF (lo - 2) rs = true → j < (encL (gapsF lo rs)).length → moreF rs.length lo ((encL (gapsF lo rs)).take j) = .inr 40 := by
  intro rs
  induction rs with
  | nil => intro lo j hl hf hj; simp [gapsF, encL] at hj
  | cons r rs ih =>
    intro lo j hl hf hj
    simp only [fallF, Bool.and_eq_true, decide_eq_true_eq] at hf
    obtain ⟨⟨⟨h1, h2⟩, h3⟩, h4⟩ := hf
    have e : encL (gapsF lo (r :: rs)) = encN (lo - r.2 - 2) ++ (encN (r.2 - r.1) ++ encL (gapsF r.1 rs)) := by simp [gapsF, encL]
    rw [e] at hj ⊢
    simp only [List.length_append] at hj
    simp only [List.length_cons, moreF]
    have hM : lo ≤ 4611686018427387903 := hl
    rw [num_take _ _ _ (by omega) (by show _ ≤ (4611686018427387903 : Int); omega)]
    by_cases c1 : j < (encN (lo - r.2 - 2)).length
    · rw [if_pos c1]
    · rw [if_neg c1]
      simp only
      have e2 : lo - (lo - r.2 - 2) - 2 = r.2 := by omega
      rw [e2]
      unfold runF
      rw [if_neg (by omega), num_take _ _ _ (by omega) (by show _ ≤ (4611686018427387903 : Int); omega)]
      by_cases c2 : j - (encN (lo - r.2 - 2)).length < (encN (r.2 - r.1)).length
      · rw [if_pos c2]
      · rw [if_neg c2]
        simp only
        rw [if_neg (by omega)]
        simp only
        have e3 : r.2 - (r.2 - r.1) = r.1 := by omega
        rw [e3, ih r.1 _ (by show _ ≤ (4611686018427387903 : Int); omega) h4 (by omega)]

theorem runsF_cut (rs : List (Int × Int)) (j : Nat) (h : areF rs = true) (hm : (rs.length : Int) ≤ MAXN) (hj : j < (encL (runsN rs)).length) : runsF (rs.headD (0, 0)).2 ((encL (runsN rs)).take j) = .inr 40 := by
  cases rs with
  | nil => simp [areF] at h
  | cons r rs =>
    simp only [areF, fallF, Bool.and_eq_true, decide_eq_true_eq] at h
    obtain ⟨⟨⟨⟨h1, h2⟩, h3⟩, h4⟩, -⟩ := h
    have e : encL (runsN (r :: rs)) = encN rs.length ++ (encN (r.2 - r.1) ++ encL (gapsF r.1 rs)) := by simp [runsN, encL]
    rw [e] at hj ⊢
    simp only [List.length_append] at hj
    simp only [List.length_cons] at hm
    have hM : r.2 ≤ 4611686018427387903 := h3
    unfold MAXN at hm
    rw [List.headD_cons]
    unfold runsF
    rw [num_take _ _ _ (by omega) (by show _ ≤ (4611686018427387903 : Int); omega)]
    by_cases c1 : j < (encN (rs.length : Int)).length
    · rw [if_pos c1]
    · rw [if_neg c1]
      simp only
      unfold runF
      rw [if_neg (by omega), num_take _ _ _ (by omega) (by show _ ≤ (4611686018427387903 : Int); omega)]
      by_cases c2 : j - (encN (rs.length : Int)).length < (encN (r.2 - r.1)).length
      · rw [if_pos c2]
      · rw [if_neg c2]
        simp only
        rw [if_neg (by omega)]
        simp only
        have e3 : r.2 - (r.2 - r.1) = r.1 := by omega
        rw [e3, Int.toNat_natCast, moreF_cut rs r.1 _ (by show _ ≤ (4611686018427387903 : Int); omega) h4 (by omega)]

/-- A part that lacks its end. -/
theorem readP_cut (f g : Fr) (p j : Nat) (hp : p ≤ 14) (hf : fitsF f p = true) (h8 : p = 8 → areF f.runs = true)
    (h9 : p = 9 → (g.runs.headD (0, 0)).2 = (f.runs.headD (0, 0)).2 ∧ (f.runs.length : Int) ≤ MAXN) (h11 : p = 11 → g.offset = f.offset ∧ 0 ≤ f.offset) (h12 : p ≠ 12) (h14 : p ≠ 14) (hj : j < (encP f p).length) : readP p g ((encP f p).take j) = .inr 40 := by
  rcases (by omega : p = 0 ∨ p = 8 ∨ p = 9 ∨ p = 10 ∨ p = 11 ∨ p = 13 ∨ (p = 1 ∨ p = 2 ∨ p = 3 ∨ p = 4 ∨ p = 5 ∨ p = 6 ∨ p = 7)) with h | h | h | h | h | h | h
  · subst h; simp [encP, numsP, encL] at hj
  · subst h
    have ha := h8 rfl
    cases hr : f.runs with
    | nil => rw [hr] at ha; simp [areF] at ha
    | cons r rs =>
      rw [hr] at ha
      simp only [areF, fallF, Bool.and_eq_true, decide_eq_true_eq] at ha
      have e : encP f 8 = encN r.2 := by simp [encP, numsP, encL, hr]
      rw [e] at hj ⊢
      have r8 : readP 8 g ((encN r.2).take j) = match numF ((encN r.2).take j) with | none => .inr 40 | some (v, l1) => .inl ({ g with runs := [(0, v)] }, l1) := rfl
      rw [r8, numF_cut _ _ (by omega) (by omega) hj]
  · subst h
    have ha := (h9 rfl).1
    have hf' : areF f.runs = true := by simpa [fitsF] using hf
    have e : encP f 9 = encL (runsN f.runs) := by simp [encP, numsP]
    rw [e] at hj ⊢
    have r9 : readP 9 g ((encL (runsN f.runs)).take j) = match runsF (g.runs.headD (0, 0)).2 ((encL (runsN f.runs)).take j) with | .inr e => .inr e | .inl (rs, l1) => .inl ({ g with runs := rs }, l1) := rfl
    rw [r9, ha, runsF_cut f.runs j hf' (h9 rfl).2 hj]
  · subst h
    have hf' : (numb f.c0 MAXN && numb f.c1 MAXN && numb f.c2 MAXN) = true := by simpa [fitsF] using hf
    simp only [numb, Bool.and_eq_true, decide_eq_true_eq] at hf'
    have e : encP f 10 = encN f.c0 ++ (encN f.c1 ++ (encN f.c2 ++ [])) := by simp [encP, numsP, encL]
    rw [e] at hj ⊢
    simp only [List.length_append, List.length_nil] at hj
    have r : ∀ l, readP 10 g l = match numF l with
      | none => .inr 40
      | some (a, l1) => match numF l1 with
        | none => .inr 40
        | some (b, l2) => match numF l2 with
          | none => .inr 40
          | some (c, l3) => .inl ({ g with c0 := a, c1 := b, c2 := c }, l3) := fun _ => rfl
    rw [r, num_take _ _ _ (by omega) (by omega)]
    by_cases c1 : j < (encN f.c0).length
    · rw [if_pos c1]
    · rw [if_neg c1]
      simp only
      rw [num_take _ _ _ (by omega) (by omega)]
      by_cases c2 : j - (encN f.c0).length < (encN f.c1).length
      · rw [if_pos c2]
      · rw [if_neg c2]
        simp only
        rw [num_take _ _ _ (by omega) (by omega), if_pos (by omega)]
  · subst h
    have hf' : (f.data.length : Int) ≤ MAXN - f.offset := by simpa [fitsF] using hf
    obtain ⟨ho, ho2⟩ := h11 rfl
    have e : encP f 11 = encN (f.data.length : Int) ++ f.data := by simp [encP, numsP, encL]
    rw [e] at hj ⊢
    simp only [List.length_append] at hj
    have r : ∀ l, readP 11 g l = match numF l with
      | none => .inr 40
      | some (n, l1) => match bytesF g.offset n l1 with | .inr e => .inr e | .inl (d, l2) => .inl ({ g with data := d }, l2) := fun _ => rfl
    rw [r, num_take _ _ _ (by omega) (by omega)]
    by_cases c1 : j < (encN (f.data.length : Int)).length
    · rw [if_pos c1]
    · rw [if_neg c1]
      simp only [bytesF]
      rw [if_neg (by rw [ho]; omega), if_pos (by rw [List.length_take]; omega)]
  · subst h
    have hf' : f.data.length = 8 := by simpa [fitsF] using hf
    have e : encP f 13 = f.data := by simp [encP, numsP, encL]
    rw [e] at hj ⊢
    have r : ∀ l, readP 13 g l = match bytesF 0 8 l with | .inr e => .inr e | .inl (d, l2) => .inl ({ g with data := d }, l2) := fun _ => rfl
    rw [r]
    simp only [bytesF]
    rw [if_neg (by unfold MAXN; omega), if_pos (by rw [List.length_take]; omega)]
  · have hf' : numb (fieldF f p) (mostF p) = true := by
      rcases h with rfl | rfl | rfl | rfl | rfl | rfl | rfl <;> simpa [fitsF] using hf
    simp only [numb, Bool.and_eq_true, decide_eq_true_eq] at hf'
    have hm : mostF p ≤ MAXN := by unfold mostF MAXN; split <;> omega
    have e : encP f p = encN (fieldF f p) := by
      rcases h with rfl | rfl | rfl | rfl | rfl | rfl | rfl <;> simp [encP, numsP, encL]
    have r : ∀ l, readP p g l = match numF l with | none => .inr 40 | some (v, l1) => if v > mostF p then .inr 42 else .inl (setF g p v, l1) := fun l => by
      rcases h with rfl | rfl | rfl | rfl | rfl | rfl | rfl <;> rfl
    rw [e] at hj ⊢
    rw [r, numF_cut _ _ (by omega) (by omega) hj]

/-- A part with others behind it, cut somewhere. -/
theorem part_take (f g : Fr) (p j : Nat) (B : List Int) (hp : p ≤ 14) (hf : fitsF f p = true) (h8 : p = 8 → areF f.runs = true)
    (h9 : p = 9 → (g.runs.headD (0, 0)).2 = (f.runs.headD (0, 0)).2 ∧ (f.runs.length : Int) ≤ MAXN) (h11 : p = 11 → g.offset = f.offset ∧ 0 ≤ f.offset) (h12 : p ≠ 12) (h14 : p ≠ 14) :
    readP p g ((encP f p ++ B).take j) = if j < (encP f p).length then .inr 40 else .inl (giveF g f p, B.take (j - (encP f p).length)) := by
  rw [List.take_append]
  split
  · rename_i h
    have e : B.take (j - (encP f p).length) = [] := by rw [show j - (encP f p).length = 0 by omega]; rfl
    rw [e, List.append_nil]
    exact readP_cut f g p j hp hf h8 h9 h11 h12 h14 h
  · rename_i h
    rw [List.take_of_length_le (by omega)]
    exact readP_enc f g p _ hp hf h8 h9 (fun e => h11 (by omega)) (fun e => absurd e h12) (fun e => absurd e h14)

theorem cut_pure {f : Fr} {n rs : List Int} (h : tellF f = .inl (n, rs)) (hm : (f.runs.length : Int) ≤ MAXN) (ht : f.tail = false) (hp : f.kind ≠ 0) (j : Nat) (hj : j < (encL n ++ rs).length) :
    decF ((encL n ++ rs).take j) = .inr 40 := by
  unfold tellF at h
  by_cases hk : isKindF f.kind = true
  · obtain ⟨bare, l, hs⟩ := type_some hk
    rw [if_pos hk, hs] at h
    simp only at h
    by_cases hmay : mayF f bare l = true
    · rw [if_pos hmay] at h
      simp only [Sum.inl.injEq, Prod.mk.injEq] at h
      obtain ⟨rfl, rfl⟩ := h
      have off := may_off hmay
      have tr := typeF_range hk
      have kd := type_kind hk hs
      have ep := enc_parts hs hmay []
      have e1 : encL (typeF f :: (numsP f l.1 ++ numsP f l.2.1 ++ numsP f l.2.2.1 ++ numsP f l.2.2.2)) ++ restF f l.1 f.data = encN (typeF f) ++ (encP f l.1 ++ (encP f l.2.1 ++ (encP f l.2.2.1 ++ (encP f l.2.2.2 ++ [])))) := by
        rw [← ep]
        simp [encL]
      rw [e1] at hj ⊢
      simp only [List.length_append, List.length_nil] at hj
      obtain ⟨⟨q1, q2, q3, q4⟩, fl⟩ := may_fields hmay
      have o0 := may_off0 hmay
      obtain ⟨z1, z2, z3, z4, z5, z6, z7, z8, z9, z10, z11⟩ := bare_zero hs
      have tl : f.tail = bare.tail := by
        have := fl.2.2.2.2.2.2.2.2.2.2.1
        have hh : ∀ (g : Fr) (q : Nat), (takeF g q).tail = g.tail := fun g q => by unfold takeF setF; (repeat' split) <;> rfl
        rwa [hh, hh, hh, hh] at this
      have t12 : l.2.2.1 = 12 → bare.tail = true := fun e => by
        exact shape_12 hs e
      have k14 : l.1 = 14 → f.kind = 0 := fun e => by
        rw [← kd]
        exact shape_14 hs e
      have n12 : l.2.2.1 ≠ 12 := fun e => by rw [t12 e, ht] at tl; cases tl
      have n14 : l.1 ≠ 14 := fun e => hp (k14 e)
      unfold decF
      rw [num_take _ _ _ tr.1 (by unfold MAXN; omega)]
      by_cases c0 : j < (encN (typeF f)).length
      · rw [if_pos c0]
      · rw [if_neg c0]
        simp only
        rw [hs]
        simp only
        rw [if_neg (by
          rw [List.length_take, List.length_take, ← encN_length]
          simp only [List.length_append]
          omega)]
        have R : ∀ (p i : Nat) (g : Fr) (y : List Int), p ≤ 14 → fitsF f p = true → (p = 8 → areF f.runs = true) → (p = 9 → (g.runs.headD (0, 0)).2 = (f.runs.headD (0, 0)).2) → (p = 11 → g.offset = f.offset) → p ≠ 12 → p ≠ 14 → readP p g ((encP f p ++ y).take i) = if i < (encP f p).length then .inr 40 else .inl (giveF g f p, y.take (i - (encP f p).length)) :=
          fun p i g y hp hf h8 h9 h11 h12 h14 => part_take f g p i y hp hf h8 (fun e => ⟨h9 e, hm⟩) (fun e => ⟨h11 e, off.1⟩) h12 h14
        have hl := shape_parts hs
        clear hs e1 ep
        rcases hl with e | e | e | e | e | e | e | e | e | e | e | e | e | e | e | e | e <;> subst e
        all_goals try (exact absurd rfl n12)
        all_goals try (exact absurd rfl n14)
        all_goals
          simp only at q1 q2 q3 q4 o0 hj
          unfold readPs
          simp only
          rw [R _ _ _ _ (by decide) q1 (by first | (intro hh; exact absurd hh (by decide)) | (intro _; exact q3)) (fun hh => absurd hh (by decide)) (by first | (intro hh; exact absurd hh (by decide)) | (intro _; rw [z2, o0 (by decide)])) (by decide) (by decide)]
          split
          · rfl
          simp only [bind']
          rw [R _ _ _ _ (by decide) q2 (by first | (intro hh; exact absurd hh (by decide)) | (intro _; exact q3)) (fun hh => absurd hh (by decide)) (by first | (intro hh; exact absurd hh (by decide)) | (intro _; simp [giveF, setF, fieldF, z2, o0]) | (intro _; simp [giveF, setF, fieldF, z2])) (by decide) (by decide)]
          split
          · rename_i heq; split at heq <;> first | (cases heq; rfl) | cases heq
          rename_i heq
          split at heq
          · cases heq
          simp only [Sum.inl.injEq, Prod.mk.injEq] at heq
          obtain ⟨rfl, rfl⟩ := heq
          rw [R _ _ _ _ (by decide) q3 (by first | (intro hh; exact absurd hh (by decide)) | (intro _; exact q3)) (by first | (intro hh; exact absurd hh (by decide)) | (intro _; simp [giveF, setF, fieldF])) (by first | (intro hh; exact absurd hh (by decide)) | (intro _; simp [giveF, setF, fieldF, z2, o0]) | (intro _; simp [giveF, setF, fieldF, z2])) (by decide) (by decide)]
          split
          · rename_i heq; split at heq <;> first | (cases heq; rfl) | cases heq
          rename_i heq
          split at heq
          · cases heq
          simp only [Sum.inl.injEq, Prod.mk.injEq] at heq
          obtain ⟨rfl, rfl⟩ := heq
          rw [R _ _ _ _ (by decide) q4 (by first | (intro hh; exact absurd hh (by decide))) (fun hh => absurd hh (by decide)) (by first | (intro hh; exact absurd hh (by decide))) (by decide) (by decide), if_pos (by omega)]
    · rw [if_neg hmay] at h; cases h
  · rw [if_neg hk] at h; cases h
end Go.Proofs.Ytggjeamondampab
