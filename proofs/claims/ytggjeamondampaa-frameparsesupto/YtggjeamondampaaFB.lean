/- Frames, plain: numbers there and back; the parts there and back. -/
import Derived.Test.YtggjeamondampaaND
import Derived.Test.YtggjeamondampaaFA
namespace Go.Proofs.Ytggjeamondampaa
open Go.RowKit
set_option linter.unusedVariables false
set_option maxRecDepth 100000

theorem numF_cons (x : Int) (r : List Int) : numF (x :: r) = if r.length + 1 < sz x then none else some (joinF (x % 64) (r.take (sz x - 1)), r.drop (sz x - 1)) := rfl

/-- A number at a place, and at the front of what is left. -/
theorem num_link (l : List Int) (k : Nat) (hk : k ≤ l.length) : (numF (l.drop k) = none ∧ getF l k = (0, 0, 11)) ∨
    (∃ n : Nat, k + n ≤ l.length ∧ 1 ≤ n ∧ k < l.length ∧ n = sz (l.getD k 0) ∧ numF (l.drop k) = some (joinF (l.getD k 0 % 64) ((l.drop (k + 1)).take (n - 1)), l.drop (k + n)) ∧
      getF l k = (joinF (l.getD k 0 % 64) ((l.drop (k + 1)).take (n - 1)), (k : Int) + (n : Int), 0)) := by
  by_cases h2 : k = l.length
  · subst h2; exact .inl ⟨by simp [numF], getF_end l⟩
  have hkl : k < l.length := by omega
  have hd : l.drop k = l.getD k 0 :: l.drop (k + 1) := by
    rw [List.drop_eq_getElem_cons hkl]; simp [List.getD, hkl]
  have hs := sz_size (l.getD k 0)
  by_cases h3 : k + sz (l.getD k 0) ≤ l.length
  · refine .inr ⟨sz (l.getD k 0), h3, by omega, hkl, rfl, ?_, getF_in l k _ _ rfl rfl h3 hkl⟩
    rw [hd, numF_cons]
    rw [if_neg (by rw [List.length_drop]; omega), List.drop_drop]
    congr 3; omega
  · refine .inl ⟨?_, getF_short l k _ _ rfl rfl h3 hkl⟩
    rw [hd, numF_cons]
    rw [if_pos (by rw [List.length_drop]; omega)]

theorem numF_enc (v : Int) (l : List Int) (v0 : 0 ≤ v) (v1 : v ≤ MAXN) : numF (encN v ++ l) = some (v, l) := by
  have hb := get_back [] l v (sizeF v) (fits_size v v1) v0
  simp only [List.nil_append, List.length_nil] at hb
  have hs : (encN v).length = sizeF v := layF_length v _
  rcases num_link (encN v ++ l) 0 (by omega) with ⟨h1, h2⟩ | ⟨n, h1, h2, h3, h4, h5, h6⟩
  · simp only [encN] at h2 hb; rw [hb] at h2; simp at h2
  · have hb' : getF (encN v ++ l) ((0 : Nat) : Int) = (v, ((0 : Nat) : Int) + (sizeF v : Int), 0) := hb
    rw [hb'] at h6
    simp only [Prod.mk.injEq] at h6
    rw [List.drop_zero] at h5
    rw [h5, ← h6.1]
    have : n = sizeF v := by omega
    rw [this, ← hs]
    simp

/-- What a number that was read is. -/
theorem numF_some {l l1 : List Int} {v : Int} (hb : ∀ x ∈ l, IsB x) (h : numF l = some (v, l1)) : ∃ n : Nat, l1 = l.drop n ∧ 1 ≤ n ∧ n ≤ l.length ∧ 0 ≤ v ∧ v ≤ MAXN ∧ sizeF v ≤ n ∧ 1 ≤ sizeF v := by
  rcases num_link l 0 (by omega) with ⟨h1, h2⟩ | ⟨n, h1, h2, h3, h4, h5, h6⟩
  · rw [List.drop_zero, h] at h1; simp at h1
  · rw [List.drop_zero, h] at h5
    simp only [Option.some.injEq, Prod.mk.injEq, Nat.zero_add] at h5 h1
    have hx : IsB (l.getD 0 0) := by
      cases l with
      | nil => simp at h3
      | cons x r => exact hb x (by simp)
    obtain ⟨a1, a2, a3⟩ := lay_back (l.getD 0 0) ((l.drop 1).take (n - 1)) hx (fun y hy => hb y (List.mem_of_mem_drop (List.mem_of_mem_take hy))) (by rw [List.length_take, List.length_drop, ← h4]; omega)
    have hv : v = joinF (l.getD 0 0 % 64) ((l.drop 1).take (n - 1)) := h5.1
    rw [← hv] at a1 a2
    have b1 := size_le v _ a2
    rw [← h4] at b1
    refine ⟨n, h5.2, h2, h1, a1, b1.2, b1.1, ?_⟩
    have := size_ne v b1.2
    unfold sizeF
    (repeat' split) <;> simp_all <;> omega

theorem encN_length (v : Int) : (encN v).length = sizeF v := layF_length v _
theorem encN_pos (v : Int) (v1 : v ≤ MAXN) : 1 ≤ (encN v).length := by
  rw [encN_length]; unfold sizeF; unfold MAXN at v1; (repeat' split) <;> omega

/-- A number's bytes that lack their end. -/
theorem numF_cut (v : Int) (j : Nat) (v0 : 0 ≤ v) (v1 : v ≤ MAXN) (h : j < (encN v).length) : numF ((encN v).take j) = none := by
  have hb := numF_enc v [] v0 v1
  rw [List.append_nil] at hb
  have hn := encN_pos v v1
  revert hb h
  generalize encN v = e at *
  cases e with
  | nil => intro h; simp at h
  | cons x r =>
    intro h hb
    rw [numF_cons] at hb
    split at hb
    · simp at hb
    · rename_i h2
      simp only [Option.some.injEq, Prod.mk.injEq] at hb
      have h3 := congrArg List.length hb.2
      simp at h3 h
      cases j with
      | zero => simp [numF]
      | succ j =>
        rw [List.take_succ_cons]
        rw [numF_cons, if_pos (by simp; omega)]

/-- The runs behind the first, there and back. -/
theorem moreF_enc (rs : List (Int × Int)) : ∀ (lo : Int) (l : List Int), lo ≤ MAXN → fallF (lo - 2) rs = true → moreF rs.length lo (encL (gapsF lo rs) ++ l) = .inl (rs, l) := by
  induction rs with
  | nil => intro lo l _ _; simp [moreF, gapsF, encL]
  | cons r rs ih =>
    intro lo l hlo hf
    simp only [fallF, Bool.and_eq_true, decide_eq_true_eq] at hf
    obtain ⟨⟨⟨h1, h2⟩, h3⟩, h4⟩ := hf
    unfold MAXN at hlo
    have e : encL (gapsF lo (r :: rs)) ++ l = encN (lo - r.2 - 2) ++ (encN (r.2 - r.1) ++ (encL (gapsF r.1 rs) ++ l)) := by simp [gapsF, encL]
    rw [e, List.length_cons]
    unfold moreF
    rw [numF_enc _ _ (by omega) (by unfold MAXN; omega)]
    have e2 : lo - (lo - r.2 - 2) - 2 = r.2 := by omega
    simp only [e2]
    unfold runF
    rw [if_neg (by omega), numF_enc _ _ (by omega) (by unfold MAXN; omega)]
    simp only
    rw [if_neg (by omega)]
    simp only [show r.2 - (r.2 - r.1) = r.1 by omega]
    rw [ih r.1 l (by unfold MAXN; omega) h4]

theorem runsF_enc (rs : List (Int × Int)) (l : List Int) (h : areF rs = true) (hm : (rs.length : Int) ≤ MAXN) : runsF (rs.headD (0, 0)).2 (encL (runsN rs) ++ l) = .inl (rs, l) := by
  cases rs with
  | nil => simp [areF] at h
  | cons r rs =>
    simp only [areF, fallF, Bool.and_eq_true, decide_eq_true_eq] at h
    obtain ⟨⟨⟨⟨h1, h2⟩, h3⟩, h4⟩, _⟩ := h
    unfold MAXN at h3 hm
    have e : encL (runsN (r :: rs)) ++ l = encN rs.length ++ (encN (r.2 - r.1) ++ (encL (gapsF r.1 rs) ++ l)) := by simp [runsN, encL]
    rw [e, List.headD_cons]
    simp only [List.length_cons] at hm
    unfold runsF
    rw [numF_enc _ _ (by omega) (by unfold MAXN; omega)]
    simp only
    unfold runF
    rw [if_neg (by omega), numF_enc _ _ (by omega) (by unfold MAXN; omega)]
    simp only
    rw [if_neg (by omega)]
    simp only [show r.2 - (r.2 - r.1) = r.1 by omega, Int.toNat_natCast]
    rw [moreF_enc rs r.1 l (by unfold MAXN; omega) h4]

/-- The bytes of a part. -/
def encP (f : Fr) (p : Nat) : List Int := encL (numsP f p) ++ (if p = 11 ∨ p = 12 ∨ p = 13 then f.data else if p = 14 then List.replicate (f.size - 1).toNat 0 else [])

/-- A frame that is given a part of another. -/
def giveF (g f : Fr) (p : Nat) : Fr :=
  if p = 0 then g
  else if p = 8 then { g with runs := [(0, (f.runs.headD (0, 0)).2)] }
  else if p = 9 then { g with runs := f.runs }
  else if p = 10 then { g with c0 := f.c0, c1 := f.c1, c2 := f.c2 }
  else if p = 11 ∨ p = 12 ∨ p = 13 then { g with data := f.data }
  else if p = 14 then { g with size := f.size }
  else setF g p (fieldF f p)

theorem zrs_rep (n m : Nat) (l : List Int) (h : n ≤ m) (hl : n < m → l.head? ≠ some 0) : zrs m (List.replicate n 0 ++ l) = n := by
  induction n generalizing m with
  | zero =>
    cases m with
    | zero => rfl
    | succ m =>
      have := hl (by omega)
      cases l with
      | nil => rfl
      | cons x r => simp only [List.replicate_zero, List.nil_append, zrs]; rw [if_neg (by simpa using this)]
  | succ n ih =>
    cases m with
    | zero => omega
    | succ m => simp only [List.replicate_succ, List.cons_append, zrs, if_true]; rw [ih m (by omega) (fun h => hl (by omega))]

/-- A part, there and back. -/
theorem readP_enc (f g : Fr) (p : Nat) (l : List Int) (hp : p ≤ 14) (hf : fitsF f p = true) (h8 : p = 8 → areF f.runs = true)
    (h9 : p = 9 → (g.runs.headD (0, 0)).2 = (f.runs.headD (0, 0)).2 ∧ (f.runs.length : Int) ≤ MAXN) (h11 : p = 11 ∨ p = 12 → g.offset = f.offset ∧ 0 ≤ f.offset) (h12 : p = 12 → l = [])
    (h14 : p = 14 → l.head? ≠ some 0) : readP p g (encP f p ++ l) = .inl (giveF g f p, l) := by
  rcases (by omega : p = 0 ∨ p = 8 ∨ p = 9 ∨ p = 10 ∨ p = 11 ∨ p = 12 ∨ p = 13 ∨ p = 14 ∨ (p = 1 ∨ p = 2 ∨ p = 3 ∨ p = 4 ∨ p = 5 ∨ p = 6 ∨ p = 7)) with h | h | h | h | h | h | h | h | h
  · subst h; simp [readP, encP, numsP, encL, giveF]
  · subst h
    have ha := h8 rfl
    cases hr : f.runs with
    | nil => rw [hr] at ha; simp [areF] at ha
    | cons r rs =>
      rw [hr] at ha
      simp only [areF, fallF, Bool.and_eq_true, decide_eq_true_eq] at ha
      simp only [readP, encP, numsP, encL, giveF, hr]
      simp only [Nat.reduceEqDiff, if_false, if_true, or_self, List.headD_cons, List.flatMap_cons, List.flatMap_nil, List.append_nil]
      rw [numF_enc _ _ (by omega) (by omega)]
  · subst h
    have ha := (h9 rfl).1
    have hf' : areF f.runs = true := by simpa [fitsF] using hf
    have := runsF_enc f.runs l hf' (h9 rfl).2
    simp only [readP, encP, numsP, giveF]
    simp only [Nat.reduceEqDiff, if_false, if_true, or_self, List.append_nil]
    rw [ha, this]
  · subst h
    have hf' : (numb f.c0 MAXN && numb f.c1 MAXN && numb f.c2 MAXN) = true := by simpa [fitsF] using hf
    simp only [numb, Bool.and_eq_true, decide_eq_true_eq] at hf'
    simp only [readP, encP, numsP, encL, giveF]
    simp only [Nat.reduceEqDiff, if_false, if_true, or_self, List.flatMap_cons, List.flatMap_nil, List.append_nil, List.append_assoc]
    rw [numF_enc _ _ (by omega) (by omega)]
    simp only
    rw [numF_enc _ _ (by omega) (by omega)]
    simp only
    rw [numF_enc _ _ (by omega) (by omega)]
  · subst h
    have hf' : (f.data.length : Int) ≤ MAXN - f.offset := by simpa [fitsF] using hf
    obtain ⟨ho, ho2⟩ := h11 (.inl rfl)
    simp only [readP, encP, numsP, encL, giveF]
    simp only [Nat.reduceEqDiff, if_false, if_true, or_self, or_false, List.flatMap_cons, List.flatMap_nil, List.append_nil, List.append_assoc]
    rw [numF_enc _ _ (by omega) (by omega)]
    simp only [bytesF]
    rw [if_neg (by rw [ho]; omega), if_neg (by simp; omega)]
    simp
  · subst h
    obtain rfl := h12 rfl
    have hf' : (f.data.length : Int) ≤ MAXN - f.offset := by simpa [fitsF] using hf
    obtain ⟨ho, ho2⟩ := h11 (.inr rfl)
    simp only [readP, encP, numsP, encL, giveF, bytesF]
    simp only [Nat.reduceEqDiff, if_false, if_true, or_self, or_false, or_true, List.flatMap_nil, List.append_nil, List.nil_append]
    rw [if_neg (by rw [ho]; omega), if_neg (by omega)]
    simp
  · subst h
    have hf' : f.data.length = 8 := by simpa [fitsF] using hf
    simp only [readP, encP, numsP, encL, giveF, bytesF]
    simp only [Nat.reduceEqDiff, if_false, if_true, or_false, or_true, List.flatMap_nil, List.nil_append]
    rw [if_neg (by unfold MAXN; omega), if_neg (by simp; omega)]
    have e8 : (8 : Int).toNat = f.data.length := by omega
    rw [e8]; simp
  · subst h
    have hf' : numb (f.size - 1) 65534 = true := by simpa [fitsF] using hf
    simp only [numb, Bool.and_eq_true, decide_eq_true_eq] at hf'
    have hz := zrs_rep (f.size - 1).toNat 65534 l (by omega) (fun _ => h14 rfl)
    simp only [readP, encP, numsP, encL, giveF]
    simp only [Nat.reduceEqDiff, if_false, if_true, or_self, or_true, List.flatMap_nil, List.nil_append]
    rw [hz]
    have e1 : ((f.size - 1).toNat : Int) + 1 = f.size := by omega
    rw [e1]
    simp
  · have hf' : numb (fieldF f p) (mostF p) = true := by
      rcases h with rfl | rfl | rfl | rfl | rfl | rfl | rfl <;> simpa [fitsF] using hf
    simp only [numb, Bool.and_eq_true, decide_eq_true_eq] at hf'
    have hm : mostF p ≤ MAXN := by unfold mostF MAXN; split <;> omega
    have e : encP f p = encN (fieldF f p) := by
      rcases h with rfl | rfl | rfl | rfl | rfl | rfl | rfl <;> simp [encP, numsP, encL]
    have r : readP p g (encN (fieldF f p) ++ l) = match numF (encN (fieldF f p) ++ l) with | none => .inr 40 | some (v, l1) => if v > mostF p then .inr 42 else .inl (setF g p v, l1) := by
      rcases h with rfl | rfl | rfl | rfl | rfl | rfl | rfl <;> rfl
    have gv : giveF g f p = setF g p (fieldF f p) := by
      rcases h with rfl | rfl | rfl | rfl | rfl | rfl | rfl <;> simp [giveF]
    rw [e, r, numF_enc _ _ (by omega) (by omega), gv]
    simp only
    rw [if_neg (by omega)]

end Go.Proofs.Ytggjeamondampaa
