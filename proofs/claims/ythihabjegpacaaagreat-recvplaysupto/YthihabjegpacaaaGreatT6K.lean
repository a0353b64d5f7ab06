/- What a Recv knows. No program in sight. -/
import Derived.Test.YthihabjegpacaaaGreatT6J
namespace Go.Proofs.YthihabjegpacaaaGreat
set_option maxRecDepth 100000
set_option linter.unusedVariables false
set_option maxHeartbeats 400000

/-- A piece that is held: where it begins, its bytes, its block. -/
structure He where
  off : Int
  p : List Int
  g : Nat
abbrev He.till (e : He) : Int := e.off + e.p.length
abbrev pcOf (x : He) : Pq.Pc := ⟨x.off, some ⟨x.g, 0, none⟩, x.p.length, x.p.length⟩

/-- What a Recv knows: T: the byte at each offset that has come (once it was reset: that was read). -/
structure Rv where
  limit : Int
  read : Int
  high : Int
  final : Int
  K : List Sp
  T : Int → Option Int
  ended : Bool
  reset : Bool

abbrev maxN : Int := 4611686018427387903
structure RvOk (S : Rv) : Prop where
  r0 : 0 ≤ S.read
  rh : S.read ≤ S.high
  hl : S.high ≤ S.limit
  lm : S.limit ≤ 4611686018427387903
  fin : S.final = -1 ∨ S.final = S.high
  gK : Good 0 (S.high - 1) S.K
  kT : ∀ x, memB x S.K = (S.T x).isSome
  tb : ∀ x y, S.T x = some y → IsB y
  low : ∀ x, 0 ≤ x → x < S.read → (S.T x).isSome = true
  rs : S.reset = true → ∀ x, S.read ≤ x → S.T x = none
  rf : S.reset = true → S.final = S.high ∧ S.ended = false
  en : S.ended = true → S.read = S.final
/-- The pieces that are held are what has come and was not read. -/
structure HeOk (S : Rv) (E : List He) : Prop where
  srt : E.Pairwise (fun a b => a.till ≤ b.off)
  pos : ∀ e ∈ E, 0 ≤ e.off ∧ e.p ≠ [] ∧ S.read < e.till
  is : ∀ e ∈ E, ∀ (i : Nat) y, e.p[i]? = some y → S.T (e.off + i) = some y
  all : ∀ x, S.read ≤ x → (S.T x).isSome = true → ∃ e ∈ E, e.off ≤ x ∧ x < e.till
  sz : ∀ e ∈ E, e.p.length ≤ 100000000

def newRv (limit : Int) : Rv := ⟨limit, 0, 0, -1, [], fun _ => none, false, false⟩
theorem rvok_new {limit : Int} (h : 0 ≤ limit ∧ limit ≤ 4611686018427387903) : RvOk (newRv limit) :=
  ⟨Int.le_refl _, Int.le_refl _, h.1, h.2, .inl rfl, trivial, fun x => rfl, fun x y h => (by cases h), fun x h0 h1 => (by simp [newRv] at h1; omega), fun h => (by cases h), fun h => (by cases h), fun h => (by cases h)⟩
theorem heok_new (limit : Int) : HeOk (newRv limit) [] := ⟨List.Pairwise.nil, fun e h => (by cases h), fun e h => (by cases h), fun x _ h => (by cases h), fun e h => (by cases h)⟩

/-- What has come, behind a piece. -/
def putT (T : Int → Option Int) (off : Int) (p : List Int) (x : Int) : Option Int := match T x with
  | some y => some y
  | none => if off ≤ x ∧ x < off + p.length then p[(x - off).toNat]? else none
def againstB (S : Rv) (t : Int) (fin : Bool) : Bool := (decide (0 ≤ S.final) && decide (S.final < t)) || (fin && decide (t < S.high))
def takeE (S : Rv) (off : Int) (n : Nat) (fin : Bool) : Int := if off < 0 ∨ 4611686018427387903 - (n : Int) < off then 1 else if S.limit < off + n then 160 else if againstB S (off + n) fin = true then 161 else 0
def takeG (S : Rv) (off : Int) (p : List Int) (fin : Bool) : Rv := { S with high := max S.high (off + p.length), final := if fin = true then off + p.length else S.final, K := if S.reset = true then S.K else addS 0 off (off + p.length - 1) S.K, T := if S.reset = true then S.T else putT S.T off p }
def takeS (S : Rv) (off : Int) (p : List Int) (fin : Bool) : Rv := if takeE S off p.length fin = 0 then takeG S off p fin else S
def riseN (S : Rv) (t : Int) : Int := max (t - S.high) 0
def takeN (S : Rv) (off : Int) (n : Nat) (fin : Bool) : Int := if takeE S off n fin = 0 then riseN S (off + n) else 0
def readS (S : Rv) (n : Nat) : Rv := { S with read := S.read + n, ended := S.ended || (decide (S.read + n = S.final) && !S.reset) }
def raiseS (S : Rv) (l : Int) : Rv := { S with limit := max S.limit (min l 4611686018427387903) }
def resetE (S : Rv) (f : Int) : Int := if f < 0 ∨ 4611686018427387903 < f then 1 else if S.limit < f then 160 else if againstB S f true = true then 161 else 0
def dropS (S : Rv) : Rv := { S with reset := true, K := addS 0 0 (S.read - 1) [], T := fun x => if x < S.read then S.T x else none }
def resetG (S : Rv) (f : Int) : Rv := { (if S.ended = true then S else dropS S) with high := max S.high f, final := f }
def resetS (S : Rv) (f : Int) : Rv := if resetE S f = 0 then resetG S f else S
def resetN (S : Rv) (f : Int) : Int := if resetE S f = 0 then riseN S f else 0
/-- So many bytes stand in a row. -/
structure RowN (S : Rv) (most : Int) (n : Nat) : Prop where
  got : ∀ i : Nat, i < n → (S.T (S.read + i)).isSome = true
  le : (n : Int) ≤ max most 0
  end_ : (n : Int) = max most 0 ∨ S.T (S.read + n) = none

theorem putT_some {T : Int → Option Int} {off : Int} {p : List Int} {x y : Int} (h : T x = some y) : putT T off p x = some y := by simp [putT, h]
theorem putT_none {T : Int → Option Int} {off : Int} {p : List Int} {x : Int} (h : T x = none) : putT T off p x = if off ≤ x ∧ x < off + p.length then p[(x - off).toNat]? else none := by simp [putT, h]
theorem putT_isSome (T : Int → Option Int) (off : Int) (p : List Int) (x : Int) : (putT T off p x).isSome = true ↔ (T x).isSome = true ∨ (off ≤ x ∧ x < off + p.length) := by
  cases h : T x with
  | some y => simp [putT_some h]
  | none =>
    rw [putT_none h]
    by_cases c : off ≤ x ∧ x < off + p.length
    · rw [if_pos c]
      have : (x - off).toNat < p.length := by omega
      simp [List.getElem?_eq_getElem this, c]
    · rw [if_neg c]; simp [c]

theorem rv_gx {S : Rv} (h : RvOk S) : Gx S.K := good_gx h.gK (by omega) (by have := h.hl; have := h.lm; omega)
theorem bool_iff {a b : Bool} (h : a = true ↔ b = true) : a = b := by cases a <;> cases b <;> simp_all
theorem takeE_0 {S : Rv} {off : Int} {n : Nat} {fin : Bool} (h : takeE S off n fin = 0) : 0 ≤ off ∧ off + n ≤ S.limit ∧ (0 ≤ S.final → off + n ≤ S.final) ∧ (fin = true → S.high ≤ off + n) := by
  unfold takeE at h
  split at h
  · omega
  · split at h
    · omega
    · split at h
      · omega
      · rename_i h1 h2 h3
        unfold againstB at h3
        simp only [Bool.or_eq_true, Bool.and_eq_true, decide_eq_true_eq, not_or, not_and] at h3
        refine ⟨by omega, by omega, fun q => by have := h3.1 q; omega, fun q => by have := h3.2 q; omega⟩
theorem resetE_0 {S : Rv} {f : Int} (h : resetE S f = 0) : 0 ≤ f ∧ f ≤ S.limit ∧ (0 ≤ S.final → f ≤ S.final) ∧ S.high ≤ f := by
  unfold resetE at h
  split at h
  · omega
  · split at h
    · omega
    · split at h
      · omega
      · rename_i h1 h2 h3
        unfold againstB at h3
        simp only [Bool.or_eq_true, Bool.and_eq_true, decide_eq_true_eq, not_or, not_and] at h3
        exact ⟨by omega, by omega, fun q => by have := h3.1 q; omega, by have := h3.2 trivial; omega⟩

theorem rvok_take {S : Rv} (h : RvOk S) {off : Int} {p : List Int} {fin : Bool} (hb : ∀ y ∈ p, IsB y) (he : takeE S off p.length fin = 0) : RvOk (takeG S off p fin) := by
  obtain ⟨t1, t2, t3, t4⟩ := takeE_0 he
  have hr0 := h.r0; have hrh := h.rh; have hhl := h.hl; have hlm := h.lm
  have eT : (takeG S off p fin).T = if S.reset = true then S.T else putT S.T off p := rfl
  have eK : (takeG S off p fin).K = if S.reset = true then S.K else addS 0 off (off + p.length - 1) S.K := rfl
  have eH : (takeG S off p fin).high = max S.high (off + p.length) := rfl
  have mK : ∀ x, memB x (takeG S off p fin).K = ((takeG S off p fin).T x).isSome := fun x => by
    rw [eK, eT]
    by_cases hr : S.reset = true
    · rw [if_pos hr, if_pos hr]; exact h.kT x
    · rw [if_neg hr, if_neg hr]
      apply bool_iff
      rw [memB_addS (rv_gx h), putT_isSome, h.kT x]
      constructor
      · rintro (q | q)
        · exact .inl q
        · exact .inr (by omega)
      · rintro (q | q)
        · exact .inl q
        · exact .inr (by omega)
  refine ⟨hr0, by rw [eH]; show S.read ≤ _; omega, by rw [eH]; show _ ≤ S.limit; omega, hlm, ?_, ?_, mK, ?_, ?_, ?_, ?_, ?_⟩
  · show (if fin = true then off + (p.length : Int) else S.final) = -1 ∨ (if fin = true then off + (p.length : Int) else S.final) = max S.high (off + p.length)
    by_cases hf : fin = true
    · rw [if_pos hf]; have := t4 hf; right; omega
    · rw [if_neg hf]
      rcases h.fin with q | q
      · exact .inl q
      · right; have := t3 (by omega); omega
  · rw [eK, eH]
    by_cases hr : S.reset = true
    · rw [if_pos hr]; exact h.gK.top (by omega)
    · rw [if_neg hr]
      refine good_of (addS_gx (rv_gx h) (by omega) (by omega)).1 fun x hx => ?_
      rcases (memB_addS (rv_gx h) x).1 hx with q | q
      · have := memB_in h.gK q; omega
      · omega
  · intro x y hy
    rw [eT] at hy
    by_cases hr : S.reset = true
    · rw [if_pos hr] at hy; exact h.tb x y hy
    · rw [if_neg hr] at hy
      cases hx : S.T x with
      | some z => rw [putT_some hx] at hy; injection hy with hy; rw [← hy]; exact h.tb x z hx
      | none =>
        rw [putT_none hx] at hy
        split at hy
        · exact hb y (List.mem_of_getElem? hy)
        · cases hy
  · intro x h0 h1
    rw [eT]
    by_cases hr : S.reset = true
    · rw [if_pos hr]; exact h.low x h0 h1
    · rw [if_neg hr, putT_isSome]; exact .inl (h.low x h0 h1)
  · intro hr x hx
    rw [eT, if_pos (show S.reset = true from hr)]
    exact h.rs hr x hx
  · intro hr
    obtain ⟨q1, q2⟩ := h.rf hr
    refine ⟨?_, q2⟩
    show (if fin = true then off + (p.length : Int) else S.final) = max S.high (off + p.length)
    have := t3 (by omega)
    by_cases hf : fin = true
    · rw [if_pos hf]; have := t4 hf; omega
    · rw [if_neg hf]; omega
  · intro hd
    have q := h.en hd
    show S.read = (if fin = true then off + (p.length : Int) else S.final)
    by_cases hf : fin = true
    · rw [if_pos hf]; have := t4 hf; have := t3 (by omega); omega
    · rw [if_neg hf]; exact q

theorem rvok_read {S : Rv} (h : RvOk S) {most : Int} {n : Nat} (hn : RowN S most n) : RvOk (readS S n) := by
  have hr0 := h.r0; have hrh := h.rh
  have hh : S.read + n ≤ S.high := by
    cases n with
    | zero => simpa using hrh
    | succ n =>
      have := hn.got n (by omega)
      rw [← h.kT] at this
      have := memB_in h.gK this
      omega
  refine ⟨by show 0 ≤ S.read + n; omega, hh, h.hl, h.lm, h.fin, h.gK, h.kT, h.tb, fun x h0 h1 => ?_, fun hr x hx => h.rs hr x (by have : S.read + n ≤ x := hx; omega), fun hr => ?_, fun he => ?_⟩
  · have h1 : x < S.read + n := h1
    by_cases c : x < S.read
    · exact h.low x h0 c
    · have := hn.got (x - S.read).toNat (by omega)
      rwa [show S.read + (((x - S.read).toNat : Nat) : Int) = x by omega] at this
  · obtain ⟨q1, q2⟩ := h.rf hr
    refine ⟨q1, ?_⟩
    have hr : S.reset = true := hr
    show (S.ended || (decide (S.read + n = S.final) && !S.reset)) = false
    rw [q2, hr]; simp
  · have he : (S.ended || (decide (S.read + n = S.final) && !S.reset)) = true := he
    show S.read + n = S.final
    rw [Bool.or_eq_true] at he
    rcases he with he | he
    · have := h.en he
      have hf := h.fin
      omega
    · simp only [Bool.and_eq_true, decide_eq_true_eq] at he
      exact he.1
theorem rvok_raise {S : Rv} (h : RvOk S) (l : Int) : RvOk (raiseS S l) :=
  ⟨h.r0, h.rh, by have := h.hl; show S.high ≤ max S.limit _; omega, by have := h.lm; show max S.limit (min l _) ≤ _; omega, h.fin, h.gK, h.kT, h.tb, h.low, h.rs, h.rf, h.en⟩
theorem drop_K (r : Int) : Good 0 (r - 1) (addS 0 0 (r - 1) []) ∧ ∀ x, memB x (addS 0 0 (r - 1) []) = true ↔ 0 ≤ x ∧ x < r := by
  have g0 : Good (-9223372036854775808) 9223372036854775807 [] := trivial
  have m : ∀ x, memB x (addS 0 0 (r - 1) []) = true ↔ 0 ≤ x ∧ x < r := fun x => by
    rw [memB_addS g0]
    constructor
    · rintro (q | q)
      · cases q
      · omega
    · intro q; right; omega
  refine ⟨?_, m⟩
  unfold addS
  by_cases c : r - 1 < 0
  · rw [if_pos c]; trivial
  · rw [if_neg c, boundF_zero]
    simp [addF, grownF, Good]
    omega
theorem rvok_reset {S : Rv} (h : RvOk S) {f : Int} (he : resetE S f = 0) : RvOk (resetG S f) := by
  obtain ⟨t1, t2, t3, t4⟩ := resetE_0 he
  have hr0 := h.r0; have hrh := h.rh; have hhl := h.hl; have hlm := h.lm
  unfold resetG
  by_cases c : S.ended = true
  · rw [if_pos c]
    have q := h.en c
    have eh : max S.high f = S.high := by have := h.fin; have := t3 (by omega); omega
    have ef : f = S.high := by omega
    refine ⟨hr0, by rw [eh]; exact hrh, by rw [eh]; exact hhl, hlm, .inr (by simp only; omega), by simp only; rw [eh]; exact h.gK, h.kT, h.tb, h.low, h.rs, fun hr => ⟨by simp only; omega, (h.rf hr).2⟩, fun _ => by simp only; have := h.fin; have := t3 (by omega); omega⟩
  · rw [if_neg c]
    obtain ⟨d1, d2⟩ := drop_K S.read
    refine ⟨hr0, by show S.read ≤ max S.high f; omega, by show max S.high f ≤ S.limit; omega, hlm, .inr (by show f = max S.high f; omega), d1.top (by show S.read - 1 ≤ max S.high f - 1; omega), fun x => ?_, fun x y hy => ?_, fun x h0 h1 => ?_, fun _ x hx => ?_, fun _ => ⟨by show f = max S.high f; omega, show S.ended = false by simpa using c⟩, fun q => absurd q c⟩
    · apply bool_iff
      show memB x (addS 0 0 (S.read - 1) []) = true ↔ (if x < S.read then S.T x else none).isSome = true
      rw [d2]
      by_cases cx : x < S.read
      · rw [if_pos cx]
        constructor
        · intro q; exact h.low x q.1 cx
        · intro q
          rw [← h.kT] at q
          have := memB_in h.gK q
          omega
      · rw [if_neg cx]; simp; omega
    · have hy : (if x < S.read then S.T x else none) = some y := hy
      split at hy
      · exact h.tb x y hy
      · cases hy
    · have h1 : x < S.read := h1
      show (if x < S.read then S.T x else none).isSome = true
      rw [if_pos h1]; exact h.low x h0 h1
    · have hx : S.read ≤ x := hx
      show (if x < S.read then S.T x else none) = none
      rw [if_neg (by omega)]
end Go.Proofs.YthihabjegpacaaaGreat
