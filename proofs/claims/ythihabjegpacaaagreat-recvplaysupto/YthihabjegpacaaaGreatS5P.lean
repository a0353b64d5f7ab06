/- What a Send knows, by lists. No program in sight. -/
import Derived.Test.YthihabjegpacaaaGreatSA0
import Derived.Test.YthihabjegpacaaaGreatR2P
namespace Go.Proofs.YthihabjegpacaaaGreat
set_option maxRecDepth 100000
set_option linter.unusedVariables false
set_option maxHeartbeats 400000

theorem boundF_zero (L : List Sp) : boundF 0 L = L := by unfold boundF; rw [if_neg (by omega)]

theorem memB_iff {x : Int} {L : List Sp} : memB x L = true ↔ ∃ s ∈ L, s.1 ≤ x ∧ x ≤ s.2 := by
  unfold memB
  rw [List.any_eq_true]
  simp only [Bool.and_eq_true, decide_eq_true_eq]

theorem good_ext {mn mx : Int} {A B : List Sp} (hA : Good mn mx A) (hB : Good mn mx B) (h : ∀ x, memB x A = true ↔ memB x B = true) : A = B := by
  induction A generalizing mn B with
  | nil =>
    cases B with
    | nil => rfl
    | cons t B =>
      have := (h t.1).2 (memB_true (s := t) (by simp) (Int.le_refl _) hB.2.1)
      simp [memB] at this
  | cons s A ih =>
    cases B with
    | nil =>
      have := (h s.1).1 (memB_true (s := s) (by simp) (Int.le_refl _) hA.2.1)
      simp [memB] at this
    | cons t B =>
      have inA : ∀ x, memB x (s :: A) = true → s.1 ≤ x ∧ (x ≤ s.2 ∨ s.2 + 2 ≤ x) := fun x hx => by
        obtain ⟨u, hu, h1, h2⟩ := memB_iff.1 hx
        rcases List.mem_cons.1 hu with rfl | hu
        · exact ⟨h1, .inl h2⟩
        · have := hA.2.2.2.mem hu; have := hA.2.1; omega
      have inB : ∀ x, memB x (t :: B) = true → t.1 ≤ x ∧ (x ≤ t.2 ∨ t.2 + 2 ≤ x) := fun x hx => by
        obtain ⟨u, hu, h1, h2⟩ := memB_iff.1 hx
        rcases List.mem_cons.1 hu with rfl | hu
        · exact ⟨h1, .inl h2⟩
        · have := hB.2.2.2.mem hu; have := hB.2.1; omega
      have e1 := (inB s.1 ((h s.1).1 (memB_true (s := s) (by simp) (Int.le_refl _) hA.2.1))).1
      have e2 := (inA t.1 ((h t.1).2 (memB_true (s := t) (by simp) (Int.le_refl _) hB.2.1))).1
      have e3 : s.2 = t.2 := by
        rcases Int.lt_trichotomy s.2 t.2 with hl | hl | hl
        · have := (inA (s.2 + 1) ((h (s.2 + 1)).2 (memB_true (s := t) (by simp) (by have := hA.2.1; omega) (by omega)))).2
          omega
        · exact hl
        · have := (inB (t.2 + 1) ((h (t.2 + 1)).1 (memB_true (s := s) (by simp) (by have := hB.2.1; omega) (by omega)))).2
          omega
      have e : s = t := Prod.ext (by omega) e3
      subst e
      have := ih (mn := s.2 + 2) hA.2.2.2 hB.2.2.2 (fun x => by
        constructor
        · intro hx
          obtain ⟨u, hu, h1, h2⟩ := memB_iff.1 hx
          have k := hA.2.2.2.mem hu
          obtain ⟨v, hv, h3, h4⟩ := memB_iff.1 ((h x).1 (memB_true (s := u) (by simp [hu]) h1 h2))
          rcases List.mem_cons.1 hv with rfl | hv
          · omega
          · exact memB_true hv h3 h4
        · intro hx
          obtain ⟨u, hu, h1, h2⟩ := memB_iff.1 hx
          have k := hB.2.2.2.mem hu
          obtain ⟨v, hv, h3, h4⟩ := memB_iff.1 ((h x).2 (memB_true (s := u) (by simp [hu]) h1 h2))
          rcases List.mem_cons.1 hv with rfl | hv
          · omega
          · exact memB_true hv h3 h4)
      rw [this]

theorem getLastD_cons (m m' : Sp) (M : List Sp) : (m' :: M).getLastD m = M.getLastD m' := by cases M <;> rfl

theorem grown_mem {k mx lo hi x : Int} {m : Sp} {M : List Sp} (h : Good k mx (m :: M)) (hlh : lo ≤ hi) (hM : ∀ s ∈ m :: M, lo - 1 ≤ s.2 ∧ s.1 ≤ hi + 1) :
    (min lo m.1 ≤ x ∧ x ≤ max hi (M.getLastD m).2) ↔ (memB x (m :: M) = true ∨ (lo ≤ x ∧ x ≤ hi)) := by
  induction M generalizing m k with
  | nil =>
    have := hM m (by simp)
    have := h.2.1
    have e : memB x [m] = true ↔ m.1 ≤ x ∧ x ≤ m.2 := by rw [memB_iff]; simp
    rw [e]
    simp only [List.getLastD]
    omega
  | cons m' M ih =>
    have h1 := hM m (by simp)
    have h2 := h.2.1
    have h3 := h.2.2.2
    have h4 := h3.1
    have h5 := h3.2.1
    have i := ih (m := m') h3 (fun s hs => hM s (by simp at hs; simp [hs]))
    have e : memB x (m :: m' :: M) = true ↔ (m.1 ≤ x ∧ x ≤ m.2) ∨ memB x (m' :: M) = true := by
      rw [memB_iff, memB_iff]
      simp
    have hl : m'.1 ≤ (M.getLastD m').2 := by
      cases M with
      | nil => exact h5
      | cons u M =>
        have hmem : (u :: M).getLastD m' ∈ m' :: u :: M := by
          have := getLastD_mem (M := u :: M) (by simp) m'
          exact List.mem_cons_of_mem _ this
        have := h3.mem hmem
        rcases List.mem_cons.1 hmem with hq | hq
        · rw [hq]; exact h5
        · have := h3.2.2.2.mem hq; omega
    rw [e, getLastD_cons]
    have hmin : min lo m'.1 = lo := Int.min_eq_left (by omega)
    rw [hmin] at i
    generalize (M.getLastD m').2 = z at *
    by_cases hmm : memB x (m' :: M) = true
    · have := i.2 (.inl hmm)
      simp only [hmm, or_true, true_or, iff_true]
      omega
    · have hi2 : (lo ≤ x ∧ x ≤ max hi z) ↔ (lo ≤ x ∧ x ≤ hi) := by rw [i]; simp [hmm]
      have e3 : (((m.1 ≤ x ∧ x ≤ m.2) ∨ memB x (m' :: M) = true) ∨ (lo ≤ x ∧ x ≤ hi)) ↔ ((m.1 ≤ x ∧ x ≤ m.2) ∨ (lo ≤ x ∧ x ≤ hi)) := by simp [hmm]
      rw [e3]
      clear e3 hmm i e ih
      omega

theorem memB_append (x : Int) (A B : List Sp) : memB x (A ++ B) = true ↔ memB x A = true ∨ memB x B = true := by
  unfold memB; rw [List.any_append, Bool.or_eq_true]

theorem memB_addS {L : List Sp} {lo hi : Int} (h : Good (-9223372036854775808) 9223372036854775807 L) (x : Int) : memB x (addS 0 lo hi L) = true ↔ memB x L = true ∨ (lo ≤ x ∧ x ≤ hi) := by
  unfold addS
  by_cases hlh : hi < lo
  · rw [if_pos hlh]
    constructor
    · exact .inl
    · rintro (h | h)
      · exact h
      · omega
  · rw [if_neg hlh, boundF_zero]
    obtain ⟨A, M, D, rfl, hA, hM, hD⟩ := split3 (lo - 1) (hi + 1) h (by omega)
    rw [addF_split h (by omega) hA hM hD, memB_append, memB_append, memB_append, memB_append]
    have e : memB x [grownF lo hi M] = true ↔ memB x M = true ∨ (lo ≤ x ∧ x ≤ hi) := by
      cases M with
      | nil =>
        simp [memB, grownF]
      | cons m M =>
        rw [← grown_mem (h.right.left) (by omega) hM, memB_iff]
        simp [grownF]
    rw [e]
    constructor
    · rintro (h | (h | h) | h)
      · exact .inl (.inl h)
      · exact .inl (.inr (.inl h))
      · exact .inr h
      · exact .inl (.inr (.inr h))
    · rintro ((h | h | h) | h)
      · exact .inl h
      · exact .inr (.inl (.inl h))
      · exact .inr (.inr h)
      · exact .inr (.inl (.inr h))


theorem last_top {mn mx : Int} {m : Sp} {M : List Sp} (h : Good mn mx (m :: M)) : ∀ s ∈ m :: M, s = M.getLastD m ∨ s.2 + 1 < (M.getLastD m).1 := by
  induction M generalizing m mn with
  | nil => intro s hs; left; simpa using hs
  | cons m' M ih =>
    intro s hs
    rw [getLastD_cons]
    have h3 := h.2.2.2
    rcases List.mem_cons.1 hs with rfl | hs
    · right
      have hl : M.getLastD m' ∈ m' :: M := by
        have := getLastD_mem (M := m' :: M) (by simp) m'
        rwa [getLastD_cons] at this
      have := h3.mem hl
      omega
    · exact ih h3 s hs

theorem rest_mem {mn mx lo hi x : Int} {M : List Sp} (h : Good mn mx M) (hlh : lo ≤ hi) (hM : ∀ s ∈ M, lo ≤ s.2 ∧ s.1 ≤ hi) : memB x (restF lo hi M) = true ↔ memB x M = true ∧ ¬ (lo ≤ x ∧ x ≤ hi) := by
  cases M with
  | nil => simp [restF, memB]
  | cons m M =>
    have hl : M.getLastD m ∈ m :: M := by
      have := getLastD_mem (M := m :: M) (by simp) m
      rwa [getLastD_cons] at this
    have top := last_top h
    have hlm := hM _ hl
    have hl2 := h.mem hl
    have hm := hM m (by simp)
    simp only [restF]
    generalize M.getLastD m = l at *
    rw [memB_append]
    have e1 : memB x (if m.1 < lo then [(m.1, lo - 1)] else []) = true ↔ m.1 ≤ x ∧ x < lo := by
      split
      · rw [memB_iff]; simp; omega
      · simp [memB]; omega
    have e2 : memB x (if hi < l.2 then [(hi + 1, l.2)] else []) = true ↔ hi < x ∧ x ≤ l.2 := by
      split
      · rw [memB_iff]; simp; omega
      · simp [memB]; omega
    rw [e1, e2]
    constructor
    · rintro (⟨q1, q2⟩ | ⟨q1, q2⟩)
      · exact ⟨memB_true (s := m) (by simp) q1 (by omega), by omega⟩
      · exact ⟨memB_true hl (by omega) q2, by omega⟩
    · rintro ⟨hx, ho⟩
      obtain ⟨s, hs, q1, q2⟩ := memB_iff.1 hx
      by_cases c : x < lo
      · left
        rcases List.mem_cons.1 hs with rfl | hs
        · exact ⟨q1, c⟩
        · have := h.2.2.2.mem hs; omega
      · right
        rcases top s hs with rfl | h5
        · exact ⟨by omega, q2⟩
        · omega

theorem memB_cutS {mn mx : Int} {L : List Sp} {lo hi : Int} (h : Good mn mx L) (x : Int) : memB x (cutS 0 lo hi L) = true ↔ memB x L = true ∧ ¬ (lo ≤ x ∧ x ≤ hi) := by
  unfold cutS
  by_cases hlh : hi < lo
  · rw [if_pos hlh]
    exact ⟨fun h => ⟨h, by omega⟩, fun h => h.1⟩
  · rw [if_neg hlh, boundF_zero]
    obtain ⟨A, M, D, rfl, hA, hM, hD⟩ := split3 lo hi h (by omega)
    rw [cutF_split h (by omega) hA hM hD, memB_append, memB_append, memB_append, memB_append, rest_mem h.right.left (by omega) hM]
    have eA : memB x A = true → x < lo := fun hx => by
      obtain ⟨s, hs, h1, h2⟩ := memB_iff.1 hx
      have := hA s hs; omega
    have eD : memB x D = true → hi < x := fun hx => by
      obtain ⟨s, hs, h1, h2⟩ := memB_iff.1 hx
      have := hD s hs; omega
    constructor
    · rintro (h | h | h)
      · exact ⟨.inl h, by have := eA h; omega⟩
      · exact ⟨.inr (.inl h.1), h.2⟩
      · exact ⟨.inr (.inr h), by have := eD h; omega⟩
    · rintro ⟨h | h | h, ho⟩
      · exact .inl h
      · exact .inr (.inl ⟨h, ho⟩)
      · exact .inr (.inr h)

theorem good_of {mn mx a b : Int} {L : List Sp} (h : Good mn mx L) (hm : ∀ x, memB x L = true → a ≤ x ∧ x ≤ b) : Good a b L := by
  induction L generalizing mn a with
  | nil => trivial
  | cons s L ih =>
    have h1 := h.2.1
    refine ⟨(hm s.1 (memB_true (s := s) (by simp) (Int.le_refl _) h1)).1, h1, (hm s.2 (memB_true (s := s) (by simp) h1 (Int.le_refl _))).2, ih h.2.2.2 fun x hx => ⟨?_, (hm x ?_).2⟩⟩
    · obtain ⟨t, ht, q1, q2⟩ := memB_iff.1 hx
      have := h.2.2.2.mem ht; omega
    · obtain ⟨t, ht, q1, q2⟩ := memB_iff.1 hx
      exact memB_true (List.mem_cons_of_mem _ ht) q1 q2

theorem good_len {mn mx : Int} {L : List Sp} (h : Good mn mx L) (hm : mn ≤ mx + 2) : 2 * (L.length : Int) ≤ mx - mn + 2 := by
  induction L generalizing mn with
  | nil => simp; omega
  | cons s L ih =>
    have h1 := h.1; have h2 := h.2.1; have h3 := h.2.2.1
    have := ih h.2.2.2 (by omega)
    simp only [List.length_cons]
    omega

abbrev Gx (L : List Sp) : Prop := Good (-9223372036854775808) 9223372036854775807 L
theorem good_gx {mn mx : Int} {L : List Sp} (h : Good mn mx L) (h1 : -9223372036854775808 ≤ mn) (h2 : mx ≤ 9223372036854775807) : Gx L := (h.mono h1).top h2

theorem addS_gx {L : List Sp} {lo hi : Int} (h : Gx L) (hlo : -9223372036854775808 ≤ lo) (hhi : hi ≤ 9223372036854775807) : Gx (addS 0 lo hi L) ∧ (addS 0 lo hi L).length ≤ L.length + 1 := by
  unfold addS
  by_cases hlh : hi < lo
  · rw [if_pos hlh]; exact ⟨h, by omega⟩
  · rw [if_neg hlh, boundF_zero]
    have hg := addF_good h (by omega) hlo hhi
    exact ⟨hg.1, by omega⟩
theorem cutS_gx {L : List Sp} {lo hi : Int} (h : Gx L) : Gx (cutS 0 lo hi L) ∧ (cutS 0 lo hi L).length ≤ L.length + 1 := by
  unfold cutS
  by_cases hlh : hi < lo
  · rw [if_pos hlh]; exact ⟨h, by omega⟩
  · rw [if_neg hlh, boundF_zero]
    have hg := cutF_good h (show lo ≤ hi by omega)
    exact ⟨hg.1, by omega⟩

/-- What a Send knows. -/
structure Sd where
  cap : Int
  T : List Int
  sent : Int
  base : Int
  A : List Sp
  L : List Sp
  ended : Bool
  fin : Int
  stopped : Bool

def wr (S : Sd) : Int := (S.T.length : Int)

structure SdOk (S : Sd) : Prop where
  cap : 1 ≤ S.cap ∧ S.cap ≤ 65536
  gA : Good 0 (S.sent - 1) S.A
  gL : Good 0 (S.sent - 1) S.L
  low : ∀ x, 0 ≤ x → x < S.base → memB x S.A = true
  top : memB S.base S.A = false
  dis : ∀ x, memB x S.L = true → memB x S.A = false
  b0 : 0 ≤ S.base
  bs : S.base ≤ S.sent
  sw : S.sent ≤ wr S
  wc : wr S ≤ S.base + S.cap
  fin : 0 ≤ S.fin ∧ S.fin ≤ 3

theorem memB_in {mn mx x : Int} {L : List Sp} (h : Good mn mx L) (hx : memB x L = true) : mn ≤ x ∧ x ≤ mx := by
  obtain ⟨s, hs, h1, h2⟩ := memB_iff.1 hx
  have := h.mem hs; omega
theorem bool_no {b : Bool} (h : b = true) (h' : b = false) : False := by rw [h] at h'; cases h'

theorem SdOk.lowL {S : Sd} (h : SdOk S) {x : Int} (hx : memB x S.L = true) : S.base ≤ x := by
  have := memB_in h.gL hx
  by_cases c : S.base ≤ x
  · exact c
  · exact (bool_no (h.low x (by omega) (by omega)) (h.dis x hx)).elim
theorem SdOk.gL2 {S : Sd} (h : SdOk S) : Good S.base (S.sent - 1) S.L := good_of h.gL fun x hx => ⟨h.lowL hx, (memB_in h.gL hx).2⟩
theorem SdOk.lenA {S : Sd} (h : SdOk S) : 2 * (S.A.length : Int) ≤ S.cap + 2 := by
  have hb := h.bs; have hw := h.sw; have hc := h.wc; have hcap := h.cap
  have hg := h.gA
  have hl := h.low
  generalize S.A = A at *
  cases A with
  | nil => simp; omega
  | cons s A =>
    have g1 := hg.1; have g2 := hg.2.1; have g3 := hg.2.2.1
    have hs : S.base - 1 ≤ s.2 := by
      by_cases c : S.base - 1 ≤ s.2
      · exact c
      · exfalso
        have := hl (s.2 + 1) (by omega) (by omega)
        refine bool_no this (memB_false fun t ht => ?_)
        rcases List.mem_cons.1 ht with rfl | ht
        · left; omega
        · have := hg.2.2.2.mem ht; right; omega
    have := good_len hg.2.2.2 (by omega)
    simp only [List.length_cons]
    omega
theorem SdOk.lenL {S : Sd} (h : SdOk S) : 2 * (S.L.length : Int) ≤ S.cap + 1 := by
  have hb := h.bs; have hw := h.sw; have hc := h.wc
  have := good_len h.gL2 (by omega)
  omega

/-- Which of some offsets were sent. -/
def ofS (S : Sd) (off size : Int) : Int × Int := if size < 1 then (0, -1) else if off < 0 then (0, min (off + size) S.sent - 1) else (off, off + min size (S.sent - off) - 1)
theorem ofS_in (S : Sd) (off size : Int) (h0 : 0 ≤ S.sent) : 0 ≤ (ofS S off size).1 ∧ (ofS S off size).2 ≤ S.sent - 1 ∧ ((ofS S off size).1 ≤ max off 0) ∧ -9223372036854775808 ≤ (ofS S off size).2 + 9223372036854775807 + (if 0 ≤ off then 0 else - off) := by
  unfold ofS
  split
  · simp only []; split <;> omega
  · split
    · simp only []; split <;> omega
    · simp only []; split <;> omega

def baseOf (b : Int) (A : List Sp) : Int := if memB b A = true then (A.headD (0, 0)).2 + 1 else b
def ackG (S : Sd) (p : Int × Int) (fin : Bool) : Sd := { S with A := addS 0 p.1 p.2 S.A, L := cutS 0 p.1 p.2 S.L, base := baseOf S.base (addS 0 p.1 p.2 S.A), fin := if fin = true ∧ S.fin ≠ 0 then 3 else S.fin }
def ackS (S : Sd) (off size : Int) (fin : Bool) : Sd := if S.stopped = true then S else ackG S (ofS S off size) fin
def lostL (L H : List Sp) : List Sp := H.foldl (fun l r => addS 0 r.1 r.2 l) L
def holesS (S : Sd) (p : Int × Int) : List Sp := if p.2 < p.1 then [] else holesF p.1 p.2 S.A
def lostG (S : Sd) (p : Int × Int) (fin : Bool) : Sd := { S with L := lostL S.L (holesS S p), fin := if fin = true ∧ S.fin = 1 then 2 else S.fin }
def lostS (S : Sd) (off size : Int) (fin : Bool) : Sd := if S.stopped = true then S else lostG S (ofS S off size) fin
def doneB (S : Sd) : Bool := S.ended && decide (S.base = wr S) && decide (S.fin = 3)
def stopG (S : Sd) : Sd := { S with stopped := true, L := [], fin := if S.fin = 2 then 1 else S.fin }
def stopS (S : Sd) : Sd := if doneB S = true then S else stopG S
def finW (S : Sd) : Bool := S.ended && decide (S.sent = wr S) && (decide (S.fin = 0) || decide (S.fin = 2))
def stretch (f t most : Int) : Int × Int × Bool := if 1 ≤ most then (f, f + min (t - f) most, true) else (0, 0, false)
def dueS (S : Sd) (most limit : Int) : Int × Int × Bool :=
  if S.stopped = true then (0, 0, false) else
  match S.L with
  | s :: _ => stretch s.1 (s.2 + 1) most
  | [] => if S.sent < min (wr S) limit then stretch S.sent (min (wr S) limit) most else if finW S = true then (wr S, wr S, true) else (0, 0, false)
def endB (S : Sd) (t : Int) : Bool := S.ended && decide (t = wr S)
def nextG (S : Sd) (f t : Int) : Sd := { S with L := cutS 0 f (t - 1) S.L, sent := max S.sent t, fin := if endB S t = true ∧ S.fin ≠ 3 then 1 else S.fin }
def nextS (S : Sd) (most limit : Int) : Sd := if (dueS S most limit).2.2 = true then nextG S (dueS S most limit).1 (dueS S most limit).2.1 else S
def pieceT (T : List Int) (f t : Int) : List Int := (T.drop f.toNat).take (t - f).toNat
def writeG (S : Sd) (p : List Int) : Sd := { S with T := S.T ++ p }
def finG (S : Sd) : Sd := { S with ended := true }
def new0 (cap : Int) : Sd := ⟨cap, [], 0, 0, [], [], false, 0, false⟩

theorem sdok_new {cap : Int} (h : 1 ≤ cap ∧ cap ≤ 65536) : SdOk (new0 cap) :=
  ⟨h, trivial, trivial, fun x h0 h1 => (by simp [new0] at h1; omega), rfl, fun x hx => (by cases hx), Int.le_refl _, Int.le_refl _, Int.le_refl _, by simp [wr, new0]; omega, by simp [new0]⟩

theorem sdok_write {S : Sd} (h : SdOk S) {p : List Int} (hp : wr S - S.base + p.length ≤ S.cap) : SdOk (writeG S p) := by
  have e : wr (writeG S p) = wr S + p.length := by simp [wr, writeG]
  exact ⟨h.cap, h.gA, h.gL, h.low, h.top, h.dis, h.b0, h.bs, by rw [e]; have := h.sw; show S.sent ≤ _; omega, by rw [e]; show _ ≤ S.base + S.cap; omega, h.fin⟩
theorem sdok_fin {S : Sd} (h : SdOk S) : SdOk (finG S) := ⟨h.cap, h.gA, h.gL, h.low, h.top, h.dis, h.b0, h.bs, h.sw, h.wc, h.fin⟩

/-- What a piece that is due is. -/
structure DueOk (S : Sd) (limit f t : Int) : Prop where
  lo : S.base ≤ f
  le : f ≤ t
  hi : t ≤ wr S
  lim : t ≤ max S.sent limit
  run : S.stopped = false
theorem due_ok {S : Sd} (h : SdOk S) {most limit f t : Int} (hd : dueS S most limit = (f, t, true)) : DueOk S limit f t := by
  unfold dueS at hd
  by_cases hs : S.stopped = true
  · rw [if_pos hs] at hd; simp at hd
  · rw [if_neg hs] at hd
    have hs' : S.stopped = false := by cases hx : S.stopped with | true => exact absurd hx hs | false => rfl
    have hb := h.bs; have hw := h.sw
    cases hL : S.L with
    | cons s L =>
      rw [hL] at hd
      have hg := h.gL2
      rw [hL] at hg
      have g1 := hg.1; have g2 := hg.2.1; have g3 := hg.2.2.1
      simp only [stretch] at hd
      by_cases hm : 1 ≤ most
      · rw [if_pos hm] at hd
        simp only [Prod.mk.injEq] at hd
        obtain ⟨rfl, rfl, -⟩ := hd
        exact ⟨g1, by omega, by omega, by omega, hs'⟩
      · rw [if_neg hm] at hd; simp at hd
    | nil =>
      rw [hL] at hd
      simp only at hd
      by_cases hc : S.sent < min (wr S) limit
      · rw [if_pos hc] at hd
        simp only [stretch] at hd
        by_cases hm : 1 ≤ most
        · rw [if_pos hm] at hd
          simp only [Prod.mk.injEq] at hd
          obtain ⟨rfl, rfl, -⟩ := hd
          exact ⟨hb, by omega, by omega, by omega, hs'⟩
        · rw [if_neg hm] at hd; simp at hd
      · rw [if_neg hc] at hd
        by_cases hf : finW S = true
        · rw [if_pos hf] at hd
          simp only [Prod.mk.injEq] at hd
          obtain ⟨rfl, rfl, -⟩ := hd
          have : S.sent = wr S := by
            unfold finW at hf
            simp only [Bool.and_eq_true, decide_eq_true_eq] at hf
            exact hf.1.2
          exact ⟨by omega, Int.le_refl _, Int.le_refl _, by omega, hs'⟩
        · rw [if_neg hf] at hd; simp at hd

theorem sdok_next {S : Sd} (h : SdOk S) (hw : wr S ≤ 1152921504606846976) {limit f t : Int} (hd : DueOk S limit f t) : SdOk (nextG S f t) := by
  have hb := h.b0; have hbs := h.bs; have hsw := h.sw
  have hg : Gx S.L := good_gx h.gL (by omega) (by omega)
  have hs : S.sent ≤ max S.sent t := by omega
  refine ⟨h.cap, h.gA.top (by show S.sent - 1 ≤ max S.sent t - 1; omega), good_of (cutS_gx hg).1 fun x hx => ?_, h.low, h.top, fun x hx => h.dis x ((memB_cutS hg x).1 hx).1, hb, by show S.base ≤ max S.sent t; omega, by have := hd.hi; show max S.sent t ≤ wr S; omega, h.wc, ?_⟩
  · have := memB_in h.gL ((memB_cutS hg x).1 hx).1
    show 0 ≤ x ∧ x ≤ max S.sent t - 1
    omega
  · have := h.fin
    show 0 ≤ (if endB S t = true ∧ S.fin ≠ 3 then 1 else S.fin) ∧ (if endB S t = true ∧ S.fin ≠ 3 then 1 else S.fin) ≤ 3
    split <;> omega

theorem base_up {S : Sd} (h : SdOk S) {A : List Sp} (hg : Good 0 (S.sent - 1) A) (hA : ∀ x, memB x S.A = true → memB x A = true) :
    (∀ x, 0 ≤ x → x < baseOf S.base A → memB x A = true) ∧ memB (baseOf S.base A) A = false ∧ S.base ≤ baseOf S.base A ∧ baseOf S.base A ≤ S.sent := by
  unfold baseOf
  have hb0 := h.b0; have hbs := h.bs
  by_cases hb : memB S.base A = true
  · rw [if_pos hb]
    have low : ∀ x, 0 ≤ x → x ≤ S.base → memB x A = true := fun x h0 h1 => by
      by_cases c : x = S.base
      · rw [c]; exact hb
      · exact hA x (h.low x h0 (by omega))
    cases A with
    | nil => simp [memB] at hb
    | cons s A =>
      have g1 := hg.1; have g2 := hg.2.1; have g3 := hg.2.2.1; have g4 := hg.2.2.2
      have z : s.1 = 0 := by
        obtain ⟨t, ht, q1, q2⟩ := memB_iff.1 (low 0 (Int.le_refl _) hb0)
        rcases List.mem_cons.1 ht with rfl | ht
        · omega
        · have := g4.mem ht; omega
      have no : memB (s.2 + 1) (s :: A) = false := memB_false fun t ht => by
        rcases List.mem_cons.1 ht with rfl | ht
        · left; omega
        · have := g4.mem ht; right; omega
      simp only [List.headD_cons]
      refine ⟨fun x h0 h1 => memB_true (s := s) (by simp) (by omega) (by omega), no, ?_, by omega⟩
      by_cases c : S.base ≤ s.2 + 1
      · exact c
      · exact (bool_no (low (s.2 + 1) (by omega) (by omega)) no).elim
  · rw [if_neg hb]
    have hb' : memB S.base A = false := by cases hx : memB S.base A with | true => exact absurd hx hb | false => rfl
    exact ⟨fun x h0 h1 => hA x (h.low x h0 h1), hb', Int.le_refl _, hbs⟩

theorem sdok_ack {S : Sd} (h : SdOk S) (hw : wr S ≤ 1152921504606846976) {p : Int × Int} (hp : 0 ≤ p.1 ∧ p.2 ≤ S.sent - 1) (fin : Bool) : SdOk (ackG S p fin) ∧ S.base ≤ (ackG S p fin).base := by
  have hb := h.b0; have hbs := h.bs; have hsw := h.sw
  have hgA : Gx S.A := good_gx h.gA (by omega) (by omega)
  have hgL : Gx S.L := good_gx h.gL (by omega) (by omega)
  have gA' : Good 0 (S.sent - 1) (addS 0 p.1 p.2 S.A) := good_of (addS_gx hgA (by omega) (by omega)).1 fun x hx => by
    rcases (memB_addS hgA x).1 hx with hx | hx
    · exact memB_in h.gA hx
    · omega
  obtain ⟨b1, b2, b3, b4⟩ := base_up h gA' (fun x hx => (memB_addS hgA x).2 (.inl hx))
  refine ⟨⟨h.cap, gA', good_of (cutS_gx hgL).1 fun x hx => memB_in h.gL ((memB_cutS hgL x).1 hx).1, b1, b2, fun x hx => ?_, by show 0 ≤ baseOf S.base _; omega, b4, hsw, by have := h.wc; show wr S ≤ baseOf S.base _ + S.cap; omega, ?_⟩, b3⟩
  · obtain ⟨q1, q2⟩ := (memB_cutS hgL x).1 hx
    have := h.dis x q1
    cases hy : memB x (addS 0 p.1 p.2 S.A) with
    | false => exact hy
    | true =>
      rcases (memB_addS hgA x).1 hy with q | q
      · exact (bool_no q this).elim
      · exact absurd q q2
  · have := h.fin
    show 0 ≤ (if fin = true ∧ S.fin ≠ 0 then 3 else S.fin) ∧ (if fin = true ∧ S.fin ≠ 0 then 3 else S.fin) ≤ 3
    split <;> omega

theorem lostL_gx {L H : List Sp} (hL : Gx L) (hH : ∀ r ∈ H, -9223372036854775808 ≤ r.1 ∧ r.2 ≤ 9223372036854775807) : Gx (lostL L H) ∧ (lostL L H).length ≤ L.length + H.length ∧ ∀ x, memB x (lostL L H) = true ↔ memB x L = true ∨ memB x H = true := by
  induction H generalizing L with
  | nil => exact ⟨hL, by simp [lostL], fun x => by simp [lostL, memB]⟩
  | cons r H ih =>
    have hr := hH r (by simp)
    have h1 := addS_gx (lo := r.1) (hi := r.2) hL hr.1 hr.2
    obtain ⟨i1, i2, i3⟩ := ih h1.1 (fun s hs => hH s (by simp [hs]))
    refine ⟨i1, ?_, fun x => ?_⟩
    · have := h1.2
      have e : (lostL L (r :: H)).length = (lostL (addS 0 r.1 r.2 L) H).length := rfl
      rw [e]
      simp only [List.length_cons]
      omega
    · have e : lostL L (r :: H) = lostL (addS 0 r.1 r.2 L) H := rfl
      rw [e, i3 x, memB_addS hL x, memB_cons]
      simp only [Bool.or_eq_true, Bool.and_eq_true, decide_eq_true_eq]
      constructor
      · rintro ((q | q) | q)
        · exact .inl q
        · exact .inr (.inl q)
        · exact .inr (.inr q)
      · rintro (q | q | q)
        · exact .inl (.inl q)
        · exact .inl (.inr q)
        · exact .inr q

theorem holesS_ok {S : Sd} (h : SdOk S) {p : Int × Int} (hp : 0 ≤ p.1 ∧ p.2 ≤ S.sent - 1) : (∀ r ∈ holesS S p, 0 ≤ r.1 ∧ r.1 ≤ r.2 ∧ r.2 ≤ S.sent - 1) ∧ (holesS S p).length ≤ S.A.length + 1 ∧ ∀ x, memB x (holesS S p) = true → memB x S.A = false := by
  unfold holesS
  by_cases c : p.2 < p.1
  · rw [if_pos c]
    exact ⟨fun r hr => (by cases hr), by simp, fun x hx => (by simp [memB] at hx)⟩
  · rw [if_neg c]
    have hg := (holes_good (lo := p.1) (hi := p.2) h.gA (by omega)).1
    refine ⟨fun r hr => by have := hg.mem hr; omega, ?_, fun x hx => ?_⟩
    · have h1 := holesGo_length p.2 p.1 (withinF p.1 p.2 S.A)
      have h2 := withinF_length p.1 p.2 S.A
      unfold holesF
      omega
    · have hx2 := memB_in hg hx
      rw [memB_holes h.gA (by omega) (by omega)] at hx
      simpa using hx

theorem sdok_lost {S : Sd} (h : SdOk S) (hw : wr S ≤ 1152921504606846976) {p : Int × Int} (hp : 0 ≤ p.1 ∧ p.2 ≤ S.sent - 1) (fin : Bool) : SdOk (lostG S p fin) := by
  have hb := h.b0; have hbs := h.bs; have hsw := h.sw
  have hgL : Gx S.L := good_gx h.gL (by omega) (by omega)
  obtain ⟨k1, k2, k3⟩ := holesS_ok h hp
  obtain ⟨l1, l2, l3⟩ := lostL_gx hgL (H := holesS S p) (fun r hr => by have := k1 r hr; omega)
  refine ⟨h.cap, h.gA, good_of l1 fun x hx => ?_, h.low, h.top, fun x hx => ?_, hb, hbs, hsw, h.wc, ?_⟩
  · rcases (l3 x).1 hx with q | q
    · exact memB_in h.gL q
    · obtain ⟨s, hs, q1, q2⟩ := memB_iff.1 q
      have := k1 s hs
      show 0 ≤ x ∧ x ≤ S.sent - 1
      omega
  · rcases (l3 x).1 hx with q | q
    · exact h.dis x q
    · exact k3 x q
  · have := h.fin
    show 0 ≤ (if fin = true ∧ S.fin = 1 then 2 else S.fin) ∧ (if fin = true ∧ S.fin = 1 then 2 else S.fin) ≤ 3
    split <;> omega

theorem sdok_stop {S : Sd} (h : SdOk S) : SdOk (stopG S) := by
  refine ⟨h.cap, h.gA, trivial, h.low, h.top, fun x hx => by simp [stopG, memB] at hx, h.b0, h.bs, h.sw, h.wc, ?_⟩
  have := h.fin
  show 0 ≤ (if S.fin = 2 then 1 else S.fin) ∧ (if S.fin = 2 then 1 else S.fin) ≤ 3
  split <;> omega
end Go.Proofs.YthihabjegpacaaaGreat
