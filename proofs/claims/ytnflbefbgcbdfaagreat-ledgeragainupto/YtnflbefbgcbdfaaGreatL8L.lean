/- L0O, L0P, L0W, L0X, L0Y, one text. -/
import Derived.Test.YtnflbefbgcbdfaaGreatL8D
import Derived.Test.YtnflbefbgcbdfaaGreatL8K
import Derived.Deep.RegionHeld3
import Derived.Laws.OwnMore
import Derived.Maps.AppendAt
namespace Go.Proofs.YtnflbefbgcbdfaaGreat
set_option maxRecDepth 100000
set_option linter.unusedVariables false

theorem memB_iff {x : Int} {L : List Sp} : memB x L = true ↔ ∃ s ∈ L, s.1 ≤ x ∧ x ≤ s.2 := by
  unfold memB
  rw [List.any_eq_true]
  simp only [Bool.and_eq_true, decide_eq_true_eq]

theorem good_ext {mn mx : Int} {A B : List Sp} (hA : Good mn mx A) (hB : Good mn mx B) (h : ∀ x, memB x A = true ↔ memB x B = true) : A = B := by
  induction A generalizing mn B with
  | nil =>
    cases B with
    | nil => rfl
    | cons t B =>
      have := (h t.1).2 (memB_true (s := t) (by simp) (Int.le_refl _) hB.2.1)
      simp [memB] at this
  | cons s A ih =>
    cases B with
    | nil =>
      have := (h s.1).1 (memB_true (s := s) (by simp) (Int.le_refl _) hA.2.1)
      simp [memB] at this
    | cons t B =>
      have inA : ∀ x, memB x (s :: A) = true → s.1 ≤ x ∧ (x ≤ s.2 ∨ s.2 + 2 ≤ x) := fun x hx => by
        obtain ⟨u, hu, h1, h2⟩ := memB_iff.1 hx
        rcases List.mem_cons.1 hu with rfl | hu
        · exact ⟨h1, .inl h2⟩
        · have := hA.2.2.2.mem hu; have := hA.2.1; omega
      have inB : ∀ x, memB x (t :: B) = true → t.1 ≤ x ∧ (x ≤ t.2 ∨ t.2 + 2 ≤ x) := fun x hx => by
        obtain ⟨u, hu, h1, h2⟩ := memB_iff.1 hx
        rcases List.mem_cons.1 hu with rfl | hu
        · exact ⟨h1, .inl h2⟩
        · have := hB.2.2.2.mem hu; have := hB.2.1; omega
      have e1 := (inB s.1 ((h s.1).1 (memB_true (s := s) (by simp) (Int.le_refl _) hA.2.1))).1
      have e2 := (inA t.1 ((h t.1).2 (memB_true (s := t) (by simp) (Int.le_refl _) hB.2.1))).1
      have e3 : s.2 = t.2 := by
        rcases Int.lt_trichotomy s.2 t.2 with hl | hl | hl
        · have := (inA (s.2 + 1) ((h (s.2 + 1)).2 (memB_true (s := t) (by simp) (by have := hA.2.1; omega) (by omega)))).2
          omega
        · exact hl
        · have := (inB (t.2 + 1) ((h (t.2 + 1)).1 (memB_true (s := s) (by simp) (by have := hB.2.1; omega) (by omega)))).2
          omega
      have e : s = t := Prod.ext (by omega) e3
      subst e
      have := ih (mn := s.2 + 2) hA.2.2.2 hB.2.2.2 (fun x => by
        constructor
        · intro hx
          obtain ⟨u, hu, h1, h2⟩ := memB_iff.1 hx
          have k := hA.2.2.2.mem hu
          obtain ⟨v, hv, h3, h4⟩ := memB_iff.1 ((h x).1 (memB_true (s := u) (by simp [hu]) h1 h2))
          rcases List.mem_cons.1 hv with rfl | hv
          · omega
          · exact memB_true hv h3 h4
        · intro hx
          obtain ⟨u, hu, h1, h2⟩ := memB_iff.1 hx
          have k := hB.2.2.2.mem hu
          obtain ⟨v, hv, h3, h4⟩ := memB_iff.1 ((h x).2 (memB_true (s := u) (by simp [hu]) h1 h2))
          rcases List.mem_cons.1 hv with rfl | hv
          · omega
          · exact memB_true hv h3 h4)
      rw [this]

theorem getLastD_cons (m m' : Sp) (M : List Sp) : (m' :: M).getLastD m = M.getLastD m' := by cases M <;> rfl

theorem grown_mem {k mx lo hi x : Int} {m : Sp} {M : List Sp} (h : Good k mx (m :: M)) (hlh : lo ≤ hi) (hM : ∀ s ∈ m :: M, lo - 1 ≤ s.2 ∧ s.1 ≤ hi + 1) :
    (min lo m.1 ≤ x ∧ x ≤ max hi (M.getLastD m).2) ↔ (memB x (m :: M) = true ∨ (lo ≤ x ∧ x ≤ hi)) := by
  induction M generalizing m k with
  | nil =>
    have := hM m (by simp)
    have := h.2.1
    have e : memB x [m] = true ↔ m.1 ≤ x ∧ x ≤ m.2 := by rw [memB_iff]; simp
    rw [e]
    simp only [List.getLastD]
    omega
  | cons m' M ih =>
    have h1 := hM m (by simp)
    have h2 := h.2.1
    have h3 := h.2.2.2
    have h4 := h3.1
    have h5 := h3.2.1
    have i := ih (m := m') h3 (fun s hs => hM s (by simp at hs; simp [hs]))
    have e : memB x (m :: m' :: M) = true ↔ (m.1 ≤ x ∧ x ≤ m.2) ∨ memB x (m' :: M) = true := by
      rw [memB_iff, memB_iff]
      simp
    have hl : m'.1 ≤ (M.getLastD m').2 := by
      cases M with
      | nil => exact h5
      | cons u M =>
        have hmem : (u :: M).getLastD m' ∈ m' :: u :: M := by
          have := getLastD_mem (M := u :: M) (by simp) m'
          exact List.mem_cons_of_mem _ this
        have := h3.mem hmem
        rcases List.mem_cons.1 hmem with hq | hq
        · rw [hq]; exact h5
        · have := h3.2.2.2.mem hq; omega
    rw [e, getLastD_cons]
    have hmin : min lo m'.1 = lo := Int.min_eq_left (by omega)
    rw [hmin] at i
    generalize (M.getLastD m').2 = z at *
    by_cases hmm : memB x (m' :: M) = true
    · have := i.2 (.inl hmm)
      simp only [hmm, or_true, true_or, iff_true]
      omega
    · have hi2 : (lo ≤ x ∧ x ≤ max hi z) ↔ (lo ≤ x ∧ x ≤ hi) := by rw [i]; simp [hmm]
      have e3 : (((m.1 ≤ x ∧ x ≤ m.2) ∨ memB x (m' :: M) = true) ∨ (lo ≤ x ∧ x ≤ hi)) ↔ ((m.1 ≤ x ∧ x ≤ m.2) ∨ (lo ≤ x ∧ x ≤ hi)) := by simp [hmm]
      rw [e3]
      clear e3 hmm i e ih
      omega

theorem memB_append (x : Int) (A B : List Sp) : memB x (A ++ B) = true ↔ memB x A = true ∨ memB x B = true := by
  unfold memB; rw [List.any_append, Bool.or_eq_true]

theorem memB_addS {L : List Sp} {lo hi : Int} (h : Good (-9223372036854775808) 9223372036854775807 L) (x : Int) : memB x (addS 0 lo hi L) = true ↔ memB x L = true ∨ (lo ≤ x ∧ x ≤ hi) := by
  unfold addS
  by_cases hlh : hi < lo
  · rw [if_pos hlh]
    constructor
    · exact .inl
    · rintro (h | h)
      · exact h
      · omega
  · rw [if_neg hlh, boundF_zero]
    obtain ⟨A, M, D, rfl, hA, hM, hD⟩ := split3 (lo - 1) (hi + 1) h (by omega)
    rw [addF_split h (by omega) hA hM hD, memB_append, memB_append, memB_append, memB_append]
    have e : memB x [grownF lo hi M] = true ↔ memB x M = true ∨ (lo ≤ x ∧ x ≤ hi) := by
      cases M with
      | nil =>
        simp [memB, grownF]
      | cons m M =>
        rw [← grown_mem (h.right.left) (by omega) hM, memB_iff]
        simp [grownF]
    rw [e]
    constructor
    · rintro (h | (h | h) | h)
      · exact .inl (.inl h)
      · exact .inl (.inr (.inl h))
      · exact .inr h
      · exact .inl (.inr (.inr h))
    · rintro ((h | h | h) | h)
      · exact .inl h
      · exact .inr (.inl (.inl h))
      · exact .inr (.inr h)
      · exact .inr (.inl (.inr h))

theorem memB_putL {L P : List Sp} (h : Good (-9223372036854775808) 9223372036854775807 L) (hP : InB P) (x : Int) : memB x (putL L P) = true ↔ memB x L = true ∨ memB x P = true := by
  induction P generalizing L with
  | nil => simp [putL, memB]
  | cons s P ih =>
    have hs := hP s (by simp)
    rw [putL, ih (addS_good (most := 0) h hs.1 hs.2).1 (fun t ht => hP t (by simp [ht])), memB_addS h, memB_iff (L := s :: P), memB_iff (L := P)]
    simp only [List.mem_cons, exists_eq_or_imp]
    constructor
    · rintro ((h | h) | h)
      · exact .inl h
      · exact .inr (.inl h)
      · exact .inr (.inr h)
    · rintro (h | h | h)
      · exact .inl (.inl h)
      · exact .inl (.inr h)
      · exact .inr h

/-- Spans that hold the same numbers make the same set. -/
theorem putL_eq {P Q : List Sp} (hP : InB P) (hQ : InB Q) (h : ∀ s, s ∈ P ↔ s ∈ Q) : putL [] P = putL [] Q := by
  refine good_ext (putL_good (L := []) trivial hP).1 (putL_good (L := []) trivial hQ).1 (fun x => ?_)
  rw [memB_putL (L := []) trivial hP, memB_putL (L := []) trivial hQ, memB_iff (L := P), memB_iff (L := Q)]
  simp only [h]

/-- No hole where all is there. -/
theorem holes_none {A : List Sp} {lo hi : Int} (h : Good (-9223372036854775808) 9223372036854775807 A) (hlh : lo ≤ hi) (hall : ∀ x, lo ≤ x → x ≤ hi → memB x A = true) : holesF lo hi A = [] := by
  obtain ⟨s, hs, h1, h2⟩ := memB_iff.1 (hall lo (Int.le_refl _) hlh)
  obtain ⟨X, Y, rfl⟩ := List.append_of_mem hs
  have hy : ∀ t ∈ Y, s.2 + 1 < t.1 := fun t ht => by
    have := h.right.2.2.2.mem ht
    omega
  have hx : ∀ t ∈ X, t.2 + 1 < s.1 := fun t ht => h.mid ht (t := s) (by simp)
  have h3 : hi ≤ s.2 := by
    rcases Int.lt_or_le s.2 hi with hl | hl
    · obtain ⟨t, ht, k1, k2⟩ := memB_iff.1 (hall (s.2 + 1) (by omega) (by omega))
      rcases List.mem_append.1 ht with ht | ht
      · have := hx t ht; have := h.right.2.1; omega
      · rcases List.mem_cons.1 ht with rfl | ht
        · omega
        · have := hy t ht; omega
    · exact hl
  have e1 : withinF lo hi X = [] := withinF_none fun t ht => by have := hx t ht; omega
  have e2 : withinF lo hi Y = [] := withinF_none fun t ht => by have := hy t ht; omega
  unfold holesF
  rw [withinF_append, e1]
  simp only [withinF, List.nil_append]
  rw [if_pos ⟨by omega, h2⟩, e2]
  have c : clip lo hi s = (lo, hi) := by unfold clip; rw [Int.max_eq_right (by omega), Int.min_eq_right (by omega)]
  rw [c]
  simp [holesGo]
end Go.Proofs.YtnflbefbgcbdfaaGreat

namespace Go.Proofs.YtnflbefbgcbdfaaGreat
set_option maxRecDepth 100000
open Go.RowKit
set_option linter.unusedVariables false
set_option linter.unusedSimpArgs false

theorem ackF_iff {l : Lg} : ∀ {rs : List Sp}, ackF l rs = 0 ↔ ∀ r ∈ rs, r.1 ≤ r.2 ∧ 0 ≤ r.1 ∧ l.fi ≤ r.1 ∧ r.2 < l.ne
  | [] => by simp [ackF]
  | x :: t => by
    refine ⟨ackF_zero, fun h => ?_⟩
    have h0 := h x (by simp)
    unfold ackF
    rw [if_neg (by omega), if_neg (by omega)]
    exact ackF_iff.2 fun r hr => h r (by simp [hr])
theorem mayAck_iff {l : Lg} {rs : List Sp} : l.mayAck rs = 0 ↔ l.op = true ∧ ∀ r ∈ rs, r.1 ≤ r.2 ∧ 0 ≤ r.1 ∧ l.fi ≤ r.1 ∧ r.2 < l.ne := by
  refine ⟨mayAck_zero, fun ⟨h1, h2⟩ => ?_⟩
  unfold Lg.mayAck
  rw [if_neg (by rw [h1]; decide)]
  exact ackF_iff.2 h2
/-- What is told in another order, or more often, is as good. -/
theorem mayAck_mem {l : Lg} {rs qs : List Sp} (h : ∀ s, s ∈ rs ↔ s ∈ qs) : l.mayAck rs = 0 ↔ l.mayAck qs = 0 := by
  rw [mayAck_iff, mayAck_iff]
  simp only [h]
theorem inB_ack {l : Lg} {rs : List Sp} (h : l.mayAck rs = 0) (h62 : l.ne ≤ 4611686018427387904) : InB rs := fun s hs => by
  have := (mayAck_zero h).2 s hs
  omega
theorem perm_put {P rs : List Sp} (hp : P.Perm rs) (hr : InB rs) : putL [] P = putL [] rs :=
  putL_eq (fun s hs => hr s (hp.mem_iff.1 hs)) hr (fun s => hp.mem_iff)
/-- What runs that are told leave, as a function. -/
def Lg.ackBy (l : Lg) (rs : List Sp) : Lg := if l.mayAck rs = 0 then (l.ackd rs).left (fun k => memB k (putL [] rs)) else l
theorem ackR_is {l x : Lg} {rs : List Sp} (h : l.ackR rs x) (h62 : l.ne ≤ 4611686018427387904) : x = l.ackBy (rs.map (belowF l.ne)) := by
  unfold Lg.ackR at h
  unfold Lg.ackBy
  by_cases c : l.mayAck (rs.map (belowF l.ne)) = 0
  · rw [if_pos c] at h ⊢
    obtain ⟨P, hp, e⟩ := h
    rw [e, perm_put hp (inB_ack c h62)]
  · rw [if_neg c] at h ⊢
    exact h
/-- What a step leaves, as a function. -/
def Lg.stepBy (l : Lg) (kd : Int) (s : St) (rs : List Sp) (ms : List Int) : Lg := if kd = 1 then l.addBy (s.at_ l.ne) else if kd = 2 then l.ackBy (rs.map (belowF l.ne)) else if kd = 3 then l.lostBy ms else if kd = 4 then l.drpd else l
theorem stepR_is {l x : Lg} {kd : Int} {s : St} {rs : List Sp} {ms : List Int} (h : l.stepR kd s rs ms x) (h62 : l.ne ≤ 4611686018427387904) : x = l.stepBy kd s rs ms := by
  unfold Lg.stepR at h
  unfold Lg.stepBy
  by_cases k1 : kd = 1
  · rw [if_pos k1] at h ⊢; exact h
  · by_cases k2 : kd = 2
    · rw [if_neg k1, if_pos k2] at h ⊢; exact ackR_is h h62
    · by_cases k3 : kd = 3
      · rw [if_neg k1, if_neg k2, if_pos k3] at h ⊢; exact h
      · by_cases k4 : kd = 4
        · rw [if_neg k1, if_neg k2, if_neg k3, if_pos k4] at h ⊢; exact h
        · rw [if_neg k1, if_neg k2, if_neg k3, if_neg k4] at h ⊢; exact h
theorem foldmax_le (c : Int) : ∀ (rs : List Sp) (a : Int), rs.foldl (fun m x => max m x.2) a ≤ c ↔ a ≤ c ∧ ∀ x ∈ rs, x.2 ≤ c
  | [], a => by simp
  | r :: t, a => by
    rw [List.foldl_cons, foldmax_le c t]
    simp only [List.mem_cons, forall_eq_or_imp]
    constructor
    · rintro ⟨h1, h2⟩; exact ⟨by omega, by omega, h2⟩
    · rintro ⟨h1, h2, h3⟩; exact ⟨by omega, h3⟩
theorem foldmax_mem {rs qs : List Sp} (h : ∀ s, s ∈ rs ↔ s ∈ qs) (a : Int) : rs.foldl (fun m x => max m x.2) a = qs.foldl (fun m x => max m x.2) a := by
  have key : ∀ (A C : List Sp), (∀ s, s ∈ A ↔ s ∈ C) → A.foldl (fun m x => max m x.2) a ≤ C.foldl (fun m x => max m x.2) a := fun A C e => by
    rw [foldmax_le]
    have hc := (foldmax_le (C.foldl (fun m x => max m x.2) a) C a).1 (Int.le_refl _)
    exact ⟨hc.1, fun x hx => hc.2 x ((e x).1 hx)⟩
  exact Int.le_antisymm (key rs qs h) (key qs rs (fun s => (h s).symm))
/-- Two ledgers that answer alike for ever, but for what Told says. -/
def Lg.like (a b : Lg) : Prop := a.op = b.op ∧ a.fi = b.fi ∧ a.ne = b.ne ∧ a.la = b.la ∧ a.ti = b.ti ∧ a.ls = b.ls ∧ a.ks = b.ks
theorem ackBy_like {l : Lg} {rs qs : List Sp} (h : ∀ s, s ∈ rs ↔ s ∈ qs) (h62 : l.ne ≤ 4611686018427387904) : (l.ackBy rs).like (l.ackBy qs) := by
  unfold Lg.ackBy
  by_cases c : l.mayAck rs = 0
  · have c2 := (mayAck_mem h).1 c
    rw [if_pos c, if_pos c2, putL_eq (inB_ack c h62) (inB_ack c2 h62) h]
    exact ⟨rfl, rfl, rfl, foldmax_mem h l.la, rfl, rfl, rfl⟩
  · have c2 : ¬ l.mayAck qs = 0 := fun e => c ((mayAck_mem h).2 e)
    rw [if_neg c, if_neg c2]
    exact ⟨rfl, rfl, rfl, rfl, rfl, rfl, rfl⟩
/-- The answers of both. -/
theorem ans_like {l : Lg} {rs qs P Q : List Sp} (h : ∀ s, s ∈ rs ↔ s ∈ qs) (h62 : l.ne ≤ 4611686018427387904) (c : l.mayAck rs = 0) (hP : P.Perm rs) (hQ : Q.Perm qs) : l.ks.filter (fun s => memB s.nu (putL [] P)) = l.ks.filter (fun s => memB s.nu (putL [] Q)) := by
  have c2 := (mayAck_mem h).1 c
  rw [perm_put hP (inB_ack c h62), perm_put hQ (inB_ack c2 h62), putL_eq (inB_ack c h62) (inB_ack c2 h62) h]
/-- Once more: nothing. -/
theorem again_none {l : Lg} {rs P : List Sp} (h62 : l.ne ≤ 4611686018427387904) (c : l.mayAck rs = 0) (hP : P.Perm rs) : (l.ackBy rs).ks.filter (fun s => memB s.nu (putL [] P)) = [] := by
  rw [perm_put hP (inB_ack c h62)]
  unfold Lg.ackBy
  rw [if_pos c, List.filter_eq_nil_iff]
  intro s hs
  have := (List.mem_filter.1 hs).2
  simpa using this
theorem again_may {l : Lg} {rs : List Sp} (c : l.mayAck rs = 0) : (l.ackBy rs).mayAck rs = 0 := by
  have h := mayAck_iff.1 c
  rw [mayAck_iff]
  unfold Lg.ackBy
  rw [if_pos c]
  exact h
theorem again_like {l : Lg} {rs : List Sp} (h62 : l.ne ≤ 4611686018427387904) : ((l.ackBy rs).ackBy rs).like (l.ackBy rs) := by
  by_cases c : l.mayAck rs = 0
  · have c2 := again_may c
    have e0 := again_none h62 c (List.Perm.refl rs)
    have ks2 : ((l.ackBy rs).ks.filter (fun s => !memB s.nu (putL [] rs))) = (l.ackBy rs).ks := by
      rw [List.filter_eq_self]
      intro s hs
      rw [List.filter_eq_nil_iff] at e0
      have := e0 s hs
      simpa using this
    have la2 : ((l.ackBy rs).ackd rs).la = (l.ackBy rs).la := by
      show rs.foldl (fun m x => max m x.2) (l.ackBy rs).la = _
      refine Int.le_antisymm ((foldmax_le _ _ _).2 ⟨Int.le_refl _, fun x hx => ?_⟩) ((foldmax_le _ rs _).1 (Int.le_refl _)).1
      have e : (l.ackBy rs).la = rs.foldl (fun m x => max m x.2) l.la := by unfold Lg.ackBy; rw [if_pos c]; rfl
      rw [e]
      exact ((foldmax_le _ rs l.la).1 (Int.le_refl _)).2 x hx
    have e1 : (l.ackBy rs).ackBy rs = ((l.ackBy rs).ackd rs).left (fun k => memB k (putL [] rs)) := by
      clear e0 ks2 la2
      generalize l.ackBy rs = m at c2 ⊢
      unfold Lg.ackBy
      rw [if_pos c2]
    rw [e1]
    exact ⟨rfl, rfl, rfl, la2, rfl, rfl, ks2⟩
  · have e : l.ackBy rs = l := by unfold Lg.ackBy; rw [if_neg c]
    rw [e, e]
    exact ⟨rfl, rfl, rfl, rfl, rfl, rfl, rfl⟩
/-- The runs backwards, and once more. -/
theorem both_mem (rs : List Sp) (s : Sp) : s ∈ rs ↔ s ∈ rs.reverse ++ rs := by simp
end Go.Proofs.YtnflbefbgcbdfaaGreat

namespace Go.Proofs.YtnflbefbgcbdfaaGreat
set_option maxRecDepth 100000
open Go.RowKit
set_option linter.unusedVariables false
set_option linter.unusedSimpArgs false

def Lg.told_ (l : Lg) : Prop := ∀ s ∈ l.ks, s.told
theorem St.told.at_ {s : St} (h : s.told) (nx : Int) : (s.at_ nx).told := h
theorem told_left {l : Lg} (h : l.told_) (M : Int → Bool) : (l.left M).told_ := fun s hs => h s (List.mem_filter.1 hs).1
theorem told_add {l : Lg} (h : l.told_) {s : St} (hs : s.told) : (l.addBy s).told_ := by
  unfold Lg.addBy
  split
  · split
    · refine told_left (l := l.added s) (fun x hx => ?_) _
      have hx2 : x ∈ l.ks ++ [s] := hx
      rcases List.mem_append.1 hx2 with e | e
      · exact h x e
      · simp only [List.mem_singleton] at e
        subst e
        exact hs
    · exact h
  · exact h
theorem told_ack {l : Lg} (h : l.told_) (rs : List Sp) : (l.ackBy rs).told_ := by
  unfold Lg.ackBy
  split
  · exact told_left (l := l.ackd rs) h _
  · exact h
/-- A step keeps it. -/
theorem told_step {l : Lg} (h : l.told_) {s : St} (hs : s.told) (kd : Int) (rs : List Sp) (ms : List Int) : (l.stepBy kd s rs ms).told_ := by
  unfold Lg.stepBy
  split
  · exact told_add h (hs.at_ _)
  · split
    · exact told_ack h _
    · split
      · exact told_left h _
      · split
        · exact told_left (l := { l with op := false }) h _
        · exact h
theorem told_fresh (first : Int) : (Lg.fresh first).told_ := fun s hs => by simp [Lg.fresh] at hs
/-- Steps one behind the other. -/
structure Stp1 where
  kd : Int
  s : St
  rs : List Sp
  ms : List Int
def Lg.stepsBy (l : Lg) : List Stp1 → Lg
  | [] => l
  | o :: t => (l.stepBy o.kd o.s o.rs o.ms).stepsBy t
theorem told_steps : ∀ (os : List Stp1) (l : Lg), l.told_ → (∀ o ∈ os, o.s.told) → (l.stepsBy os).told_
  | [], l, h, _ => h
  | o :: t, l, h, ho => told_steps t _ (told_step h (ho o (by simp)) _ _ _) (fun o' h' => ho o' (by simp [h']))
theorem steps_snoc (l : Lg) : ∀ (os : List Stp1) (o : Stp1), l.stepsBy (os ++ [o]) = (l.stepsBy os).stepBy o.kd o.s o.rs o.ms := by
  intro os o
  induction os generalizing l with
  | nil => rfl
  | cons x t ih => exact ih _
end Go.Proofs.YtnflbefbgcbdfaaGreat

namespace Go.Proofs.YtnflbefbgcbdfaaGreat
open Go.RowKit Go.Shelf
set_option linter.unusedVariables false
set_option maxRecDepth 100000
set_option maxHeartbeats 1000000

theorem bx_gr {W W' : World} {b : Nat} {t : TypeId} {v : Value} (h : Boxed W b t v) (g : W.grownBy W' none) : Boxed W' b t v := (g.block b (Boxed.lt h) (by simp)).trans h
/-- A region that draws, reads and calls, where a panic may be heard of. -/
theorem region_held_here {n : Nat} {P : Program} {id : Nat} {Q : Exit → Act → World → Prop} {a : Act} {w : World} {ops : Array Oper} (S : World → Prop) (hm : P.follows .mixedOrders = true) (hS : S w.drew)
    (h : S w.drew → wpAnyH P .any ops (fun e a w => e = .normal ∧ Q .normal a w) S ops.size (Array.replicate ops.size false) a w.drew) : (Code.region id ops true).wpIn Fence.wide n P Q a w :=
  wpIn_mono (wpIn_wide.2 (wp_region_held_drew (S := S) hm hS h)) (fun e a w h => by obtain ⟨rfl, h⟩ := h; exact h)
/-- A block of cells. -/
def InC (W : World) (g : Nat) : Prop := ∃ o : Obj, W.heap[g]? = some o ∧ o.isCells = true
theorem InC.blk {W : World} {g : Nat} {cs : Array Value} {t : TypeId} (h : Blk W g cs t) : InC W g := ⟨_, h, rfl⟩
section
variable {R : Nat → Prop} {W W' : World} {lw b q : Nat} {nv zv fv kv va : Value} {l : Lg} {T : List Tr}
theorem LW.kept (h : LW R W lw b q nv zv fv kv va l T) (hz : W.heap.size ≤ W'.heap.size) (hk : ∀ x, ownL lw b q nv zv fv kv va x ∨ R x → W'.heap[x]? = W.heap[x]?) : LW R W' lw b q nv zv fv kv va l T := by
  have o : ∀ x, ownL lw b q nv zv fv kv va x → W'.heap[x]? = W.heap[x]? := fun x hx => hk x (.inl hx)
  refine ⟨(o lw (.inl rfl)).trans h.ld, h.n_.kept fun g e => o g (.inr (.inr (.inr (.inl e)))), h.z_.kept fun g e => o g (.inr (.inr (.inr (.inr (.inl e))))), h.f_.kept fun g e => o g (.inr (.inr (.inr (.inr (.inr (.inl e)))))), ⟨(o b (.inr (.inl rfl))).trans h.lg.blk, ?_, ?_, fun g hg => Nat.lt_of_lt_of_le (h.lg.low g hg) hz, h.lg.nb, h.lg.nq, h.lg.nk, h.lg.na⟩, h.nz, h.ro, h.ok⟩
  · exact h.lg.set.kept (o q (.inr (.inr (.inl rfl)))) (fun g e => o g (.inr (.inr (.inr (.inr (.inr (.inr (.inr e))))))))
  · exact h.lg.row.kept (fun g hg => hk g (.inr hg)) (fun g e => o g (.inr (.inr (.inr (.inr (.inr (.inr (.inl e))))))))
/-- The blocks that are written are cells. -/
theorem LW.oc (h : LW R W lw b q nv zv fv kv va l T) : ∀ x, ownL lw b q nv zv fv kv va x → InC W x := by
  rintro x (rfl | rfl | rfl | e | e | e | e | e)
  · exact InC.blk h.ld
  · exact InC.blk h.lg.blk
  · exact InC.blk (show Blk W x _ 116 from h.lg.set.blk)
  · obtain ⟨cs, hc⟩ := h.n_.ty x e; exact InC.blk hc
  · obtain ⟨cs, hc⟩ := h.z_.ty x e; exact InC.blk hc
  · obtain ⟨cs, hc⟩ := h.f_.ty x e; exact InC.blk hc
  · obtain ⟨cs, hc⟩ := h.lg.row.ty x e; exact InC.blk hc
  · obtain ⟨cs, hc⟩ := row_ty h.lg.set.row x e; exact InC.blk hc
theorem LW.ol (h : LW R W lw b q nv zv fv kv va l T) (x : Nat) (hx : ownL lw b q nv zv fv kv va x) : x < W.heap.size := by
  obtain ⟨o, h1, -⟩ := h.oc x hx
  exact (Array.getElem?_eq_some_iff.1 h1).1
/-- A box of another kind is none of the blocks that are written. -/
theorem LW.nbox (h : LW R W lw b q nv zv fv kv va l T) {x : Nat} {t : TypeId} {v : Value} (hb : Boxed W x t v) (n1 : t ≠ 60) (n2 : t ≠ 75) (n3 : t ≠ 116) (n4 : t ≠ 2) (n5 : t ≠ 3) (n6 : t ≠ 46) (n7 : t ≠ 63) : ¬ ownL lw b q nv zv fv kv va x := by
  have hx : Blk W x #[v] t := hb
  rintro (e | e | e | e | e | e | e | e)
  · exact ty_ne hx h.ld n1 e
  · exact ty_ne hx h.lg.blk n2 e
  · exact ty_ne hx (show Blk W q _ 116 from h.lg.set.blk) n3 e
  · obtain ⟨cs, hc⟩ := h.n_.ty x e; exact ty_ne hx hc n4 rfl
  · obtain ⟨cs, hc⟩ := h.z_.ty x e; exact ty_ne hx hc n4 rfl
  · obtain ⟨cs, hc⟩ := h.f_.ty x e; exact ty_ne hx hc n5 rfl
  · obtain ⟨cs, hc⟩ := h.lg.row.ty x e; exact ty_ne hx hc n6 rfl
  · obtain ⟨cs, hc⟩ := row_ty h.lg.set.row x e; exact ty_ne hx hc n7 rfl
theorem DoP.box {D : Lg → Prop} {e : Ending} (h : LW R W lw b q nv zv fv kv va l T) (d : DoP D R W lw b q nv zv fv kv va l T e W') {x : Nat} {t : TypeId} {v : Value} (hb : Boxed W x t v) (n1 : t ≠ 60) (n2 : t ≠ 75) (n3 : t ≠ 116) (n4 : t ≠ 2) (n5 : t ≠ 3) (n6 : t ≠ 46) (n7 : t ≠ 63) : Boxed W' x t v := by
  obtain ⟨R', nv', zv', fv', kv', va', l', T', -, -, d2, -⟩ := d
  exact (d2.block x hb.lt (h.nbox hb n1 n2 n3 n4 n5 n6 n7)).trans hb
end
theorem and_61 (n : Int) : bits .and .i64 n 2305843009213693951 = n % 2305843009213693952 := by
  have h1 : (BitVec.ofInt 64 2305843009213693951).toNat = 2 ^ 61 - 1 := by decide
  have key : (BitVec.ofInt 64 n &&& BitVec.ofInt 64 2305843009213693951).toNat = (n % ((2 ^ 64 : Nat) : Int)).toNat % 2 ^ 61 := by
    rw [BitVec.toNat_and, BitVec.toNat_ofInt, h1, Nat.and_two_pow_sub_one_eq_mod]
  show IntKind.i64.wrap ((BitVec.ofInt 64 n &&& BitVec.ofInt 64 2305843009213693951).toNat : Nat) = n % 2305843009213693952
  rw [key, IntKind.wrap_i64]
  omega
theorem LM.start {w w2 : World} {b q : Nat} {f : Int} (g1 : w.grownBy w2 none) (h : ∃ w1 : World, w.grownBy w1 none ∧ SH w1 w2 b q (.slice none 0 0) (.slice none 0 0) (Lg.fresh f) (fun _ => False)) (h0 : 0 ≤ f) :
    LM w f (fun _ => False) (w2.alloc (.cells (ldc b (.slice none 0 0) (.slice none 0 0) (.slice none 0 0) f true) 60)) w2.heap.size b q (.slice none 0 0) (.slice none 0 0) (.slice none 0 0) (.slice none 0 0) (.slice none 0 0) (Lg.fresh f) [] 0 := by
  obtain ⟨w1, g0, hs⟩ := h
  have gA := grown_alloc w2 (.cells (ldc b (.slice none 0 0) (.slice none 0 0) (.slice none 0 0) f true) 60)
  have z1 := g0.size
  have z2 := g1.size
  have lb := hs.lb
  have lq := hs.lq
  refine ⟨LW.new (hs.grown gA) h0 (Blk.new _ _ _), Kp.grown (grown_trans g1 gA) _, fun x hx => ?_, Nat.le_refl _, by show f ≤ _; omega⟩
  rcases hx with e | e | e | e | e | e | e | e
  · omega
  · omega
  · omega
  all_goals cases e

/-- What of a load changes. -/
structure Lx where
  nv : Value
  zv : Value
  fv : Value
  kv : Value
  va : Value
  T : List Tr
  R : Nat → Prop
abbrev Lx.own (x : Lx) (lw b q : Nat) (g : Nat) : Prop := ownL lw b q x.nv x.zv x.fv x.kv x.va g
/-- Two loads, none of whose blocks is one of the other's. -/
structure L2 (w0 : World) (N0 : Int) (w : World) (la ba qa lb bb qb : Nat) (x y : Lx) (l m : Lg) (i j : Nat) : Prop where
  a_ : LM w0 N0 x.R w la ba qa x.nv x.zv x.fv x.kv x.va l x.T i
  b_ : LM w0 N0 y.R w lb bb qb y.nv y.zv y.fv y.kv y.va m y.T j
  a2b : ∀ g, x.own la ba qa g → ¬ (y.own lb bb qb g ∨ y.R g)
  b2a : ∀ g, y.own lb bb qb g → ¬ (x.own la ba qa g ∨ x.R g)
section
variable {w0 w w' : World} {N0 : Int} {la ba qa lb bb qb : Nat} {x y : Lx} {l m : Lg} {i j : Nat}
theorem L2.swap (h : L2 w0 N0 w la ba qa lb bb qb x y l m i j) : L2 w0 N0 w lb bb qb la ba qa y x m l j i := ⟨h.b_, h.a_, h.b2a, h.a2b⟩
theorem L2.grown (h : L2 w0 N0 w la ba qa lb bb qb x y l m i j) (g : w.grownBy w' none) : L2 w0 N0 w' la ba qa lb bb qb x y l m i j := ⟨h.a_.grown g, h.b_.grown g, h.a2b, h.b2a⟩
/-- A step of the first one. -/
theorem L2.step {D : Lg → Prop} {e : Ending} (h : L2 w0 N0 w la ba qa lb bb qb x y l m i j) (d : DoP D x.R w la ba qa x.nv x.zv x.fv x.kv x.va l x.T e w') :
    e = .returned (.bool true) ∧ ∃ x' l', L2 w0 N0 w' la ba qa lb bb qb x' y l' m (i + 1) j ∧ D l' := by
  obtain ⟨R', nv', zv', fv', kv', va', l', T', rfl, d1, d2, d3, d4, d5, d6, d7, d8⟩ := d
  have hk : ∀ g, y.own lb bb qb g ∨ y.R g → w'.heap[g]? = w.heap[g]? := fun g hg => by
    have hl : g < w.heap.size := hg.elim (h.b_.lw_.ol g) (h.b_.lw_.lg.low g)
    exact d2.block g hl (fun e => h.a2b g e hg)
  have hs : ∀ g, y.own lb bb qb g ∨ y.R g → g < w.heap.size := fun g hg => hg.elim (h.b_.lw_.ol g) (h.b_.lw_.lg.low g)
  have kp := h.a_.kp.trans (d2.mono fun g _ e => h.a_.lo g e)
  have sz := h.a_.kp.size
  refine ⟨rfl, ⟨nv', zv', fv', kv', va', T', R'⟩, l', ⟨⟨d1, kp, fun g hg => ?_, ?_, ?_⟩, ⟨h.b_.lw_.kept d2.size hk, kp, h.b_.lo, h.b_.tl, h.b_.ne⟩, fun g hg hy => ?_, fun g hg hx => ?_⟩, d8⟩
  · rcases d3 g hg with q1 | q1
    · exact h.a_.lo g q1
    · omega
  · have := h.a_.tl; show T'.length ≤ _; omega
  · have := h.a_.ne; omega
  · rcases d3 g hg with q1 | q1
    · exact h.a2b g q1 hy
    · have := hs g hy; omega
  · rcases hx with q1 | q1
    · rcases d3 g q1 with q2 | q2
      · exact h.b2a g hg (.inl q2)
      · have := hs g (.inl hg); omega
    · rcases d4 g q1 with q2 | q2
      · exact h.b2a g hg (.inr q2)
      · have := hs g (.inl hg); omega
end
/-- The blocks that a ledger writes. -/
def ownG (b q : Nat) (kv va : Value) (x : Nat) : Prop := x = b ∨ x = q ∨ kv.ownBlock = some x ∨ va.ownBlock = some x
/-- Two ledgers side by side, made since w0. -/
structure G2 (w0 w : World) (ba qa bb qb : Nat) (ka va kb vb : Value) (Ra Rb : Nat → Prop) (l m : Lg) : Prop where
  a_ : LgAt Ra w ba qa ka va l
  b_ : LgAt Rb w bb qb kb vb m
  a2b : ∀ g, ownG ba qa ka va g → ¬ (ownG bb qb kb vb g ∨ Rb g)
  b2a : ∀ g, ownG bb qb kb vb g → ¬ (ownG ba qa ka va g ∨ Ra g)
  kp : Kp (fun x => w0.heap.size ≤ x) w0 w
  la : ∀ g, ownG ba qa ka va g → w0.heap.size ≤ g
  lb : ∀ g, ownG bb qb kb vb g → w0.heap.size ≤ g
section
variable {w0 w w' : World} {ba qa bb qb : Nat} {ka va kb vb ka' va' : Value} {Ra Rb : Nat → Prop} {l l' m : Lg}
theorem ownG_ownL {lw b q : Nat} {nv zv fv kv va : Value} {g : Nat} (h : ownG b q kv va g) : ownL lw b q nv zv fv kv va g := by
  rcases h with e | e | e | e
  · exact .inr (.inl e)
  · exact .inr (.inr (.inl e))
  · exact .inr (.inr (.inr (.inr (.inr (.inr (.inl e))))))
  · exact .inr (.inr (.inr (.inr (.inr (.inr (.inr e))))))
theorem L2.g2 {N0 : Int} {la lb : Nat} {x y : Lx} {i j : Nat} (h : L2 w0 N0 w la ba qa lb bb qb x y l m i j) : G2 w0 w ba qa bb qb x.kv x.va y.kv y.va x.R y.R l m :=
  ⟨h.a_.lw_.lg, h.b_.lw_.lg, fun g hg hy => h.a2b g (ownG_ownL hg) (hy.imp ownG_ownL id), fun g hg hx => h.b2a g (ownG_ownL hg) (hx.imp ownG_ownL id), h.a_.kp, fun g hg => h.a_.lo g (ownG_ownL hg), fun g hg => h.b_.lo g (ownG_ownL hg)⟩
theorem G2.swap (h : G2 w0 w ba qa bb qb ka va kb vb Ra Rb l m) : G2 w0 w bb qb ba qa kb vb ka va Rb Ra m l := ⟨h.b_, h.a_, h.b2a, h.a2b, h.kp, h.lb, h.la⟩
theorem G2.grown (h : G2 w0 w ba qa bb qb ka va kb vb Ra Rb l m) (g : w.grownBy w' none) : G2 w0 w' ba qa bb qb ka va kb vb Ra Rb l m := ⟨h.a_.grown g, h.b_.grown g, h.a2b, h.b2a, h.kp.trans (Kp.grown g _), h.la, h.lb⟩
theorem LgAt.ol {R : Nat → Prop} {b q : Nat} {kv va : Value} (h : LgAt R w b q kv va l) (g : Nat) (hg : ownG b q kv va g) : g < w.heap.size := by
  rcases hg with rfl | rfl | e | e
  · exact h.blk.lt
  · exact (show Blk w g _ 116 from h.set.blk).lt
  · exact h.row.lt g e
  · exact row_lt h.set.row g e
/-- The first one goes on. -/
theorem G2.step (h : G2 w0 w ba qa bb qb ka va kb vb Ra Rb l m) (hl : LgAt Ra w' ba qa ka' va' l') (hk : ka'.ownBlock = ka.ownBlock) (hv : va'.ownBlock = va.ownBlock ∨ ∀ g, va'.ownBlock = some g → w.heap.size ≤ g) (k : Kp (ownG ba qa ka va) w w') : G2 w0 w' ba qa bb qb ka' va' kb vb Ra Rb l' m := by
  have sz := h.kp.size
  have own : ∀ g, ownG ba qa ka' va' g → ownG ba qa ka va g ∨ w.heap.size ≤ g := by
    rintro g (e | e | e | e)
    · exact .inl (.inl e)
    · exact .inl (.inr (.inl e))
    · exact .inl (.inr (.inr (.inl (by rw [← hk]; exact e))))
    · rcases hv with q1 | q1
      · exact .inl (.inr (.inr (.inr (by rw [← q1]; exact e))))
      · exact .inr (q1 g e)
  have hs : ∀ g, ownG bb qb kb vb g ∨ Rb g → g < w.heap.size := fun g hg => hg.elim (h.b_.ol g) (h.b_.low g)
  refine ⟨hl, h.b_.kept k fun g hg => ?_, fun g hg hy => ?_, fun g hg hx => ?_, h.kp.trans (k.mono fun g _ e => h.la g e), fun g hg => ?_, h.lb⟩
  · have := h.a2b g hg
    unfold ownG at this
    exact ⟨fun e => this (.inr e), fun e => this (.inl (.inl e)), fun e => this (.inl (.inr (.inl e))), fun e => this (.inl (.inr (.inr (.inl e)))), fun e => this (.inl (.inr (.inr (.inr e))))⟩
  · rcases own g hg with q1 | q1
    · exact h.a2b g q1 hy
    · have := hs g hy; omega
  · rcases hx with q1 | q1
    · rcases own g q1 with q2 | q2
      · exact h.b2a g hg (.inl q2)
      · have := hs g (.inl hg); omega
    · exact h.b2a g hg (.inr q1)
  · rcases own g hg with q1 | q1
    · exact h.la g q1
    · omega
/-- What an answer tells stays where the other one goes on. -/
theorem KvAt.by_ {Ro : Nat → Prop} {ov : Value} {ks : List St} {X : World} (h : KvAt Ro w ov ks) (hX : ∀ g, Ro g → X.heap.size ≤ g ∧ g < w.heap.size) (hov : ∀ g, ov.ownBlock = some g → X.heap.size ≤ g) {S : Nat → Prop} (hS : ∀ g, S g → g < X.heap.size) (k : Kp S w w') : KvAt Ro w' ov ks :=
  h.kept (fun g hg => k.block g (hX g hg).2 (fun e => by have := hS g e; have := (hX g hg).1; omega)) (fun g hg => k.block g (h.lt g hg) (fun e => by have := hS g e; have := hov g hg; omega))
end
theorem own_next {w : World} {b q : Nat} {kv va kv' va' : Value} (hk : kv'.ownBlock = kv.ownBlock) (hv : va'.ownBlock = va.ownBlock ∨ ∀ g, va'.ownBlock = some g → w.heap.size ≤ g) : ∀ g, ownG b q kv' va' g → ownG b q kv va g ∨ w.heap.size ≤ g := by
  rintro g (e | e | e | e)
  · exact .inl (.inl e)
  · exact .inl (.inr (.inl e))
  · exact .inl (.inr (.inr (.inl (by rw [← hk]; exact e))))
  · rcases hv with q1 | q1
    · exact .inl (.inr (.inr (.inr (by rw [← q1]; exact e))))
    · exact .inr (q1 g e)
/-- A ledger acknowledges what may be. -/
theorem G2.ack {w0 w : World} {ba qa bb qb : Nat} {ka va kb vb : Value} {Ra Rb : Nat → Prop} {l m : Lg} (h : G2 w0 w ba qa bb qb ka va kb vb Ra Rb l m) (v : Value) (rs : List Sp) (hv : Row w v rs) (hvb : ∀ g, v.ownBlock = some g → ¬ ownG ba qa ka va g) (hr : rs.length ≤ 1100000) (hm : l.mayAck rs = 0) (hac : AcOk l.ac) (hne : l.ne ≤ 4611686018427387904) (hn : l.ks.length ≤ 1100000) :
    Calls Tryz.prog 15 #[.pointer (some ⟨ba, 0, none⟩), v] w fun e w' => ∃ P ov Ro ka' va', P.Perm rs ∧ e = .returned (.tuple #[ov, .int .i64 0]) ∧ KvAt Ro w' ov (l.ks.filter (fun s => memB s.nu (putL [] P))) ∧ (∀ g, Ro g → w.heap.size ≤ g ∧ g < w'.heap.size) ∧ (∀ g, ov.ownBlock = some g → w.heap.size ≤ g) ∧ (∀ g, ownG ba qa ka' va' g → ownG ba qa ka va g ∨ w.heap.size ≤ g) ∧ G2 w0 w' ba qa bb qb ka' va' kb vb Ra Rb ((l.ackd rs).left (fun k => memB k (putL [] P))) m ∧ Kp (ownG ba qa ka va) w w' := by
  refine (ack_ok ba qa ka va l Ra w v rs h.a_ hv (fun g e => ?_) hr hm hac hne hn).mono ?_
  · have := hvb g e
    unfold ownG at this
    exact ⟨fun e => this (.inl e), fun e => this (.inr (.inl e)), fun e => this (.inr (.inr (.inr e)))⟩
  · rintro e w' ⟨P, ov, Ro, kv', va', hP, rfl, p2, p3, p4, p5, p6, p7, p8⟩
    exact ⟨P, ov, Ro, kv', va', hP, rfl, p2, p3, fun g e => (p4 g e).1, own_next p6 p7, h.step p5 p6 p7 p8, p8⟩
end Go.Proofs.YtnflbefbgcbdfaaGreat

namespace Go.Proofs.YtnflbefbgcbdfaaGreat
open Go.RowKit
set_option linter.unusedVariables false
set_option linter.unusedSimpArgs false
set_option maxRecDepth 100000
set_option maxHeartbeats 1000000

/-- What an Ack answers. -/
def Lg.ansBy (l : Lg) (rs : List Sp) : List St := if l.mayAck rs = 0 then l.ks.filter (fun s => memB s.nu (putL [] rs)) else []
theorem ansBy_mem {l : Lg} {rs qs : List Sp} (h : ∀ s, s ∈ rs ↔ s ∈ qs) (h62 : l.ne ≤ 4611686018427387904) : l.ansBy rs = l.ansBy qs := by
  unfold Lg.ansBy
  by_cases c : l.mayAck rs = 0
  · rw [if_pos c, if_pos ((mayAck_mem h).1 c)]
    exact ans_like h h62 c (List.Perm.refl _) (List.Perm.refl _)
  · rw [if_neg c, if_neg (fun e => c ((mayAck_mem h).2 e))]
theorem again_ans {l : Lg} {rs : List Sp} (h62 : l.ne ≤ 4611686018427387904) : (l.ackBy rs).ansBy rs = [] := by
  unfold Lg.ansBy
  by_cases c : (l.ackBy rs).mayAck rs = 0
  · rw [if_pos c]
    by_cases c1 : l.mayAck rs = 0
    · exact again_none h62 c1 (List.Perm.refl _)
    · have e : l.ackBy rs = l := by unfold Lg.ackBy; rw [if_neg c1]
      rw [e] at c
      exact absurd c c1
  · rw [if_neg c]
theorem ansBy_told {l : Lg} (h : l.told_) (rs : List Sp) : ∀ s ∈ l.ansBy rs, s.told := fun s hs => by
  unfold Lg.ansBy at hs
  split at hs
  · exact h s (List.mem_filter.1 hs).1
  · cases hs
theorem ansBy_len (l : Lg) (rs : List Sp) : (l.ansBy rs).length ≤ l.ks.length := by
  unfold Lg.ansBy
  split
  · exact List.length_filter_le _ _
  · exact Nat.zero_le _
theorem ackBy_ne (l : Lg) (rs : List Sp) : (l.ackBy rs).ne = l.ne := by
  unfold Lg.ackBy
  split <;> rfl
theorem ackBy_ks {l : Lg} {rs : List Sp} {s : St} (h : s ∈ (l.ackBy rs).ks) : s ∈ l.ks := by
  unfold Lg.ackBy at h
  split at h
  · exact (List.mem_filter.1 h).1
  · exact h
theorem ackBy_len (l : Lg) (rs : List Sp) : (l.ackBy rs).ks.length ≤ l.ks.length := by
  unfold Lg.ackBy
  split
  · exact List.length_filter_le _ _
  · exact Nat.le_refl _
theorem ackBy_ac {l : Lg} (h : AcOk l.ac) (h62 : l.ne ≤ 4611686018427387904) (rs : List Sp) : AcOk (l.ackBy rs).ac := by
  unfold Lg.ackBy
  split
  · rename_i c
    have hb := (mayAck_zero c).2
    exact h.fold (rs := rs) fun r hr => by have := hb r hr; omega
  · exact h
/-- The bounds of what a ledger knows. -/
structure LBd (l : Lg) : Prop where
  ac : AcOk l.ac
  ne : l.ne ≤ 4611686018427387904
  kl : l.ks.length ≤ 256
  si : ∀ s ∈ l.ks, 0 ≤ s.si ∧ s.si ≤ 65535
theorem LBd.ack {l : Lg} (h : LBd l) (rs : List Sp) : LBd (l.ackBy rs) := ⟨ackBy_ac h.ac h.ne rs, by rw [ackBy_ne]; exact h.ne, Nat.le_trans (ackBy_len l rs) h.kl, fun s hs => h.si s (ackBy_ks hs)⟩
theorem vw_like {a b : Lg} (h : a.like b) : vw a (flt a.ks) a.ks.length (wtg a.ks) = vw b (flt b.ks) b.ks.length (wtg b.ks) := by
  obtain ⟨h1, h2, h3, h4, h5, h6, h7⟩ := h
  unfold vw
  rw [h1, h3, h4, h6, h7]
theorem like_refl (a : Lg) : a.like a := ⟨rfl, rfl, rfl, rfl, rfl, rfl, rfl⟩
theorem like_trans {a b c : Lg} (h : a.like b) (k : b.like c) : a.like c := ⟨h.1.trans k.1, h.2.1.trans k.2.1, h.2.2.1.trans k.2.2.1, h.2.2.2.1.trans k.2.2.2.1, h.2.2.2.2.1.trans k.2.2.2.2.1, h.2.2.2.2.2.1.trans k.2.2.2.2.2.1, h.2.2.2.2.2.2.trans k.2.2.2.2.2.2⟩
theorem left_none (l : Lg) : l.left (fun k => decide (k ∈ ([] : List Int))) = l := by
  unfold Lg.left
  rw [List.filter_eq_self.2 (fun x _ => by simp)]

section
variable {w0 w : World} {ba qa bb qb : Nat} {ka va kb vb : Value} {Ra Rb : Nat → Prop} {l m : Lg}
/-- A ledger of two acknowledges, or refuses. -/
theorem G2.ack_any (h : G2 w0 w ba qa bb qb ka va kb vb Ra Rb l m) (v : Value) (rs : List Sp) (hv : Row w v rs) (hvb : ∀ g, v.ownBlock = some g → ¬ ownG ba qa ka va g) (hr : rs.length ≤ 1100000) (hb : LBd l) :
    Calls Tryz.prog 15 #[.pointer (some ⟨ba, 0, none⟩), v] w fun e w' => ∃ ov er Ro ka' va', e = .returned (.tuple #[ov, .int .i64 er]) ∧ (er = 0 ↔ l.mayAck rs = 0) ∧ KvAt Ro w' ov (l.ansBy rs) ∧ (∀ g, Ro g → w.heap.size ≤ g ∧ g < w'.heap.size) ∧ (∀ g, ov.ownBlock = some g → w.heap.size ≤ g) ∧ (∀ g, ownG ba qa ka' va' g → ownG ba qa ka va g ∨ w.heap.size ≤ g) ∧ G2 w0 w' ba qa bb qb ka' va' kb vb Ra Rb (l.ackBy rs) m ∧ Kp (ownG ba qa ka va) w w' := by
  by_cases c : l.mayAck rs = 0
  · refine (h.ack v rs hv hvb hr c hb.ac hb.ne (by have := hb.kl; omega)).mono ?_
    rintro e w' ⟨P, ov, Ro, ka', va', hP, rfl, p1, p2, p3, p6, p4, p5⟩
    have e1 := perm_put hP (inB_ack c hb.ne)
    refine ⟨ov, 0, Ro, ka', va', rfl, ⟨fun _ => c, fun _ => rfl⟩, ?_, p2, p3, p6, ?_, p5⟩
    · unfold Lg.ansBy
      rw [if_pos c, ← e1]
      exact p1
    · unfold Lg.ackBy
      rw [if_pos c, ← e1]
      exact p4
  · refine (ack_bad ba qa ka va l Ra w v rs h.a_ hv hr c).mono ?_
    rintro e w' ⟨rfl, g⟩
    refine ⟨_, _, fun _ => False, ka, va, rfl, Iff.rfl, ?_, fun g hg => hg.elim, fun g e => (by cases e), fun g hg => .inl hg, ?_, Kp.grown g _⟩
    · unfold Lg.ansBy
      rw [if_neg c]
      exact KvAt.nil _ _
    · unfold Lg.ackBy
      rw [if_neg c]
      exact h.grown g
theorem G2.view (h : G2 w0 w ba qa bb qb ka va kb vb Ra Rb l m) (hb : LBd l) : Calls Tryz.prog 9 #[.pointer (some ⟨ba, 0, none⟩)] w fun e Y => e = .returned (.agg (vw l (flt l.ks) l.ks.length (wtg l.ks))) ∧ w.grownBy Y none :=
  view_any ba qa ka l w h.a_.blk h.a_.row (by have := hb.kl; omega) hb.si h.a_.low
/-- Nothing is told as lost. -/
theorem G2.lose (h : G2 w0 w ba qa bb qb ka va kb vb Ra Rb l m) (hb : LBd l) : Calls Tryz.prog 17 #[.pointer (some ⟨ba, 0, none⟩), .slice none 0 0] w fun e Y => ∃ oa oc ka', e = .returned (.slice oa 0 oc) ∧ G2 w0 Y ba qa bb qb ka' va kb vb Ra Rb l m := by
  refine (lose_any ba qa ka va l Ra w [] none 0 h.a_ (by have := hb.kl; omega) (by simp) (rdv_nil _ _)).mono ?_
  rintro e w' ⟨ov, Ro, kv', rfl, p1, p2, p3, p4, p5, p6⟩
  have e0 : l.ks.filter (fun s => (fun k => decide (k ∈ ([] : List Int))) s.nu) = [] := by simp
  rw [e0] at p1
  rw [left_none] at p4
  obtain ⟨oa, oc, rfl⟩ := kv_shape p1
  exact ⟨oa, oc, kv', rfl, h.step p4 p5 (.inl rfl) (p6.mono fun x _ hx => by
    rcases hx with e | e
    · exact .inl e
    · exact .inr (.inr (.inl e)))⟩
end
/-- A row is appended to another one, whole. -/
theorem app_whole (X w : World) (v u : Value) (A V : List Sp) (hrow : Row w v A) (hu : Row w u V) (hf : Fresh X v) (gX : X.grownBy w none) (hb : (A.length + V.length) * 16 ≤ 140737488355328) :
    ∃ v' w', (Builtin.append_ #[47, 47] 47 #[v, u]).run Tryz.prog w = .ok v' w' ∧ Row w' v' (A ++ V) ∧ Fresh X v' ∧ X.grownBy w' none := by
  obtain ⟨i, hi, hz0, hz1, hz2⟩ := info_parts Tryz.infoS
  rcases Row.at hu with ⟨rfl, rfl⟩ | ⟨g, c, sp, rfl, hR⟩
  · exact ⟨v, w, run_append_owned_none (P := Tryz.prog) w 0 47 47 63 i 2 Tryz.underlying47 hi v A.length _ hrow, by simpa using hrow, hf, gX⟩
  · have hsrc : ∀ j u, (cl V)[j]? = some u → w.cell? ((⟨g, 0, none⟩ : Addr).add j) = some u := fun j u hj => by
      rw [Addr.add_lit, Nat.zero_add]
      exact hR.cell j u hj
    by_cases hV : V = []
    · subst hV
      obtain ⟨v', w', hr, ho, hg, hnil, hob⟩ := run_append_own_at (P := Tryz.prog) w 0 47 47 63 i _ 2 16 Tryz.underlying47 hi hz0 hz1 hz2 rfl (by decide) v A.length (cl A) hrow ⟨g, 0, none⟩ 0 c (cl []) (cl_length []) hsrc (cl_one []) (by unfold maxLen; omega) hb (Nat.zero_le _)
      refine ⟨v', w', hr, ?_, fun k hk => ?_, grown_fresh gX hg hf⟩
      · unfold Row
        rw [cl_append, List.length_append]
        exact ho
      · rcases hob with e | e
        · exact hf k (by rw [← e]; exact hk)
        · rw [e] at hk
          cases hk
          exact gX.size
    · obtain ⟨v', w', hr, ho, hmv, -⟩ := app2 w v A V 47 hrow ⟨g, 0, none⟩ c hsrc hV hb
      obtain ⟨gW, hf'⟩ := Moved.fresh gX hf hmv
      exact ⟨v', w', hr, ho, hf', gW⟩
/-- One more run, told from behind. -/
theorem drop_rev {L : List Sp} {j : Nat} {r : Sp} (h : L[j]? = some r) : (L.drop j).reverse = (L.drop (j + 1)).reverse ++ [r] := by
  obtain ⟨h1, h2⟩ := List.getElem?_eq_some_iff.1 h
  rw [List.drop_eq_getElem_cons h1, List.reverse_cons, h2]
/-- Two loads at their beginning. -/
theorem L2.start {w w2 w3 : World} {ba qa bb qb : Nat} {f : Int} (g1 : w.grownBy w2 none) (hA : ∃ w1 : World, w.grownBy w1 none ∧ SH w1 w2 ba qa (.slice none 0 0) (.slice none 0 0) (Lg.fresh f) (fun _ => False)) (hB : SH w2 w3 bb qb (.slice none 0 0) (.slice none 0 0) (Lg.fresh f) (fun _ => False)) (h0 : 0 ≤ f) :
    L2 w f ((w3.alloc (.cells (ldc ba (.slice none 0 0) (.slice none 0 0) (.slice none 0 0) f true) 60)).alloc (.cells (ldc bb (.slice none 0 0) (.slice none 0 0) (.slice none 0 0) f true) 60)) w3.heap.size ba qa (w3.heap.size + 1) bb qb ⟨.slice none 0 0, .slice none 0 0, .slice none 0 0, .slice none 0 0, .slice none 0 0, [], fun _ => False⟩ ⟨.slice none 0 0, .slice none 0 0, .slice none 0 0, .slice none 0 0, .slice none 0 0, [], fun _ => False⟩ (Lg.fresh f) (Lg.fresh f) 0 0 := by
  obtain ⟨w1, g0, hA⟩ := hA
  have gB := hB.end
  have gA := grown_alloc w3 (.cells (ldc ba (.slice none 0 0) (.slice none 0 0) (.slice none 0 0) f true) 60)
  have a_ := (LM.start (grown_trans g1 gB) ⟨w1, g0, hA.grown gB⟩ h0).grown (grown_alloc _ (.cells (ldc bb (.slice none 0 0) (.slice none 0 0) (.slice none 0 0) f true) 60))
  have b_ := LM.start (grown_trans (grown_trans g1 gB) gA) ⟨w2, g1, hB.grown gA⟩ h0
  rw [World.size_alloc] at b_
  have q1 : ba < w2.heap.size := hA.lg.blk.lt
  have q2 : qa < w2.heap.size := (show Blk w2 qa _ 116 from hA.lg.set.blk).lt
  have q3 : bb < w3.heap.size := hB.lg.blk.lt
  have q4 : qb < w3.heap.size := (show Blk w3 qb _ 116 from hB.lg.set.blk).lt
  have q5 := hB.lb
  have q6 := hB.lq
  have q7 := gB.size
  have key : ∀ g, ownL w3.heap.size ba qa (.slice none 0 0) (.slice none 0 0) (.slice none 0 0) (.slice none 0 0) (.slice none 0 0) g → ¬ ownL (w3.heap.size + 1) bb qb (.slice none 0 0) (.slice none 0 0) (.slice none 0 0) (.slice none 0 0) (.slice none 0 0) g := by
    rintro g (e | e | e | e | e | e | e | e) (d | d | d | d | d | d | d | d)
    all_goals first | omega | (cases d; done) | (cases e; done)
  exact ⟨a_, b_, fun g hg h => h.elim (key g hg) id, fun g hg h => h.elim (fun e => key g e hg) id⟩
end Go.Proofs.YtnflbefbgcbdfaaGreat
