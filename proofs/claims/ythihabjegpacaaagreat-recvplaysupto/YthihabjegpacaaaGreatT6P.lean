/- recv: what hold leaves. No program in sight. -/
import Derived.Test.YthihabjegpacaaaGreatT6O
namespace Go.Proofs.YthihabjegpacaaaGreat
set_option maxRecDepth 100000
set_option linter.unusedVariables false
set_option maxHeartbeats 400000

/-- The holes that a piece fills. -/
def holesK (K : List Sp) (lo hi : Int) : List Sp := if hi < lo then [] else holesF lo hi K
theorem good_pair {mn mx : Int} {L : List Sp} (h : Good mn mx L) : L.Pairwise (fun a b => a.2 < b.1) := by
  induction L generalizing mn with
  | nil => exact List.Pairwise.nil
  | cons s L ih =>
    refine List.Pairwise.cons (fun b hb => ?_) (ih h.2.2.2)
    have := h.2.2.2.mem hb
    omega
theorem good_num {mn mx : Int} {L : List Sp} (h : Good mn mx L) (hm : mn ≤ mx + 1) : (L.length : Int) ≤ mx - mn + 1 := by
  have := good_len h (by omega)
  by_cases c : L = []
  · subst c; simp; omega
  · have : 0 < L.length := List.length_pos_iff.2 c
    omega
theorem holesK_ok {K : List Sp} (h : Gx K) (lo hi : Int) : (∀ r ∈ holesK K lo hi, lo ≤ r.1 ∧ r.1 ≤ r.2 ∧ r.2 ≤ hi) ∧ (holesK K lo hi).Pairwise (fun a b => a.2 < b.1) ∧ (∀ x, memB x (holesK K lo hi) = true ↔ lo ≤ x ∧ x ≤ hi ∧ memB x K = false) ∧ ((holesK K lo hi).length : Int) ≤ max (hi - lo + 1) 0 := by
  unfold holesK
  by_cases c : hi < lo
  · rw [if_pos c]
    refine ⟨fun r hr => (by cases hr), List.Pairwise.nil, fun x => ?_, by simp; omega⟩
    constructor
    · intro q; cases q
    · intro q; omega
  · rw [if_neg c]
    have hg := (holes_good h (lo := lo) (hi := hi) (by omega)).1
    refine ⟨fun r hr => by have := hg.mem hr; omega, good_pair hg, fun x => ?_, by have := good_num hg (by omega); omega⟩
    constructor
    · intro q
      have := memB_in hg q
      refine ⟨this.1, this.2, ?_⟩
      rw [memB_holes h this.1 this.2] at q
      simpa using q
    · intro q
      rw [memB_holes h q.1 q.2.1, q.2.2]
      rfl

/-- Bytes of a piece from an offset on. -/
def partP (p : List Int) (off lo hi : Int) : List Int := (p.drop (lo - off).toNat).take (hi + 1 - lo).toNat
theorem partP_len {p : List Int} {off lo hi : Int} (h1 : off ≤ lo) (h2 : lo ≤ hi) (h3 : hi < off + p.length) : (partP p off lo hi).length = (hi + 1 - lo).toNat := by
  unfold partP
  simp
  omega
theorem partP_get {p : List Int} {off lo hi : Int} (h1 : off ≤ lo) (h2 : lo ≤ hi) (h3 : hi < off + p.length) {i : Nat} (hi' : i < (hi + 1 - lo).toNat) : (partP p off lo hi)[i]? = p[(lo - off).toNat + i]? := by
  unfold partP
  rw [List.getElem?_take, if_pos hi', List.getElem?_drop]
/-- The pieces for the holes. -/
structure News (p : List Int) (off : Int) (H : List Sp) (N : List He) : Prop where
  len : N.length = H.length
  is : ∀ (i : Nat) r e, H[i]? = some r → N[i]? = some e → e.off = r.1 ∧ e.p = partP p off r.1 r.2
theorem news_nil (p : List Int) (off : Int) : News p off [] [] := ⟨rfl, fun i r e h => by simp at h⟩
theorem News.snoc {p : List Int} {off : Int} {H : List Sp} {N : List He} (h : News p off H N) (r : Sp) (e : He) (h1 : e.off = r.1) (h2 : e.p = partP p off r.1 r.2) : News p off (H ++ [r]) (N ++ [e]) := by
  refine ⟨by simp [h.len], fun i r' e' hr he => ?_⟩
  by_cases c : i < H.length
  · rw [List.getElem?_append_left c] at hr
    rw [List.getElem?_append_left (by rw [h.len]; exact c)] at he
    exact h.is i r' e' hr he
  · have hl : i < (H ++ [r]).length := (List.getElem?_eq_some_iff.1 hr).1
    simp at hl
    obtain rfl : i = H.length := by omega
    simp at hr
    rw [← h.len] at he
    simp at he
    subst hr he
    exact ⟨h1, h2⟩
theorem News.mem {p : List Int} {off : Int} {H : List Sp} {N : List He} (h : News p off H N) {e : He} (he : e ∈ N) : ∃ r ∈ H, e.off = r.1 ∧ e.p = partP p off r.1 r.2 := by
  obtain ⟨i, hi⟩ := List.getElem?_of_mem he
  have hl : i < H.length := by rw [← h.len]; exact (List.getElem?_eq_some_iff.1 hi).1
  exact ⟨_, List.getElem_mem hl, h.is i _ e (List.getElem?_eq_getElem hl) hi⟩
theorem News.of {p : List Int} {off : Int} {H : List Sp} {N : List He} (h : News p off H N) {r : Sp} (hr : r ∈ H) : ∃ e ∈ N, e.off = r.1 ∧ e.p = partP p off r.1 r.2 := by
  obtain ⟨i, hi⟩ := List.getElem?_of_mem hr
  have hl : i < N.length := by rw [h.len]; exact (List.getElem?_eq_some_iff.1 hi).1
  exact ⟨_, List.getElem_mem hl, h.is i r _ hi (List.getElem?_eq_getElem hl)⟩

/-- Parted by where they begin. -/
theorem part_off {E : List He} (h : E.Pairwise (fun a b => a.off ≤ b.off)) (x : Int) : ∃ A D, E = A ++ D ∧ (∀ e ∈ A, e.off < x) ∧ ∀ e ∈ D, x ≤ e.off := by
  induction E with
  | nil => exact ⟨[], [], rfl, fun e he => (by cases he), fun e he => (by cases he)⟩
  | cons s E ih =>
    cases h with
    | cons h1 h2 =>
      by_cases c : s.off < x
      · obtain ⟨A, D, rfl, hA, hD⟩ := ih h2
        exact ⟨s :: A, D, rfl, fun e he => by rcases List.mem_cons.1 he with rfl | he; exact c; exact hA e he, hD⟩
      · exact ⟨[], s :: E, rfl, fun e he => (by cases he), fun e he => by rcases List.mem_cons.1 he with rfl | he; omega; have := h1 e he; omega⟩
theorem HeOk.offs {S : Rv} {E : List He} (h : HeOk S E) : E.Pairwise (fun a b => a.off ≤ b.off) :=
  h.srt.imp_of_mem fun {a b} ha hb q => by have := (h.pos a ha).2.1; have : 0 < a.p.length := List.length_pos_iff.2 this; have : a.till = a.off + a.p.length := rfl; omega
def Dj (a b : He) : Prop := a.till ≤ b.off ∨ b.till ≤ a.off

/-- What hold asks. -/
structure RvK (S : Rv) : Prop where
  gx : Gx S.K
  kT : ∀ x, memB x S.K = (S.T x).isSome
  low : ∀ x, 0 ≤ x → x < S.read → (S.T x).isSome = true
theorem RvOk.k {S : Rv} (h : RvOk S) : RvK S := ⟨rv_gx h, h.kT, h.low⟩
theorem RvK.same {S S' : Rv} (h : RvK S) (e1 : S'.K = S.K) (e2 : S'.T = S.T) (e3 : S'.read = S.read) : RvK S' := ⟨by rw [e1]; exact h.gx, by rw [e1, e2]; exact h.kT, by rw [e2, e3]; exact h.low⟩
theorem HeOk.same {S S' : Rv} {E : List He} (h : HeOk S E) (e2 : S'.T = S.T) (e3 : S'.read = S.read) : HeOk S' E := ⟨h.srt, by rw [e3]; exact h.pos, by rw [e2]; exact h.is, by rw [e2, e3]; exact h.all, h.sz⟩
/-- What is held behind a piece. -/
theorem heok_hold {S : Rv} (h : RvK S) {A Mi D N P : List He} (hE : HeOk S (A ++ (Mi ++ D))) {off : Int} {p : List Int} (h0 : 0 ≤ off) (hpl : p.length ≤ 100000000) (hA : ∀ e ∈ A, e.off < off) (hM : ∀ e ∈ Mi, off ≤ e.off ∧ e.off < off + p.length) (hD : ∀ e ∈ D, off + p.length ≤ e.off) (hN : News p off (holesK S.K off (off + p.length - 1)) N) (hP : P.Perm (Mi ++ N)) (hs : P.Pairwise (fun a b => a.off ≤ b.off)) (S' : Rv) (hr : S'.read = S.read) (hT : S'.T = putT S.T off p) :
    HeOk S' (A ++ (P ++ D)) := by
  obtain ⟨k1, k2, k3, k4⟩ := holesK_ok h.gx off (off + p.length - 1)
  -- the new ones
  have hn : ∀ e ∈ N, ∃ r ∈ holesK S.K off (off + p.length - 1), e.off = r.1 ∧ e.p = partP p off r.1 r.2 ∧ e.till = r.2 + 1 ∧ off ≤ r.1 ∧ r.1 ≤ r.2 ∧ r.2 < off + p.length := fun e he => by
    obtain ⟨r, hr, e1, e2⟩ := hN.mem he
    have := k1 r hr
    refine ⟨r, hr, e1, e2, ?_, by omega, by omega, by omega⟩
    have := partP_len (p := p) (off := off) (lo := r.1) (hi := r.2) (by omega) (by omega) (by omega)
    show e.off + e.p.length = _
    rw [e1, e2, this]; omega
  have none_in : ∀ r ∈ holesK S.K off (off + p.length - 1), ∀ x, r.1 ≤ x → x ≤ r.2 → S.T x = none := fun r hr x h1 h2 => by
    have := (k3 x).1 (memB_true hr h1 h2)
    rw [h.kT] at this
    cases hx : S.T x with
    | none => rfl
    | some y => rw [hx] at this; simp at this
  have pos2 : ∀ e ∈ (A ++ (Mi ++ D)) ++ N, 0 ≤ e.off ∧ e.p ≠ [] ∧ S.read < e.till := fun e he => by
    rcases List.mem_append.1 he with he | he
    · exact hE.pos e he
    · obtain ⟨r, hr, e1, e2, e3, q1, q2, q3⟩ := hn e he
      refine ⟨by omega, fun q => ?_, ?_⟩
      · have := partP_len (p := p) (off := off) (lo := r.1) (hi := r.2) q1 q2 q3
        rw [← e2, q] at this
        simp at this
        omega
      · rw [e3]
        by_cases c : S.read < r.2 + 1
        · exact c
        · have := h.low r.1 (by omega) (by omega)
          rw [none_in r hr r.1 (Int.le_refl _) q2] at this
          cases this
  have is2 : ∀ e ∈ (A ++ (Mi ++ D)) ++ N, ∀ (i : Nat) y, e.p[i]? = some y → putT S.T off p (e.off + i) = some y := fun e he i y hy => by
    rcases List.mem_append.1 he with he | he
    · exact putT_some (hE.is e he i y hy)
    · obtain ⟨r, hr, e1, e2, e3, q1, q2, q3⟩ := hn e he
      have hl : i < e.p.length := (List.getElem?_eq_some_iff.1 hy).1
      have hpl := partP_len (p := p) (off := off) (lo := r.1) (hi := r.2) q1 q2 q3
      rw [e2] at hy
      rw [e2, hpl] at hl
      rw [partP_get q1 q2 q3 hl] at hy
      rw [putT_none (none_in r hr _ (by omega) (by omega)), if_pos ⟨by omega, by omega⟩, e1, show (r.1 + (i : Int) - off).toNat = (r.1 - off).toNat + i by omega]
      exact hy
  have perm : (A ++ (P ++ D)).Perm ((A ++ (Mi ++ D)) ++ N) := by
    have e1 : (P ++ D).Perm ((Mi ++ N) ++ D) := hP.append_right D
    have e2 : ((Mi ++ N) ++ D).Perm ((Mi ++ D) ++ N) := by
      rw [List.append_assoc, List.append_assoc]
      exact List.perm_append_comm.append_left Mi
    have := (e1.trans e2).append_left A
    rwa [← List.append_assoc A (Mi ++ D) N] at this
  have dj : ((A ++ (Mi ++ D)) ++ N).Pairwise Dj := by
    rw [List.pairwise_append]
    refine ⟨hE.srt.imp fun q => .inl q, ?_, fun a ha b hb => ?_⟩
    · rw [List.pairwise_iff_getElem]
      intro i j hi hj hij
      have hi' : i < (holesK S.K off (off + p.length - 1)).length := by rw [← hN.len]; exact hi
      have hj' : j < (holesK S.K off (off + p.length - 1)).length := by rw [← hN.len]; exact hj
      have a1 := hN.is i _ _ (List.getElem?_eq_getElem hi') (List.getElem?_eq_getElem hi)
      have a2 := hN.is j _ _ (List.getElem?_eq_getElem hj') (List.getElem?_eq_getElem hj)
      have a3 := List.pairwise_iff_getElem.1 k2 i j hi' hj' hij
      have a4 := k1 _ (List.getElem_mem hi')
      left
      show N[i].off + N[i].p.length ≤ N[j].off
      rw [a1.1, a1.2, a2.1, partP_len (by omega) (by omega) (by omega)]
      omega
    · obtain ⟨r, hr, e1, e2, e3, q1, q2, q3⟩ := hn b hb
      have pa := hE.pos a ha
      have hla : 0 < a.p.length := List.length_pos_iff.2 pa.2.1
      unfold Dj
      by_cases c : a.till ≤ b.off ∨ b.till ≤ a.off
      · exact c
      · exfalso
        have ht : a.till = a.off + a.p.length := rfl
        have hx : ∃ x, r.1 ≤ x ∧ x ≤ r.2 ∧ a.off ≤ x ∧ x < a.till := ⟨max r.1 a.off, by omega, by omega, by omega, by omega⟩
        obtain ⟨x, x1, x2, x3, x4⟩ := hx
        have hi : (x - a.off).toNat < a.p.length := by omega
        have := hE.is a ha (x - a.off).toNat _ (List.getElem?_eq_getElem hi)
        rw [show a.off + ((x - a.off).toNat : Int) = x by omega, none_in r hr x x1 x2] at this
        cases this
  have dj2 : (A ++ (P ++ D)).Pairwise Dj := perm.symm.pairwise dj fun q => q.symm
  have hPm : ∀ e ∈ P, off ≤ e.off ∧ e.off < off + p.length := fun e he => by
    rcases List.mem_append.1 (hP.mem_iff.1 he) with he | he
    · exact hM e he
    · obtain ⟨r, hr, e1, e2, e3, q1, q2, q3⟩ := hn e he
      omega
  have oA := List.pairwise_append.1 hE.offs
  have oD := List.pairwise_append.1 oA.2.1
  have offs : (A ++ (P ++ D)).Pairwise (fun a b => a.off ≤ b.off) := by
    rw [List.pairwise_append, List.pairwise_append]
    refine ⟨oA.1, ⟨hs, oD.2.1, fun a ha b hb => by have := (hPm a ha).2; have := hD b hb; omega⟩, fun a ha b hb => ?_⟩
    have := hA a ha
    rcases List.mem_append.1 hb with hb | hb
    · have := (hPm b hb).1; omega
    · have := hD b hb; omega
  refine ⟨?_, fun e he => ?_, fun e he i y hy => ?_, fun x hx hx2 => ?_, fun e he => ?_⟩
  · refine (offs.and dj2).imp_of_mem fun {a b} ha hb q => ?_
    rcases q.2 with q2 | q2
    · exact q2
    · have := (pos2 b (perm.mem_iff.1 hb)).2.1
      have : 0 < b.p.length := List.length_pos_iff.2 this
      have ht : b.till = b.off + b.p.length := rfl
      have := q.1
      omega
  · rw [hr]; exact pos2 e (perm.mem_iff.1 he)
  · rw [hT]; exact is2 e (perm.mem_iff.1 he) i y hy
  · rw [hr] at hx
    rw [hT, putT_isSome] at hx2
    by_cases c : (S.T x).isSome = true
    · obtain ⟨e, he, q1, q2⟩ := hE.all x hx c
      exact ⟨e, perm.mem_iff.2 (List.mem_append_left _ he), q1, q2⟩
    · have hx3 := hx2.resolve_left c
      have hm : memB x S.K = false := by rw [h.kT]; simpa using c
      obtain ⟨r, hr2, q1, q2⟩ := memB_iff.1 ((k3 x).2 ⟨by omega, by omega, hm⟩)
      obtain ⟨e, he, e1, e2⟩ := hN.of hr2
      obtain ⟨r', hr', e1', e2', e3, q1', q2', q3'⟩ := hn e he
      have kk := k1 r hr2
      have := partP_len (p := p) (off := off) (lo := r.1) (hi := r.2) (by omega) (by omega) (by omega)
      refine ⟨e, perm.mem_iff.2 (List.mem_append_right _ he), by omega, ?_⟩
      show x < e.off + e.p.length
      rw [e1, e2, this]
      omega
  · rcases List.mem_append.1 (perm.mem_iff.1 he) with he | he
    · exact hE.sz e he
    · obtain ⟨r, hr, e1, e2, e3, q1, q2, q3⟩ := hn e he
      rw [e2, partP_len q1 q2 q3]
      omega
end Go.Proofs.YthihabjegpacaaaGreat
