/- S6P, S6B, S6A, S6L, S6C, BK, S6T, one text. -/
import Derived.Test.YtdalekjpjnhboaaS5P
import Derived.Test.YtdalekjpjnhboaaS5X
import Derived.Laws.OwnMore
import Derived.Deep.RegionHeld3
import Derived.BigQuiet
import Derived.Test.YtdalekjpjnhboaaRows
import Derived.Test.YtdalekjpjnhboaaS5E
namespace Go.Proofs.Ytdalekjpjnhboaa
set_option linter.unusedVariables false
set_option maxRecDepth 100000
set_option maxHeartbeats 400000

/-- Nothing is under way. -/
structure Clear (S : Sd) : Prop where
  all : ∀ x, 0 ≤ x → x < S.sent → memB x S.A = true ∨ memB x S.L = true
  fin : S.fin ≠ 1

theorem clear_base {S : Sd} (h : SdOk S) (hc : Clear S) (hL : S.L = []) (hs : S.sent = wr S) : S.base = wr S := by
  have hb := h.b0; have hbs := h.bs
  by_cases q : S.base = wr S
  · exact q
  · rcases hc.all S.base hb (by omega) with q1 | q1
    · exact (bool_no q1 h.top).elim
    · rw [hL] at q1; simp [memB] at q1

theorem clear_next {S : Sd} (h : SdOk S) (hc : Clear S) (hs : S.stopped = false) (he : S.ended = true) (hd : doneB S = false) {most limit : Int} (hm : 1 ≤ most) (hl : wr S ≤ limit) : (dueS S most limit).2.2 = true := by
  unfold dueS
  rw [if_neg (by rw [hs]; simp)]
  cases hL : S.L with
  | cons s L => simp only [stretch]; rw [if_pos hm]
  | nil =>
    simp only
    have hsw := h.sw
    by_cases q : S.sent < min (wr S) limit
    · rw [if_pos q]; simp only [stretch]; rw [if_pos hm]
    · rw [if_neg q]
      have e : S.sent = wr S := by omega
      have hb := clear_base h hc hL e
      have hf := h.fin
      have h3 : S.fin ≠ 3 := fun e3 => by
        unfold doneB at hd
        rw [he, hb, e3] at hd
        simp at hd
      have h1 := hc.fin
      have hfw : finW S = true := by
        unfold finW
        rw [he, e]
        have : S.fin = 0 ∨ S.fin = 2 := by omega
        rcases this with q | q <;> simp [q]
      rw [if_pos hfw]

/-- What is lost of a piece: all of it that is not acknowledged. -/
theorem lost_mem {S : Sd} (h : SdOk S) (hw : wr S ≤ 1152921504606846976) {p : Int × Int} (hp : 0 ≤ p.1 ∧ p.2 ≤ S.sent - 1) (fin : Bool) (x : Int) : memB x (lostG S p fin).L = true ↔ memB x S.L = true ∨ (p.1 ≤ x ∧ x ≤ p.2 ∧ memB x S.A = false) := by
  have hb := h.b0; have hbs := h.bs; have hsw := h.sw
  have hgL : Gx S.L := good_gx h.gL (by omega) (by omega)
  obtain ⟨k1, k2, k3⟩ := holesS_ok h hp
  obtain ⟨l1, l2, l3⟩ := lostL_gx hgL (H := holesS S p) (fun r hr => by have := k1 r hr; omega)
  have e : (lostG S p fin).L = lostL S.L (holesS S p) := rfl
  rw [e, l3 x]
  refine or_congr Iff.rfl ?_
  unfold holesS
  by_cases c : p.2 < p.1
  · rw [if_pos c]
    constructor
    · intro q; simp [memB] at q
    · rintro ⟨q1, q2, -⟩; omega
  · rw [if_neg c]
    constructor
    · intro q
      have hg := (holes_good (lo := p.1) (hi := p.2) h.gA (by omega)).1
      have hx := memB_in hg q
      rw [memB_holes h.gA (by omega) (by omega)] at q
      exact ⟨by omega, by omega, by simpa using q⟩
    · rintro ⟨q1, q2, q3⟩
      rw [memB_holes h.gA q1 q2, q3]; rfl

/-- A piece that is told and acknowledged at once leaves nothing under way. -/
theorem clear_step {S : Sd} (h : SdOk S) (hw : wr S ≤ 1152921504606846976) (hc : Clear S) {most limit f t : Int} (hd : dueS S most limit = (f, t, true)) (fin : Bool) (hf : fin = endB S t) :
    Clear (ackG (nextG S f t) (f, t - 1) fin) := by
  have hdo := due_ok h hd
  have hok := sdok_next h hw hdo
  have hb := h.b0; have hbs := h.bs; have hsw := h.sw
  have q1 := hdo.lo; have q2 := hdo.le; have q3 := hdo.hi
  have hgA : Gx S.A := good_gx h.gA (by omega) (by omega)
  have hgL : Gx S.L := good_gx h.gL (by omega) (by omega)
  have hsent : f ≤ S.sent := by
    unfold dueS at hd
    by_cases hs : S.stopped = true
    · rw [if_pos hs] at hd; simp at hd
    · rw [if_neg hs] at hd
      cases hL : S.L with
      | cons s L =>
        rw [hL] at hd
        have hg := h.gL
        rw [hL] at hg
        have g2 := hg.2.1; have g3 := hg.2.2.1
        simp only [stretch] at hd
        split at hd
        · simp only [Prod.mk.injEq] at hd; omega
        · simp at hd
      | nil =>
        rw [hL] at hd
        simp only at hd
        split at hd
        · simp only [stretch] at hd
          split at hd
          · simp only [Prod.mk.injEq] at hd; omega
          · simp at hd
        · split at hd
          · rename_i hfw
            simp only [Prod.mk.injEq] at hd
            unfold finW at hfw
            simp only [Bool.and_eq_true, decide_eq_true_eq] at hfw
            omega
          · simp at hd
  refine ⟨fun x h0 h1 => ?_, ?_⟩
  · have h1' : x < max S.sent t := h1
    show memB x (addS 0 f (t - 1) S.A) = true ∨ memB x (cutS 0 f (t - 1) (cutS 0 f (t - 1) S.L)) = true
    by_cases c : f ≤ x ∧ x ≤ t - 1
    · exact .inl ((memB_addS hgA x).2 (.inr c))
    · rcases hc.all x h0 (by omega) with q | q
      · exact .inl ((memB_addS hgA x).2 (.inl q))
      · exact .inr ((memB_cutS (cutS_gx hgL).1 x).2 ⟨(memB_cutS hgL x).2 ⟨q, c⟩, c⟩)
  · show (if fin = true ∧ (if endB S t = true ∧ S.fin ≠ 3 then 1 else S.fin) ≠ 0 then 3 else (if endB S t = true ∧ S.fin ≠ 3 then 1 else S.fin)) ≠ 1
    have h1 := hc.fin
    subst hf
    cases he : endB S t with
    | true =>
      by_cases h3 : S.fin = 3
      · simp [h3]
      · simp [h3]
    | false => simp; exact h1

/-- How many numbers there are more. -/
theorem cnt_add {A : List Sp} {f t : Int} (hg : Gx A) (hlt : f < t) (hf : -9223372036854775808 ≤ f) (ht : t - 1 ≤ 9223372036854775807) (hno : ∀ x, f ≤ x → x ≤ t - 1 → memB x A = false) : cnt (addS 0 f (t - 1) A) = cnt A + (t - f) := by
  unfold addS
  rw [if_neg (by omega), boundF_zero, (addF_good hg (by omega) hf ht).2.1]
  have hw : withinF f (t - 1) A = [] := withinF_none fun s hs => by
    have hm := hg.mem hs
    by_cases q : s.2 < f ∨ t - 1 < s.1
    · exact q
    · exfalso
      have := hno (max s.1 f) (by omega) (by omega)
      exact bool_no (memB_true hs (by omega) (by omega)) this
  have := (holes_good (lo := f) (hi := t - 1) hg (by omega)).2
  rw [hw] at this
  simp only [cnt] at this
  omega

/-- What is due is not acknowledged. -/
theorem due_free {S : Sd} (h : SdOk S) {most limit f t : Int} (hd : dueS S most limit = (f, t, true)) : ∀ x, f ≤ x → x ≤ t - 1 → memB x S.A = false := by
  intro x h1 h2
  unfold dueS at hd
  by_cases hs : S.stopped = true
  · rw [if_pos hs] at hd; simp at hd
  · rw [if_neg hs] at hd
    cases hL : S.L with
    | cons s L =>
      rw [hL] at hd
      simp only [stretch] at hd
      split at hd
      · simp only [Prod.mk.injEq] at hd
        exact h.dis x (by rw [hL]; exact memB_true (s := s) (by simp) (by omega) (by omega))
      · simp at hd
    | nil =>
      rw [hL] at hd
      simp only at hd
      have hout : S.sent ≤ x → memB x S.A = false := fun q => memB_out h.gA (.inr (by omega))
      have hsw := h.sw
      split at hd
      · simp only [stretch] at hd
        split at hd
        · simp only [Prod.mk.injEq] at hd
          exact hout (by omega)
        · simp at hd
      · split at hd
        · simp only [Prod.mk.injEq] at hd
          omega
        · simp at hd
end Go.Proofs.Ytdalekjpjnhboaa

namespace Go.Proofs.Ytdalekjpjnhboaa
set_option linter.unusedVariables false
set_option maxRecDepth 100000
set_option maxHeartbeats 400000

/-- A piece that was told. -/
structure Pc where
  off : Int
  size : Int
  fin : Bool

/-- A text on its way. -/
structure Bk where
  S : Sd
  T : List Int
  put : Nat
  ended : Bool
  G : List Bool
  fin : Bool
  P : List Pc

def PcOk (S : Sd) (p : Pc) : Prop := 0 ≤ p.off ∧ 0 ≤ p.size ∧ p.off + p.size ≤ S.sent ∧ (p.fin = true → S.fin ≠ 0)
structure BkOk (cap : Int) (B : Bk) : Prop where
  ok : SdOk B.S
  cap : B.S.cap = cap
  st : B.S.stopped = false
  T : B.S.T = B.T.take B.put
  pl : B.put ≤ B.T.length
  en : B.S.ended = B.ended
  full : B.ended = true → B.put = B.T.length
  gl : B.G.length = B.T.length
  got : ∀ x : Nat, x < B.T.length → B.G[x]? = some (memB (x : Int) B.S.A)
  fin : B.fin = decide (B.S.fin = 3)
  f0 : B.S.fin ≠ 0 → B.ended = true
  P : ∀ p ∈ B.P, PcOk B.S p

theorem BkOk.wr {cap : Int} {B : Bk} (h : BkOk cap B) : wr B.S = B.put := by
  have := h.pl
  unfold Go.Proofs.Ytdalekjpjnhboaa.wr
  rw [h.T, List.length_take]
  omega

/-- All that is under way is of one of these pieces. -/
structure Cov (S : Sd) (Q : List Pc) : Prop where
  all : ∀ x, 0 ≤ x → x < S.sent → memB x S.A = true ∨ memB x S.L = true ∨ ∃ p ∈ Q, p.off ≤ x ∧ x < p.off + p.size
  fin : S.fin = 1 → ∃ p ∈ Q, p.fin = true
theorem Cov.mono {S : Sd} {Q Q' : List Pc} (h : Cov S Q) (hq : ∀ p ∈ Q, p ∈ Q') : Cov S Q' :=
  ⟨fun x h0 h1 => by
    rcases h.all x h0 h1 with q | q | ⟨p, hp, q⟩
    · exact .inl q
    · exact .inr (.inl q)
    · exact .inr (.inr ⟨p, hq p hp, q⟩), fun e => by obtain ⟨p, hp, q⟩ := h.fin e; exact ⟨p, hq p hp, q⟩⟩
theorem Cov.clear {S : Sd} (h : Cov S []) : Clear S :=
  ⟨fun x h0 h1 => by
    rcases h.all x h0 h1 with q | q | ⟨p, hp, q⟩
    · exact .inl q
    · exact .inr q
    · simp at hp, fun e => by obtain ⟨p, hp, q⟩ := h.fin e; simp at hp⟩

/-- What feed does. -/
def feedN (cap : Int) (B : Bk) : Nat := (min (cap - ((B.put : Int) - B.S.base)) ((B.T.length : Int) - B.put)).toNat
def feedW (cap : Int) (B : Bk) : Bk := { B with S := writeG B.S ((B.T.drop B.put).take (feedN cap B)), put := B.put + feedN cap B }
def feedF (B : Bk) : Bk := { B with S := finG B.S, ended := true }
def feedB (cap : Int) (may : Bool) (B : Bk) : Bk := if B.ended = true then B else if B.put + feedN cap B < B.T.length ∨ may = false then feedW cap B else feedF (feedW cap B)

theorem feedN_le {cap : Int} {B : Bk} (h : BkOk cap B) : (feedN cap B : Int) = min (cap - ((B.put : Int) - B.S.base)) ((B.T.length : Int) - B.put) ∧ 0 ≤ min (cap - ((B.put : Int) - B.S.base)) ((B.T.length : Int) - B.put) ∧ B.put + feedN cap B ≤ B.T.length ∧ (B.put : Int) - B.S.base + feedN cap B ≤ cap := by
  have h1 := h.ok.wc; have h2 := h.wr; have h3 := h.cap; have h4 := h.pl
  have hq : 0 ≤ min (cap - ((B.put : Int) - B.S.base)) ((B.T.length : Int) - B.put) := by omega
  have he : (feedN cap B : Int) = min (cap - ((B.put : Int) - B.S.base)) ((B.T.length : Int) - B.put) := Int.toNat_of_nonneg hq
  exact ⟨he, hq, by omega, by omega⟩

theorem pcok_same {S S' : Sd} {p : Pc} (h : PcOk S p) (hs : S.sent ≤ S'.sent) (hf : S.fin ≠ 0 → S'.fin ≠ 0) : PcOk S' p := ⟨h.1, h.2.1, by have := h.2.2.1; omega, fun e => hf (h.2.2.2 e)⟩

theorem bk_write {cap : Int} {B : Bk} (h : BkOk cap B) (he : B.ended = false) : BkOk cap (feedW cap B) := by
  obtain ⟨n1, n2, n3, n4⟩ := feedN_le h
  have hw := h.wr; have hc := h.cap
  have hl : ((B.T.drop B.put).take (feedN cap B)).length = feedN cap B := by rw [List.length_take, List.length_drop]; omega
  refine ⟨sdok_write h.ok (by rw [hl]; omega), h.cap, h.st, ?_, n3, h.en, fun e => ?_, h.gl, h.got, h.fin, h.f0, fun p hp => pcok_same (h.P p hp) (Int.le_refl _) id⟩
  · show B.S.T ++ (B.T.drop B.put).take (feedN cap B) = B.T.take (B.put + feedN cap B)
    rw [h.T, List.take_add]
  · have : B.ended = true := e
    rw [he] at this; cases this
theorem bk_fin {cap : Int} {B : Bk} (h : BkOk cap B) (hp : B.put = B.T.length) : BkOk cap (feedF B) :=
  ⟨sdok_fin h.ok, h.cap, h.st, h.T, h.pl, rfl, fun _ => hp, h.gl, h.got, h.fin, fun _ => rfl, fun p hp => pcok_same (h.P p hp) (Int.le_refl _) id⟩
theorem bk_feed {cap : Int} {may : Bool} {B : Bk} (h : BkOk cap B) : BkOk cap (feedB cap may B) := by
  unfold feedB
  split
  · exact h
  · rename_i he
    have he' : B.ended = false := by cases hx : B.ended with | true => exact absurd hx he | false => rfl
    have h1 := bk_write h he'
    split
    · exact h1
    · rename_i hn
      have := (feedN_le h).2.2.1
      exact bk_fin h1 (by show B.put + feedN cap B = B.T.length; omega)
theorem feed_same {cap : Int} {may : Bool} {B : Bk} : (feedB cap may B).S.sent = B.S.sent ∧ (feedB cap may B).S.A = B.S.A ∧ (feedB cap may B).S.L = B.S.L ∧ (feedB cap may B).S.fin = B.S.fin ∧ (feedB cap may B).S.base = B.S.base ∧ (feedB cap may B).G = B.G ∧ (feedB cap may B).T = B.T ∧ (feedB cap may B).P = B.P := by
  unfold feedB
  split
  · exact ⟨rfl, rfl, rfl, rfl, rfl, rfl, rfl, rfl⟩
  · split
    · exact ⟨rfl, rfl, rfl, rfl, rfl, rfl, rfl, rfl⟩
    · exact ⟨rfl, rfl, rfl, rfl, rfl, rfl, rfl, rfl⟩
theorem cov_feed {cap : Int} {may : Bool} {B : Bk} {Q : List Pc} (h : Cov B.S Q) : Cov (feedB cap may B).S Q := by
  obtain ⟨e1, e2, e3, e4, -⟩ := @feed_same cap may B
  exact ⟨fun x => by rw [e1, e2, e3]; exact h.all x, by rw [e4]; exact h.fin⟩
theorem clear_feed {cap : Int} {may : Bool} {B : Bk} (h : Clear B.S) : Clear (feedB cap may B).S := by
  obtain ⟨e1, e2, e3, e4, -⟩ := @feed_same cap may B
  exact ⟨fun x => by rw [e1, e2, e3]; exact h.all x, by rw [e4]; exact h.fin⟩
/-- It is not done by being fed. -/
theorem feed_done {cap : Int} {may : Bool} {B : Bk} (h : BkOk cap B) : doneB (feedB cap may B).S = doneB B.S := by
  by_cases he : B.ended = true
  · unfold feedB; rw [if_pos he]
  · obtain ⟨-, -, -, e4, -⟩ := @feed_same cap may B
    have hf : B.S.fin ≠ 3 := fun e => he (h.f0 (by omega))
    unfold doneB
    rw [e4]
    simp [hf]

/-- What is due. -/
theorem due_le {S : Sd} (h : SdOk S) {most limit f t : Int} (hd : dueS S most limit = (f, t, true)) (hm : 1 ≤ most) (hl : wr S ≤ limit) : f ≤ S.sent ∧ t - f ≤ most ∧ (f < t ∨ (endB S t = true ∧ S.L = [] ∧ S.sent = wr S ∧ f = wr S ∧ t = wr S)) := by
  unfold dueS at hd
  by_cases hs : S.stopped = true
  · rw [if_pos hs] at hd; simp at hd
  · rw [if_neg hs] at hd
    have hsw := h.sw
    cases hL : S.L with
    | cons s L =>
      rw [hL] at hd
      have hg := h.gL
      rw [hL] at hg
      have g2 := hg.2.1; have g3 := hg.2.2.1
      simp only [stretch] at hd
      rw [if_pos hm] at hd
      simp only [Prod.mk.injEq] at hd
      exact ⟨by omega, by omega, .inl (by omega)⟩
    | nil =>
      rw [hL] at hd
      simp only at hd
      split at hd
      · simp only [stretch] at hd
        rw [if_pos hm] at hd
        simp only [Prod.mk.injEq] at hd
        exact ⟨by omega, by omega, .inl (by omega)⟩
      · split at hd
        · rename_i hfw
          simp only [Prod.mk.injEq] at hd
          unfold finW at hfw
          simp only [Bool.and_eq_true, decide_eq_true_eq] at hfw
          refine ⟨by omega, by omega, .inr ⟨?_, rfl, hfw.1.2, by omega, by omega⟩⟩
          unfold endB
          rw [hfw.1.1]
          simp
          omega
        · simp at hd

/-- A piece is told. -/
def askB (B : Bk) (f t : Int) : Bk := { B with S := nextG B.S f t, P := B.P ++ [⟨f, t - f, endB B.S t⟩] }
theorem nextG_fin (S : Sd) (f t : Int) : (nextG S f t).fin = if endB S t = true ∧ S.fin ≠ 3 then 1 else S.fin := rfl
theorem bk_ask {cap : Int} {B : Bk} (h : BkOk cap B) (hw : wr B.S ≤ 1152921504606846976) {most limit f t : Int} (hd : dueS B.S most limit = (f, t, true)) : BkOk cap (askB B f t) := by
  have hdo := due_ok h.ok hd
  have hb := h.ok.b0
  have q1 := hdo.lo; have q2 := hdo.le
  have hn : B.S.fin ≠ 0 → (nextG B.S f t).fin ≠ 0 := fun e => by rw [nextG_fin]; split <;> omega
  refine ⟨sdok_next h.ok hw hdo, h.cap, h.st, h.T, h.pl, h.en, h.full, h.gl, h.got, ?_, fun e => ?_, fun p hp => ?_⟩
  · show B.fin = decide ((nextG B.S f t).fin = 3)
    rw [h.fin, nextG_fin]
    by_cases c : endB B.S t = true ∧ B.S.fin ≠ 3
    · rw [if_pos c]; simp [c.2]
    · rw [if_neg c]
  · have e' : (nextG B.S f t).fin ≠ 0 := e
    rw [nextG_fin] at e'
    by_cases c : endB B.S t = true ∧ B.S.fin ≠ 3
    · have := c.1
      unfold endB at this
      rw [h.en] at this
      simp only [Bool.and_eq_true] at this
      exact this.1
    · rw [if_neg c] at e'; exact h.f0 e'
  · have hp' : p ∈ B.P ++ [⟨f, t - f, endB B.S t⟩] := hp
    rcases List.mem_append.1 hp' with hp | hp
    · exact pcok_same (h.P p hp) (by show B.S.sent ≤ max B.S.sent t; omega) hn
    · simp only [List.mem_singleton] at hp
      subst hp
      refine ⟨by show 0 ≤ f; omega, by show 0 ≤ t - f; omega, by show f + (t - f) ≤ max B.S.sent t; omega, fun e => ?_⟩
      show (nextG B.S f t).fin ≠ 0
      rw [nextG_fin]
      have e' : endB B.S t = true := e
      by_cases c : B.S.fin = 3
      · simp [c]
      · simp [c, e']
theorem cov_ask {cap : Int} {B : Bk} (h : BkOk cap B) (hw : wr B.S ≤ 1152921504606846976) (hc : Cov B.S B.P) {most limit f t : Int} (hd : dueS B.S most limit = (f, t, true)) (hm : 1 ≤ most) (hl : wr B.S ≤ limit) : Cov (askB B f t).S (askB B f t).P := by
  have hdl := (due_le h.ok hd hm hl).1
  have hb := h.ok.b0; have hbs := h.ok.bs; have hsw := h.ok.sw
  have hgL : Gx B.S.L := good_gx h.ok.gL (by omega) (by omega)
  have old : ∀ p ∈ B.P, p ∈ (askB B f t).P := fun p hp => List.mem_append_left _ hp
  have new : (⟨f, t - f, endB B.S t⟩ : Pc) ∈ (askB B f t).P := List.mem_append_right _ (by simp)
  refine ⟨fun x h0 h1 => ?_, fun e => ?_⟩
  · have h1' : x < max B.S.sent t := h1
    show memB x B.S.A = true ∨ memB x (cutS 0 f (t - 1) B.S.L) = true ∨ _
    by_cases c : f ≤ x ∧ x ≤ t - 1
    · exact .inr (.inr ⟨_, new, c.1, by show x < f + (t - f); omega⟩)
    · rcases hc.all x h0 (by omega) with q | q | ⟨p, hp, q⟩
      · exact .inl q
      · exact .inr (.inl ((memB_cutS hgL x).2 ⟨q, c⟩))
      · exact .inr (.inr ⟨p, old p hp, q⟩)
  · have e' : (nextG B.S f t).fin = 1 := e
    rw [nextG_fin] at e'
    by_cases c : endB B.S t = true ∧ B.S.fin ≠ 3
    · exact ⟨_, new, c.1⟩
    · rw [if_neg c] at e'
      obtain ⟨p, hp, q⟩ := hc.fin e'
      exact ⟨p, old p hp, q⟩

/-- Some are marked. -/
def setG (G : List Bool) (o : Nat) : Nat → List Bool
  | 0 => G
  | k + 1 => (setG G o k).set (o + k) true
theorem setG_len (G : List Bool) (o k : Nat) : (setG G o k).length = G.length := by
  induction k with
  | zero => rfl
  | succ k ih => simp only [setG, List.length_set, ih]
theorem setG_get (G : List Bool) (o k x : Nat) (hx : x < G.length) : (setG G o k)[x]? = if o ≤ x ∧ x < o + k then some true else G[x]? := by
  induction k with
  | zero => rw [if_neg (by omega)]; rfl
  | succ k ih =>
    simp only [setG]
    rw [List.getElem?_set]
    by_cases c : o + k = x
    · rw [if_pos c, if_pos (by rw [setG_len]; omega), if_pos (by omega)]
    · rw [if_neg c, ih]
      by_cases c2 : o ≤ x ∧ x < o + k
      · rw [if_pos c2, if_pos (by omega)]
      · rw [if_neg c2, if_neg (by omega)]
/-- How many are left. -/
def leftN : List Bool → Nat
  | [] => 0
  | g :: G => (if g = true then 0 else 1) + leftN G
theorem leftN_le (G : List Bool) : leftN G ≤ G.length := by
  induction G with
  | nil => exact Nat.le_refl _
  | cons g G ih => simp only [leftN, List.length_cons]; split <;> omega
theorem leftN_app (A B : List Bool) : leftN (A ++ B) = leftN A + leftN B := by
  induction A with
  | nil => simp [leftN]
  | cons g A ih => simp only [List.cons_append, leftN, ih]; omega
theorem leftN_set (G : List Bool) (i : Nat) : leftN (G.set i true) ≤ leftN G ∧ (G[i]? = some false → leftN (G.set i true) + 1 = leftN G) := by
  induction G generalizing i with
  | nil => simp [leftN]
  | cons g G ih =>
    cases i with
    | zero =>
      simp only [List.set_cons_zero, leftN, List.getElem?_cons_zero, Option.some.injEq]
      exact ⟨by simp, fun e => by subst e; simp; omega⟩
    | succ i =>
      simp only [List.set_cons_succ, leftN, List.getElem?_cons_succ]
      obtain ⟨h1, h2⟩ := ih i
      exact ⟨by omega, fun e => by have := h2 e; omega⟩
theorem leftN_setG (G : List Bool) (o k : Nat) : leftN (setG G o k) ≤ leftN G ∧ (0 < k → G[o]? = some false → leftN (setG G o k) + 1 ≤ leftN G) := by
  induction k with
  | zero => exact ⟨Nat.le_refl _, fun h => by omega⟩
  | succ k ih =>
    simp only [setG]
    have h1 := leftN_set (setG G o k) (o + k)
    refine ⟨by omega, fun _ e => ?_⟩
    cases k with
    | zero =>
      have := h1.2 e
      simp only [setG] at this ⊢
      omega
    | succ k => have := ih.2 (by omega) e; omega
theorem leftN_all {G : List Bool} (h : ∀ x, x < G.length → G[x]? = some true) : leftN G = 0 := by
  induction G with
  | nil => rfl
  | cons g G ih =>
    have h0 := h 0 (by simp)
    simp only [List.getElem?_cons_zero, Option.some.injEq] at h0
    subst h0
    have := ih fun x hx => by have := h (x + 1) (by simp; omega); simpa using this
    simp only [leftN, this]
    simp

/-- A piece has come. -/
def ackB (B : Bk) (p : Pc) : Bk := { B with S := ackS B.S p.off p.size p.fin, G := setG B.G p.off.toNat p.size.toNat, fin := B.fin || p.fin }
theorem ofS_pc {S : Sd} {p : Pc} (h : PcOk S p) : ofS S p.off p.size = if p.size < 1 then (0, -1) else (p.off, p.off + p.size - 1) := by
  obtain ⟨h1, h2, h3, -⟩ := h
  unfold ofS
  split
  · rfl
  · rw [if_neg (by omega), Int.min_eq_left (by omega)]
theorem ofS_lo {S : Sd} (h : SdOk S) (p : Pc) : 0 ≤ (ofS S p.off p.size).1 ∧ (ofS S p.off p.size).2 ≤ S.sent - 1 := by
  have := ofS_in S p.off p.size (by have := h.b0; have := h.bs; omega)
  exact ⟨this.1, this.2.1⟩
theorem ofS_iff {S : Sd} {p : Pc} (h : PcOk S p) (x : Int) : ((ofS S p.off p.size).1 ≤ x ∧ x ≤ (ofS S p.off p.size).2) ↔ (p.off ≤ x ∧ x < p.off + p.size) := by
  obtain ⟨h1, h2, h3, -⟩ := id h
  rw [ofS_pc h]
  by_cases c : p.size < 1
  · rw [if_pos c]; constructor <;> intro q <;> simp only at q ⊢ <;> omega
  · rw [if_neg c]; constructor <;> intro q <;> simp only at q ⊢ <;> omega
theorem ackS_run {S : Sd} {off size : Int} {fin : Bool} (h : S.stopped = false) : ackS S off size fin = ackG S (ofS S off size) fin := by unfold ackS; rw [if_neg (by rw [h]; simp)]
theorem lostS_run {S : Sd} {off size : Int} {fin : Bool} (h : S.stopped = false) : lostS S off size fin = lostG S (ofS S off size) fin := by unfold lostS; rw [if_neg (by rw [h]; simp)]
theorem bk_ack {cap : Int} {B : Bk} (h : BkOk cap B) (hw : wr B.S ≤ 1152921504606846976) {p : Pc} (hp : PcOk B.S p) : BkOk cap (ackB B p) := by
  have hs := ackS_run (off := p.off) (size := p.size) (fin := p.fin) h.st
  have hlo := ofS_lo h.ok p
  have hb := h.ok.b0; have hbs := h.ok.bs; have hsw := h.ok.sw
  have hgA : Gx B.S.A := good_gx h.ok.gA (by omega) (by omega)
  have hn : B.S.fin ≠ 0 → (ackS B.S p.off p.size p.fin).fin ≠ 0 := fun e => by
    rw [hs]; show (if p.fin = true ∧ B.S.fin ≠ 0 then 3 else B.S.fin) ≠ 0; split <;> omega
  refine ⟨?_, ?_, ?_, ?_, h.pl, ?_, h.full, ?_, fun x hx => ?_, ?_, fun e => ?_, fun q hq => ?_⟩
  · show SdOk (ackS B.S p.off p.size p.fin)
    rw [hs]; exact (sdok_ack h.ok hw hlo p.fin).1
  · show (ackS B.S p.off p.size p.fin).cap = cap
    rw [hs]; exact h.cap
  · show (ackS B.S p.off p.size p.fin).stopped = false
    rw [hs]; exact h.st
  · show (ackS B.S p.off p.size p.fin).T = _
    rw [hs]; exact h.T
  · show (ackS B.S p.off p.size p.fin).ended = _
    rw [hs]; exact h.en
  · show (setG B.G p.off.toNat p.size.toNat).length = _
    rw [setG_len]; exact h.gl
  · have hx' : x < B.T.length := hx
    show (setG B.G p.off.toNat p.size.toNat)[x]? = some (memB (x : Int) (ackS B.S p.off p.size p.fin).A)
    rw [hs, setG_get _ _ _ _ (by rw [h.gl]; exact hx'), h.got x hx']
    have hm := memB_addS (lo := (ofS B.S p.off p.size).1) (hi := (ofS B.S p.off p.size).2) hgA (x : Int)
    rw [ofS_iff hp] at hm
    show _ = some (memB (x : Int) (addS 0 (ofS B.S p.off p.size).1 (ofS B.S p.off p.size).2 B.S.A))
    obtain ⟨h1, h2, h3, -⟩ := hp
    by_cases c : p.off.toNat ≤ x ∧ x < p.off.toNat + p.size.toNat
    · rw [if_pos c, hm.2 (.inr (by omega))]
    · rw [if_neg c]
      congr 1
      cases hA : memB (x : Int) B.S.A with
      | true => exact (hm.2 (.inl hA)).symm
      | false =>
        cases hA' : memB (x : Int) (addS 0 (ofS B.S p.off p.size).1 (ofS B.S p.off p.size).2 B.S.A) with
        | false => rfl
        | true =>
          rcases hm.1 hA' with q | q
          · rw [hA] at q; cases q
          · omega
  · show (B.fin || p.fin) = decide ((ackS B.S p.off p.size p.fin).fin = 3)
    rw [hs, h.fin]
    show _ = decide ((if p.fin = true ∧ B.S.fin ≠ 0 then (3 : Int) else B.S.fin) = 3)
    cases hf : p.fin with
    | true => rw [if_pos ⟨rfl, hp.2.2.2 hf⟩]; simp
    | false => simp
  · have e' : (ackS B.S p.off p.size p.fin).fin ≠ 0 := e
    rw [hs] at e'
    have e2 : (if p.fin = true ∧ B.S.fin ≠ 0 then (3 : Int) else B.S.fin) ≠ 0 := e'
    by_cases c : p.fin = true ∧ B.S.fin ≠ 0
    · exact h.f0 c.2
    · rw [if_neg c] at e2; exact h.f0 e2
  · refine pcok_same (h.P q hq) ?_ hn
    show B.S.sent ≤ (ackS B.S p.off p.size p.fin).sent
    rw [hs]; exact Int.le_refl _
theorem cov_ack {cap : Int} {B : Bk} (h : BkOk cap B) (hw : wr B.S ≤ 1152921504606846976) {p : Pc} (hp : PcOk B.S p) {Q : List Pc} (hc : Cov B.S Q) : Cov (ackB B p).S Q := by
  have hs := ackS_run (off := p.off) (size := p.size) (fin := p.fin) h.st
  have hb := h.ok.b0; have hbs := h.ok.bs; have hsw := h.ok.sw
  have hgA : Gx B.S.A := good_gx h.ok.gA (by omega) (by omega)
  have hgL : Gx B.S.L := good_gx h.ok.gL (by omega) (by omega)
  show Cov (ackS B.S p.off p.size p.fin) Q
  rw [hs]
  refine ⟨fun x h0 h1 => ?_, fun e => ?_⟩
  · have h1' : x < B.S.sent := h1
    show memB x (addS 0 (ofS B.S p.off p.size).1 (ofS B.S p.off p.size).2 B.S.A) = true ∨ memB x (cutS 0 (ofS B.S p.off p.size).1 (ofS B.S p.off p.size).2 B.S.L) = true ∨ _
    by_cases c : (ofS B.S p.off p.size).1 ≤ x ∧ x ≤ (ofS B.S p.off p.size).2
    · exact .inl ((memB_addS hgA x).2 (.inr c))
    · rcases hc.all x h0 h1' with q | q | q
      · exact .inl ((memB_addS hgA x).2 (.inl q))
      · exact .inr (.inl ((memB_cutS hgL x).2 ⟨q, c⟩))
      · exact .inr (.inr q)
  · have e' : (if p.fin = true ∧ B.S.fin ≠ 0 then (3 : Int) else B.S.fin) = 1 := e
    by_cases c : p.fin = true ∧ B.S.fin ≠ 0
    · rw [if_pos c] at e'; omega
    · rw [if_neg c] at e'; exact hc.fin e'

/-- A piece is lost. -/
def lostB (B : Bk) (p : Pc) : Bk := { B with S := lostS B.S p.off p.size p.fin }
theorem lostG_fin (S : Sd) (q : Int × Int) (fin : Bool) : (lostG S q fin).fin = if fin = true ∧ S.fin = 1 then 2 else S.fin := rfl
theorem bk_lost {cap : Int} {B : Bk} (h : BkOk cap B) (hw : wr B.S ≤ 1152921504606846976) (p : Pc) : BkOk cap (lostB B p) := by
  have hs := lostS_run (off := p.off) (size := p.size) (fin := p.fin) h.st
  have hlo := ofS_lo h.ok p
  have hB : lostB B p = { B with S := lostG B.S (ofS B.S p.off p.size) p.fin } := by unfold lostB; rw [hs]
  rw [hB]
  refine ⟨sdok_lost h.ok hw hlo p.fin, h.cap, h.st, h.T, h.pl, h.en, h.full, h.gl, h.got, ?_, fun e => ?_, fun q hq => pcok_same (h.P q hq) (Int.le_refl _) fun e => ?_⟩
  · show B.fin = decide ((lostG B.S (ofS B.S p.off p.size) p.fin).fin = 3)
    rw [h.fin, lostG_fin]
    by_cases c : p.fin = true ∧ B.S.fin = 1
    · rw [if_pos c, c.2]; rfl
    · rw [if_neg c]
  · have e' : (lostG B.S (ofS B.S p.off p.size) p.fin).fin ≠ 0 := e
    rw [lostG_fin] at e'
    by_cases c : p.fin = true ∧ B.S.fin = 1
    · exact h.f0 (by omega)
    · rw [if_neg c] at e'; exact h.f0 e'
  · show (lostG B.S (ofS B.S p.off p.size) p.fin).fin ≠ 0
    rw [lostG_fin]
    split <;> omega
theorem cov_lost {cap : Int} {B : Bk} (h : BkOk cap B) (hw : wr B.S ≤ 1152921504606846976) {p : Pc} (hp : PcOk B.S p) {Q : List Pc} (hc : Cov B.S (p :: Q)) : Cov (lostB B p).S Q := by
  have hs := lostS_run (off := p.off) (size := p.size) (fin := p.fin) h.st
  have hlo := ofS_lo h.ok p
  show Cov (lostS B.S p.off p.size p.fin) Q
  rw [hs]
  refine ⟨fun x h0 h1 => ?_, fun e => ?_⟩
  · have h1' : x < B.S.sent := h1
    show memB x B.S.A = true ∨ _
    cases hA : memB x B.S.A with
    | true => exact .inl rfl
    | false =>
      right
      rcases hc.all x h0 h1' with q | q | ⟨q, hq, hr⟩
      · rw [hA] at q; cases q
      · exact .inl ((lost_mem h.ok hw hlo p.fin x).2 (.inl q))
      · rcases List.mem_cons.1 hq with rfl | hq
        · refine .inl ((lost_mem h.ok hw hlo _ x).2 (.inr ?_))
          have := (ofS_iff hp x).2 hr
          exact ⟨this.1, this.2, hA⟩
        · exact .inr ⟨q, hq, hr⟩
  · have e' : (lostG B.S (ofS B.S p.off p.size) p.fin).fin = 1 := e
    rw [lostG_fin] at e'
    by_cases c : p.fin = true ∧ B.S.fin = 1
    · rw [if_pos c] at e'; omega
    · rw [if_neg c] at e'
      obtain ⟨q, hq, hr⟩ := hc.fin e'
      rcases List.mem_cons.1 hq with rfl | hq
      · exact absurd ⟨hr, e'⟩ c
      · exact ⟨q, hq, hr⟩
theorem cov_lost_all {cap : Int} {B : Bk} (h : BkOk cap B) (hw : wr B.S ≤ 1152921504606846976) {p : Pc} (hp : PcOk B.S p) {Q : List Pc} (hc : Cov B.S Q) : Cov (lostB B p).S Q :=
  cov_lost h hw hp (hc.mono fun q hq => List.mem_cons_of_mem _ hq)

/-- The rounds at the end: there is a piece. -/
theorem end_due {cap : Int} {B : Bk} (h : BkOk cap B) (hc : Clear B.S) {most limit : Int} (hm : 1 ≤ most) (hl : (B.T.length : Int) ≤ limit) (hd : doneB (feedB cap true B).S = false) : (dueS (feedB cap true B).S most limit).2.2 = true := by
  have h1 := @bk_feed cap true B h
  have hc1 := @clear_feed cap true B hc
  have hw := h1.wr
  have hpl := h1.pl
  obtain ⟨-, -, -, -, e5, -, e7, -⟩ := @feed_same cap true B
  rw [e7] at hpl
  by_cases he : (feedB cap true B).S.ended = true
  · exact clear_next h1.ok hc1 h1.st he hd hm (by omega)
  · -- it is full
    have hfull : wr (feedB cap true B).S = (feedB cap true B).S.base + cap := by
      have hB : ¬ B.ended = true := fun e => he (by unfold feedB; rw [if_pos e, h.en]; exact e)
      have n1 := feedN_le h
      have hlt : B.put + feedN cap B < B.T.length := by
        by_cases q : B.put + feedN cap B < B.T.length
        · exact q
        · exfalso
          apply he
          unfold feedB
          rw [if_neg hB, if_neg (by simp; omega)]
          rfl
      have e : feedB cap true B = feedW cap B := by
        unfold feedB
        rw [if_neg hB, if_pos (.inl hlt)]
      rw [hw, e5, e]
      show ((B.put + feedN cap B : Nat) : Int) = B.S.base + cap
      omega
    unfold dueS
    rw [if_neg (by rw [h1.st]; simp)]
    have hcap := h1.ok.cap
    rw [h1.cap] at hcap
    cases hL : (feedB cap true B).S.L with
    | cons s L => simp only [stretch]; rw [if_pos hm]
    | nil =>
      simp only
      have hsw := h1.ok.sw
      by_cases q : (feedB cap true B).S.sent < min (wr (feedB cap true B).S) limit
      · rw [if_pos q]; simp only [stretch]; rw [if_pos hm]
      · exfalso
        have e : (feedB cap true B).S.sent = wr (feedB cap true B).S := by omega
        have := clear_base h1.ok hc1 hL e
        omega

/-- A round: the piece that was told comes at once. -/
theorem end_round {cap : Int} {B : Bk} (h : BkOk cap B) (hw : wr B.S ≤ 1152921504606846976) (hc : Clear B.S) {most limit f t : Int} (hm : 1 ≤ most) (hl : wr B.S ≤ limit) (hd : dueS B.S most limit = (f, t, true)) (hnd : doneB B.S = false) :
    Clear (ackB (askB B f t) ⟨f, t - f, endB B.S t⟩).S ∧ leftN (ackB (askB B f t) ⟨f, t - f, endB B.S t⟩).G + (if doneB (ackB (askB B f t) ⟨f, t - f, endB B.S t⟩).S = true then 0 else 1) ≤ leftN B.G := by
  have h1 := bk_ask h hw hd
  have hdo := due_ok h.ok hd
  obtain ⟨l1, l2, l3⟩ := due_le h.ok hd hm hl
  have hpc : PcOk (askB B f t).S ⟨f, t - f, endB B.S t⟩ := h1.P _ (List.mem_append_right _ (by simp))
  have hs : ackS (askB B f t).S f (t - f) (endB B.S t) = ackG (askB B f t).S (ofS (askB B f t).S f (t - f)) (endB B.S t) := ackS_run h1.st
  have ho := ofS_pc hpc
  simp only at ho
  have q1 := hdo.lo; have q2 := hdo.le; have q3 := hdo.hi; have hb := h.ok.b0
  have hcl := clear_step h.ok hw hc hd (endB B.S t) rfl
  have he : ackG (askB B f t).S (ofS (askB B f t).S f (t - f)) (endB B.S t) = ackG (nextG B.S f t) (f, t - 1) (endB B.S t) := by
    rw [ho]
    by_cases c : t - f < 1
    · rw [if_pos c]
      have a1 : addS 0 0 (-1) B.S.A = addS 0 f (t - 1) B.S.A := by
        unfold addS; rw [if_pos (by omega), if_pos (by omega)]
      have a2 : ∀ L, cutS 0 0 (-1) L = cutS 0 f (t - 1) L := fun L => by
        unfold cutS; rw [if_pos (by omega), if_pos (by omega)]
      show ackG (nextG B.S f t) (0, -1) (endB B.S t) = ackG (nextG B.S f t) (f, t - 1) (endB B.S t)
      unfold ackG
      have a1' : addS 0 0 (-1) (nextG B.S f t).A = addS 0 f (t - 1) (nextG B.S f t).A := a1
      simp only [a1', a2]
    · rw [if_neg c]
      show ackG (nextG B.S f t) (f, f + (t - f) - 1) (endB B.S t) = _
      rw [show f + (t - f) - 1 = t - 1 by omega]
  have hS : (ackB (askB B f t) ⟨f, t - f, endB B.S t⟩).S = ackG (nextG B.S f t) (f, t - 1) (endB B.S t) := hs.trans he
  rw [hS]
  refine ⟨hcl, ?_⟩
  have hG : (ackB (askB B f t) ⟨f, t - f, endB B.S t⟩).G = setG B.G f.toNat (t - f).toNat := rfl
  rw [hG]
  have hlg := leftN_setG B.G f.toNat (t - f).toNat
  rcases l3 with l3 | ⟨l3, l4, l5, l6, l7⟩
  · have hfree := due_free h.ok hd f (Int.le_refl _) (by omega)
    have hpl := h.pl; have hwr := h.wr
    have hgot := h.got f.toNat (by omega)
    rw [Int.toNat_of_nonneg (by omega), hfree] at hgot
    have := hlg.2 (by omega) hgot
    split <;> omega
  · have hbase := clear_base h.ok hc l4 l5
    have hen : B.S.ended = true := by unfold endB at l3; simp only [Bool.and_eq_true] at l3; exact l3.1
    have hdn : doneB (ackG (nextG B.S f t) (f, t - 1) (endB B.S t)) = true := by
      unfold doneB
      have e1 : (ackG (nextG B.S f t) (f, t - 1) (endB B.S t)).ended = true := hen
      have e2 : (ackG (nextG B.S f t) (f, t - 1) (endB B.S t)).base = wr B.S := by
        show baseOf B.S.base (addS 0 f (t - 1) B.S.A) = wr B.S
        have : addS 0 f (t - 1) B.S.A = B.S.A := by unfold addS; rw [if_pos (by omega)]
        rw [this]
        unfold baseOf
        rw [if_neg (by rw [h.ok.top]; simp)]
        exact hbase
      have e3 : (ackG (nextG B.S f t) (f, t - 1) (endB B.S t)).fin = 3 := by
        show (if endB B.S t = true ∧ (nextG B.S f t).fin ≠ 0 then (3 : Int) else (nextG B.S f t).fin) = 3
        have hn : (nextG B.S f t).fin ≠ 0 := by
          rw [nextG_fin]
          by_cases c : B.S.fin = 3
          · simp [c]
          · simp [c, l3]
        rw [if_pos ⟨l3, hn⟩]
      have e4 : wr (ackG (nextG B.S f t) (f, t - 1) (endB B.S t)) = wr B.S := rfl
      rw [e1, e2, e3, e4]
      simp
    rw [if_pos hdn]
    omega

/-- Where it is done, all has come. -/
theorem done_all {cap : Int} {B : Bk} (h : BkOk cap B) (hd : doneB B.S = true) : B.fin = true ∧ leftN B.G = 0 ∧ B.ended = true ∧ B.S.base = B.T.length ∧ B.S.fin = 3 := by
  unfold doneB at hd
  simp only [Bool.and_eq_true, decide_eq_true_eq] at hd
  obtain ⟨⟨h1, h2⟩, h3⟩ := hd
  have hen : B.ended = true := h.en ▸ h1
  have hw := h.wr
  have hf := h.full hen
  refine ⟨by rw [h.fin, h3]; rfl, leftN_all fun x hx => ?_, hen, by omega, h3⟩
  rw [h.gl] at hx
  rw [h.got x hx, h.ok.low (x : Int) (by omega) (by omega)]

/-- A book that was just begun. -/
def bk0 (cap : Int) (T : List Int) : Bk := ⟨new0 cap, T, 0, false, List.replicate T.length false, false, []⟩
theorem bk_new {cap : Int} (hc : 1 ≤ cap ∧ cap ≤ 65536) (T : List Int) : BkOk cap (bk0 cap T) := by
  refine ⟨sdok_new hc, rfl, rfl, ?_, Nat.zero_le _, rfl, fun e => (by cases e), ?_, fun x hx => ?_, rfl, fun e => absurd rfl e, fun p hp => ?_⟩
  · show ([] : List Int) = T.take 0
    simp
  · show (List.replicate T.length false).length = T.length
    simp
  · have hx' : x < T.length := hx
    show (List.replicate T.length false)[x]? = some (memB (x : Int) [])
    rw [List.getElem?_replicate, if_pos hx']
    rfl
  · have : p ∈ ([] : List Pc) := hp
    simp at this
theorem cov_new (cap : Int) (T : List Int) : Cov (bk0 cap T).S (bk0 cap T).P :=
  ⟨fun x h0 h1 => by have : x < 0 := h1; omega, fun e => by have : (0 : Int) = 1 := e; omega⟩
end Go.Proofs.Ytdalekjpjnhboaa

namespace Go.Proofs.Ytdalekjpjnhboaa
open Go.RowKit
set_option linter.unusedVariables false
set_option maxHeartbeats 400000
set_option maxRecDepth 100000

def bl1 (G : List Bool) : Array Value := (G.map Value.bool).toArray
def Pc.cs (p : Pc) : List Value := [.int .i64 p.off, .int .i64 p.size, .bool p.fin]
def pca (p : Pc) : Array Value := #[.int .i64 p.off, .int .i64 p.size, .bool p.fin]
/-- The cells of a book. -/
def bkc (b : Nat) (tv gv pv : Value) (B : Bk) : Array Value := #[ptr b, tv, .int .i64 (B.put : Int), .bool B.ended, gv, .bool B.fin, pv]
/-- The pieces that were told, as they lie in memory. -/
def PR (n : Nat) (X : World) (v : Value) (P : List Pc) : Prop := X.ownsRow n 57 3 v P.length (P.flatMap Pc.cs)
abbrev gsl (bg n : Nat) : Value := .slice (some ⟨bg, 0, none⟩) n n

theorem bl1_get (G : List Bool) (i : Nat) (x : Bool) (h : G[i]? = some x) : (bl1 G)[i]? = some (.bool x) := by simp [bl1, h]
theorem bl1_set (G : List Bool) (i : Nat) (x : Bool) : (bl1 G).setIfInBounds i (.bool x) = bl1 (G.set i x) := by
  unfold bl1
  rw [List.map_set]
  simp

theorem pr_nil (n : Nat) (X : World) : PR n X (.slice none 0 0) [] := ⟨rfl, .inl ⟨rfl, rfl⟩⟩
theorem pflat_get (T : List Pc) : ∀ (i : Nat) (x : Pc) (j : Nat) (v : Value), T[i]? = some x → x.cs[j]? = some v → (T.flatMap Pc.cs)[i * 3 + j]? = some v := by
  induction T with
  | nil => intro i x j v h; simp at h
  | cons y T ih =>
    intro i x j v h hj
    have hl : y.cs.length = 3 := rfl
    rw [List.flatMap_cons]
    cases i with
    | zero =>
      simp at h
      subst h
      have : j < y.cs.length := (List.getElem?_eq_some_iff.1 hj).1
      rw [Nat.zero_mul, Nat.zero_add, List.getElem?_append_left this]
      exact hj
    | succ i =>
      rw [List.getElem?_append_right (by rw [hl]; omega), hl, show (i + 1) * 3 + j - 3 = i * 3 + j by omega]
      exact ih i x j v (by simpa using h) hj
theorem PR.at {n : Nat} {X : World} {v : Value} {P : List Pc} (h : PR n X v P) : ∃ a c, v = .slice a P.length c ∧ P.length ≤ c ∧ c ≤ maxLen ∧ (P = [] ∨ ∃ g, a = some ⟨g, 0, none⟩ ∧ n ≤ g ∧ g < X.heap.size ∧ ∀ i x, P[i]? = some x → ∀ j u, x.cs[j]? = some u → X.cell? ⟨g, i * 3 + j, none⟩ = some u) := by
  have hl := h.lt
  rcases h.2 with ⟨e1, e2⟩ | ⟨g, c', cur, e1, q1, q2, q3, q4, q5, q6⟩
  · have : P = [] := List.length_eq_zero_iff.1 e2
    subst this
    exact ⟨none, 0, e1, Nat.le_refl _, Nat.zero_le _, .inl rfl⟩
  · refine ⟨_, c', e1, q3, q4, .inr ⟨g, rfl, q1, (hl g (by rw [e1]; rfl)).2, fun i x hi j u hj => ?_⟩⟩
    have hlt := (List.getElem?_eq_some_iff.1 hi).1
    have hj3 : j < 3 := (List.getElem?_eq_some_iff.1 hj).1
    unfold World.cell?
    rw [q2]
    have h1 : (cur.toList.take (P.length * 3))[i * 3 + j]? = (P.flatMap Pc.cs)[i * 3 + j]? := by rw [q6]
    rw [List.getElem?_take, if_pos (by omega), Array.getElem?_toList, pflat_get P i x j u hi hj] at h1
    simp only
    exact h1
theorem PR.kept {n : Nat} {X Y : World} {v : Value} {P : List Pc} (h : PR n X v P) (hk : ∀ g, v.ownBlock = some g → Y.heap[g]? = X.heap[g]?) : PR n Y v P := by
  refine ⟨h.1, ?_⟩
  rcases h.2 with h2 | ⟨g, c, cur, e1, q1, q2, q3⟩
  · exact .inl h2
  · exact .inr ⟨g, c, cur, e1, q1, (hk g (by rw [e1]; rfl)).trans q2, q3⟩
theorem PR.ne {n : Nat} {X : World} {v : Value} {P : List Pc} (h : PR n X v P) {g : Nat} {cs : Array Value} {t : TypeId} (hb : Blk X g cs t) (ht : t ≠ 57) : v.ownBlock ≠ some g := fun e => by
  rcases h.2 with ⟨rfl, -⟩ | ⟨g', c, cur, rfl, q1, q2, q3⟩
  · cases e
  · cases e
    have hb' : X.heap[g']? = some (.cells cs t (0, 0)) := hb
    rw [q2] at hb'
    injection hb' with hb'
    injection hb' with _ hb'
    exact ht hb'.symm
theorem Blk.neT {w : World} {g g' : Nat} {cs cs' : Array Value} {t t' : TypeId} (h : Blk w g cs t) (h' : Blk w g' cs' t') (ht : t ≠ t') : g ≠ g' := by
  rintro rfl
  have := (show w.heap[g]? = _ from h).symm.trans (show w.heap[g]? = _ from h')
  simp at this
  exact ht this.2

theorem Try.infoPc : (Try.prog.info? 57).map (fun i => (i.zero, i.size, i.bytes)) = some (some (.agg #[.int .i64 0, .int .i64 0, .bool false]), 3, 24) := by kernel_rfl

/-- One more piece. -/
theorem pr_app (n : Nat) (W : World) (v : Value) (P : List Pc) (x : Pc) (g : Nat) (c : Nat) (h : PR n W v P) (hn : n ≤ W.heap.size) (hc : Blk W g (pca x) 57) (hb : P.length + 1 ≤ 1000000000000) :
    ∃ v' W', (Builtin.append_ #[48, 48] 48 #[v, .slice (some ⟨g, 0, none⟩) 1 c]).run Try.prog W = .ok v' W' ∧ PR n W' v' (P ++ [x]) ∧ (W.grownBy W' v.ownBlock ∧ (v'.ownBlock = v.ownBlock ∨ v'.ownBlock = some W.heap.size)) := by
  obtain ⟨i, hi, hz, hs, hby⟩ := info_parts Try.infoPc
  have hnews : ∀ j u, x.cs[j]? = some u → W.cell? ((⟨g, 0, none⟩ : Addr).add j) = some u := fun j u hj => by
    have hj3 : j < 3 := (List.getElem?_eq_some_iff.1 hj).1
    have := hc.cell j u (by
      match j, hj with
      | 0, hj => exact hj
      | 1, hj => exact hj
      | 2, hj => exact hj)
    simpa only [Addr.add_lit, Nat.zero_add] using this
  have h1 : ∀ u ∈ x.cs, u.oneCell' = true := by simp [Pc.cs, Value.oneCell']
  obtain ⟨v', W', hr, ho, hgr, hnil⟩ := run_append_own (P := Try.prog) W n 48 48 57 i _ 3 24 Try.underlying48 hi hz hs hby rfl (by decide) v P.length (P.flatMap Pc.cs) h ⟨g, 0, none⟩ 1 c x.cs rfl hnews h1 (by unfold maxLen; omega) (by omega) hn
  have e : P.flatMap Pc.cs ++ x.cs = (P ++ [x]).flatMap Pc.cs := by simp
  have e2 : (P ++ [x]).length = P.length + 1 := by simp
  rw [e] at ho
  refine ⟨v', W', hr, by unfold PR; rw [e2]; exact ho, hgr, ?_⟩
  rcases h.2 with ⟨rfl, hl⟩ | ⟨g', cap, cur, rfl, hbg, hgg, hnc, hcm, hcs, htake⟩
  · have := run_append_nil (P := Try.prog) W 48 48 57 i _ Try.underlying48 hi hz ⟨g, 0, none⟩ 1 c x.cs (by rw [hs]; rfl) hnews (by omega) (by omega) (by rw [hby]; omega)
    rw [this] at hr
    injection hr with e1 e2
    subst e1 e2
    exact .inr rfl
  · by_cases hroom : P.length + 1 ≤ cap
    · have := run_append_room (P := Try.prog) W 48 48 57 i Try.underlying48 hi g' P.length cap cur hgg ⟨g, 0, none⟩ 1 c x.cs (by rw [hs]; rfl) hnews h1 hroom (by rw [hs, hcs]; show P.length * 3 + 3 ≤ cap * 3; omega)
      rw [this] at hr
      injection hr with e1 e2
      subst e1
      exact .inl rfl
    · have := run_append_grow (P := Try.prog) W 48 48 57 i _ Try.underlying48 hi hz ⟨g', 0, none⟩ P.length cap (P.flatMap Pc.cs) (by rw [hs]; exact h.1) (h.cells (g := g') rfl) ⟨g, 0, none⟩ 1 c x.cs (by rw [hs]; rfl) hnews (by omega) (by omega) (growslice_fits (by omega) (by rw [hby]; omega))
      rw [this] at hr
      injection hr with e1 e2
      subst e1 e2
      exact .inr rfl

/-- A text that came in. -/
structure TxIn (w : World) (ta : Option Addr) (tc : Nat) (T : List Int) : Prop where
  cap : T.length ≤ tc ∧ tc ≤ 9223372036854775807
  by_ : ∀ x ∈ T, IsB x
  at_ : (ta = none ∧ T = [] ∧ tc = 0) ∨ ∃ ad, ta = some ad ∧ (T = [] ∨ ∃ tb toff, ad = ⟨tb, toff, none⟩ ∧ ∀ i, i < T.length → w.cell? ⟨tb, toff + i, none⟩ = some (.int .u8 (T.getD i 0)))

theorem TxIn.addr {w : World} {ta : Option Addr} {tc : Nat} {T : List Int} (h : TxIn w ta tc T) (hn : 0 < T.length) : ∃ tb toff, ta = some ⟨tb, toff, none⟩ ∧ tb < w.heap.size ∧ ∀ i, i < T.length → w.cell? ⟨tb, toff + i, none⟩ = some (.int .u8 (T.getD i 0)) := by
  have hne : T ≠ [] := fun e => by rw [e] at hn; simp at hn
  rcases h.at_ with ⟨-, e, -⟩ | ⟨ad, e, hc⟩
  · exact absurd e hne
  · rcases hc with hc | ⟨tb, toff, rfl, hc⟩
    · exact absurd hc hne
    · exact ⟨tb, toff, e, World.block_lt_of_cell? _ _ (hc 0 hn), hc⟩
/-- A part of it. -/
theorem TxIn.part {w Y : World} {tb toff : Nat} {T : List Int} (hb : ∀ x ∈ T, IsB x) (hc : ∀ i, i < T.length → w.cell? ⟨tb, toff + i, none⟩ = some (.int .u8 (T.getD i 0))) (g : w.grownBy Y none) (p n : Nat) (hp : p + n ≤ T.length) : Rd Y (some ⟨tb, toff + p, none⟩) ((T.drop p).take n) := by
  refine ⟨fun x hx => hb x (List.mem_of_mem_drop (List.mem_of_mem_take hx)), fun hne => ?_⟩
  refine ⟨tb, _, rfl, fun i hi => ?_⟩
  have hi' : i < n := by simp at hi; omega
  rw [Nat.add_assoc, cell_grown (hc (p + i) (by omega)) g]
  simp only [List.getD_eq_getElem?_getD]
  rw [List.getElem?_take, if_pos hi', List.getElem?_drop]
theorem rd_nil (w : World) (a : Option Addr) : Rd w a [] := ⟨fun x hx => (by cases hx), fun hne => absurd rfl hne⟩

/-- A book at bb: its Send at b, its marks at bg; all of it new since w. -/
structure BM (w : World) (bb b bg : Nat) (ta : Option Addr) (tc : Nat) (pv : Value) (X : World) (B : Bk) : Prop where
  at_ : ∃ M ba bl vh, At X M b ba bl vh X B.S ∧ (∀ g, M g → w.heap.size ≤ g ∧ g < X.heap.size) ∧ ¬ M bb ∧ ¬ M bg ∧ (∀ g, pv.ownBlock = some g → ¬ M g)
  blk : Blk X bb (bkc b (.slice ta B.T.length tc) (gsl bg B.G.length) pv B) 50
  got : Blk X bg (bl1 B.G) 4
  row : PR w.heap.size X pv B.P
  nb : w.heap.size ≤ bb
  ng : w.heap.size ≤ bg
  gr : w.grownBy X none
  tx : TxIn w ta tc B.T

section
variable {w : World} {bb b bg : Nat} {ta : Option Addr} {tc : Nat} {pv : Value} {X Y : World} {B B' : Bk}

theorem grown_kp {A C : World} {M : Nat → Prop} (h : w.grownBy A none) (k : Kp M A C) (hM : ∀ g, M g → w.heap.size ≤ g) : w.grownBy C none :=
  ⟨k.os.trans h.os, k.tape.trans h.tape, k.output.trans h.output, Nat.le_trans h.size k.size, fun g hg hn => by
    rw [k.block g (Nat.lt_of_lt_of_le hg h.size) (fun q => by have := hM g q; omega)]
    exact h.block g hg hn⟩

theorem BM.grown (h : BM w bb b bg ta tc pv X B) (g : X.grownBy Y none) : BM w bb b bg ta tc pv Y B := by
  obtain ⟨M, ba, bl, vh, hA, hM, n1, n2, n3⟩ := h.at_
  have hs := g.size
  refine ⟨⟨_, ba, bl, vh, hA.rebase g, fun k q => ?_, fun q => ?_, fun q => ?_, fun k e q => ?_⟩, h.blk.grown g, h.got.grown g, h.row.kept fun k e => g.block k (h.row.lt k e).2 (by simp), h.nb, h.ng, grown_trans h.gr g, h.tx⟩
  · rcases q.1 with q1 | q1
    · have := hM k q1; omega
    · have := h.gr.size; omega
  · rcases q.1 with q1 | q1
    · exact n1 q1
    · omega
  · rcases q.1 with q1 | q1
    · exact n2 q1
    · omega
  · rcases q.1 with q1 | q1
    · exact n3 k e q1
    · omega

/-- The Send of a book, in a world that has grown. -/
theorem BM.ats (h : BM w bb b bg ta tc pv X B) (g : X.grownBy Y none) : ∃ M ba bl vh, At Y M b ba bl vh Y B.S ∧ (∀ g, M g → w.heap.size ≤ g ∧ g < X.heap.size) ∧ ¬ M bb ∧ ¬ M bg ∧ (∀ g, pv.ownBlock = some g → ¬ M g) := by
  obtain ⟨M, ba, bl, vh, hA, hM, n1, n2, n3⟩ := h.at_
  refine ⟨_, ba, bl, vh, hA.rebase g, fun k q => ?_, fun q => ?_, fun q => ?_, fun k e q => ?_⟩
  · refine ⟨?_, q.2⟩
    rcases q.1 with q1 | q1
    · exact (hM k q1).1
    · have := h.gr.size; omega
  · rcases q.1 with q1 | q1
    · exact n1 q1
    · omega
  · rcases q.1 with q1 | q1
    · exact n2 q1
    · omega
  · rcases q.1 with q1 | q1
    · exact n3 k e q1
    · omega

/-- Behind a call of the Send. -/
theorem BM.call {M : Nat → Prop} {ba bl : Nat} {vh : Value} {S' : Sd} (h : BM w bb b bg ta tc pv X B) (hM : ∀ g, M g → w.heap.size ≤ g ∧ g < X.heap.size) (n1 : ¬ M bb) (n2 : ¬ M bg) (n3 : ∀ g, pv.ownBlock = some g → ¬ M g) (hA : At X M b ba bl vh Y S') : BM w bb b bg ta tc pv Y { B with S := S' } := by
  have hs := hA.kp.size
  have l1 := h.blk.lt; have l2 := h.got.lt
  refine ⟨⟨_, ba, bl, vh, hA.rebase (World.grownBy.refl Y none), fun k q => ?_, fun q => ?_, fun q => ?_, fun k e q => ?_⟩, (hA.kp.block bb l1 n1).trans h.blk, (hA.kp.block bg l2 n2).trans h.got, h.row.kept fun k e => hA.kp.block k (h.row.lt k e).2 (n3 k e), h.nb, h.ng, grown_kp h.gr hA.kp (fun g q => (hM g q).1), h.tx⟩
  · refine ⟨?_, q.2⟩
    rcases q.1 with q1 | q1
    · exact (hM k q1).1
    · have := h.gr.size; omega
  · rcases q.1 with q1 | q1
    · exact n1 q1
    · omega
  · rcases q.1 with q1 | q1
    · exact n2 q1
    · omega
  · rcases q.1 with q1 | q1
    · exact n3 k e q1
    · have := (h.row.lt k e).2; omega

theorem grown_one (X : World) (g j : Nat) (x : Value) : X.grownBy (X.setCell ⟨g, j, none⟩ x) (some g) := grown_at (World.grownBy.refl X (some g)) j x

/-- A cell of the book is written. -/
theorem BM.put (h : BM w bb b bg ta tc pv X B) (j : Nat) (x : Value) (e : bkc b (.slice ta B'.T.length tc) (gsl bg B'.G.length) pv B' = (bkc b (.slice ta B.T.length tc) (gsl bg B.G.length) pv B).setIfInBounds j x) (eS : B'.S = B.S) (eT : B'.T = B.T) (eG : B'.G = B.G) (eP : B'.P = B.P) : BM w bb b bg ta tc pv (X.setCell ⟨bb, j, none⟩ x) B' := by
  obtain ⟨M, ba, bl, vh, hA, hM, n1, n2, n3⟩ := h.at_
  have k := grown_one X bb j x
  refine ⟨⟨M, ba, bl, vh, by rw [eS]; exact hA.past n1 h.blk.lt k, fun g q => ⟨(hM g q).1, by rw [set_size]; exact (hM g q).2⟩, n1, n2, n3⟩, by rw [e]; exact h.blk.setC j x, by rw [eG]; exact h.got.setO bb j x (h.blk.neT h.got (by decide)), by rw [eP]; exact h.row.kept fun g eg => set_heap _ _ _ _ _ (fun q => h.row.ne h.blk (by decide) (q ▸ eg)), h.nb, h.ng, grown_set h.gr bb j x h.nb, by rw [eT]; exact h.tx⟩

/-- A byte is marked. -/
theorem BM.mark (h : BM w bb b bg ta tc pv X B) (i : Nat) : BM w bb b bg ta tc pv (X.setCell ⟨bg, i, none⟩ (.bool true)) { B with G := B.G.set i true } := by
  obtain ⟨M, ba, bl, vh, hA, hM, n1, n2, n3⟩ := h.at_
  have k := grown_one X bg i (.bool true)
  refine ⟨⟨M, ba, bl, vh, hA.past n2 h.got.lt k, fun g q => ⟨(hM g q).1, by rw [set_size]; exact (hM g q).2⟩, n1, n2, n3⟩, ?_, ?_, h.row.kept fun g eg => set_heap _ _ _ _ _ (fun q => h.row.ne h.got (by decide) (q ▸ eg)), h.nb, h.ng, grown_set h.gr bg i _ h.ng, h.tx⟩
  · have := h.blk.setO bg i (.bool true) (h.got.neT h.blk (by decide))
    show Blk _ bb (bkc b (.slice ta B.T.length tc) (gsl bg (B.G.set i true).length) pv { B with G := B.G.set i true }) _
    rw [List.length_set]
    exact this
  · show Blk _ bg (bl1 (B.G.set i true)) _
    rw [← bl1_set]
    exact h.got.setC i _

/-- A piece is put down. -/
theorem BM.push {pv' : Value} {x : Pc} (h : BM w bb b bg ta tc pv X B) (k : X.grownBy Y pv.ownBlock) (hr : PR w.heap.size Y pv' (B.P ++ [x])) (ho : pv'.ownBlock = pv.ownBlock ∨ pv'.ownBlock = some X.heap.size) : BM w bb b bg ta tc pv' (Y.setCell ⟨bb, 6, none⟩ pv') { B with P := B.P ++ [x] } := by
  obtain ⟨M, ba, bl, vh, hA, hM, n1, n2, n3⟩ := h.at_
  have hne1 : pv.ownBlock ≠ some bb := h.row.ne h.blk (by decide)
  have hne2 : pv.ownBlock ≠ some bg := h.row.ne h.got (by decide)
  have hs := k.size
  have hA1 : At Y M b ba bl vh Y B.S := by
    cases e : pv.ownBlock with
    | none =>
      rw [e] at k
      have := hA.rebase k
      obtain ⟨va, vl, s1, s2, d, m1, m2⟩ := this.sets
      have f : ∀ {j : Nat}, ((M j ∨ X.heap.size ≤ j) ∧ j < X.heap.size) ∨ Y.heap.size ≤ j → M j ∨ Y.heap.size ≤ j := fun q => by
        rcases q with q | q
        · rcases q.1 with q1 | q1
          · exact .inl q1
          · omega
        · exact .inr q
      exact ⟨Kp.refl _ _, this.blk, ⟨va, vl, s1, s2, d, fun g e => f (m1 g e), fun g e => f (m2 g e)⟩, this.ring, this.ne, f this.mb, f this.ma, f this.ml, fun g e => f (this.mh g e), this.tb⟩
    | some g =>
      rw [e] at k
      exact hA.past (n3 g e) (h.row.lt g e).2 k
  have hb : Blk Y bb (bkc b (.slice ta B.T.length tc) (gsl bg B.G.length) pv B) 50 := (k.block bb h.blk.lt (fun e => hne1 e.symm)).trans h.blk
  have hg : Blk Y bg (bl1 B.G) 4 := (k.block bg h.got.lt (fun e => hne2 e.symm)).trans h.got
  have k2 := grown_one Y bb 6 pv'
  have gY : w.grownBy Y none := ⟨k.os.trans h.gr.os, k.tape.trans h.gr.tape, k.output.trans h.gr.output, Nat.le_trans h.gr.size k.size, fun g hg hn => by
    rw [k.block g (Nat.lt_of_lt_of_le hg h.gr.size) (fun e => by have := (h.row.lt g e.symm).1; omega)]
    exact h.gr.block g hg hn⟩
  refine ⟨⟨M, ba, bl, vh, hA1.past n1 hb.lt k2, fun g q => ⟨(hM g q).1, by rw [set_size]; have := (hM g q).2; omega⟩, n1, n2, fun g e q => ?_⟩, ?_, hg.setO bb 6 _ (hb.neT hg (by decide)), hr.kept fun g eg => set_heap _ _ _ _ _ (fun q => hr.ne hb (by decide) (q ▸ eg)), h.nb, h.ng, grown_set gY bb 6 _ h.nb, h.tx⟩
  · rcases ho with ho | ho
    · exact n3 g (ho ▸ e) q
    · rw [e] at ho
      injection ho with ho
      have := (hM g q).2
      omega
  · have := hb.setC 6 pv'
    exact this

theorem BM.cells (h : BM w bb b bg ta tc pv X B) : X.cell? ⟨bb, 0, none⟩ = some (ptr b) ∧ X.cell? ⟨bb, 1, none⟩ = some (.slice ta B.T.length tc) ∧ X.cell? ⟨bb, 2, none⟩ = some (.int .i64 (B.put : Int)) ∧ X.cell? ⟨bb, 3, none⟩ = some (.bool B.ended) ∧ X.cell? ⟨bb, 4, none⟩ = some (gsl bg B.G.length) ∧ X.cell? ⟨bb, 5, none⟩ = some (.bool B.fin) ∧ X.cell? ⟨bb, 6, none⟩ = some pv :=
  ⟨h.blk.cell 0 _ rfl, h.blk.cell 1 _ rfl, h.blk.cell 2 _ rfl, h.blk.cell 3 _ rfl, h.blk.cell 4 _ rfl, h.blk.cell 5 _ rfl, h.blk.cell 6 _ rfl⟩
end
end Go.Proofs.Ytdalekjpjnhboaa

namespace Go.Proofs.Ytdalekjpjnhboaa
open Go.RowKit
set_option linter.unusedVariables false
set_option maxHeartbeats 4000000
set_option maxRecDepth 100000

section
variable {w : World} {bb b bg : Nat} {ta : Option Addr} {tc : Nat} {pv : Value} {X Y : World} {B B' : Bk} {cap : Int}

theorem left_any (h : BM w bb b bg ta tc pv X B) (hT : B.G.length ≤ 1048576) :
    Calls Try.prog 17 #[ptr bb] X fun e Y => e = .returned (.int .i64 (leftN B.G : Int)) ∧ Y = X := by
  obtain ⟨-, -, -, -, c4, -, -⟩ := h.cells
  have HG := hide h.got
  generalize hN : B.G.length = N at *
  have HN := hide hN
  clear h hN
  go_enter Try.func17, Try.ntmps17
  go_wp2
  go_loopw [3, 4] (fun n i wr => ∃ k : Nat, k ≤ N ∧ n = .int .i64 (leftN (B.G.take k) : Int) ∧ i = .int .i64 (k : Int) ∧ wr = X) (fun _ i _ => N - (intOf i).toNat)
  case atStart => exact ⟨0, Nat.zero_le _, rfl, rfl, rfl⟩
  case round =>
    obtain ⟨k, hk, rfl, rfl, hwr⟩ := hrel
    subst hwr
    by_cases hlt : k < N
    · obtain ⟨x, hx⟩ : ∃ x, B.G[k]? = some x := ⟨_, List.getElem?_eq_getElem (by rw [unhide HN]; exact hlt)⟩
      have hcx : wr.cell? ⟨bg, k, none⟩ = some (.bool x) := (unhide HG).cell k _ (bl1_get _ _ _ hx)
      have hle := leftN_le (B.G.take k)
      have htl : (B.G.take k).length ≤ k := by simp; omega
      have hst : leftN (B.G.take (k + 1)) = leftN (B.G.take k) + (if x = true then 0 else 1) := by
        rw [List.take_add_one, hx, leftN_app]
        simp [leftN]
      have HST := hide hst
      have hkn : (k : Int) < (N : Int) := by omega
      generalize leftN (B.G.take k) = a at *
      have HX := hide hx
      clear hx hst
      cases x with
      | true =>
        go_wp2
        refine ⟨⟨k + 1, hlt, ?_, by go_num, trivial⟩, by simp [intOf]; omega⟩
        rw [unhide HST]; rfl
      | false =>
        go_wp2
        refine ⟨⟨k + 1, hlt, ?_, by go_num, trivial⟩, by simp [intOf]; omega⟩
        rw [unhide HST]; go_num
    · obtain rfl : k = N := by omega
      have hno : ¬ (k : Int) < (k : Int) := by omega
      have e : B.G.take k = B.G := by rw [← unhide HN]; simp
      rw [e] at *
      go_wp2
      go_ret
      exact ⟨rfl, rfl⟩
end
end Go.Proofs.Ytdalekjpjnhboaa

namespace Go.Proofs.Ytdalekjpjnhboaa
open Go.RowKit
set_option linter.unusedVariables false
set_option maxHeartbeats 4000000
set_option maxRecDepth 100000

section
variable {w : World} {bb b bg : Nat} {ta : Option Addr} {tc : Nat} {pv : Value} {X Y : World} {B B' : Bk} {cap : Int}

theorem acked_any (h : BM w bb b bg ta tc pv X B) (hok : BkOk cap B) (hT : B.T.length ≤ 1048576) {p : Pc} (hp : PcOk B.S p) :
    Calls Try.prog 15 #[ptr bb, .agg (pca p)] X fun e Y => e = .returned (.tuple #[]) ∧ BM w bb b bg ta tc pv Y (ackB B p) := by
  have hwr := hok.wr
  have hpl := hok.pl
  have hsw := hok.ok.sw
  have hgl := hok.gl
  obtain ⟨p1, p2, p3, -⟩ := hp
  obtain ⟨X1, hX1⟩ : ∃ X1, X1 = X.alloc (.cells (pca p) 57) := ⟨_, rfl⟩
  have g1 : X.grownBy X1 none := by rw [hX1]; exact grown_alloc _ _
  have bp : Blk X1 X.heap.size (pca p) 57 := by rw [hX1]; exact Blk.new _ _ _
  obtain ⟨M, ba, bl, vh, hA, hM, n1, n2, n3⟩ := h.ats (grown_trans g1 (grown_drewN X1 1))
  have hack := acked_at hA hok.ok (by omega) p.off p.size p.fin (by omega) (by omega)
  have h1 := h.grown (grown_trans g1 (grown_drewN X1 1))
  have hMs : ∀ g, M g → w.heap.size ≤ g ∧ g < (X1.drewN 1).heap.size := fun g q => ⟨(hM g q).1, by have := (hM g q).2; have := g1.size; show g < X1.heap.size; omega⟩
  have nM : ¬ M X.heap.size := fun q => by have := (hM _ q).2; omega
  obtain ⟨c0, -, -, -, -, -, -⟩ := h1.cells
  have c0' : X1.cell? ⟨bb, 0, none⟩ = some (ptr b) := c0
  have q0 : X1.cell? ⟨X.heap.size, 0, none⟩ = some (.int .i64 p.off) := bp.cell 0 _ rfl
  have q1 : X1.cell? ⟨X.heap.size, 1, none⟩ = some (.int .i64 p.size) := bp.cell 1 _ rfl
  have q2 : X1.cell? ⟨X.heap.size, 2, none⟩ = some (.bool p.fin) := bp.cell 2 _ rfl
  have POST : Hid (∀ Y vh', At (X1.drewN 1) M b ba bl vh' Y (ackS B.S p.off p.size p.fin) → BM w bb b bg ta tc pv Y { B with S := ackS B.S p.off p.size p.fin } ∧ Blk Y X.heap.size (pca p) 57 ∧ Y.cell? ⟨bb, 0, none⟩ = some (ptr b) ∧ Y.cell? ⟨X.heap.size, 0, none⟩ = some (.int .i64 p.off) ∧ Y.cell? ⟨X.heap.size, 1, none⟩ = some (.int .i64 p.size) ∧ Y.cell? ⟨X.heap.size, 2, none⟩ = some (.bool p.fin)) := fun Y vh' hq => by
    have hb := h1.call hMs n1 n2 n3 hq
    have hp : Blk Y X.heap.size (pca p) 57 := (hq.kp.block _ (show X.heap.size < X1.heap.size from bp.lt) nM).trans bp
    exact ⟨hb, hp, hb.cells.1, hp.cell 0 _ rfl, hp.cell 1 _ rfl, hp.cell 2 _ rfl⟩
  obtain ⟨o, ho⟩ : ∃ o : Nat, p.off = (o : Int) := ⟨p.off.toNat, by omega⟩
  obtain ⟨z, hz⟩ : ∃ z : Nat, p.size = (z : Int) := ⟨p.size.toNat, by omega⟩
  have hoz : o + z ≤ B.G.length := by omega
  have FIN : Hid (∀ Z, BM w bb b bg ta tc pv Z { B with S := ackS B.S p.off p.size p.fin, G := setG B.G o z } → BM w bb b bg ta tc pv (Z.setCell ⟨bb, 5, none⟩ (.bool (B.fin || p.fin))) (ackB B p)) := fun Z hb => by
    have e : ackB B p = { B with S := ackS B.S p.off p.size p.fin, G := setG B.G o z, fin := B.fin || p.fin } := by
      unfold ackB
      rw [show p.off.toNat = o by omega, show p.size.toNat = z by omega]
    rw [e]
    exact hb.put 5 _ rfl rfl rfl rfl rfl
  have hGT : B.G.length ≤ 1048576 := by omega
  have hbX : X.heap.size < X1.heap.size := bp.lt
  clear hA hM n1 n2 n3 h1 hMs nM c0 bp g1 h hok hwr hpl hsw hgl hT p1 p2 p3
  go_enter Try.func15, Try.ntmps15
  go_upto_region 1 with fail
  rw [← hX1]
  clear hX1
  have HO := hide ho
  have HZ := hide hz
  clear ho hz
  go_region_held3 (fun Z => Z.cell? ⟨bb, 0, none⟩ = some (ptr b) ∧ Z.cell? ⟨X.heap.size, 0, none⟩ = some (.int .i64 p.off) ∧ Z.cell? ⟨X.heap.size, 1, none⟩ = some (.int .i64 p.size) ∧ Z.cell? ⟨X.heap.size, 2, none⟩ = some (.bool p.fin)) (go_keep) (first | (go_at_call 22; refine hack.mono ?_; rintro e Y ⟨rfl, vh', hq⟩; obtain ⟨hb, hpb, y0, y1, y2, y3⟩ := unhide POST Y vh' hq))
  have HP := hide hpb
  have HB : Hid (BM w bb b bg ta tc pv Y { B with S := ackS B.S p.off p.size p.fin, G := setG B.G o 0 }) := hb
  have hr1 : IntKind.i64.wrap ((o : Int) + (z : Int)) = (o : Int) + (z : Int) := by rw [IntKind.wrap_i64]; omega
  clear hb hpb hq hack POST c0' q0 q1 q2 hbX
  have ho := unhide HO
  have hz := unhide HZ
  generalize X.heap.size = pb at *
  generalize hSS : ackS B.S p.off p.size p.fin = SS at *
  clear hSS
  generalize hNG : B.G.length = N at *
  have HN := hide hNG
  clear hNG
  rw [ho] at y1
  rw [hz] at y2
  go_wp2
  clear y0 y1 y2 y3
  go_loopw [4] (fun i wr => ∃ k : Nat, k ≤ z ∧ i = .int .i64 ((o + k : Nat) : Int) ∧ Hid (BM w bb b bg ta tc pv wr { B with S := SS, G := setG B.G o k } ∧ Blk wr pb (pca p) 57)) (fun i _ => o + z - (intOf i).toNat)
  case atStart => exact ⟨0, Nat.zero_le _, rfl, unhide HB, unhide HP⟩
  case round =>
    clear HB HP
    obtain ⟨k, hk, rfl, I⟩ := hrel
    obtain ⟨Z, hZ⟩ : ∃ Z, Z = wr := ⟨_, rfl⟩
    subst hZ
    obtain ⟨hb, hpb⟩ := unhide I
    have y0 : Z.cell? ⟨pb, 0, none⟩ = some (.int .i64 (o : Int)) := by rw [← ho]; exact hpb.cell 0 _ rfl
    have y1 : Z.cell? ⟨pb, 1, none⟩ = some (.int .i64 (z : Int)) := by rw [← hz]; exact hpb.cell 1 _ rfl
    have y2 : Z.cell? ⟨pb, 2, none⟩ = some (.bool p.fin) := hpb.cell 2 _ rfl
    obtain ⟨-, -, -, -, c4, c5, -⟩ := hb.cells
    have eN : (setG B.G o k).length = N := by rw [setG_len]; exact unhide HN
    simp only [eN] at c4
    have f5 := hb.blk.thaw 5
    by_cases hlt : k < z
    · obtain ⟨j, hj⟩ : ∃ j, j = o + k := ⟨_, rfl⟩
      have fg := hb.got.thaw j
      have hcg : ∃ v, Z.cell? ⟨bg, j, none⟩ = some v := by
        have : j < (setG B.G o k).length := by rw [eN]; omega
        exact ⟨_, hb.got.cell j _ (bl1_get _ _ _ (List.getElem?_eq_getElem this))⟩
      obtain ⟨v, hv⟩ := hcg
      have NX : Hid (BM w bb b bg ta tc pv (Z.setCell ⟨bg, j, none⟩ (.bool true)) { B with S := SS, G := setG B.G o (k + 1) } ∧ Blk (Z.setCell ⟨bg, j, none⟩ (.bool true)) pb (pca p) 57) := by
        refine ⟨?_, hpb.setO bg j _ (hb.got.neT hpb (by decide))⟩
        have := hb.mark j
        rw [hj] at this ⊢
        exact this
      rw [← hj]
      have hjn : (j : Int) < (N : Int) := by omega
      have hjn' : j < N := by omega
      have hj0 : (0 : Int) ≤ (j : Int) := by omega
      have hjl : (j : Int) < (o : Int) + (z : Int) := by omega
      have hjd : decide ((j : Int) < (o : Int) + (z : Int)) = true := decide_eq_true hjl
      have HJ := hide hj
      have HLT := hide hlt
      clear hj hlt hk hb hpb I eN c5 f5 y2
      go_wp2
      exact ⟨⟨k + 1, unhide HLT, by rw [← Nat.add_assoc, ← unhide HJ]; go_num, NX⟩, by simp [intOf]; omega⟩
    · obtain rfl : k = z := by omega
      have hjl : ¬ ((o + k : Nat) : Int) < (o : Int) + (k : Int) := by omega
      have hjd : decide (((o + k : Nat) : Int) < (o : Int) + (k : Int)) = false := decide_eq_false hjl
      have hF := unhide FIN Z hb
      have HF := hide hF
      clear hF FIN hb hpb I eN c4 hk hlt ho hz HO HZ HN
      simp only at c5
      generalize hpf : p.fin = pf at *
      clear hpf
      cases hbf : B.fin with
      | true =>
        rw [hbf, Bool.true_or] at HF
        rw [hbf] at c5
        clear hbf
        go_wp2
        all_goals refine bodyPost_end (results_none rfl _ _ _) rfl ?_
        all_goals exact ⟨rfl, unhide HF⟩
      | false =>
        rw [hbf, Bool.false_or] at HF
        rw [hbf] at c5
        clear hbf
        go_wp2
        all_goals refine bodyPost_end (results_none rfl _ _ _) rfl ?_
        all_goals exact ⟨rfl, unhide HF⟩
end
end Go.Proofs.Ytdalekjpjnhboaa

namespace Go.Proofs.Ytdalekjpjnhboaa
set_option maxRecDepth 100000

theorem bulk_pos {H : Type} (d : DataW H) : 0 < Rows.uptoBulk d := by
  cases d with
  | lit l => cases l <;> simp [Rows.uptoBulk]
  | _ => simp [Rows.uptoBulk]

theorem bulk_count {H : Type} : ∀ l : List (DataW H), l.length ≤ Rows.uptoBulkAll l
  | [] => Nat.zero_le _
  | d :: r => by
    have h1 := bulk_pos d
    have h2 := bulk_count r
    simp only [Rows.uptoBulkAll, List.length_cons]
    omega

theorem bulk_slice {H : Type} (e s : List (DataW H)) : e.length + s.length < Rows.uptoBulk (.slice e s) := by
  have h1 := bulk_count e
  have h2 := bulk_count s
  simp only [Rows.uptoBulk]
  omega

theorem bulk_among {H : Type} {d : DataW H} : ∀ {l : List (DataW H)}, d ∈ l → Rows.uptoBulk d ≤ Rows.uptoBulkAll l
  | x :: r, h => by
    simp only [Rows.uptoBulkAll]
    rcases List.mem_cons.1 h with e | e
    · subst e; omega
    · have := bulk_among e; omega

theorem bulk_mem {H : Type} {d : DataW H} {l : List (DataW H)} (hk : Rows.uptoSmall H l = true) (h : d ∈ l) : Rows.uptoBulk d ≤ 1048576 := by
  have h1 : Rows.uptoBulkAll l ≤ 1048576 := of_decide_eq_true hk
  have h2 := bulk_among h
  omega
end Go.Proofs.Ytdalekjpjnhboaa

namespace Go.Proofs.Ytdalekjpjnhboaa
open Go.ChangeShapes Go.WideShapes Go.ChangeAt Go.RowKit
set_option linter.unusedVariables false
set_option maxRecDepth 100000
set_option maxHeartbeats 1000000

/-- What becomes of a piece. -/
structure TuE where
  most : Int
  which : Int
  fate : Int
  fin : Bool
structure TuE.Ok (x : TuE) : Prop where
  m : i64B x.most
  w : i64B x.which
  f : i64B x.fate
def TuE.cs (x : TuE) : List Value := [.int .i64 x.most, .int .i64 x.which, .int .i64 x.fate, .bool x.fin]
/-- Turns that came in. -/
structure IsTurns (w : World) (a : Option Addr) (len cap : Nat) (ol : List TuE) : Prop where
  hlen : ol.length = len
  hcap : len ≤ cap ∧ cap ≤ 9223372036854775807
  ok : ∀ x ∈ ol, x.Ok
  cell : len = 0 ∨ ∃ b off, a = some ⟨b, off, none⟩ ∧ ∀ i x, ol[i]? = some x → ∀ j v, x.cs[j]? = some v → w.cell? ⟨b, off + i * 4 + j, none⟩ = some v

section
variable {H : Type} {enc : TypeId × Value → H} {w : World} {base : Nat} {spare : Nat → Bool} {held : Bool}

theorem turn_cells {n : Nat} {cs : List Value} {y : DataW H × List MemPlace} (h2 : DataW.trod enc Try.prog w base spare held n 53 cs = some y) (hl : cs.length = 4) : ∃ x : TuE, x.Ok ∧ cs = x.cs := by
  obtain ⟨xs, m, hk, hxy, hcl, hxl, hf⟩ := DataW.trod_struct Try.underlying53 h2
  have c3 : Try.prog.cellsOf 3 = 1 := by kernel_rfl
  have c4 : Try.prog.cellsOf 4 = 1 := by kernel_rfl
  match xs, hxl, cs, hl with
  | [y0, y1, y2, y3], _, [v0, v1, v2, v3], _ =>
    have f0 := hf 0 _ rfl
    have f1 := hf 1 _ rfl
    have f2 := hf 2 _ rfl
    have f3 := hf 3 _ rfl
    simp [c3, c4] at f0 f1 f2 f3
    obtain ⟨o, e0, _, r0⟩ := DataW.trod_int Try.underlying3 f0
    obtain ⟨k, e1, _, r1⟩ := DataW.trod_int Try.underlying3 f1
    obtain ⟨i, e2, _, r2⟩ := DataW.trod_int Try.underlying3 f2
    obtain ⟨b, e3, _⟩ := DataW.trod_bool Try.underlying4 f3
    simp only [List.cons.injEq, and_true] at e0 e1 e2 e3
    subst e0 e1 e2 e3
    exact ⟨⟨o, k, i, b⟩, ⟨wf_i64 r0, wf_i64 r1, wf_i64 r2⟩, rfl⟩

theorem open_turns {a : Option Addr} {len cap fuel : Nat} {x : DataW H × List MemPlace} (hf : DataW.trod enc Try.prog w base spare held fuel 45 [.slice a len cap] = some x) : (∃ ol, IsTurns w a len cap ol) ∧ len ≤ Rows.uptoBulk x.1 := by
  have c6 : Try.prog.cellsOf 53 = 4 := by kernel_rfl
  rcases Go.Deep.open_slice Try.underlying45 hf with ⟨hcs, _⟩ | ⟨ad, l, c, m, n, D, Pl, hcs, _, hl, hm, hmm, rfl, hx⟩
  · simp at hcs
    obtain ⟨rfl, rfl, rfl⟩ := hcs
    exact ⟨⟨[], rfl, by omega, by simp, .inl rfl⟩, Nat.zero_le _⟩
  · simp at hcs
    obtain ⟨rfl, rfl, rfl⟩ := hcs
    have hlm : len ≤ m := by rw [hmm]; split <;> omega
    have each : ∀ i, i < len → ∃ x : TuE, x.Ok ∧ ∀ j v, x.cs[j]? = some v → w.cell? (ad.add (i * 4) |>.add j) = some v := fun i hi => by
      obtain ⟨cs', h1, h2⟩ := hx i (by omega)
      rw [c6] at h1
      obtain ⟨_, hlen, hcell⟩ := World.cells?_some h1
      obtain ⟨x, ok, rfl⟩ := turn_cells h2 hlen
      exact ⟨x, ok, fun j v hj => by rw [hcell j (by have := (List.getElem?_eq_some_iff.1 hj).1; simpa [TuE.cs] using this)]; exact hj⟩
    obtain ⟨ol, hol, hP⟩ := list_gen len each
    refine ⟨⟨ol, hol, ⟨hl, by unfold maxLen at hm; omega⟩, fun x hx => ?_, ?_⟩, ?_⟩
    · obtain ⟨i, hi⟩ := List.getElem?_of_mem hx
      exact (hP i x hi).1
    · by_cases h0 : len = 0
      · exact .inl h0
      · right
        obtain ⟨x, ok, hc⟩ := each 0 (by omega)
        have hs : ad.spot = none := by
          have := hc 0 _ rfl
          have := spot_none this
          simpa [Addr.add] using this
        obtain ⟨bb, off, sp⟩ := ad
        simp only at hs
        subst hs
        refine ⟨bb, off, rfl, fun i x hi => ?_⟩
        intro j v hj
        have := (hP i x hi).2 j v hj
        simpa only [Addr.add_lit] using this
    · refine Nat.le_trans ?_ (Nat.le_of_lt (bulk_slice _ _))
      simp only [List.length_map, List.length_range]
      omega

theorem open_text {a : Option Addr} {l c fuel : Nat} {y : DataW H × List MemPlace} (h : DataW.trod enc Try.prog w base spare held fuel 33 [.slice a l c] = some y) : ∃ T : List Int, T.length = l ∧ TxIn w a c T ∧ l ≤ Rows.uptoBulk y.1 := by
  have c5 : Try.prog.cellsOf 5 = 1 := by kernel_rfl
  rcases Go.Deep.open_slice Try.underlying33 h with ⟨hcs, _⟩ | ⟨ad, l', c', m, nn, D, Pl, hcs, _, hl, hm, hmm, rfl, hx⟩
  · simp at hcs
    obtain ⟨rfl, rfl, rfl⟩ := hcs
    exact ⟨[], rfl, ⟨by simp, fun x hx => (by cases hx), .inl ⟨rfl, rfl, rfl⟩⟩, Nat.zero_le _⟩
  · simp at hcs
    obtain ⟨rfl, rfl, rfl⟩ := hcs
    have hlm : l ≤ m := by rw [hmm]; split <;> omega
    have each : ∀ i, i < l → ∃ x : Int, IsB x ∧ w.cell? (ad.add i) = some (.int .u8 x) := fun i hi => by
      obtain ⟨cs', h1, h2⟩ := hx i (by omega)
      rw [c5] at h1
      obtain ⟨_, hlen, hcell⟩ := World.cells?_some h1
      obtain ⟨z, e, _, r⟩ := DataW.trod_int Try.underlying5 h2
      subst e
      refine ⟨z, wf_u8 r, ?_⟩
      have := hcell 0 (by omega)
      rw [Nat.mul_one] at this
      rw [add_0] at this
      exact this
    obtain ⟨p, hp, hP⟩ := list_gen l each
    refine ⟨p, hp, ⟨⟨by omega, by unfold maxLen at hm; omega⟩, fun x hx => ?_, .inr ⟨ad, rfl, ?_⟩⟩, ?_⟩
    · obtain ⟨i, hi⟩ := List.getElem?_of_mem hx
      exact (hP i x hi).1
    · by_cases h0 : p = []
      · exact .inl h0
      · right
        have h0' : 0 < l := by rw [← hp]; exact List.length_pos_iff.2 h0
        obtain ⟨x, _, hc⟩ := each 0 h0'
        rw [add_0] at hc
        have hs := spot_none hc
        obtain ⟨bb, off, sp⟩ := ad
        simp only at hs
        subst hs
        refine ⟨bb, off, rfl, fun i hi => ?_⟩
        have hv : p[i]? = some (p[i]'hi) := List.getElem?_eq_getElem _
        have := (hP i _ hv).2
        rw [Addr.add_lit] at this
        rw [this]
        simp [List.getD, hv]
    · refine Nat.le_trans ?_ (Nat.le_of_lt (bulk_slice _ _))
      simp only [List.length_map, List.length_range]
      omega
end

theorem pickN (c : Int) (n : Nat) (w : World) (hc : -9223372036854775808 ≤ c ∧ c ≤ 9223372036854775807) (hn : 1 ≤ n ∧ n ≤ 1000000000000) : Calls Try.prog 13 #[.int .i64 c, .int .i64 (n : Int)] w fun e w' => ∃ k : Nat, e = .returned (.int .i64 (k : Int)) ∧ k < n ∧ w' = w := by
  have hn0 : ((n : Int) == 0) = false := by simp; omega
  have hn1 : ¬ (n : Int) = 0 := by omega
  by_cases h : c < 0
  · have d : decide (c < 0) = true := decide_eq_true h
    have w1 : IntKind.i64.wrap (c + 1) = c + 1 := by rw [IntKind.wrap_i64]; omega
    have w2 : IntKind.i64.wrap (-(c + 1)) = -(c + 1) := by rw [IntKind.wrap_i64]; omega
    obtain ⟨m, hm⟩ : ∃ m : Nat, -(c + 1) = (m : Int) := ⟨(-(c + 1)).toNat, by omega⟩
    have ht : Int.tmod (-(c + 1)) (n : Int) = ((m % n : Nat) : Int) := by rw [hm, ← Int.ofNat_tmod]
    have HM := hide hm
    clear hm
    have hk : m % n < n := Nat.mod_lt _ (by omega)
    generalize m % n = k at *
    go_enter Try.func13, Try.ntmps13
    go_wp2
    all_goals go_ret
    all_goals exact ⟨k, by simp [*], hk, rfl⟩
  · have d : decide (c < 0) = false := decide_eq_false h
    obtain ⟨m, hm⟩ : ∃ m : Nat, c = (m : Int) := ⟨c.toNat, by omega⟩
    have ht : Int.tmod c (n : Int) = ((m % n : Nat) : Int) := by rw [hm, ← Int.ofNat_tmod]
    have HM := hide hm
    clear hm
    have hk : m % n < n := Nat.mod_lt _ (by omega)
    generalize m % n = k at *
    go_enter Try.func13, Try.ntmps13
    go_wp2
    all_goals go_ret
    all_goals exact ⟨k, by simp [*], hk, rfl⟩

theorem Try.infoBo : (Try.prog.info? 4).map (fun i => (i.zero, i.size, i.bytes)) = some (some (.bool false), 1, 1) := by kernel_rfl
theorem mk_bools (n : Nat) (h : n ≤ 281474976710656) (W : World) : (Instr.makeSlice 47 (.int .i64 (n : Int)) (.int .i64 (n : Int))).run Try.prog W = .ok (.slice (some ⟨W.heap.size, 0, none⟩) n n) (W.alloc (.cells (bl1 (List.replicate n false)) 4)) := by
  obtain ⟨i, hi, hz, hs, hb⟩ := info_parts Try.infoBo
  have := run_make (P := Try.prog) W 47 4 i (.bool false) Try.underlying47 hi hz .i64 .i64 n n (by omega) (by omega) (by rw [hb]; omega) (by omega)
  rw [hs] at this
  have e : madeCells (Value.bool false).cells ((n : Int).toNat * 1) = bl1 (List.replicate n false) := by
    have e1 : (Value.bool false).cells = #[Value.bool false] := rfl
    rw [e1]
    apply Array.ext_getElem?
    intro j
    by_cases hj : j < n
    · simp [madeCells, bl1, hj, Nat.mod_one]
    · simp [madeCells, bl1, hj]
  rw [e] at this
  exact this
end Go.Proofs.Ytdalekjpjnhboaa
