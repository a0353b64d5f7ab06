/- What a step may do to a Send. No program in sight. -/
import Derived.Test.YtdalekjpjnhboaaS5E
namespace Go.Proofs.Ytdalekjpjnhboaa
set_option linter.unusedVariables false
set_option maxRecDepth 100000
set_option maxHeartbeats 400000

structure Stp (S S' : Sd) (lim lim' f : Int) (nn : Bool) : Prop where
  ok : SdOk S'
  cap : S'.cap = S.cap
  wlo : wr S ≤ wr S'
  whi : wr S' ≤ wr S + 65536
  base : S.base ≤ S'.base
  sent : S.sent ≤ S'.sent
  li : S'.sent ≤ lim'
  l0 : lim ≤ lim'
  fin : S.fin = 3 → S'.fin = 3
  don : doneB S = true → doneB S' = true
  same : f ≠ 0 ∨ nn = true → S' = S

theorem done_iff {S : Sd} : doneB S = true ↔ S.ended = true ∧ S.base = wr S ∧ S.fin = 3 := by
  unfold doneB
  simp only [Bool.and_eq_true, decide_eq_true_eq]
  exact ⟨fun h => ⟨h.1.1, h.1.2, h.2⟩, fun h => ⟨⟨h.1, h.2.1⟩, h.2.2⟩⟩

theorem stp_self {S : Sd} {lim lim' : Int} (h : SdOk S) (hs : S.sent ≤ lim) (hl : lim ≤ lim') (f : Int) (nn : Bool) : Stp S S lim lim' f nn :=
  ⟨h, rfl, Int.le_refl _, by omega, Int.le_refl _, Int.le_refl _, by omega, hl, id, id, fun _ => rfl⟩

theorem stp_write {S : Sd} {lim : Int} (h : SdOk S) (hs : S.sent ≤ lim) (p : List Int) : Stp S (writeS S p) lim lim (writeE S p.length) false := by
  unfold writeS
  by_cases he : writeE S p.length = 0
  · rw [if_pos he]
    unfold writeE at he
    by_cases h1 : S.ended = true ∨ S.stopped = true
    · rw [if_pos h1] at he; omega
    · rw [if_neg h1] at he
      by_cases h2 : S.cap < wr S - S.base + p.length
      · rw [if_pos h2] at he; omega
      · have hc := h.cap; have hb := h.bs; have hw := h.sw
        have e : wr (writeG S p) = wr S + p.length := by simp [wr, writeG]
        refine ⟨sdok_write h (by omega), rfl, by rw [e]; omega, by rw [e]; omega, Int.le_refl _, Int.le_refl _, hs, Int.le_refl _, id, fun hd => ?_, fun hx => ?_⟩
        · exact absurd (Or.inl (done_iff.1 hd).1) h1
        · rcases hx with hx | hx
          · exfalso; apply hx; unfold writeE; rw [if_neg h1, if_neg h2]
          · cases hx
  · rw [if_neg he]
    exact stp_self h hs (Int.le_refl _) _ _

theorem stp_fin {S : Sd} {lim : Int} (h : SdOk S) (hs : S.sent ≤ lim) : Stp S (if S.ended = true ∨ S.stopped = true then S else finG S) lim lim (if S.ended = true ∨ S.stopped = true then 150 else 0) false := by
  by_cases h1 : S.ended = true ∨ S.stopped = true
  · rw [if_pos h1, if_pos h1]
    exact stp_self h hs (Int.le_refl _) _ _
  · rw [if_neg h1, if_neg h1]
    exact ⟨sdok_fin h, rfl, Int.le_refl _, by show wr S ≤ _; omega, Int.le_refl _, Int.le_refl _, hs, Int.le_refl _, id, fun hd => absurd (Or.inl (done_iff.1 hd).1) h1, fun hx => by rcases hx with hx | hx; exact absurd rfl hx; cases hx⟩

theorem stp_next {S : Sd} {lim : Int} (h : SdOk S) (hw : wr S ≤ 1152921504606846976) (hs : S.sent ≤ lim) (h0 : 0 ≤ lim) (most off : Int) : Stp S (nextS S most off) lim (max lim off) 0 (!(dueS S most off).2.2) := by
  unfold nextS
  cases hd : (dueS S most off).2.2 with
  | false =>
    rw [if_neg (by simp)]
    exact stp_self h hs (by omega) _ _
  | true =>
    rw [if_pos rfl]
    have hdo := due_ok h (most := most) (limit := off) (f := (dueS S most off).1) (t := (dueS S most off).2.1) (by rw [← hd])
    have q := hdo.lim
    generalize (dueS S most off).1 = f at *
    generalize (dueS S most off).2.1 = t at *
    refine ⟨sdok_next h hw hdo, rfl, Int.le_refl _, by show wr S ≤ _; omega, Int.le_refl _, by show S.sent ≤ max S.sent t; omega, by show max S.sent t ≤ _; omega, by omega, fun hf => ?_, fun hdn => ?_, fun hx => by rcases hx with hx | hx; exact absurd rfl hx; simp at hx⟩
    · show (if endB S t = true ∧ S.fin ≠ 3 then 1 else S.fin) = 3
      rw [if_neg (by simp [hf]), hf]
    · obtain ⟨a, b, c⟩ := done_iff.1 hdn
      refine done_iff.2 ⟨a, b, ?_⟩
      show (if endB S t = true ∧ S.fin ≠ 3 then 1 else S.fin) = 3
      rw [if_neg (by simp [c]), c]

theorem stp_ack {S : Sd} {lim : Int} (h : SdOk S) (hw : wr S ≤ 1152921504606846976) (hs : S.sent ≤ lim) (off size : Int) (fin : Bool) : Stp S (ackS S off size fin) lim lim 0 false := by
  unfold ackS
  by_cases hst : S.stopped = true
  · rw [if_pos hst]; exact stp_self h hs (Int.le_refl _) _ _
  · rw [if_neg hst]
    have hb := h.b0; have hbs := h.bs; have hsw := h.sw
    have hin := ofS_in S off size (by omega)
    have ha := sdok_ack h hw (p := ofS S off size) ⟨hin.1, hin.2.1⟩ fin
    have f3 : S.fin = 3 → (ackG S (ofS S off size) fin).fin = 3 := fun hf => by
      show (if fin = true ∧ S.fin ≠ 0 then 3 else S.fin) = 3
      split
      · rfl
      · exact hf
    refine ⟨ha.1, rfl, Int.le_refl _, by show wr S ≤ _; omega, ha.2, Int.le_refl _, hs, Int.le_refl _, f3, fun hd => ?_, fun hx => by rcases hx with hx | hx; exact absurd rfl hx; cases hx⟩
    obtain ⟨a, b, c⟩ := done_iff.1 hd
    refine done_iff.2 ⟨a, ?_, f3 c⟩
    have q1 := ha.2; have q2 := ha.1.bs
    have q3 : (ackG S (ofS S off size) fin).sent = S.sent := rfl
    have q4 : wr (ackG S (ofS S off size) fin) = wr S := rfl
    rw [q4]
    omega

theorem stp_lost {S : Sd} {lim : Int} (h : SdOk S) (hw : wr S ≤ 1152921504606846976) (hs : S.sent ≤ lim) (off size : Int) (fin : Bool) : Stp S (lostS S off size fin) lim lim 0 false := by
  unfold lostS
  by_cases hst : S.stopped = true
  · rw [if_pos hst]; exact stp_self h hs (Int.le_refl _) _ _
  · rw [if_neg hst]
    have hb := h.b0; have hbs := h.bs; have hsw := h.sw
    have hin := ofS_in S off size (by omega)
    have ha := sdok_lost h hw (p := ofS S off size) ⟨hin.1, hin.2.1⟩ fin
    have f3 : S.fin = 3 → (lostG S (ofS S off size) fin).fin = 3 := fun hf => by
      show (if fin = true ∧ S.fin = 1 then 2 else S.fin) = 3
      rw [if_neg (by omega)]
      exact hf
    refine ⟨ha, rfl, Int.le_refl _, by show wr S ≤ _; omega, Int.le_refl _, Int.le_refl _, hs, Int.le_refl _, f3, fun hd => ?_, fun hx => by rcases hx with hx | hx; exact absurd rfl hx; cases hx⟩
    obtain ⟨a, b, c⟩ := done_iff.1 hd
    exact done_iff.2 ⟨a, b, f3 c⟩

theorem stp_stop {S : Sd} {lim : Int} (h : SdOk S) (hs : S.sent ≤ lim) : Stp S (stopS S) lim lim 0 false := by
  unfold stopS
  by_cases hd : doneB S = true
  · rw [if_pos hd]; exact stp_self h hs (Int.le_refl _) _ _
  · rw [if_neg hd]
    refine ⟨sdok_stop h, rfl, Int.le_refl _, by show wr S ≤ _; omega, Int.le_refl _, Int.le_refl _, hs, Int.le_refl _, fun hf => ?_, fun hx => absurd hx hd, fun hx => by rcases hx with hx | hx; exact absurd rfl hx; cases hx⟩
    show (if S.fin = 2 then 1 else S.fin) = 3
    rw [if_neg (by omega)]
    exact hf
end Go.Proofs.Ytdalekjpjnhboaa
