/- Met and less, by lists. No program in sight. -/
import Derived.Test.YthihabjegpacaaaGreatRA
namespace Go.Proofs.YthihabjegpacaaaGreat
set_option maxRecDepth 100000
set_option linter.unusedVariables false

theorem flat_good {mn mx : Int} {La : List Sp} {G : Sp → List Sp} (h : Good mn mx La) (hG : ∀ r ∈ La, Good r.1 r.2 (G r)) : Good mn mx (La.flatMap G) := by
  induction La generalizing mn with
  | nil => trivial
  | cons s La ih =>
    rw [List.flatMap_cons]
    have h1 := hG s (by simp)
    have hs := h.1; have hs2 := h.2.1; have hs3 := h.2.2.1
    refine Good.join (k := s.2 + 2) ((h1.mono hs).top hs3) (fun t ht => by have := h1.mem ht; omega) (by omega) ?_
    exact ih h.2.2.2 (fun r hr => hG r (by simp [hr]))

theorem memB_out {lo hi x : Int} {L : List Sp} (h : Good lo hi L) (hx : x < lo ∨ hi < x) : memB x L = false := memB_false fun s hs => by have := h.mem hs; omega

theorem memB_app (x : Int) (A B : List Sp) : memB x (A ++ B) = (memB x A || memB x B) := by unfold memB; rw [List.any_append]
theorem memB_cons (x : Int) (s : Sp) (L : List Sp) : memB x (s :: L) = ((decide (s.1 ≤ x) && decide (x ≤ s.2)) || memB x L) := rfl

/-- What lies in runs: those of which each is told by G. -/
theorem flat_mem {mn mx : Int} {La : List Sp} {G : Sp → List Sp} {x : Int} {b : Bool} (h : Good mn mx La) (hG : ∀ r ∈ La, Good r.1 r.2 (G r)) (hb : ∀ r ∈ La, r.1 ≤ x → x ≤ r.2 → memB x (G r) = b) : memB x (La.flatMap G) = (memB x La && b) := by
  induction La generalizing mn with
  | nil => simp [memB]
  | cons s La ih =>
    rw [List.flatMap_cons, memB_app, memB_cons, ih h.2.2.2 (fun r hr => hG r (by simp [hr])) (fun r hr => hb r (by simp [hr]))]
    have h1 := hG s (by simp)
    by_cases hx : s.1 ≤ x ∧ x ≤ s.2
    · rw [hb s (by simp) hx.1 hx.2, decide_eq_true hx.1, decide_eq_true hx.2]
      cases b <;> simp
    · rw [memB_out h1 (by omega)]
      have : (decide (s.1 ≤ x) && decide (x ≤ s.2)) = false := by simp; omega
      rw [this]; simp

theorem holesGo_mem {hi x : Int} {R : List Sp} : ∀ {nx : Int}, Good nx hi R → nx ≤ x → x ≤ hi → memB x (holesGo hi nx R) = !memB x R := by
  induction R with
  | nil =>
    intro nx h h1 h2
    simp [holesGo, memB, h1, h2]
  | cons r R ih =>
    intro nx h h1 h2
    have q1 := h.1; have q2 := h.2.1; have q3 := h.2.2.1; have q4 := h.2.2.2
    simp only [holesGo]
    rw [memB_app, memB_cons]
    by_cases ha : x < r.1
    · have e1 : memB x (if nx < r.1 then [(nx, r.1 - 1)] else []) = true := by
        rw [if_pos (by omega)]; simp [memB]; omega
      have e2 : (decide (r.1 ≤ x) && decide (x ≤ r.2)) = false := by simp; omega
      have e3 : memB x R = false := memB_false fun s hs => by have := q4.mem hs; omega
      rw [e1, e2, e3]; simp
    · have e1 : memB x (if nx < r.1 then [(nx, r.1 - 1)] else []) = false := by
        split
        · simp [memB]; omega
        · rfl
      rw [e1]
      by_cases hb : x ≤ r.2
      · have e2 : (decide (r.1 ≤ x) && decide (x ≤ r.2)) = true := by simp; omega
        rw [e2]
        have e4 : memB x (if r.2 = hi then [] else holesGo hi (r.2 + 1) R) = false := by
          split
          · rfl
          · have := (holesGo_good (mx := hi) (hi := hi) (next := r.2 + 1) (R := R) (q4.mono (by omega)) (by omega)).1
            exact memB_out this (by omega)
        rw [e4]; simp
      · have e2 : (decide (r.1 ≤ x) && decide (x ≤ r.2)) = false := by simp; omega
        rw [e2, if_neg (by omega), ih (q4.mono (by omega)) (by omega) h2]
        simp

theorem memB_holes {mn mx lo hi x : Int} {L : List Sp} (h : Good mn mx L) (h1 : lo ≤ x) (h2 : x ≤ hi) : memB x (holesF lo hi L) = !memB x L := by
  unfold holesF
  have hg := within_good (lo := lo) (hi := hi) h (by omega)
  rw [holesGo_mem ((hg.mono (mn' := lo) (by omega)).top (mx' := hi) (by omega)) h1 h2, memB_within x lo hi L h1 h2]

def inG (Lb : List Sp) (r : Sp) : List Sp := withinF r.1 r.2 Lb
def outG (Lb : List Sp) (r : Sp) : List Sp := holesF r.1 r.2 Lb
def meetL (La Lb : List Sp) : List Sp := La.flatMap (inG Lb)
def lessL (La Lb : List Sp) : List Sp := La.flatMap (outG Lb)

theorem inG_good {mn mx k : Int} {La Lb : List Sp} (ha : Good k mx La) (hb : Good mn mx Lb) : ∀ r ∈ La, Good r.1 r.2 (inG Lb r) := fun r hr => by
  have hm := ha.mem hr
  exact ((within_good (lo := r.1) (hi := r.2) hb hm.2.1).mono (mn' := r.1) (by omega)).top (mx' := r.2) (by omega)
theorem outG_good {mn mx k : Int} {La Lb : List Sp} (ha : Good k mx La) (hb : Good mn mx Lb) : ∀ r ∈ La, Good r.1 r.2 (outG Lb r) := fun r hr => (holes_good (lo := r.1) (hi := r.2) hb (ha.mem hr).2.1).1

theorem meet_good {mn mx : Int} {La Lb : List Sp} (ha : Good mn mx La) (hb : Good mn mx Lb) : Good mn mx (meetL La Lb) := flat_good ha (inG_good ha hb)
theorem less_good {mn mx : Int} {La Lb : List Sp} (ha : Good mn mx La) (hb : Good mn mx Lb) : Good mn mx (lessL La Lb) := flat_good ha (outG_good ha hb)
theorem meet_mem {mn mx : Int} {La Lb : List Sp} (ha : Good mn mx La) (hb : Good mn mx Lb) (x : Int) : memB x (meetL La Lb) = (memB x La && memB x Lb) :=
  flat_mem ha (inG_good ha hb) (fun r hr h1 h2 => memB_within x r.1 r.2 Lb h1 h2)
theorem less_mem {mn mx : Int} {La Lb : List Sp} (ha : Good mn mx La) (hb : Good mn mx Lb) (x : Int) : memB x (lessL La Lb) = (memB x La && !memB x Lb) :=
  flat_mem ha (outG_good ha hb) (fun r hr h1 h2 => memB_holes hb h1 h2)

theorem flat_length {G : Sp → List Sp} {m : Nat} (La : List Sp) (h : ∀ r ∈ La, (G r).length ≤ m) : (La.flatMap G).length ≤ La.length * m := by
  induction La with
  | nil => simp
  | cons s La ih =>
    rw [List.flatMap_cons, List.length_append, List.length_cons, Nat.succ_mul]
    have := h s (by simp)
    have := ih (fun r hr => h r (by simp [hr]))
    omega
end Go.Proofs.YthihabjegpacaaaGreat
