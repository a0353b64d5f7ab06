/- WheelNext. -/
import Derived.Test.YtpkkgmcfificiaaDoorH4
namespace Go.Proofs.YtpkkgmcfificiaaDoor
open Go.RowKit Go.Shelf Go.Maps
set_option linter.unusedVariables false
set_option maxRecDepth 100000
set_option maxHeartbeats 1000000

/-- What is known of a wheel's deadlines. -/
structure TOk (T : List Tm) : Prop where
  srt : T.Pairwise ltT
  lt : ∀ p ∈ T, p.1 < 4096 ∧ p.2 < 2 ^ 62
  ids : (T.map Prod.fst).Nodup
theorem QI.ok {w0 w : World} {W c : Nat} {T : List Tm} (h : QI w0 w W c T) : TOk T ∧ c ≤ 2 ^ 50 := by
  obtain ⟨S, wl⟩ := h.wl
  exact ⟨⟨wl.srt, wl.in_.1, wl.in_.2.1⟩, wl.c50⟩
theorem qi_now {w0 w : World} {W c : Nat} {T : List Tm} (h : QI w0 w W c T) : Calls Tryd.prog 17 #[ptr W] w fun e w' => e = .returned (.int .i64 (c : Nat)) ∧ w' = w := by
  obtain ⟨S, wl⟩ := h.wl
  exact wl_now _ w S W c T wl
theorem qi_when {w0 w : World} {W c : Nat} {T : List Tm} (h : QI w0 w W c T) (i : Int) (hw : wfI i) : Calls Tryd.prog 20 #[ptr W, .int .i64 i] w fun e w' => e = .returned (match whenT T i with | some a => .tuple #[.int .i64 (a : Nat), .int .i64 0] | none => .tuple #[.int .i64 0, .int .i64 4]) ∧ w' = w := by
  obtain ⟨S, wl⟩ := h.wl
  exact wl_when _ w S W c T wl i hw

theorem next_le {T : List Tm} (h : TOk T) : ∀ p ∈ T, nextT T ≤ p.2 := by
  intro p hp
  cases T with
  | nil => cases hp
  | cons q t =>
    show q.2 ≤ p.2
    rcases List.mem_cons.1 hp with rfl | hp
    · exact Nat.le_refl _
    · have := (List.pairwise_cons.1 h.srt).1 p hp
      unfold ltT at this; omega
theorem next_never {T : List Tm} (h : TOk T) : (T.length = 0 ↔ nextT T = 4611686018427387904) := by
  cases T with
  | nil => simp [nextT]
  | cons q t =>
    have := (h.lt q (by simp)).2
    simp only [nextT, List.length_cons]
    omega
theorem due_none {T : List Tm} {t : Nat} (h : ∀ p ∈ T, t < p.2) : dueT T t = [] ∧ lateT T t = T := by
  constructor
  · unfold dueT
    rw [List.filter_eq_nil_iff]
    intro p hp
    simp [h p hp]
  · unfold lateT
    rw [List.filter_eq_self]
    intro p hp
    simp [h p hp]
theorem when_mem {T : List Tm} (h : TOk T) {i a : Nat} : whenT T (i : Int) = some a ↔ (i, a) ∈ T := by
  obtain ⟨-, -, ids⟩ := h
  unfold whenT
  induction T with
  | nil => simp
  | cons q t ih =>
    rw [List.map_cons, List.nodup_cons] at ids
    rw [List.find?_cons]
    by_cases c : q.1 = i
    · have cI : ((q.1 : Int) = (i : Int)) := by omega
      simp only [cI, decide_true, Option.map_some, Option.some.injEq, List.mem_cons]
      constructor
      · intro e; left; rw [← e, ← c]
      · rintro (e | e)
        · rw [← e]
        · exact absurd (List.mem_map.2 ⟨(i, a), e, rfl⟩) (by rw [← c]; exact ids.1)
    · have cI : ¬ ((q.1 : Int) = (i : Int)) := by omega
      simp only [cI, decide_false]
      rw [ih ids.2, List.mem_cons]
      constructor
      · exact .inr
      · rintro (e | e)
        · rw [← e] at c; exact absurd rfl c
        · exact e

/-- The least number that has the time n among those below k; -1: none. -/
def leastT (T : List Tm) (n : Nat) : Nat → Int
  | 0 => -1
  | k + 1 => if leastT T n k < 0 ∧ (k, n) ∈ T then (k : Int) else leastT T n k
theorem least_spec (T : List Tm) (n : Nat) : ∀ k, (leastT T n k = -1 ∧ ∀ j, j < k → (j, n) ∉ T) ∨ ∃ m : Nat, leastT T n k = m ∧ m < k ∧ (m, n) ∈ T ∧ ∀ j, j < m → (j, n) ∉ T
  | 0 => .inl ⟨rfl, by omega⟩
  | k + 1 => by
    rcases least_spec T n k with ⟨h1, h2⟩ | ⟨m, h1, h2, h3, h4⟩
    · by_cases c : (k, n) ∈ T
      · right
        refine ⟨k, ?_, by omega, c, h2⟩
        unfold leastT
        rw [if_pos ⟨by omega, c⟩]
      · left
        refine ⟨?_, fun j hj => ?_⟩
        · unfold leastT
          rw [if_neg (fun h => c h.2)]; exact h1
        · by_cases e : j = k
          · subst e; exact c
          · exact h2 j (by omega)
    · right
      refine ⟨m, ?_, by omega, h3, h4⟩
      unfold leastT
      rw [if_neg (fun h => by omega)]; exact h1
theorem least_first {q : Tm} {t : List Tm} (h : TOk (q :: t)) : leastT (q :: t) q.2 4096 = q.1 := by
  rcases least_spec (q :: t) q.2 4096 with ⟨-, h2⟩ | ⟨m, h1, h2, h3, h4⟩
  · exact absurd (show (q.1, q.2) ∈ q :: t by simp) (h2 q.1 (h.lt q (by simp)).1)
  · rw [h1]
    have : m = q.1 := by
      rcases List.mem_cons.1 h3 with e | e
      · rw [← e]
      · have l1 := (List.pairwise_cons.1 h.srt).1 _ e
        unfold ltT at l1
        simp only at l1
        exact absurd (show (q.1, q.2) ∈ q :: t by simp) (h4 q.1 (by omega))
    rw [this]
theorem due_first {q : Tm} {t : List Tm} (h : TOk (q :: t)) (tt : Nat) (ht : q.2 ≤ tt) : ∃ r, dueT (q :: t) tt = q :: r := by
  unfold dueT
  rw [List.filter_cons, if_pos (by simp; omega)]
  exact ⟨_, rfl⟩
theorem due_late_len (T : List Tm) (t : Nat) : (lateT T t).length + (dueT T t).length = T.length := by
  unfold lateT dueT
  induction T with
  | nil => rfl
  | cons p r ih =>
    rw [List.filter_cons, List.filter_cons]
    by_cases c : t < p.2
    · simp only [c, decide_true, if_true, Bool.not_true, Bool.false_eq_true, if_false, List.length_cons]; omega
    · simp only [c, decide_false, Bool.false_eq_true, if_false, Bool.not_false, if_true, List.length_cons]; omega
theorem late_ok {T : List Tm} (h : TOk T) (t : Nat) : TOk (lateT T t) :=
  ⟨List.Pairwise.filter _ h.srt, fun p hp => h.lt p (List.mem_filter.1 hp).1, List.Nodup.sublist ((List.filter_sublist).map Prod.fst) h.ids⟩
theorem when_late {T : List Tm} (h : TOk T) {i a t : Nat} (hm : (i, a) ∈ T) (ha : a ≤ t) : whenT (lateT T t) (i : Int) = none := by
  cases hw : whenT (lateT T t) (i : Int) with
  | none => rfl
  | some b =>
    have := (when_mem (late_ok h t)).1 hw
    have h2 := List.mem_filter.1 this
    have e1 := (when_mem h).2 h2.1
    have e2 := (when_mem h).2 hm
    rw [e1] at e2
    cases e2
    simp at h2
    omega

theorem ins_len (x : Tm) (T : List Tm) : (insT x T).length = T.length + 1 := by
  induction T with
  | nil => rfl
  | cons m t ih =>
    unfold insT
    split
    · rfl
    · simp [ih]
theorem step_len (s : Nat × List Tm) (x : OpD) : (stepF s x).2.length ≤ s.2.length + 1 := by
  have hd : ∀ i, (delT s.2 i).length ≤ s.2.length := fun i => List.length_filter_le _ _
  unfold stepF
  split
  · unfold armT
    split
    · simp only; rw [ins_len]; have := hd x.id; omega
    · simp
  · split
    · have := hd x.id; simp only; omega
    · have : (lateT s.2 (adv s.1 x.at_)).length ≤ s.2.length := List.length_filter_le _ _
      simp only; omega
theorem laid_len (now : Int) (ol : List OpD) : (laidF now ol).2.length ≤ ol.length := by
  have : ∀ (ol : List OpD) (s : Nat × List Tm), (ol.foldl stepF s).2.length ≤ s.2.length + ol.length := by
    intro ol
    induction ol with
    | nil => intro s; simp
    | cons x t ih =>
      intro s
      have h1 := ih (stepF s x)
      have h2 := step_len s x
      simp only [List.foldl_cons, List.length_cons]; omega
  have := this ol (clk now, [])
  simpa [laidF] using this
end Go.Proofs.YtpkkgmcfificiaaDoor
