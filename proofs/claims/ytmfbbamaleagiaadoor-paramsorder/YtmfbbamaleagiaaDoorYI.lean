/- ParamsOrder by lists. -/
import Derived.Test.YtmfbbamaleagiaaDoorYA
namespace Go.Proofs.YtmfbbamaleagiaaDoor
open Go.RowKit
set_option linter.unusedVariables false
set_option maxRecDepth 100000
set_option maxHeartbeats 1000000

theorem runSt_cm (p : Ps) : ∀ (segs : List Seg) (s : St) (x : Int), (x ∈ s.cm ∨ (∃ k, Seg.par k ∈ segs ∧ p.l.getD k 0 ≠ untT k ∧ x = numT k) ∨ (∃ ob, Seg.oth ob ∈ segs ∧ x = 40)) → x ∈ (runSt p s segs).cm := by
  intro segs
  induction segs with
  | nil =>
    intro s x h
    rcases h with h | ⟨k, h, -⟩ | ⟨ob, h, -⟩
    · exact h
    · cases h
    · cases h
  | cons g rest ih =>
    intro s x h
    refine ih (Seg.st p s g) x ?_
    have mono : x ∈ s.cm → x ∈ (Seg.st p s g).cm := by
      intro hx
      cases g with
      | inl k =>
        by_cases e : p.l.getD k 0 = untT k
        · rw [st_same p s k e]; exact hx
        · rw [st_set p s k e]; simp [hx]
      | inr ob => rw [st_oth]; simp [hx]
    rcases h with h | ⟨k, h, hv, rfl⟩ | ⟨ob, h, rfl⟩
    · exact .inl (mono h)
    · rcases List.mem_cons.1 h with rfl | h
      · left; rw [st_set p s k hv]; simp
      · exact .inr (.inl ⟨k, h, hv, rfl⟩)
    · rcases List.mem_cons.1 h with rfl | h
      · left; rw [st_oth]; simp
      · exact .inr (.inr ⟨ob, h, rfl⟩)

/-- What stands twice is refused. -/
theorem dec_twice (p : Ps) (hp : ∀ j, j < 9 → okV j (p.l.getD j 0)) (segs : List Seg) (hok : ∀ g ∈ segs, Seg.ok p g) (hnd : (segs.map Seg.id).Nodup) (id : Int) (r : List Int) (h0 : 0 ≤ id) (h1 : id ≤ 4611686018427387903)
    (hc : (∃ k, Seg.par k ∈ segs ∧ p.l.getD k 0 ≠ untT k ∧ id = numT k) ∨ (∃ ob, Seg.oth ob ∈ segs ∧ id = 40)) : dec (flat p segs ++ (sh id ++ r)) = (zeroP, 61) := by
  refine Runs.dec ?_
  have := runs_segs p hp (sh id ++ r) (zeroP, 61) segs [] ⟨0, [], dflt⟩ rfl hok hnd (by simp)
  simp only [List.nil_append] at this
  refine this ?_
  have hk : (runSt p ⟨0, [], dflt⟩ segs).k = (flat p segs).length := by rw [runSt_k]; simp
  have z := sizeF_pos id h1
  refine Runs.bad _ _ _ ?_ ?_
  · rw [hk]; simp [sh_length]; omega
  · have g := getF_sh (flat p segs) r id h0 h1 _ rfl ((runSt p ⟨0, [], dflt⟩ segs).k : Int) (by rw [hk])
    have hm : (runSt p ⟨0, [], dflt⟩ segs).cm.contains id = true := by
      simp only [List.contains_iff_mem]
      exact runSt_cm p segs _ id (.inr hc)
    unfold stepP
    rw [g]
    rw [if_neg (by simp), if_pos hm]

/-- One field alone. -/
theorem only_get (k j : Nat) (v : Int) (hk : k < 9) (hj : j < 9) : (dflt.set k v).l.getD j 0 = if j = k then v else untT j := by
  rw [Ps.set_get _ _ _ _ hk hj, dflt_get j hj]
theorem unt_ok (j : Nat) (hj : j < 9) : okV j (untT j) := by
  obtain rfl | rfl | rfl | rfl | rfl | rfl | rfl | rfl | rfl : j = 0 ∨ j = 1 ∨ j = 2 ∨ j = 3 ∨ j = 4 ∨ j = 5 ∨ j = 6 ∨ j = 7 ∨ j = 8 := by omega
  all_goals exact ⟨by decide, by decide⟩
theorem only_check (k : Nat) (v : Int) (hk : k < 9) (hv : okV k v) : checkF (dflt.set k v) = 0 := by
  refine (checkF_ok _).2 fun j hj => ?_
  rw [only_get k j v hk hj]
  by_cases e : j = k
  · rw [if_pos e, e]; exact hv
  · rw [if_neg e]; exact unt_ok j hj
theorem only_enc (k : Nat) (v : Int) (hk : k < 9) : encF (dflt.set k v) = partK k v := by
  have key : ∀ n, n ≤ 9 → encK (dflt.set k v) n = if k < n then partK k v else [] := by
    intro n
    induction n with
    | zero => intro _; simp [encK]
    | succ n ih =>
      intro hn
      rw [encK, ih (by omega), only_get k n v hk (by omega)]
      by_cases e : n = k
      · subst e; rw [if_neg (by omega), if_pos rfl, if_pos (by omega)]; simp
      · rw [if_neg e]
        have : partK n (untT n) = [] := by unfold partK; rw [if_pos rfl]
        rw [this, List.append_nil]
        by_cases c : k < n
        · rw [if_pos c, if_pos (by omega)]
        · rw [if_neg c, if_neg (by omega)]
  have := key 9 (Nat.le_refl _)
  rw [if_pos hk] at this
  exact this

/-- A turning of 0 to 8. -/
def Bij (f : Nat → Nat) : Prop := ∃ g : Nat → Nat, (∀ i, i < 9 → f i < 9 ∧ g (f i) = i) ∧ ∀ k, k < 9 → g k < 9 ∧ f (g k) = k
def swapF (f : Nat → Nat) (i k : Nat) : Nat → Nat := fun x => if x = k then f i else if x = i then f k else f x
theorem Bij.start : Bij fun x => x := ⟨fun x => x, fun i hi => ⟨hi, rfl⟩, fun k hk => ⟨hk, rfl⟩⟩
theorem Bij.swap {f : Nat → Nat} (h : Bij f) (i k : Nat) (hi : i < 9) (hk : k < 9) : Bij (swapF f i k) := by
  obtain ⟨g, h1, h2⟩ := h
  refine ⟨fun y => if y = f i then k else if y = f k then i else g y, fun x hx => ?_, fun y hy => ?_⟩
  · unfold swapF
    by_cases e1 : x = k
    · rw [if_pos e1]; exact ⟨(h1 i hi).1, by simp [e1]⟩
    · rw [if_neg e1]
      by_cases e2 : x = i
      · rw [if_pos e2]
        refine ⟨(h1 k hk).1, ?_⟩
        have : f k ≠ f i := fun c => by
          have a := (h1 k hk).2; have b := (h1 i hi).2
          rw [c, b] at a
          omega
        simp [this, e2]
      · rw [if_neg e2]
        refine ⟨(h1 x hx).1, ?_⟩
        have n1 : f x ≠ f i := fun c => by
          have a := (h1 x hx).2; have b := (h1 i hi).2
          rw [c, b] at a; omega
        have n2 : f x ≠ f k := fun c => by
          have a := (h1 x hx).2; have b := (h1 k hk).2
          rw [c, b] at a; omega
        simp [n1, n2, (h1 x hx).2]
  · unfold swapF
    by_cases e1 : y = f i
    · simp [e1, hk]
    · by_cases e2 : y = f k
      · have : ¬ i = k := fun c => e1 (by rw [e2, c])
        have e3 : f k ≠ f i := fun c => e1 (by rw [e2, c])
        simp [e2, e3, this, hi]
      · obtain ⟨q1, q2⟩ := h2 y hy
        have n1 : g y ≠ k := fun c => e2 (by rw [← c, q2])
        have n2 : g y ≠ i := fun c => e1 (by rw [← c, q2])
        simp [e1, e2, n1, n2, q1, q2]

/-- What is laid behind i rounds. -/
def segsK (f : Nat → Nat) (ob : List Int) : Nat → List Seg
  | 0 => []
  | i + 1 => segsK f ob i ++ (Seg.par (f i) :: (if i = 4 then [Seg.oth ob] else []))
theorem flat_app (p : Ps) (a b : List Seg) : flat p (a ++ b) = flat p a ++ flat p b := by
  induction a with
  | nil => rfl
  | cons g r ih => simp [flat, ih]
theorem segs_mem (f : Nat → Nat) (ob : List Int) (i : Nat) (g : Seg) : g ∈ segsK f ob i ↔ (∃ j, j < i ∧ g = Seg.par (f j)) ∨ (4 < i ∧ g = Seg.oth ob) := by
  induction i with
  | zero => simp [segsK]
  | succ i ih =>
    rw [segsK, List.mem_append, ih]
    constructor
    · rintro ((⟨j, hj, e⟩ | ⟨h, e⟩) | h)
      · exact .inl ⟨j, by omega, e⟩
      · exact .inr ⟨by omega, e⟩
      · rcases List.mem_cons.1 h with h | h
        · exact .inl ⟨i, by omega, h⟩
        · split at h
          · rename_i e4; simp at h; exact .inr ⟨by omega, h⟩
          · cases h
    · rintro (⟨j, hj, e⟩ | ⟨h, e⟩)
      · by_cases c : j = i
        · subst c; right; rw [e]; exact List.mem_cons_self ..
        · exact .inl (.inl ⟨j, by omega, e⟩)
      · by_cases c : i = 4
        · subst c; right; simp [e]
        · exact .inl (.inr ⟨by omega, e⟩)
theorem num_inj (a b : Nat) (ha : a < 9) (hb : b < 9) (h : numT a = numT b) : a = b := by
  have e1 := place_num a ha
  have e2 := place_num b hb
  rw [h, e2] at e1
  injection e1 with e1
  exact e1.symm
theorem segs_nodup (f : Nat → Nat) (hf : Bij f) (ob : List Int) : ∀ i, i ≤ 9 → ((segsK f ob i).map Seg.id).Nodup := by
  obtain ⟨g, h1, -⟩ := hf
  intro i
  induction i with
  | zero => intro _; simp [segsK]
  | succ i ih =>
    intro hi
    rw [segsK, List.map_append]
    refine List.nodup_append.2 ⟨ih (by omega), ?_, ?_⟩
    · by_cases c : i = 4
      · rw [if_pos c]
        have := (most_small (f i) (h1 i (by omega)).1).2.2
        simp [Seg.id]
        omega
      · rw [if_neg c]; simp
    · intro x hx y hy e
      subst e
      obtain ⟨g1, hg1, rfl⟩ := List.mem_map.1 hx
      obtain ⟨g2, hg2, e2⟩ := List.mem_map.1 hy
      rcases (segs_mem f ob i g1).1 hg1 with ⟨j, hj, rfl⟩ | ⟨h4, rfl⟩
      · have m1 := (most_small (f j) (h1 j (by omega)).1).2.2
        rcases List.mem_cons.1 hg2 with rfl | hg2
        · have := num_inj _ _ (h1 i (by omega)).1 (h1 j (by omega)).1 e2
          have a := (h1 i (by omega)).2
          rw [this, (h1 j (by omega)).2] at a
          omega
        · split at hg2
          · simp at hg2; subst hg2
            have : (40 : Int) = numT (f j) := e2
            omega
          · cases hg2
      · rcases List.mem_cons.1 hg2 with rfl | hg2
        · have m1 := (most_small (f i) (h1 i (by omega)).1).2.2
          have : numT (f i) = (40 : Int) := e2
          omega
        · split at hg2
          · omega
          · cases hg2
theorem segs_ok (p : Ps) (f : Nat → Nat) (hf : Bij f) (ob : List Int) (ho : (ob.length : Int) ≤ 4611686018427387903) (i : Nat) (hi : i ≤ 9) : ∀ g ∈ segsK f ob i, Seg.ok p g := by
  obtain ⟨g', h1, -⟩ := hf
  intro g hg
  rcases (segs_mem f ob i g).1 hg with ⟨j, hj, rfl⟩ | ⟨h4, rfl⟩
  · exact (h1 j (by omega)).1
  · exact ho
theorem segs_all (f : Nat → Nat) (hf : Bij f) (ob : List Int) : ∀ j, j < 9 → Seg.par j ∈ segsK f ob 9 := by
  obtain ⟨g, -, h2⟩ := hf
  intro j hj
  refine (segs_mem f ob 9 _).2 (.inl ⟨g j, (h2 j hj).1, by rw [(h2 j hj).2]⟩)
end Go.Proofs.YtmfbbamaleagiaaDoor
