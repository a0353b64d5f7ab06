/- Parameters there and back, by lists alone. -/
import Derived.Test.YtmfbbamaleagiaaDoorXY
namespace Go.Proofs.YtmfbbamaleagiaaDoor
open Go.RowKit
set_option linter.unusedVariables false
set_option maxRecDepth 100000
set_option maxHeartbeats 1000000

theorem getF_sh (la lc : List Int) (v : Int) (h0 : 0 ≤ v) (h1 : v ≤ 4611686018427387903) (l : List Int) (hl : l = la ++ (sh v ++ lc)) (i : Int) (hi : i = la.length) : getF l i = (v, (la.length : Int) + sizeF v, 0) := by
  subst hl; subst hi
  have := get_back la lc v (sizeF v) (fits_size v h1) h0
  rw [List.append_assoc] at this
  exact this

theorem place_num (k : Nat) (hk : k < 9) : placeF (numT k) = some k := by
  obtain rfl | rfl | rfl | rfl | rfl | rfl | rfl | rfl | rfl : k = 0 ∨ k = 1 ∨ k = 2 ∨ k = 3 ∨ k = 4 ∨ k = 5 ∨ k = 6 ∨ k = 7 ∨ k = 8 := by omega
  all_goals decide

/-- A parameter of the table stands there. -/
theorem step_known (la lc : List Int) (cm : List Int) (vs : Ps) (k : Nat) (hk : k < 9) (v : Int) (hv : okV k v) (hc : cm.contains (numT k) = false) :
    stepP (la ++ (partB (numT k) v ++ lc)) ⟨la.length, cm, vs⟩ = .ok ⟨la.length + (partB (numT k) v).length, cm ++ [numT k], vs.set k v⟩ := by
  obtain ⟨m1, m2, m3⟩ := most_small k hk
  obtain ⟨v0, v1⟩ := hv
  obtain ⟨s1, s2⟩ := sizeF_pos v (by omega)
  have e1 : la ++ (partB (numT k) v ++ lc) = la ++ (sh (numT k) ++ (sh (sizeF v) ++ (sh v ++ lc))) := by simp [partB]
  have e2 : la ++ (partB (numT k) v ++ lc) = (la ++ sh (numT k)) ++ (sh (sizeF v) ++ (sh v ++ lc)) := by simp [partB]
  have e3 : la ++ (partB (numT k) v ++ lc) = (la ++ sh (numT k) ++ sh (sizeF v)) ++ (sh v ++ lc) := by simp [partB]
  have g1 := getF_sh la _ (numT k) (by omega) (by omega) _ e1 (la.length : Int) rfl
  have g2 := getF_sh (la ++ sh (numT k)) _ (sizeF v) (by omega) (by omega) _ e2 ((la.length : Int) + sizeF (numT k)) (by simp [sh_length])
  have hlen : (la ++ (partB (numT k) v ++ lc)).length = la.length + sizeF (numT k) + sizeF (sizeF v) + sizeF v + lc.length := by rw [e3]; simp [sh_length]; omega
  have hL : (((la ++ sh (numT k)).length : Int) + (sizeF (sizeF v) : Int)).toNat = (la ++ sh (numT k) ++ sh (sizeF v)).length := by simp [sh_length]; omega
  have hsub : ((la ++ (partB (numT k) v ++ lc)).drop (((la ++ sh (numT k)).length : Int) + (sizeF (sizeF v) : Int)).toNat).take ((sizeF v : Int)).toNat = sh v := by
    rw [hL, e3, List.drop_left, Int.toNat_natCast, ← sh_length v, List.take_left]
  have g3 := getF_sh [] [] v v0 (by omega) (sh v) (by simp) 0 rfl
  unfold stepP
  simp only [g1, g2]
  rw [if_neg (by simp), hc, if_neg (by simp), if_neg (by simp), if_neg (by rw [hlen]; simp [sh_length]; omega), place_num k hk]
  simp only [hsub, g3]
  rw [if_neg (by simp; omega)]
  simp only [partB, List.length_append, sh_length]
  congr 2
  omega

/-- One that the table has not. -/
theorem step_other (la lc : List Int) (cm : List Int) (vs : Ps) (ob : List Int) (ho : (ob.length : Int) ≤ 4611686018427387903) (hc : cm.contains 40 = false) :
    stepP (la ++ (sh 40 ++ sh ob.length ++ ob ++ lc)) ⟨la.length, cm, vs⟩ = .ok ⟨la.length + (sh 40 ++ sh ob.length ++ ob).length, cm ++ [40], vs⟩ := by
  have e1 : la ++ (sh 40 ++ sh ob.length ++ ob ++ lc) = la ++ (sh 40 ++ (sh ob.length ++ (ob ++ lc))) := by simp
  have e2 : la ++ (sh 40 ++ sh ob.length ++ ob ++ lc) = (la ++ sh 40) ++ (sh ob.length ++ (ob ++ lc)) := by simp
  have g1 := getF_sh la _ 40 (by omega) (by omega) _ e1 (la.length : Int) rfl
  have g2 := getF_sh (la ++ sh 40) _ ob.length (by omega) ho _ e2 ((la.length : Int) + sizeF 40) (by simp [sh_length])
  have hlen : (la ++ (sh 40 ++ sh ob.length ++ ob ++ lc)).length = la.length + sizeF 40 + sizeF ob.length + ob.length + lc.length := by simp [sh_length]; omega
  unfold stepP
  simp only [g1, g2]
  rw [if_neg (by simp), hc, if_neg (by simp), if_neg (by simp), if_neg (by rw [hlen]; simp [sh_length]; omega), show placeF 40 = none by decide]
  simp only [List.length_append, sh_length]
  congr 2
  omega

/-- From a state on, r comes. -/
def Runs (l : List Int) (s : St) (r : Ps × Int) : Prop := ∀ f, l.length - s.k < f → decF l f s = r
theorem Runs.dec {l : List Int} {r : Ps × Int} (h : Runs l ⟨0, [], dflt⟩ r) : dec l = r := h _ (by simp)
theorem Runs.done (l : List Int) (s : St) (h : s.k = l.length) : Runs l s (s.vs, 0) := by
  intro f hf
  obtain ⟨f, rfl⟩ : ∃ f', f = f' + 1 := ⟨f - 1, by omega⟩
  unfold decF; rw [if_pos h]
theorem Runs.bad (l : List Int) (s : St) (e : Int) (h : s.k ≠ l.length) (hs : stepP l s = .error e) : Runs l s (zeroP, e) := by
  intro f hf
  obtain ⟨f, rfl⟩ : ∃ f', f = f' + 1 := ⟨f - 1, by omega⟩
  unfold decF; rw [if_neg h, hs]
theorem Runs.step {l : List Int} {s s' : St} {r : Ps × Int} (h : Runs l s' r) (hs : stepP l s = .ok s') (h1 : s.k < s'.k) (h2 : s'.k ≤ l.length) : Runs l s r := by
  intro f hf
  obtain ⟨f, rfl⟩ : ∃ f', f = f' + 1 := ⟨f - 1, by omega⟩
  unfold decF; rw [if_neg (by omega), hs]
  exact h f (by omega)

/-- What stands one behind the other: parameters of some, and others. -/
abbrev Seg := Nat ⊕ List Int
abbrev Seg.par (k : Nat) : Seg := .inl k
abbrev Seg.oth (ob : List Int) : Seg := .inr ob
def Seg.bytes (p : Ps) : Seg → List Int
  | .inl k => partK k (p.l.getD k 0)
  | .inr ob => sh 40 ++ sh ob.length ++ ob
def Seg.id : Seg → Int
  | .inl k => numT k
  | .inr _ => 40
def Seg.ok (p : Ps) : Seg → Prop
  | .inl k => k < 9
  | .inr ob => (ob.length : Int) ≤ 4611686018427387903
def Seg.st (p : Ps) (s : St) : Seg → St
  | .inl k => if p.l.getD k 0 = untT k then s else ⟨s.k + (partK k (p.l.getD k 0)).length, s.cm ++ [numT k], s.vs.set k (p.l.getD k 0)⟩
  | .inr ob => ⟨s.k + (sh 40 ++ sh ob.length ++ ob).length, s.cm ++ [40], s.vs⟩
def flat (p : Ps) : List Seg → List Int
  | [] => []
  | g :: r => Seg.bytes p g ++ flat p r
def runSt (p : Ps) (s : St) : List Seg → St
  | [] => s
  | g :: r => runSt p (Seg.st p s g) r

theorem st_same (p : Ps) (s : St) (k : Nat) (e : p.l.getD k 0 = untT k) : Seg.st p s (Seg.par k) = s := by show (if _ then _ else _) = _; rw [if_pos e]
theorem st_set (p : Ps) (s : St) (k : Nat) (e : ¬ p.l.getD k 0 = untT k) : Seg.st p s (Seg.par k) = ⟨s.k + (partB (numT k) (p.l.getD k 0)).length, s.cm ++ [numT k], s.vs.set k (p.l.getD k 0)⟩ := by
  show (if _ then _ else _) = _; rw [if_neg e]; unfold partK; rw [if_neg e]
theorem bytes_same (p : Ps) (k : Nat) (e : p.l.getD k 0 = untT k) : Seg.bytes p (Seg.par k) = [] := by show partK _ _ = _; unfold partK; rw [if_pos e]
theorem bytes_set (p : Ps) (k : Nat) (e : ¬ p.l.getD k 0 = untT k) : Seg.bytes p (Seg.par k) = partB (numT k) (p.l.getD k 0) := by show partK _ _ = _; unfold partK; rw [if_neg e]
theorem st_oth (p : Ps) (s : St) (ob : List Int) : Seg.st p s (Seg.oth ob) = ⟨s.k + (sh 40 ++ sh ob.length ++ ob).length, s.cm ++ [40], s.vs⟩ := rfl
theorem bytes_oth (p : Ps) (ob : List Int) : Seg.bytes p (Seg.oth ob) = sh 40 ++ sh ob.length ++ ob := rfl

theorem st_cm (p : Ps) (s : St) (g : Seg) (x : Int) (h : x ∈ (Seg.st p s g).cm) : x ∈ s.cm ∨ x = Seg.id g := by
  cases g with
  | inl k =>
    by_cases e : p.l.getD k 0 = untT k
    · rw [st_same p s k e] at h; exact .inl h
    · rw [st_set p s k e] at h; simp at h; exact h
  | inr ob => rw [st_oth] at h; simp at h; exact h

theorem runs_segs (p : Ps) (hp : ∀ j, j < 9 → okV j (p.l.getD j 0)) (lc : List Int) (r : Ps × Int) : ∀ (segs : List Seg) (la : List Int) (s : St), s.k = la.length → (∀ g ∈ segs, Seg.ok p g) → (segs.map Seg.id).Nodup → (∀ g ∈ segs, Seg.id g ∉ s.cm) →
    Runs (la ++ (flat p segs ++ lc)) (runSt p s segs) r → Runs (la ++ (flat p segs ++ lc)) s r := by
  intro segs
  induction segs with
  | nil => intro la s hk _ _ _ h; exact h
  | cons g rest ih =>
    intro la s hk hok hnd hfr h
    have hnd2 := List.nodup_cons.1 (by simpa using hnd : (Seg.id g :: rest.map Seg.id).Nodup)
    have hl : la ++ (flat p (g :: rest) ++ lc) = (la ++ Seg.bytes p g) ++ (flat p rest ++ lc) := by simp [flat]
    have hst : (Seg.st p s g).k = (la ++ Seg.bytes p g).length := by
      cases g with
      | inl k =>
        by_cases e : p.l.getD k 0 = untT k
        · rw [st_same p s k e, bytes_same p k e]; simp [hk]
        · rw [st_set p s k e, bytes_set p k e]; simp [hk]
      | inr ob => rw [st_oth, bytes_oth]; simp [hk]
    have key := ih (la ++ Seg.bytes p g) (Seg.st p s g) hst (fun x hx => hok x (List.mem_cons_of_mem _ hx)) hnd2.2 (fun x hx hc => by
      rcases st_cm p s g _ hc with h1 | h1
      · exact hfr x (List.mem_cons_of_mem _ hx) h1
      · exact hnd2.1 (by rw [← h1]; exact List.mem_map_of_mem hx)) (by rw [← hl]; exact h)
    rw [← hl] at key
    have hg := hok g (List.mem_cons_self ..)
    have hf := hfr g (List.mem_cons_self ..)
    obtain ⟨sk, scm, svs⟩ := s
    simp only at hk hf
    subst hk
    cases g with
    | inl k =>
      have hk9 : k < 9 := hg
      by_cases e : p.l.getD k 0 = untT k
      · rw [st_same p _ k e] at key; exact key
      · have hb := bytes_set p k e
        have e2 := st_set p ⟨la.length, scm, svs⟩ k e
        have hs := step_known la (flat p rest ++ lc) scm svs k hk9 (p.l.getD k 0) (hp k hk9) (by simpa [Seg.id] using hf)
        have hl2 : la ++ (flat p (Seg.par k :: rest) ++ lc) = la ++ (partB (numT k) (p.l.getD k 0) ++ (flat p rest ++ lc)) := by rw [flat, hb, List.append_assoc]
        rw [e2] at key
        rw [hl2] at key ⊢
        have m := most_small k hk9
        have s1 := sizeF_pos (numT k) (by omega)
        refine key.step hs ?_ ?_
        · simp [partB, sh_length]; omega
        · simp
    | inr ob =>
      have hs := step_other la (flat p rest ++ lc) scm svs ob hg (by simpa [Seg.id] using hf)
      have hl2 : la ++ (flat p (Seg.oth ob :: rest) ++ lc) = la ++ (sh 40 ++ sh ob.length ++ ob ++ (flat p rest ++ lc)) := by rw [flat, bytes_oth]; simp
      rw [hl2, st_oth] at key
      rw [hl2]
      refine key.step hs ?_ ?_
      · simp [sh_length]; have : sizeF 40 = 1 := by decide
        omega
      · simp


theorem Ps.set_get (p : Ps) (k j : Nat) (v : Int) (hk : k < 9) (hj : j < 9) : (p.set k v).l.getD j 0 = if j = k then v else p.l.getD j 0 := by
  obtain ⟨a0, a1, a2, a3, a4, a5, a6, a7, a8⟩ := p
  obtain rfl | rfl | rfl | rfl | rfl | rfl | rfl | rfl | rfl : k = 0 ∨ k = 1 ∨ k = 2 ∨ k = 3 ∨ k = 4 ∨ k = 5 ∨ k = 6 ∨ k = 7 ∨ k = 8 := by omega
  all_goals
    obtain rfl | rfl | rfl | rfl | rfl | rfl | rfl | rfl | rfl : j = 0 ∨ j = 1 ∨ j = 2 ∨ j = 3 ∨ j = 4 ∨ j = 5 ∨ j = 6 ∨ j = 7 ∨ j = 8 := by omega
    all_goals rfl
theorem Ps.ext_get (p q : Ps) (h : ∀ j, j < 9 → p.l.getD j 0 = q.l.getD j 0) : p = q := by
  obtain ⟨a0, a1, a2, a3, a4, a5, a6, a7, a8⟩ := p
  obtain ⟨b0, b1, b2, b3, b4, b5, b6, b7, b8⟩ := q
  have h0 : a0 = b0 := h 0 (by omega)
  have h1 : a1 = b1 := h 1 (by omega)
  have h2 : a2 = b2 := h 2 (by omega)
  have h3 : a3 = b3 := h 3 (by omega)
  have h4 : a4 = b4 := h 4 (by omega)
  have h5 : a5 = b5 := h 5 (by omega)
  have h6 : a6 = b6 := h 6 (by omega)
  have h7 : a7 = b7 := h 7 (by omega)
  have h8 : a8 = b8 := h 8 (by omega)
  subst h0 h1 h2 h3 h4 h5 h6 h7 h8
  rfl
theorem dflt_get (j : Nat) (hj : j < 9) : dflt.l.getD j 0 = untT j := by
  obtain rfl | rfl | rfl | rfl | rfl | rfl | rfl | rfl | rfl : j = 0 ∨ j = 1 ∨ j = 2 ∨ j = 3 ∨ j = 4 ∨ j = 5 ∨ j = 6 ∨ j = 7 ∨ j = 8 := by omega
  all_goals rfl

/-- What is behind them holds what they told. -/
theorem runSt_vs (p : Ps) : ∀ (segs : List Seg) (s : St), (∀ g ∈ segs, Seg.ok p g) → (∀ j, j < 9 → s.vs.l.getD j 0 = p.l.getD j 0 ∨ s.vs.l.getD j 0 = untT j) → ∀ j, j < 9 →
    ((runSt p s segs).vs.l.getD j 0 = p.l.getD j 0 ∨ (runSt p s segs).vs.l.getD j 0 = untT j) ∧ ((Seg.par j ∈ segs ∨ s.vs.l.getD j 0 = p.l.getD j 0) → (runSt p s segs).vs.l.getD j 0 = p.l.getD j 0) := by
  intro segs
  induction segs with
  | nil => intro s _ hs j hj; exact ⟨hs j hj, fun h => h.resolve_left (by simp)⟩
  | cons g rest ih =>
    intro s hok hs j hj
    have hr := fun x hx => hok x (List.mem_cons_of_mem _ hx)
    have hg := hok g (List.mem_cons_self ..)
    cases g with
    | inr ob =>
      have := ih (Seg.st p s (Seg.oth ob)) hr (by rw [st_oth]; exact hs) j hj
      refine ⟨this.1, fun h => this.2 ?_⟩
      rcases h with h | h
      · simp at h; exact .inl h
      · exact .inr h
    | inl k =>
      have hk : k < 9 := hg
      by_cases e : p.l.getD k 0 = untT k
      · have := ih (Seg.st p s (Seg.par k)) hr (by rw [st_same p s k e]; exact hs) j hj
        refine ⟨this.1, fun h => this.2 ?_⟩
        rw [st_same p s k e]
        rcases h with h | h
        · rcases List.mem_cons.1 h with h | h
          · injection h with h
            subst h
            right
            rcases hs j hj with h1 | h1
            · exact h1
            · rw [h1, e]
          · exact .inl h
        · exact .inr h
      · have hset : ∀ i, i < 9 → (Seg.st p s (Seg.par k)).vs.l.getD i 0 = if i = k then p.l.getD k 0 else s.vs.l.getD i 0 := fun i hi => by rw [st_set p s k e]; exact Ps.set_get _ _ _ _ hk hi
        have := ih (Seg.st p s (Seg.par k)) hr (fun i hi => by
          rw [hset i hi]
          by_cases hik : i = k
          · rw [if_pos hik, hik]; exact .inl rfl
          · rw [if_neg hik]; exact hs i hi) j hj
        refine ⟨this.1, fun h => this.2 ?_⟩
        rw [hset j hj]
        by_cases hjk : j = k
        · right; rw [if_pos hjk, hjk]
        · rw [if_neg hjk]
          rcases h with h | h
          · rcases List.mem_cons.1 h with h | h
            · injection h with h; exact absurd h hjk
            · exact .inl h
          · exact .inr h

theorem runSt_k (p : Ps) : ∀ (segs : List Seg) (s : St), (runSt p s segs).k = s.k + (flat p segs).length := by
  intro segs
  induction segs with
  | nil => intro s; rfl
  | cons g rest ih =>
    intro s
    show (runSt p (Seg.st p s g) rest).k = _
    rw [ih]
    cases g with
    | inl k =>
      by_cases e : p.l.getD k 0 = untT k
      · rw [st_same p s k e]; simp [flat, bytes_same p k e]
      · rw [st_set p s k e]; simp [flat, bytes_set p k e]; omega
    | inr ob => rw [st_oth]; simp [flat, bytes_oth]; omega

/-- All of the table, whatever else, in whatever order. -/
theorem dec_segs (p : Ps) (hp : ∀ j, j < 9 → okV j (p.l.getD j 0)) (segs : List Seg) (hok : ∀ g ∈ segs, Seg.ok p g) (hnd : (segs.map Seg.id).Nodup) (hall : ∀ j, j < 9 → Seg.par j ∈ segs) : dec (flat p segs) = (p, 0) := by
  refine Runs.dec ?_
  have := runs_segs p hp [] (p, 0) segs [] ⟨0, [], dflt⟩ rfl hok hnd (by simp)
  simp only [List.nil_append, List.append_nil] at this
  refine this ?_
  have hv : (runSt p ⟨0, [], dflt⟩ segs).vs = p := Ps.ext_get _ _ fun j hj => (runSt_vs p segs _ hok (fun i hi => .inr (dflt_get i hi)) j hj).2 (.inl (hall j hj))
  have hd := Runs.done (flat p segs) (runSt p ⟨0, [], dflt⟩ segs) (by rw [runSt_k]; simp)
  rw [hv] at hd
  exact hd

def all9 : List Seg := [Seg.par 0, Seg.par 1, Seg.par 2, Seg.par 3, Seg.par 4, Seg.par 5, Seg.par 6, Seg.par 7, Seg.par 8]
theorem enc_flat (p : Ps) : encF p = flat p all9 := by simp [encF, encK, flat, all9, Seg.bytes]
/-- THERE AND BACK. -/
theorem dec_enc (p : Ps) (h : checkF p = 0) : dec (encF p) = (p, 0) := by
  rw [enc_flat]
  refine dec_segs p ((checkF_ok p).1 h) all9 (by simp [all9, Seg.ok]) (by decide) ?_
  intro j hj
  obtain rfl | rfl | rfl | rfl | rfl | rfl | rfl | rfl | rfl : j = 0 ∨ j = 1 ∨ j = 2 ∨ j = 3 ∨ j = 4 ∨ j = 5 ∨ j = 6 ∨ j = 7 ∨ j = 8 := by omega
  all_goals simp [all9]

/-- What was read may be, and is written in no more bytes. -/
def Shorter (s : St) : Prop := (∀ j, j < 9 → okV j (s.vs.l.getD j 0)) ∧ (encF s.vs).length ≤ s.k

theorem enc_length (p : Ps) : (encF p).length = (partK 0 p.a0).length + (partK 1 p.a1).length + (partK 2 p.a2).length + (partK 3 p.a3).length + (partK 4 p.a4).length + (partK 5 p.a5).length + (partK 6 p.a6).length + (partK 7 p.a7).length + (partK 8 p.a8).length := by
  simp [encF, encK, Ps.l]; omega
theorem enc_set (p : Ps) (k : Nat) (hk : k < 9) (v : Int) : (encF (p.set k v)).length ≤ (encF p).length + (partK k v).length := by
  rw [enc_length, enc_length]
  obtain rfl | rfl | rfl | rfl | rfl | rfl | rfl | rfl | rfl : k = 0 ∨ k = 1 ∨ k = 2 ∨ k = 3 ∨ k = 4 ∨ k = 5 ∨ k = 6 ∨ k = 7 ∨ k = 8 := by omega
  all_goals simp only [Ps.set]; omega

theorem getF_size (l : List Int) (hb : ∀ x ∈ l, IsB x) (h : (getF l 0).2.2 = 0) : (sizeF (getF l 0).1 : Int) ≤ (getF l 0).2.1 := by
  rcases getF_cases l 0 with ⟨c, hc, e⟩ | ⟨k, hk, h1, h2, e⟩
  · rw [e] at h; simp at h; omega
  · rw [e]
    have hx : IsB (l.getD k 0) := hb _ (by simp [List.getD, h1])
    have hz := sz_size (l.getD k 0)
    obtain ⟨h3, h4, -⟩ := lay_back (l.getD k 0) ((l.drop (k + 1)).take (sz (l.getD k 0) - 1)) hx (fun y hy => hb y (List.mem_of_mem_drop (List.mem_of_mem_take hy))) (by rw [List.length_take, List.length_drop]; omega)
    have h5 := (size_le _ _ h4).1
    simp only
    omega

theorem step_shorter (l : List Int) (hb : ∀ x ∈ l, IsB x) (s s' : St) (h : stepP l s = .ok s') (hs : Shorter s) : Shorter s' := by
  unfold stepP at h
  split at h
  · cases h
  · rename_i h1
    have g1 := getF_good l hb s.k (by omega)
    split at h
    · cases h
    · split at h
      · cases h
      · rename_i h3
        have g2 := getF_good l hb (getF l s.k).2.1 (by omega)
        split at h
        · cases h
        · split at h
          · injection h with h; subst h
            exact ⟨hs.1, by have := hs.2; simp only; omega⟩
          · rename_i i hpl
            have hi := place_lt _ _ hpl
            split at h
            · cases h
            · rename_i h5
              injection h with h; subst h
              have hsb : ∀ x ∈ (l.drop (getF l (getF l s.k).2.1).2.1.toNat).take (getF l (getF l s.k).2.1).1.toNat, IsB x := fun x hx => hb x (List.mem_of_mem_drop (List.mem_of_mem_take hx))
              generalize hy : (l.drop (getF l (getF l s.k).2.1).2.1.toNat).take (getF l (getF l s.k).2.1).1.toNat = y at *
              have y0 : (getF y 0).2.2 = 0 := by
                by_cases c : (getF y 0).2.2 = 0
                · exact c
                · exact absurd (.inl c) h5
              have y1 : (getF y 0).2.1 = (getF l (getF l s.k).2.1).1 := by
                by_cases c : (getF y 0).2.1 = (getF l (getF l s.k).2.1).1
                · exact c
                · exact absurd (.inr (.inl c)) h5
              have y2 : ¬ mostT i < (getF y 0).1 := fun c => h5 (.inr (.inr c))
              have g3 := getF_good y hsb 0 y0
              have g4 := getF_size y hsb y0
              have m := most_small i hi
              refine ⟨fun j hj => ?_, ?_⟩
              · simp only
                rw [Ps.set_get _ _ _ _ hi hj]
                by_cases c : j = i
                · rw [if_pos c, c]; exact ⟨g3.2.2.2.1, by omega⟩
                · rw [if_neg c]; exact hs.1 j hj
              · have a1 := enc_set s.vs i hi (getF y 0).1
                have a2 : (partK i (getF y 0).1).length ≤ 2 + sizeF (getF y 0).1 := by
                  unfold partK
                  split
                  · simp
                  · have z1 : sizeF (numT i) = 1 := by unfold sizeF; rw [if_pos (by omega)]
                    have z2 := sizeF_pos (getF y 0).1 (by omega)
                    have z3 : sizeF (sizeF (getF y 0).1) = 1 := (fun (n : Nat) (hn : n ≤ 8) => by unfold sizeF; rw [if_pos (by omega)] : ∀ n : Nat, n ≤ 8 → sizeF (n : Int) = 1) _ z2.2
                    simp only [partB, List.length_append, sh_length]; omega
                have := hs.2
                simp only
                omega

theorem decF_read (l : List Int) (hb : ∀ x ∈ l, IsB x) : ∀ (f : Nat) (s : St), Shorter s → s.k ≤ l.length → l.length - s.k < f → ((decF l f s).2 = 0 → (∀ j, j < 9 → okV j ((decF l f s).1.l.getD j 0)) ∧ (encF (decF l f s).1).length ≤ l.length) ∧ ((decF l f s).2 ≠ 0 → (decF l f s).1 = zeroP) := by
  intro f
  induction f with
  | zero => intro s _ _ h; omega
  | succ f ih =>
    intro s hs hk hf
    unfold decF
    by_cases c : s.k = l.length
    · rw [if_pos c]; exact ⟨fun _ => ⟨hs.1, by have := hs.2; simp only; omega⟩, fun h => absurd rfl h⟩
    · rw [if_neg c]
      cases h : stepP l s with
      | error e => exact ⟨fun h0 => by
          exfalso
          have : e = 60 ∨ e = 61 ∨ e = 62 := by
            unfold stepP at h
            (repeat' split at h) <;> first | (injection h with h; omega) | cases h
          simp only at h0; omega, fun _ => rfl⟩
      | ok s' =>
        have hlt := stepP_lt l hb s s' h
        exact ih s' (step_shorter l hb s s' h hs) hlt.2 (by omega)
theorem dec_read (l : List Int) (hb : ∀ x ∈ l, IsB x) : ((dec l).2 = 0 → checkF (dec l).1 = 0 ∧ (encF (dec l).1).length ≤ l.length ∧ dec (encF (dec l).1) = ((dec l).1, 0)) ∧ ((dec l).2 ≠ 0 → (dec l).1 = zeroP) := by
  have h0 : Shorter ⟨0, [], dflt⟩ := ⟨fun j hj => by
    rw [dflt_get j hj]
    obtain rfl | rfl | rfl | rfl | rfl | rfl | rfl | rfl | rfl : j = 0 ∨ j = 1 ∨ j = 2 ∨ j = 3 ∨ j = 4 ∨ j = 5 ∨ j = 6 ∨ j = 7 ∨ j = 8 := by omega
    all_goals exact ⟨by decide, by decide⟩, by decide⟩
  have := decF_read l hb (l.length + 1) ⟨0, [], dflt⟩ h0 (by simp) (by simp)
  refine ⟨fun h => ?_, this.2⟩
  obtain ⟨h1, h2⟩ := this.1 h
  have hc := (checkF_ok _).2 h1
  exact ⟨hc, h2, dec_enc _ hc⟩
end Go.Proofs.YtmfbbamaleagiaaDoor
