/- What is read may be, and is written no longer: type by type. (Written by mkread.py.) -/
import Derived.Test.YtggjeamondampabF1R
namespace Go.Proofs.Ytggjeamondampab
open Go.RowKit
set_option linter.unusedVariables false
set_option linter.unusedSimpArgs false
set_option maxRecDepth 100000
set_option maxHeartbeats 4000000

def ReadP (f : Fr) (l l' : List Int) : Prop := ∃ n rs, tellF f = .inl (n, rs) ∧ (encL n).length + rs.length + l'.length ≤ l.length + 1 ∧ 1 ≤ (encL n).length ∧ f.runs.length ≤ l.length ∧ Bs f.data
theorem readP_mk {f bare : Fr} {l l' : List Int} {p : Parts} {k : Int} (hk : isKindF f.kind = true) (ht : typeF f = k) (h0 : 0 ≤ k ∧ k ≤ 63) (hs : shapeF k = some (bare, p)) (hm : mayF f bare p = true)
    (hl : (encL (numsP f p.1 ++ numsP f p.2.1 ++ numsP f p.2.2.1 ++ numsP f p.2.2.2)).length + (restF f p.1 f.data).length + l'.length ≤ l.length) (hr : f.runs.length ≤ l.length) (hd : Bs f.data) : ReadP f l l' := by
  refine ⟨_, _, tell_of hk (ht ▸ hs) hm, ?_, ?_, hr, hd⟩
  · rw [ht]
    simp only [encL, List.flatMap_cons, List.length_append, size_one h0.1 h0.2] at hl ⊢
    omega
  · rw [ht]
    simp only [encL, List.flatMap_cons, List.length_append, size_one h0.1 h0.2]
    omega
theorem setZ {f : Fr} : True := trivial
theorem read_t0 {l l' : List Int} {f : Fr} (hb : Bs l) (h : readPs (14, 0, 0, 0) { Fr.zero with kind := 0 } l = .inl (f, l')) : ReadP f l l' := by
  obtain ⟨f1, l1, f2, l2, f3, l3, h1, h2, h3, h4⟩ := readPs_inl h
  simp only at h1 h2 h3 h4
  clear h
  obtain ⟨z, rfl, a1, d1⟩ := read_14 h1
  obtain ⟨rfl, rfl⟩ := read_0 h2
  obtain ⟨rfl, rfl⟩ := read_0 h3
  obtain ⟨rfl, rfl⟩ := read_0 h4
  show ReadP ({ Fr.zero with kind := 0, size := (z : Int) + 1 } : Fr) _ _
  refine readP_mk (k := 0) (bare := ({ Fr.zero with kind := 0 } : Fr)) (p := (14, 0, 0, 0)) rfl (rfl) (by omega) rfl ?_ ?_ ?_ (by first | exact bd | (intro x hx; cases hx))
  · simp [mayF, fitsF, takeF, bareF, setF, fieldF, numb, mostF, Fr.zero, MAXN] at *; first | done | omega | (simp_all; done) | (simp_all; omega)
  · simp [numsP, restF, encL, fieldF, runsN, Fr.zero] at *; first | done | omega | (simp_all; done) | (simp_all; omega)
  · simp [Fr.zero] at *; first | done | omega | (simp_all; omega)

theorem read_t1 {l l' : List Int} {f : Fr} (hb : Bs l) (h : readPs (0, 0, 0, 0) { Fr.zero with kind := 1 } l = .inl (f, l')) : ReadP f l l' := by
  obtain ⟨f1, l1, f2, l2, f3, l3, h1, h2, h3, h4⟩ := readPs_inl h
  simp only at h1 h2 h3 h4
  clear h
  obtain ⟨rfl, rfl⟩ := read_0 h1
  obtain ⟨rfl, rfl⟩ := read_0 h2
  obtain ⟨rfl, rfl⟩ := read_0 h3
  obtain ⟨rfl, rfl⟩ := read_0 h4
  show ReadP ({ Fr.zero with kind := 1 } : Fr) _ _
  refine readP_mk (k := 1) (bare := ({ Fr.zero with kind := 1 } : Fr)) (p := (0, 0, 0, 0)) rfl (rfl) (by omega) rfl ?_ ?_ ?_ (by first | exact bd | (intro x hx; cases hx))
  · simp [mayF, fitsF, takeF, bareF, setF, fieldF, numb, mostF, Fr.zero, MAXN] at *; first | done | omega | (simp_all; done) | (simp_all; omega)
  · simp [numsP, restF, encL, fieldF, runsN, Fr.zero] at *; first | done | omega | (simp_all; done) | (simp_all; omega)
  · simp [Fr.zero] at *; first | done | omega | (simp_all; omega)

theorem read_t30 {l l' : List Int} {f : Fr} (hb : Bs l) (h : readPs (0, 0, 0, 0) { Fr.zero with kind := 30 } l = .inl (f, l')) : ReadP f l l' := by
  obtain ⟨f1, l1, f2, l2, f3, l3, h1, h2, h3, h4⟩ := readPs_inl h
  simp only at h1 h2 h3 h4
  clear h
  obtain ⟨rfl, rfl⟩ := read_0 h1
  obtain ⟨rfl, rfl⟩ := read_0 h2
  obtain ⟨rfl, rfl⟩ := read_0 h3
  obtain ⟨rfl, rfl⟩ := read_0 h4
  show ReadP ({ Fr.zero with kind := 30 } : Fr) _ _
  refine readP_mk (k := 30) (bare := ({ Fr.zero with kind := 30 } : Fr)) (p := (0, 0, 0, 0)) rfl (rfl) (by omega) rfl ?_ ?_ ?_ (by first | exact bd | (intro x hx; cases hx))
  · simp [mayF, fitsF, takeF, bareF, setF, fieldF, numb, mostF, Fr.zero, MAXN] at *; first | done | omega | (simp_all; done) | (simp_all; omega)
  · simp [numsP, restF, encL, fieldF, runsN, Fr.zero] at *; first | done | omega | (simp_all; done) | (simp_all; omega)
  · simp [Fr.zero] at *; first | done | omega | (simp_all; omega)

theorem read_t2 {l l' : List Int} {f : Fr} (hb : Bs l) (h : readPs (8, 7, 9, 0) { Fr.zero with kind := 2 } l = .inl (f, l')) : ReadP f l l' := by
  obtain ⟨f1, l1, f2, l2, f3, l3, h1, h2, h3, h4⟩ := readPs_inl h
  simp only at h1 h2 h3 h4
  clear h
  obtain ⟨v1, rfl, a1, c1, d1, e1⟩ := read_8 hb h1
  obtain ⟨v2, rfl, a2, b2, c2, d2, e2⟩ := read_num (by decide) e1 h2
  obtain ⟨r3, rfl, a3, b3, c3, d3, e3⟩ := read_9 e2 (by simpa [setF] using c1) h3
  have b9 : (r3.headD (0, 0)).2 = v1 := by simpa [setF] using b3
  obtain ⟨rfl, rfl⟩ := read_0 h4
  show ReadP ({ Fr.zero with kind := 2, delay := v2, runs := r3 } : Fr) _ _
  refine readP_mk (k := 2) (bare := ({ Fr.zero with kind := 2 } : Fr)) (p := (8, 7, 9, 0)) rfl (rfl) (by omega) rfl ?_ ?_ ?_ (by first | exact bd | (intro x hx; cases hx))
  · have hb9 : areF r3 = true := a3
    unfold MAXN at *
    simp [mayF, fitsF, takeF, bareF, setF, fieldF, numb, mostF, Fr.zero, hb9, MAXN]
    omega
  · simp only [encL] at c3
    simp [numsP, restF, encL, fieldF, Fr.zero, -List.headD_eq_head?_getD, -List.length_flatMap, b9]
    omega
  · simp [Fr.zero]
    omega

theorem read_t3 {l l' : List Int} {f : Fr} (hb : Bs l) (h : readPs (8, 7, 9, 10) { Fr.zero with kind := 2, marks := true } l = .inl (f, l')) : ReadP f l l' := by
  obtain ⟨f1, l1, f2, l2, f3, l3, h1, h2, h3, h4⟩ := readPs_inl h
  simp only at h1 h2 h3 h4
  clear h
  obtain ⟨v1, rfl, a1, c1, d1, e1⟩ := read_8 hb h1
  obtain ⟨v2, rfl, a2, b2, c2, d2, e2⟩ := read_num (by decide) e1 h2
  obtain ⟨r3, rfl, a3, b3, c3, d3, e3⟩ := read_9 e2 (by simpa [setF] using c1) h3
  have b9 : (r3.headD (0, 0)).2 = v1 := by simpa [setF] using b3
  obtain ⟨x0, x1, x2, rfl, a4, b4, c4, d4⟩ := read_10 e3 h4
  show ReadP ({ Fr.zero with kind := 2, marks := true, delay := v2, runs := r3, c0 := x0, c1 := x1, c2 := x2 } : Fr) _ _
  refine readP_mk (k := 3) (bare := ({ Fr.zero with kind := 2, marks := true } : Fr)) (p := (8, 7, 9, 10)) rfl (rfl) (by omega) rfl ?_ ?_ ?_ (by first | exact bd | (intro x hx; cases hx))
  · have hb9 : areF r3 = true := a3
    unfold MAXN at *
    simp [mayF, fitsF, takeF, bareF, setF, fieldF, numb, mostF, Fr.zero, hb9, MAXN]
    omega
  · simp only [encL] at c3
    simp [numsP, restF, encL, fieldF, Fr.zero, -List.headD_eq_head?_getD, -List.length_flatMap, b9]
    omega
  · simp [Fr.zero]
    omega

theorem read_t4 {l l' : List Int} {f : Fr} (hb : Bs l) (h : readPs (1, 5, 6, 0) { Fr.zero with kind := 4 } l = .inl (f, l')) : ReadP f l l' := by
  obtain ⟨f1, l1, f2, l2, f3, l3, h1, h2, h3, h4⟩ := readPs_inl h
  simp only at h1 h2 h3 h4
  clear h
  obtain ⟨v1, rfl, a1, b1, c1, d1, e1⟩ := read_num (by decide) hb h1
  obtain ⟨v2, rfl, a2, b2, c2, d2, e2⟩ := read_num (by decide) e1 h2
  obtain ⟨v3, rfl, a3, b3, c3, d3, e3⟩ := read_num (by decide) e2 h3
  obtain ⟨rfl, rfl⟩ := read_0 h4
  show ReadP ({ Fr.zero with kind := 4, stream := v1, code := v2, size := v3 } : Fr) _ _
  refine readP_mk (k := 4) (bare := ({ Fr.zero with kind := 4 } : Fr)) (p := (1, 5, 6, 0)) rfl (rfl) (by omega) rfl ?_ ?_ ?_ (by first | exact bd | (intro x hx; cases hx))
  · simp [mayF, fitsF, takeF, bareF, setF, fieldF, numb, mostF, Fr.zero, MAXN] at *; first | done | omega | (simp_all; done) | (simp_all; omega)
  · simp [numsP, restF, encL, fieldF, runsN, Fr.zero] at *; first | done | omega | (simp_all; done) | (simp_all; omega)
  · simp [Fr.zero] at *; first | done | omega | (simp_all; omega)

theorem read_t5 {l l' : List Int} {f : Fr} (hb : Bs l) (h : readPs (1, 5, 0, 0) { Fr.zero with kind := 5 } l = .inl (f, l')) : ReadP f l l' := by
  obtain ⟨f1, l1, f2, l2, f3, l3, h1, h2, h3, h4⟩ := readPs_inl h
  simp only at h1 h2 h3 h4
  clear h
  obtain ⟨v1, rfl, a1, b1, c1, d1, e1⟩ := read_num (by decide) hb h1
  obtain ⟨v2, rfl, a2, b2, c2, d2, e2⟩ := read_num (by decide) e1 h2
  obtain ⟨rfl, rfl⟩ := read_0 h3
  obtain ⟨rfl, rfl⟩ := read_0 h4
  show ReadP ({ Fr.zero with kind := 5, stream := v1, code := v2 } : Fr) _ _
  refine readP_mk (k := 5) (bare := ({ Fr.zero with kind := 5 } : Fr)) (p := (1, 5, 0, 0)) rfl (rfl) (by omega) rfl ?_ ?_ ?_ (by first | exact bd | (intro x hx; cases hx))
  · simp [mayF, fitsF, takeF, bareF, setF, fieldF, numb, mostF, Fr.zero, MAXN] at *; first | done | omega | (simp_all; done) | (simp_all; omega)
  · simp [numsP, restF, encL, fieldF, runsN, Fr.zero] at *; first | done | omega | (simp_all; done) | (simp_all; omega)
  · simp [Fr.zero] at *; first | done | omega | (simp_all; omega)

theorem read_t6 {l l' : List Int} {f : Fr} (hb : Bs l) (h : readPs (2, 11, 0, 0) { Fr.zero with kind := 6 } l = .inl (f, l')) : ReadP f l l' := by
  obtain ⟨f1, l1, f2, l2, f3, l3, h1, h2, h3, h4⟩ := readPs_inl h
  simp only at h1 h2 h3 h4
  clear h
  obtain ⟨v1, rfl, a1, b1, c1, d1, e1⟩ := read_num (by decide) hb h1
  obtain ⟨d, rfl, a2, d2, bd⟩ := read_11 e1 h2
  obtain ⟨rfl, rfl⟩ := read_0 h3
  obtain ⟨rfl, rfl⟩ := read_0 h4
  show ReadP ({ Fr.zero with kind := 6, offset := v1, data := d } : Fr) _ _
  refine readP_mk (k := 6) (bare := ({ Fr.zero with kind := 6 } : Fr)) (p := (2, 11, 0, 0)) rfl (rfl) (by omega) rfl ?_ ?_ ?_ (by first | exact bd | (intro x hx; cases hx))
  · simp [mayF, fitsF, takeF, bareF, setF, fieldF, numb, mostF, Fr.zero, MAXN] at *; first | done | omega | (simp_all; done) | (simp_all; omega)
  · simp [numsP, restF, encL, fieldF, runsN, Fr.zero] at *; first | done | omega | (simp_all; done) | (simp_all; omega)
  · simp [Fr.zero] at *; first | done | omega | (simp_all; omega)

theorem read_t8 {l l' : List Int} {f : Fr} (hb : Bs l) (h : readPs (1, 0, 12, 0) { Fr.zero with kind := 8, fin := false, tail := true } l = .inl (f, l')) : ReadP f l l' := by
  obtain ⟨f1, l1, f2, l2, f3, l3, h1, h2, h3, h4⟩ := readPs_inl h
  simp only at h1 h2 h3 h4
  clear h
  obtain ⟨v1, rfl, a1, b1, c1, d1, e1⟩ := read_num (by decide) hb h1
  obtain ⟨rfl, rfl⟩ := read_0 h2
  obtain ⟨d, rfl, a3, d3, bd⟩ := read_12 e1 h3
  obtain ⟨rfl, rfl⟩ := read_0 h4
  show ReadP ({ Fr.zero with kind := 8, fin := false, tail := true, stream := v1, data := d } : Fr) _ _
  refine readP_mk (k := 8) (bare := ({ Fr.zero with kind := 8, fin := false, tail := true } : Fr)) (p := (1, 0, 12, 0)) rfl (rfl) (by omega) rfl ?_ ?_ ?_ (by first | exact bd | (intro x hx; cases hx))
  · simp [mayF, fitsF, takeF, bareF, setF, fieldF, numb, mostF, Fr.zero, MAXN] at *; first | done | omega | (simp_all; done) | (simp_all; omega)
  · simp [numsP, restF, encL, fieldF, runsN, Fr.zero] at *; first | done | omega | (simp_all; done) | (simp_all; omega)
  · simp [Fr.zero] at *; first | done | omega | (simp_all; omega)

theorem read_t9 {l l' : List Int} {f : Fr} (hb : Bs l) (h : readPs (1, 0, 12, 0) { Fr.zero with kind := 8, fin := true, tail := true } l = .inl (f, l')) : ReadP f l l' := by
  obtain ⟨f1, l1, f2, l2, f3, l3, h1, h2, h3, h4⟩ := readPs_inl h
  simp only at h1 h2 h3 h4
  clear h
  obtain ⟨v1, rfl, a1, b1, c1, d1, e1⟩ := read_num (by decide) hb h1
  obtain ⟨rfl, rfl⟩ := read_0 h2
  obtain ⟨d, rfl, a3, d3, bd⟩ := read_12 e1 h3
  obtain ⟨rfl, rfl⟩ := read_0 h4
  show ReadP ({ Fr.zero with kind := 8, fin := true, tail := true, stream := v1, data := d } : Fr) _ _
  refine readP_mk (k := 9) (bare := ({ Fr.zero with kind := 8, fin := true, tail := true } : Fr)) (p := (1, 0, 12, 0)) rfl (rfl) (by omega) rfl ?_ ?_ ?_ (by first | exact bd | (intro x hx; cases hx))
  · simp [mayF, fitsF, takeF, bareF, setF, fieldF, numb, mostF, Fr.zero, MAXN] at *; first | done | omega | (simp_all; done) | (simp_all; omega)
  · simp [numsP, restF, encL, fieldF, runsN, Fr.zero] at *; first | done | omega | (simp_all; done) | (simp_all; omega)
  · simp [Fr.zero] at *; first | done | omega | (simp_all; omega)

theorem read_t10 {l l' : List Int} {f : Fr} (hb : Bs l) (h : readPs (1, 0, 11, 0) { Fr.zero with kind := 8, fin := false, tail := false } l = .inl (f, l')) : ReadP f l l' := by
  obtain ⟨f1, l1, f2, l2, f3, l3, h1, h2, h3, h4⟩ := readPs_inl h
  simp only at h1 h2 h3 h4
  clear h
  obtain ⟨v1, rfl, a1, b1, c1, d1, e1⟩ := read_num (by decide) hb h1
  obtain ⟨rfl, rfl⟩ := read_0 h2
  obtain ⟨d, rfl, a3, d3, bd⟩ := read_11 e1 h3
  obtain ⟨rfl, rfl⟩ := read_0 h4
  show ReadP ({ Fr.zero with kind := 8, fin := false, tail := false, stream := v1, data := d } : Fr) _ _
  refine readP_mk (k := 10) (bare := ({ Fr.zero with kind := 8, fin := false, tail := false } : Fr)) (p := (1, 0, 11, 0)) rfl (rfl) (by omega) rfl ?_ ?_ ?_ (by first | exact bd | (intro x hx; cases hx))
  · simp [mayF, fitsF, takeF, bareF, setF, fieldF, numb, mostF, Fr.zero, MAXN] at *; first | done | omega | (simp_all; done) | (simp_all; omega)
  · simp [numsP, restF, encL, fieldF, runsN, Fr.zero] at *; first | done | omega | (simp_all; done) | (simp_all; omega)
  · simp [Fr.zero] at *; first | done | omega | (simp_all; omega)

theorem read_t11 {l l' : List Int} {f : Fr} (hb : Bs l) (h : readPs (1, 0, 11, 0) { Fr.zero with kind := 8, fin := true, tail := false } l = .inl (f, l')) : ReadP f l l' := by
  obtain ⟨f1, l1, f2, l2, f3, l3, h1, h2, h3, h4⟩ := readPs_inl h
  simp only at h1 h2 h3 h4
  clear h
  obtain ⟨v1, rfl, a1, b1, c1, d1, e1⟩ := read_num (by decide) hb h1
  obtain ⟨rfl, rfl⟩ := read_0 h2
  obtain ⟨d, rfl, a3, d3, bd⟩ := read_11 e1 h3
  obtain ⟨rfl, rfl⟩ := read_0 h4
  show ReadP ({ Fr.zero with kind := 8, fin := true, tail := false, stream := v1, data := d } : Fr) _ _
  refine readP_mk (k := 11) (bare := ({ Fr.zero with kind := 8, fin := true, tail := false } : Fr)) (p := (1, 0, 11, 0)) rfl (rfl) (by omega) rfl ?_ ?_ ?_ (by first | exact bd | (intro x hx; cases hx))
  · simp [mayF, fitsF, takeF, bareF, setF, fieldF, numb, mostF, Fr.zero, MAXN] at *; first | done | omega | (simp_all; done) | (simp_all; omega)
  · simp [numsP, restF, encL, fieldF, runsN, Fr.zero] at *; first | done | omega | (simp_all; done) | (simp_all; omega)
  · simp [Fr.zero] at *; first | done | omega | (simp_all; omega)

theorem read_t12 {l l' : List Int} {f : Fr} (hb : Bs l) (h : readPs (1, 2, 12, 0) { Fr.zero with kind := 8, fin := false, tail := true } l = .inl (f, l')) : ReadP f l l' := by
  obtain ⟨f1, l1, f2, l2, f3, l3, h1, h2, h3, h4⟩ := readPs_inl h
  simp only at h1 h2 h3 h4
  clear h
  obtain ⟨v1, rfl, a1, b1, c1, d1, e1⟩ := read_num (by decide) hb h1
  obtain ⟨v2, rfl, a2, b2, c2, d2, e2⟩ := read_num (by decide) e1 h2
  obtain ⟨d, rfl, a3, d3, bd⟩ := read_12 e2 h3
  obtain ⟨rfl, rfl⟩ := read_0 h4
  show ReadP ({ Fr.zero with kind := 8, fin := false, tail := true, stream := v1, offset := v2, data := d } : Fr) _ _
  by_cases hv : v2 = 0
  · subst hv
    refine readP_mk (k := 8) (bare := ({ Fr.zero with kind := 8, fin := false, tail := true } : Fr)) (p := (1, 0, 12, 0)) rfl (rfl) (by omega) rfl ?_ ?_ ?_ (by first | exact bd | (intro x hx; cases hx))
    · simp [mayF, fitsF, takeF, bareF, setF, fieldF, numb, mostF, Fr.zero, MAXN] at *; first | done | omega | (simp_all; done) | (simp_all; omega)
    · simp [numsP, restF, encL, fieldF, runsN, Fr.zero] at *; first | done | omega | (simp_all; done) | (simp_all; omega)
    · simp [Fr.zero] at *; first | done | omega | (simp_all; omega)
  · have hv2 : 0 < v2 := by omega
    refine readP_mk (k := 12) (bare := ({ Fr.zero with kind := 8, fin := false, tail := true } : Fr)) (p := (1, 2, 12, 0)) rfl (by simp [typeF, Fr.zero, one, hv2]) (by omega) rfl ?_ ?_ ?_ (by first | exact bd | (intro x hx; cases hx))
    · simp [mayF, fitsF, takeF, bareF, setF, fieldF, numb, mostF, Fr.zero, MAXN] at *; first | done | omega | (simp_all; done) | (simp_all; omega)
    · simp [numsP, restF, encL, fieldF, runsN, Fr.zero] at *; first | done | omega | (simp_all; done) | (simp_all; omega)
    · simp [Fr.zero] at *; first | done | omega | (simp_all; omega)

theorem read_t13 {l l' : List Int} {f : Fr} (hb : Bs l) (h : readPs (1, 2, 12, 0) { Fr.zero with kind := 8, fin := true, tail := true } l = .inl (f, l')) : ReadP f l l' := by
  obtain ⟨f1, l1, f2, l2, f3, l3, h1, h2, h3, h4⟩ := readPs_inl h
  simp only at h1 h2 h3 h4
  clear h
  obtain ⟨v1, rfl, a1, b1, c1, d1, e1⟩ := read_num (by decide) hb h1
  obtain ⟨v2, rfl, a2, b2, c2, d2, e2⟩ := read_num (by decide) e1 h2
  obtain ⟨d, rfl, a3, d3, bd⟩ := read_12 e2 h3
  obtain ⟨rfl, rfl⟩ := read_0 h4
  show ReadP ({ Fr.zero with kind := 8, fin := true, tail := true, stream := v1, offset := v2, data := d } : Fr) _ _
  by_cases hv : v2 = 0
  · subst hv
    refine readP_mk (k := 9) (bare := ({ Fr.zero with kind := 8, fin := true, tail := true } : Fr)) (p := (1, 0, 12, 0)) rfl (rfl) (by omega) rfl ?_ ?_ ?_ (by first | exact bd | (intro x hx; cases hx))
    · simp [mayF, fitsF, takeF, bareF, setF, fieldF, numb, mostF, Fr.zero, MAXN] at *; first | done | omega | (simp_all; done) | (simp_all; omega)
    · simp [numsP, restF, encL, fieldF, runsN, Fr.zero] at *; first | done | omega | (simp_all; done) | (simp_all; omega)
    · simp [Fr.zero] at *; first | done | omega | (simp_all; omega)
  · have hv2 : 0 < v2 := by omega
    refine readP_mk (k := 13) (bare := ({ Fr.zero with kind := 8, fin := true, tail := true } : Fr)) (p := (1, 2, 12, 0)) rfl (by simp [typeF, Fr.zero, one, hv2]) (by omega) rfl ?_ ?_ ?_ (by first | exact bd | (intro x hx; cases hx))
    · simp [mayF, fitsF, takeF, bareF, setF, fieldF, numb, mostF, Fr.zero, MAXN] at *; first | done | omega | (simp_all; done) | (simp_all; omega)
    · simp [numsP, restF, encL, fieldF, runsN, Fr.zero] at *; first | done | omega | (simp_all; done) | (simp_all; omega)
    · simp [Fr.zero] at *; first | done | omega | (simp_all; omega)

theorem read_t14 {l l' : List Int} {f : Fr} (hb : Bs l) (h : readPs (1, 2, 11, 0) { Fr.zero with kind := 8, fin := false, tail := false } l = .inl (f, l')) : ReadP f l l' := by
  obtain ⟨f1, l1, f2, l2, f3, l3, h1, h2, h3, h4⟩ := readPs_inl h
  simp only at h1 h2 h3 h4
  clear h
  obtain ⟨v1, rfl, a1, b1, c1, d1, e1⟩ := read_num (by decide) hb h1
  obtain ⟨v2, rfl, a2, b2, c2, d2, e2⟩ := read_num (by decide) e1 h2
  obtain ⟨d, rfl, a3, d3, bd⟩ := read_11 e2 h3
  obtain ⟨rfl, rfl⟩ := read_0 h4
  show ReadP ({ Fr.zero with kind := 8, fin := false, tail := false, stream := v1, offset := v2, data := d } : Fr) _ _
  by_cases hv : v2 = 0
  · subst hv
    refine readP_mk (k := 10) (bare := ({ Fr.zero with kind := 8, fin := false, tail := false } : Fr)) (p := (1, 0, 11, 0)) rfl (rfl) (by omega) rfl ?_ ?_ ?_ (by first | exact bd | (intro x hx; cases hx))
    · simp [mayF, fitsF, takeF, bareF, setF, fieldF, numb, mostF, Fr.zero, MAXN] at *; first | done | omega | (simp_all; done) | (simp_all; omega)
    · simp [numsP, restF, encL, fieldF, runsN, Fr.zero] at *; first | done | omega | (simp_all; done) | (simp_all; omega)
    · simp [Fr.zero] at *; first | done | omega | (simp_all; omega)
  · have hv2 : 0 < v2 := by omega
    refine readP_mk (k := 14) (bare := ({ Fr.zero with kind := 8, fin := false, tail := false } : Fr)) (p := (1, 2, 11, 0)) rfl (by simp [typeF, Fr.zero, one, hv2]) (by omega) rfl ?_ ?_ ?_ (by first | exact bd | (intro x hx; cases hx))
    · simp [mayF, fitsF, takeF, bareF, setF, fieldF, numb, mostF, Fr.zero, MAXN] at *; first | done | omega | (simp_all; done) | (simp_all; omega)
    · simp [numsP, restF, encL, fieldF, runsN, Fr.zero] at *; first | done | omega | (simp_all; done) | (simp_all; omega)
    · simp [Fr.zero] at *; first | done | omega | (simp_all; omega)

theorem read_t15 {l l' : List Int} {f : Fr} (hb : Bs l) (h : readPs (1, 2, 11, 0) { Fr.zero with kind := 8, fin := true, tail := false } l = .inl (f, l')) : ReadP f l l' := by
  obtain ⟨f1, l1, f2, l2, f3, l3, h1, h2, h3, h4⟩ := readPs_inl h
  simp only at h1 h2 h3 h4
  clear h
  obtain ⟨v1, rfl, a1, b1, c1, d1, e1⟩ := read_num (by decide) hb h1
  obtain ⟨v2, rfl, a2, b2, c2, d2, e2⟩ := read_num (by decide) e1 h2
  obtain ⟨d, rfl, a3, d3, bd⟩ := read_11 e2 h3
  obtain ⟨rfl, rfl⟩ := read_0 h4
  show ReadP ({ Fr.zero with kind := 8, fin := true, tail := false, stream := v1, offset := v2, data := d } : Fr) _ _
  by_cases hv : v2 = 0
  · subst hv
    refine readP_mk (k := 11) (bare := ({ Fr.zero with kind := 8, fin := true, tail := false } : Fr)) (p := (1, 0, 11, 0)) rfl (rfl) (by omega) rfl ?_ ?_ ?_ (by first | exact bd | (intro x hx; cases hx))
    · simp [mayF, fitsF, takeF, bareF, setF, fieldF, numb, mostF, Fr.zero, MAXN] at *; first | done | omega | (simp_all; done) | (simp_all; omega)
    · simp [numsP, restF, encL, fieldF, runsN, Fr.zero] at *; first | done | omega | (simp_all; done) | (simp_all; omega)
    · simp [Fr.zero] at *; first | done | omega | (simp_all; omega)
  · have hv2 : 0 < v2 := by omega
    refine readP_mk (k := 15) (bare := ({ Fr.zero with kind := 8, fin := true, tail := false } : Fr)) (p := (1, 2, 11, 0)) rfl (by simp [typeF, Fr.zero, one, hv2]) (by omega) rfl ?_ ?_ ?_ (by first | exact bd | (intro x hx; cases hx))
    · simp [mayF, fitsF, takeF, bareF, setF, fieldF, numb, mostF, Fr.zero, MAXN] at *; first | done | omega | (simp_all; done) | (simp_all; omega)
    · simp [numsP, restF, encL, fieldF, runsN, Fr.zero] at *; first | done | omega | (simp_all; done) | (simp_all; omega)
    · simp [Fr.zero] at *; first | done | omega | (simp_all; omega)

theorem read_t16 {l l' : List Int} {f : Fr} (hb : Bs l) (h : readPs (3, 0, 0, 0) { Fr.zero with kind := 16 } l = .inl (f, l')) : ReadP f l l' := by
  obtain ⟨f1, l1, f2, l2, f3, l3, h1, h2, h3, h4⟩ := readPs_inl h
  simp only at h1 h2 h3 h4
  clear h
  obtain ⟨v1, rfl, a1, b1, c1, d1, e1⟩ := read_num (by decide) hb h1
  obtain ⟨rfl, rfl⟩ := read_0 h2
  obtain ⟨rfl, rfl⟩ := read_0 h3
  obtain ⟨rfl, rfl⟩ := read_0 h4
  show ReadP ({ Fr.zero with kind := 16, limit := v1 } : Fr) _ _
  refine readP_mk (k := 16) (bare := ({ Fr.zero with kind := 16 } : Fr)) (p := (3, 0, 0, 0)) rfl (rfl) (by omega) rfl ?_ ?_ ?_ (by first | exact bd | (intro x hx; cases hx))
  · simp [mayF, fitsF, takeF, bareF, setF, fieldF, numb, mostF, Fr.zero, MAXN] at *; first | done | omega | (simp_all; done) | (simp_all; omega)
  · simp [numsP, restF, encL, fieldF, runsN, Fr.zero] at *; first | done | omega | (simp_all; done) | (simp_all; omega)
  · simp [Fr.zero] at *; first | done | omega | (simp_all; omega)

theorem read_t20 {l l' : List Int} {f : Fr} (hb : Bs l) (h : readPs (3, 0, 0, 0) { Fr.zero with kind := 20 } l = .inl (f, l')) : ReadP f l l' := by
  obtain ⟨f1, l1, f2, l2, f3, l3, h1, h2, h3, h4⟩ := readPs_inl h
  simp only at h1 h2 h3 h4
  clear h
  obtain ⟨v1, rfl, a1, b1, c1, d1, e1⟩ := read_num (by decide) hb h1
  obtain ⟨rfl, rfl⟩ := read_0 h2
  obtain ⟨rfl, rfl⟩ := read_0 h3
  obtain ⟨rfl, rfl⟩ := read_0 h4
  show ReadP ({ Fr.zero with kind := 20, limit := v1 } : Fr) _ _
  refine readP_mk (k := 20) (bare := ({ Fr.zero with kind := 20 } : Fr)) (p := (3, 0, 0, 0)) rfl (rfl) (by omega) rfl ?_ ?_ ?_ (by first | exact bd | (intro x hx; cases hx))
  · simp [mayF, fitsF, takeF, bareF, setF, fieldF, numb, mostF, Fr.zero, MAXN] at *; first | done | omega | (simp_all; done) | (simp_all; omega)
  · simp [numsP, restF, encL, fieldF, runsN, Fr.zero] at *; first | done | omega | (simp_all; done) | (simp_all; omega)
  · simp [Fr.zero] at *; first | done | omega | (simp_all; omega)

theorem read_t17 {l l' : List Int} {f : Fr} (hb : Bs l) (h : readPs (1, 3, 0, 0) { Fr.zero with kind := 17 } l = .inl (f, l')) : ReadP f l l' := by
  obtain ⟨f1, l1, f2, l2, f3, l3, h1, h2, h3, h4⟩ := readPs_inl h
  simp only at h1 h2 h3 h4
  clear h
  obtain ⟨v1, rfl, a1, b1, c1, d1, e1⟩ := read_num (by decide) hb h1
  obtain ⟨v2, rfl, a2, b2, c2, d2, e2⟩ := read_num (by decide) e1 h2
  obtain ⟨rfl, rfl⟩ := read_0 h3
  obtain ⟨rfl, rfl⟩ := read_0 h4
  show ReadP ({ Fr.zero with kind := 17, stream := v1, limit := v2 } : Fr) _ _
  refine readP_mk (k := 17) (bare := ({ Fr.zero with kind := 17 } : Fr)) (p := (1, 3, 0, 0)) rfl (rfl) (by omega) rfl ?_ ?_ ?_ (by first | exact bd | (intro x hx; cases hx))
  · simp [mayF, fitsF, takeF, bareF, setF, fieldF, numb, mostF, Fr.zero, MAXN] at *; first | done | omega | (simp_all; done) | (simp_all; omega)
  · simp [numsP, restF, encL, fieldF, runsN, Fr.zero] at *; first | done | omega | (simp_all; done) | (simp_all; omega)
  · simp [Fr.zero] at *; first | done | omega | (simp_all; omega)

theorem read_t21 {l l' : List Int} {f : Fr} (hb : Bs l) (h : readPs (1, 3, 0, 0) { Fr.zero with kind := 21 } l = .inl (f, l')) : ReadP f l l' := by
  obtain ⟨f1, l1, f2, l2, f3, l3, h1, h2, h3, h4⟩ := readPs_inl h
  simp only at h1 h2 h3 h4
  clear h
  obtain ⟨v1, rfl, a1, b1, c1, d1, e1⟩ := read_num (by decide) hb h1
  obtain ⟨v2, rfl, a2, b2, c2, d2, e2⟩ := read_num (by decide) e1 h2
  obtain ⟨rfl, rfl⟩ := read_0 h3
  obtain ⟨rfl, rfl⟩ := read_0 h4
  show ReadP ({ Fr.zero with kind := 21, stream := v1, limit := v2 } : Fr) _ _
  refine readP_mk (k := 21) (bare := ({ Fr.zero with kind := 21 } : Fr)) (p := (1, 3, 0, 0)) rfl (rfl) (by omega) rfl ?_ ?_ ?_ (by first | exact bd | (intro x hx; cases hx))
  · simp [mayF, fitsF, takeF, bareF, setF, fieldF, numb, mostF, Fr.zero, MAXN] at *; first | done | omega | (simp_all; done) | (simp_all; omega)
  · simp [numsP, restF, encL, fieldF, runsN, Fr.zero] at *; first | done | omega | (simp_all; done) | (simp_all; omega)
  · simp [Fr.zero] at *; first | done | omega | (simp_all; omega)

theorem read_t19 {l l' : List Int} {f : Fr} (hb : Bs l) (h : readPs (4, 0, 0, 0) { Fr.zero with kind := 18, uni := true } l = .inl (f, l')) : ReadP f l l' := by
  obtain ⟨f1, l1, f2, l2, f3, l3, h1, h2, h3, h4⟩ := readPs_inl h
  simp only at h1 h2 h3 h4
  clear h
  obtain ⟨v1, rfl, a1, b1, c1, d1, e1⟩ := read_num (by decide) hb h1
  obtain ⟨rfl, rfl⟩ := read_0 h2
  obtain ⟨rfl, rfl⟩ := read_0 h3
  obtain ⟨rfl, rfl⟩ := read_0 h4
  show ReadP ({ Fr.zero with kind := 18, uni := true, limit := v1 } : Fr) _ _
  refine readP_mk (k := 19) (bare := ({ Fr.zero with kind := 18, uni := true } : Fr)) (p := (4, 0, 0, 0)) rfl (rfl) (by omega) rfl ?_ ?_ ?_ (by first | exact bd | (intro x hx; cases hx))
  · simp [mayF, fitsF, takeF, bareF, setF, fieldF, numb, mostF, Fr.zero, MAXN] at *; first | done | omega | (simp_all; done) | (simp_all; omega)
  · simp [numsP, restF, encL, fieldF, runsN, Fr.zero] at *; first | done | omega | (simp_all; done) | (simp_all; omega)
  · simp [Fr.zero] at *; first | done | omega | (simp_all; omega)

theorem read_t23 {l l' : List Int} {f : Fr} (hb : Bs l) (h : readPs (4, 0, 0, 0) { Fr.zero with kind := 22, uni := true } l = .inl (f, l')) : ReadP f l l' := by
  obtain ⟨f1, l1, f2, l2, f3, l3, h1, h2, h3, h4⟩ := readPs_inl h
  simp only at h1 h2 h3 h4
  clear h
  obtain ⟨v1, rfl, a1, b1, c1, d1, e1⟩ := read_num (by decide) hb h1
  obtain ⟨rfl, rfl⟩ := read_0 h2
  obtain ⟨rfl, rfl⟩ := read_0 h3
  obtain ⟨rfl, rfl⟩ := read_0 h4
  show ReadP ({ Fr.zero with kind := 22, uni := true, limit := v1 } : Fr) _ _
  refine readP_mk (k := 23) (bare := ({ Fr.zero with kind := 22, uni := true } : Fr)) (p := (4, 0, 0, 0)) rfl (rfl) (by omega) rfl ?_ ?_ ?_ (by first | exact bd | (intro x hx; cases hx))
  · simp [mayF, fitsF, takeF, bareF, setF, fieldF, numb, mostF, Fr.zero, MAXN] at *; first | done | omega | (simp_all; done) | (simp_all; omega)
  · simp [numsP, restF, encL, fieldF, runsN, Fr.zero] at *; first | done | omega | (simp_all; done) | (simp_all; omega)
  · simp [Fr.zero] at *; first | done | omega | (simp_all; omega)

theorem read_t18 {l l' : List Int} {f : Fr} (hb : Bs l) (h : readPs (4, 0, 0, 0) { Fr.zero with kind := 18 } l = .inl (f, l')) : ReadP f l l' := by
  obtain ⟨f1, l1, f2, l2, f3, l3, h1, h2, h3, h4⟩ := readPs_inl h
  simp only at h1 h2 h3 h4
  clear h
  obtain ⟨v1, rfl, a1, b1, c1, d1, e1⟩ := read_num (by decide) hb h1
  obtain ⟨rfl, rfl⟩ := read_0 h2
  obtain ⟨rfl, rfl⟩ := read_0 h3
  obtain ⟨rfl, rfl⟩ := read_0 h4
  show ReadP ({ Fr.zero with kind := 18, limit := v1 } : Fr) _ _
  refine readP_mk (k := 18) (bare := ({ Fr.zero with kind := 18 } : Fr)) (p := (4, 0, 0, 0)) rfl (rfl) (by omega) rfl ?_ ?_ ?_ (by first | exact bd | (intro x hx; cases hx))
  · simp [mayF, fitsF, takeF, bareF, setF, fieldF, numb, mostF, Fr.zero, MAXN] at *; first | done | omega | (simp_all; done) | (simp_all; omega)
  · simp [numsP, restF, encL, fieldF, runsN, Fr.zero] at *; first | done | omega | (simp_all; done) | (simp_all; omega)
  · simp [Fr.zero] at *; first | done | omega | (simp_all; omega)

theorem read_t22 {l l' : List Int} {f : Fr} (hb : Bs l) (h : readPs (4, 0, 0, 0) { Fr.zero with kind := 22 } l = .inl (f, l')) : ReadP f l l' := by
  obtain ⟨f1, l1, f2, l2, f3, l3, h1, h2, h3, h4⟩ := readPs_inl h
  simp only at h1 h2 h3 h4
  clear h
  obtain ⟨v1, rfl, a1, b1, c1, d1, e1⟩ := read_num (by decide) hb h1
  obtain ⟨rfl, rfl⟩ := read_0 h2
  obtain ⟨rfl, rfl⟩ := read_0 h3
  obtain ⟨rfl, rfl⟩ := read_0 h4
  show ReadP ({ Fr.zero with kind := 22, limit := v1 } : Fr) _ _
  refine readP_mk (k := 22) (bare := ({ Fr.zero with kind := 22 } : Fr)) (p := (4, 0, 0, 0)) rfl (rfl) (by omega) rfl ?_ ?_ ?_ (by first | exact bd | (intro x hx; cases hx))
  · simp [mayF, fitsF, takeF, bareF, setF, fieldF, numb, mostF, Fr.zero, MAXN] at *; first | done | omega | (simp_all; done) | (simp_all; omega)
  · simp [numsP, restF, encL, fieldF, runsN, Fr.zero] at *; first | done | omega | (simp_all; done) | (simp_all; omega)
  · simp [Fr.zero] at *; first | done | omega | (simp_all; omega)

theorem read_t26 {l l' : List Int} {f : Fr} (hb : Bs l) (h : readPs (13, 0, 0, 0) { Fr.zero with kind := 26 } l = .inl (f, l')) : ReadP f l l' := by
  obtain ⟨f1, l1, f2, l2, f3, l3, h1, h2, h3, h4⟩ := readPs_inl h
  simp only at h1 h2 h3 h4
  clear h
  obtain ⟨d, rfl, a1, d1, bd⟩ := read_13 hb h1
  obtain ⟨rfl, rfl⟩ := read_0 h2
  obtain ⟨rfl, rfl⟩ := read_0 h3
  obtain ⟨rfl, rfl⟩ := read_0 h4
  show ReadP ({ Fr.zero with kind := 26, data := d } : Fr) _ _
  refine readP_mk (k := 26) (bare := ({ Fr.zero with kind := 26 } : Fr)) (p := (13, 0, 0, 0)) rfl (rfl) (by omega) rfl ?_ ?_ ?_ (by first | exact bd | (intro x hx; cases hx))
  · simp [mayF, fitsF, takeF, bareF, setF, fieldF, numb, mostF, Fr.zero, MAXN] at *; first | done | omega | (simp_all; done) | (simp_all; omega)
  · simp [numsP, restF, encL, fieldF, runsN, Fr.zero] at *; first | done | omega | (simp_all; done) | (simp_all; omega)
  · simp [Fr.zero] at *; first | done | omega | (simp_all; omega)

theorem read_t27 {l l' : List Int} {f : Fr} (hb : Bs l) (h : readPs (13, 0, 0, 0) { Fr.zero with kind := 27 } l = .inl (f, l')) : ReadP f l l' := by
  obtain ⟨f1, l1, f2, l2, f3, l3, h1, h2, h3, h4⟩ := readPs_inl h
  simp only at h1 h2 h3 h4
  clear h
  obtain ⟨d, rfl, a1, d1, bd⟩ := read_13 hb h1
  obtain ⟨rfl, rfl⟩ := read_0 h2
  obtain ⟨rfl, rfl⟩ := read_0 h3
  obtain ⟨rfl, rfl⟩ := read_0 h4
  show ReadP ({ Fr.zero with kind := 27, data := d } : Fr) _ _
  refine readP_mk (k := 27) (bare := ({ Fr.zero with kind := 27 } : Fr)) (p := (13, 0, 0, 0)) rfl (rfl) (by omega) rfl ?_ ?_ ?_ (by first | exact bd | (intro x hx; cases hx))
  · simp [mayF, fitsF, takeF, bareF, setF, fieldF, numb, mostF, Fr.zero, MAXN] at *; first | done | omega | (simp_all; done) | (simp_all; omega)
  · simp [numsP, restF, encL, fieldF, runsN, Fr.zero] at *; first | done | omega | (simp_all; done) | (simp_all; omega)
  · simp [Fr.zero] at *; first | done | omega | (simp_all; omega)

theorem read_t28 {l l' : List Int} {f : Fr} (hb : Bs l) (h : readPs (5, 6, 11, 0) { Fr.zero with kind := 28 } l = .inl (f, l')) : ReadP f l l' := by
  obtain ⟨f1, l1, f2, l2, f3, l3, h1, h2, h3, h4⟩ := readPs_inl h
  simp only at h1 h2 h3 h4
  clear h
  obtain ⟨v1, rfl, a1, b1, c1, d1, e1⟩ := read_num (by decide) hb h1
  obtain ⟨v2, rfl, a2, b2, c2, d2, e2⟩ := read_num (by decide) e1 h2
  obtain ⟨d, rfl, a3, d3, bd⟩ := read_11 e2 h3
  obtain ⟨rfl, rfl⟩ := read_0 h4
  show ReadP ({ Fr.zero with kind := 28, code := v1, size := v2, data := d } : Fr) _ _
  refine readP_mk (k := 28) (bare := ({ Fr.zero with kind := 28 } : Fr)) (p := (5, 6, 11, 0)) rfl (rfl) (by omega) rfl ?_ ?_ ?_ (by first | exact bd | (intro x hx; cases hx))
  · simp [mayF, fitsF, takeF, bareF, setF, fieldF, numb, mostF, Fr.zero, MAXN] at *; first | done | omega | (simp_all; done) | (simp_all; omega)
  · simp [numsP, restF, encL, fieldF, runsN, Fr.zero] at *; first | done | omega | (simp_all; done) | (simp_all; omega)
  · simp [Fr.zero] at *; first | done | omega | (simp_all; omega)

theorem read_t29 {l l' : List Int} {f : Fr} (hb : Bs l) (h : readPs (5, 11, 0, 0) { Fr.zero with kind := 28, own := true } l = .inl (f, l')) : ReadP f l l' := by
  obtain ⟨f1, l1, f2, l2, f3, l3, h1, h2, h3, h4⟩ := readPs_inl h
  simp only at h1 h2 h3 h4
  clear h
  obtain ⟨v1, rfl, a1, b1, c1, d1, e1⟩ := read_num (by decide) hb h1
  obtain ⟨d, rfl, a2, d2, bd⟩ := read_11 e1 h2
  obtain ⟨rfl, rfl⟩ := read_0 h3
  obtain ⟨rfl, rfl⟩ := read_0 h4
  show ReadP ({ Fr.zero with kind := 28, own := true, code := v1, data := d } : Fr) _ _
  refine readP_mk (k := 29) (bare := ({ Fr.zero with kind := 28, own := true } : Fr)) (p := (5, 11, 0, 0)) rfl (rfl) (by omega) rfl ?_ ?_ ?_ (by first | exact bd | (intro x hx; cases hx))
  · simp [mayF, fitsF, takeF, bareF, setF, fieldF, numb, mostF, Fr.zero, MAXN] at *; first | done | omega | (simp_all; done) | (simp_all; omega)
  · simp [numsP, restF, encL, fieldF, runsN, Fr.zero] at *; first | done | omega | (simp_all; done) | (simp_all; omega)
  · simp [Fr.zero] at *; first | done | omega | (simp_all; omega)

theorem read_pure {l l' : List Int} {f : Fr} (hb : Bs l) (h : decF l = .inl (f, l')) : ∃ n rs, tellF f = .inl (n, rs) ∧ (encL n).length + rs.length + l'.length ≤ l.length ∧ 1 ≤ (encL n).length ∧ f.runs.length ≤ l.length ∧ Bs f.data := by
  unfold decF at h
  split at h
  · cases h
  · rename_i k l1 hn
    obtain ⟨a1, a2, a3, a4, a5⟩ := numF_read hb hn
    split at h
    · cases h
    · rename_i f0 ps hs
      split at h
      · cases h
      · have hq : ReadP f l1 l' := by
          have hd := shape_dom hs
          have hd' : k = 0 ∨ k = 1 ∨ k = 30 ∨ k = 2 ∨ k = 3 ∨ k = 4 ∨ k = 5 ∨ k = 6 ∨ k = 8 ∨ k = 9 ∨ k = 10 ∨ k = 11 ∨ k = 12 ∨ k = 13 ∨ k = 14 ∨ k = 15 ∨ k = 16 ∨ k = 20 ∨ k = 17 ∨ k = 21 ∨ k = 19 ∨ k = 23 ∨ k = 18 ∨ k = 22 ∨ k = 26 ∨ k = 27 ∨ k = 28 ∨ k = 29 := by omega
          clear hd hn a1 a2 a4 a3
          rcases hd' with rfl | rfl | rfl | rfl | rfl | rfl | rfl | rfl | rfl | rfl | rfl | rfl | rfl | rfl | rfl | rfl | rfl | rfl | rfl | rfl | rfl | rfl | rfl | rfl | rfl | rfl | rfl | rfl
          · cases hs; exact read_t0 a5 h
          · cases hs; exact read_t1 a5 h
          · cases hs; exact read_t30 a5 h
          · cases hs; exact read_t2 a5 h
          · cases hs; exact read_t3 a5 h
          · cases hs; exact read_t4 a5 h
          · cases hs; exact read_t5 a5 h
          · cases hs; exact read_t6 a5 h
          · cases hs; exact read_t8 a5 h
          · cases hs; exact read_t9 a5 h
          · cases hs; exact read_t10 a5 h
          · cases hs; exact read_t11 a5 h
          · cases hs; exact read_t12 a5 h
          · cases hs; exact read_t13 a5 h
          · cases hs; exact read_t14 a5 h
          · cases hs; exact read_t15 a5 h
          · cases hs; exact read_t16 a5 h
          · cases hs; exact read_t20 a5 h
          · cases hs; exact read_t17 a5 h
          · cases hs; exact read_t21 a5 h
          · cases hs; exact read_t19 a5 h
          · cases hs; exact read_t23 a5 h
          · cases hs; exact read_t18 a5 h
          · cases hs; exact read_t22 a5 h
          · cases hs; exact read_t26 a5 h
          · cases hs; exact read_t27 a5 h
          · cases hs; exact read_t28 a5 h
          · cases hs; exact read_t29 a5 h
        obtain ⟨n, rs, h1, h2, h3, h4, h5⟩ := hq
        exact ⟨n, rs, h1, by omega, h3, by omega, h5⟩
end Go.Proofs.Ytggjeamondampab
