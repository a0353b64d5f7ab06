/- recv: release. -/
import Derived.Test.YthihabjegpacaaaGreatT6T
namespace Go.Proofs.YthihabjegpacaaaGreat
open Go.RowKit
set_option linter.unusedVariables false
set_option linter.unusedSimpArgs false
set_option maxHeartbeats 4000000
set_option maxRecDepth 100000

/-- Those that are held, some of them may be read. -/
structure HeW (S : Rv) (E : List He) : Prop where
  srt : E.Pairwise (fun a b => a.till ≤ b.off)
  pos : ∀ e ∈ E, 0 ≤ e.off ∧ e.p ≠ [] ∧ e.till ≤ 4611686018427387903
  is : ∀ e ∈ E, ∀ (i : Nat) y, e.p[i]? = some y → S.T (e.off + i) = some y
  all : ∀ x, S.read ≤ x → (S.T x).isSome = true → ∃ e ∈ E, e.off ≤ x ∧ x < e.till
  sz : ∀ e ∈ E, e.p.length ≤ 100000000
theorem HeOk.w {S : Rv} {E : List He} (h : HeOk S E) (hok : RvOk S) {S' : Rv} (hT : S'.T = S.T) (hr : S.read ≤ S'.read) : HeW S' E :=
  ⟨h.srt, fun e he => ⟨(h.pos e he).1, (h.pos e he).2.1, (hok.till h he).2.1⟩, by rw [hT]; exact h.is, by rw [hT]; exact fun x hx => h.all x (by omega), h.sz⟩
/-- The first are read, the others not. -/
theorem HeW.part {S : Rv} {E : List He} (h : HeW S E) : ∃ A D, E = A ++ D ∧ (∀ e ∈ A, e.till ≤ S.read) ∧ HeOk S D := by
  have : ∃ A D, E = A ++ D ∧ (∀ e ∈ A, e.till ≤ S.read) ∧ ∀ e ∈ D, S.read < e.till := by
    have hp := h.pos
    have hs := h.srt
    clear h
    induction E with
    | nil => exact ⟨[], [], rfl, fun e he => (by cases he), fun e he => (by cases he)⟩
    | cons s E ih =>
      cases hs with
      | cons h1 h2 =>
        by_cases c : s.till ≤ S.read
        · obtain ⟨A, D, rfl, hA, hD⟩ := ih (fun e he => hp e (List.mem_cons_of_mem _ he)) h2
          exact ⟨s :: A, D, rfl, fun e he => by rcases List.mem_cons.1 he with rfl | he; exact c; exact hA e he, hD⟩
        · refine ⟨[], s :: E, rfl, fun e he => (by cases he), fun e he => ?_⟩
          rcases List.mem_cons.1 he with rfl | he
          · omega
          · have := h1 e he
            have := (hp e (List.mem_cons_of_mem _ he)).2.1
            have : 0 < e.p.length := List.length_pos_iff.2 this
            have ht : e.till = e.off + e.p.length := rfl
            omega
  obtain ⟨A, D, rfl, hA, hD⟩ := this
  refine ⟨A, D, rfl, hA, (List.pairwise_append.1 h.srt).2.1, fun e he => ⟨(h.pos e (List.mem_append_right _ he)).1, (h.pos e (List.mem_append_right _ he)).2.1, hD e he⟩, fun e he => h.is e (List.mem_append_right _ he), fun x hx hx2 => ?_, fun e he => h.sz e (List.mem_append_right _ he)⟩
  obtain ⟨e, he, q1, q2⟩ := h.all x hx hx2
  rcases List.mem_append.1 he with he | he
  · have := hA e he; omega
  · exact ⟨e, he, q1, q2⟩
/-- The beginning of the first one goes. -/
theorem HeOk.first {S : Rv} {x : He} {D : List He} (h : HeOk S (x :: D)) (r0 : 0 ≤ S.read) (ho : x.off ≤ S.read) (g : Nat) : HeOk S (⟨S.read, x.p.drop (S.read - x.off).toNat, g⟩ :: D) := by
  have px := h.pos x (by simp)
  have ht : x.till = x.off + x.p.length := rfl
  have ed : (x.p.drop (S.read - x.off).toNat).length = x.p.length - (S.read - x.off).toNat := List.length_drop
  have et : (⟨S.read, x.p.drop (S.read - x.off).toNat, g⟩ : He).till = x.till := by show S.read + ((x.p.drop (S.read - x.off).toNat).length : Int) = _; rw [ed]; omega
  cases h.srt with
  | cons h1 h2 =>
    refine ⟨List.Pairwise.cons (fun e he => by rw [et]; exact h1 e he) h2, fun e he => ?_, fun e he i y hy => ?_, fun z hz hz2 => ?_, fun e he => ?_⟩
    · rcases List.mem_cons.1 he with rfl | he
      · refine ⟨r0, fun q => ?_, by rw [et]; exact px.2.2⟩
        have := congrArg List.length q
        rw [ed] at this
        simp at this
        omega
      · exact h.pos e (List.mem_cons_of_mem _ he)
    · rcases List.mem_cons.1 he with rfl | he
      · simp only [List.getElem?_drop] at hy
        have := h.is x (by simp) _ y hy
        rw [show x.off + (((S.read - x.off).toNat + i : Nat) : Int) = S.read + i by omega] at this
        exact this
      · exact h.is e (List.mem_cons_of_mem _ he) i y hy
    · obtain ⟨e, he, q1, q2⟩ := h.all z hz hz2
      rcases List.mem_cons.1 he with rfl | he
      · exact ⟨_, List.mem_cons_self, hz, by rw [et]; exact q2⟩
      · exact ⟨e, List.mem_cons_of_mem _ he, q1, q2⟩
    · rcases List.mem_cons.1 he with rfl | he
      · have := h.sz x (by simp); show (x.p.drop _).length ≤ _; rw [ed]; omega
      · exact h.sz e (List.mem_cons_of_mem _ he)

/-- The first of a row are cleared. -/
theorem Pq.clear_row {W : World} {g c : Nat} {pr : List Value} {A D : List Pq.Pc} {sp : List Value} (h : Pq.RowAt W g pr c (A ++ D) sp) :
    ∃ Z W', (∀ ty cc, (Builtin.clear_ #[51] ty #[.slice (some ⟨g, pr.length, none⟩) A.length cc]).run Tryz.prog W = .ok (.tuple #[]) W') ∧ Z.length = A.length * 2 ∧ Pq.RowAt W' g (pr ++ Z) (c - A.length) D sp ∧ W.grownBy W' (some g) := by
  have hg0 : W.heap[g]? = some (.cells (pr ++ (Pq.cl A ++ (Pq.cl D ++ sp))).toArray 88 (0, 0)) := by rw [h.1, Pq.cl_append]; simp
  obtain ⟨Z, hZ, hr⟩ := Pq.clear_sp W g pr.length A.length pr (Pq.cl A) (Pq.cl D ++ sp) _ hg0 rfl (Pq.cl_length A)
  have hl := h.2.1
  simp only [List.length_append] at hl
  refine ⟨Z, _, hr, hZ, ⟨?_, by omega, by have := h.2.2; omega⟩, grown_setRow W g _⟩
  rw [setRow_heap W g _ _ _ _ hg0]
  simp

section
variable {w W W' : World} {M : Nat → Prop} {b bk : Nat} {vh vh' : Value} {E E' : List He} {S : Rv}
/-- The row is another one. -/
theorem RA.setX (h : RA w M b bk vh E W S) (k : Kp M w W') (hb : Blk W' b (rvc bk vh' S) 53) (hk : ∀ {j : Nat} {cs : Array Value} {tt : TypeId}, Blk W j cs tt → tt ≠ 88 → j ≠ b → W'.heap[j]? = W.heap[j]?) (hr : Pq.Row W' vh' (E'.map pcOf)) (hp : ∀ e ∈ E', Blk W' e.g (by8 e.p) 5 ∧ (M e.g ∨ w.heap.size ≤ e.g)) (hm : ∀ g, vh'.ownBlock = some g → M g ∨ w.heap.size ≤ g) : RA w M b bk vh' E' W' S := by
  obtain ⟨va, s, m⟩ := h.set
  refine ⟨k, hb, ⟨va, setAt_kept s (hk (show Blk W bk _ _ from s.blk) (by decide) (heap_ne s.blk h.blk (by decide))) (fun g hg => ?_), m⟩, hr, hp, h.mb, h.mq, hm⟩
  have hne : g ≠ b := fun q => s.row.ne_of h.blk (by decide) (q ▸ hg)
  rcases Row.at s.row with ⟨rfl, -⟩ | ⟨g', c, sp, rfl, hR⟩
  · cases hg
  · cases hg; exact hk (show Blk W g' _ _ from hR.1) (by decide) hne
end
/-- The first of a row is written over. -/
theorem Pq.RowAt.over {W : World} {g c : Nat} {pr : List Value} {x x' : Pq.Pc} {D : List Pq.Pc} {sp : List Value} (h : Pq.RowAt W g pr c (x :: D) sp) : Pq.RowAt ((W.setCell ⟨g, pr.length, none⟩ (.int .i64 x'.off)).setCell ⟨g, pr.length + 1, none⟩ (.slice x'.a x'.n x'.c)) g pr c (x' :: D) sp := by
  have h1 : Blk W g (pr ++ (Pq.cl (x :: D) ++ sp)).toArray 88 := h.1
  have h2 := (h1.setC pr.length (.int .i64 x'.off)).setC (pr.length + 1) (.slice x'.a x'.n x'.c)
  refine ⟨?_, h.2.1, h.2.2⟩
  have e : (((pr ++ (Pq.cl (x :: D) ++ sp)).toArray.setIfInBounds pr.length (.int .i64 x'.off)).setIfInBounds (pr.length + 1) (.slice x'.a x'.n x'.c)) = (pr ++ (Pq.cl (x' :: D) ++ sp)).toArray := by
    simp [Pq.cl]
  rw [e] at h2
  exact h2
end Go.Proofs.YthihabjegpacaaaGreat
