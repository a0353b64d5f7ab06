/- T6V, T6W, T6X, T6Y, T7A, T7B, one text. -/
import Derived.Test.YthihabjegpacaaaGreatT6T
import Derived.Deep.RegionHeld3
import Derived.Test.YthihabjegpacaaaGreatT6U
namespace Go.Proofs.YthihabjegpacaaaGreat
open Go.RowKit
set_option linter.unusedVariables false
set_option linter.unusedSimpArgs false
set_option maxHeartbeats 4000000
set_option maxRecDepth 100000

/-- Those that are held, some of them may be read. -/
structure HeW (S : Rv) (E : List He) : Prop where
  srt : E.Pairwise (fun a b => a.till ≤ b.off)
  pos : ∀ e ∈ E, 0 ≤ e.off ∧ e.p ≠ [] ∧ e.till ≤ 4611686018427387903
  is : ∀ e ∈ E, ∀ (i : Nat) y, e.p[i]? = some y → S.T (e.off + i) = some y
  all : ∀ x, S.read ≤ x → (S.T x).isSome = true → ∃ e ∈ E, e.off ≤ x ∧ x < e.till
  sz : ∀ e ∈ E, e.p.length ≤ 100000000
theorem HeOk.w {S : Rv} {E : List He} (h : HeOk S E) (hok : RvOk S) {S' : Rv} (hT : S'.T = S.T) (hr : S.read ≤ S'.read) : HeW S' E :=
  ⟨h.srt, fun e he => ⟨(h.pos e he).1, (h.pos e he).2.1, (hok.till h he).2.1⟩, by rw [hT]; exact h.is, by rw [hT]; exact fun x hx => h.all x (by omega), h.sz⟩
/-- The first are read, the others not. -/
theorem HeW.part {S : Rv} {E : List He} (h : HeW S E) : ∃ A D, E = A ++ D ∧ (∀ e ∈ A, e.till ≤ S.read) ∧ HeOk S D := by
  have : ∃ A D, E = A ++ D ∧ (∀ e ∈ A, e.till ≤ S.read) ∧ ∀ e ∈ D, S.read < e.till := by
    have hp := h.pos
    have hs := h.srt
    clear h
    induction E with
    | nil => exact ⟨[], [], rfl, fun e he => (by cases he), fun e he => (by cases he)⟩
    | cons s E ih =>
      cases hs with
      | cons h1 h2 =>
        by_cases c : s.till ≤ S.read
        · obtain ⟨A, D, rfl, hA, hD⟩ := ih (fun e he => hp e (List.mem_cons_of_mem _ he)) h2
          exact ⟨s :: A, D, rfl, fun e he => by rcases List.mem_cons.1 he with rfl | he; exact c; exact hA e he, hD⟩
        · refine ⟨[], s :: E, rfl, fun e he => (by cases he), fun e he => ?_⟩
          rcases List.mem_cons.1 he with rfl | he
          · omega
          · have := h1 e he
            have := (hp e (List.mem_cons_of_mem _ he)).2.1
            have : 0 < e.p.length := List.length_pos_iff.2 this
            have ht : e.till = e.off + e.p.length := rfl
            omega
  obtain ⟨A, D, rfl, hA, hD⟩ := this
  refine ⟨A, D, rfl, hA, (List.pairwise_append.1 h.srt).2.1, fun e he => ⟨(h.pos e (List.mem_append_right _ he)).1, (h.pos e (List.mem_append_right _ he)).2.1, hD e he⟩, fun e he => h.is e (List.mem_append_right _ he), fun x hx hx2 => ?_, fun e he => h.sz e (List.mem_append_right _ he)⟩
  obtain ⟨e, he, q1, q2⟩ := h.all x hx hx2
  rcases List.mem_append.1 he with he | he
  · have := hA e he; omega
  · exact ⟨e, he, q1, q2⟩
/-- The beginning of the first one goes. -/
theorem HeOk.first {S : Rv} {x : He} {D : List He} (h : HeOk S (x :: D)) (r0 : 0 ≤ S.read) (ho : x.off ≤ S.read) (g : Nat) : HeOk S (⟨S.read, x.p.drop (S.read - x.off).toNat, g⟩ :: D) := by
  have px := h.pos x (by simp)
  have ht : x.till = x.off + x.p.length := rfl
  have ed : (x.p.drop (S.read - x.off).toNat).length = x.p.length - (S.read - x.off).toNat := List.length_drop
  have et : (⟨S.read, x.p.drop (S.read - x.off).toNat, g⟩ : He).till = x.till := by show S.read + ((x.p.drop (S.read - x.off).toNat).length : Int) = _; rw [ed]; omega
  cases h.srt with
  | cons h1 h2 =>
    refine ⟨List.Pairwise.cons (fun e he => by rw [et]; exact h1 e he) h2, fun e he => ?_, fun e he i y hy => ?_, fun z hz hz2 => ?_, fun e he => ?_⟩
    · rcases List.mem_cons.1 he with rfl | he
      · refine ⟨r0, fun q => ?_, by rw [et]; exact px.2.2⟩
        have := congrArg List.length q
        rw [ed] at this
        simp at this
        omega
      · exact h.pos e (List.mem_cons_of_mem _ he)
    · rcases List.mem_cons.1 he with rfl | he
      · simp only [List.getElem?_drop] at hy
        have := h.is x (by simp) _ y hy
        rw [show x.off + (((S.read - x.off).toNat + i : Nat) : Int) = S.read + i by omega] at this
        exact this
      · exact h.is e (List.mem_cons_of_mem _ he) i y hy
    · obtain ⟨e, he, q1, q2⟩ := h.all z hz hz2
      rcases List.mem_cons.1 he with rfl | he
      · exact ⟨_, List.mem_cons_self, hz, by rw [et]; exact q2⟩
      · exact ⟨e, List.mem_cons_of_mem _ he, q1, q2⟩
    · rcases List.mem_cons.1 he with rfl | he
      · have := h.sz x (by simp); show (x.p.drop _).length ≤ _; rw [ed]; omega
      · exact h.sz e (List.mem_cons_of_mem _ he)

/-- The first of a row are cleared. -/
theorem Pq.clear_row {W : World} {g c : Nat} {pr : List Value} {A D : List Pq.Pc} {sp : List Value} (h : Pq.RowAt W g pr c (A ++ D) sp) :
    ∃ Z W', (∀ ty cc, (Builtin.clear_ #[51] ty #[.slice (some ⟨g, pr.length, none⟩) A.length cc]).run Tryz.prog W = .ok (.tuple #[]) W') ∧ Z.length = A.length * 2 ∧ Pq.RowAt W' g (pr ++ Z) (c - A.length) D sp ∧ W.grownBy W' (some g) := by
  have hg0 : W.heap[g]? = some (.cells (pr ++ (Pq.cl A ++ (Pq.cl D ++ sp))).toArray 88 (0, 0)) := by rw [h.1, Pq.cl_append]; simp
  obtain ⟨Z, hZ, hr⟩ := Pq.clear_sp W g pr.length A.length pr (Pq.cl A) (Pq.cl D ++ sp) _ hg0 rfl (Pq.cl_length A)
  have hl := h.2.1
  simp only [List.length_append] at hl
  refine ⟨Z, _, hr, hZ, ⟨?_, by omega, by have := h.2.2; omega⟩, grown_setRow W g _⟩
  rw [setRow_heap W g _ _ _ _ hg0]
  simp

section
variable {w W W' : World} {M : Nat → Prop} {b bk : Nat} {vh vh' : Value} {E E' : List He} {S : Rv}
/-- The row is another one. -/
theorem RA.setX (h : RA w M b bk vh E W S) (k : Kp M w W') (hb : Blk W' b (rvc bk vh' S) 53) (hk : ∀ {j : Nat} {cs : Array Value} {tt : TypeId}, Blk W j cs tt → tt ≠ 88 → j ≠ b → W'.heap[j]? = W.heap[j]?) (hr : Pq.Row W' vh' (E'.map pcOf)) (hp : ∀ e ∈ E', Blk W' e.g (by8 e.p) 5 ∧ (M e.g ∨ w.heap.size ≤ e.g)) (hm : ∀ g, vh'.ownBlock = some g → M g ∨ w.heap.size ≤ g) : RA w M b bk vh' E' W' S := by
  obtain ⟨va, s, m⟩ := h.set
  refine ⟨k, hb, ⟨va, setAt_kept s (hk (show Blk W bk _ _ from s.blk) (by decide) (heap_ne s.blk h.blk (by decide))) (fun g hg => ?_), m⟩, hr, hp, h.mb, h.mq, hm⟩
  have hne : g ≠ b := fun q => s.row.ne_of h.blk (by decide) (q ▸ hg)
  rcases Row.at s.row with ⟨rfl, -⟩ | ⟨g', c, sp, rfl, hR⟩
  · cases hg
  · cases hg; exact hk (show Blk W g' _ _ from hR.1) (by decide) hne
end
/-- The first of a row is written over. -/
theorem Pq.RowAt.over {W : World} {g c : Nat} {pr : List Value} {x x' : Pq.Pc} {D : List Pq.Pc} {sp : List Value} (h : Pq.RowAt W g pr c (x :: D) sp) : Pq.RowAt ((W.setCell ⟨g, pr.length, none⟩ (.int .i64 x'.off)).setCell ⟨g, pr.length + 1, none⟩ (.slice x'.a x'.n x'.c)) g pr c (x' :: D) sp := by
  have h1 : Blk W g (pr ++ (Pq.cl (x :: D) ++ sp)).toArray 88 := h.1
  have h2 := (h1.setC pr.length (.int .i64 x'.off)).setC (pr.length + 1) (.slice x'.a x'.n x'.c)
  refine ⟨?_, h.2.1, h.2.2⟩
  have e : (((pr ++ (Pq.cl (x :: D) ++ sp)).toArray.setIfInBounds pr.length (.int .i64 x'.off)).setIfInBounds (pr.length + 1) (.slice x'.a x'.n x'.c)) = (pr ++ (Pq.cl (x' :: D) ++ sp)).toArray := by
    simp [Pq.cl]
  rw [e] at h2
  exact h2
end Go.Proofs.YthihabjegpacaaaGreat

namespace Go.Proofs.YthihabjegpacaaaGreat
open Go.RowKit
set_option linter.unusedVariables false
set_option linter.unusedSimpArgs false
set_option maxHeartbeats 8000000
set_option maxRecDepth 100000

section
variable {w W : World} {M : Nat → Prop} {b bk : Nat} {vh : Value} {E : List He} {S : Rv}
/-- What release leaves. -/
def RelP (w : World) (M : Nat → Prop) (b bk : Nat) (E : List He) (S : Rv) (W' : World) : Prop := ∃ vh' E', RA w M b bk vh' E' W' S ∧ HeOk S E' ∧ E'.length ≤ E.length

/-- How many go: the loop. -/
structure RL (W : World) (S : Rv) (A D : List He) (k : Nat) (X : World) : Prop where
  le : k ≤ A.length
  gr : W.grownBy X none

theorem release_nil (h : RA w M b bk (.slice none 0 0) [] W S) (hW : HeW S []) : Calls Tryz.prog 32 #[ptr b] W fun e W' => e = .returned (.tuple #[]) ∧ RelP w M b bk [] S W' := by
  obtain ⟨-, c1, -, -, -, c5, -, -⟩ := h.cells
  have t5 := h.blk.thaw 5
  have hcl := fun ty => Pq.clear_zero W ty none 0 0 rfl
  have hok : HeOk S [] := ⟨List.Pairwise.nil, fun e he => (by cases he), fun e he => (by cases he), hW.all, fun e he => (by cases he)⟩
  have h1 := h.put (S' := S) 5 (.slice none 0 0) rfl rfl
  have F : Hid (RelP w M b bk [] S ((W.setCell ⟨b, 5, none⟩ (.slice none 0 0)).setCell ⟨b, 5, none⟩ (.slice none 0 0))) := ⟨_, [], h1.put (S' := S) 5 (.slice none 0 0) rfl rfl, hok, Nat.le_refl _⟩
  have F2 : Hid (∀ q, RelP w M b bk [] S (((W.drewN q).setCell ⟨b, 5, none⟩ (.slice none 0 0)).setCell ⟨b, 5, none⟩ (.slice none 0 0))) := fun q => by
    have g : W.grownBy (W.drewN q) none := grown_drewN _ _
    have hq := h.grown g
    exact ⟨_, [], (hq.put (S' := S) 5 (.slice none 0 0) rfl rfl).put (S' := S) 5 (.slice none 0 0) rfl rfl, hok, Nat.le_refl _⟩
  have h15 := h1.cells.2.2.2.2.2.1
  have H15 := hide h15
  have t5' := h1.blk.thaw 5
  clear h hW h1 hok
  go_enter Tryz.func32, Tryz.ntmps32
  go_wp2_with fail
  go_loopw [2] (fun nv X => nv = .int .i64 0 ∧ X = W) (fun _ _ => 0)
  case atStart => exact ⟨rfl, rfl⟩
  case round =>
    obtain ⟨rfl, hX⟩ := hrel
    subst hX
    go_upto_region 1 with fail
    go_quiet (fail)
    rename_i nq
    have hcl2 := fun ty => Pq.clear_zero (wr.drewN nq) ty none 0 0 rfl
    have c5q : (wr.drewN nq).cell? ⟨b, 5, none⟩ = some (.slice none 0 0) := c5
    have t5q : (wr.drewN nq).frozen? ⟨b, 5, none⟩ = false := t5
    go_wp2_with (at_builtin; refine wpList_clear_run _ rfl _ 51 rfl _ rfl (hcl2 _) ?_)
    all_goals refine bodyPost_ret (results_none rfl _ _ _) rfl ?_
    all_goals exact ⟨rfl, unhide F2 nq⟩

set_option maxHeartbeats 16000000 in
theorem release_some {g : Nat} {pr : List Value} {c : Nat} {sp : List Value} (h : RA w M b bk (.slice (some ⟨g, pr.length, none⟩) E.length c) E W S) (hR : Pq.RowAt W g pr c (E.map pcOf) sp) (hW : HeW S E) (nE : E.length ≤ 100000000) (r0 : 0 ≤ S.read ∧ S.read ≤ 4611686018427387903) :
    Calls Tryz.prog 32 #[ptr b] W fun e W' => e = .returned (.tuple #[]) ∧ RelP w M b bk E S W' := by
  obtain ⟨A, D, hED, hA, hD⟩ := hW.part
  obtain ⟨-, c1, -, -, -, c5, -, -⟩ := h.cells
  have hcells : ∀ i x, E[i]? = some x → W.cell? ⟨g, pr.length + i * 2, none⟩ = some (.int .i64 x.off) ∧ W.cell? ⟨g, pr.length + i * 2 + 1, none⟩ = some (.slice (some ⟨x.g, 0, none⟩) x.p.length x.p.length) := fun i x hx => by
    have hx' : (E.map pcOf)[i]? = some (pcOf x) := by rw [List.getElem?_map, hx]; rfl
    exact ⟨hR.cell _ _ (Pq.cl_off _ i _ hx'), by rw [Nat.add_assoc]; exact hR.cell _ _ (Pq.cl_data _ i _ hx')⟩
  have lE : E.length = A.length + D.length := by rw [hED]; simp
  have lc : E.length ≤ c ∧ c ≤ 9223372036854775807 := by have := hR.2.1; have := hR.2.2; rw [List.length_map] at *; unfold maxLen at *; omega
  obtain ⟨len, hlen⟩ : ∃ len, len = E.length := ⟨_, rfl⟩
  obtain ⟨na, hna⟩ : ∃ na, na = A.length := ⟨_, rfl⟩
  obtain ⟨q, hq⟩ : ∃ q, q = pr.length := ⟨_, rfl⟩
  rw [← hlen, ← hq] at c5
  have LL := hide (And.intro hlen (And.intro hna hq))
  have H := hide h
  have HR := hide hR
  have HW := hide hW
  have HC := hide hcells
  have PT := hide (And.intro hED (And.intro hA hD))
  have b0 : (na : Int) ≤ (len : Int) := by omega
  have b1 : (len : Int) ≤ (c : Int) := by omega
  have b2 : (na : Int) ≤ (c : Int) := by omega
  have b3 : (len : Int) ≤ 100000000 := by omega
  have C1 := hide c1
  have C5 := hide c5
  clear h hR hW hcells hED hA hD hlen hna hq lE nE
  -- what follows the loop
  have AFT : Hid (∀ X, W.grownBy X none → ∃ Z W', (∀ ty cc, (Builtin.clear_ #[51] ty #[.slice (some ⟨g, q, none⟩) na cc]).run Tryz.prog X = .ok (.tuple #[]) W') ∧ Z.length = na * 2 ∧ Pq.RowAt W' g (pr ++ Z) (c - na) (D.map pcOf) sp ∧ X.grownBy W' (some g) ∧ (RA w M b bk (.slice (some ⟨g, pr.length, none⟩) E.length c) E X S) ∧ (∀ {j : Nat} {cs : Array Value} {tt : TypeId}, Blk X j cs tt → tt ≠ 88 → W'.heap[j]? = X.heap[j]?) ∧ Kp M w W') := fun X gX => by
    have hX := (unhide H).grown gX
    have hRX : Pq.RowAt X g pr c (A.map pcOf ++ D.map pcOf) sp := by
      have hb : Blk W g _ _ := (unhide HR).1
      refine ⟨?_, ?_, (unhide HR).2.2⟩
      · have := hb.grown gX; rw [(unhide PT).1, List.map_append] at this; exact this
      · have := (unhide HR).2.1; rw [(unhide PT).1, List.map_append] at this; exact this
    obtain ⟨Z, W', k1, k2, k3, k4⟩ := Pq.clear_row hRX
    rw [List.length_map, ← (unhide LL).2.1] at k1 k2 k3
    rw [← (unhide LL).2.2] at k1
    have kb : ∀ {j : Nat} {cs : Array Value} {tt : TypeId}, Blk X j cs tt → tt ≠ 88 → W'.heap[j]? = X.heap[j]? := fun {j cs tt} hb ht => k4.block j hb.lt (fun e => by injection e with e; exact heap_ne (show X.heap[j]? = some (.cells cs tt (0, 0)) from hb) hRX.1 ht e)
    refine ⟨Z, W', k1, k2, k3, k4, hX, kb, hX.kp.then (S' := fun k => k = g) (Kp.grownS k4 rfl) (fun k hk e => ?_)⟩
    subst e
    exact (hX.mh k rfl).resolve_right (by omega)
  go_enter Tryz.func32, Tryz.ntmps32
  go_wp2_with fail
  go_loopw [2] (fun nv X => ∃ k : Nat, k ≤ na ∧ nv = .int .i64 k ∧ Hid (W.grownBy X none)) (fun nv _ => na - (intOf nv).toNat)
  case atStart => exact ⟨0, Nat.zero_le _, rfl, grown_self _ _⟩
  case round =>
    obtain ⟨k, hk, rfl, I⟩ := hrel
    obtain ⟨X, hX⟩ : ∃ X, X = wr := ⟨_, rfl⟩
    subst hX
    have gX := unhide I
    have x1 := cell_grown (unhide C1) gX
    have x5 := cell_grown (unhide C5) gX
    have ll := unhide LL
    by_cases hlt : k < len
    · have hkE : k < E.length := by rw [← ll.1]; exact hlt
      obtain ⟨x, hx⟩ : ∃ x, E[k]? = some x := ⟨_, List.getElem?_eq_getElem hkE⟩
      have hxm := List.mem_of_getElem? hx
      have hc := unhide HC k x hx
      rw [← ll.2.2] at hc
      have y0 := cell_grown hc.1 gX
      have y1 := cell_grown hc.2 gX
      have hkn : (k : Int) < (len : Int) := by omega
      have px := (unhide HW).pos x hxm
      have htx : x.till = x.off + x.p.length := rfl
      have hend := fun Z => end_any x.off (some ⟨x.g, 0, none⟩) x.p.length x.p.length Z (by omega)
      rw [← htx] at hend
      have KP : Hid (∀ Z, X.grownBy Z none → W.grownBy Z none ∧ Z.cell? ⟨b, 5, none⟩ = some (.slice (some ⟨g, q, none⟩) len c) ∧ Z.cell? ⟨b, 1, none⟩ = some (.int .i64 S.read) ∧ Z.cell? ⟨g, q + k * 2, none⟩ = some (.int .i64 x.off) ∧ Z.cell? ⟨g, q + k * 2 + 1, none⟩ = some (.slice (some ⟨x.g, 0, none⟩) x.p.length x.p.length)) := fun Z gz => ⟨grown_trans gX gz, cell_grown x5 gz, cell_grown x1 gz, cell_grown y0 gz, cell_grown y1 gz⟩
      have KA : Hid (k < na → x.till ≤ S.read) := fun hl => by
        have : x ∈ A := by
          have := hx
          rw [(unhide PT).1, List.getElem?_append_left (by omega)] at this
          exact List.mem_of_getElem? this
        exact (unhide PT).2.1 x this
      have KD : Hid (k = na → S.read < x.till) := fun hl => by
        have : x ∈ D := by
          have := hx
          rw [(unhide PT).1, List.getElem?_append_right (by omega)] at this
          exact List.mem_of_getElem? this
        exact ((unhide PT).2.2.pos x this).2.2
      have k1 : IntKind.i64.wrap ((k : Int) + 1) = ((k + 1 : Nat) : Int) := by rw [IntKind.wrap_i64]; omega
      have hx2 := hide hx
      clear hc hxm hx hkE htx px
      have HK := hide hk
      by_cases hka : k < na
      · have d := unhide KA hka
        have HKA := hide hka
        clear KA KD hka hk hlt ll AFT
        generalize x.till = xt at *
        go_upto_region 1 with fail
        go_region_held3 (fun Z => Z.cell? ⟨b, 5, none⟩ = some (.slice (some ⟨g, q, none⟩) len c) ∧ Z.cell? ⟨b, 1, none⟩ = some (.int .i64 S.read) ∧ Z.cell? ⟨g, q + k * 2, none⟩ = some (.int .i64 x.off) ∧ Z.cell? ⟨g, q + k * 2 + 1, none⟩ = some (.slice (some ⟨x.g, 0, none⟩) x.p.length x.p.length)) (go_keep) (first | (go_at_call 52; refine (hend _).mono ?_; rintro e Z ⟨rfl, gz⟩; obtain ⟨G3, v0, v1, v2, v3⟩ := unhide KP Z ⟨gz.os, gz.tape, gz.output, gz.size, gz.block⟩))
        go_wp2_with fail
        all_goals exact ⟨⟨k + 1, unhide HKA, by go_num, G3⟩, by simp [intOf]; have := unhide HKA; omega⟩
      · have hke : k = na := by omega
        have d := unhide KD hke
        have HKE := hide hke
        have dn : ¬ x.till ≤ S.read := by omega
        clear KA KD hka hk hlt ll hke
        have AF := AFT
        clear AFT
        generalize x.till = xt at *
        go_upto_region 1 with fail
        go_region_held3 (fun Z => Z.cell? ⟨b, 5, none⟩ = some (.slice (some ⟨g, q, none⟩) len c) ∧ Z.cell? ⟨b, 1, none⟩ = some (.int .i64 S.read) ∧ Z.cell? ⟨g, q + k * 2, none⟩ = some (.int .i64 x.off) ∧ Z.cell? ⟨g, q + k * 2 + 1, none⟩ = some (.slice (some ⟨x.g, 0, none⟩) x.p.length x.p.length)) (go_keep) (first | (go_at_call 52; refine (hend _).mono ?_; rintro e Z ⟨rfl, gz⟩; obtain ⟨G3, v0, v1, v2, v3⟩ := unhide KP Z ⟨gz.os, gz.tape, gz.output, gz.size, gz.block⟩))
        go_upto_region 3 with fail
        obtain ⟨ZZ, W', hcl, lZ, hrow, g4, hXr, kb, kz⟩ := unhide AF Z G3
        have hke := unhide HKE
        rw [← hke] at hcl lZ hrow
        have ll := unhide LL
        have lt1 : k < len := by omega
        have hDne : D ≠ [] := fun q => by have := (unhide PT).1; rw [q, List.append_nil] at this; have := congrArg List.length this; omega
        obtain ⟨x2, D2, eD⟩ : ∃ x D', D = x :: D' := by
          cases hd : D with
          | nil => exact absurd hd hDne
          | cons x D' => exact ⟨x, D', rfl⟩
        have hxx : x2 = x := by
          have h1 := unhide hx2
          rw [(unhide PT).1, List.getElem?_append_right (by omega), show k - A.length = 0 by omega, eD] at h1
          simpa using h1
        subst hxx
        have lpz : (pr ++ ZZ).length = q + k * 2 := by rw [List.length_append, lZ, ll.2.2]
        have bW' : Blk W' b (rvc bk (.slice (some ⟨g, pr.length, none⟩) E.length c) S) 53 := (kb hXr.blk (by decide)).trans hXr.blk
        obtain ⟨W5, hW5⟩ : ∃ W5, W5 = W'.setCell ⟨b, 5, none⟩ (.slice (some ⟨g, q + k * 2, none⟩) (len - k) (c - k)) := ⟨_, rfl⟩
        have o : ∀ {j : Nat}, j ≠ b → W5.heap[j]? = W'.heap[j]? := fun hj => by rw [hW5]; exact set_heap _ _ _ _ _ hj
        have bW5 : Blk W5 b (rvc bk (.slice (some ⟨g, q + k * 2, none⟩) (len - k) (c - k)) S) 53 := by rw [hW5]; have := bW'.setC 5 (.slice (some ⟨g, q + k * 2, none⟩) (len - k) (c - k)); exact this
        have gb : g ≠ b := fun e => by
          have h1 := hrow.1
          rw [e] at h1
          have h2 : W'.heap[b]? = some (.cells _ 53 (0, 0)) := bW'
          rw [h1] at h2
          injection h2 with h2
          injection h2 with _ h2
          exact absurd h2 (by decide)
        have row5 : Pq.RowAt W5 g (pr ++ ZZ) (c - k) (D.map pcOf) sp := ⟨(o gb).trans hrow.1, hrow.2⟩
        have lD : D.length = len - k := by
          have := congrArg List.length (unhide PT).1
          rw [List.length_append] at this
          omega
        have R5 : RA w M b bk (.slice (some ⟨g, q + k * 2, none⟩) (len - k) (c - k)) D W5 S := by
          refine hXr.setX (by rw [hW5]; exact kz.set b 5 _ (or_lt hXr.mb)) bW5 (fun {j cs tt} hb ht hj => (o hj).trans (kb hb ht)) (.inr ⟨g, pr ++ ZZ, c - k, sp, by rw [lpz, List.length_map, lD], row5⟩) (fun e he => ?_) (fun gg e => hXr.mh gg e)
          have he' : e ∈ E := by rw [(unhide PT).1]; exact List.mem_append_right _ he
          have pe := hXr.pcs e he'
          exact ⟨((o (heap_ne pe.1 hXr.blk (by decide))).trans (kb pe.1 (by decide))).trans pe.1, pe.2⟩
        have F1 : Hid (∀ nq, RelP w M b bk E S (W5.drewN nq)) := fun nq => ⟨_, D, R5.grown (grown_drewN _ _), (unhide PT).2.2, by omega⟩
        have f0 : W5.cell? ⟨g, q + k * 2, none⟩ = some (.int .i64 x2.off) := by
          have := row5.cell 0 _ (Pq.cl_off (D.map pcOf) 0 (pcOf x2) (by rw [eD]; rfl))
          rw [lpz] at this; exact this
        have f1 : W5.cell? ⟨g, q + k * 2 + 1, none⟩ = some (.slice (some ⟨x2.g, 0, none⟩) x2.p.length x2.p.length) := by
          have := row5.cell 1 _ (Pq.cl_data (D.map pcOf) 0 (pcOf x2) (by rw [eD]; rfl))
          rw [lpz] at this; exact this
        have f5 : W5.cell? ⟨b, 5, none⟩ = some (.slice (some ⟨g, q + k * 2, none⟩) (len - k) (c - k)) := bW5.cell 5 _ rfl
        have fr : W5.cell? ⟨b, 1, none⟩ = some (.int .i64 S.read) := bW5.cell 1 _ rfl
        have e5 : W'.cell? ⟨b, 5, none⟩ = some (.slice (some ⟨g, q, none⟩) len c) := by rw [ll.2.2, ll.1]; exact bW'.cell 5 _ rfl
        have t5 := bW'.thaw 5
        have px2 := (unhide HW).pos x2 (by rw [(unhide PT).1, eD]; simp)
        have htx2 : x2.till = x2.off + x2.p.length := rfl
        have plen : 0 < x2.p.length := List.length_pos_iff.2 px2.2.1
        have q1 : (k : Int) ≤ (len : Int) := by omega
        have q2 : (k : Int) ≤ (c : Int) := by omega
        have q3 : ¬ (c = k) := by omega
        have q4 : ¬ (((len - k : Nat) : Int) = 0) := by omega
        have q5 : (0 : Int) < ((len - k : Nat) : Int) := by omega
        have wg : IntKind.i64.wrap (S.read - x2.off) = S.read - x2.off := by rw [IntKind.wrap_i64]; omega
        have wg2 : IntKind.i64.wrap (2 * (S.read - x2.off)) = 2 * (S.read - x2.off) := by rw [IntKind.wrap_i64]; omega
        have KEEP := hide (And.intro R5 (And.intro row5 (And.intro lpz (And.intro eD (And.intro plen (And.intro px2 (And.intro lD hke)))))))
        have HB5 := hide bW5
        clear hke hrow g4 hXr kb kz lt1 hDne lZ bW' o bW5 gb row5 lD R5 px2 htx2 plen ll AF hend KP v0 v1 v2 v3 d dn eD lpz
        go_wp2_with (at_builtin; refine wpList_clear_run _ rfl _ 51 rfl _ rfl (hcl _ _) ?_)
        rw [← hW5]
        replace hW5 := hide hW5
        clear hcl e5 t5
        go_quiet (fail)
        rename_i nq
        have u0 : (W5.drewN nq).cell? ⟨g, q + k * 2, none⟩ = some (.int .i64 x2.off) := f0
        have u1 : (W5.drewN nq).cell? ⟨g, q + k * 2 + 1, none⟩ = some (.slice (some ⟨x2.g, 0, none⟩) x2.p.length x2.p.length) := f1
        have ur : (W5.drewN nq).cell? ⟨b, 1, none⟩ = some (.int .i64 S.read) := fr
        clear f0 f1 f5 fr
        obtain ⟨W6, hW6⟩ : ∃ W6, W6 = W5.drewN nq := ⟨_, rfl⟩
        have FN := unhide F1 nq
        have K6 : Hid (RA w M b bk (.slice (some ⟨g, q + k * 2, none⟩) (len - k) (c - k)) D W6 S ∧ Pq.RowAt W6 g (pr ++ ZZ) (c - k) (D.map pcOf) sp ∧ Blk W6 b (rvc bk (.slice (some ⟨g, q + k * 2, none⟩) (len - k) (c - k)) S) 53) := by
          have k5 := unhide KEEP
          rw [hW6]
          exact ⟨k5.1.grown (grown_drewN _ _), k5.2.1, unhide HB5⟩
        rw [← hW6] at u0 u1 ur FN ⊢
        replace hW6 := hide hW6
        have FN := hide FN
        by_cases hgo : (x2.p.length : Int) ≤ 2 * (S.read - x2.off)
        · obtain ⟨-, -, lpz, eD, plen, px2, lD, hke⟩ := unhide KEEP
          obtain ⟨gn, hgn⟩ : ∃ gn : Nat, (gn : Int) = S.read - x2.off := ⟨(S.read - x2.off).toNat, by omega⟩
          have hD0 := ((unhide PT).2.2.pos x2 (by rw [eD]; simp)).2.2
          have htx2 : x2.till = x2.off + x2.p.length := rfl
          have gl : gn < x2.p.length := by omega
          have hrx : S.read - x2.off = (gn : Int) := hgn.symm
          have hsz := (unhide PT).2.2.sz x2 (by rw [eD]; simp)
          have pg := ((unhide K6).1.pcs x2 (by rw [eD]; simp)).1
          have hown := own_any W6.drew ⟨x2.g, gn, none⟩ (x2.p.length - gn) (x2.p.length - gn) (x2.p.drop gn) (fun jj y hj => by
            rw [List.getElem?_drop] at hj
            rw [Addr.add_lit]
            exact pg.cell (gn + jj) _ (by8_get _ _ _ hj)) List.length_drop (by omega) (fun _ _ => pg.lt)
          have z1 : (gn : Int) ≤ (x2.p.length : Int) := by omega
          have z2 : ¬ (x2.p.length = gn) := by omega
          have tg : ∀ Y, W6.grownBy Y none → Pq.RowAt Y g (pr ++ ZZ) (c - k) (D.map pcOf) sp ∧ Y.frozen? ⟨g, q + k * 2, none⟩ = false ∧ Y.frozen? ⟨g, q + k * 2 + 1, none⟩ = false ∧ Y.cell? ⟨b, 1, none⟩ = some (.int .i64 S.read) ∧ Y.cell? ⟨g, q + k * 2, none⟩ = some (.int .i64 x2.off) ∧ Y.cell? ⟨g, q + k * 2 + 1, none⟩ = some (.slice (some ⟨x2.g, 0, none⟩) x2.p.length x2.p.length) := fun Y gy => by
            have hb : Blk W6 g _ _ := (unhide K6).2.1.1
            have hb2 := hb.grown gy
            exact ⟨⟨hb2, (unhide K6).2.1.2⟩, hb2.thaw _, hb2.thaw _, cell_grown ur gy, cell_grown u0 gy, cell_grown u1 gy⟩
          have FIN : Hid (∀ Y gN, W6.drew.grownBy Y none → gN = W6.heap.size → Blk Y gN (by8 (x2.p.drop gn)) 5 → RelP w M b bk E S ((Y.setCell ⟨g, q + k * 2, none⟩ (.int .i64 S.read)).setCell ⟨g, q + k * 2 + 1, none⟩ (.slice (some ⟨gN, 0, none⟩) (x2.p.length - gn) (x2.p.length - gn))) ∧ ((Y.setCell ⟨g, q + k * 2, none⟩ (.int .i64 S.read)).setCell ⟨g, q + k * 2 + 1, none⟩ (.slice (some ⟨gN, 0, none⟩) (x2.p.length - gn) (x2.p.length - gn))).cell? ⟨b, 1, none⟩ = some (.int .i64 S.read)) := fun Y gN gy' hgN bN => by
            have gy : W6.grownBy Y none := ⟨gy'.os, gy'.tape, gy'.output, gy'.size, gy'.block⟩
            have rY := (unhide K6).1.grown gy
            obtain ⟨rw', -⟩ := tg Y gy
            have hgb : g ≠ b := heap_ne rw'.1 rY.blk (by decide)
            have eo : (S.read - x2.off).toNat = gn := by omega
            have ed : (x2.p.drop gn).length = x2.p.length - gn := List.length_drop
            rw [eD, List.map_cons] at rw'
            have ov := rw'.over (x' := pcOf ⟨S.read, x2.p.drop gn, gN⟩)
            rw [lpz] at ov
            simp only [ed] at ov
            have o2 : ∀ {j : Nat}, j ≠ g → ((Y.setCell ⟨g, q + k * 2, none⟩ (.int .i64 S.read)).setCell ⟨g, q + k * 2 + 1, none⟩ (.slice (some ⟨gN, 0, none⟩) (x2.p.length - gn) (x2.p.length - gn))).heap[j]? = Y.heap[j]? := fun hj => (set_heap _ _ _ _ _ hj).trans (set_heap _ _ _ _ _ hj)
            have mg := rY.mh g rfl
            have bY : Blk ((Y.setCell ⟨g, q + k * 2, none⟩ (.int .i64 S.read)).setCell ⟨g, q + k * 2 + 1, none⟩ (.slice (some ⟨gN, 0, none⟩) (x2.p.length - gn) (x2.p.length - gn))) b (rvc bk (.slice (some ⟨g, q + k * 2, none⟩) (len - k) (c - k)) S) 53 := (o2 hgb.symm).trans rY.blk
            refine ⟨⟨_, ⟨S.read, x2.p.drop gn, gN⟩ :: D2, rY.setX ((rY.kp.set g (q + k * 2) _ (or_lt mg)).set g (q + k * 2 + 1) _ (or_lt mg)) bY (fun {j cs tt} hb ht hj => o2 (fun e => ht (by
              have h1 := rw'.1
              have h2 : Y.heap[j]? = some (.cells cs tt (0, 0)) := hb
              rw [e, h1] at h2
              injection h2 with h2
              injection h2 with _ h2
              exact h2.symm))) (.inr ⟨g, pr ++ ZZ, c - k, sp, by rw [lpz]; congr 1; rw [List.length_map, List.length_cons]; have := congrArg List.length eD; rw [List.length_cons] at this; omega, by rw [List.map_cons]; exact ov⟩) (fun e he => ?_) (fun gg e => rY.mh gg e), ?_, ?_⟩, bY.cell 1 _ rfl⟩
            · rcases List.mem_cons.1 he with rfl | he
              · refine ⟨(o2 (heap_ne bN rw'.1 (by decide))).trans bN, .inr ?_⟩
                show w.heap.size ≤ gN
                rw [hgN]
                exact (unhide K6).1.kp.size
              · have pe := rY.pcs e (by rw [eD]; exact List.mem_cons_of_mem _ he)
                exact ⟨(o2 (heap_ne pe.1 rw'.1 (by decide))).trans pe.1, pe.2⟩
            · have := (unhide PT).2.2
              rw [eD] at this
              have := this.first r0.1 (by omega) gN
              rw [eo] at this
              exact this
            · have := congrArg List.length eD
              have := congrArg List.length (unhide PT).1
              simp only [List.length_append, List.length_cons] at *
              omega
          obtain ⟨-, tf0, tf1, -, -, -⟩ := tg W6.drew (grown_drew' (grown_self _ _))
          have TG := hide tg
          clear tg pg hke lD lpz eD hD0 htx2 px2 plen hsz
          rw [hrx] at wg wg2 hgo
          have HRX := hide hrx
          generalize x2.p.length = xl at *
          generalize x2.off = xo at *
          rw [unhide HRX]
          clear hrx hgn
          go_upto_region 10 with fail
          refine wp_region_held_drew (S := fun Z => Z.cell? ⟨b, 1, none⟩ = some (.int .i64 S.read)) (by kernel_rfl) ur (fun hHeld => ?_)
          refine wpAnyH_take (i := 0) (v := ?_) rfl (by as_aux_lemma => kernel_rfl) (by as_aux_lemma => kernel_rfl) (by as_aux_lemma => kernel_rfl) (fun _ _ _ h => h) (Or.inl ⟨by rfl, ?_⟩) (by assumption) ?_
          rotate_left
          · intro wH hSw
            try dsimp only at hSw
            go_simp
            try with_reducible rfl
          try simp only [Act.put, List.setIfInBounds_toArray, List.set_cons_zero, List.set_cons_succ]
          refine wpAnyH_take (i := 1) (v := ?_) rfl (by as_aux_lemma => kernel_rfl) (by as_aux_lemma => kernel_rfl) (by as_aux_lemma => kernel_rfl) (fun _ _ _ h => h) (Or.inl ⟨by rfl, ?_⟩) (by assumption) ?_
          rotate_left
          · intro wH hSw
            try dsimp only at hSw
            go_simp
            try with_reducible rfl
          try simp only [Act.put, List.setIfInBounds_toArray, List.set_cons_zero, List.set_cons_succ]
          refine wpAnyH_take (i := 2) (v := ?_) rfl (by as_aux_lemma => kernel_rfl) (by as_aux_lemma => kernel_rfl) (by as_aux_lemma => kernel_rfl) (fun _ _ _ h => h) (Or.inl ⟨by rfl, ?_⟩) (by assumption) ?_
          rotate_left
          · intro wH hSw
            try dsimp only at hSw
            go_simp
            try with_reducible rfl
          try simp only [Act.put, List.setIfInBounds_toArray, List.set_cons_zero, List.set_cons_succ]
          refine wpAnyH_take (i := 3) (v := ?_) rfl (by as_aux_lemma => kernel_rfl) (by as_aux_lemma => kernel_rfl) (by as_aux_lemma => kernel_rfl) (fun _ _ _ h => h) (Or.inl ⟨by rfl, ?_⟩) (by assumption) ?_
          rotate_left
          · intro wH hSw
            try dsimp only at hSw
            go_simp
            try with_reducible rfl
          try simp only [Act.put, List.setIfInBounds_toArray, List.set_cons_zero, List.set_cons_succ]
          refine wpAnyH_take (i := 4) (v := ?_) rfl (by as_aux_lemma => kernel_rfl) (by as_aux_lemma => kernel_rfl) (by as_aux_lemma => kernel_rfl) (fun _ _ _ h => h) (Or.inl ⟨by rfl, ?_⟩) (by assumption) ?_
          rotate_left
          · intro wH hSw
            try dsimp only at hSw
            go_simp
            try with_reducible rfl
          try simp only [Act.put, List.setIfInBounds_toArray, List.set_cons_zero, List.set_cons_succ]
          refine wpAnyH_take (i := 5) (v := ?_) rfl (by as_aux_lemma => kernel_rfl) (by as_aux_lemma => kernel_rfl) (by as_aux_lemma => kernel_rfl) (fun _ _ _ h => h) (Or.inl ⟨by rfl, ?_⟩) (by assumption) ?_
          rotate_left
          · intro wH hSw
            try dsimp only at hSw
            go_simp
            try with_reducible rfl
          try simp only [Act.put, List.setIfInBounds_toArray, List.set_cons_zero, List.set_cons_succ]
          refine wpAnyH_take (i := 6) (v := ?_) rfl (by as_aux_lemma => kernel_rfl) (by as_aux_lemma => kernel_rfl) (by as_aux_lemma => kernel_rfl) (fun _ _ _ h => h) (Or.inl ⟨by rfl, ?_⟩) (by assumption) ?_
          rotate_left
          · intro wH hSw
            try dsimp only at hSw
            go_simp
            try with_reducible rfl
          try simp only [Act.put, List.setIfInBounds_toArray, List.set_cons_zero, List.set_cons_succ]
          refine wpAnyH_take (i := 7) (v := ?_) rfl (by as_aux_lemma => kernel_rfl) (by as_aux_lemma => kernel_rfl) (by as_aux_lemma => kernel_rfl) (fun _ _ _ h => h) (Or.inl ⟨by rfl, ?_⟩) (by assumption) ?_
          rotate_left
          · intro wH hSw
            try dsimp only at hSw
            go_simp
            try with_reducible rfl
          try simp only [Act.put, List.setIfInBounds_toArray, List.set_cons_zero, List.set_cons_succ]
          refine wpAnyH_take (i := 9) (v := ?_) rfl (by as_aux_lemma => kernel_rfl) (by as_aux_lemma => kernel_rfl) (by as_aux_lemma => kernel_rfl) (fun _ _ _ h => h) (Or.inl ⟨by rfl, ?_⟩) (by assumption) ?_
          rotate_left
          · intro wH hSw
            try dsimp only at hSw
            go_simp
            try with_reducible rfl
          try simp only [Act.put, List.setIfInBounds_toArray, List.set_cons_zero, List.set_cons_succ]
          refine wpAnyH_ready (rs := [8]) (by as_aux_lemma => kernel_rfl) (by simp) ?_
          refine AllReadyH.cons rfl (fun KH hKH => ?_) AllReadyH.nil
          go_simp
          refine hKH.out _ _ ur (fun hHeld8 => ?_)
          clear hKH KH
          try simp only [Act.put, List.setIfInBounds_toArray, List.set_cons_zero, List.set_cons_succ]
          refine wpAnyH_ready (rs := [10]) (by as_aux_lemma => kernel_rfl) (by simp) ?_
          refine AllReadyH.cons rfl (fun KH hKH => ?_) AllReadyH.nil
          go_simp
          refine hKH.out _ _ ur (fun hHeld10 => ?_)
          clear hKH KH
          try simp only [Act.put, List.setIfInBounds_toArray, List.set_cons_zero, List.set_cons_succ]
          refine wpAnyH_ready (rs := [11]) (by as_aux_lemma => kernel_rfl) (by simp) ?_
          refine AllReadyH.cons rfl (fun KH hKH => ?_) AllReadyH.nil
          go_simp
          refine hown.mono ?_
          rintro e Y ⟨rfl, bY, gY⟩
          obtain ⟨-, y0, y1, yr, yc0, yc1⟩ := unhide TG Y ⟨gY.os, gY.tape, gY.output, gY.size, gY.block⟩
          obtain ⟨RR, qF⟩ := unhide FIN Y _ gY rfl bY
          have RRH := hide RR
          clear RR hown bY gY
          refine hKH.out _ _ yr (fun hHeld11 => ?_)
          clear hKH KH
          try simp only [Act.put, List.setIfInBounds_toArray, List.set_cons_zero, List.set_cons_succ]
          refine wpAnyH_ready (rs := [12]) (by as_aux_lemma => kernel_rfl) (by simp) ?_
          refine AllReadyH.cons rfl (fun KH hKH => ?_) AllReadyH.nil
          go_simp
          refine hKH.out _ _ yr (fun hHeld12 => ?_)
          clear hKH KH
          try simp only [Act.put, List.setIfInBounds_toArray, List.set_cons_zero, List.set_cons_succ]
          refine wpAnyH_ready (rs := [13]) (by as_aux_lemma => kernel_rfl) (by simp) ?_
          refine AllReadyH.cons rfl (fun KH hKH => ?_) AllReadyH.nil
          go_simp
          refine hKH.out _ _ yr (fun hHeld13 => ?_)
          clear hKH KH
          try simp only [Act.put, List.setIfInBounds_toArray, List.set_cons_zero, List.set_cons_succ]
          refine wpAnyH_ready (rs := [14]) (by as_aux_lemma => kernel_rfl) (by simp) ?_
          refine AllReadyH.cons rfl (fun KH hKH => ?_) AllReadyH.nil
          go_simp
          refine hKH.out _ _ qF (fun hHeld14 => ?_)
          clear hKH KH
          try simp only [Act.put, List.setIfInBounds_toArray, List.set_cons_zero, List.set_cons_succ]
          refine wpAnyH_done (by as_aux_lemma => kernel_rfl) ?_ _
          go_wp2_with fail
          all_goals refine bodyPost_end (results_none rfl _ _ _) rfl ?_
          all_goals exact ⟨rfl, unhide RRH⟩
        · have hgo2 : ¬ (x2.p.length : Int) ≤ 2 * (S.read - x2.off) := hgo
          clear KEEP F1 K6
          generalize x2.p.length = xl at *
          generalize x2.off = xo at *
          go_wp2_with fail
          all_goals refine bodyPost_end (results_none rfl _ _ _) rfl ?_
          all_goals exact ⟨rfl, unhide FN⟩
    · obtain rfl : k = len := by omega
      have hkl : k = k := rfl
      have hnl : na = k := by omega
      have hD0 : D = [] := by
        have := congrArg List.length (unhide PT).1
        rw [List.length_append] at this
        exact List.length_eq_zero_iff.1 (by omega)
      have dn : decide ((k : Int) < (k : Int)) = false := decide_eq_false (by omega)
      have HKL := hide (And.intro hkl hnl)
      have q2 : (k : Int) ≤ (c : Int) := by omega
      have HD0 := hide hD0
      clear hkl hnl hlt hk hD0
      go_upto_region 1 with fail
      go_quiet (fail)
      rename_i nq
      obtain ⟨ZZ, W', hcl, lZ, hrow, g4, hXr, kb, kz⟩ := unhide AFT (X.drewN nq) (grown_trans gX (grown_drewN _ _))
      rw [(unhide HKL).2] at hcl
      have bW' : Blk W' b (rvc bk (.slice (some ⟨g, pr.length, none⟩) E.length c) S) 53 := (kb hXr.blk (by decide)).trans hXr.blk
      have e5 : W'.cell? ⟨b, 5, none⟩ = some (.slice (some ⟨g, q, none⟩) k c) := by rw [ll.2.2, ll.1]; exact bW'.cell 5 _ rfl
      have t5 := bW'.thaw 5
      have x5q : (X.drewN nq).cell? ⟨b, 5, none⟩ = some (.slice (some ⟨g, q, none⟩) k c) := x5
      have hokD : HeOk S [] := by have := (unhide PT).2.2; rw [unhide HD0] at this; exact this
      have FIN : Hid (∀ v1, RelP w M b bk E S ((W'.setCell ⟨b, 5, none⟩ v1).setCell ⟨b, 5, none⟩ (.slice none 0 0))) := fun v1 => by
        have b1 : Blk (W'.setCell ⟨b, 5, none⟩ v1) b (rvc bk v1 S) 53 := by have := bW'.setC 5 v1; exact this
        have b2 : Blk ((W'.setCell ⟨b, 5, none⟩ v1).setCell ⟨b, 5, none⟩ (.slice none 0 0)) b (rvc bk (.slice none 0 0) S) 53 := by have := b1.setC 5 (.slice none 0 0); exact this
        exact ⟨.slice none 0 0, [], hXr.setX ((kz.set b 5 _ (or_lt hXr.mb)).set b 5 _ (or_lt hXr.mb)) b2 (fun {j cs tt} hb ht hj => ((set_heap _ _ _ _ _ hj).trans (set_heap _ _ _ _ _ hj)).trans (kb hb ht)) (Pq.row_nil _) (fun e he => (by cases he)) (fun gg e => (by cases e)), hokD, Nat.zero_le _⟩
      clear AFT hrow g4 hXr kb kz lZ bW' hokD ll x1 x5
      by_cases hck : c = k
      · go_wp2_with (at_builtin; refine wpList_clear_run _ rfl _ 51 rfl _ rfl (hcl _ _) ?_)
        all_goals refine bodyPost_ret (results_none rfl _ _ _) rfl ?_
        all_goals exact ⟨rfl, unhide FIN _⟩
      · go_wp2_with (at_builtin; refine wpList_clear_run _ rfl _ 51 rfl _ rfl (hcl _ _) ?_)
        all_goals refine bodyPost_ret (results_none rfl _ _ _) rfl ?_
        all_goals exact ⟨rfl, unhide FIN _⟩

theorem release_at (h : RA w M b bk vh E W S) (hW : HeW S E) (nE : E.length ≤ 100000000) (r0 : 0 ≤ S.read ∧ S.read ≤ 4611686018427387903) :
    Calls Tryz.prog 32 #[ptr b] W fun e W' => e = .returned (.tuple #[]) ∧ RelP w M b bk E S W' := by
  have hr := h.row
  rcases hr with ⟨e1, e2⟩ | ⟨g, pr, c, sp, e1, hR⟩
  · have : E = [] := List.map_eq_nil_iff.1 e2
    subst this
    subst e1
    exact release_nil h hW
  · rw [List.length_map] at e1
    subst e1
    exact release_some h hR hW nE r0
end
end Go.Proofs.YthihabjegpacaaaGreat

namespace Go.Proofs.YthihabjegpacaaaGreat
open Go.RowKit
set_option linter.unusedVariables false
set_option linter.unusedSimpArgs false
set_option maxHeartbeats 4000000
set_option maxRecDepth 100000

section
variable {w W : World} {M : Nat → Prop} {b bk : Nat} {vh : Value} {E : List He} {S : Rv}
/-- What Read leaves: n bytes in a row g of their own. -/
structure ReadP (w : World) (M : Nat → Prop) (b bk : Nat) (E : List He) (S : Rv) (most : Int) (W : World) (n g : Nat) (W' : World) : Prop where
  row : RowN S most n
  blk : Blk W' g (by8 (bytesT S n)) 5
  ra : ∃ W1 vh' E', W.grownBy W1 none ∧ W.heap.size ≤ g ∧ g < W1.heap.size ∧ RA W1 (fun k => (M k ∨ w.heap.size ≤ k) ∧ k < W.heap.size) b bk vh' E' W' (readS S n) ∧ HeOk (readS S n) E' ∧ E'.length ≤ E.length
  nb : n ≤ 1000000000

theorem read_at (h : RA w M b bk vh E W S) (hok : RvOk S) (hE : HeOk S E) (nE : E.length ≤ 100000000) (most : Int) (hm : -9223372036854775808 ≤ most ∧ most ≤ 9223372036854775807) (hbig : ∀ n, RowN S most n → n ≤ 1000000000) :
    Calls Tryz.prog 11 #[ptr b, .int .i64 most] W fun e W' => ∃ n g, e = .returned (.tuple #[.slice (some ⟨g, 0, none⟩) n n, .bool (readS S n).ended]) ∧ ReadP w M b bk E S most W n g W' := by
  have hrow := row_at h hok hE nE most hm
  have H := hide h
  have HOK := hide hok
  have HE := hide hE
  clear h hok hE
  go_enter Tryz.func11, Tryz.ntmps11
  go_wp2_with fail
  refine hrow.mono ?_
  rintro e W0 ⟨n, rfl, hn, g0⟩
  have nb := hbig n hn
  have hjoin := join_at ((unhide H).grown g0) (unhide HOK) (unhide HE) nE n nb hn.got
  have HN := hide hn
  have G0 := hide g0
  clear hrow hn g0 hbig
  go_wp2_with fail
  refine hjoin.mono ?_
  rintro e W1 ⟨rfl, hj⟩
  have g1 := grown_trans (unhide G0) hj.gr
  have h1 := (unhide H).rebase g1
  have hr0 := (unhide HOK).r0
  have hok2 := rvok_read (unhide HOK) (unhide HN)
  have hh2 : S.read + n ≤ S.high := hok2.rh
  have hhl := (unhide HOK).hl; have hlm := (unhide HOK).lm
  have wr1 : IntKind.i64.wrap (S.read + n) = S.read + n := by rw [IntKind.wrap_i64]; omega
  obtain ⟨-, c1, -, -, -, -, -, -⟩ := h1.cells
  have t1 := h1.blk.thaw 1
  have h2 := h1.put (S' := { S with read := S.read + n }) 1 (.int .i64 (S.read + n)) rfl rfl
  have hrel := release_at h2 ((unhide HE).w (unhide HOK) rfl (by show S.read ≤ S.read + n; omega)) nE (by show 0 ≤ S.read + n ∧ S.read + n ≤ _; omega)
  have gdlt : W0.heap.size < W1.heap.size := hj.blk.lt
  have gsz := (unhide G0).size
  have KJ := hide (And.intro hj (And.intro g1 (And.intro gdlt gsz)))
  clear hjoin hj g1 h1 h2 gdlt gsz hok2
  obtain ⟨gd, hgd⟩ : ∃ gd, gd = W0.heap.size := ⟨_, rfl⟩
  rw [← hgd]
  have HGD := hide hgd
  clear hgd
  go_wp2_with fail
  refine hrel.mono ?_
  rintro e W2 ⟨rfl, vh', E', r1, r2, r3⟩
  obtain ⟨-, d1, -, d3, -, -, d6, d7⟩ := r1.cells
  have t6 := r1.blk.thaw 6
  have FIN : Hid (∀ W3 S3, RA W1 (fun k => (M k ∨ w.heap.size ≤ k) ∧ k < W.heap.size) b bk vh' E' W3 S3 → S3.T = S.T → S3.read = S.read + n → rvc bk vh' (readS S n) = rvc bk vh' S3 → S3.K = S.K → ReadP w M b bk E S most W n gd W3) := fun W3 S3 ra eT er ev eK => by
    obtain ⟨hj, g1, gdlt, gsz⟩ := unhide KJ
    have hg := unhide HGD
    refine ⟨unhide HN, ?_, ⟨W1, vh', E', g1, by omega, by omega, ra.last ev (by rw [eK]; rfl), r2.same rfl rfl, r3⟩, nb⟩
    have : W3.heap[gd]? = W1.heap[gd]? := ra.kp.block gd (by omega) (fun q => by omega)
    rw [hg] at this ⊢
    exact this.trans hj.blk
  have HRA := hide r1
  clear hrel r1 r2 r3 t1 c1
  simp only at d1 d3 d6 d7
  by_cases hf : S.read + n = S.final
  · have df : ((S.read + (n : Int)) == S.final) = true := by simp [hf]
    cases hrs : S.reset with
    | true =>
      rw [hrs] at d7
      have E1 : Hid ((readS S n).ended = S.ended) := by show (S.ended || (decide (S.read + n = S.final) && !S.reset)) = S.ended; rw [hrs]; simp
      have R : Hid (∀ q r, ReadP w M b bk E S most W n gd ((W2.drewN q).drewN r)) := fun q r => unhide FIN _ _ (((unhide HRA).grown (grown_drewN _ _)).grown (grown_drewN _ _)) rfl rfl (by unfold rvc; rw [unhide E1]; rfl) rfl
      clear FIN HRA
      have HF := hide hf
      clear hf
      go_upto_region 4 with fail
      go_quiet (fail)
      rename_i nq
      have d6q : (W2.drewN nq).cell? ⟨b, 6, none⟩ = some (.bool S.ended) := d6
      go_upto_region 6 with fail
      go_quiet (fail)
      go_wp2_with fail
      all_goals go_ret2
      all_goals exact ⟨n, gd, by rw [unhide E1]; rfl, unhide R _ _⟩
    | false =>
      rw [hrs] at d7
      have E1 : Hid ((readS S n).ended = true) := by show (S.ended || (decide (S.read + n = S.final) && !S.reset)) = true; rw [hrs, decide_eq_true hf]; simp
      have R : Hid (∀ q, RA W1 (fun k => (M k ∨ w.heap.size ≤ k) ∧ k < W.heap.size) b bk vh' E' ((W2.drewN q).setCell ⟨b, 6, none⟩ (.bool true)) { S with read := S.read + n, ended := true }) := fun q => ((unhide HRA).grown (grown_drewN _ q)).put (S' := { S with read := S.read + n, ended := true }) 6 (.bool true) rfl rfl
      have R2 : Hid (∀ q r, ReadP w M b bk E S most W n gd (((W2.drewN q).setCell ⟨b, 6, none⟩ (.bool true)).drewN r)) := fun q r => unhide FIN _ _ ((unhide R q).grown (grown_drewN _ _)) rfl rfl (by unfold rvc; rw [unhide E1]; rfl) rfl
      clear FIN HRA
      have HF := hide hf
      clear hf
      go_upto_region 4 with fail
      go_quiet (fail)
      rename_i nq
      have d6q : (W2.drewN nq).cell? ⟨b, 6, none⟩ = some (.bool S.ended) := d6
      have t6q : (W2.drewN nq).frozen? ⟨b, 6, none⟩ = false := t6
      have e6 := (unhide R nq).cells.2.2.2.2.2.2.1
      simp only at e6
      go_upto_region 6 with fail
      go_quiet (fail)
      go_wp2_with fail
      all_goals go_ret2
      all_goals exact ⟨n, gd, by rw [unhide E1]; rfl, unhide R2 _ _⟩
  · have df : ((S.read + (n : Int)) == S.final) = false := by simp [hf]
    have df2 : decide (S.read + (n : Int) = S.final) = false := decide_eq_false hf
    have E1 : Hid ((readS S n).ended = S.ended) := by show (S.ended || (decide (S.read + n = S.final) && !S.reset)) = S.ended; rw [decide_eq_false hf]; simp
    have R : Hid (∀ q r, ReadP w M b bk E S most W n gd ((W2.drewN q).drewN r)) := fun q r => unhide FIN _ _ (((unhide HRA).grown (grown_drewN _ _)).grown (grown_drewN _ _)) rfl rfl (by unfold rvc; rw [unhide E1]; rfl) rfl
    clear FIN HRA
    go_upto_region 4 with fail
    go_quiet (fail)
    rename_i nq
    have d6q : (W2.drewN nq).cell? ⟨b, 6, none⟩ = some (.bool S.ended) := d6
    go_upto_region 6 with fail
    go_quiet (fail)
    go_wp2_with fail
    all_goals go_ret2
    all_goals exact ⟨n, gd, by rw [unhide E1]; rfl, unhide R _ _⟩
end
end Go.Proofs.YthihabjegpacaaaGreat

namespace Go.Proofs.YthihabjegpacaaaGreat
open Go.RowKit
set_option linter.unusedVariables false
set_option linter.unusedSimpArgs false
set_option maxHeartbeats 4000000
set_option maxRecDepth 100000

theorem len64_1 (w : World) : Calls Tryz.prog 80 #[.int .u64 1] w fun e w' => e = .returned (.int .i64 1) ∧ w.grownBy w' none := by
  go_enter Tryz.func80, Tryz.ntmps80
  go_wp2
  all_goals go_ret
  all_goals exact ⟨by kernel_rfl, grown_self _ _⟩
theorem len_1 (w : World) : Calls Tryz.prog 54 #[.int .u64 1] w fun e w' => e = .returned (.int .i64 1) ∧ w.grownBy w' none := by
  have h := len64_1 w
  go_enter Tryz.func54, Tryz.ntmps54
  go_wp2_with fail
  refine h.mono ?_
  rintro e w' ⟨rfl, hg⟩
  clear h
  go_wp2_with fail
  go_ret
  exact ⟨rfl, hg⟩
theorem ins_1 (a : Option Addr) (c : Nat) (v : Value) (w : World) : Calls Tryz.prog 71 #[.slice a 1 c, .int .i64 0, .int .i64 1, v] w fun e w' => e = .returned (.tuple #[]) ∧ w.grownBy w' none := by
  go_enter Tryz.func71, Tryz.ntmps71
  go_wp2
  go_loopw [8] (fun i wr => i = .int .i64 1 ∧ wr = w) (fun i _ => 0)
  case atStart => exact ⟨rfl, rfl⟩
  case round =>
    obtain ⟨rfl, rfl⟩ := hrel
    go_wp2
    refine bodyPost_end (results_none rfl _ _ _) rfl ?_
    exact ⟨rfl, grown_self _ _⟩
theorem pdq_1 (a : Option Addr) (c : Nat) (v : Value) (w : World) : Calls Tryz.prog 53 #[.slice a 1 c, .int .i64 0, .int .i64 1, .int .i64 1, v] w fun e w' => e = .returned (.tuple #[]) ∧ w.grownBy w' none := by
  have h := fun W => ins_1 a c v W
  go_enter Tryz.func53, Tryz.ntmps53
  go_wp2_with fail
  go_loopw [1, 2, 3] (fun i j l wr => i = .int .i64 0 ∧ j = .int .i64 1 ∧ wr = w) (fun i _ _ _ => 0)
  case atStart => exact ⟨rfl, rfl, rfl⟩
  case round =>
    obtain ⟨rfl, rfl, rfl⟩ := hrel
    go_wp2_with fail
    refine (h _).mono ?_
    rintro e w' ⟨rfl, hg⟩
    clear h
    go_wp2_with fail
    refine bodyPost_ret (results_none rfl _ _ _) rfl ?_
    exact ⟨rfl, hg⟩
theorem sort_1 (a : Option Addr) (c : Nat) (v : Value) (w : World) : Calls Tryz.prog 34 #[.slice a 1 c, v] w fun e w' => e = .returned (.tuple #[]) ∧ w.grownBy w' none := by
  have h := len_1 w
  have h2 := fun W => pdq_1 a c v W
  go_enter Tryz.func34, Tryz.ntmps34
  go_wp2_with fail
  refine h.mono ?_
  rintro e w' ⟨rfl, hg⟩
  clear h
  go_wp2_with fail
  refine (h2 _).mono ?_
  rintro e w2 ⟨rfl, hg2⟩
  clear h2
  go_wp2_with fail
  refine bodyPost_end (results_none rfl _ _ _) rfl ?_
  exact ⟨rfl, grown_trans hg hg2⟩


/-- Of of one run. -/
theorem of_one (lo hi : Int) (g : Nat) (w : World) (hb : Blk w g #[.int .i64 lo, .int .i64 hi] 69) (hlo : -9223372036854775808 ≤ lo) (hhi : hi ≤ 9223372036854775807) :
    Calls Tryz.prog 12 #[.slice (some ⟨g, 0, none⟩) 1 1] w fun e w' => ∃ b va, e = .returned (ptr b) ∧ SetAt w' b 0 va (addS 0 lo hi []) ∧ w.heap.size ≤ b ∧ (∀ k, va.ownBlock = some k → w.heap.size ≤ k) ∧ w.grownBy w' none := by
  have h1 := clone_part g 0 1 1 [(lo, hi)] w rfl (fun j u hj => by
    rw [Addr.add_lit, Nat.zero_add]
    match j, hj with
    | 0, hj => cases hj; exact hb.cell 0 _ rfl
    | 1, hj => cases hj; exact hb.cell 1 _ rfl) (by decide)
  have h2 := fun a c W => sort_1 a c (.func (.func 35) #[] #[]) W
  clear hb
  go_enter Tryz.func12, Tryz.ntmps12
  go_wp2_with fail
  refine h1.mono ?_
  rintro e w1 ⟨v1, rfl, r1, f1, g1⟩
  obtain ⟨a, c, ev, hc, -, -⟩ := r1.shape
  obtain ⟨gg, ea, hcell⟩ := hc.resolve_left (by simp)
  subst ev ea
  simp only [List.length_singleton] at *
  have x0 := (hcell 0 (by decide)).1
  have x1 := (hcell 0 (by decide)).2
  simp at x0 x1
  have G1 := hide g1
  clear h1 r1 f1 g1 hc hcell
  go_wp2_with fail
  refine (h2 _ _ _).mono ?_
  rintro e w2 ⟨rfl, g2⟩
  have y0 := cell_grown x0 g2
  have y1 := cell_grown x1 g2
  have G2 := hide (grown_trans (unhide G1) g2)
  clear h2 g2 x0 x1
  have s0 : SetAt (w2.alloc (.cells #[.int .i64 0, .slice none 0 0] 74)) w2.heap.size 0 (.slice none 0 0) [] := ⟨heap_alloc_new w2 _, row_nil _⟩
  obtain ⟨w3, hw3⟩ : ∃ w3, w3 = w2.alloc (.cells #[.int .i64 0, .slice none 0 0] 74) := ⟨_, rfl⟩
  rw [← hw3] at s0
  have g3 : w2.grownBy w3 none := by rw [hw3]; exact grown_alloc _ _
  have z0 := cell_grown y0 g3
  have z1 := cell_grown y1 g3
  obtain ⟨w4, hw4⟩ : ∃ w4, w4 = w3.alloc (.cells #[.int .i64 lo, .int .i64 hi] 69) := ⟨_, rfl⟩
  have g4 : w3.grownBy w4 none := by rw [hw4]; exact grown_alloc _ _
  have b4 : Blk w4 w3.heap.size #[.int .i64 lo, .int .i64 hi] 69 := by rw [hw4]; exact Blk.new _ _ _
  have q0 := b4.cell 0 (.int .i64 lo) rfl
  have q1 := b4.cell 1 (.int .i64 hi) rfl
  have hadd := add_post (s0.keep g4) ⟨trivial, by decide⟩ lo hi hlo hhi
  obtain ⟨bb, hbb⟩ : ∃ bb, bb = w2.heap.size := ⟨_, rfl⟩
  rw [← hbb] at hadd
  have FIN : Hid (∀ w5 va', SetAt w5 bb 0 va' (addS 0 lo hi []) → (va'.ownBlock = (Value.slice none 0 0).ownBlock ∨ Fresh w4 va') → Touch w4 w5 bb (.slice none 0 0) → ∃ b va, Ending.returned (ptr bb) = .returned (ptr b) ∧ SetAt w5 b 0 va (addS 0 lo hi []) ∧ w.heap.size ≤ b ∧ (∀ k, va.ownBlock = some k → w.heap.size ≤ k) ∧ w.grownBy w5 none) := fun w5 va' s5 ho t => by
    have s2 := (unhide G2).size
    have s3 := g3.size
    have s4 := g4.size
    refine ⟨bb, va', rfl, s5, by omega, fun k e => ?_, ?_⟩
    · rcases ho with ho | ho
      · rw [ho] at e; cases e
      · have := ho k e; omega
    · have gg := grown_trans (unhide G2) (grown_trans g3 g4)
      exact ⟨t.os.trans gg.os, t.tape.trans gg.tape, t.output.trans gg.output, Nat.le_trans gg.size t.size, fun k hk _ => (t.block k (Nat.lt_of_lt_of_le hk gg.size) (by omega) (fun e => by cases e)).trans (gg.block k hk (by simp))⟩
  rw [hw4] at q0 q1
  have HB := hide hbb
  clear s0 g3 g4 b4 y0 y1
  go_wp2_with fail
  rw [← hw3, ← hbb]
  replace hw3 := hide hw3
  clear hbb
  go_loopw [15] (fun i wr => (i = .int .i64 0 ∧ wr = w3) ∨ (i = .int .i64 1 ∧ Hid (∃ b va, Ending.returned (ptr bb) = .returned (ptr b) ∧ SetAt wr b 0 va (addS 0 lo hi []) ∧ w.heap.size ≤ b ∧ (∀ k, va.ownBlock = some k → w.heap.size ≤ k) ∧ w.grownBy wr none))) (fun i _ => 1 - (intOf i).toNat)
  case atStart => exact .inl ⟨rfl, rfl⟩
  case round =>
    rcases hrel with ⟨rfl, hw⟩ | ⟨rfl, F⟩
    · subst hw
      go_wp2_with fail
      rw [← hw4]
      refine hadd.mono ?_
      rintro e w5 ⟨rfl, ⟨va', s5, ho⟩, t⟩
      have F := hide (unhide FIN w5 va' s5 ho t)
      clear hadd FIN q0 q1 z0 z1 s5 ho t hw4
      go_wp2_with fail
      all_goals exact ⟨.inr ⟨rfl, F⟩, by simp [intOf]⟩
    · clear hadd FIN q0 q1 z0 z1
      go_wp2_with fail
      all_goals go_ret
      all_goals exact unhide F

section
variable {w W : World} {M : Nat → Prop} {b bk : Nat} {vh : Value} {E : List He} {S : Rv}
theorem drop_at (h : RA w M b bk vh E W S) (r0 : 0 ≤ S.read ∧ S.read ≤ 4611686018427387903) : Calls Tryz.prog 40 #[ptr b] W fun e W' => e = .returned (.tuple #[]) ∧ ∃ bk', RA w M b bk' (.slice none 0 0) [] W' { S with K := addS 0 0 (S.read - 1) [] } := by
  obtain ⟨-, c1, -, -, c4, c5, -, -⟩ := h.cells
  have t5 := h.blk.thaw 5
  have h1 := h.setE (E' := []) (vh' := .slice none 0 0) h.kp (fun _ _ => rfl) (Pq.row_nil _) (fun e he => (by cases he)) (fun g e => (by cases e))
  obtain ⟨W1, hW1⟩ : ∃ W1, W1 = W.setCell ⟨b, 5, none⟩ (.slice none 0 0) := ⟨_, rfl⟩
  rw [← hW1] at h1
  obtain ⟨-, e1, -, -, e4, -, -, -⟩ := h1.cells
  have t4 := h1.blk.thaw 4
  have w1 : IntKind.i64.wrap (S.read - 1) = S.read - 1 := by rw [IntKind.wrap_i64]; omega
  obtain ⟨W2, hW2⟩ : ∃ W2, W2 = W1.alloc (.cells #[.int .i64 0, .int .i64 (S.read - 1)] 69) := ⟨_, rfl⟩
  have g2 : W1.grownBy W2 none := by rw [hW2]; exact grown_alloc _ _
  have b2 : Blk W2 W1.heap.size #[.int .i64 0, .int .i64 (S.read - 1)] 69 := by rw [hW2]; exact Blk.new _ _ _
  have hof := of_one 0 (S.read - 1) W1.heap.size W2 b2 (by decide) (by omega)
  have H1 := hide (And.intro h1 g2)
  obtain ⟨va, vn, vc, evh⟩ : ∃ (a : Option Addr) (n c : Nat), vh = .slice a n c := by
    rcases h.held2 with ⟨q, _⟩ | ⟨g, q0, c, q, _⟩
    · exact ⟨none, 0, 0, q⟩
    · exact ⟨_, _, _, q⟩
  subst evh
  clear h h1 g2 b2 c4 e1 e4
  go_enter Tryz.func40, Tryz.ntmps40
  go_upto_region 1 with fail
  rw [← hW1]
  replace hW1 := hide hW1
  obtain ⟨-, e1, -, -, e4, -, -, -⟩ := (unhide H1).1.cells
  clear c1 c5 t5
  go_wp2_with fail
  rw [← hW2]
  replace hW2 := hide hW2
  refine hof.mono ?_
  rintro e W3 ⟨bk', va', rfl, s3, hbk, hva, g3⟩
  have h3 := (unhide H1).1.grown (grown_trans (unhide H1).2 g3)
  obtain ⟨-, -, -, -, e4', -, -, -⟩ := h3.cells
  have t4' := h3.blk.thaw 4
  have FIN : Hid (RA w M b bk' (.slice none 0 0) [] (W3.setCell ⟨b, 4, none⟩ (ptr bk')) { S with K := addS 0 0 (S.read - 1) [] }) := by
    have kz := Nat.le_trans h3.kp.size (Nat.le_refl _)
    have sz := (unhide H1).1.kp.size
    have sz2 := (unhide H1).2.size
    have nb : bk' ≠ b := heap_ne s3.blk h3.blk (by decide)
    have o : ∀ {k : Nat}, k ≠ b → (W3.setCell ⟨b, 4, none⟩ (ptr bk')).heap[k]? = W3.heap[k]? := fun hk => set_heap _ _ _ _ _ hk
    refine ⟨h3.kp.set b 4 _ (or_lt h3.mb), ?_, ⟨va', setAt_kept s3 (o nb) (fun g e => o (fun q => s3.row.ne_of h3.blk (by decide) (q ▸ e))), fun g e => .inr (by have := hva g e; omega)⟩, Pq.row_nil _, fun e he => (by cases he), h3.mb, .inr (by omega), fun g e => (by cases e)⟩
    have := h3.blk.setC 4 (ptr bk')
    exact this
  clear hof s3 hbk hva g3 h3 e1 e4 t4
  go_wp2_with fail
  all_goals refine bodyPost_end (results_none rfl _ _ _) rfl ?_
  all_goals exact ⟨rfl, bk', unhide FIN⟩
end
end Go.Proofs.YthihabjegpacaaaGreat

namespace Go.Proofs.YthihabjegpacaaaGreat
open Go.RowKit
set_option linter.unusedVariables false
set_option linter.unusedSimpArgs false
set_option maxHeartbeats 4000000
set_option maxRecDepth 100000

section
variable {w W : World} {M : Nat → Prop} {b bk : Nat} {vh : Value} {E : List He} {S : Rv}
/-- What Reset leaves. -/
def ResetP (w : World) (M : Nat → Prop) (b : Nat) (E : List He) (S' : Rv) (W' : World) : Prop := ∃ bk' vh' E', RA w M b bk' vh' E' W' S' ∧ HeOk S' E' ∧ E'.length ≤ E.length

theorem reset_at (h : RA w M b bk vh E W S) (hok : RvOk S) (hE : HeOk S E) (f : Int) :
    Calls Tryz.prog 20 #[ptr b, .int .i64 f] W fun e W' => e = .returned (.tuple #[.int .i64 (resetN S f), .int .i64 (resetE S f)]) ∧ ResetP w M b E (resetS S f) W' := by
  obtain ⟨c0, c1, c2, c3, c4, c5, c6, c7⟩ := h.cells
  have t3 := h.blk.thaw 3
  have hr0 := hok.r0; have hrh := hok.rh; have hhl := hok.hl; have hlm := hok.lm
  have SAME : Hid (resetE S f ≠ 0 → resetN S f = 0 ∧ ResetP w M b E (resetS S f) W) := fun q => by
    unfold resetN resetS
    rw [if_neg q, if_neg q]
    exact ⟨rfl, bk, vh, E, h, hE, Nat.le_refl _⟩
  by_cases hb : f < 0 ∨ 4611686018427387903 < f
  · have e1 : resetE S f = 1 := by unfold resetE; rw [if_pos hb]
    have F := unhide SAME (by rw [e1]; decide)
    rw [e1, F.1]
    have FF := hide F.2
    clear SAME F e1 h hok hE
    by_cases q : f < 0
    · clear hb
      go_enter Tryz.func20, Tryz.ntmps20
      go_wp2_with fail
      all_goals (try simp only [Exit.inBlock, Exit.then])
      all_goals go_ret2
      all_goals exact ⟨rfl, unhide FF⟩
    · have q2 := hb.resolve_left q
      clear hb
      go_enter Tryz.func20, Tryz.ntmps20
      go_wp2_with fail
      all_goals (try simp only [Exit.inBlock, Exit.then])
      all_goals go_ret2
      all_goals exact ⟨rfl, unhide FF⟩
  · have d1 : ¬ f < 0 := fun q => hb (.inl q)
    have d2 : ¬ 4611686018427387903 < f := fun q => hb (.inr q)
    by_cases hl : S.limit < f
    · have e1 : resetE S f = 160 := by unfold resetE; rw [if_neg hb, if_pos hl]
      have F := unhide SAME (by rw [e1]; decide)
      rw [e1, F.1]
      have FF := hide F.2
      clear SAME F e1 h hok hE hb
      go_enter Tryz.func20, Tryz.ntmps20
      go_wp2_with fail
      all_goals (try simp only [Exit.inBlock, Exit.then])
      all_goals go_ret2
      all_goals exact ⟨rfl, unhide FF⟩
    · have ag := against_at h f true
      cases hg : againstB S f true with
      | true =>
        rw [hg] at ag
        have e1 : resetE S f = 161 := by unfold resetE; rw [if_neg hb, if_neg hl, if_pos hg]
        have F := unhide SAME (by rw [e1]; decide)
        rw [e1, F.1]
        have FF := hide F.2
        clear SAME F e1 h hok hE hb hg
        go_enter Tryz.func20, Tryz.ntmps20
        go_wp2_with fail
        refine ag.mono ?_
        rintro e W' ⟨rfl, hW'⟩
        subst W'
        clear ag
        go_wp2_with fail
        all_goals (try simp only [Exit.inBlock, Exit.then])
        all_goals go_ret2
        all_goals exact ⟨rfl, unhide FF⟩
      | false =>
        rw [hg] at ag
        have e1 : resetE S f = 0 := by unfold resetE; rw [if_neg hb, if_neg hl, if_neg (by rw [hg]; decide)]
        have e2 : resetN S f = riseN S f := by unfold resetN; rw [e1, if_pos rfl]
        have e3 : resetS S f = resetG S f := by unfold resetS; rw [e1, if_pos rfl]
        rw [e1, e2, e3]
        have h1 := h.put (S' := { S with final := f }) 3 (.int .i64 f) rfl rfl
        obtain ⟨va, vn, vc, evh⟩ : ∃ (a : Option Addr) (n c : Nat), vh = .slice a n c := by
          rcases h.held2 with ⟨q, _⟩ | ⟨g, q0, c, q, _⟩
          · exact ⟨none, 0, 0, q⟩
          · exact ⟨_, _, _, q⟩
        subst evh
        have RI : Hid (∀ (W1 : World) (bk' : Nat) (vh' : Value) (E' : List He) (S1 : Rv), RA w M b bk' vh' E' W1 S1 → S1.high = S.high → Calls Tryz.prog 29 #[ptr b, .int .i64 f] W1 fun e W' => e = .returned (.int .i64 (riseN S f)) ∧ RA w M b bk' vh' E' W' { S1 with high := max S.high f }) := fun W1 bk' vh' E' S1 h1 q => by
          have := rise_at h1 (by rw [q]; omega) f (by omega)
          unfold riseN at this ⊢
          rw [q] at this
          exact this
        cases he : S.ended with
        | true =>
          rw [he] at c6
          have ri := unhide RI _ _ _ _ _ h1 rfl
          have F : Hid (∀ W2, RA w M b bk (.slice va vn vc) E W2 { S with final := f, high := max S.high f } → ResetP w M b E (resetG S f) W2) := fun W2 r => by
            have eg : resetG S f = { S with final := f, high := max S.high f } := by unfold resetG; rw [if_pos he]
            rw [eg]
            exact ⟨bk, _, E, r, hE.same rfl rfl, Nat.le_refl _⟩
          clear RI SAME h hok hE hb hg he h1 e1 e2 e3
          go_enter Tryz.func20, Tryz.ntmps20
          go_wp2_with fail
          refine ag.mono ?_
          rintro e W' ⟨rfl, hW'⟩
          subst W'
          clear ag
          go_wp2_with fail
          refine ri.mono ?_
          rintro e W2 ⟨rfl, r⟩
          have R := hide (unhide F W2 r)
          clear ri r
          go_wp2_with fail
          all_goals (try simp only [Exit.inBlock, Exit.then])
          all_goals go_ret2
          all_goals exact ⟨rfl, unhide R⟩
        | false =>
          rw [he] at c6
          have t7 := h.blk.thaw 7
          have t7' := h1.blk.thaw 7
          have c7' := h1.cells.2.2.2.2.2.2.2
          have h2 := h1.put (S' := { S with final := f, reset := true }) 7 (.bool true) rfl rfl
          have hdr := drop_at h2 (by show 0 ≤ S.read ∧ S.read ≤ _; omega)
          have F : Hid (∀ W2 bk', RA w M b bk' (.slice none 0 0) [] W2 { S with final := f, reset := true, K := addS 0 0 (S.read - 1) [], high := max S.high f } → ResetP w M b E (resetG S f) W2) := fun W2 bk' r => by
            refine ⟨bk', _, [], r.last (by unfold resetG; rw [if_neg (by rw [he]; decide)]; rfl) (by unfold resetG; rw [if_neg (by rw [he]; decide)]; rfl), ⟨List.Pairwise.nil, fun e he => (by cases he), fun e he => (by cases he), fun x hx hx2 => ?_, fun e he => (by cases he)⟩, Nat.zero_le _⟩
            have eT : (resetG S f).T x = if x < S.read then S.T x else none := by unfold resetG; rw [if_neg (by rw [he]; decide)]; rfl
            have er : (resetG S f).read = S.read := by unfold resetG; rw [if_neg (by rw [he]; decide)]; rfl
            rw [er] at hx
            rw [eT, if_neg (by omega)] at hx2
            cases hx2
          clear SAME h hok hE hb hg he e1 e2 e3 h2
          simp only at c7'
          clear h1
          go_enter Tryz.func20, Tryz.ntmps20
          go_wp2_with fail
          refine ag.mono ?_
          rintro e W' ⟨rfl, hW'⟩
          subst W'
          clear ag
          go_wp2_with fail
          refine hdr.mono ?_
          rintro e W2 ⟨rfl, bk', r⟩
          have ri := unhide RI _ _ _ _ _ r rfl
          clear hdr r RI
          go_wp2_with fail
          refine ri.mono ?_
          rintro e W3 ⟨rfl, r⟩
          have R := hide (unhide F W3 bk' r)
          clear ri r
          go_wp2_with fail
          all_goals (try simp only [Exit.inBlock, Exit.then])
          all_goals go_ret2
          all_goals exact ⟨rfl, unhide R⟩
end
end Go.Proofs.YthihabjegpacaaaGreat

namespace Go.Proofs.YthihabjegpacaaaGreat
open Go.RowKit
set_option linter.unusedVariables false
set_option linter.unusedSimpArgs false
set_option maxHeartbeats 8000000
set_option maxRecDepth 100000

theorem ne_r {W W1 : World} {v : Value} {r : Nat} (f : Fresh W1 v) (h : W1.heap.size = W.heap.size + 1) (hr : r = W.heap.size) : v.ownBlock = none ∨ v.ownBlock ≠ some r := .inr fun e => by have := f r e; omega
theorem gr_new {W W1 X Y : World} {r : Nat} (g1 : W.grownBy W1 none) (g2 : W1.grownBy X none) (g3 : X.grownBy Y (some r)) (hr : r = W.heap.size) : W.grownBy Y none :=
  have g := grown_trans g1 g2
  ⟨g3.os.trans g.os, g3.tape.trans g.tape, g3.output.trans g.output, Nat.le_trans g.size g3.size, fun k hk _ => (g3.block k (Nat.lt_of_lt_of_le hk g.size) (fun e => by cases e; omega)).trans (g.block k hk (by simp))⟩
theorem Tryz.sizeRV : (Tryz.prog.info? 34).map (·.size) = some 8 := by kernel_rfl
def rview0 : Array Value := #[.int .i64 0, .int .i64 0, .int .i64 0, .int .i64 0, .int .i64 0, .slice none 0 0, .bool false, .bool false]
/-- Eight cells are written. -/
def rput8 (X : World) (r : Nat) (v0 v1 v2 v3 v4 v5 v6 v7 : Value) : World := (((((((X.setCell ⟨r, 0, none⟩ v0).setCell ⟨r, 1, none⟩ v1).setCell ⟨r, 2, none⟩ v2).setCell ⟨r, 3, none⟩ v3).setCell ⟨r, 4, none⟩ v4).setCell ⟨r, 5, none⟩ v5).setCell ⟨r, 6, none⟩ v6).setCell ⟨r, 7, none⟩ v7
theorem rput8_blk {X : World} {r : Nat} {t : TypeId} (h : Blk X r rview0 t) (v0 v1 v2 v3 v4 v5 v6 v7 : Value) : Blk (rput8 X r v0 v1 v2 v3 v4 v5 v6 v7) r #[v0, v1, v2, v3, v4, v5, v6, v7] t ∧ X.grownBy (rput8 X r v0 v1 v2 v3 v4 v5 v6 v7) (some r) := by
  refine ⟨?_, ?_⟩
  · have h0 : Blk _ r #[v0, .int .i64 0, .int .i64 0, .int .i64 0, .int .i64 0, .slice none 0 0, .bool false, .bool false] t := h.setC 0 v0
    have h1 : Blk _ r #[v0, v1, .int .i64 0, .int .i64 0, .int .i64 0, .slice none 0 0, .bool false, .bool false] t := h0.setC 1 v1
    have h2 : Blk _ r #[v0, v1, v2, .int .i64 0, .int .i64 0, .slice none 0 0, .bool false, .bool false] t := h1.setC 2 v2
    have h3 : Blk _ r #[v0, v1, v2, v3, .int .i64 0, .slice none 0 0, .bool false, .bool false] t := h2.setC 3 v3
    have h4 : Blk _ r #[v0, v1, v2, v3, v4, .slice none 0 0, .bool false, .bool false] t := h3.setC 4 v4
    have h5 : Blk _ r #[v0, v1, v2, v3, v4, v5, .bool false, .bool false] t := h4.setC 5 v5
    have h6 : Blk _ r #[v0, v1, v2, v3, v4, v5, v6, .bool false] t := h5.setC 6 v6
    have h7 : Blk _ r #[v0, v1, v2, v3, v4, v5, v6, v7] t := h6.setC 7 v7
    exact h7
  · exact grown_at (grown_at (grown_at (grown_at (grown_at (grown_at (grown_at (grown_at (grown_any (grown_self X none) r) 0 v0) 1 v1) 2 v2) 3 v3) 4 v4) 5 v5) 6 v6) 7 v7
/-- The cells of a view. -/
def rviewC (S : Rv) (vr : Value) : Array Value := #[.int .i64 S.limit, .int .i64 S.read, .int .i64 S.high, .int .i64 S.final, .int .i64 (cnt S.K - S.read), vr, .bool S.ended, .bool S.reset]
theorem cnt_bounds {mn mx : Int} {L : List Sp} (h : Good mn mx L) (hm : mn ≤ mx + 1) : 0 ≤ cnt L ∧ cnt L ≤ mx - mn + 1 := by
  induction L generalizing mn with
  | nil => simp [cnt]; omega
  | cons s L ih =>
    have h1 := h.1; have h2 := h.2.1; have h3 := h.2.2.1
    by_cases c : s.2 + 2 ≤ mx + 1
    · have := ih h.2.2.2 c
      simp only [cnt]
      omega
    · have : L = [] := by
        cases L with
        | nil => rfl
        | cons t L => have := h.2.2.2.1; have := h.2.2.2.2.1; have := h.2.2.2.2.2.1; omega
      subst this
      simp only [cnt]
      omega

section
variable {w W : World} {M : Nat → Prop} {b bk : Nat} {vh : Value} {E : List He} {S : Rv}
theorem view_at (h : RA w M b bk vh E W S) (hok : RvOk S) (nK : S.K.length ≤ 100000000) :
    Calls Tryz.prog 22 #[ptr b] W fun e W' => ∃ vr, e = .returned (.agg (rviewC S vr)) ∧ Row W' vr S.K ∧ Fresh W vr ∧ W.grownBy W' none := by
  have hr0 := hok.r0; have hrh := hok.rh; have hhl := hok.hl; have hlm := hok.lm
  have hcn := cnt_bounds hok.gK (by omega)
  have okK : Ok S.K := ⟨rv_gx hok, by omega⟩
  have tld : toldF S.K = cnt S.K := by unfold toldF; omega
  obtain ⟨va, s, m⟩ := h.set
  obtain ⟨W1, hW1⟩ : ∃ W1, W1 = W.alloc (.cells #[.int .i64 0, .int .i64 0, .int .i64 0, .int .i64 0, .int .i64 0, .slice none 0 0, .bool false, .bool false] 34) := ⟨_, rfl⟩
  have g1 : W.grownBy W1 none := by rw [hW1]; exact grown_alloc _ _
  have b1 : Blk W1 W.heap.size #[.int .i64 0, .int .i64 0, .int .i64 0, .int .i64 0, .int .i64 0, .slice none 0 0, .bool false, .bool false] 34 := by rw [hW1]; exact Blk.new _ _ _
  have h1 := h.grown g1
  have hC : ∀ X, W1.grownBy X none → Calls Tryz.prog 41 #[ptr bk] X (fun e X' => e = .returned (.int .u64 (cnt S.K)) ∧ W1.grownBy X' none) := fun X g => (count_any bk 0 va S.K X ((s.keep g1).keep g) okK).mono (by rintro e X' ⟨he, hg⟩; rw [tld] at he; exact ⟨he, grown_trans g hg⟩)
  have hR : ∀ X, W1.grownBy X none → Calls Tryz.prog 42 #[ptr bk] X (fun e X' => ∃ v, e = .returned v ∧ Row X' v S.K ∧ Fresh W1 v ∧ W1.grownBy X' none) := fun X g => (runs_any bk 0 va S.K X ((s.keep g1).keep g) (by omega)).mono (by rintro e X' ⟨v, he, hr, hf, hg⟩; exact ⟨v, he, hr, fun k e => Nat.le_trans g.size (hf k e), grown_trans g hg⟩)
  have HK : ∀ X, W1.grownBy X none → X.cell? ⟨b, 0, none⟩ = some (.int .i64 S.limit) ∧ X.cell? ⟨b, 1, none⟩ = some (.int .i64 S.read) ∧ X.cell? ⟨b, 2, none⟩ = some (.int .i64 S.high) ∧ X.cell? ⟨b, 3, none⟩ = some (.int .i64 S.final) ∧ X.cell? ⟨b, 4, none⟩ = some (ptr bk) ∧ X.cell? ⟨b, 6, none⟩ = some (.bool S.ended) ∧ X.cell? ⟨b, 7, none⟩ = some (.bool S.reset) := fun X g => by
    obtain ⟨c0, c1, c2, c3, c4, c5, c6, c7⟩ := (h1.grown g).cells
    exact ⟨c0, c1, c2, c3, c4, c6, c7⟩
  have BR : Hid (∀ X, W1.grownBy X none → Blk X W.heap.size rview0 34) := fun X g => b1.grown g
  have hsz : W1.heap.size = W.heap.size + 1 := by rw [hW1]; exact alloc_size _ _
  obtain ⟨r, hr⟩ : ∃ r, r = W.heap.size := ⟨_, rfl⟩
  have hbr : b ≠ r := by have := h.blk.lt; omega
  have hrb : r ≠ b := hbr.symm
  have G1 := hide g1
  have HSZ := hide hsz
  rw [← hr] at BR
  have HV : Hid (rviewC S = fun vr => #[.int .i64 S.limit, .int .i64 S.read, .int .i64 S.high, .int .i64 S.final, .int .i64 (cnt S.K - S.read), vr, .bool S.ended, .bool S.reset]) := rfl
  obtain ⟨x0, x1, x2, x3, x4, x6, x7⟩ := HK W1 (grown_self _ _)
  clear h hok h1 b1 g1 okK hsz s m tld nK
  generalize cnt S.K = cn at *
  generalize S.reset = rs at *
  generalize S.ended = en at *
  generalize S.final = fn at *
  generalize S.high = hi at *
  generalize S.read = rd at *
  generalize S.limit = lm at *
  have HR := hide hr
  go_enter Tryz.func22, Tryz.ntmps22
  go_wp2_with fail
  rw [← hW1, ← hr]
  clear hW1 hr
  go_region_held3 (fun X => X.cell? ⟨b, 0, none⟩ = some (.int .i64 lm) ∧ X.cell? ⟨b, 1, none⟩ = some (.int .i64 rd) ∧ X.cell? ⟨b, 2, none⟩ = some (.int .i64 hi) ∧ X.cell? ⟨b, 3, none⟩ = some (.int .i64 fn) ∧ X.cell? ⟨b, 4, none⟩ = some (ptr bk) ∧ X.cell? ⟨b, 6, none⟩ = some (.bool en) ∧ X.cell? ⟨b, 7, none⟩ = some (.bool rs)) (go_keep) (first | (go_at_call 41; refine (hC _ (by first | with_reducible exact grown_self _ _ | with_reducible exact grown_drew' (grown_self _ _) | with_reducible exact grown_drewN _ _)).mono ?_; rintro e X1 ⟨rfl, G2⟩; clear x0 x1 x2 x3 x4 x6 x7; obtain ⟨x0, x1, x2, x3, x4, x6, x7⟩ := HK X1 G2) | (go_at_call 42; refine (hR _ (by first | with_reducible exact G2 | with_reducible exact grown_drew' G2)).mono ?_; rintro e X3 ⟨va, rfl, r1, f1, G4⟩; obtain ⟨a1, c1, rfl, -⟩ := r1.shape; clear x0 x1 x2 x3 x4 x6 x7; obtain ⟨x0, x1, x2, x3, x4, x6, x7⟩ := HK X3 G4; have b4 := unhide BR X3 G4; have e0 := b4.thaw 0; have e1 := b4.thaw 1; have e2 := b4.thaw 2; have e3 := b4.thaw 3; have e4 := b4.thaw 4; have e5 := b4.thaw 5; have e6 := b4.thaw 6; have e7 := b4.thaw 7; have o0 := b4.cell 0 _ rfl; have o1 := b4.cell 1 _ rfl; have o2 := b4.cell 2 _ rfl; have o3 := b4.cell 3 _ rfl; have o4 := b4.cell 4 _ rfl; have o5 := b4.cell 5 _ rfl; have o6 := b4.cell 6 _ rfl; have o7 := b4.cell 7 _ rfl; clear b4))
  have w1 : IntKind.i64.wrap cn = cn := by rw [IntKind.wrap_i64]; omega
  have w2 : IntKind.i64.wrap (IntKind.i64.wrap cn - rd) = cn - rd := by rw [w1, IntKind.wrap_i64]; omega
  rw [w2, w1]
  go_wp2_with fail
  have FF := rput8_blk (unhide BR X3 G4) (.int .i64 lm) (.int .i64 rd) (.int .i64 hi) (.int .i64 fn) (.int .i64 (cn - rd)) (.slice a1 S.K.length c1) (.bool en) (.bool rs)
  refine bodyPost_ret (results_cell_row rfl _ _ r 34 _ (0, 0) _ rfl FF.1 Tryz.underlying34 rfl Tryz.sizeRV) rfl ?_
  exact ⟨_, by rw [unhide HV], r1.keepBut FF.2 (ne_r f1 (unhide HSZ) (unhide HR)), fun k e => Nat.le_trans (unhide G1).size (f1 k e), gr_new (unhide G1) G4 FF.2 (unhide HR)⟩
end
end Go.Proofs.YthihabjegpacaaaGreat
