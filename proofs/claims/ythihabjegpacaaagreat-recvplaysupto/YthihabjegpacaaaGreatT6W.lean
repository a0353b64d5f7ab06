/- recv: release. -/
import Derived.Test.YthihabjegpacaaaGreatT6V
import Derived.Deep.RegionHeld3
namespace Go.Proofs.YthihabjegpacaaaGreat
open Go.RowKit
set_option linter.unusedVariables false
set_option linter.unusedSimpArgs false
set_option maxHeartbeats 8000000
set_option maxRecDepth 100000

section
variable {w W : World} {M : Nat → Prop} {b bk : Nat} {vh : Value} {E : List He} {S : Rv}
/-- What release leaves. -/
def RelP (w : World) (M : Nat → Prop) (b bk : Nat) (E : List He) (S : Rv) (W' : World) : Prop := ∃ vh' E', RA w M b bk vh' E' W' S ∧ HeOk S E' ∧ E'.length ≤ E.length

/-- How many go: the loop. -/
structure RL (W : World) (S : Rv) (A D : List He) (k : Nat) (X : World) : Prop where
  le : k ≤ A.length
  gr : W.grownBy X none

theorem release_nil (h : RA w M b bk (.slice none 0 0) [] W S) (hW : HeW S []) : Calls Tryz.prog 32 #[ptr b] W fun e W' => e = .returned (.tuple #[]) ∧ RelP w M b bk [] S W' := by
  obtain ⟨-, c1, -, -, -, c5, -, -⟩ := h.cells
  have t5 := h.blk.thaw 5
  have hcl := fun ty => Pq.clear_zero W ty none 0 0 rfl
  have hok : HeOk S [] := ⟨List.Pairwise.nil, fun e he => (by cases he), fun e he => (by cases he), hW.all, fun e he => (by cases he)⟩
  have h1 := h.put (S' := S) 5 (.slice none 0 0) rfl rfl
  have F : Hid (RelP w M b bk [] S ((W.setCell ⟨b, 5, none⟩ (.slice none 0 0)).setCell ⟨b, 5, none⟩ (.slice none 0 0))) := ⟨_, [], h1.put (S' := S) 5 (.slice none 0 0) rfl rfl, hok, Nat.le_refl _⟩
  have F2 : Hid (∀ q, RelP w M b bk [] S (((W.drewN q).setCell ⟨b, 5, none⟩ (.slice none 0 0)).setCell ⟨b, 5, none⟩ (.slice none 0 0))) := fun q => by
    have g : W.grownBy (W.drewN q) none := grown_drewN _ _
    have hq := h.grown g
    exact ⟨_, [], (hq.put (S' := S) 5 (.slice none 0 0) rfl rfl).put (S' := S) 5 (.slice none 0 0) rfl rfl, hok, Nat.le_refl _⟩
  have h15 := h1.cells.2.2.2.2.2.1
  have H15 := hide h15
  have t5' := h1.blk.thaw 5
  clear h hW h1 hok
  go_enter Tryz.func32, Tryz.ntmps32
  go_wp2_with fail
  go_loopw [2] (fun nv X => nv = .int .i64 0 ∧ X = W) (fun _ _ => 0)
  case atStart => exact ⟨rfl, rfl⟩
  case round =>
    obtain ⟨rfl, hX⟩ := hrel
    subst hX
    go_upto_region 1 with fail
    go_quiet (fail)
    rename_i nq
    have hcl2 := fun ty => Pq.clear_zero (wr.drewN nq) ty none 0 0 rfl
    have c5q : (wr.drewN nq).cell? ⟨b, 5, none⟩ = some (.slice none 0 0) := c5
    have t5q : (wr.drewN nq).frozen? ⟨b, 5, none⟩ = false := t5
    go_wp2_with (at_builtin; refine wpList_clear_run _ rfl _ 51 rfl _ rfl (hcl2 _) ?_)
    all_goals refine bodyPost_ret (results_none rfl _ _ _) rfl ?_
    all_goals exact ⟨rfl, unhide F2 nq⟩

set_option maxHeartbeats 16000000 in
theorem release_some {g : Nat} {pr : List Value} {c : Nat} {sp : List Value} (h : RA w M b bk (.slice (some ⟨g, pr.length, none⟩) E.length c) E W S) (hR : Pq.RowAt W g pr c (E.map pcOf) sp) (hW : HeW S E) (nE : E.length ≤ 100000000) (r0 : 0 ≤ S.read ∧ S.read ≤ 4611686018427387903) :
    Calls Tryz.prog 32 #[ptr b] W fun e W' => e = .returned (.tuple #[]) ∧ RelP w M b bk E S W' := by
  obtain ⟨A, D, hED, hA, hD⟩ := hW.part
  obtain ⟨-, c1, -, -, -, c5, -, -⟩ := h.cells
  have hcells : ∀ i x, E[i]? = some x → W.cell? ⟨g, pr.length + i * 2, none⟩ = some (.int .i64 x.off) ∧ W.cell? ⟨g, pr.length + i * 2 + 1, none⟩ = some (.slice (some ⟨x.g, 0, none⟩) x.p.length x.p.length) := fun i x hx => by
    have hx' : (E.map pcOf)[i]? = some (pcOf x) := by rw [List.getElem?_map, hx]; rfl
    exact ⟨hR.cell _ _ (Pq.cl_off _ i _ hx'), by rw [Nat.add_assoc]; exact hR.cell _ _ (Pq.cl_data _ i _ hx')⟩
  have lE : E.length = A.length + D.length := by rw [hED]; simp
  have lc : E.length ≤ c ∧ c ≤ 9223372036854775807 := by have := hR.2.1; have := hR.2.2; rw [List.length_map] at *; unfold maxLen at *; omega
  obtain ⟨len, hlen⟩ : ∃ len, len = E.length := ⟨_, rfl⟩
  obtain ⟨na, hna⟩ : ∃ na, na = A.length := ⟨_, rfl⟩
  obtain ⟨q, hq⟩ : ∃ q, q = pr.length := ⟨_, rfl⟩
  rw [← hlen, ← hq] at c5
  have LL := hide (And.intro hlen (And.intro hna hq))
  have H := hide h
  have HR := hide hR
  have HW := hide hW
  have HC := hide hcells
  have PT := hide (And.intro hED (And.intro hA hD))
  have b0 : (na : Int) ≤ (len : Int) := by omega
  have b1 : (len : Int) ≤ (c : Int) := by omega
  have b2 : (na : Int) ≤ (c : Int) := by omega
  have b3 : (len : Int) ≤ 100000000 := by omega
  have C1 := hide c1
  have C5 := hide c5
  clear h hR hW hcells hED hA hD hlen hna hq lE nE
  -- what follows the loop
  have AFT : Hid (∀ X, W.grownBy X none → ∃ Z W', (∀ ty cc, (Builtin.clear_ #[51] ty #[.slice (some ⟨g, q, none⟩) na cc]).run Tryz.prog X = .ok (.tuple #[]) W') ∧ Z.length = na * 2 ∧ Pq.RowAt W' g (pr ++ Z) (c - na) (D.map pcOf) sp ∧ X.grownBy W' (some g) ∧ (RA w M b bk (.slice (some ⟨g, pr.length, none⟩) E.length c) E X S) ∧ (∀ {j : Nat} {cs : Array Value} {tt : TypeId}, Blk X j cs tt → tt ≠ 88 → W'.heap[j]? = X.heap[j]?) ∧ Kp M w W') := fun X gX => by
    have hX := (unhide H).grown gX
    have hRX : Pq.RowAt X g pr c (A.map pcOf ++ D.map pcOf) sp := by
      have hb : Blk W g _ _ := (unhide HR).1
      refine ⟨?_, ?_, (unhide HR).2.2⟩
      · have := hb.grown gX; rw [(unhide PT).1, List.map_append] at this; exact this
      · have := (unhide HR).2.1; rw [(unhide PT).1, List.map_append] at this; exact this
    obtain ⟨Z, W', k1, k2, k3, k4⟩ := Pq.clear_row hRX
    rw [List.length_map, ← (unhide LL).2.1] at k1 k2 k3
    rw [← (unhide LL).2.2] at k1
    have kb : ∀ {j : Nat} {cs : Array Value} {tt : TypeId}, Blk X j cs tt → tt ≠ 88 → W'.heap[j]? = X.heap[j]? := fun {j cs tt} hb ht => k4.block j hb.lt (fun e => by injection e with e; exact heap_ne (show X.heap[j]? = some (.cells cs tt (0, 0)) from hb) hRX.1 ht e)
    refine ⟨Z, W', k1, k2, k3, k4, hX, kb, hX.kp.then (S' := fun k => k = g) (Kp.grownS k4 rfl) (fun k hk e => ?_)⟩
    subst e
    exact (hX.mh k rfl).resolve_right (by omega)
  go_enter Tryz.func32, Tryz.ntmps32
  go_wp2_with fail
  go_loopw [2] (fun nv X => ∃ k : Nat, k ≤ na ∧ nv = .int .i64 k ∧ Hid (W.grownBy X none)) (fun nv _ => na - (intOf nv).toNat)
  case atStart => exact ⟨0, Nat.zero_le _, rfl, grown_self _ _⟩
  case round =>
    obtain ⟨k, hk, rfl, I⟩ := hrel
    obtain ⟨X, hX⟩ : ∃ X, X = wr := ⟨_, rfl⟩
    subst hX
    have gX := unhide I
    have x1 := cell_grown (unhide C1) gX
    have x5 := cell_grown (unhide C5) gX
    have ll := unhide LL
    by_cases hlt : k < len
    · have hkE : k < E.length := by rw [← ll.1]; exact hlt
      obtain ⟨x, hx⟩ : ∃ x, E[k]? = some x := ⟨_, List.getElem?_eq_getElem hkE⟩
      have hxm := List.mem_of_getElem? hx
      have hc := unhide HC k x hx
      rw [← ll.2.2] at hc
      have y0 := cell_grown hc.1 gX
      have y1 := cell_grown hc.2 gX
      have hkn : (k : Int) < (len : Int) := by omega
      have px := (unhide HW).pos x hxm
      have htx : x.till = x.off + x.p.length := rfl
      have hend := fun Z => end_any x.off (some ⟨x.g, 0, none⟩) x.p.length x.p.length Z (by omega)
      rw [← htx] at hend
      have KP : Hid (∀ Z, X.grownBy Z none → W.grownBy Z none ∧ Z.cell? ⟨b, 5, none⟩ = some (.slice (some ⟨g, q, none⟩) len c) ∧ Z.cell? ⟨b, 1, none⟩ = some (.int .i64 S.read) ∧ Z.cell? ⟨g, q + k * 2, none⟩ = some (.int .i64 x.off) ∧ Z.cell? ⟨g, q + k * 2 + 1, none⟩ = some (.slice (some ⟨x.g, 0, none⟩) x.p.length x.p.length)) := fun Z gz => ⟨grown_trans gX gz, cell_grown x5 gz, cell_grown x1 gz, cell_grown y0 gz, cell_grown y1 gz⟩
      have KA : Hid (k < na → x.till ≤ S.read) := fun hl => by
        have : x ∈ A := by
          have := hx
          rw [(unhide PT).1, List.getElem?_append_left (by omega)] at this
          exact List.mem_of_getElem? this
        exact (unhide PT).2.1 x this
      have KD : Hid (k = na → S.read < x.till) := fun hl => by
        have : x ∈ D := by
          have := hx
          rw [(unhide PT).1, List.getElem?_append_right (by omega)] at this
          exact List.mem_of_getElem? this
        exact ((unhide PT).2.2.pos x this).2.2
      have k1 : IntKind.i64.wrap ((k : Int) + 1) = ((k + 1 : Nat) : Int) := by rw [IntKind.wrap_i64]; omega
      have hx2 := hide hx
      clear hc hxm hx hkE htx px
      have HK := hide hk
      by_cases hka : k < na
      · have d := unhide KA hka
        have HKA := hide hka
        clear KA KD hka hk hlt ll AFT
        generalize x.till = xt at *
        go_upto_region 1 with fail
        go_region_held3 (fun Z => Z.cell? ⟨b, 5, none⟩ = some (.slice (some ⟨g, q, none⟩) len c) ∧ Z.cell? ⟨b, 1, none⟩ = some (.int .i64 S.read) ∧ Z.cell? ⟨g, q + k * 2, none⟩ = some (.int .i64 x.off) ∧ Z.cell? ⟨g, q + k * 2 + 1, none⟩ = some (.slice (some ⟨x.g, 0, none⟩) x.p.length x.p.length)) (go_keep) (first | (go_at_call 52; refine (hend _).mono ?_; rintro e Z ⟨rfl, gz⟩; obtain ⟨G3, v0, v1, v2, v3⟩ := unhide KP Z ⟨gz.os, gz.tape, gz.output, gz.size, gz.block⟩))
        go_wp2_with fail
        all_goals exact ⟨⟨k + 1, unhide HKA, by go_num, G3⟩, by simp [intOf]; have := unhide HKA; omega⟩
      · have hke : k = na := by omega
        have d := unhide KD hke
        have HKE := hide hke
        have dn : ¬ x.till ≤ S.read := by omega
        clear KA KD hka hk hlt ll hke
        have AF := AFT
        clear AFT
        generalize x.till = xt at *
        go_upto_region 1 with fail
        go_region_held3 (fun Z => Z.cell? ⟨b, 5, none⟩ = some (.slice (some ⟨g, q, none⟩) len c) ∧ Z.cell? ⟨b, 1, none⟩ = some (.int .i64 S.read) ∧ Z.cell? ⟨g, q + k * 2, none⟩ = some (.int .i64 x.off) ∧ Z.cell? ⟨g, q + k * 2 + 1, none⟩ = some (.slice (some ⟨x.g, 0, none⟩) x.p.length x.p.length)) (go_keep) (first | (go_at_call 52; refine (hend _).mono ?_; rintro e Z ⟨rfl, gz⟩; obtain ⟨G3, v0, v1, v2, v3⟩ := unhide KP Z ⟨gz.os, gz.tape, gz.output, gz.size, gz.block⟩))
        go_upto_region 3 with fail
        obtain ⟨ZZ, W', hcl, lZ, hrow, g4, hXr, kb, kz⟩ := unhide AF Z G3
        have hke := unhide HKE
        rw [← hke] at hcl lZ hrow
        have ll := unhide LL
        have lt1 : k < len := by omega
        have hDne : D ≠ [] := fun q => by have := (unhide PT).1; rw [q, List.append_nil] at this; have := congrArg List.length this; omega
        obtain ⟨x2, D2, eD⟩ : ∃ x D', D = x :: D' := by
          cases hd : D with
          | nil => exact absurd hd hDne
          | cons x D' => exact ⟨x, D', rfl⟩
        have hxx : x2 = x := by
          have h1 := unhide hx2
          rw [(unhide PT).1, List.getElem?_append_right (by omega), show k - A.length = 0 by omega, eD] at h1
          simpa using h1
        subst hxx
        have lpz : (pr ++ ZZ).length = q + k * 2 := by rw [List.length_append, lZ, ll.2.2]
        have bW' : Blk W' b (rvc bk (.slice (some ⟨g, pr.length, none⟩) E.length c) S) 53 := (kb hXr.blk (by decide)).trans hXr.blk
        obtain ⟨W5, hW5⟩ : ∃ W5, W5 = W'.setCell ⟨b, 5, none⟩ (.slice (some ⟨g, q + k * 2, none⟩) (len - k) (c - k)) := ⟨_, rfl⟩
        have o : ∀ {j : Nat}, j ≠ b → W5.heap[j]? = W'.heap[j]? := fun hj => by rw [hW5]; exact set_heap _ _ _ _ _ hj
        have bW5 : Blk W5 b (rvc bk (.slice (some ⟨g, q + k * 2, none⟩) (len - k) (c - k)) S) 53 := by rw [hW5]; have := bW'.setC 5 (.slice (some ⟨g, q + k * 2, none⟩) (len - k) (c - k)); exact this
        have gb : g ≠ b := fun e => by
          have h1 := hrow.1
          rw [e] at h1
          have h2 : W'.heap[b]? = some (.cells _ 53 (0, 0)) := bW'
          rw [h1] at h2
          injection h2 with h2
          injection h2 with _ h2
          exact absurd h2 (by decide)
        have row5 : Pq.RowAt W5 g (pr ++ ZZ) (c - k) (D.map pcOf) sp := ⟨(o gb).trans hrow.1, hrow.2⟩
        have lD : D.length = len - k := by
          have := congrArg List.length (unhide PT).1
          rw [List.length_append] at this
          omega
        have R5 : RA w M b bk (.slice (some ⟨g, q + k * 2, none⟩) (len - k) (c - k)) D W5 S := by
          refine hXr.setX (by rw [hW5]; exact kz.set b 5 _ (or_lt hXr.mb)) bW5 (fun {j cs tt} hb ht hj => (o hj).trans (kb hb ht)) (.inr ⟨g, pr ++ ZZ, c - k, sp, by rw [lpz, List.length_map, lD], row5⟩) (fun e he => ?_) (fun gg e => hXr.mh gg e)
          have he' : e ∈ E := by rw [(unhide PT).1]; exact List.mem_append_right _ he
          have pe := hXr.pcs e he'
          exact ⟨((o (heap_ne pe.1 hXr.blk (by decide))).trans (kb pe.1 (by decide))).trans pe.1, pe.2⟩
        have F1 : Hid (∀ nq, RelP w M b bk E S (W5.drewN nq)) := fun nq => ⟨_, D, R5.grown (grown_drewN _ _), (unhide PT).2.2, by omega⟩
        have f0 : W5.cell? ⟨g, q + k * 2, none⟩ = some (.int .i64 x2.off) := by
          have := row5.cell 0 _ (Pq.cl_off (D.map pcOf) 0 (pcOf x2) (by rw [eD]; rfl))
          rw [lpz] at this; exact this
        have f1 : W5.cell? ⟨g, q + k * 2 + 1, none⟩ = some (.slice (some ⟨x2.g, 0, none⟩) x2.p.length x2.p.length) := by
          have := row5.cell 1 _ (Pq.cl_data (D.map pcOf) 0 (pcOf x2) (by rw [eD]; rfl))
          rw [lpz] at this; exact this
        have f5 : W5.cell? ⟨b, 5, none⟩ = some (.slice (some ⟨g, q + k * 2, none⟩) (len - k) (c - k)) := bW5.cell 5 _ rfl
        have fr : W5.cell? ⟨b, 1, none⟩ = some (.int .i64 S.read) := bW5.cell 1 _ rfl
        have e5 : W'.cell? ⟨b, 5, none⟩ = some (.slice (some ⟨g, q, none⟩) len c) := by rw [ll.2.2, ll.1]; exact bW'.cell 5 _ rfl
        have t5 := bW'.thaw 5
        have px2 := (unhide HW).pos x2 (by rw [(unhide PT).1, eD]; simp)
        have htx2 : x2.till = x2.off + x2.p.length := rfl
        have plen : 0 < x2.p.length := List.length_pos_iff.2 px2.2.1
        have q1 : (k : Int) ≤ (len : Int) := by omega
        have q2 : (k : Int) ≤ (c : Int) := by omega
        have q3 : ¬ (c = k) := by omega
        have q4 : ¬ (((len - k : Nat) : Int) = 0) := by omega
        have q5 : (0 : Int) < ((len - k : Nat) : Int) := by omega
        have wg : IntKind.i64.wrap (S.read - x2.off) = S.read - x2.off := by rw [IntKind.wrap_i64]; omega
        have wg2 : IntKind.i64.wrap (2 * (S.read - x2.off)) = 2 * (S.read - x2.off) := by rw [IntKind.wrap_i64]; omega
        have KEEP := hide (And.intro R5 (And.intro row5 (And.intro lpz (And.intro eD (And.intro plen (And.intro px2 (And.intro lD hke)))))))
        have HB5 := hide bW5
        clear hke hrow g4 hXr kb kz lt1 hDne lZ bW' o bW5 gb row5 lD R5 px2 htx2 plen ll AF hend KP v0 v1 v2 v3 d dn eD lpz
        go_wp2_with (at_builtin; refine wpList_clear_run _ rfl _ 51 rfl _ rfl (hcl _ _) ?_)
        rw [← hW5]
        replace hW5 := hide hW5
        clear hcl e5 t5
        go_quiet (fail)
        rename_i nq
        have u0 : (W5.drewN nq).cell? ⟨g, q + k * 2, none⟩ = some (.int .i64 x2.off) := f0
        have u1 : (W5.drewN nq).cell? ⟨g, q + k * 2 + 1, none⟩ = some (.slice (some ⟨x2.g, 0, none⟩) x2.p.length x2.p.length) := f1
        have ur : (W5.drewN nq).cell? ⟨b, 1, none⟩ = some (.int .i64 S.read) := fr
        clear f0 f1 f5 fr
        obtain ⟨W6, hW6⟩ : ∃ W6, W6 = W5.drewN nq := ⟨_, rfl⟩
        have FN := unhide F1 nq
        have K6 : Hid (RA w M b bk (.slice (some ⟨g, q + k * 2, none⟩) (len - k) (c - k)) D W6 S ∧ Pq.RowAt W6 g (pr ++ ZZ) (c - k) (D.map pcOf) sp ∧ Blk W6 b (rvc bk (.slice (some ⟨g, q + k * 2, none⟩) (len - k) (c - k)) S) 53) := by
          have k5 := unhide KEEP
          rw [hW6]
          exact ⟨k5.1.grown (grown_drewN _ _), k5.2.1, unhide HB5⟩
        rw [← hW6] at u0 u1 ur FN ⊢
        replace hW6 := hide hW6
        have FN := hide FN
        by_cases hgo : (x2.p.length : Int) ≤ 2 * (S.read - x2.off)
        · obtain ⟨-, -, lpz, eD, plen, px2, lD, hke⟩ := unhide KEEP
          obtain ⟨gn, hgn⟩ : ∃ gn : Nat, (gn : Int) = S.read - x2.off := ⟨(S.read - x2.off).toNat, by omega⟩
          have hD0 := ((unhide PT).2.2.pos x2 (by rw [eD]; simp)).2.2
          have htx2 : x2.till = x2.off + x2.p.length := rfl
          have gl : gn < x2.p.length := by omega
          have hrx : S.read - x2.off = (gn : Int) := hgn.symm
          have hsz := (unhide PT).2.2.sz x2 (by rw [eD]; simp)
          have pg := ((unhide K6).1.pcs x2 (by rw [eD]; simp)).1
          have hown := own_any W6.drew ⟨x2.g, gn, none⟩ (x2.p.length - gn) (x2.p.length - gn) (x2.p.drop gn) (fun jj y hj => by
            rw [List.getElem?_drop] at hj
            rw [Addr.add_lit]
            exact pg.cell (gn + jj) _ (by8_get _ _ _ hj)) List.length_drop (by omega) (fun _ _ => pg.lt)
          have z1 : (gn : Int) ≤ (x2.p.length : Int) := by omega
          have z2 : ¬ (x2.p.length = gn) := by omega
          have tg : ∀ Y, W6.grownBy Y none → Pq.RowAt Y g (pr ++ ZZ) (c - k) (D.map pcOf) sp ∧ Y.frozen? ⟨g, q + k * 2, none⟩ = false ∧ Y.frozen? ⟨g, q + k * 2 + 1, none⟩ = false ∧ Y.cell? ⟨b, 1, none⟩ = some (.int .i64 S.read) ∧ Y.cell? ⟨g, q + k * 2, none⟩ = some (.int .i64 x2.off) ∧ Y.cell? ⟨g, q + k * 2 + 1, none⟩ = some (.slice (some ⟨x2.g, 0, none⟩) x2.p.length x2.p.length) := fun Y gy => by
            have hb : Blk W6 g _ _ := (unhide K6).2.1.1
            have hb2 := hb.grown gy
            exact ⟨⟨hb2, (unhide K6).2.1.2⟩, hb2.thaw _, hb2.thaw _, cell_grown ur gy, cell_grown u0 gy, cell_grown u1 gy⟩
          have FIN : Hid (∀ Y gN, W6.drew.grownBy Y none → gN = W6.heap.size → Blk Y gN (by8 (x2.p.drop gn)) 5 → RelP w M b bk E S ((Y.setCell ⟨g, q + k * 2, none⟩ (.int .i64 S.read)).setCell ⟨g, q + k * 2 + 1, none⟩ (.slice (some ⟨gN, 0, none⟩) (x2.p.length - gn) (x2.p.length - gn))) ∧ ((Y.setCell ⟨g, q + k * 2, none⟩ (.int .i64 S.read)).setCell ⟨g, q + k * 2 + 1, none⟩ (.slice (some ⟨gN, 0, none⟩) (x2.p.length - gn) (x2.p.length - gn))).cell? ⟨b, 1, none⟩ = some (.int .i64 S.read)) := fun Y gN gy' hgN bN => by
            have gy : W6.grownBy Y none := ⟨gy'.os, gy'.tape, gy'.output, gy'.size, gy'.block⟩
            have rY := (unhide K6).1.grown gy
            obtain ⟨rw', -⟩ := tg Y gy
            have hgb : g ≠ b := heap_ne rw'.1 rY.blk (by decide)
            have eo : (S.read - x2.off).toNat = gn := by omega
            have ed : (x2.p.drop gn).length = x2.p.length - gn := List.length_drop
            rw [eD, List.map_cons] at rw'
            have ov := rw'.over (x' := pcOf ⟨S.read, x2.p.drop gn, gN⟩)
            rw [lpz] at ov
            simp only [ed] at ov
            have o2 : ∀ {j : Nat}, j ≠ g → ((Y.setCell ⟨g, q + k * 2, none⟩ (.int .i64 S.read)).setCell ⟨g, q + k * 2 + 1, none⟩ (.slice (some ⟨gN, 0, none⟩) (x2.p.length - gn) (x2.p.length - gn))).heap[j]? = Y.heap[j]? := fun hj => (set_heap _ _ _ _ _ hj).trans (set_heap _ _ _ _ _ hj)
            have mg := rY.mh g rfl
            have bY : Blk ((Y.setCell ⟨g, q + k * 2, none⟩ (.int .i64 S.read)).setCell ⟨g, q + k * 2 + 1, none⟩ (.slice (some ⟨gN, 0, none⟩) (x2.p.length - gn) (x2.p.length - gn))) b (rvc bk (.slice (some ⟨g, q + k * 2, none⟩) (len - k) (c - k)) S) 53 := (o2 hgb.symm).trans rY.blk
            refine ⟨⟨_, ⟨S.read, x2.p.drop gn, gN⟩ :: D2, rY.setX ((rY.kp.set g (q + k * 2) _ (or_lt mg)).set g (q + k * 2 + 1) _ (or_lt mg)) bY (fun {j cs tt} hb ht hj => o2 (fun e => ht (by
              have h1 := rw'.1
              have h2 : Y.heap[j]? = some (.cells cs tt (0, 0)) := hb
              rw [e, h1] at h2
              injection h2 with h2
              injection h2 with _ h2
              exact h2.symm))) (.inr ⟨g, pr ++ ZZ, c - k, sp, by rw [lpz]; congr 1; rw [List.length_map, List.length_cons]; have := congrArg List.length eD; rw [List.length_cons] at this; omega, by rw [List.map_cons]; exact ov⟩) (fun e he => ?_) (fun gg e => rY.mh gg e), ?_, ?_⟩, bY.cell 1 _ rfl⟩
            · rcases List.mem_cons.1 he with rfl | he
              · refine ⟨(o2 (heap_ne bN rw'.1 (by decide))).trans bN, .inr ?_⟩
                show w.heap.size ≤ gN
                rw [hgN]
                exact (unhide K6).1.kp.size
              · have pe := rY.pcs e (by rw [eD]; exact List.mem_cons_of_mem _ he)
                exact ⟨(o2 (heap_ne pe.1 rw'.1 (by decide))).trans pe.1, pe.2⟩
            · have := (unhide PT).2.2
              rw [eD] at this
              have := this.first r0.1 (by omega) gN
              rw [eo] at this
              exact this
            · have := congrArg List.length eD
              have := congrArg List.length (unhide PT).1
              simp only [List.length_append, List.length_cons] at *
              omega
          obtain ⟨-, tf0, tf1, -, -, -⟩ := tg W6.drew (grown_drew' (grown_self _ _))
          have TG := hide tg
          clear tg pg hke lD lpz eD hD0 htx2 px2 plen hsz
          rw [hrx] at wg wg2 hgo
          have HRX := hide hrx
          generalize x2.p.length = xl at *
          generalize x2.off = xo at *
          rw [unhide HRX]
          clear hrx hgn
          go_upto_region 10 with fail
          refine wp_region_held_drew (S := fun Z => Z.cell? ⟨b, 1, none⟩ = some (.int .i64 S.read)) (by kernel_rfl) ur (fun hHeld => ?_)
          refine wpAnyH_take (i := 0) (v := ?_) rfl (by as_aux_lemma => kernel_rfl) (by as_aux_lemma => kernel_rfl) (by as_aux_lemma => kernel_rfl) (fun _ _ _ h => h) (Or.inl ⟨by rfl, ?_⟩) (by assumption) ?_
          rotate_left
          · intro wH hSw
            try dsimp only at hSw
            go_simp
            try with_reducible rfl
          try simp only [Act.put, List.setIfInBounds_toArray, List.set_cons_zero, List.set_cons_succ]
          refine wpAnyH_take (i := 1) (v := ?_) rfl (by as_aux_lemma => kernel_rfl) (by as_aux_lemma => kernel_rfl) (by as_aux_lemma => kernel_rfl) (fun _ _ _ h => h) (Or.inl ⟨by rfl, ?_⟩) (by assumption) ?_
          rotate_left
          · intro wH hSw
            try dsimp only at hSw
            go_simp
            try with_reducible rfl
          try simp only [Act.put, List.setIfInBounds_toArray, List.set_cons_zero, List.set_cons_succ]
          refine wpAnyH_take (i := 2) (v := ?_) rfl (by as_aux_lemma => kernel_rfl) (by as_aux_lemma => kernel_rfl) (by as_aux_lemma => kernel_rfl) (fun _ _ _ h => h) (Or.inl ⟨by rfl, ?_⟩) (by assumption) ?_
          rotate_left
          · intro wH hSw
            try dsimp only at hSw
            go_simp
            try with_reducible rfl
          try simp only [Act.put, List.setIfInBounds_toArray, List.set_cons_zero, List.set_cons_succ]
          refine wpAnyH_take (i := 3) (v := ?_) rfl (by as_aux_lemma => kernel_rfl) (by as_aux_lemma => kernel_rfl) (by as_aux_lemma => kernel_rfl) (fun _ _ _ h => h) (Or.inl ⟨by rfl, ?_⟩) (by assumption) ?_
          rotate_left
          · intro wH hSw
            try dsimp only at hSw
            go_simp
            try with_reducible rfl
          try simp only [Act.put, List.setIfInBounds_toArray, List.set_cons_zero, List.set_cons_succ]
          refine wpAnyH_take (i := 4) (v := ?_) rfl (by as_aux_lemma => kernel_rfl) (by as_aux_lemma => kernel_rfl) (by as_aux_lemma => kernel_rfl) (fun _ _ _ h => h) (Or.inl ⟨by rfl, ?_⟩) (by assumption) ?_
          rotate_left
          · intro wH hSw
            try dsimp only at hSw
            go_simp
            try with_reducible rfl
          try simp only [Act.put, List.setIfInBounds_toArray, List.set_cons_zero, List.set_cons_succ]
          refine wpAnyH_take (i := 5) (v := ?_) rfl (by as_aux_lemma => kernel_rfl) (by as_aux_lemma => kernel_rfl) (by as_aux_lemma => kernel_rfl) (fun _ _ _ h => h) (Or.inl ⟨by rfl, ?_⟩) (by assumption) ?_
          rotate_left
          · intro wH hSw
            try dsimp only at hSw
            go_simp
            try with_reducible rfl
          try simp only [Act.put, List.setIfInBounds_toArray, List.set_cons_zero, List.set_cons_succ]
          refine wpAnyH_take (i := 6) (v := ?_) rfl (by as_aux_lemma => kernel_rfl) (by as_aux_lemma => kernel_rfl) (by as_aux_lemma => kernel_rfl) (fun _ _ _ h => h) (Or.inl ⟨by rfl, ?_⟩) (by assumption) ?_
          rotate_left
          · intro wH hSw
            try dsimp only at hSw
            go_simp
            try with_reducible rfl
          try simp only [Act.put, List.setIfInBounds_toArray, List.set_cons_zero, List.set_cons_succ]
          refine wpAnyH_take (i := 7) (v := ?_) rfl (by as_aux_lemma => kernel_rfl) (by as_aux_lemma => kernel_rfl) (by as_aux_lemma => kernel_rfl) (fun _ _ _ h => h) (Or.inl ⟨by rfl, ?_⟩) (by assumption) ?_
          rotate_left
          · intro wH hSw
            try dsimp only at hSw
            go_simp
            try with_reducible rfl
          try simp only [Act.put, List.setIfInBounds_toArray, List.set_cons_zero, List.set_cons_succ]
          refine wpAnyH_take (i := 9) (v := ?_) rfl (by as_aux_lemma => kernel_rfl) (by as_aux_lemma => kernel_rfl) (by as_aux_lemma => kernel_rfl) (fun _ _ _ h => h) (Or.inl ⟨by rfl, ?_⟩) (by assumption) ?_
          rotate_left
          · intro wH hSw
            try dsimp only at hSw
            go_simp
            try with_reducible rfl
          try simp only [Act.put, List.setIfInBounds_toArray, List.set_cons_zero, List.set_cons_succ]
          refine wpAnyH_ready (rs := [8]) (by as_aux_lemma => kernel_rfl) (by simp) ?_
          refine AllReadyH.cons rfl (fun KH hKH => ?_) AllReadyH.nil
          go_simp
          refine hKH.out _ _ ur (fun hHeld8 => ?_)
          clear hKH KH
          try simp only [Act.put, List.setIfInBounds_toArray, List.set_cons_zero, List.set_cons_succ]
          refine wpAnyH_ready (rs := [10]) (by as_aux_lemma => kernel_rfl) (by simp) ?_
          refine AllReadyH.cons rfl (fun KH hKH => ?_) AllReadyH.nil
          go_simp
          refine hKH.out _ _ ur (fun hHeld10 => ?_)
          clear hKH KH
          try simp only [Act.put, List.setIfInBounds_toArray, List.set_cons_zero, List.set_cons_succ]
          refine wpAnyH_ready (rs := [11]) (by as_aux_lemma => kernel_rfl) (by simp) ?_
          refine AllReadyH.cons rfl (fun KH hKH => ?_) AllReadyH.nil
          go_simp
          refine hown.mono ?_
          rintro e Y ⟨rfl, bY, gY⟩
          obtain ⟨-, y0, y1, yr, yc0, yc1⟩ := unhide TG Y ⟨gY.os, gY.tape, gY.output, gY.size, gY.block⟩
          obtain ⟨RR, qF⟩ := unhide FIN Y _ gY rfl bY
          have RRH := hide RR
          clear RR hown bY gY
          refine hKH.out _ _ yr (fun hHeld11 => ?_)
          clear hKH KH
          try simp only [Act.put, List.setIfInBounds_toArray, List.set_cons_zero, List.set_cons_succ]
          refine wpAnyH_ready (rs := [12]) (by as_aux_lemma => kernel_rfl) (by simp) ?_
          refine AllReadyH.cons rfl (fun KH hKH => ?_) AllReadyH.nil
          go_simp
          refine hKH.out _ _ yr (fun hHeld12 => ?_)
          clear hKH KH
          try simp only [Act.put, List.setIfInBounds_toArray, List.set_cons_zero, List.set_cons_succ]
          refine wpAnyH_ready (rs := [13]) (by as_aux_lemma => kernel_rfl) (by simp) ?_
          refine AllReadyH.cons rfl (fun KH hKH => ?_) AllReadyH.nil
          go_simp
          refine hKH.out _ _ yr (fun hHeld13 => ?_)
          clear hKH KH
          try simp only [Act.put, List.setIfInBounds_toArray, List.set_cons_zero, List.set_cons_succ]
          refine wpAnyH_ready (rs := [14]) (by as_aux_lemma => kernel_rfl) (by simp) ?_
          refine AllReadyH.cons rfl (fun KH hKH => ?_) AllReadyH.nil
          go_simp
          refine hKH.out _ _ qF (fun hHeld14 => ?_)
          clear hKH KH
          try simp only [Act.put, List.setIfInBounds_toArray, List.set_cons_zero, List.set_cons_succ]
          refine wpAnyH_done (by as_aux_lemma => kernel_rfl) ?_ _
          go_wp2_with fail
          all_goals refine bodyPost_end (results_none rfl _ _ _) rfl ?_
          all_goals exact ⟨rfl, unhide RRH⟩
        · have hgo2 : ¬ (x2.p.length : Int) ≤ 2 * (S.read - x2.off) := hgo
          clear KEEP F1 K6
          generalize x2.p.length = xl at *
          generalize x2.off = xo at *
          go_wp2_with fail
          all_goals refine bodyPost_end (results_none rfl _ _ _) rfl ?_
          all_goals exact ⟨rfl, unhide FN⟩
    · obtain rfl : k = len := by omega
      have hkl : k = k := rfl
      have hnl : na = k := by omega
      have hD0 : D = [] := by
        have := congrArg List.length (unhide PT).1
        rw [List.length_append] at this
        exact List.length_eq_zero_iff.1 (by omega)
      have dn : decide ((k : Int) < (k : Int)) = false := decide_eq_false (by omega)
      have HKL := hide (And.intro hkl hnl)
      have q2 : (k : Int) ≤ (c : Int) := by omega
      have HD0 := hide hD0
      clear hkl hnl hlt hk hD0
      go_upto_region 1 with fail
      go_quiet (fail)
      rename_i nq
      obtain ⟨ZZ, W', hcl, lZ, hrow, g4, hXr, kb, kz⟩ := unhide AFT (X.drewN nq) (grown_trans gX (grown_drewN _ _))
      rw [(unhide HKL).2] at hcl
      have bW' : Blk W' b (rvc bk (.slice (some ⟨g, pr.length, none⟩) E.length c) S) 53 := (kb hXr.blk (by decide)).trans hXr.blk
      have e5 : W'.cell? ⟨b, 5, none⟩ = some (.slice (some ⟨g, q, none⟩) k c) := by rw [ll.2.2, ll.1]; exact bW'.cell 5 _ rfl
      have t5 := bW'.thaw 5
      have x5q : (X.drewN nq).cell? ⟨b, 5, none⟩ = some (.slice (some ⟨g, q, none⟩) k c) := x5
      have hokD : HeOk S [] := by have := (unhide PT).2.2; rw [unhide HD0] at this; exact this
      have FIN : Hid (∀ v1, RelP w M b bk E S ((W'.setCell ⟨b, 5, none⟩ v1).setCell ⟨b, 5, none⟩ (.slice none 0 0))) := fun v1 => by
        have b1 : Blk (W'.setCell ⟨b, 5, none⟩ v1) b (rvc bk v1 S) 53 := by have := bW'.setC 5 v1; exact this
        have b2 : Blk ((W'.setCell ⟨b, 5, none⟩ v1).setCell ⟨b, 5, none⟩ (.slice none 0 0)) b (rvc bk (.slice none 0 0) S) 53 := by have := b1.setC 5 (.slice none 0 0); exact this
        exact ⟨.slice none 0 0, [], hXr.setX ((kz.set b 5 _ (or_lt hXr.mb)).set b 5 _ (or_lt hXr.mb)) b2 (fun {j cs tt} hb ht hj => ((set_heap _ _ _ _ _ hj).trans (set_heap _ _ _ _ _ hj)).trans (kb hb ht)) (Pq.row_nil _) (fun e he => (by cases he)) (fun gg e => (by cases e)), hokD, Nat.zero_le _⟩
      clear AFT hrow g4 hXr kb kz lZ bW' hokD ll x1 x5
      by_cases hck : c = k
      · go_wp2_with (at_builtin; refine wpList_clear_run _ rfl _ 51 rfl _ rfl (hcl _ _) ?_)
        all_goals refine bodyPost_ret (results_none rfl _ _ _) rfl ?_
        all_goals exact ⟨rfl, unhide FIN _⟩
      · go_wp2_with (at_builtin; refine wpList_clear_run _ rfl _ 51 rfl _ rfl (hcl _ _) ?_)
        all_goals refine bodyPost_ret (results_none rfl _ _ _) rfl ?_
        all_goals exact ⟨rfl, unhide FIN _⟩

theorem release_at (h : RA w M b bk vh E W S) (hW : HeW S E) (nE : E.length ≤ 100000000) (r0 : 0 ≤ S.read ∧ S.read ≤ 4611686018427387903) :
    Calls Tryz.prog 32 #[ptr b] W fun e W' => e = .returned (.tuple #[]) ∧ RelP w M b bk E S W' := by
  have hr := h.row
  rcases hr with ⟨e1, e2⟩ | ⟨g, pr, c, sp, e1, hR⟩
  · have : E = [] := List.map_eq_nil_iff.1 e2
    subst this
    subst e1
    exact release_nil h hW
  · rw [List.length_map] at e1
    subst e1
    exact release_some h hR hW nE r0
end
end Go.Proofs.YthihabjegpacaaaGreat
