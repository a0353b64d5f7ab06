/- L5A, L5B, L5C, L5D, L5E, one text. -/
import Derived.Test.YtnflbefbgcbdfaaGreatL8H
import Derived.BigQuiet
import Derived.Great.BuildSlice
namespace Go.Proofs.YtnflbefbgcbdfaaGreat
open Go.RowKit
set_option linter.unusedVariables false
set_option linter.unusedSimpArgs false
set_option maxRecDepth 100000
set_option maxHeartbeats 1000000

/-- A run, told from the next number down. -/
def belowF (next : Int) (r : Sp) : Sp := (IntKind.i64.wrap (next - r.2), IntKind.i64.wrap (next - r.1))
def BlI (X : World) (next : Int) (rs : List Sp) (n : Nat) (ov iv : Value) (wr : World) : Prop :=
  ∃ (k : Nat) (v : Value), k ≤ n ∧ v = ov ∧ iv = .int .i64 k ∧ Hid (Row wr v ((rs.take k).map (belowF next)) ∧ Fresh X v ∧ X.grownBy wr none)

theorem below_any (next : Int) (a : Option Addr) (n c : Nat) (rs : List Sp) (X : World) (hn : n = rs.length) (hn8 : n ≤ 1100000) (hr : RdS X a rs) :
    Calls Tryz.prog 14 #[.int .i64 next, .slice a n c] X fun e Y => ∃ v, e = .returned v ∧ Row Y v (rs.map (belowF next)) ∧ Fresh X v ∧ X.grownBy Y none := by
  have HN := hide (And.intro hn hn8)
  have HR := hide hr
  have lenI : ¬ (9223372036854775807 : Int) < (n : Int) := by omega
  clear hr hn hn8
  go_enter Tryz.func14, Tryz.ntmps14
  go_wp2_with fail
  go_loopw [5, 6] (fun ov iv wr => BlI X next rs n ov iv wr) (fun _ iv _ => n - (intOf iv).toNat)
  case atStart => exact ⟨0, _, Nat.zero_le _, rfl, rfl, row_nil _, fresh_nil _, grown_self _ _⟩
  case round =>
    obtain ⟨k, v, hk, rfl, rfl, I⟩ := hrel
    by_cases hlt : k < n
    · have hkI : (k : Int) < (n : Int) := by omega
      have hk0 : (0 : Int) ≤ (k : Int) := by omega
      obtain ⟨hrow, hf, gr⟩ := unhide I
      obtain ⟨r, hx⟩ : ∃ r, rs[k]? = some r := ⟨_, List.getElem?_eq_getElem (by rw [← (unhide HN).1]; exact hlt)⟩
      have hne : rs ≠ [] := fun e => by rw [e] at hx; simp at hx
      obtain ⟨g, off, hag, rd2⟩ := (unhide HR).resolve_left hne
      subst hag
      obtain ⟨y0, y1⟩ := rd2 k r hx
      have q0 : wr.drew.cell? ⟨g, off + k * 2, none⟩ = some (.int .i64 r.1) ∧ wr.drew.cell? ⟨g, off + k * 2 + 1, none⟩ = some (.int .i64 r.2) := ⟨cell_grown y0 (grown_drew' gr), cell_grown y1 (grown_drew' gr)⟩
      obtain ⟨x, hxx⟩ : ∃ x, x = IntKind.i64.wrap (next - r.2) := ⟨_, rfl⟩
      obtain ⟨y, hyy⟩ : ∃ y, y = IntKind.i64.wrap (next - r.1) := ⟨_, rfl⟩
      have hl1 : ((rs.take k).map (belowF next)).length = k := by rw [List.length_map, List.length_take, ← (unhide HN).1]; omega
      have gA := grown_trans (grown_drew' gr) (grown_alloc wr.drew (.cells #[.int .i64 x, .int .i64 y] 63))
      have bA : Blk (wr.drew.alloc (.cells #[.int .i64 x, .int .i64 y] 63)) wr.drew.heap.size #[.int .i64 x, .int .i64 y] 63 := Blk.new _ _ _
      have hrA : Row (wr.drew.alloc (.cells #[.int .i64 x, .int .i64 y] 63)) v ((rs.take k).map (belowF next)) := row_kept hrow fun g e => (grown_trans (grown_drew' (grown_self wr none)) (grown_alloc wr.drew (.cells #[.int .i64 x, .int .i64 y] 63))).block g (row_lt hrow g e) (by simp)
      obtain ⟨v', W', hap, hr', hmv, -⟩ := app2 _ v _ [(x, y)] 47 hrA ⟨wr.drew.heap.size, 0, none⟩ 1 (fun j u hj => by
        rw [Addr.add_lit, Nat.zero_add]
        refine bA.cell j u ?_
        simpa [cl] using hj) (by simp) (by rw [hl1]; simp; have := (unhide HN).2; omega)
      obtain ⟨gW, hf'⟩ := Moved.fresh gA hf hmv
      have qA : (wr.drew.alloc (.cells #[.int .i64 x, .int .i64 y] 63)).cell? ⟨g, off + k * 2, none⟩ = some (.int .i64 r.1) ∧ (wr.drew.alloc (.cells #[.int .i64 x, .int .i64 y] 63)).cell? ⟨g, off + k * 2 + 1, none⟩ = some (.int .i64 r.2) := ⟨cell_grown y0 gA, cell_grown y1 gA⟩
      have qW : W'.cell? ⟨g, off + k * 2, none⟩ = some (.int .i64 r.1) ∧ W'.cell? ⟨g, off + k * 2 + 1, none⟩ = some (.int .i64 r.2) := ⟨cell_grown y0 gW, cell_grown y1 gW⟩
      obtain ⟨va, vc, hva⟩ : ∃ va vc, v = .slice va k vc := by
        obtain ⟨va, vc, e, -⟩ := rds_row hrow
        rw [hl1] at e
        exact ⟨va, vc, e⟩
      subst hva
      have NX : Hid (Row W' v' ((rs.take (k + 1)).map (belowF next)) ∧ Fresh X v' ∧ X.grownBy W' none) := by
        refine ⟨?_, hf', gW⟩
        rw [take_at hx, List.map_append]
        rw [hxx, hyy] at hr'
        exact hr'
      have hsub1 : IntKind.i64.wrap (next - r.2) = x := hxx.symm
      have hsub2 : IntKind.i64.wrap (next - r.1) = y := hyy.symm
      clear hrow hf gr rd2 y0 y1 hl1 gA bA hrA hr' hmv gW hf' hxx hyy hne hx I
      go_upto_region 5 with fail
      refine wp_region_held_drew (S := fun Z => Z.cell? ⟨g, off + k * 2, none⟩ = some (.int .i64 r.1) ∧ Z.cell? ⟨g, off + k * 2 + 1, none⟩ = some (.int .i64 r.2)) (by kernel_rfl) q0 (fun hHeld => ?_)
      refine wpAnyH_take (i := 0) (v := ?_) rfl (by as_aux_lemma => kernel_rfl) (by as_aux_lemma => kernel_rfl) (by as_aux_lemma => kernel_rfl) (fun _ _ _ h => h) (Or.inl ⟨by rfl, ?_⟩) (by assumption) ?_
      rotate_left
      · intro wH hSw
        try dsimp only at hSw
        obtain ⟨s0q, s1q⟩ := hSw
        go_simp
        try with_reducible rfl
      try simp only [Act.put, List.setIfInBounds_toArray, List.set_cons_zero, List.set_cons_succ]
      refine wpAnyH_take (i := 1) (v := ?_) rfl (by as_aux_lemma => kernel_rfl) (by as_aux_lemma => kernel_rfl) (by as_aux_lemma => kernel_rfl) (fun _ _ _ h => h) (Or.inl ⟨by rfl, ?_⟩) (by assumption) ?_
      rotate_left
      · intro wH hSw
        try dsimp only at hSw
        obtain ⟨s0q, s1q⟩ := hSw
        go_simp
        try with_reducible rfl
      try simp only [Act.put, List.setIfInBounds_toArray, List.set_cons_zero, List.set_cons_succ]
      refine wpAnyH_take (i := 2) (v := ?_) rfl (by as_aux_lemma => kernel_rfl) (by as_aux_lemma => kernel_rfl) (by as_aux_lemma => kernel_rfl) (fun _ _ _ h => h) (Or.inl ⟨by rfl, ?_⟩) (by assumption) ?_
      rotate_left
      · intro wH hSw
        try dsimp only at hSw
        obtain ⟨s0q, s1q⟩ := hSw
        go_simp
        try with_reducible rfl
      try simp only [Act.put, List.setIfInBounds_toArray, List.set_cons_zero, List.set_cons_succ]
      refine wpAnyH_take (i := 3) (v := ?_) rfl (by as_aux_lemma => kernel_rfl) (by as_aux_lemma => kernel_rfl) (by as_aux_lemma => kernel_rfl) (fun _ _ _ h => h) (Or.inl ⟨by rfl, ?_⟩) (by assumption) ?_
      rotate_left
      · intro wH hSw
        try dsimp only at hSw
        obtain ⟨s0q, s1q⟩ := hSw
        go_simp
        try with_reducible rfl
      try simp only [Act.put, List.setIfInBounds_toArray, List.set_cons_zero, List.set_cons_succ]
      refine wpAnyH_take (i := 4) (v := ?_) rfl (by as_aux_lemma => kernel_rfl) (by as_aux_lemma => kernel_rfl) (by as_aux_lemma => kernel_rfl) (fun _ _ _ h => h) (Or.inl ⟨by rfl, ?_⟩) (by assumption) ?_
      rotate_left
      · intro wH hSw
        try dsimp only at hSw
        obtain ⟨s0q, s1q⟩ := hSw
        go_simp
        try with_reducible rfl
      try simp only [Act.put, List.setIfInBounds_toArray, List.set_cons_zero, List.set_cons_succ]
      refine wpAnyH_take (i := 5) (v := ?_) rfl (by as_aux_lemma => kernel_rfl) (by as_aux_lemma => kernel_rfl) (by as_aux_lemma => kernel_rfl) (fun _ _ _ h => h) (Or.inl ⟨by rfl, ?_⟩) (by assumption) ?_
      rotate_left
      · intro wH hSw
        try dsimp only at hSw
        obtain ⟨s0q, s1q⟩ := hSw
        go_simp
        try with_reducible rfl
      try simp only [Act.put, List.setIfInBounds_toArray, List.set_cons_zero, List.set_cons_succ]
      refine wpAnyH_take (i := 6) (v := ?_) rfl (by as_aux_lemma => kernel_rfl) (by as_aux_lemma => kernel_rfl) (by as_aux_lemma => kernel_rfl) (fun _ _ _ h => h) (Or.inl ⟨by rfl, ?_⟩) (by assumption) ?_
      rotate_left
      · intro wH hSw
        try dsimp only at hSw
        obtain ⟨s0q, s1q⟩ := hSw
        go_simp
        try with_reducible rfl
      try simp only [Act.put, List.setIfInBounds_toArray, List.set_cons_zero, List.set_cons_succ]
      refine wpAnyH_take (i := 7) (v := ?_) rfl (by as_aux_lemma => kernel_rfl) (by as_aux_lemma => kernel_rfl) (by as_aux_lemma => kernel_rfl) (fun _ _ _ h => h) (Or.inl ⟨by rfl, ?_⟩) (by assumption) ?_
      rotate_left
      · intro wH hSw
        try dsimp only at hSw
        obtain ⟨s0q, s1q⟩ := hSw
        go_simp
        try with_reducible rfl
      try simp only [Act.put, List.setIfInBounds_toArray, List.set_cons_zero, List.set_cons_succ]
      refine wpAnyH_take (i := 8) (v := ?_) rfl (by as_aux_lemma => kernel_rfl) (by as_aux_lemma => kernel_rfl) (by as_aux_lemma => kernel_rfl) (fun _ _ _ h => h) (Or.inl ⟨by rfl, ?_⟩) (by assumption) ?_
      rotate_left
      · intro wH hSw
        try dsimp only at hSw
        obtain ⟨s0q, s1q⟩ := hSw
        go_simp
        try with_reducible rfl
      try simp only [Act.put, List.setIfInBounds_toArray, List.set_cons_zero, List.set_cons_succ]
      refine wpAnyH_take (i := 9) (v := ?_) rfl (by as_aux_lemma => kernel_rfl) (by as_aux_lemma => kernel_rfl) (by as_aux_lemma => kernel_rfl) (fun _ _ _ h => h) (Or.inl ⟨by rfl, ?_⟩) (by assumption) ?_
      rotate_left
      · intro wH hSw
        try dsimp only at hSw
        obtain ⟨s0q, s1q⟩ := hSw
        go_simp
        try with_reducible rfl
      try simp only [Act.put, List.setIfInBounds_toArray, List.set_cons_zero, List.set_cons_succ]
      refine wpAnyH_take (i := 10) (v := ?_) rfl (by as_aux_lemma => kernel_rfl) (by as_aux_lemma => kernel_rfl) (by as_aux_lemma => kernel_rfl) (fun _ _ _ h => h) (Or.inl ⟨by rfl, ?_⟩) (by assumption) ?_
      rotate_left
      · intro wH hSw
        try dsimp only at hSw
        obtain ⟨s0q, s1q⟩ := hSw
        go_simp
        try with_reducible rfl
      try simp only [Act.put, List.setIfInBounds_toArray, List.set_cons_zero, List.set_cons_succ]
      refine wpAnyH_take (i := 11) (v := ?_) rfl (by as_aux_lemma => kernel_rfl) (by as_aux_lemma => kernel_rfl) (by as_aux_lemma => kernel_rfl) (fun _ _ _ h => h) (Or.inl ⟨by rfl, ?_⟩) (by assumption) ?_
      rotate_left
      · intro wH hSw
        try dsimp only at hSw
        obtain ⟨s0q, s1q⟩ := hSw
        go_simp
        try with_reducible rfl
      try simp only [Act.put, List.setIfInBounds_toArray, List.set_cons_zero, List.set_cons_succ]
      refine wpAnyH_take (i := 12) (v := ?_) rfl (by as_aux_lemma => kernel_rfl) (by as_aux_lemma => kernel_rfl) (by as_aux_lemma => kernel_rfl) (fun _ _ _ h => h) (Or.inl ⟨by rfl, ?_⟩) (by assumption) ?_
      rotate_left
      · intro wH hSw
        try dsimp only at hSw
        obtain ⟨s0q, s1q⟩ := hSw
        go_simp
        try with_reducible rfl
      try simp only [Act.put, List.setIfInBounds_toArray, List.set_cons_zero, List.set_cons_succ]
      refine wpAnyH_take (i := 13) (v := ?_) rfl (by as_aux_lemma => kernel_rfl) (by as_aux_lemma => kernel_rfl) (by as_aux_lemma => kernel_rfl) (fun _ _ _ h => h) (Or.inl ⟨by rfl, ?_⟩) (by assumption) ?_
      rotate_left
      · intro wH hSw
        try dsimp only at hSw
        obtain ⟨s0q, s1q⟩ := hSw
        go_simp
        try with_reducible rfl
      try simp only [Act.put, List.setIfInBounds_toArray, List.set_cons_zero, List.set_cons_succ]
      refine wpAnyH_take (i := 14) (v := ?_) rfl (by as_aux_lemma => kernel_rfl) (by as_aux_lemma => kernel_rfl) (by as_aux_lemma => kernel_rfl) (fun _ _ _ h => h) (Or.inl ⟨by rfl, ?_⟩) (by assumption) ?_
      rotate_left
      · intro wH hSw
        try dsimp only at hSw
        obtain ⟨s0q, s1q⟩ := hSw
        go_simp
        try with_reducible rfl
      try simp only [Act.put, List.setIfInBounds_toArray, List.set_cons_zero, List.set_cons_succ]
      refine wpAnyH_take (i := 15) (v := ?_) rfl (by as_aux_lemma => kernel_rfl) (by as_aux_lemma => kernel_rfl) (by as_aux_lemma => kernel_rfl) (fun _ _ _ h => h) (Or.inl ⟨by rfl, ?_⟩) (by assumption) ?_
      rotate_left
      · intro wH hSw
        try dsimp only at hSw
        obtain ⟨s0q, s1q⟩ := hSw
        go_simp
        try with_reducible rfl
      try simp only [Act.put, List.setIfInBounds_toArray, List.set_cons_zero, List.set_cons_succ]
      refine wpAnyH_ready (rs := [16]) (by as_aux_lemma => kernel_rfl) (by simp) ?_
      refine AllReadyH.cons rfl (fun KH hKH => ?_) AllReadyH.nil
      go_simp
      refine hKH.out _ _ qA (fun hHeld16 => ?_)
      clear hKH KH
      try simp only [Act.put, List.setIfInBounds_toArray, List.set_cons_zero, List.set_cons_succ]
      refine wpAnyH_ready (rs := [17]) (by as_aux_lemma => kernel_rfl) (by simp) ?_
      refine AllReadyH.cons rfl (fun KH hKH => ?_) AllReadyH.nil
      refine step_append_run rfl (Operand.tmp 13) (Operand.tmp 29) 47 47 rfl (.slice va k vc) (.slice (some ⟨wr.drew.heap.size, 0, none⟩) 1 1) rfl rfl hap ?_
      refine hKH.out _ _ qW (fun hHeld17 => ?_)
      clear hKH KH
      try simp only [Act.put, List.setIfInBounds_toArray, List.set_cons_zero, List.set_cons_succ]
      refine wpAnyH_ready (rs := [18]) (by as_aux_lemma => kernel_rfl) (by simp) ?_
      refine AllReadyH.cons rfl (fun KH hKH => ?_) AllReadyH.nil
      go_simp
      refine hKH.out _ _ qW (fun hHeld18 => ?_)
      clear hKH KH
      try simp only [Act.put, List.setIfInBounds_toArray, List.set_cons_zero, List.set_cons_succ]
      refine wpAnyH_done (by as_aux_lemma => kernel_rfl) ?_ _
      clear q0 qA qW hap
      go_wp2_with fail
      go_roundw
      case rel => exact ⟨k + 1, _, hlt, rfl, by go_num, NX⟩
      case measure => simp [intOf]; omega
    · obtain rfl : k = n := by omega
      have hkI : ¬ (k : Int) < (k : Int) := by omega
      have FIN := I
      obtain ⟨va, vc, hva⟩ : ∃ va vc, v = .slice va k vc := by
        obtain ⟨va, vc, e, -⟩ := rds_row (unhide I).1
        rw [List.length_map, List.length_take, ← (unhide HN).1, Nat.min_self] at e
        exact ⟨va, vc, e⟩
      subst hva
      clear I
      go_wp2_with fail
      go_ret
      obtain ⟨h1, h2, h3⟩ := unhide FIN
      rw [List.take_of_length_le (by rw [(unhide HN).1]; exact Nat.le_refl _)] at h1
      exact ⟨_, rfl, h1, h2, h3⟩
end Go.Proofs.YtnflbefbgcbdfaaGreat

namespace Go.Proofs.YtnflbefbgcbdfaaGreat
open Go.RowKit
set_option linter.unusedVariables false
set_option linter.unusedSimpArgs false
set_option maxRecDepth 100000
set_option maxHeartbeats 1000000

/-- A row of numbers. -/
def IR (t : TypeId) (W : World) (v : Value) (xs : List Int) : Prop := W.ownsRow 0 t 1 v xs.length (ints xs)
section
variable {t : TypeId} {W W' : World} {v : Value} {xs : List Int}
theorem IR.nil (t : TypeId) (W : World) : IR t W (.slice none 0 0) [] := ⟨rfl, .inl ⟨rfl, rfl⟩⟩
theorem IR.lt (h : IR t W v xs) : ∀ g, v.ownBlock = some g → g < W.heap.size := fun g e => by
  rcases h.2 with ⟨rfl, -⟩ | ⟨g', c, cur, rfl, q1, q2, -⟩
  · cases e
  · cases e; exact (Array.getElem?_eq_some_iff.1 q2).1
theorem IR.ty (h : IR t W v xs) : ∀ g, v.ownBlock = some g → ∃ cs, Blk W g cs t := fun g e => by
  rcases h.2 with ⟨rfl, -⟩ | ⟨g', c, cur, rfl, q1, q2, -⟩
  · cases e
  · cases e; exact ⟨cur, q2⟩
theorem IR.kept (h : IR t W v xs) (ho : ∀ g, v.ownBlock = some g → W'.heap[g]? = W.heap[g]?) : IR t W' v xs := by
  refine ⟨h.1, ?_⟩
  rcases h.2 with q | ⟨g, c, cur, e1, q1, q2, q3⟩
  · exact .inl q
  · exact .inr ⟨g, c, cur, e1, q1, (ho g (by rw [e1]; rfl)).trans q2, q3⟩
theorem IR.grown (h : IR t W v xs) (g : W.grownBy W' none) : IR t W' v xs := h.kept fun x e => g.block x (h.lt x e) (by simp)
theorem IR.sh (h : IR t W v xs) : (v = .slice none 0 0 ∧ xs = []) ∨ ∃ g c, v = .slice (some ⟨g, 0, none⟩) xs.length c ∧ xs.length ≤ c := by
  rcases h.2 with ⟨e1, e2⟩ | ⟨g', c, cur, e1, q1, q2, q3, -⟩
  · exact .inl ⟨e1, List.length_eq_zero_iff.1 e2⟩
  · exact .inr ⟨g', c, e1, q3⟩
theorem IR.cell {g c n : Nat} (h : IR t W (.slice (some ⟨g, 0, none⟩) n c) xs) (j : Nat) (x : Int) (hx : xs[j]? = some x) : W.cell? ⟨g, j, none⟩ = some (.int .i64 x) := by
  rcases h.2 with ⟨e1, e2⟩ | ⟨g', c', cur, e1, q1, q2, q3, q4, q5, q6⟩
  · cases e1
  · injection e1 with e1
    injection e1 with e1
    injection e1 with e1
    subst e1
    have hj := (List.getElem?_eq_some_iff.1 hx).1
    have h1 : (cur.toList.take (xs.length * 1))[j]? = some (.int .i64 x) := by rw [q6, List.getElem?_map, hx]; rfl
    rw [List.getElem?_take, if_pos (by omega), Array.getElem?_toList] at h1
    unfold World.cell?
    rw [q2]
    exact h1
theorem IR.thaw {g c n : Nat} (h : IR t W (.slice (some ⟨g, 0, none⟩) n c) xs) (j : Nat) : W.frozen? ⟨g, j, none⟩ = false := by
  obtain ⟨cs, hb⟩ := h.ty g rfl
  exact hb.thaw j
theorem IR.set {g c n : Nat} (h : IR t W (.slice (some ⟨g, 0, none⟩) n c) xs) (j : Nat) (x : Int) (hj : j < xs.length) : IR t (W.setCell ⟨g, j, none⟩ (.int .i64 x)) (.slice (some ⟨g, 0, none⟩) n c) (xs.set j x) := by
  rcases h.2 with ⟨e1, e2⟩ | ⟨g', c', cur, e1, q1, q2, q3, q4, q5, q6⟩
  · cases e1
  · have e2 := e1
    injection e1 with e1 e1b e1c
    injection e1 with e1
    injection e1 with e1
    subst e1
    subst e1c
    refine ⟨by simp, .inr ⟨g, c, cur.setIfInBounds j (.int .i64 x), by rw [e2]; simp, q1, ?_, by simpa using q3, q4, by simpa using q5, ?_⟩⟩
    · have hb : Blk W g cur t := q2
      exact hb.setC j _
    · rw [List.length_set, Array.toList_setIfInBounds, List.take_set, q6]
      simp [ints, List.map_set]
end

/-- What becomes of fates where a packet with a number came out. -/
def updF (ns : List Int) (f o : Int) (fts : List Int) : List Int := List.zipWith (fun n ft => if n = o then f else ft) ns fts
def mixF (ns : List Int) (f o : Int) (k : Nat) (fts : List Int) : List Int := (updF ns f o fts).take k ++ fts.drop k
theorem updF_len {ns fts : List Int} {f o : Int} (h : fts.length = ns.length) : (updF ns f o fts).length = fts.length := by simp [updF, h]
theorem mixF_len {ns fts : List Int} {f o : Int} {k : Nat} (h : fts.length = ns.length) (hk : k ≤ ns.length) : (mixF ns f o k fts).length = fts.length := by
  simp [mixF, updF_len h, List.length_take]; omega
theorem updF_at {ns fts : List Int} {f o : Int} {k : Nat} {n x : Int} (h1 : ns[k]? = some n) (h2 : fts[k]? = some x) : (updF ns f o fts)[k]? = some (if n = o then f else x) := by
  simp [updF, List.getElem?_zipWith, h1, h2]
theorem mixF_at {ns fts : List Int} {f o : Int} {k : Nat} (h : fts.length = ns.length) (hk : k < ns.length) : (mixF ns f o k fts)[k]? = fts[k]? := by
  unfold mixF
  have hl : ((updF ns f o fts).take k).length = k := by rw [List.length_take, updF_len h]; omega
  rw [List.getElem?_append_right (by omega), hl, Nat.sub_self, List.getElem?_drop]
  simp
theorem mixF_step {ns fts : List Int} {f o : Int} {k : Nat} {n x : Int} (h : fts.length = ns.length) (h1 : ns[k]? = some n) (h2 : fts[k]? = some x) : mixF ns f o (k + 1) fts = if n = o then (mixF ns f o k fts).set k f else mixF ns f o k fts := by
  have hk := (List.getElem?_eq_some_iff.1 h1).1
  have hl : ((updF ns f o fts).take k).length = k := by rw [List.length_take, updF_len h]; omega
  unfold mixF
  rw [take_at (updF_at h1 h2), drop_at h2]
  split
  · rw [List.set_append_right _ _ (by omega), hl]
    simp
  · simp
theorem mixF_zero (ns : List Int) (f o : Int) (fts : List Int) : mixF ns f o 0 fts = fts := by simp [mixF]
theorem mixF_end {ns fts : List Int} {f o : Int} (h : fts.length = ns.length) : mixF ns f o ns.length fts = updF ns f o fts := by
  unfold mixF
  rw [List.take_of_length_le (by rw [updF_len h]; omega), List.drop_of_length_le (by omega)]
  simp
/-- Behind the first packets that came out. -/
def fateF (ns : List Int) (f : Int) (outs : List St) (fts : List Int) : List Int := outs.foldl (fun ft o => updF ns f o.nu ft) fts
theorem fateF_len {ns : List Int} {f : Int} : ∀ {outs : List St} {fts : List Int}, fts.length = ns.length → (fateF ns f outs fts).length = ns.length
  | [], _, h => h
  | o :: outs, fts, h => by
    unfold fateF
    rw [List.foldl_cons]
    exact fateF_len (outs := outs) (by rw [updF_len h, h])
theorem fateF_snoc (ns : List Int) (f : Int) (outs : List St) (o : St) (fts : List Int) : fateF ns f (outs ++ [o]) fts = updF ns f o.nu (fateF ns f outs fts) := by simp [fateF, List.foldl_append]
/-- Packets that may come out: they rise; each is found, has no fate, and is as large as it was. -/
structure FOk (ns zs fts : List Int) (f : Int) (outs : List St) : Prop where
  ln : fts.length = ns.length
  lz : zs.length = ns.length
  up : ∀ (i : Nat) (o : St), outs[i]? = some o → (if i = 0 then -1 else ((outs[i - 1]?).getD St.zero).nu) < o.nu
  ex : ∀ (i : Nat) (o : St), outs[i]? = some o → o.nu ∈ ns
  at_ : ∀ (i : Nat) (o : St), outs[i]? = some o → ∀ k : Nat, ns[k]? = some o.nu → (fateF ns f (outs.take i) fts)[k]? = some 0 ∧ zs[k]? = some o.si
/-- A load's cells. -/
def ldc (b : Nat) (nv zv fv : Value) (nx : Int) (op : Bool) : Array Value := #[.pointer (some ⟨b, 0, none⟩), nv, zv, fv, .int .i64 nx, .bool op]
def lastF (outs : List St) (i : Nat) : Int := if i = 0 then -1 else ((outs[i - 1]?).getD St.zero).nu
theorem lastF_succ {outs : List St} {i : Nat} {o : St} (h : outs[i]? = some o) : lastF outs (i + 1) = o.nu := by
  unfold lastF
  rw [if_neg (by omega), Nat.add_sub_cancel, h]
  rfl
end Go.Proofs.YtnflbefbgcbdfaaGreat

namespace Go.Proofs.YtnflbefbgcbdfaaGreat
open Go.RowKit
set_option linter.unusedVariables false
set_option linter.unusedSimpArgs false
set_option maxRecDepth 100000
set_option maxHeartbeats 1000000

theorem gcell {w W : World} {r : Option Nat} {b j : Nat} {v : Value} (h : w.cell? ⟨b, j, none⟩ = some v) (g : w.grownBy W r) (hn : r ≠ some b) : W.cell? ⟨b, j, none⟩ = some v := g.cell h (Ne.symm hn)

/-- What lies in the slots of the outer loop. -/
def FtO (W : World) (fv : Value) (ns fts : List Int) (f : Int) (outs : List St) (m : Nat) (lv iv : Value) (wr : World) : Prop :=
  ∃ i : Nat, i ≤ m ∧ iv = .int .i64 i ∧ lv = .int .i64 (lastF outs i) ∧ Hid (W.grownBy wr fv.ownBlock ∧ IR 3 wr fv (fateF ns f (outs.take i) fts))
/-- .. and of the inner one. -/
def FtI (W : World) (fv : Value) (ns fts : List Int) (f o : Int) (n : Nat) (dv kv : Value) (wr : World) : Prop :=
  ∃ k : Nat, k ≤ n ∧ kv = .int .i64 k ∧ dv = .bool (decide (o ∈ ns.take k)) ∧ Hid (W.grownBy wr fv.ownBlock ∧ IR 3 wr fv (mixF ns f o k fts))
theorem found_step {ns : List Int} {k : Nat} {n o : Int} (h : ns[k]? = some n) : decide (o ∈ ns.take (k + 1)) = (decide (o ∈ ns.take k) || decide (n = o)) := by
  rw [take_at h, Bool.eq_iff_iff, Bool.or_eq_true, decide_eq_true_iff, decide_eq_true_iff, decide_eq_true_iff, List.mem_append, List.mem_singleton]
  exact or_congr Iff.rfl eq_comm

theorem fates_any (lw b : Nat) (nv zv fv ov : Value) (nx : Int) (op : Bool) (ns zs fts : List Int) (f : Int) (outs : List St) (Ro : Nat → Prop) (W : World) (hb : Blk W lw (ldc b nv zv fv nx op) 60) (hN : IR 2 W nv ns) (hZ : IR 2 W zv zs) (hF : IR 3 W fv fts) (ho : KvAt Ro W ov outs) (hk : FOk ns zs fts f outs) (hn : ns.length ≤ 1100000) (hm : outs.length ≤ 1100000) :
    Calls Tryz.prog 39 #[.pointer (some ⟨lw, 0, none⟩), ov, .int .i64 f] W fun e W' => e = .returned (.bool true) ∧ IR 3 W' fv (fateF ns f outs fts) ∧ W.grownBy W' fv.ownBlock := by
  have sepL : fv.ownBlock ≠ some lw := fun e => by obtain ⟨cs, h1⟩ := hF.ty lw e; exact ty_ne h1 hb (by decide) rfl
  obtain ⟨m, hmm⟩ : ∃ m, m = outs.length := ⟨_, rfl⟩
  obtain ⟨n, hnn⟩ : ∃ n, n = ns.length := ⟨_, rfl⟩
  obtain ⟨oa, oc, hov⟩ : ∃ oa oc, ov = .slice oa m oc := by
    rcases ho.sh with ⟨e1, e2⟩ | ⟨g, c, e1, -⟩
    · exact ⟨none, 0, by rw [e1, hmm, e2]; rfl⟩
    · exact ⟨_, c, by rw [e1, hmm]⟩
  have ELT : Hid (∀ (i : Nat) (o : St), outs[i]? = some o → ∃ go, oa = some ⟨go, 0, none⟩ ∧ fv.ownBlock ≠ some go ∧ W.cell? ⟨go, i * 8, none⟩ = some (.int .i64 o.nu) ∧ W.cell? ⟨go, i * 8 + 2, none⟩ = some (.int .i64 o.si)) := by
    intro i o hi
    rcases ho.sh with ⟨e1, e2⟩ | ⟨g, c, e1, -⟩
    · rw [e2] at hi; simp at hi
    · have ho2 := ho
      rw [e1] at ho2
      obtain ⟨fw, -, hc⟩ := ho2.get hi
      refine ⟨g, ?_, fun e => ?_, hc 0 _ rfl, hc 2 _ rfl⟩
      · rw [hov] at e1; injection e1
      · obtain ⟨c1, h1⟩ := hF.ty g e
        obtain ⟨c2, h2⟩ := ho.ty g (by rw [e1]; rfl)
        exact ty_ne h1 h2 (by decide) rfl
  have SHP : Hid (ns ≠ [] → ∃ gn cn gz cz gf cf, nv = .slice (some ⟨gn, 0, none⟩) n cn ∧ zv = .slice (some ⟨gz, 0, none⟩) n cz ∧ fv = .slice (some ⟨gf, 0, none⟩) n cf ∧ gf ≠ gn ∧ gf ≠ gz ∧ gf ≠ lw) := by
    intro hne
    have hl : 0 < ns.length := List.length_pos_iff.2 hne
    have l1 := hk.ln
    have l2 := hk.lz
    rcases hN.sh with ⟨e1, e2⟩ | ⟨gn, cn, e1, -⟩
    · exact absurd e2 hne
    · rcases hZ.sh with ⟨e3, e4⟩ | ⟨gz, cz, e3, -⟩
      · rw [e4] at l2; simp at l2; omega
      · rcases hF.sh with ⟨e5, e6⟩ | ⟨gf, cf, e5, -⟩
        · rw [e6] at l1; simp at l1; omega
        · refine ⟨gn, cn, gz, cz, gf, cf, by rw [e1, hnn], by rw [e3, l2, hnn], by rw [e5, l1, hnn], ?_, ?_, ?_⟩
          · obtain ⟨c1, h1⟩ := hF.ty gf (by rw [e5]; rfl)
            obtain ⟨c2, h2⟩ := hN.ty gn (by rw [e1]; rfl)
            exact ty_ne h1 h2 (by decide)
          · obtain ⟨c1, h1⟩ := hF.ty gf (by rw [e5]; rfl)
            obtain ⟨c2, h2⟩ := hZ.ty gz (by rw [e3]; rfl)
            exact ty_ne h1 h2 (by decide)
          · obtain ⟨c1, h1⟩ := hF.ty gf (by rw [e5]; rfl)
            exact ty_ne h1 hb (by decide)
  have lenM : ¬ (9223372036854775807 : Int) < (m : Int) := by omega
  have lenN : ¬ (9223372036854775807 : Int) < (n : Int) := by omega
  have ALL := hide (And.intro hb (And.intro hN (And.intro hZ (And.intro hF hk))))
  have NM := hide (And.intro hmm (And.intro hnn (And.intro hn hm)))
  have SEP := hide sepL
  subst hov
  clear hb hN hZ hF ho hk hmm hnn hn hm sepL
  go_enter Tryz.func39, Tryz.ntmps39
  go_wp2_with fail
  go_loopw [7, 8] (fun lv iv wr => FtO W fv ns fts f outs m lv iv wr) (fun _ iv _ => m - (intOf iv).toNat)
  case atStart => exact ⟨0, Nat.zero_le _, rfl, rfl, ⟨rfl, rfl, rfl, Nat.le_refl _, fun _ _ _ => rfl⟩, (unhide ALL).2.2.2.1⟩
  case round =>
    obtain ⟨i, hi, rfl, rfl, I⟩ := hrel
    by_cases hlt : i < m
    · have hiI : (i : Int) < (m : Int) := by omega
      have hi0 : (0 : Int) ≤ (i : Int) := by omega
      obtain ⟨gr, ir⟩ := unhide I
      obtain ⟨hb, hN, hZ, hF, hk⟩ := unhide ALL
      obtain ⟨o, hx⟩ : ∃ o, outs[i]? = some o := ⟨_, List.getElem?_eq_getElem (by rw [← (unhide NM).1]; exact hlt)⟩
      obtain ⟨go, hgo, sgo, e0, e2⟩ := unhide ELT i o hx
      subst hgo
      have hne : ns ≠ [] := fun e => by have := hk.ex i o hx; rw [e] at this; simp at this
      obtain ⟨gn, cn, gz, cz, gf, cf, rfl, rfl, rfl, s1, s2, s3⟩ := unhide SHP hne
      have y0 := gcell e0 gr sgo
      have hup : lastF outs i < o.nu := hk.up i o hx
      have hup2 : ¬ o.nu ≤ lastF outs i := by omega
      obtain ⟨la, hla⟩ : ∃ la, la = lastF outs i := ⟨_, rfl⟩
      rw [← hla] at hup2 ⊢
      obtain ⟨F, hFF⟩ : ∃ F, F = fateF ns f (outs.take i) fts := ⟨_, rfl⟩
      have lF : F.length = ns.length := by rw [hFF]; exact fateF_len hk.ln
      rw [← hFF] at ir
      have II := hide (And.intro gr ir)
      have HX := hide (And.intro hx hFF)
      have ATk := hide (hk.at_ i o hx)
      have EXk := hide (hk.ex i o hx)
      have HLF := hide lF
      have E02 := hide (And.intro e0 e2)
      have SGO := hide sgo
      clear hup hla I gr ir hk hne hx hFF lF e0 e2 sgo hb hN hZ hF
      go_upto_region 10 with fail
      obtain ⟨w9, rfl⟩ : ∃ w9, w9 = wr := ⟨_, rfl⟩
      go_loopw [9, 10] (fun dv kv wr2 => FtI W (.slice (some ⟨gf, 0, none⟩) n cf) ns F f o.nu n dv kv wr2) (fun _ kv _ => n - (intOf kv).toNat)
      case atStart => exact ⟨0, Nat.zero_le _, rfl, by simp, (unhide II).1, by rw [mixF_zero]; exact (unhide II).2⟩
      case round =>
        obtain ⟨k, hk, rfl, hdv, K⟩ := hrel
        obtain ⟨d, hd⟩ : ∃ d, d = decide (o.nu ∈ ns.take k) := ⟨_, rfl⟩
        rw [← hd] at hdv
        subst hdv
        obtain ⟨gr2, ir2⟩ := unhide K
        obtain ⟨hb, hN, hZ, hF, hfk⟩ := unhide ALL
        have sf : (Value.slice (some ⟨gf, 0, none⟩) n cf).ownBlock = some gf := rfl
        have lb := fun j v (h : W.cell? ⟨lw, j, none⟩ = some v) => gcell h gr2 (by rw [sf]; intro e; injection e with e; exact s3 e)
        have w1 : wr.cell? ⟨lw, 1, none⟩ = some (.slice (some ⟨gn, 0, none⟩) n cn) := lb 1 _ (hb.cell 1 _ rfl)
        have w2 : wr.cell? ⟨lw, 2, none⟩ = some (.slice (some ⟨gz, 0, none⟩) n cz) := lb 2 _ (hb.cell 2 _ rfl)
        have w3 : wr.cell? ⟨lw, 3, none⟩ = some (.slice (some ⟨gf, 0, none⟩) n cf) := lb 3 _ (hb.cell 3 _ rfl)
        by_cases hkn : k < n
        · have hkI : (k : Int) < (n : Int) := by omega
          have hk0 : (0 : Int) ≤ (k : Int) := by omega
          have hkl : k < ns.length := by rw [← (unhide NM).2.1]; exact hkn
          obtain ⟨nk, hnk⟩ : ∃ nk, ns[k]? = some nk := ⟨_, List.getElem?_eq_getElem hkl⟩
          obtain ⟨x, hx⟩ : ∃ x, F[k]? = some x := ⟨_, List.getElem?_eq_getElem (by rw [unhide HLF]; exact hkl)⟩
          have u1 : wr.cell? ⟨gn, k, none⟩ = some (.int .i64 nk) := gcell (hN.cell k nk hnk) gr2 (by rw [sf]; intro e; injection e with e; exact s1 e)
          have p0 : wr.cell? ⟨go, i * 8, none⟩ = some (.int .i64 o.nu) := gcell (unhide E02).1 gr2 (unhide SGO)
          have p2 : wr.cell? ⟨go, i * 8 + 2, none⟩ = some (.int .i64 o.si) := gcell (unhide E02).2 gr2 (unhide SGO)
          have mk := mixF_step (f := f) (o := o.nu) (unhide HLF) hnk hx
          have fd := found_step (o := o.nu) hnk
          rw [← hd] at fd
          by_cases heq : nk = o.nu
          · subst heq
            obtain ⟨fz, sz⟩ := unhide ATk k hnk
            rw [← (unhide HX).2, hx] at fz
            injection fz with fz
            subst fz
            have u2 : wr.cell? ⟨gz, k, none⟩ = some (.int .i64 o.si) := gcell (hZ.cell k o.si sz) gr2 (by rw [sf]; intro e; injection e with e; exact s2 e)
            have u3 : wr.cell? ⟨gf, k, none⟩ = some (.int .i64 0) := ir2.cell k 0 (by rw [mixF_at (unhide HLF) hkl]; exact hx)
            have t3 := ir2.thaw k
            have NX : Hid (∀ q, W.grownBy ((wr.drewN q).setCell ⟨gf, k, none⟩ (.int .i64 f)) (some gf) ∧ IR 3 ((wr.drewN q).setCell ⟨gf, k, none⟩ (.int .i64 f)) (.slice (some ⟨gf, 0, none⟩) n cf) (mixF ns f o.nu (k + 1) F)) := by
              intro q
              refine ⟨grown_at (grown_drewS gr2 q) k _, ?_⟩
              rw [mk, if_pos rfl]
              have ir3 : IR 3 (wr.drewN q) (.slice (some ⟨gf, 0, none⟩) n cf) (mixF ns f o.nu k F) := ir2
              exact ir3.set k f (by rw [mixF_len (unhide HLF) (by omega), unhide HLF]; exact hkl)
            have FD : Hid (decide (o.nu ∈ ns.take (k + 1)) = true) := by show _ = _; rw [fd]; simp
            clear gr2 ir2 hb hN hZ hF hfk lb hnk hx sz mk fd hd K II
            clear s1 s2 s3 sf
            go_upto_region 12 with fail
            go_quiet (fail)
            go_upto_region 13 with fail
            go_quiet (fail)
            go_wp2_with fail
            all_goals go_roundw
            case rel => exact ⟨k + 1, hkn, by go_num, by rw [unhide FD], unhide NX _⟩
            case measure => simp [intOf]; omega
          · have NX : Hid (∀ q, W.grownBy (wr.drewN q) (some gf) ∧ IR 3 (wr.drewN q) (.slice (some ⟨gf, 0, none⟩) n cf) (mixF ns f o.nu (k + 1) F)) := by
              intro q
              refine ⟨grown_drewS gr2 q, ?_⟩
              rw [mk, if_neg heq]
              exact ir2
            have FD : Hid (decide (o.nu ∈ ns.take (k + 1)) = d) := by show _ = _; rw [fd]; simp [heq]
            clear gr2 ir2 hb hN hZ hF hfk lb hnk hx mk fd hd K II s1 s2 s3 sf
            go_upto_region 12 with fail
            go_quiet (fail)
            go_wp2_with fail
            all_goals go_roundw
            case rel => exact ⟨k + 1, hkn, by go_num, by rw [unhide FD], unhide NX _⟩
            case measure => simp [intOf]; omega
        · obtain rfl : k = n := by omega
          have hkI : ¬ (k : Int) < (k : Int) := by omega
          have dT : d = true := by
            rw [hd, List.take_of_length_le (by rw [(unhide NM).2.1]; exact Nat.le_refl _)]
            exact decide_eq_true (unhide EXk)
          subst dT
          have NX : Hid (W.grownBy wr (some gf) ∧ IR 3 wr (.slice (some ⟨gf, 0, none⟩) k cf) (fateF ns f (outs.take (i + 1)) fts)) := by
            refine ⟨gr2, ?_⟩
            rw [take_at (unhide HX).1, fateF_snoc, ← (unhide HX).2, ← mixF_end (unhide HLF), ← (unhide NM).2.1]
            exact ir2
          have LS2 : Hid (lastF outs (i + 1) = o.nu) := lastF_succ (unhide HX).1
          clear gr2 ir2 hb hN hZ hF hfk lb hd K II s1 s2 s3 sf
          go_wp2_with fail
          all_goals go_roundw
          case rel => exact ⟨i + 1, hlt, by go_num, by rw [unhide LS2], NX⟩
          case measure => simp [intOf]; omega
    · obtain rfl : i = m := by omega
      have hiI : ¬ (i : Int) < (i : Int) := by omega
      have J := I
      clear I
      go_wp2_with fail
      go_ret
      obtain ⟨gr, ir⟩ := unhide J
      rw [List.take_of_length_le (by rw [(unhide NM).1]; exact Nat.le_refl _)] at ir
      exact ⟨rfl, ir, gr⟩
end Go.Proofs.YtnflbefbgcbdfaaGreat

namespace Go.Proofs.YtnflbefbgcbdfaaGreat
open Go.RowKit
set_option linter.unusedVariables false
set_option linter.unusedSimpArgs false
set_option maxRecDepth 100000
set_option maxHeartbeats 1000000

abbrev Z17 : Array Value := #[.int .i64 0, .int .i64 0, .int .i64 0, .slice none 0 0, .int .i64 0, .bool false, .bool false, .int .i64 0, .bool false, .int .i64 0, .bool false, .int .i64 0, .slice none 0 0, .bool false, .int .i64 0, .int .i64 0, .int .i64 0]
theorem Tryz.infoF : (Tryz.prog.info? 130).map (fun i => (i.zero, i.size, i.bytes)) = some (some (.agg Z17), 17, 160) := by kernel_rfl
theorem Tryz.infoB : (Tryz.prog.info? 5).map (fun i => (i.zero, i.size, i.bytes)) = some (some (.int .u8 0), 1, 1) := by kernel_rfl
theorem load_at {w : World} {b o : Nat} {C : Array Value} (h17 : C.size = 17) (hc : ∀ j v, C[j]? = some v → w.cell? ⟨b, o + j, none⟩ = some v) : (loadVar 130 ⟨b, o, none⟩).run Tryz.prog w = .ok (.agg C) w := by
  have hl : (loadCells ⟨b, o, none⟩ C.toList.length).run Tryz.prog w = .ok C.toList.toArray w :=
    run_loadCells_list (P := Tryz.prog) w ⟨b, o, none⟩ C.toList (fun j v hv => by
      have hadd : (⟨b, o, none⟩ : Addr).add j = ⟨b, o + j, none⟩ := by unfold Addr.add; split <;> simp_all
      rw [hadd]
      exact hc j v (by simpa using hv))
  obtain ⟨i, hi, hz0, hz1, hz2⟩ := info_parts Tryz.infoF
  have hagg : (isAgg 130).run Tryz.prog w = .ok true w := by
    unfold isAgg
    rw [Sem.run_bind, run_underlying Tryz.underlying130 w]
    rfl
  simp only [Array.length_toList, Array.toArray_toList, h17] at hl
  simp [loadVar, Sem.run_bind, hagg, sizeOf, typeInfo, hi, hz1, hl]
theorem wpList_load_at {ops : Array Oper} {rest : List Oper} {op : Oper} {a : Act} {w : World} {Q : Exit → Act → World → Prop} (hgd : op.guard = none) (x : Operand) (ho : op.op = .load 130 x) (b o : Nat) (C : Array Value)
    (hx : a.eval x = .pointer (some ⟨b, o, none⟩)) (h17 : C.size = 17) (hc : ∀ j v, C[j]? = some v → w.cell? ⟨b, o + j, none⟩ = some v)
    (h : wpList Tryz.prog ops Q rest (a.put op.dst (.agg C)) w) : wpList Tryz.prog ops Q (op :: rest) a w :=
  wpList_plain hgd fun _ hK => by
    unfold Oper.wp execOp
    simp only [ho, hx, Instr.loadAt, Instr.sureAddr, Sem.run_bind, Sem.run_pure, Result.andThen_ok, load_at h17 hc]
    exact hK _ _ h
theorem wpList_store_new {ops : Array Oper} {rest : List Oper} {o : Oper} {a : Act} {Q : Exit → Act → World → Prop} (W : World) (Z C : Array Value) (k : Nat) (hgd : o.guard = none) (t : TypeId) (p x : Operand) (ho : o.op = .store t p x)
    (hk : W.heap.size = k) (hp : a.eval p = .pointer (some ⟨k, 0, none⟩)) (hx : a.eval x = .agg C) (hi : (Tryz.prog.info? t).map (·.size) = some C.size) (hz : Z.size = C.size) (h1 : C.all (·.oneCell') = true)
    (h : wpList Tryz.prog ops Q rest (a.put o.dst undef) (W.alloc (.cells C t))) : wpList Tryz.prog ops Q (o :: rest) a (W.alloc (.cells Z t)) := by
  subst hk
  refine wpList_store_row hgd _ _ _ ho W.heap.size C hp hx t Z (Blk.new W Z t) hi hz h1 ?_
  rw [World.setRow_alloc_new]
  exact h
theorem wpList_one_frame {ops : Array Oper} {rest : List Oper} {o : Oper} {a : Act} {w : World} {Q : Exit → Act → World → Prop} (hg : o.guard = none) (x : Operand) (ho : o.op = .buildSlice 44 1 #[(0, x)]) (C : Array Value) (hx : a.eval x = .agg C) (h17 : C.size = 17)
    (h : wpList Tryz.prog ops Q rest (a.put o.dst (.slice (some ⟨w.heap.size, 0, none⟩) 1 1)) (w.alloc (.cells C 130))) : wpList Tryz.prog ops Q (o :: rest) a w := by
  obtain ⟨i, hi, hz0, hz1, hz2⟩ := info_parts Tryz.infoF
  refine wpList_buildSlice hg 44 130 1 #[(0, x)] ho C i _ Tryz.underlying44 hi hz0 (by rw [hz1]; decide) (by rw [hz1]; decide) ?_ h
  rw [hz1]
  have e1 : ((#[(0, x)] : Array (Nat × Operand)).map fun (i, x) => (i, a.eval x)).toList = [(0, a.eval x)] := by simp
  rw [e1, hx]
  have := Great.fill_whole (s := 17) (by decide) [.agg C] ((Array.range (1 * 17)).map ((Value.agg Z17).cells[· % (Value.agg Z17).cells.size]!)) (by simpa [Value.cells] using h17) (by simp)
  simpa [Value.cells] using this

/-- What is appended to nothing is a list of its own. -/
theorem app_new (sz : Nat) (hsz : 0 < sz) (sT elem : TypeId) (hu : Tryz.prog.underlying sT = some (.slice elem)) (i : TypeInfo) (z : Value) (bytes : Nat) (hi : Tryz.prog.info? elem = some i) (hz0 : i.zero = some z) (hz1 : i.size = sz) (hz2 : i.bytes = bytes) (hzc : z.cells.size = sz) (hbs : bytes ≤ 100) (W : World) (R : Nat → Prop) (v : Value) (xs : List Value) (hl : Li R W sz v xs) (h1 : ∀ u ∈ xs, u.oneCell' = true) (hn : xs.length ≤ 200000000 * sz) :
    ∃ a' n c' W', (Builtin.append_ #[sT, sT] sT #[.slice none 0 0, v]).run Tryz.prog W = .ok (.slice a' n c') W' ∧ Li (fun b => W.heap.size ≤ b) W' sz (.slice a' n c') xs ∧ W.grownBy W' none := by
  obtain ⟨a, n, c, rfl, hx, rd, -⟩ := hl.ex
  by_cases hn0 : n = 0
  · subst hn0
    have hxs : xs = [] := List.length_eq_zero_iff.1 (by omega)
    subst hxs
    refine ⟨none, 0, 0, W, ?_, ⟨none, 0, 0, rfl, by simp, rdv_nil _ _, fun q => absurd rfl q⟩, grown_self _ _⟩
    cases a <;> simp [Builtin.append_, run_underlying hu, sizeOf, typeInfo, hi, Builtin.lenOf, Builtin.firstCells, storeCells, loadCells, loadCellsFrom]
  · have hne : xs ≠ [] := fun e => by rw [e, List.length_nil] at hx; have := Nat.mul_pos (Nat.pos_of_ne_zero hn0) hsz; omega
    obtain ⟨b, off, rfl, hc⟩ := rd.resolve_left hne
    have hnb : n ≤ 200000000 := Nat.le_of_mul_le_mul_right (by omega) hsz
    obtain ⟨v', W', hr, ho, hg, hnil⟩ := run_append_own (P := Tryz.prog) W W.heap.size sT sT elem i z sz bytes hu hi hz0 hz1 hz2 hzc hsz (.slice none 0 0) 0 [] (World.ownsRow_nil _ _ _ _) ⟨b, off, none⟩ n c xs hx (fun j u hj => by
      have hadd : (⟨b, off, none⟩ : Addr).add j = ⟨b, off + j, none⟩ := by unfold Addr.add; split <;> simp_all
      rw [hadd]
      exact hc j u hj) h1 (by unfold maxLen; omega) (by
      have : (0 + n) * bytes ≤ 200000000 * 100 := Nat.mul_le_mul (by omega) hbs
      omega) (Nat.le_refl _)
    rcases ho.2 with ⟨e1, e2⟩ | ⟨g, cap, cur, e1, q1, q2, q3, q4, q5, q6⟩
    · omega
    · subst e1
      refine ⟨_, _, _, W', hr, ⟨_, _, _, rfl, by rw [Nat.zero_add]; exact hx, .inr ⟨g, 0, rfl, fun j u hj => ?_⟩, fun _ b off e => by cases e; exact q1⟩, hg⟩
      have hj2 := (List.getElem?_eq_some_iff.1 hj).1
      rw [List.nil_append] at q6
      rw [← q6, List.getElem?_take, if_pos (by rw [Nat.zero_add]; omega), Array.getElem?_toList] at hj
      unfold World.cell?
      rw [q2, Nat.zero_add]
      exact hj

/-- A row of frames of one's own. -/
def FwAt (R : Nat → Prop) (W : World) (v : Value) (fs : List Fr) : Prop := ∃ css, Frs R W css fs ∧ W.ownsRow 0 130 17 v fs.length css.flatten
section
variable {R T : Nat → Prop} {W W' : World} {v : Value} {fs : List Fr}
theorem FwAt.nil (R : Nat → Prop) (W : World) : FwAt R W (.slice none 0 0) [] := ⟨[], ⟨rfl, fun i c f h => by simp at h⟩, rfl, .inl ⟨rfl, rfl⟩⟩
theorem FwAt.lt (h : FwAt R W v fs) : ∀ g, v.ownBlock = some g → g < W.heap.size := fun g e => by
  obtain ⟨css, h1, h2⟩ := h
  rcases h2.2 with ⟨rfl, -⟩ | ⟨g', c, cur, rfl, q1, q2, -⟩
  · cases e
  · cases e; exact (Array.getElem?_eq_some_iff.1 q2).1
theorem FwAt.kept (h : FwAt R W v fs) (hk : ∀ b, R b → W'.heap[b]? = W.heap[b]?) (ho : ∀ g, v.ownBlock = some g → W'.heap[g]? = W.heap[g]?) : FwAt R W' v fs := by
  obtain ⟨css, h1, h2⟩ := h
  refine ⟨css, h1.kept hk, h2.1, ?_⟩
  rcases h2.2 with q | ⟨g, c, cur, e1, q1, q2, q3⟩
  · exact .inl q
  · exact .inr ⟨g, c, cur, e1, q1, (ho g (by rw [e1]; rfl)).trans q2, q3⟩
theorem FwAt.grown (h : FwAt R W v fs) (g : W.grownBy W' none) : FwAt R W' v fs := by
  have hl := h.lt
  obtain ⟨css, h1, h2⟩ := h
  refine ⟨css, h1.grown g, h2.1, ?_⟩
  rcases h2.2 with q | ⟨g', c, cur, e1, q1, q2, q3⟩
  · exact .inl q
  · exact .inr ⟨g', c, cur, e1, q1, (g.block g' (hl g' (by rw [e1]; rfl)) (by simp)).trans q2, q3⟩
theorem FwAt.mono (h : FwAt R W v fs) (hn : ∀ b, R b → T b) : FwAt T W v fs := by
  obtain ⟨css, h1, h2⟩ := h
  exact ⟨css, ⟨h1.len, fun i c f hc hf => (h1.at_ i c f hc hf).mono hn⟩, h2⟩
theorem FwAt.sh (h : FwAt R W v fs) : (v = .slice none 0 0 ∧ fs = []) ∨ ∃ g c, v = .slice (some ⟨g, 0, none⟩) fs.length c ∧ fs.length ≤ c := by
  obtain ⟨css, h1, h2⟩ := h
  rcases h2.2 with ⟨e1, e2⟩ | ⟨g', c, cur, e1, q1, q2, q3, -⟩
  · exact .inl ⟨e1, List.length_eq_zero_iff.1 e2⟩
  · exact .inr ⟨g', c, e1, q3⟩
theorem FwAt.fv (h : FwAt R W v fs) (hn : fs.length ≤ 100000000) : FvAt (fun b => R b ∨ v.ownBlock = some b) W v fs := by
  obtain ⟨css, h1, h2⟩ := h
  have h3 : Frs (fun b => R b ∨ v.ownBlock = some b) W css fs := ⟨h1.len, fun i c f hc hf => (h1.at_ i c f hc hf).mono fun b hb => .inl hb⟩
  rcases h2.2 with ⟨e1, e2⟩ | ⟨g', c, cur, e1, q1, q2, q3, q4, q5, q6⟩
  · have e0 : fs = [] := List.length_eq_zero_iff.1 e2
    subst e0
    have ec : css = [] := List.length_eq_zero_iff.1 (by rw [h1.len]; rfl)
    subst ec
    exact ⟨hn, none, 0, [], e1, h3, rdv_nil _ _, fun q => absurd rfl q⟩
  · subst e1
    refine ⟨hn, _, c, css, rfl, h3, .inr ⟨g', 0, rfl, fun j u hj => ?_⟩, fun _ b off e => by cases e; exact .inr rfl⟩
    have hj2 := (List.getElem?_eq_some_iff.1 hj).1
    rw [h2.1] at hj2
    rw [← q6, List.getElem?_take, if_pos hj2, Array.getElem?_toList] at hj
    unfold World.cell?
    rw [q2, Nat.zero_add]
    exact hj
theorem FwAt.app (h : FwAt R W v fs) (f : Fr) (cs : List Value) (hf : FrAt R W cs f) (hr : ∀ g, v.ownBlock = some g → ¬ R g) (hl : fs.length ≤ 100000000) (g0 : Nat) (hc : Blk W g0 cs.toArray 130) (hR : ∀ g, R g → g < W.heap.size) :
    ∃ v' W', (Builtin.append_ #[44, 44] 44 #[v, .slice (some ⟨g0, 0, none⟩) 1 1]).run Tryz.prog W = .ok v' W' ∧ FwAt R W' v' (fs ++ [f]) ∧ W.grownBy W' v.ownBlock ∧ (v'.ownBlock = v.ownBlock ∨ v'.ownBlock = some W.heap.size) := by
  obtain ⟨i, hi, hz0, hz1, hz2⟩ := info_parts Tryz.infoF
  obtain ⟨css, h1, h2⟩ := h
  have h17 := hf.len
  have h1c : ∀ u ∈ cs, u.oneCell' = true := by
    have := Frs.one_ (R := R) (W := W) (css := [cs]) (fs := [f]) ⟨rfl, fun i c f' e1 e2 => by
      cases i with
      | zero => simp at e1 e2; subst e1; subst e2; exact hf
      | succ i => simp at e1⟩
    simpa using this
  obtain ⟨v', W', hrun, ho, hgr, hnil, hob⟩ := run_append_own_at (P := Tryz.prog) W 0 44 44 130 i _ 17 160 Tryz.underlying44 hi hz0 hz1 hz2 rfl (by decide) v fs.length _ h2 ⟨g0, 0, none⟩ 1 1 cs (by rw [h17]) (fun j u hj => by
      rw [Addr.add_lit, Nat.zero_add]
      exact hc.cell j u (by simpa using hj)) h1c (by unfold maxLen; omega) (by omega) (Nat.zero_le _)
  have keep : ∀ b, R b → W'.heap[b]? = W.heap[b]? := fun b hb => hgr.block b (hR b hb) (fun e => hr b e.symm hb)
  refine ⟨v', W', hrun, ⟨css ++ [cs], ⟨by simp [h1.len], fun j c f' e1 e2 => ?_⟩, ?_⟩, hgr, hob⟩
  · by_cases hj : j < fs.length
    · rw [List.getElem?_append_left (by rw [h1.len]; exact hj)] at e1
      rw [List.getElem?_append_left hj] at e2
      exact (h1.at_ j c f' e1 e2).kept keep
    · have hj2 : j = fs.length := by have := (List.getElem?_eq_some_iff.1 e2).1; simp at this; omega
      subst hj2
      rw [List.getElem?_append_right (by rw [h1.len]; exact Nat.le_refl _)] at e1
      rw [List.getElem?_append_right (Nat.le_refl _)] at e2
      simp [h1.len] at e1
      simp at e2
      subst e1
      subst e2
      exact hf.kept keep
  · rw [List.flatten_append, List.length_append]
    simpa using ho
end
end Go.Proofs.YtnflbefbgcbdfaaGreat

namespace Go.Proofs.YtnflbefbgcbdfaaGreat
open Go.RowKit
set_option linter.unusedVariables false
set_option linter.unusedSimpArgs false
set_option maxRecDepth 100000
set_option maxHeartbeats 1000000

theorem FrAt.one {R : Nat → Prop} {W : World} {cs : List Value} {f : Fr} (hf : FrAt R W cs f) : cs.toArray.all (·.oneCell') = true := by
  have := Frs.one_ (R := R) (W := W) (css := [cs]) (fs := [f]) ⟨rfl, fun i c f' e1 e2 => by
    cases i with
    | zero => simp at e1 e2; subst e1; subst e2; exact hf
    | succ i => simp at e1⟩
  rw [Array.all_eq_true_iff_forall_mem]
  intro x hx
  exact this x (by simpa using hx)
/-- While frames are copied. -/
def DpI (X : World) (fs : List Fr) (n : Nat) (fv iv : Value) (wr : World) : Prop :=
  ∃ (i : Nat) (R : Nat → Prop) (v : Value), i ≤ n ∧ v = fv ∧ iv = .int .i64 i ∧ Hid (FwAt R wr v (fs.take i) ∧ (∀ g, R g → X.heap.size ≤ g ∧ g < wr.heap.size) ∧ (∀ g, v.ownBlock = some g → X.heap.size ≤ g ∧ ¬ R g) ∧ X.grownBy wr none)
/-- One frame more. -/
theorem dp_step {X wr W1 W2 W3 : World} {R : Nat → Prop} {v : Value} {fs : List Fr} {f : Fr} {v3 v12 : Value} (h : FwAt R wr v fs) (h1 : ∀ g, R g → X.heap.size ≤ g ∧ g < wr.heap.size) (h2 : ∀ g, v.ownBlock = some g → X.heap.size ≤ g ∧ ¬ R g) (h3 : X.grownBy wr none) (hl : fs.length ≤ 100000000) (wf : f.Wf) (dv rv : Value)
    (hW1 : W1 = wr.alloc (.cells (f.cs dv rv).toArray 130)) (g2 : W1.grownBy W2 none) (l3 : Li (fun b => W1.heap.size ≤ b) W2 1 v3 f.d) (g3 : W2.grownBy W3 none) (l12 : Li (fun b => W2.heap.size ≤ b) W3 2 v12 f.r) :
    Blk W3 wr.heap.size (f.cs dv rv).toArray 130 ∧ Blk ((W3.setCell ⟨wr.heap.size, 3, none⟩ v3).setCell ⟨wr.heap.size, 12, none⟩ v12) wr.heap.size (f.cs v3 v12).toArray 130 ∧
    ∃ a' n' c' W', (Builtin.append_ #[44, 44] 44 #[v, .slice (some ⟨((W3.setCell ⟨wr.heap.size, 3, none⟩ v3).setCell ⟨wr.heap.size, 12, none⟩ v12).heap.size, 0, none⟩) 1 1]).run Tryz.prog (((W3.setCell ⟨wr.heap.size, 3, none⟩ v3).setCell ⟨wr.heap.size, 12, none⟩ v12).alloc (.cells (f.cs v3 v12).toArray 130)) = .ok (.slice a' n' c') W' ∧
      ∃ R', FwAt R' W' (.slice a' n' c') (fs ++ [f]) ∧ (∀ g, R' g → X.heap.size ≤ g ∧ g < W'.heap.size) ∧ (∀ g, (Value.slice a' n' c').ownBlock = some g → X.heap.size ≤ g ∧ ¬ R' g) ∧ X.grownBy W' none := by
  have s1 : W1.heap.size = wr.heap.size + 1 := by rw [hW1]; exact alloc_size _ _
  have g1 : wr.grownBy W1 none := by rw [hW1]; exact grown_alloc _ _
  have b1 : Blk W1 wr.heap.size (f.cs dv rv).toArray 130 := by rw [hW1]; exact Blk.new wr _ _
  have s2 := g2.size
  have s3 := g3.size
  have gw3 := grown_trans g1 (grown_trans g2 g3)
  have b3 : Blk W3 wr.heap.size (f.cs dv rv).toArray 130 := b1.grown (grown_trans g2 g3)
  obtain ⟨W4, hW4⟩ : ∃ W4, W4 = (W3.setCell ⟨wr.heap.size, 3, none⟩ v3).setCell ⟨wr.heap.size, 12, none⟩ v12 := ⟨_, rfl⟩
  have b4 : Blk W4 wr.heap.size (f.cs v3 v12).toArray 130 := by
    have := (b3.setC 3 v3).setC 12 v12
    rw [hW4]
    have e : ((f.cs dv rv).toArray.setIfInBounds 3 v3).setIfInBounds 12 v12 = (f.cs v3 v12).toArray := by
      rw [List.setIfInBounds_toArray, List.setIfInBounds_toArray, Fr.set3 wf, Fr.set12 wf]
    rw [e] at this
    exact this
  have z4 : W4.heap.size = W3.heap.size := by rw [hW4, set_size, set_size]
  have gw4 : wr.grownBy W4 none := by rw [hW4]; exact grown_set (grown_set gw3 _ _ _ (Nat.le_refl _)) _ _ _ (Nat.le_refl _)
  have kb : ∀ x, x ≠ wr.heap.size → W4.heap[x]? = W3.heap[x]? := fun x hx => by rw [hW4]; exact (set_heap _ _ _ _ _ hx).trans (set_heap _ _ _ _ _ hx)
  have L3 : Li (fun b => wr.heap.size < b) W4 1 v3 f.d := ((l3.grown g3).mono (T := fun b => wr.heap.size < b) fun b hb => by omega).kept fun b hb => kb b (by omega)
  have L12 : Li (fun b => wr.heap.size < b) W4 2 v12 f.r := (l12.mono (T := fun b => wr.heap.size < b) fun b hb => by omega).kept fun b hb => kb b (by omega)
  obtain ⟨W5, hW5⟩ : ∃ W5, W5 = W4.alloc (.cells (f.cs v3 v12).toArray 130) := ⟨_, rfl⟩
  have g5 : W4.grownBy W5 none := by rw [hW5]; exact grown_alloc _ _
  have b5 : Blk W5 W4.heap.size (f.cs v3 v12).toArray 130 := by rw [hW5]; exact Blk.new _ _ _
  have s5 : W5.heap.size = W4.heap.size + 1 := by rw [hW5]; exact alloc_size _ _
  have fr : FrAt (fun g => R g ∨ (wr.heap.size < g ∧ g < W4.heap.size)) W5 (f.cs v3 v12) f := ⟨wf, v3, v12, rfl, (L3.lo.grown g5).mono fun b hb => .inr hb, (L12.lo.grown g5).mono fun b hb => .inr hb⟩
  have row : FwAt (fun g => R g ∨ (wr.heap.size < g ∧ g < W4.heap.size)) W5 v fs := (h.grown (grown_trans gw4 g5)).mono fun b hb => .inl hb
  obtain ⟨v', W', hrun, fw, gr, own⟩ := row.app f _ fr (fun g e q => by
    have := h.lt g e
    rcases q with q | q
    · exact (h2 g e).2 q
    · omega) hl W4.heap.size b5 (fun g q => by
    rcases q with q | q
    · have := (h1 g q).2; omega
    · omega)
  rw [← hW4]
  rw [hW5] at hrun
  have sx := h3.size
  have sW := gr.size
  obtain ⟨a', n', c', hv'⟩ : ∃ a' n' c', v' = .slice a' n' c' := by
    rcases fw.sh with ⟨e, -⟩ | ⟨g, c, e, -⟩
    · exact ⟨_, _, _, e⟩
    · exact ⟨_, _, _, e⟩
  subst hv'
  have gX5 := grown_trans h3 (grown_trans gw4 g5)
  refine ⟨b3, b4, a', n', c', W', hrun, _, fw, fun g q => ?_, fun g e => ?_, ⟨gr.os.trans gX5.os, gr.tape.trans gX5.tape, gr.output.trans gX5.output, Nat.le_trans gX5.size gr.size, fun x hx _ => (gr.block x (by have := gX5.size; omega) (fun e => by have := (h2 x e.symm).1; omega)).trans (gX5.block x hx (by simp))⟩⟩
  · rcases q with q | q
    · have := h1 g q; omega
    · omega
  · rcases own with q | q
    · rw [q] at e
      refine ⟨(h2 g e).1, fun q2 => ?_⟩
      have := h.lt g e
      rcases q2 with q2 | q2
      · exact (h2 g e).2 q2
      · omega
    · rw [q] at e
      cases e
      refine ⟨by omega, fun q2 => ?_⟩
      rcases q2 with q2 | q2
      · have := (h1 _ q2).2; omega
      · omega

theorem deep_any (s : St) (R0 : Nat → Prop) (fa : Option Addr) (fc : Nat) (X : World) (hf : FvAt R0 X (.slice fa s.fs.length fc) s.fs) :
    Calls Tryz.prog 38 #[.agg (s.cs (.slice fa s.fs.length fc))] X fun e Y => ∃ a' c', e = .returned (.agg (s.cs (.slice a' s.fs.length c'))) ∧ FvAt (fun b => X.heap.size ≤ b) Y (.slice a' s.fs.length c') s.fs ∧ X.grownBy Y none := by
  obtain ⟨nu, ti, si, el, co, pr, tl, fs⟩ := s
  simp only [St.cs] at hf ⊢
  obtain ⟨hn, a, c, css, h1, frs, rd, -⟩ := hf
  injection h1 with e1 e2 e3
  subst e1
  subst e3
  clear e2
  obtain ⟨W2, hW2⟩ : ∃ W2, W2 = (X.alloc (.cells #[.int .i64 nu, .int .i64 ti, .int .i64 si, .bool el, .bool co, .bool pr, .int .i64 tl, .slice fa fs.length fc] 46)).alloc (.cells #[.int .i64 0, .int .i64 0, .int .i64 0, .bool false, .bool false, .bool false, .int .i64 0, .slice none 0 0] 46) := ⟨_, rfl⟩
  have bb := Blk.two X #[.int .i64 nu, .int .i64 ti, .int .i64 si, .bool el, .bool co, .bool pr, .int .i64 tl, .slice fa fs.length fc] #[.int .i64 0, .int .i64 0, .int .i64 0, .bool false, .bool false, .bool false, .int .i64 0, .slice none 0 0] 46 46
  rw [← hW2] at bb
  obtain ⟨B1, B2, g2⟩ := bb
  obtain ⟨b1, hb1⟩ : ∃ b1, b1 = X.heap.size := ⟨_, rfl⟩
  have sz2 : W2.heap.size = b1 + 2 := by rw [hW2, hb1]; simp
  rw [← hb1] at B1 B2
  obtain ⟨n, hnn⟩ : ∃ n, n = fs.length := ⟨_, rfl⟩
  rw [← hnn] at hW2 B1 ⊢
  have lenI : ¬ (9223372036854775807 : Int) < (n : Int) := by omega
  have ALL := hide (And.intro frs (And.intro rd (And.intro g2 (And.intro B1 (And.intro B2 (And.intro sz2 (And.intro hnn (And.intro hn hb1))))))))
  have I0 : Hid (FwAt (fun _ => False) W2 (.slice none 0 0) (fs.take 0) ∧ (∀ g, (fun _ : Nat => False) g → W2.heap.size ≤ g ∧ g < W2.heap.size) ∧ (∀ g, (Value.slice none 0 0).ownBlock = some g → W2.heap.size ≤ g ∧ ¬ (fun _ : Nat => False) g) ∧ W2.grownBy W2 none) := ⟨FwAt.nil _ _, fun g e => e.elim, fun g e => (by cases e), grown_self _ _⟩
  clear frs rd g2 B1 B2 hn sz2 hnn
  go_enter Tryz.func38, Tryz.ntmps38
  go_upto_region 1 with fail
  rw [← hW2, ← hb1]
  replace hW2 := hide hW2
  clear hb1
  go_wp2_with fail
  go_loopw [3, 4] (fun fv iv wr => DpI W2 fs n fv iv wr) (fun _ iv _ => n - (intOf iv).toNat)
  case atStart => exact ⟨0, _, _, Nat.zero_le _, rfl, rfl, I0⟩
  case round =>
    clear I0
    obtain ⟨i, R, v, hi, rfl, rfl, I⟩ := hrel
    obtain ⟨frs, rd, g2, B1, B2, sz2, hnn, hn, hb1⟩ := unhide ALL
    obtain ⟨fw, r1, r2, gr⟩ := unhide I
    have B1w := B1.grown gr
    have x7 : wr.cell? ⟨b1, 7, none⟩ = some (.slice fa n fc) := B1w.cell 7 _ rfl
    obtain ⟨va, vn, vc, hv⟩ : ∃ va vn vc, v = .slice va vn vc := by
      rcases fw.sh with ⟨e, -⟩ | ⟨g, c, e, -⟩
      · exact ⟨_, _, _, e⟩
      · exact ⟨_, _, _, e⟩
    subst hv
    by_cases hlt : i < n
    · have hiI : (i : Int) < (n : Int) := by omega
      have hi0 : (0 : Int) ≤ (i : Int) := by omega
      obtain ⟨f, hf⟩ : ∃ f, fs[i]? = some f := ⟨_, List.getElem?_eq_getElem (by omega)⟩
      obtain ⟨cc, hcc⟩ : ∃ cc, css[i]? = some cc := ⟨_, List.getElem?_eq_getElem (by rw [frs.len]; omega)⟩
      have gX := grown_trans g2 gr
      have fat := (frs.at_ i cc f hcc hf).grown gX
      obtain ⟨wf, dv, rv, hcs, ld, lr⟩ := fat
      have hone := (frs.at_ i cc f hcc hf).one
      have h17 : cc.toArray.size = 17 := by rw [hcs]; simp [Fr.len wf]
      have hne : css.flatten ≠ [] := fun e => by
        have := flat_len 17 css frs.l17
        rw [e, frs.len] at this
        simp at this
        omega
      obtain ⟨ga, off, hfa, rdc⟩ := (rd.grown gX).resolve_left hne
      subst hfa
      have hld : ∀ j u, cc.toArray[j]? = some u → wr.cell? ⟨ga, off + i * 17 + j, none⟩ = some u := fun j u hj => by
        have hj17 : j < 17 := by rw [← h17]; exact (Array.getElem?_eq_some_iff.1 hj).1
        have := rdc (i * 17 + j) u (by rw [flat_get 17 css i j frs.l17 hj17, hcc]; simpa using hj)
        rw [Nat.add_assoc]
        exact this
      obtain ⟨da, dn, dc, hdv⟩ : ∃ da dn dc, dv = .slice da dn dc := by obtain ⟨da, dn, dc, e, -⟩ := ld.ex; exact ⟨da, dn, dc, e⟩
      obtain ⟨ra, rn, rc, hrv⟩ : ∃ ra rn rc, rv = .slice ra rn rc := by obtain ⟨da, dn, dc, e, -⟩ := lr.ex; exact ⟨da, dn, dc, e⟩
      subst hdv
      subst hrv
      obtain ⟨W1, hW1⟩ : ∃ W1, W1 = wr.alloc (.cells cc.toArray 130) := ⟨_, rfl⟩
      have g1 : wr.grownBy W1 none := by rw [hW1]; exact grown_alloc _ _
      have bx1 : Blk W1 wr.heap.size cc.toArray 130 := by rw [hW1]; exact Blk.new wr _ _
      obtain ⟨ib, hib, hb0, hb1', hb2⟩ := info_parts Tryz.infoB
      obtain ⟨is, his, hs0, hs1, hs2⟩ := info_parts Tryz.infoS
      obtain ⟨ba, bn, bc, Wb, runB, lB, gB⟩ := app_new 1 (by decide) 127 5 Tryz.underlying127 ib _ 1 hib hb0 hb1' hb2 rfl (by decide) W1 _ _ f.d (ld.grown g1) (fun u hu => wf.one u (by simp [hu])) (by have := wf.nd; omega)
      obtain ⟨sa, sn, sc, Ws, runS, lS, gS⟩ := app_new 2 (by decide) 47 63 Tryz.underlying47 is _ 16 his hs0 hs1 hs2 rfl (by decide) Wb _ _ f.r ((lr.grown g1).grown gB) (fun u hu => wf.one u (by simp [hu])) (by obtain ⟨m, e1, e2⟩ := wf.nr; omega)
      obtain ⟨b3, b4, a', n', c', W', runF, R', nx⟩ := dp_step fw r1 r2 gr (by rw [List.length_take]; omega) wf _ _ (by rw [hW1, hcs]) gB lB gS lS
      obtain ⟨bx, hbx⟩ : ∃ bx, bx = wr.heap.size := ⟨_, rfl⟩
      rw [← hbx] at bx1 b3 b4 runF
      have x3 : W1.cell? ⟨bx, 3, none⟩ = some (.slice da dn dc) := bx1.cell 3 _ (by rw [hcs, List.getElem?_toArray]; exact Fr.at3 wf _ _)
      have x12 : Wb.cell? ⟨bx, 12, none⟩ = some (.slice ra rn rc) := (bx1.grown gB).cell 12 _ (by rw [hcs, List.getElem?_toArray]; exact Fr.at12 wf _ _)
      have y3 : Ws.cell? ⟨bx, 3, none⟩ = some (.slice da dn dc) := b3.cell 3 _ (by rw [List.getElem?_toArray]; exact Fr.at3 wf _ _)
      have t3 := b3.thaw 3
      have b3s := b3.setC 3 (.slice ba bn bc)
      have y12 : (Ws.setCell ⟨bx, 3, none⟩ (.slice ba bn bc)).cell? ⟨bx, 12, none⟩ = some (.slice ra rn rc) := b3s.cell 12 _ (by rw [List.setIfInBounds_toArray, Fr.set3 wf, List.getElem?_toArray]; exact Fr.at12 wf _ _)
      have t12 := b3s.thaw 12
      obtain ⟨W4, hW4⟩ : ∃ W4, W4 = (Ws.setCell ⟨bx, 3, none⟩ (.slice ba bn bc)).setCell ⟨bx, 12, none⟩ (.slice sa sn sc) := ⟨_, rfl⟩
      rw [← hW4] at b4 runF
      have C17 : (f.cs (.slice ba bn bc) (.slice sa sn sc)).toArray.size = 17 := by simp [Fr.len wf]
      have ld4 : ∀ j u, (f.cs (.slice ba bn bc) (.slice sa sn sc)).toArray[j]? = some u → W4.cell? ⟨bx, 0 + j, none⟩ = some u := fun j u hj => by rw [Nat.zero_add]; exact b4.cell j u hj
      have hsz : (Tryz.prog.info? 130).map (·.size) = some cc.toArray.size := by
        obtain ⟨ii, h1, h2, h3, h4⟩ := info_parts Tryz.infoF
        rw [h1, h17]; simp [h3]
      obtain ⟨CC, hCC⟩ : ∃ CC, CC = cc.toArray := ⟨_, rfl⟩
      obtain ⟨C4, hC4⟩ : ∃ C4, C4 = (f.cs (.slice ba bn bc) (.slice sa sn sc)).toArray := ⟨_, rfl⟩
      rw [← hCC] at hld h17 hone hsz hW1
      rw [← hC4] at C17 ld4 runF
      have LD := hide hld
      have LD4 := hide ld4
      have ONE := hide hone
      have SZ := hide hsz
      have S17 := hide (And.intro h17 C17)
      have NX := hide (And.intro nx hf)
      have RUNB := hide runB
      have RUNS := hide runS
      have RUNF := hide runF
      clear hld ld4 hone hsz h17 C17 nx hf runB runS runF fw r1 r2 gr B1w frs rd rdc g2 B1 B2 sz2 gX wf hcs ld lr hne g1 bx1 lB gB lS gS b3 b4 b3s hcc hib hb0 hb1' hb2 his hs0 hs1 hs2 I hCC hC4 hb1 hnn hn
      go_upto_region 5 with fail
      go_upto_region 6 with (first | (refine wpList_load_at rfl _ rfl ga (off + i * 17) CC rfl (unhide S17).1 (unhide LD) ?_) | (refine wpList_store_new wr _ CC bx rfl 130 _ _ rfl hbx.symm (by rw [hbx]; rfl) rfl (unhide SZ) (by rw [(unhide S17).1]; rfl) (unhide ONE) ?_))
      rw [← hW1, ← hbx]
      replace hW1 := hide hW1
      replace hbx := hide hbx
      go_upto_region 8 with (at_builtin; refine wpList_append_run _ rfl _ _ 127 127 rfl _ _ rfl rfl (unhide RUNB) ?_)
      go_upto_region 10 with (at_builtin; refine wpList_append_run _ rfl _ _ 47 47 rfl _ _ rfl rfl (unhide RUNS) ?_)
      go_upto_region 12 with fail
      rw [← hW4]
      replace hW4 := hide hW4
      clear x3 x12 y3 t3 y12 t12 RUNB RUNS
      go_wp2_with (first | (refine wpList_load_at rfl _ rfl bx 0 C4 rfl (unhide S17).2 (unhide LD4) ?_) | (refine wpList_one_frame rfl _ rfl C4 rfl (unhide S17).2 ?_) | (at_builtin; refine wpList_append_run _ rfl _ _ 44 44 rfl _ _ rfl rfl (unhide RUNF) ?_))
      all_goals go_roundw
      case rel =>
        obtain ⟨nx, hf⟩ := unhide NX
        refine ⟨i + 1, R', _, hlt, rfl, by go_num, ?_⟩
        rw [take_at hf]
        exact nx
      case measure => simp [intOf]; omega
    · obtain rfl : i = n := by omega
      have hiI : ¬ (i : Int) < (i : Int) := by omega
      rw [List.take_of_length_le (by omega)] at fw
      obtain ⟨va', vc', hv⟩ : ∃ va' vc', Value.slice va vn vc = .slice va' i vc' := by
        rcases fw.sh with ⟨e, e2⟩ | ⟨g, c, e, -⟩
        · refine ⟨none, 0, ?_⟩
          rw [e, hnn, e2]; rfl
        · exact ⟨_, c, by rw [e, hnn]⟩
      rw [hv] at fw r2 ⊢
      have hfv := fw.fv (by omega)
      have sg := gr.size
      obtain ⟨W5, hW5⟩ : ∃ W5, W5 = wr.setCell ⟨b1, 7, none⟩ (.slice va' i vc') := ⟨_, rfl⟩
      have t7 := B1w.thaw 7
      have B5 : Blk W5 b1 #[.int .i64 nu, .int .i64 ti, .int .i64 si, .bool el, .bool co, .bool pr, .int .i64 tl, .slice va' i vc'] 46 := by rw [hW5]; exact B1w.setC 7 _
      have Z5 : Blk W5 (b1 + 1) #[.int .i64 0, .int .i64 0, .int .i64 0, .bool false, .bool false, .bool false, .int .i64 0, .slice none 0 0] 46 := by rw [hW5]; exact (B2.grown gr).setO b1 7 _ (by omega)
      have gX5 : X.grownBy W5 none := by rw [hW5]; exact grown_set (grown_trans g2 gr) _ _ _ (by omega)
      have FIN : Hid (FvAt (fun b => X.heap.size ≤ b) (W5.setRow (b1 + 1) #[.int .i64 nu, .int .i64 ti, .int .i64 si, .bool el, .bool co, .bool pr, .int .i64 tl, .slice va' i vc']) (.slice va' i vc') fs ∧ X.grownBy (W5.setRow (b1 + 1) #[.int .i64 nu, .int .i64 ti, .int .i64 si, .bool el, .bool co, .bool pr, .int .i64 tl, .slice va' i vc']) none ∧ Blk (W5.setRow (b1 + 1) #[.int .i64 nu, .int .i64 ti, .int .i64 si, .bool el, .bool co, .bool pr, .int .i64 tl, .slice va' i vc']) (b1 + 1) #[.int .i64 nu, .int .i64 ti, .int .i64 si, .bool el, .bool co, .bool pr, .int .i64 tl, .slice va' i vc'] 46) := by
        refine ⟨?_, grown_row gX5 _ _ (by omega), Z5.row _⟩
        have hlo : ∀ x, (R x ∨ (Value.slice va' i vc').ownBlock = some x) → W2.heap.size ≤ x := fun x hx => hx.elim (fun q => (r1 x q).1) (fun q => (r2 x q).1)
        refine (hfv.kept fun x hx => ?_).mono fun x hx => ?_
        · have := hlo x hx
          rw [setRow_other W5 (b1 + 1) x _ (by omega), hW5]
          exact set_heap _ _ _ _ _ (by omega)
        · have := hlo x hx; omega
      obtain ⟨p0, p1, p2, p3, p4, p5, p6, p7⟩ := cells8 B5
      have Z5H := hide Z5
      clear fw r1 r2 gr B1w frs rd g2 B1 B2 sz2 hnn hn hb1 hfv sg B5 Z5 gX5 I hv
      go_upto_region 14 with fail
      rw [← hW5]
      replace hW5 := hide hW5
      clear x7 t7
      go_wp2_with (refine wpList_store_row rfl _ _ _ rfl (b1 + 1) #[.int .i64 nu, .int .i64 ti, .int .i64 si, .bool el, .bool co, .bool pr, .int .i64 tl, .slice va' i vc'] rfl rfl 46 _ (unhide Z5H) Tryz.sizeSent rfl (by simp [Value.oneCell']) ?_)
      refine bodyPost_ret (results_cell_row rfl _ _ (b1 + 1) 46 #[.int .i64 nu, .int .i64 ti, .int .i64 si, .bool el, .bool co, .bool pr, .int .i64 tl, .slice va' i vc'] (0, 0) _ rfl (unhide FIN).2.2 Tryz.underlying46 rfl Tryz.sizeSent) rfl ?_
      exact ⟨va', vc', rfl, (unhide FIN).1, (unhide FIN).2.1⟩
end Go.Proofs.YtnflbefbgcbdfaaGreat
