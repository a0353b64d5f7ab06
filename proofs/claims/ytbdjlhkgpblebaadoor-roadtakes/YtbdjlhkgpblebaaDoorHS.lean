/- Advance: what holds between two rounds. -/
import Derived.Test.YtbdjlhkgpblebaaDoorHR
namespace Go.Proofs.YtbdjlhkgpblebaaDoor
open Go.RowKit Go.Shelf Go.Maps
set_option linter.unusedVariables false
set_option maxRecDepth 100000
set_option maxHeartbeats 1000000

/-- Beyond the clock. -/
def late (t : Nat) (n : Nd) : Bool := decide (t < n.at_)
abbrev idsV (L : List Nd) : List Value := L.map fun n => Value.int .i64 (n.id : Int)

theorem out_late {c t : Nat} {n : Nd} (hn : n.at_ < 2 ^ 62) (hct : c ≤ t) (ht : t ≤ 2 ^ 50) (h : outR c t n = false) : late t n = true := by
  unfold outR at h
  simp only [decide_eq_false_iff_not] at h
  have := (pl_stays hn (t := t) (c := c) (by omega) hct (by omega)).2
  unfold late; simpa using this

theorem filter_perm (L : List Nd) (p : Nd → Bool) : (L.filter p ++ L.filter (fun n => !p n)).Perm L := by
  induction L with
  | nil => exact List.Perm.refl _
  | cons a t ih =>
    rw [List.filter_cons, List.filter_cons]
    cases h : p a with
    | true => simp only [if_true, Bool.not_true, Bool.false_eq_true, if_false]; exact ih.cons a
    | false => simp only [Bool.false_eq_true, if_false, Bool.not_false, if_true]; exact List.perm_middle.trans (ih.cons a)

/-- What is in the slots, and in the map, when k of the nodes A have been gone over. -/
abbrev slotL (t : Nat) (A B : List Nd) (k : Nat) : List Nd := B ++ (A.take k).filter (late t)
abbrev mapL (t : Nat) (A B : List Nd) (k : Nat) : List Nd := B ++ (A.take k).filter (late t) ++ A.drop k
abbrev dueL (t : Nat) (A : List Nd) (k : Nat) : List Nd := (A.take k).filter (fun n => !late t n)

theorem map_nodup {α : Type} (f : Nd → α) (t : Nat) {L A B : List Nd} (hp : (A ++ B).Perm L) (h : (L.map f).Nodup) (k : Nat) : ((mapL t A B k).map f).Nodup := by
  have h1 : ((B ++ (A.take k ++ A.drop k)).map f).Nodup := by
    rw [List.take_append_drop]
    exact ((List.perm_append_comm.trans hp).map f).nodup_iff.2 h
  refine List.Nodup.sublist (List.Sublist.map f ?_) h1
  show (B ++ (A.take k).filter (late t) ++ A.drop k).Sublist _
  rw [List.append_assoc]
  exact List.Sublist.append (List.Sublist.refl _) (List.Sublist.append List.filter_sublist (List.Sublist.refl _))
theorem map_sub (t : Nat) {L A B : List Nd} (hp : (A ++ B).Perm L) (k : Nat) {n : Nd} (h : n ∈ mapL t A B k) : n ∈ L := by
  refine hp.mem_iff.1 ?_
  rw [List.mem_append, List.mem_append] at h
  rw [List.mem_append]
  rcases h with (h | h) | h
  · exact .inr h
  · exact .inl (List.mem_of_mem_take (List.mem_filter.1 h).1)
  · exact .inl (List.mem_of_mem_drop h)
theorem take_snocN (A : List Nd) (k : Nat) (n : Nd) (h : A[k]? = some n) : A.take (k + 1) = A.take k ++ [n] := by
  rw [List.take_add_one, h]; rfl
theorem drop_consN (A : List Nd) (k : Nat) (n : Nd) (h : A[k]? = some n) : A.drop k = n :: A.drop (k + 1) := by
  have hk : k < A.length := by
    by_cases c : k < A.length
    · exact c
    · rw [List.getElem?_eq_none (by omega)] at h; cases h
  rw [List.drop_eq_getElem_cons hk]
  rw [List.getElem?_eq_getElem hk] at h
  rw [Option.some.inj h]
theorem slot_late (t : Nat) (A B : List Nd) (k : Nat) (n : Nd) (h : A[k]? = some n) (hl : late t n = true) : slotL t A B (k + 1) = slotL t A B k ++ [n] ∧ mapL t A B (k + 1) = mapL t A B k ∧ dueL t A (k + 1) = dueL t A k := by
  unfold slotL mapL dueL
  rw [take_snocN A k n h, drop_consN A k n h, List.filter_append, List.filter_append]
  simp [hl]
theorem slot_early (t : Nat) (A B : List Nd) (k : Nat) (n : Nd) (h : A[k]? = some n) (hl : late t n = false) : slotL t A B (k + 1) = slotL t A B k ∧ mapL t A B k = slotL t A B k ++ n :: A.drop (k + 1) ∧ mapL t A B (k + 1) = slotL t A B k ++ A.drop (k + 1) ∧ dueL t A (k + 1) = dueL t A k ++ [n] := by
  unfold slotL mapL dueL
  rw [take_snocN A k n h, drop_consN A k n h, List.filter_append, List.filter_append]
  simp [hl]

structure AI (w : World) (W mb t : Nat) (L A B : List Nd) (n1 : Nat) (pv : Value) (k : Nat) (wr : World) (v : Value) : Prop where
  sw : ∃ fl sl, SW wr W mb t fl sl (slotL t A B k)
  mp : Mp wr mb (mapL t A B k)
  nd : ∀ n ∈ A.drop k, ∃ b h, Blk wr n.g (ndc n b h) 81
  due : wr.ownsRow n1 3 1 v (dueL t A k).length (idsV (dueL t A k))
  row : wr.ownsRow w.heap.size 67 1 pv A.length (ptrs A)
  rlt : ∀ g, pv.ownBlock = some g → g < n1
  kp : Kp (FP W mb L) w wr
  sz : w.heap.size ≤ n1 ∧ n1 ≤ wr.heap.size

theorem neW_of {w : World} {W mb t : Nat} {L : List Nd} {fl : Nat → Nat} {sl : Nat → Nat → List Nd} (h : SW w W mb t fl sl L) {M : List Nd} (mp : Mp w mb M) : W ≠ mb := by
  obtain ⟨cs, hb, -⟩ := h.wb.ex
  exact mp.ne hb

/-- One that comes down. -/
theorem AI.down {w : World} {W mb t : Nat} {L A B : List Nd} {n1 : Nat} {pv : Value} {k : Nat} {wr : World} {v : Value} (h : AI w W mb t L A B n1 pv k wr v) (hp : (A ++ B).Perm L) (gs : (L.map Nd.g).Nodup) (hL : ∀ m ∈ L, m.at_ < 2 ^ 62 ∧ m.g < w.heap.size ∧ m.g ≠ W) (hW : W < w.heap.size) (n : Nd) (hn : A[k]? = some n) (hl : late t n = true) :
    Calls Tryd.prog 33 #[ptr W, ptr n.g] wr fun e w' => e = .returned (.tuple #[]) ∧ AI w W mb t L A B n1 pv (k + 1) w' v := by
  obtain ⟨fl, sl, sw⟩ := h.sw
  have nA : n ∈ A.drop k := by rw [drop_consN A k n hn]; simp
  obtain ⟨b, f, hb⟩ := h.nd n nA
  have nL : n ∈ L := map_sub t hp k (List.mem_append.2 (.inr nA))
  have nd := map_nodup Nd.g t hp gs k
  rw [show mapL t A B k = slotL t A B k ++ A.drop k from rfl, List.map_append, List.nodup_append] at nd
  have hne : ∀ m ∈ slotL t A B k, ∀ x ∈ A.drop k, m.g ≠ x.g := fun m hm x hx => nd.2.2 m.g (List.mem_map.2 ⟨m, hm, rfl⟩) x.g (List.mem_map.2 ⟨x, hx, rfl⟩)
  obtain ⟨s1, s2, s3⟩ := slot_late t A B k n hn hl
  refine (put_any W mb t fl sl _ n b f wr sw hb (hL n nL).2.2 (fun m hm => hne m hm n nA) (hL n nL).1).mono ?_
  rintro e W2 ⟨rfl, fl2, sl2, sw2, k2, sz2⟩
  have low : ∀ m ∈ slotL t A B k, m ∈ L := fun m hm => map_sub t hp k (List.mem_append.2 (.inl hm))
  have notin : ∀ g, w.heap.size ≤ g → ¬ (g = W ∨ g = n.g ∨ ∃ m ∈ slotL t A B k, m.g = g) := by
    rintro g hg (rfl | rfl | ⟨m, hm, rfl⟩)
    · omega
    · have := (hL n nL).2.1; omega
    · have := (hL m (low m hm)).2.1; omega
  refine ⟨rfl, ⟨fl2, sl2, by rw [s1]; exact sw2.perm (List.perm_append_singleton n _).symm⟩, ?_, fun m hm => ?_, ?_, ?_, h.rlt, ?_, ⟨h.sz.1, by rw [sz2]; exact h.sz.2⟩⟩
  · rw [s2]
    refine h.mp.kept (k2.block mb h.mp.lt ?_)
    rintro (e | e | ⟨m, hm, e⟩)
    · exact neW_of sw h.mp e.symm
    · exact h.mp.ne hb e.symm
    · obtain ⟨b', f', hb'⟩ := sw.node hm
      exact h.mp.ne hb' e
  · have hm' : m ∈ A.drop k := by rw [drop_consN A k n hn]; simp [hm]
    obtain ⟨b', f', hb'⟩ := h.nd m hm'
    refine ⟨b', f', (k2.block m.g hb'.lt ?_).trans hb'⟩
    have mL : m ∈ L := map_sub t hp k (List.mem_append.2 (.inr hm'))
    rintro (e | e | ⟨x, hx, e⟩)
    · exact (hL m mL).2.2 e
    · have h2 := nd.2.1
      rw [drop_consN A k n hn, List.map_cons, List.nodup_cons] at h2
      exact h2.1 (List.mem_map.2 ⟨m, hm, e⟩)
    · exact hne x hx m hm' e
  · rw [s3]
    exact row_kpt h.due (fun g h1 h2 _ => k2.block g h2 (notin g (Nat.le_trans h.sz.1 h1)))
  · exact row_kpt h.row (fun g h1 h2 _ => k2.block g h2 (notin g h1))
  · refine h.kp.trans (k2.mono (fun g _ hg => ?_))
    rcases hg with rfl | rfl | ⟨m, hm, rfl⟩
    · exact .inl rfl
    · exact .inr (.inr ⟨n, nL, rfl⟩)
    · exact .inr (.inr ⟨m, low m hm, rfl⟩)

theorem Tryd.infoI : (Tryd.prog.info? 3).map (fun i => (i.zero, i.size, i.bytes)) = some (some (.int .i64 0), 1, 8) := by kernel_rfl

/-- One that is due: out of the map, and told. -/
theorem AI.told {w : World} {W mb t : Nat} {L A B : List Nd} {n1 : Nat} {pv : Value} {k : Nat} {wr : World} {v : Value} (h : AI w W mb t L A B n1 pv k wr v) (hp : (A ++ B).Perm L) (gs : (L.map Nd.g).Nodup) (ids : (L.map Nd.id).Nodup) (hL : ∀ m ∈ L, m.at_ < 2 ^ 62 ∧ m.g < w.heap.size ∧ m.g ≠ W) (idl : ∀ m ∈ L, m.id < 4096) (hlen : A.length ≤ 4096) (hW : W < w.heap.size) (hmb : mb < w.heap.size) (n : Nd) (hn : A[k]? = some n) (hl : late t n = false) (q : Nat) :
    ∃ W2, (∀ ty, (Builtin.delete_ #[65, 3] ty #[.map (some mb), .int .i64 n.id]).run Tryd.prog (wr.drewN q) = .ok (.tuple #[]) W2) ∧ W2.cell? ⟨W, 1, none⟩ = some (.map (some mb)) ∧ W2.cell? ⟨n.g, 0, none⟩ = some (.int .i64 n.id) ∧
      ∃ a3 m3 c3 W3, (Builtin.append_ #[49, 49] 49 #[v, .slice (some ⟨W2.heap.size, 0, none⟩) 1 1]).run Tryd.prog (W2.alloc (.cells #[.int .i64 n.id] 3)) = .ok (.slice a3 m3 c3) W3 ∧ AI w W mb t L A B n1 pv (k + 1) W3 (.slice a3 m3 c3) := by
  obtain ⟨fl, sl, sw⟩ := h.sw
  have nA : n ∈ A.drop k := by rw [drop_consN A k n hn]; simp
  have nM : n ∈ mapL t A B k := List.mem_append.2 (.inr nA)
  have nL : n ∈ L := map_sub t hp k nM
  obtain ⟨s1, s2, s3, s4⟩ := slot_early t A B k n hn hl
  have mnd := map_nodup Nd.id t hp ids k
  obtain ⟨D, h1, h2, h3, h4⟩ := h.mp.ex
  have h1' : (wr.drewN q).ownsMap Tryd.prog 3 nodeE mb (mapL t A B k).length D := h1
  obtain ⟨W2, hrun, r1, r2⟩ := h1'.drop kint Tryd.underlying65 (keyOf_int_mk Tryd.underlying3 (wfI_nat (idl n nL))) 0
  have mp2 : Mp W2 mb (sans (mapL t A B k) n) := Mp.del (w := wr) mnd nM h1 h2 h3 h4 r1
  have e2 : sans (mapL t A B k) n = mapL t A B (k + 1) := by
    rw [s2, s3]
    rw [s2, List.map_append, List.map_cons, List.nodup_append] at mnd
    obtain ⟨d1, d2, d3⟩ := mnd
    rw [List.nodup_cons] at d2
    unfold sans
    rw [List.filter_append, List.filter_cons, if_neg (by simp), List.filter_eq_self.2, List.filter_eq_self.2]
    · intro m hm
      simp only [ne_eq, decide_not, Bool.not_eq_eq_eq_not, Bool.not_true, decide_eq_false_iff_not]
      exact fun e => d2.1 (List.mem_map.2 ⟨m, hm, e⟩)
    · intro m hm
      simp only [ne_eq, decide_not, Bool.not_eq_eq_eq_not, Bool.not_true, decide_eq_false_iff_not]
      exact fun e => d3 m.id (List.mem_map.2 ⟨m, hm, rfl⟩) n.id (by simp) e
  rw [e2] at mp2
  have g2 : wr.grownBy W2 (some mb) := ⟨r2.grown.os, r2.grown.tape, r2.grown.output, r2.grown.size, r2.grown.block⟩
  have keep2 : ∀ g, g ≠ mb → g < wr.heap.size → W2.heap[g]? = wr.heap[g]? := fun g hg hlt => g2.block g hlt (fun e => hg (by cases e; rfl))
  obtain ⟨b, f, hb⟩ := h.nd n nA
  have hb2 : Blk W2 n.g (ndc n b f) 81 := (keep2 n.g (h.mp.ne hb) hb.lt).trans hb
  refine ⟨W2, fun ty => hrun, (sw.wb.kept (keep2 W (neW_of sw h.mp) sw.wb.W_lt)).map, hb2.cell 0 _ rfl, ?_⟩
  have ncells : ∀ {base : Nat} {e : TypeId} {u : Value} {m : Nat} {xs : List Value}, wr.ownsRow base e 1 u m xs → ∀ g, u.ownBlock = some g → g ≠ mb := by
    intro base e u m xs hr g hg e2
    subst e2
    rcases hr.2 with ⟨rfl, -⟩ | ⟨g', cap, cur, rfl, -, q2, -⟩
    · cases hg
    · cases hg
      obtain ⟨es, ck, hmb, -⟩ := h1
      rw [q2] at hmb
      cases hmb
  have due2 : W2.ownsRow n1 3 1 v (dueL t A k).length (idsV (dueL t A k)) := row_kpt h.due (fun g _ hg e => keep2 g (ncells h.due g e) hg)
  have row2 : W2.ownsRow w.heap.size 67 1 pv A.length (ptrs A) := row_kpt h.row (fun g _ hg e => keep2 g (ncells h.row g e) hg)
  have sz2 : n1 ≤ W2.heap.size := Nat.le_trans h.sz.2 g2.size
  have gA := World.grownBy_alloc W2 (.cells #[.int .i64 (n.id : Int)] 3) none
  have hsz := alloc_size W2 (.cells #[.int .i64 (n.id : Int)] 3)
  have due3 : (W2.alloc (.cells #[.int .i64 (n.id : Int)] 3)).ownsRow n1 3 1 v (dueL t A k).length (idsV (dueL t A k)) := row_kpt due2 (fun g _ hg _ => gA.block g hg (by simp))
  have hlk : (dueL t A k).length ≤ 4096 := by
    refine Nat.le_trans (List.length_filter_le _ _) ?_
    rw [List.length_take]; omega
  obtain ⟨i0, hi0, hz0, hz1, hz2⟩ := info_parts Tryd.infoI
  obtain ⟨v3, W3, hr3, o3, g3, _⟩ := run_append_own (P := Tryd.prog) (W2.alloc (.cells #[.int .i64 (n.id : Int)] 3)) n1 49 49 3 i0 (.int .i64 0) 1 8 Tryd.underlying49 hi0 hz0 hz1 hz2 rfl (by decide) v (dueL t A k).length _ due3 ⟨W2.heap.size, 0, none⟩ 1 1 [.int .i64 (n.id : Int)] rfl (fun j u hu => by
    cases j with
    | zero =>
      simp only [List.getElem?_cons_zero, Option.some.injEq] at hu
      subst hu
      exact (Blk.new W2 #[.int .i64 (n.id : Int)] 3).cell 0 _ rfl
    | succ j => simp at hu) (fun u hu => by simp at hu; subst hu; rfl) (by unfold maxLen; omega) (by omega) (by omega)
  have e3 : idsV (dueL t A k) ++ [.int .i64 (n.id : Int)] = idsV (dueL t A (k + 1)) := by rw [s4]; simp [idsV]
  have e4 : (dueL t A k).length + 1 = (dueL t A (k + 1)).length := by rw [s4]; simp
  rw [e3, e4] at o3
  obtain ⟨a3, c3, rfl⟩ : ∃ a3 c3, v3 = .slice a3 (dueL t A (k + 1)).length c3 := by
    rcases o3.2 with ⟨e5, e6⟩ | ⟨g, cap, cur, e5, -⟩
    · exact ⟨none, 0, by rw [e5, e6]⟩
    · exact ⟨_, _, e5⟩
  have vb : ∀ g, v.ownBlock = some g → n1 ≤ g := fun g e => (h.due.lt g e).1
  have keep3 : ∀ g, g < n1 → W3.heap[g]? = W2.heap[g]? := fun g hg =>
    (g3.block g (by omega) (fun e => by have := vb g e.symm; omega)).trans (gA.block g (by omega) (by simp))
  have hw1 := h.sz.1
  have keep : ∀ g, g < w.heap.size → g ≠ mb → W3.heap[g]? = wr.heap[g]? := fun g hg hm => (keep3 g (by omega)).trans (keep2 g hm (by have := h.sz.2; omega))
  refine ⟨a3, _, c3, W3, hr3, ⟨fl, sl, ?_⟩, mp2.kept (keep3 mb ?_), fun m hm => ?_, o3, ?_, h.rlt, ?_, h.sz.1, ?_⟩
  · rw [s1]
    exact sw.kept (keep W hW (neW_of sw h.mp)) (fun m hm => by
      obtain ⟨b', f', hb'⟩ := sw.node hm
      exact keep m.g (hL m (map_sub t hp k (List.mem_append.2 (.inl hm)))).2.1 (h.mp.ne hb'))
  · omega
  · have hm' : m ∈ A.drop k := by rw [drop_consN A k n hn]; simp [hm]
    obtain ⟨b', f', hb'⟩ := h.nd m hm'
    exact ⟨b', f', (keep m.g (hL m (map_sub t hp k (List.mem_append.2 (.inr hm')))).2.1 (h.mp.ne hb')).trans hb'⟩
  · exact row_kpt row2 (fun g _ _ e => keep3 g (h.rlt g e))
  · exact ⟨g3.os.trans (gA.os.trans (g2.os.trans h.kp.os)), g3.tape.trans (gA.tape.trans (g2.tape.trans h.kp.tape)), g3.output.trans (gA.output.trans (g2.output.trans h.kp.output)), by have := g3.size; omega, fun g hg hng => (keep g hg (fun e => hng (.inr (.inl e)))).trans (h.kp.block g hg hng)⟩
  · have := g3.size; omega
end Go.Proofs.YtbdjlhkgpblebaaDoor
