/- Road: the map from a number to its place. -/
import Derived.Test.YtbdjlhkgpblebaaDoorY2A
namespace Go.Proofs.YtbdjlhkgpblebaaDoor
open Go.RowKit Go.Shelf Go.Maps
set_option linter.unusedVariables false
set_option linter.unusedSimpArgs false
set_option maxRecDepth 100000

/-- How a place reads. -/
def plE : Value → Option (DataW Nat × List MemPlace)
  | .int .i64 n => if 0 ≤ n then some (.held n.toNat, []) else none
  | _ => none
theorem plE_ptr (g : Nat) : plE (.int .i64 (g : Int)) = some (.held g, []) := by simp [plE]
theorem plE_nil : plE (.int .i64 0) = some (.held 0, []) := rfl
theorem plE_held {v : Value} {g : Nat} {ps : List MemPlace} (h : plE v = some (.held g, ps)) : v = .int .i64 (g : Int) := by
  unfold plE at h
  split at h
  · rename_i n
    split at h
    · rename_i c
      simp only [Option.some.injEq, Prod.mk.injEq, DataW.held.injEq] at h
      rw [← h.1, Int.toNat_of_nonneg c]
    · cases h
  · cases h
theorem wfQ {n : Nat} (h : n < 4611686018427387904) : wfI (n : Int) := by
  simp [wfI, Lit.wf, IntKind.min, IntKind.max, IntKind.bits, IntKind.signed]
  omega

/-- The map holds the nodes of L, each by its number. -/
structure Mq (w : World) (mb : Nat) (L : List (Nat × Nat)) : Prop where
  ex : ∃ D : DataW Nat, w.ownsMap Tryd.prog 3 plE mb L.length D ∧ size D = L.length ∧ (∀ x : Int, has D (kI x) = L.any (fun n => decide ((n.1 : Int) = x))) ∧ ∀ n ∈ L, ∀ z, D.atKey (kI n.1) z = .held n.2

theorem Mq.lt {w : World} {mb : Nat} {L : List (Nat × Nat)} (h : Mq w mb L) : mb < w.heap.size := by
  obtain ⟨D, h1, -⟩ := h.ex
  exact h1.lt
theorem Mq.kept {w w' : World} {mb : Nat} {L : List (Nat × Nat)} (h : Mq w mb L) (hk : w'.heap[mb]? = w.heap[mb]?) : Mq w' mb L := by
  obtain ⟨D, ⟨es, ck, hb, r⟩, h2⟩ := h.ex
  exact ⟨D, ⟨es, ck, hk.trans hb, r⟩, h2⟩
theorem Mq.perm {w : World} {mb : Nat} {L L' : List (Nat × Nat)} (h : Mq w mb L) (p : L.Perm L') : Mq w mb L' := by
  obtain ⟨D, h1, h2, h3, h4⟩ := h.ex
  refine ⟨D, by rw [← p.length_eq]; exact h1, by rw [← p.length_eq]; exact h2, fun x => ?_, fun n hn => h4 n (p.mem_iff.2 hn)⟩
  rw [h3, Bool.eq_iff_iff, List.any_eq_true, List.any_eq_true]
  exact ⟨fun ⟨n, a, b⟩ => ⟨n, p.mem_iff.1 a, b⟩, fun ⟨n, a, b⟩ => ⟨n, p.mem_iff.2 a, b⟩⟩
/-- A block of cells is no map. -/
theorem Mq.ne {w : World} {mb : Nat} {L : List (Nat × Nat)} (h : Mq w mb L) {g : Nat} {cs : Array Value} {t : TypeId} (hb : Blk w g cs t) : g ≠ mb := by
  intro e
  subst e
  obtain ⟨D, ⟨es, ck, h1, r⟩, h2⟩ := h.ex
  rw [Blk, h1] at hb
  cases hb

theorem tightQ {w : World} {b n : Nat} {D : DataW Nat} (h : w.ownsMap Tryd.prog 3 plE b n D) : w.ownsMap Tryd.prog 3 plE b (size D) D := by
  obtain ⟨es, ck, hb, F, hs, hD⟩ := h
  refine ⟨es, ck, hb, F, ?_, hD⟩
  rw [hD, size_eq, length_read]
  exact Nat.le_refl _

theorem kintQ : Keyed Tryd.prog 3 := int_keyed Tryd.underlying3

theorem wpList_lookQ_no {ops : Array Oper} {rest : List Oper} {o : Oper} {a : Act} {Q : Exit → Act → World → Prop} (w : World) (hg : o.guard = none) (m x : Operand) (hop : o.op = Op.lookup 47 m x true) (mb : Nat) (L : List (Nat × Nat)) (h : Mq w mb L) (i : Int) (hw : wfI i) (hm : a.eval m = .map (some mb)) (hx : a.eval x = .int .i64 i)
    (hno : ∀ n ∈ L, (n.1 : Int) ≠ i) (hK : wpList Tryd.prog ops Q rest (a.put o.dst (.tuple #[.int .i64 0, .bool false])) w) : wpList Tryd.prog ops Q (o :: rest) a w := by
  obtain ⟨D, h1, h2, h3, h4⟩ := h.ex
  have hh : has D (kI i) = false := by
    rw [h3, List.any_eq_false]
    intro n hn
    simpa using hno n hn
  refine wpList_lookup_own_ok (H := Nat) w hg m x 47 hop 3 3 kint Tryd.underlying47 plE (z := .int .i64 0) (Tryd.zeroValue3 _) (.held 0) [] plE_nil mb _ D hm h1 _ (kI i) hx (keyOf_int_mk Tryd.underlying3 hw) (fun v ps hv => ?_)
  rw [atKey_of_not_has hh] at hv
  obtain rfl := plE_held hv
  rw [hh]; exact hK
theorem wpList_lookQ_yes {ops : Array Oper} {rest : List Oper} {o : Oper} {a : Act} {Q : Exit → Act → World → Prop} (w : World) (hg : o.guard = none) (m x : Operand) (hop : o.op = Op.lookup 47 m x true) (mb : Nat) (L : List (Nat × Nat)) (h : Mq w mb L) (n : Nat × Nat) (hn : n ∈ L) (hl : n.1 < 4611686018427387904) (hm : a.eval m = .map (some mb)) (hx : a.eval x = .int .i64 n.1)
    (hK : wpList Tryd.prog ops Q rest (a.put o.dst (.tuple #[.int .i64 (n.2 : Int), .bool true])) w) : wpList Tryd.prog ops Q (o :: rest) a w := by
  obtain ⟨D, h1, h2, h3, h4⟩ := h.ex
  have hh : has D (kI n.1) = true := by
    rw [h3, List.any_eq_true]
    exact ⟨n, hn, by simp⟩
  refine wpList_lookup_own_ok (H := Nat) w hg m x 47 hop 3 3 kint Tryd.underlying47 plE (z := .int .i64 0) (Tryd.zeroValue3 _) (.held 0) [] plE_nil mb _ D hm h1 _ (kI n.1) hx (keyOf_int_mk Tryd.underlying3 (wfQ hl)) (fun v ps hv => ?_)
  rw [h4 n hn] at hv
  obtain rfl := plE_held hv
  rw [hh]; exact hK

/-- One number out. -/
abbrev sansQ (L : List (Nat × Nat)) (n : Nat × Nat) : List (Nat × Nat) := L.filter (fun m => m.1 ≠ n.1)

theorem Mq.del {w w' : World} {mb : Nat} {L : List (Nat × Nat)} {n : Nat × Nat} {D : DataW Nat} (hid : (L.map Prod.fst).Nodup) (hn : n ∈ L) (h1 : w.ownsMap Tryd.prog 3 plE mb L.length D) (h2 : size D = L.length) (h3 : ∀ x : Int, has D (kI x) = L.any (fun n => decide ((n.1 : Int) = x))) (h4 : ∀ n ∈ L, ∀ z, D.atKey (kI n.1) z = .held n.2)
    (h' : w'.ownsMap Tryd.prog 3 plE mb L.length (D.del (kI n.1))) : Mq w' mb (sansQ L n) := by
  have hlen : (sansQ L n).length + 1 = L.length := by
    clear h1 h2 h3 h4 h'
    induction L with
    | nil => cases hn
    | cons a t ih =>
      rw [List.map_cons, List.nodup_cons] at hid
      unfold sansQ
      rw [List.filter_cons]
      rcases List.mem_cons.1 hn with rfl | hn
      · rw [if_neg (by simp), List.filter_eq_self.2]
        · rfl
        · intro m hm
          simp only [ne_eq, decide_not, Bool.not_eq_eq_eq_not, Bool.not_true, decide_eq_false_iff_not]
          exact fun e => hid.1 (List.mem_map.2 ⟨m, hm, e⟩)
      · have : a.1 ≠ n.1 := fun e => hid.1 (by rw [e]; exact List.mem_map.2 ⟨n, hn, rfl⟩)
        rw [if_pos (by simpa using this)]
        have := ih hid.2 hn
        unfold sansQ at this
        simp only [List.length_cons]; omega
  have hs : size (D.del (kI n.1)) = (sansQ L n).length := by
    have := size_del (k := kI n.1) (h1.tidy kint)
    have hh : has D (kI n.1) = true := by
      rw [h3, List.any_eq_true]
      exact ⟨n, hn, by simp⟩
    rw [hh] at this
    simp only [if_true] at this
    omega
  refine ⟨_, by rw [← hs]; exact tightQ h', hs, fun x => ?_, fun m hm z => ?_⟩
  · by_cases e : x = n.1
    · subst e
      rw [has_del_same]
      symm
      rw [List.any_eq_false]
      intro m hm
      have := (List.mem_filter.1 hm).2
      simp only [ne_eq, decide_not, Bool.not_eq_eq_eq_not, Bool.not_true, decide_eq_false_iff_not] at this
      simp only [decide_eq_true_eq]
      omega
    · rw [has_del_other (kI_ne e), h3, Bool.eq_iff_iff, List.any_eq_true, List.any_eq_true]
      constructor
      · rintro ⟨m, a, b⟩
        refine ⟨m, List.mem_filter.2 ⟨a, ?_⟩, b⟩
        simp only [decide_eq_true_eq] at b
        simp only [ne_eq, decide_not, Bool.not_eq_eq_eq_not, Bool.not_true, decide_eq_false_iff_not]
        omega
      · rintro ⟨m, a, b⟩
        exact ⟨m, (List.mem_filter.1 a).1, b⟩
  · have hm' := List.mem_filter.1 hm
    have : m.1 ≠ n.1 := by simpa using hm'.2
    rw [atKey_del_other (kI_ne (by omega))]
    exact h4 m hm'.1 z

theorem wpList_dropQ {ops : Array Oper} {rest : List Oper} {o : Oper} {a : Act} {Q : Exit → Act → World → Prop} (w : World) (hg : o.guard = none) (m x : Operand) (hop : o.op = Op.call { callee := Callee.builtin Builtin.delete, args := #[m, x], argTypes := #[47, 3] }) (mb : Nat) (L : List (Nat × Nat)) (h : Mq w mb L) (hid : (L.map Prod.fst).Nodup) (n : Nat × Nat) (hn : n ∈ L) (hl : n.1 < 4611686018427387904) (hm : a.eval m = .map (some mb)) (hx : a.eval x = .int .i64 n.1)
    (hK : ∀ w', Mq w' mb (sansQ L n) → w.grownBy w' (some mb) → wpList Tryd.prog ops Q rest (a.put o.dst (.tuple #[])) w') : wpList Tryd.prog ops Q (o :: rest) a w := by
  obtain ⟨D, h1, h2, h3, h4⟩ := h.ex
  refine wpList_delete_own (H := Nat) w hg m x 47 3 hop 3 kint Tryd.underlying47 plE mb _ D hm h1 _ (kI n.1) hx (keyOf_int_mk Tryd.underlying3 (wfQ hl)) (fun w' h5 h6 => ?_)
  exact hK w' (Mq.del hid hn h1 h2 h3 h4 h5) h6.grown

theorem wpList_putQ {ops : Array Oper} {rest : List Oper} {o : Oper} {a : Act} {Q : Exit → Act → World → Prop} (w : World) (hg : o.guard = none) (m x v : Operand) (hop : o.op = Op.mapUpdate 47 m x v) (mb : Nat) (L : List (Nat × Nat)) (h : Mq w mb L) (hlen : L.length ≤ 4096) (n : Nat × Nat) (hn : ∀ k ∈ L, k.1 ≠ n.1) (hl : n.1 < 4611686018427387904) (hm : a.eval m = .map (some mb)) (hx : a.eval x = .int .i64 n.1) (hv : a.eval v = .int .i64 (n.2 : Int))
    (hK : ∀ w', Mq w' mb (n :: L) → w.grownBy w' (some mb) → wpList Tryd.prog ops Q rest (a.put o.dst undef) w') : wpList Tryd.prog ops Q (o :: rest) a w := by
  obtain ⟨D, h1, h2, h3, h4⟩ := h.ex
  refine wpList_mapUpdate_own (H := Nat) w hg m x v 47 hop 3 3 kint Tryd.underlying47 plE mb _ D hm h1 (by unfold maxLen; omega) _ _ (kI n.1) hx hv (keyOf_int_mk Tryd.underlying3 (wfQ hl)) (.held n.2) [] (plE_ptr n.2) (fun w' h5 h6 => hK w' ⟨_, h5, ?_, fun y => ?_, fun k hk z => ?_⟩ h6)
  · have hh : has D (kI n.1) = false := by
      rw [h3, List.any_eq_false]
      intro k hk
      have := hn k hk
      simp only [decide_eq_true_eq]
      omega
    rw [size_put (h1.tidy kint), hh]
    simp [h2]
  · rw [List.any_cons]
    by_cases e : y = n.1
    · subst e
      rw [has_put_same h1.isMap (kI_key _)]
      simp
    · rw [has_put_other (kI_ne e), h3]
      have : decide ((n.1 : Int) = y) = false := decide_eq_false (fun e2 => e e2.symm)
      rw [this, Bool.false_or]
  · rcases List.mem_cons.1 hk with rfl | hk
    · exact atKey_put_same h1.isMap (kI_key _) _ _
    · have := hn k hk
      rw [atKey_put_other (kI_ne (by omega))]
      exact h4 k hk z

theorem wpList_countQ {ops : Array Oper} {rest : List Oper} {o : Oper} {a : Act} {Q : Exit → Act → World → Prop} (w : World) (hg : o.guard = none) (m : Operand) (hop : o.op = Op.call { callee := Callee.builtin Builtin.len, args := #[m], argTypes := #[47] }) (mb : Nat) (L : List (Nat × Nat)) (h : Mq w mb L) (hm : a.eval m = .map (some mb))
    (hK : wpList Tryd.prog ops Q rest (a.put o.dst (.int .i64 (L.length : Int))) w) : wpList Tryd.prog ops Q (o :: rest) a w := by
  obtain ⟨D, h1, h2, h3, h4⟩ := h.ex
  refine wpList_len_own (H := Nat) w hg m 47 hop 3 3 Tryd.underlying47 plE mb _ D hm h1 ?_
  rw [h2]; exact hK

theorem Mq.made (w : World) : Mq (w.alloc (.map #[] 0)) w.heap.size [] :=
  ⟨.map [], World.ownsMap_made w _ _ _, rfl, fun x => rfl, fun n hn => by cases hn⟩
end Go.Proofs.YtbdjlhkgpblebaaDoor
