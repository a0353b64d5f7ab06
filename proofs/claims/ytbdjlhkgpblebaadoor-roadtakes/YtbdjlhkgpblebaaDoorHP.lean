/- The map from a number to its node. -/
import Derived.Test.YtbdjlhkgpblebaaDoorHO
import Derived.Maps.OwnSet
import Derived.Maps.Own
import Derived.Maps.OwnOps
namespace Go.Proofs.YtbdjlhkgpblebaaDoor
open Go.RowKit Go.Shelf Go.Maps
set_option linter.unusedVariables false
set_option maxRecDepth 100000

/-- How a pointer to a node reads. -/
def nodeE : Value → Option (DataW Nat × List MemPlace)
  | .pointer none => some (.nil, [])
  | .pointer (some a) => if a.off = 0 ∧ a.spot = none then some (.held a.block, []) else none
  | _ => none
theorem nodeE_ptr (g : Nat) : nodeE (ptr g) = some (.held g, []) := by simp [nodeE]
theorem nodeE_nil : nodeE nilp = some (.nil, []) := rfl
theorem nodeE_held {v : Value} {g : Nat} {ps : List MemPlace} (h : nodeE v = some (.held g, ps)) : v = ptr g := by
  unfold nodeE at h
  split at h
  · cases h
  · rename_i a
    split at h
    · rename_i c
      obtain ⟨b, o, s⟩ := a
      simp only at c
      obtain ⟨rfl, rfl⟩ := c
      simp only [Option.some.injEq, Prod.mk.injEq, DataW.held.injEq] at h
      rw [h.1]
    · cases h
  · cases h
theorem nodeE_nil_inv {v : Value} {ps : List MemPlace} (h : nodeE v = some (.nil, ps)) : v = nilp := by
  unfold nodeE at h
  split at h
  · rfl
  · split at h <;> cases h
  · cases h

abbrev kI (x : Int) : Lit := .int .i64 x
abbrev wfI (x : Int) : Prop := (Lit.int .i64 x).wf = true
theorem kI_key (x : Int) : WideAt.IsKeyLit (kI x) := trivial
theorem kI_ne {x y : Int} (h : x ≠ y) : kI x ≠ kI y := fun e => h (by simpa [kI] using e)
theorem wfI_nat {n : Nat} (h : n < 4096) : wfI (n : Int) := by
  simp [wfI, Lit.wf, IntKind.min, IntKind.max, IntKind.bits, IntKind.signed]
  omega

/-- The map holds the nodes of L, each by its number. -/
structure Mp (w : World) (mb : Nat) (L : List Nd) : Prop where
  ex : ∃ D : DataW Nat, w.ownsMap Tryd.prog 3 nodeE mb L.length D ∧ size D = L.length ∧ (∀ x : Int, has D (kI x) = L.any (fun n => decide ((n.id : Int) = x))) ∧ ∀ n ∈ L, ∀ z, D.atKey (kI n.id) z = .held n.g

theorem Mp.lt {w : World} {mb : Nat} {L : List Nd} (h : Mp w mb L) : mb < w.heap.size := by
  obtain ⟨D, h1, -⟩ := h.ex
  exact h1.lt
theorem Mp.kept {w w' : World} {mb : Nat} {L : List Nd} (h : Mp w mb L) (hk : w'.heap[mb]? = w.heap[mb]?) : Mp w' mb L := by
  obtain ⟨D, ⟨es, ck, hb, r⟩, h2⟩ := h.ex
  exact ⟨D, ⟨es, ck, hk.trans hb, r⟩, h2⟩
theorem Mp.perm {w : World} {mb : Nat} {L L' : List Nd} (h : Mp w mb L) (p : L.Perm L') : Mp w mb L' := by
  obtain ⟨D, h1, h2, h3, h4⟩ := h.ex
  refine ⟨D, by rw [← p.length_eq]; exact h1, by rw [← p.length_eq]; exact h2, fun x => ?_, fun n hn => h4 n (p.mem_iff.2 hn)⟩
  rw [h3, Bool.eq_iff_iff, List.any_eq_true, List.any_eq_true]
  exact ⟨fun ⟨n, a, b⟩ => ⟨n, p.mem_iff.1 a, b⟩, fun ⟨n, a, b⟩ => ⟨n, p.mem_iff.2 a, b⟩⟩
/-- A block of cells is no map. -/
theorem Mp.ne {w : World} {mb : Nat} {L : List Nd} (h : Mp w mb L) {g : Nat} {cs : Array Value} {t : TypeId} (hb : Blk w g cs t) : g ≠ mb := by
  intro e
  subst e
  obtain ⟨D, ⟨es, ck, h1, r⟩, h2⟩ := h.ex
  rw [Blk, h1] at hb
  cases hb

theorem tight {w : World} {b n : Nat} {D : DataW Nat} (h : w.ownsMap Tryd.prog 3 nodeE b n D) : w.ownsMap Tryd.prog 3 nodeE b (size D) D := by
  obtain ⟨es, ck, hb, F, hs, hD⟩ := h
  refine ⟨es, ck, hb, F, ?_, hD⟩
  rw [hD, size_eq, length_read]
  exact Nat.le_refl _

theorem kint : Keyed Tryd.prog 3 := int_keyed Tryd.underlying3

theorem wpList_look_no {ops : Array Oper} {rest : List Oper} {o : Oper} {a : Act} {Q : Exit → Act → World → Prop} (w : World) (hg : o.guard = none) (m x : Operand) (hop : o.op = Op.lookup 65 m x true) (mb : Nat) (L : List Nd) (h : Mp w mb L) (i : Int) (hw : wfI i) (hm : a.eval m = .map (some mb)) (hx : a.eval x = .int .i64 i)
    (hno : ∀ n ∈ L, (n.id : Int) ≠ i) (hK : wpList Tryd.prog ops Q rest (a.put o.dst (.tuple #[nilp, .bool false])) w) : wpList Tryd.prog ops Q (o :: rest) a w := by
  obtain ⟨D, h1, h2, h3, h4⟩ := h.ex
  have hh : has D (kI i) = false := by
    rw [h3, List.any_eq_false]
    intro n hn
    simpa using hno n hn
  refine wpList_lookup_own_ok (H := Nat) w hg m x 65 hop 3 67 kint Tryd.underlying65 nodeE (z := nilp) (Tryd.zeroValue67 _) .nil [] nodeE_nil mb _ D hm h1 _ (kI i) hx (keyOf_int_mk Tryd.underlying3 hw) (fun v ps hv => ?_)
  rw [atKey_of_not_has hh] at hv
  obtain rfl := nodeE_nil_inv hv
  rw [hh]; exact hK
theorem wpList_look_yes {ops : Array Oper} {rest : List Oper} {o : Oper} {a : Act} {Q : Exit → Act → World → Prop} (w : World) (hg : o.guard = none) (m x : Operand) (hop : o.op = Op.lookup 65 m x true) (mb : Nat) (L : List Nd) (h : Mp w mb L) (n : Nd) (hn : n ∈ L) (hl : n.id < 4096) (hm : a.eval m = .map (some mb)) (hx : a.eval x = .int .i64 n.id)
    (hK : wpList Tryd.prog ops Q rest (a.put o.dst (.tuple #[ptr n.g, .bool true])) w) : wpList Tryd.prog ops Q (o :: rest) a w := by
  obtain ⟨D, h1, h2, h3, h4⟩ := h.ex
  have hh : has D (kI n.id) = true := by
    rw [h3, List.any_eq_true]
    exact ⟨n, hn, by simp⟩
  refine wpList_lookup_own_ok (H := Nat) w hg m x 65 hop 3 67 kint Tryd.underlying65 nodeE (z := nilp) (Tryd.zeroValue67 _) .nil [] nodeE_nil mb _ D hm h1 _ (kI n.id) hx (keyOf_int_mk Tryd.underlying3 (wfI_nat hl)) (fun v ps hv => ?_)
  rw [h4 n hn] at hv
  obtain rfl := nodeE_held hv
  rw [hh]; exact hK

/-- One number out. -/
abbrev sans (L : List Nd) (n : Nd) : List Nd := L.filter (fun m => m.id ≠ n.id)

theorem Mp.del {w w' : World} {mb : Nat} {L : List Nd} {n : Nd} {D : DataW Nat} (hid : (L.map Nd.id).Nodup) (hn : n ∈ L) (h1 : w.ownsMap Tryd.prog 3 nodeE mb L.length D) (h2 : size D = L.length) (h3 : ∀ x : Int, has D (kI x) = L.any (fun n => decide ((n.id : Int) = x))) (h4 : ∀ n ∈ L, ∀ z, D.atKey (kI n.id) z = .held n.g)
    (h' : w'.ownsMap Tryd.prog 3 nodeE mb L.length (D.del (kI n.id))) : Mp w' mb (sans L n) := by
  have hlen : (sans L n).length + 1 = L.length := by
    clear h1 h2 h3 h4 h'
    induction L with
    | nil => cases hn
    | cons a t ih =>
      rw [List.map_cons, List.nodup_cons] at hid
      unfold sans
      rw [List.filter_cons]
      rcases List.mem_cons.1 hn with rfl | hn
      · rw [if_neg (by simp), List.filter_eq_self.2]
        · rfl
        · intro m hm
          simp only [ne_eq, decide_not, Bool.not_eq_eq_eq_not, Bool.not_true, decide_eq_false_iff_not]
          exact fun e => hid.1 (List.mem_map.2 ⟨m, hm, e⟩)
      · have : a.id ≠ n.id := fun e => hid.1 (by rw [e]; exact List.mem_map.2 ⟨n, hn, rfl⟩)
        rw [if_pos (by simpa using this)]
        have := ih hid.2 hn
        unfold sans at this
        simp only [List.length_cons]; omega
  have hs : size (D.del (kI n.id)) = (sans L n).length := by
    have := size_del (k := kI n.id) (h1.tidy kint)
    have hh : has D (kI n.id) = true := by
      rw [h3, List.any_eq_true]
      exact ⟨n, hn, by simp⟩
    rw [hh] at this
    simp only [if_true] at this
    omega
  refine ⟨_, by rw [← hs]; exact tight h', hs, fun x => ?_, fun m hm z => ?_⟩
  · by_cases e : x = n.id
    · subst e
      rw [has_del_same]
      symm
      rw [List.any_eq_false]
      intro m hm
      have := (List.mem_filter.1 hm).2
      simp only [ne_eq, decide_not, Bool.not_eq_eq_eq_not, Bool.not_true, decide_eq_false_iff_not] at this
      simp only [decide_eq_true_eq]
      omega
    · rw [has_del_other (kI_ne e), h3, Bool.eq_iff_iff, List.any_eq_true, List.any_eq_true]
      constructor
      · rintro ⟨m, a, b⟩
        refine ⟨m, List.mem_filter.2 ⟨a, ?_⟩, b⟩
        simp only [decide_eq_true_eq] at b
        simp only [ne_eq, decide_not, Bool.not_eq_eq_eq_not, Bool.not_true, decide_eq_false_iff_not]
        omega
      · rintro ⟨m, a, b⟩
        exact ⟨m, (List.mem_filter.1 a).1, b⟩
  · have hm' := List.mem_filter.1 hm
    have : m.id ≠ n.id := by simpa using hm'.2
    rw [atKey_del_other (kI_ne (by omega))]
    exact h4 m hm'.1 z

theorem wpList_drop {ops : Array Oper} {rest : List Oper} {o : Oper} {a : Act} {Q : Exit → Act → World → Prop} (w : World) (hg : o.guard = none) (m x : Operand) (hop : o.op = Op.call { callee := Callee.builtin Builtin.delete, args := #[m, x], argTypes := #[65, 3] }) (mb : Nat) (L : List Nd) (h : Mp w mb L) (hid : (L.map Nd.id).Nodup) (n : Nd) (hn : n ∈ L) (hl : n.id < 4096) (hm : a.eval m = .map (some mb)) (hx : a.eval x = .int .i64 n.id)
    (hK : ∀ w', Mp w' mb (sans L n) → w.grownBy w' (some mb) → wpList Tryd.prog ops Q rest (a.put o.dst (.tuple #[])) w') : wpList Tryd.prog ops Q (o :: rest) a w := by
  obtain ⟨D, h1, h2, h3, h4⟩ := h.ex
  refine wpList_delete_own (H := Nat) w hg m x 65 3 hop 67 kint Tryd.underlying65 nodeE mb _ D hm h1 _ (kI n.id) hx (keyOf_int_mk Tryd.underlying3 (wfI_nat hl)) (fun w' h5 h6 => ?_)
  exact hK w' (Mp.del hid hn h1 h2 h3 h4 h5) h6.grown

theorem wpList_putin {ops : Array Oper} {rest : List Oper} {o : Oper} {a : Act} {Q : Exit → Act → World → Prop} (w : World) (hg : o.guard = none) (m x v : Operand) (hop : o.op = Op.mapUpdate 65 m x v) (mb : Nat) (L : List Nd) (h : Mp w mb L) (hlen : L.length ≤ 4096) (n : Nd) (hn : ∀ k ∈ L, k.id ≠ n.id) (hl : n.id < 4096) (hm : a.eval m = .map (some mb)) (hx : a.eval x = .int .i64 n.id) (hv : a.eval v = ptr n.g)
    (hK : ∀ w', Mp w' mb (n :: L) → w.grownBy w' (some mb) → wpList Tryd.prog ops Q rest (a.put o.dst undef) w') : wpList Tryd.prog ops Q (o :: rest) a w := by
  obtain ⟨D, h1, h2, h3, h4⟩ := h.ex
  refine wpList_mapUpdate_own (H := Nat) w hg m x v 65 hop 3 67 kint Tryd.underlying65 nodeE mb _ D hm h1 (by unfold maxLen; omega) _ _ (kI n.id) hx hv (keyOf_int_mk Tryd.underlying3 (wfI_nat hl)) (.held n.g) [] (nodeE_ptr n.g) (fun w' h5 h6 => hK w' ⟨_, h5, ?_, fun y => ?_, fun k hk z => ?_⟩ h6)
  · have hh : has D (kI n.id) = false := by
      rw [h3, List.any_eq_false]
      intro k hk
      have := hn k hk
      simp only [decide_eq_true_eq]
      omega
    rw [size_put (h1.tidy kint), hh]
    simp [h2]
  · rw [List.any_cons]
    by_cases e : y = n.id
    · subst e
      rw [has_put_same h1.isMap (kI_key _)]
      simp
    · rw [has_put_other (kI_ne e), h3]
      have : decide ((n.id : Int) = y) = false := decide_eq_false (fun e2 => e e2.symm)
      rw [this, Bool.false_or]
  · rcases List.mem_cons.1 hk with rfl | hk
    · exact atKey_put_same h1.isMap (kI_key _) _ _
    · have := hn k hk
      rw [atKey_put_other (kI_ne (by omega))]
      exact h4 k hk z

theorem wpList_count {ops : Array Oper} {rest : List Oper} {o : Oper} {a : Act} {Q : Exit → Act → World → Prop} (w : World) (hg : o.guard = none) (m : Operand) (hop : o.op = Op.call { callee := Callee.builtin Builtin.len, args := #[m], argTypes := #[65] }) (mb : Nat) (L : List Nd) (h : Mp w mb L) (hm : a.eval m = .map (some mb))
    (hK : wpList Tryd.prog ops Q rest (a.put o.dst (.int .i64 (L.length : Int))) w) : wpList Tryd.prog ops Q (o :: rest) a w := by
  obtain ⟨D, h1, h2, h3, h4⟩ := h.ex
  refine wpList_len_own (H := Nat) w hg m 65 hop 3 67 Tryd.underlying65 nodeE mb _ D hm h1 ?_
  rw [h2]; exact hK

theorem Mp.made (w : World) : Mp (w.alloc (.map #[] 0)) w.heap.size [] :=
  ⟨.map [], World.ownsMap_made w _ _ _, rfl, fun x => rfl, fun n hn => by cases hn⟩
end Go.Proofs.YtbdjlhkgpblebaaDoor
