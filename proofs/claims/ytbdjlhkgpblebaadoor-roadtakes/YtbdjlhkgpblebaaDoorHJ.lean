/- Sorted lists of nodes; rows of pointers that are appended. -/
import Derived.Test.YtbdjlhkgpblebaaDoorHI
import Derived.Laws.OwnMore
namespace Go.Proofs.YtbdjlhkgpblebaaDoor
open Go.RowKit Go.Shelf
set_option linter.unusedVariables false
set_option maxRecDepth 100000

abbrev Srt (L : List Nd) : Prop := L.Pairwise lt2

theorem filter_two (L : List Nd) (hs : Srt L) (P Q : Nd → Bool) (h : ∀ x y, x ∈ L → y ∈ L → P x = true → Q y = true → ¬ lt2 y x) (hd : ∀ x, P x = true → Q x = true → False) : L.filter P ++ L.filter Q = L.filter (fun x => P x || Q x) := by
  induction L with
  | nil => rfl
  | cons a t ih =>
    rw [Srt, List.pairwise_cons] at hs
    have ih' := ih hs.2 (fun x y hx hy => h x y (by simp [hx]) (by simp [hy]))
    rw [List.filter_cons, List.filter_cons, List.filter_cons]
    by_cases hp : P a = true
    · have hq : ¬ Q a = true := fun q => hd a hp q
      rw [if_pos hp, if_neg hq, if_pos (by simp [hp])]
      rw [List.cons_append, ih']
    · rw [if_neg hp]
      by_cases hq : Q a = true
      · rw [if_pos hq, if_pos (by simp [hq])]
        have : t.filter P = [] := by
          rw [List.filter_eq_nil_iff]
          intro x hx px
          exact h x a (by simp [hx]) (by simp) px hq (hs.1 x hx)
        rw [this] at ih' ⊢
        rw [List.nil_append] at ih' ⊢
        rw [ih']
      · rw [if_neg hq, if_neg (by simp [hp, hq]), ih']

theorem sorted_eq : ∀ (P Q : List Nd), P.Perm Q → P.Pairwise (fun x y => ¬ lt2 y x) → Srt Q → P = Q
  | [], Q, h, _, _ => by simpa using h.symm.eq_nil.symm
  | p :: s, [], h, _, _ => by simpa using h.eq_nil
  | p :: s, q :: t, h, hp, hq => by
    rw [List.pairwise_cons] at hp
    rw [Srt, List.pairwise_cons] at hq
    have e : p = q := by
      have h1 : p ∈ q :: t := h.mem_iff.1 (by simp)
      rcases List.mem_cons.1 h1 with h1 | h1
      · exact h1
      · have h2 : q ∈ p :: s := h.mem_iff.2 (by simp)
        rcases List.mem_cons.1 h2 with h2 | h2
        · exact h2.symm
        · exact absurd (hq.1 p h1) (hp.1 q h2)
    subst e
    rw [sorted_eq s t h.cons_inv hp.2 hq.2]

theorem Srt.filter {L : List Nd} (h : Srt L) (p : Nd → Bool) : Srt (L.filter p) := List.Pairwise.sublist List.filter_sublist h

theorem wpList_append_runQ {P : Program} (w : World) {ops : Array Oper} {rest : List Oper} {o : Oper} {a : Act} {Q : Exit → Act → World → Prop} (hgd : o.guard = none) (d s : Operand) (t t' : TypeId)
    (ho : o.op = .call { callee := .builtin .append, args := #[d, s], argTypes := #[t, t'] }) (v u : Value) (hv : a.eval d = v) (hu : a.eval s = u) {v' : Value} {w' : World}
    (hr : (Builtin.append_ #[t, t'] o.type #[v, u]).run P w = .ok v' w') (h : wpList P ops Q rest (a.put o.dst v') w') : wpList P ops Q (o :: rest) a w := by
  refine wpList_plain hgd fun K hK => ?_
  unfold Oper.wp execOp
  simp only [ho, resolve, invoke, builtin, Sem.run_bind, Sem.run_pure, Result.andThen_ok, List.map_toArray, List.map_cons, List.map_nil, hv, hu, hr]
  exact hK _ _ h

theorem app_zero (w : World) (base : Nat) (ty : TypeId) (v : Value) (n : Nat) (xs : List Value) (hown : w.ownsRow base 67 1 v n xs) (a : Option Addr) (c : Nat) :
    (Builtin.append_ #[76, 76] ty #[v, .slice a 0 c]).run Tryd.prog w = .ok v w := by
  obtain ⟨i, hi, hz0, hz1, hz2⟩ := info_parts Tryd.infoN
  rcases hown.2 with ⟨rfl, rfl⟩ | ⟨g, cap, cur, rfl, _, _, hnc, _⟩
  · cases a <;> simp [Builtin.append_, run_underlying Tryd.underlying76, sizeOf, typeInfo, hi, Builtin.lenOf, Builtin.firstCells, loadCells, loadCellsFrom]
  · cases a <;> simp [Builtin.append_, run_underlying Tryd.underlying76, sizeOf, typeInfo, hi, Builtin.lenOf, Builtin.firstCells, loadCells, loadCellsFrom, hnc, storeCells]

/-- A row of pointers behind another one. -/
theorem app_ptrs (w : World) (base b2 : Nat) (ty : TypeId) (v : Value) (xs : List Nd) (hown : w.ownsRow base 67 1 v xs.length (ptrs xs)) (a : Option Addr) (c m : Nat) (ys : List Nd) (hm : ys.length = m) (hu : w.ownsRow b2 67 1 (.slice a m c) m (ptrs ys)) (h48 : xs.length + ys.length ≤ 1000000) (hbase : base ≤ w.heap.size) :
    ∃ a' c' w', (Builtin.append_ #[76, 76] ty #[v, .slice a m c]).run Tryd.prog w = .ok (.slice a' (xs ++ ys).length c') w' ∧ w'.ownsRow base 67 1 (.slice a' (xs ++ ys).length c') (xs ++ ys).length (ptrs (xs ++ ys)) ∧ w.grownBy w' v.ownBlock := by
  have shape : ∀ {W : World} {v' : Value} {zs : List Nd}, W.ownsRow base 67 1 v' zs.length (ptrs zs) → ∃ a' c', v' = .slice a' zs.length c' := fun h => by
    rcases h.2 with ⟨e1, e2⟩ | ⟨g, cap, cur, e1, -⟩
    · exact ⟨none, 0, by rw [e1, e2]⟩
    · exact ⟨_, _, e1⟩
  by_cases hl : m = 0
  · subst hl
    have : ys = [] := List.eq_nil_of_length_eq_zero hm
    subst this
    rw [List.append_nil]
    obtain ⟨a', c', rfl⟩ := shape hown
    exact ⟨a', c', w, app_zero w base ty _ _ _ hown a c, hown, World.grownBy.refl w _⟩
  · obtain ⟨i, hi, hz0, hz1, hz2⟩ := info_parts Tryd.infoN
    rcases hu.2 with ⟨-, e2⟩ | ⟨g, cap, cur, e1, q1, q2, q3, q4, q5, q6⟩
    · omega
    · simp only [Value.slice.injEq] at e1
      obtain ⟨rfl, -, rfl⟩ := e1
      obtain ⟨v', w', h1, h2, h3, _⟩ := run_append_own (P := Tryd.prog) w base 76 ty 67 i (.pointer none) 1 8 Tryd.underlying76 hi hz0 hz1 hz2 rfl (by decide) v xs.length _ hown ⟨g, 0, none⟩ m c (ptrs ys) (by simp [hm]) (fun j u hu => by
        have hj : j < m := by
          by_cases h : j < m
          · exact h
          · rw [List.getElem?_eq_none (by simp [hm]; omega)] at hu; cases hu
        rw [show (⟨g, 0, none⟩ : Addr).add j = ⟨g, j, none⟩ by simp [Addr.add]; exact fun e => e.symm]
        simp only [World.cell?, q2]
        rw [Nat.mul_one] at q6
        rw [← q6, List.getElem?_take, if_pos hj, Array.getElem?_toList] at hu
        exact hu) (fun u hu => by
        simp only [ptrs, List.mem_map] at hu
        obtain ⟨y, _, rfl⟩ := hu
        rfl) (by unfold maxLen; omega) (by omega) hbase
      have e : ptrs xs ++ ptrs ys = ptrs (xs ++ ys) := by simp [ptrs]
      rw [e, show xs.length + m = (xs ++ ys).length by simp [hm]] at h2
      obtain ⟨a', c', rfl⟩ := shape h2
      exact ⟨a', c', w', h1, h2, h3⟩
end Go.Proofs.YtbdjlhkgpblebaaDoor
