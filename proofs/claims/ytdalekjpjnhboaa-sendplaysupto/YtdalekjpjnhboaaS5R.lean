/- The ring: bytes that are written into it, and pieces out of it; plain, and copy. -/
import Derived.Test.YtdalekjpjnhboaaS5F
namespace Go.Proofs.Ytdalekjpjnhboaa
open Go.RowKit
set_option linter.unusedVariables false
set_option maxHeartbeats 1000000
set_option maxRecDepth 100000

theorem mod_add_lt {a j c : Nat} (h : a % c + j < c) : (a + j) % c = a % c + j := by rw [← Nat.mod_add_mod]; exact Nat.mod_eq_of_lt h
theorem mod_add_ge {a j c : Nat} (h : c ≤ a % c + j) (h2 : j ≤ c) (hc : 0 < c) : (a + j) % c = a % c + j - c := by
  rw [← Nat.mod_add_mod, Nat.mod_eq_sub_mod h]
  exact Nat.mod_eq_of_lt (by have := Nat.mod_lt a hc; omega)

def ring1 (cs p : List Int) (k n1 : Nat) : List Int := cs.take k ++ (p.take n1 ++ cs.drop (k + n1))
def ring2 (cs p : List Int) (k n1 : Nat) : List Int := p.drop n1 ++ (ring1 cs p k n1).drop (p.length - n1)

theorem ring1_get {cs p : List Int} {k n1 c : Nat} (hc : cs.length = c) (hk : k ≤ c) (h1 : n1 ≤ p.length) (h2 : k + n1 ≤ c) (i : Nat) (hi : i < c) : (ring1 cs p k n1)[i]? = if i < k then cs[i]? else if i < k + n1 then p[i - k]? else cs[i]? := by
  unfold ring1
  have l1 : (cs.take k).length = k := by simp; omega
  have l2 : (p.take n1).length = n1 := by simp; omega
  rw [List.getElem?_append, l1]
  split
  · rw [List.getElem?_take, if_pos (by assumption)]
  · rw [List.getElem?_append, l2]
    split
    · rw [if_pos (by omega), List.getElem?_take, if_pos (by omega)]
    · rw [if_neg (by omega), List.getElem?_drop]
      congr 1; omega
theorem ring1_len {cs p : List Int} {k n1 c : Nat} (hc : cs.length = c) (h1 : n1 ≤ p.length) (h2 : k + n1 ≤ c) : (ring1 cs p k n1).length = c := by
  unfold ring1
  simp only [List.length_append, List.length_take, List.length_drop]
  omega
theorem ring2_get {cs p : List Int} {k n1 c : Nat} (hc : cs.length = c) (h1 : n1 ≤ p.length) (h2 : k + n1 ≤ c) (i : Nat) (hi : i < c) : (ring2 cs p k n1)[i]? = if i < p.length - n1 then p[n1 + i]? else if i < k then cs[i]? else if i < k + n1 then p[i - k]? else cs[i]? := by
  unfold ring2
  have l1 : (p.drop n1).length = p.length - n1 := by simp
  rw [List.getElem?_append, l1]
  split
  · rw [List.getElem?_drop]
  · rw [List.getElem?_drop, show p.length - n1 + (i - (p.length - n1)) = i by omega]
    exact ring1_get hc (by omega) h1 h2 i hi
theorem ring2_len {cs p : List Int} {k n1 c : Nat} (hc : cs.length = c) (h1 : n1 ≤ p.length) (h2 : k + n1 ≤ c) (h3 : p.length - n1 ≤ c) : (ring2 cs p k n1).length = c := by
  have := ring1_len hc h1 h2
  unfold ring2
  simp only [List.length_append, List.length_drop]
  omega
theorem ring2_mem {cs p : List Int} {k n1 : Nat} {x : Int} (h : x ∈ ring2 cs p k n1) : x ∈ cs ∨ x ∈ p := by
  unfold ring2 ring1 at h
  rcases List.mem_append.1 h with h | h
  · exact .inr (List.mem_of_mem_drop h)
  · have h := List.mem_of_mem_drop h
    rcases List.mem_append.1 h with h | h
    · exact .inl (List.mem_of_mem_take h)
    · rcases List.mem_append.1 h with h | h
      · exact .inr (List.mem_of_mem_take h)
      · exact .inl (List.mem_of_mem_drop h)

theorem ring_write {c base : Nat} {cs T p : List Int} (hc : cs.length = c) (hpos : 0 < c) (hb : base ≤ T.length) (hfit : T.length - base + p.length ≤ c) (h : ∀ x, base ≤ x → x < T.length → cs[x % c]? = T[x]?) :
    ∀ x, base ≤ x → x < (T ++ p).length → (ring2 cs p (T.length % c) (min p.length (c - T.length % c)))[x % c]? = (T ++ p)[x]? := by
  intro x h1 h2
  have hk := Nat.mod_lt T.length hpos
  have hr := Nat.mod_lt x hpos
  rw [ring2_get hc (by omega) (by omega) _ hr]
  rw [List.length_append] at h2
  rw [List.getElem?_append]
  by_cases hx : x < T.length
  · rw [if_pos hx, ← h x h1 hx]
    obtain ⟨d, hd⟩ : ∃ d, T.length = x + d := ⟨T.length - x, by omega⟩
    have e : (x % c + d < c ∧ T.length % c = x % c + d) ∨ (c ≤ x % c + d ∧ T.length % c = x % c + d - c) := by
      by_cases q : x % c + d < c
      · left; exact ⟨q, by rw [hd]; exact mod_add_lt q⟩
      · right; exact ⟨by omega, by rw [hd]; exact mod_add_ge (by omega) (by omega) hpos⟩
    generalize x % c = r at *
    generalize T.length % c = k at *
    rw [if_neg (by omega)]
    by_cases q : r < k
    · rw [if_pos q]
    · rw [if_neg q, if_neg (by omega)]
  · rw [if_neg hx]
    obtain ⟨j, rfl⟩ : ∃ j, x = T.length + j := ⟨x - T.length, by omega⟩
    have e : (T.length % c + j < c ∧ (T.length + j) % c = T.length % c + j) ∨ (c ≤ T.length % c + j ∧ (T.length + j) % c = T.length % c + j - c) := by
      by_cases q : T.length % c + j < c
      · left; exact ⟨q, mod_add_lt q⟩
      · right; exact ⟨by omega, mod_add_ge (by omega) (by omega) hpos⟩
    generalize (T.length + j) % c = r at *
    generalize T.length % c = k at *
    rcases e with ⟨e1, e2⟩ | ⟨e1, e2⟩
    · rw [if_neg (by omega), if_neg (by omega), if_pos (by omega)]
      congr 1; omega
    · rw [if_pos (by omega)]
      congr 1; omega

theorem ring_piece {c f m : Nat} {cs T : List Int} (hc : cs.length = c) (hpos : 0 < c) (hm : m ≤ c) (hT : f + m ≤ T.length) (h : ∀ x, f ≤ x → x < f + m → cs[x % c]? = T[x]?) :
    (cs.drop (f % c)).take (min m (c - f % c)) ++ cs.take (m - min m (c - f % c)) = (T.drop f).take m := by
  have hk := Nat.mod_lt f hpos
  have l1 : ((cs.drop (f % c)).take (min m (c - f % c))).length = min m (c - f % c) := by simp; omega
  have l2 : (cs.take (m - min m (c - f % c))).length = m - min m (c - f % c) := by simp; omega
  apply List.ext_getElem?
  intro j
  by_cases hj : j < m
  · rw [List.getElem?_take, if_pos hj, List.getElem?_drop, ← h (f + j) (by omega) (by omega), List.getElem?_append, l1]
    have e : (f % c + j < c ∧ (f + j) % c = f % c + j) ∨ (c ≤ f % c + j ∧ (f + j) % c = f % c + j - c) := by
      by_cases q : f % c + j < c
      · left; exact ⟨q, mod_add_lt q⟩
      · right; exact ⟨by omega, mod_add_ge (by omega) (by omega) hpos⟩
    generalize (f + j) % c = r at *
    generalize f % c = k at *
    rcases e with ⟨e1, e2⟩ | ⟨e1, e2⟩
    · rw [if_pos (by omega), List.getElem?_take, if_pos (by omega), List.getElem?_drop, e2]
    · rw [if_neg (by omega), List.getElem?_take, if_pos (by omega)]
      congr 1; omega
  · rw [List.getElem?_eq_none (by simp only [List.length_append, l1, l2]; omega), List.getElem?_eq_none (by simp; omega)]

theorem Try.infoB : (Try.prog.info? 5).map (fun i => (i.zero, i.size, i.bytes)) = some (some (.int .u8 0), 1, 1) := by kernel_rfl

theorem by8_size (l : List Int) : (by8 l).size = l.length := by simp [by8]
theorem by8_get (l : List Int) (i : Nat) (x : Int) (h : l[i]? = some x) : (by8 l)[i]? = some (.int .u8 x) := by simp [by8, h]

/-- copy of bytes, into the midst of a row. -/
theorem run_copy8 (w : World) (ty : TypeId) (g o dLen dCap : Nat) (a : Addr) (sLen sCap : Nat) (X C Y xs : List Int) (hg : Blk w g (by8 (X ++ (C ++ Y))) 5) (ho : o = X.length) (hC : C.length = xs.length) (hn : xs.length = Nat.min sLen dLen)
    (hsrc : ∀ j x, xs[j]? = some x → w.cell? (a.add j) = some (.int .u8 x)) :
    (Builtin.copy_ #[33, 33] ty #[.slice (some ⟨g, o, none⟩) dLen dCap, .slice (some a) sLen sCap]).run Try.prog w = .ok (goInt (Nat.min sLen dLen)) (w.setRow g (by8 (X ++ (xs ++ Y)))) := by
  obtain ⟨i, hi, hz, hs, hb⟩ := info_parts Try.infoB
  have hl := run_loadCells_list (P := Try.prog) w a (xs.map (Value.int .u8)) (fun j v hj => by
    rw [List.getElem?_map] at hj
    cases hx : xs[j]? with
    | none => rw [hx] at hj; simp at hj
    | some x => rw [hx] at hj; simp at hj; rw [← hj]; exact hsrc j x hx)
  have e8 : by8 (X ++ (C ++ Y)) = (X.map (Value.int .u8) ++ (C.map (Value.int .u8) ++ Y.map (Value.int .u8))).toArray := by simp [by8]
  have hg' : w.heap[g]? = some (.cells (X.map (Value.int .u8) ++ (C.map (Value.int .u8) ++ Y.map (Value.int .u8))).toArray 5 (0, 0)) := by rw [← e8]; exact hg
  have hst := run_storeCells_at Try.prog g o 5 (xs.map (Value.int .u8)) 0 _ w hg' (by subst ho; simp; omega) (by intro v hv; obtain ⟨x, -, rfl⟩ := List.mem_map.1 hv; rfl)
  have e := splice (X.map (Value.int .u8)) (C.map (Value.int .u8)) (Y.map (Value.int .u8)) (xs.map (Value.int .u8)) o (by simp [ho]) (by simp [hC])
  rw [e] at hst
  have e9 : by8 (X ++ (xs ++ Y)) = (X.map (Value.int .u8) ++ (xs.map (Value.int .u8) ++ Y.map (Value.int .u8))).toArray := by simp [by8]
  rw [e9]
  rw [List.length_map] at hl
  simp [Builtin.copy_, run_underlying Try.underlying33, Builtin.lenOf, Builtin.firstCells, sizeOf, typeInfo, hi, hs, ← hn, hl, hst]

theorem wpList_make_run {ops : Array Oper} {rest : List Oper} {o : Oper} {a : Act} {Q : Exit → Act → World → Prop} (w : World) (hg : o.guard = none) (t : TypeId) (l c : Operand) (hop : o.op = Op.makeSlice t l c) (lv cv : Value)
    (hl : a.eval l = lv) (hc : a.eval c = cv) {v' : Value} {w' : World} (hr : (Instr.makeSlice t lv cv).run Try.prog w = .ok v' w') (hK : wpList Try.prog ops Q rest (a.put o.dst v') w') : wpList Try.prog ops Q (o :: rest) a w := by
  refine wpList_plain hg fun K hK' => ?_
  unfold Oper.wp
  simp [execOp, hop, hl, hc, hr, Result.andThen]
  exact hK' _ _ hK

theorem mk_zeros (n : Nat) (h : n ≤ 281474976710656) (W : World) : (Instr.makeSlice 33 (.int .i64 (n : Int)) (.int .i64 (n : Int))).run Try.prog W = .ok (.slice (some ⟨W.heap.size, 0, none⟩) n n) (W.alloc (.cells (by8 (List.replicate n 0)) 5)) := by
  obtain ⟨i, hi, hz, hs, hb⟩ := info_parts Try.infoB
  have := run_make (P := Try.prog) W 33 5 i (.int .u8 0) Try.underlying33 hi hz .i64 .i64 n n (by omega) (by omega) (by rw [hb]; omega) (by omega)
  rw [hs] at this
  have e : madeCells (Value.int IntKind.u8 0).cells ((n : Int).toNat * 1) = by8 (List.replicate n 0) := by
    have e1 : (Value.int IntKind.u8 0).cells = #[Value.int .u8 0] := rfl
    rw [e1]
    apply Array.ext_getElem?
    intro j
    by_cases hj : j < n
    · simp [madeCells, by8, hj, Nat.mod_one]
    · simp [madeCells, by8, hj]
  rw [e] at this
  exact this
end Go.Proofs.Ytdalekjpjnhboaa
