/- The document's Recv: hold. -/
import Derived.Test.YthihabjegpacaaaGreatV1B
namespace Go.Proofs.YthihabjegpacaaaGreat
open Go.RowKit
set_option linter.unusedVariables false
set_option maxRecDepth 100000
set_option maxHeartbeats 4000000

theorem putT1_same {T : Int → Option Int} {off b : Int} (h : (T off).isSome = true) : putT T off [b] = T := by
  funext x
  cases hx : T x with
  | some y => rw [putT_some hx]
  | none =>
    rw [putT_none hx, if_neg]
    intro c
    have : x = off := by simp at c; omega
    rw [this] at hx
    rw [hx] at h
    cases h
theorem ish_put {S : Rv} {H : List Hd} (h : IsH S H) {off b : Int} (hr : S.read ≤ off) (hn : S.T off = none) {k : Nat} (hk : k ≤ H.length) (hlt : ∀ i x, i < k → H[i]? = some x → x.1 < off) (hge : ∀ i x, k ≤ i → H[i]? = some x → off < x.1) :
    IsH { S with T := putT S.T off [b] } ((H.take k ++ [(off, b)]) ++ H.drop k) := by
  have m1 : ∀ x ∈ H.take k, x.1 < off := fun x hx => by
    obtain ⟨i, hi⟩ := List.getElem?_of_mem hx
    rw [List.getElem?_take] at hi
    split at hi
    · rename_i c; exact hlt i x c hi
    · cases hi
  have m2 : ∀ x ∈ H.drop k, off < x.1 := fun x hx => by
    obtain ⟨i, hi⟩ := List.getElem?_of_mem hx
    rw [List.getElem?_drop] at hi
    exact hge (k + i) x (by omega) hi
  have sp := h.srt
  rw [← List.take_append_drop k H, List.pairwise_append] at sp
  refine ⟨?_, fun x hx => ?_, fun x y hx hy => ?_⟩
  · rw [List.append_assoc, List.pairwise_append]
    refine ⟨sp.1, ?_, fun x hx y hy => ?_⟩
    · rw [List.singleton_append, List.pairwise_cons]
      exact ⟨fun y hy => m2 y hy, sp.2.1⟩
    · rw [List.singleton_append, List.mem_cons] at hy
      rcases hy with rfl | hy
      · exact m1 x hx
      · exact sp.2.2 x hx y hy
  · have mem : x ∈ H ∨ x = (off, b) := by
      rw [List.mem_append, List.mem_append, List.mem_singleton] at hx
      rcases hx with (q | q) | q
      · exact .inl (List.mem_of_mem_take q)
      · exact .inr q
      · exact .inl (List.mem_of_mem_drop q)
    rcases mem with q | rfl
    · obtain ⟨q1, q2⟩ := h.is x q
      exact ⟨q1, putT_some q2⟩
    · refine ⟨hr, ?_⟩
      show putT S.T off [b] off = some b
      rw [putT_none hn, if_pos (by simp; omega)]
      simp
  · have hy : putT S.T off [b] x = some y := hy
    have lift : ∀ z, z ∈ H → z ∈ (H.take k ++ [(off, b)]) ++ H.drop k := fun z hz => by
      rw [← List.take_append_drop k H, List.mem_append] at hz
      rw [List.mem_append, List.mem_append]
      rcases hz with q | q
      · exact .inl (.inl q)
      · exact .inr q
    cases hT : S.T x with
    | some z =>
      rw [putT_some hT] at hy
      cases hy
      exact lift _ (h.all x _ hx hT)
    | none =>
      rw [putT_none hT] at hy
      split at hy
      · rename_i cc
        have e : x = off := by simp at cc; omega
        subst e
        simp at hy
        subst hy
        rw [List.mem_append, List.mem_append, List.mem_singleton]
        exact .inl (.inr rfl)
      · cases hy

section
variable {W : World} {r : Nat} {a : Option Addr} {c : Nat} {S : Rv} {H : List Hd}
theorem hold_apps (h : DR W r a c S H) (hn : H.length ≤ 100000000) (k : Nat) (hk : k ≤ H.length) (off b : Int) (hI : IsH { S with T := putT S.T off [b] } ((H.take k ++ [(off, b)]) ++ H.drop k)) :
    ∃ a1, (∀ X : World, (Instr.sliceAt 54 (.slice a H.length c) none (some (.int .i64 (k : Int))) none).run Tryz.prog X = .ok (.slice a1 k c) X) ∧
    ∃ a3 c3 W1, (Builtin.append_ #[54, 54] 54 #[.slice none 0 0, .slice a1 k c]).run Tryz.prog W = .ok (.slice a3 k c3) W1 ∧
    ∃ a4 c4 W2, (Builtin.append_ #[54, 54] 54 #[.slice a3 k c3, .slice (some ⟨W1.heap.size, 0, none⟩) 1 1]).run Tryz.prog (W1.alloc (.cells #[.int .i64 off, .int .u8 b] 79)) = .ok (.slice a4 (k + 1) c4) W2 ∧ W2.cell? ⟨r, 4, none⟩ = some (.slice a H.length c) ∧
    ∃ a2, (∀ X : World, (Instr.sliceAt 54 (.slice a H.length c) (some (.int .i64 (k : Int))) none none).run Tryz.prog X = .ok (.slice a2 (H.length - k) (c - k)) X) ∧
    ∃ a5 c5 W3, (Builtin.append_ #[54, 54] 54 #[.slice a4 (k + 1) c4, .slice a2 (H.length - k) (c - k)]).run Tryz.prog W2 = .ok (.slice a5 (H.length + 1) c5) W3 ∧ W3.cell? ⟨r, 4, none⟩ = some (.slice a H.length c) ∧ W3.frozen? ⟨r, 4, none⟩ = false ∧ DR (W3.setCell ⟨r, 4, none⟩ (.slice a5 (H.length + 1) c5)) r a5 c5 { S with T := putT S.T off [b] } ((H.take k ++ [(off, b)]) ++ H.drop k) ∧ W.grownBy (W3.setCell ⟨r, 4, none⟩ (.slice a5 (H.length + 1) c5)) (some r) ∧ NwH W a H a5 ((H.take k ++ [(off, b)]) ++ H.drop k) := by
  have cap := h.rd.cap
  have lk : (H.take k).length = k := by simp; omega
  have ld : (H.drop k).length = H.length - k := by simp
  obtain ⟨a1, s1, r1⟩ := sl_h (a := a) (n := H.length) (c := c) k (by omega)
  have rd1 := r1 W H hk h.rd
  obtain ⟨v1, W1, p1, o1, g1, b1⟩ := hd_app (n0 := W.heap.size) W (.slice none 0 0) [] (H.take k) a1 c (ownh_nil _ _) (Nat.le_refl _) rd1 (by simp; omega)
  rw [lk] at p1
  rw [List.nil_append] at o1
  obtain ⟨a3, c3, rfl, -, n1⟩ := o1.rd
  rw [lk] at p1 o1 n1
  have g1 : W.grownBy W1 none := g1
  have ga := grown_alloc W1 (.cells #[.int .i64 off, .int .u8 b] 79)
  have rdn : RdH (W1.alloc (.cells #[.int .i64 off, .int .u8 b] 79)) (some ⟨W1.heap.size, 0, none⟩) 1 [(off, b)] := ⟨.inr ⟨W1.heap.size, 0, #[.int .i64 off, .int .u8 b], rfl, Blk.new W1 _ _, fun i x hi => by
    match i, hi with
    | 0, hi => simp at hi; subst hi; exact ⟨rfl, rfl⟩
    | i + 1, hi => simp at hi⟩, ⟨by simp, by decide⟩, .inr ⟨_, _, rfl⟩⟩
  have o1' := o1.kept (W' := W1.alloc (.cells #[.int .i64 off, .int .u8 b] 79)) (fun g e => ga.block g (o1.lt g e) (by simp))
  obtain ⟨v2, W2, p2, o2, g2, b2⟩ := hd_app (n0 := W.heap.size) _ (.slice a3 k c3) (H.take k) [(off, b)] (some ⟨W1.heap.size, 0, none⟩) 1 o1' (Nat.le_trans g1.size ga.size) rdn (by rw [lk]; simp; omega)
  have l2 : (H.take k ++ [(off, b)]).length = k + 1 := by simp; omega
  obtain ⟨a4, c4, rfl, -, n2⟩ := o2.rd
  rw [l2] at p2 o2 n2
  have w2 : W.grownBy W2 none := grown_fr (grown_trans g1 ga) g2 n1
  obtain ⟨a2, s2, r2⟩ := sl_l (a := a) (n := H.length) (c := c) k hk cap.1
  have rd2 := ((r2 W H).1 rfl h.rd).grown w2
  obtain ⟨v3, W3, p3, o3, g3, b3⟩ := hd_app (n0 := W.heap.size) W2 (.slice a4 (k + 1) c4) (H.take k ++ [(off, b)]) (H.drop k) a2 (c - k) o2 w2.size rd2 (by rw [l2, ld]; omega)
  rw [ld] at p3
  have l3 : ((H.take k ++ [(off, b)]) ++ H.drop k).length = H.length + 1 := by rw [List.length_append, l2, ld]; omega
  obtain ⟨a5, c5, rfl, rd3, n3⟩ := o3.rd
  rw [l3] at p3 o3 n3
  have w3 : W.grownBy W3 none := grown_fr w2 g3 n2
  have bk := h.blk.grown w3
  refine ⟨a1, s1, a3, c3, W1, p1, a4, c4, W2, p2, (h.blk.grown w2).cell 4 _ rfl, a2, s2, a5, c5, W3, p3, bk.cell 4 _ rfl, bk.thaw 4, ⟨?_, rd3.set bk, hI⟩, grown_trS (grown_wkS w3) (grown_atS _ _ _), fun g q => .inr (by obtain ⟨-, o, e⟩ := q; exact n3 g (by rw [e]; rfl))⟩
  rw [l3]
  exact bk.setC 4 _

end
end Go.Proofs.YthihabjegpacaaaGreat
