/- Road: laws for single steps; clear. -/
import Derived.Test.YtbdjlhkgpblebaaDoorY2G
namespace Go.Proofs.YtbdjlhkgpblebaaDoor
open Go.RowKit Go.Shelf Go.Maps
set_option linter.unusedVariables false
set_option linter.unusedSimpArgs false
set_option maxRecDepth 100000
set_option maxHeartbeats 1000000

theorem Mq.dropR {w : World} {mb : Nat} {L : List (Nat × Nat)} (h : Mq w mb L) (hid : (L.map Prod.fst).Nodup) (n : Nat × Nat) (hn : n ∈ L) (hl : n.1 < 4611686018427387904) :
    ∃ w', (∀ ty, (Builtin.delete_ #[47, 3] ty #[.map (some mb), .int .i64 (n.1 : Int)]).run Tryd.prog w = .ok (.tuple #[]) w') ∧ Mq w' mb (sansQ L n) ∧ w.grownBy w' (some mb) := by
  obtain ⟨D, h1, h2, h3, h4⟩ := h.ex
  obtain ⟨w', hrun, r1, r2⟩ := h1.drop kint Tryd.underlying47 (keyOf_int_mk Tryd.underlying3 (wfQ hl)) 0
  exact ⟨w', fun ty => hrun, Mq.del hid hn h1 h2 h3 h4 r1, r2.grown⟩
theorem Mq.putR {w : World} {mb : Nat} {L : List (Nat × Nat)} (h : Mq w mb L) (hlen : L.length ≤ 4096) (n : Nat × Nat) (hn : ∀ k ∈ L, k.1 ≠ n.1) (hl : n.1 < 4611686018427387904) :
    ∃ w', (Instr.mapUpdate 47 (.map (some mb)) (.int .i64 (n.1 : Int)) (.int .i64 (n.2 : Int))).run Tryd.prog w = .ok () w' ∧ Mq w' mb (n :: L) ∧ w.grownBy w' (some mb) := by
  obtain ⟨D, h1, h2, h3, h4⟩ := h.ex
  obtain ⟨w', hrun, h5, h6⟩ := h1.update kint Tryd.underlying47 (by unfold maxLen; omega) (keyOf_int_mk Tryd.underlying3 (wfQ hl)) (plE_ptr n.2)
  refine ⟨w', hrun, ⟨_, h5, ?_, fun y => ?_, fun k hk z => ?_⟩, h6⟩
  · have hh : has D (kI n.1) = false := by
      rw [h3, List.any_eq_false]
      intro k hk
      have := hn k hk
      simp only [decide_eq_true_eq]
      omega
    rw [size_put (h1.tidy kint), hh]
    simp [h2]
  · rw [List.any_cons]
    by_cases e : y = n.1
    · subst e
      rw [has_put_same h1.isMap (kI_key _)]
      simp
    · rw [has_put_other (kI_ne e), h3]
      have : decide ((n.1 : Int) = y) = false := decide_eq_false (fun e2 => e e2.symm)
      rw [this, Bool.false_or]
  · rcases List.mem_cons.1 hk with rfl | hk
    · exact atKey_put_same h1.isMap (kI_key _) _ _
    · have := hn k hk
      rw [atKey_put_other (kI_ne (by omega))]
      exact h4 k hk z
theorem step_update_run {P : Program} {ops : Array Oper} {o : Oper} {a : Act} {w : World} {K : Act → World → Prop} {Q : Exit → Act → World → Prop} {E : Prop}
    (hg : o.guard = none) (t : TypeId) (m x v : Operand) (hop : o.op = Op.mapUpdate t m x v)
    (u y z : Value) (hm : a.eval m = u) (hx : a.eval x = y) (hv : a.eval v = z) {w' : World} (hr : (Instr.mapUpdate t u y z).run P w = .ok () w') (hK : K (a.put o.dst undef) w') :
    if Region.wanted o (yielded ops a.tmps) = true then Oper.wp P o a w K Q else E := by
  have hw : Region.wanted o (yielded ops a.tmps) = true := by simp [Region.wanted, hg]
  rw [if_pos hw]
  unfold Oper.wp
  simp [execOp, hop, hm, hx, hv, hr, Result.andThen]
  exact hK

theorem splice5 {α : Type} (X C Y cs : List α) (o : Nat) (ho : o = X.length) (h : C.length = cs.length) : (X ++ (C ++ Y)).toArray.toList.take (o + 0) ++ cs ++ (X ++ (C ++ Y)).toArray.toList.drop (o + 0 + cs.length) = X ++ (cs ++ Y) := by
  subst ho
  simp [List.drop_append, ← h]
theorem run_store_mid {P : Program} {w : World} (ty : TypeId) (g off : Nat) (cells : Array Value)
    (t : TypeId) (X C Y : List Value) (hg : w.heap[g]? = some (.cells (X ++ (C ++ Y)).toArray t (0, 0))) (hoff : off = X.length) (hC : C.length = cells.size) (hi : (P.info? ty).map (·.size) = some cells.size) (h1 : ∀ v ∈ cells.toList, v.oneCell' = true) :
    (storeVar ty ⟨g, off, none⟩ (.agg cells)).run P w = .ok () (w.setRow g (X ++ (cells.toList ++ Y)).toArray) := by
  have hst := run_storeCells_at P g off t cells.toList 0 _ w hg (by subst hoff; simp; omega) h1
  have e := splice5 X C Y cells.toList off hoff (by simpa using hC)
  rw [e] at hst
  cases hq : P.info? ty with
  | none => simp [hq] at hi
  | some i =>
    have hs : cells.size = i.size := by simp [hq] at hi; omega
    simp [storeVar, sizeOf, typeInfo, hq, Value.cells, hs, hst]
theorem wpList_store_midG {P : Program} {ops : Array Oper} {rest : List Oper} {o : Oper} {a : Act} {w : World} {Q : Exit → Act → World → Prop} (hgd : o.guard = none) (ty : TypeId) (x y : Operand) (ho : o.op = .store ty x y)
    (g off : Nat) (cells : Array Value) (hx : a.eval x = .pointer (some ⟨g, off, none⟩)) (hy : a.eval y = .agg cells)
    (t : TypeId) (X C Y : List Value) (hg : w.heap[g]? = some (.cells (X ++ (C ++ Y)).toArray t (0, 0))) (hoff : off = X.length) (hC : C.length = cells.size) (hi : (P.info? ty).map (·.size) = some cells.size) (h1 : ∀ v ∈ cells.toList, v.oneCell' = true)
    (h : wpList P ops Q rest (a.put o.dst undef) (w.setRow g (X ++ (cells.toList ++ Y)).toArray)) : wpList P ops Q (o :: rest) a w :=
  wpList_plain hgd fun K hK => by
    have hv := run_store_mid (P := P) ty g off cells t X C Y hg hoff hC hi h1
    unfold Oper.wp execOp
    simp only [ho, hx, hy, Instr.storeAt, Instr.sureAddr, Sem.run_bind, Sem.run_pure, Result.andThen_ok, hv]
    exact hK _ _ h
theorem Tryd.sizeGm : (Tryd.prog.info? 56).map (·.size) = some 5 := by kernel_rfl
theorem Gm.one (g : Gm) : ∀ v ∈ g.cs.toList, v.oneCell' = true := by
  intro v hv
  simp [Gm.cs] at hv
  rcases hv with rfl | rfl | rfl | rfl | rfl <;> rfl
theorem Gm.one2 (g : Gm) : g.cs.all (·.oneCell') = true := by
  simp [Gm.cs, Value.oneCell']

/-- A datagram of a row, and the row with another one in its place. -/
theorem ly_mid {w : World} {b : Nat} {vl : Value} {LY : List Gm} {p : Nat} {g : Gm} (h : w.ownsRow b 56 5 vl LY.length (clG LY)) (hp : LY[p]? = some g) :
    ∃ gl cl, vl = .slice (some ⟨gl, 0, none⟩) LY.length cl ∧ LY.length ≤ cl ∧ cl ≤ 9223372036854775807 ∧ b ≤ gl ∧ gl < w.heap.size ∧ ∃ X Y : List Value, Blk w gl (X ++ (g.cs.toList ++ Y)).toArray 56 ∧ p * 5 = X.length ∧
      ∀ (w' : World) (g' : Gm), Blk w' gl (X ++ (g'.cs.toList ++ Y)).toArray 56 → w'.ownsRow b 56 5 vl (LY.set p g').length (clG (LY.set p g')) := by
  have hlt := (List.getElem?_eq_some_iff.1 hp).1
  have hd : LY.drop p = g :: LY.drop (p + 1) := by
    obtain ⟨h1, h2⟩ := List.getElem?_eq_some_iff.1 hp
    rw [List.drop_eq_getElem_cons h1, h2]
  have e1 : clG LY = clG (LY.take p) ++ (g.cs.toList ++ clG (LY.drop (p + 1))) := by
    conv => lhs; rw [← List.take_append_drop p LY, clG_app, hd, clG_cons]
    rfl
  rcases h.2 with ⟨q1, q2⟩ | ⟨gl, cl, cur, rfl, q1, q2, q3, q4, q5, q6⟩
  · omega
  · refine ⟨gl, cl, rfl, q3, q4, q1, (Array.getElem?_eq_some_iff.1 q2).1, clG (LY.take p), clG (LY.drop (p + 1)) ++ cur.toList.drop (LY.length * 5), ?_, ?_, ?_⟩
    · rw [show clG (LY.take p) ++ (g.cs.toList ++ (clG (LY.drop (p + 1)) ++ cur.toList.drop (LY.length * 5))) = clG LY ++ cur.toList.drop (LY.length * 5) by rw [e1]; simp [List.append_assoc], ← q6, List.take_append_drop, Array.toArray_toList]
      exact q2
    · rw [clG_len, List.length_take]; omega
    · intro w' g' hb
      have e2 : clG (LY.set p g') = clG (LY.take p) ++ (g'.cs.toList ++ clG (LY.drop (p + 1))) := by
        rw [List.set_eq_take_append_cons_drop, if_pos hlt, clG_app, clG_cons]
        rfl
      refine ⟨by rw [clG_len], .inr ⟨gl, cl, _, by rw [List.length_set], q1, hb, by rw [List.length_set]; exact q3, q4, ?_, ?_⟩⟩
      · have h5 : (g'.cs.toList).length = 5 := rfl
        simp only [List.size_toArray, List.length_append, clG_len, h5, List.length_take, List.length_drop, Array.length_toList]
        omega
      · rw [e2, List.length_set, ← List.append_assoc (g'.cs.toList), ← List.append_assoc (clG _)]
        rw [List.take_left']
        have h5 : (g'.cs.toList).length = 5 := rfl
        simp only [List.length_append, clG_len, h5, List.length_take, List.length_drop]
        omega

def rest (A : List (Gm × Nat)) (p : Nat) : List (Gm × Nat) := A.filter fun x => decide (x.2 ≠ p)
/-- What clear leaves. -/
def ClearP (b : Nat) (w : World) (r W mb : Nat) (vl vf : Value) (Sw : Nat → Prop) (c : Nat) (T : List Tm) (A : List (Gm × Nat)) (now sp nx p : Nat) (w' : World) : Prop :=
  ∃ vf' LY' FR', RP b w' r W mb vl vf' Sw c T (rest A p) LY' FR' 0 now sp nx ∧ Kp (OW r mb vl vf) w w' ∧ (∀ g, OW r mb vl vf' g → OW r mb vl vf g ∨ w.heap.size ≤ g)
end Go.Proofs.YtbdjlhkgpblebaaDoor
