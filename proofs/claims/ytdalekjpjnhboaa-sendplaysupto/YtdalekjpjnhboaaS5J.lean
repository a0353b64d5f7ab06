/- piece. -/
import Derived.Test.YtdalekjpjnhboaaS5H
namespace Go.Proofs.Ytdalekjpjnhboaa
open Go.RowKit
set_option linter.unusedVariables false
set_option maxHeartbeats 1000000
set_option maxRecDepth 100000

/-- Bytes that a call hands out, in memory of their own. -/
structure BytesV (W : World) (v : Value) (l : List Int) : Prop where
  ex : ∃ a c, v = .slice a l.length c ∧ Rd W a l ∧ l.length ≤ c ∧ c ≤ 65536

theorem piece_nil (b : Nat) (f : Int) (W : World) : Calls Try.prog 49 #[ptr b, .int .i64 f, .int .i64 f] W fun e W' => e = .returned nilS ∧ W' = W := by
  go_enter Try.func49, Try.ntmps49
  go_wp2
  all_goals go_ret
  all_goals exact ⟨rfl, rfl⟩

theorem rd_by8 {W : World} {g : Nat} {l : List Int} (h : Blk W g (by8 l) 5) (hb : ∀ x ∈ l, IsB x) : Rd W (some ⟨g, 0, none⟩) l := ⟨hb, fun _ => ⟨g, 0, rfl, fun i hi => by
  rw [Nat.zero_add]
  refine h.cell i _ (by8_get l i _ ?_)
  simp [List.getD, hi]⟩⟩

theorem piece_ring {w W : World} {M : Nat → Prop} {b ba bl : Nat} {vh : Value} {S : Sd} (h : At w M b ba bl vh W S) (hok : SdOk S) (f t : Int) (hs : S.stopped = false) (h1 : S.base ≤ f) (h2 : f < t) (h3 : t ≤ wr S) (hbig : wr S ≤ 1152921504606846976) :
    Calls Try.prog 49 #[ptr b, .int .i64 f, .int .i64 t] W fun e W' => ∃ v, e = .returned v ∧ BytesV W' v (pieceT S.T f t) ∧ Fresh W v ∧ W.grownBy W' none := by
  obtain ⟨c0, c1, c2, c3, c4, c5, c6, c7, c8, c9⟩ := h.cells
  have hcap := hok.cap
  have hb0 := hok.b0; have hbs := hok.bs; have hsw := hok.sw; have hwc := hok.wc
  obtain ⟨c, hc⟩ : ∃ c : Nat, S.cap = (c : Int) := ⟨S.cap.toNat, by omega⟩
  have hcn : S.cap.toNat = c := by omega
  obtain ⟨g, cs, rfl, hgB, hcl, hcb, hcx⟩ : ∃ g cs, vh = .slice (some ⟨g, 0, none⟩) c c ∧ Blk W g (by8 cs) 5 ∧ cs.length = c ∧ (∀ x ∈ cs, IsB x) ∧ ∀ x : Nat, S.base ≤ x → x < S.T.length → cs[x % c]? = S.T[x]? := by
    rcases h.ring with ⟨e, hg⟩ | ⟨g', cs, e, q1, q2, q3, q4⟩
    · exfalso
      rcases hg with q | q | q
      · have : wr S = 0 := by unfold wr; rw [q]; rfl
        omega
      · rw [hs] at q; cases q
      · have := q.2; omega
    · rw [hcn] at e q2 q4
      exact ⟨g', cs, e, q1, q2, q3, q4⟩
  have hwl : wr S = (S.T.length : Int) := rfl
  obtain ⟨F, hF⟩ : ∃ F : Nat, f = (F : Int) := ⟨f.toNat, by omega⟩
  obtain ⟨m, hm⟩ : ∃ m : Nat, (m : Int) = t - f := ⟨(t - f).toNat, by omega⟩
  obtain ⟨k, hk⟩ : ∃ k, k = F % c := ⟨_, rfl⟩
  have hkc : k < c := by rw [hk]; exact Nat.mod_lt _ (by omega)
  obtain ⟨n1, hn1⟩ : ∃ n1, n1 = min m (c - k) := ⟨_, rfl⟩
  have hmc : m ≤ c := by omega
  have hm0 : 0 < m := by omega
  have hpt : pieceT S.T f t = (S.T.drop F).take m := by unfold pieceT; rw [show f.toNat = F by omega, show (t - f).toNat = m by omega]
  have hcont : (cs.drop k).take n1 ++ cs.take (m - n1) = pieceT S.T f t := by
    rw [hpt, hn1, hk]
    exact ring_piece hcl (by omega) hmc (by omega) (fun x q1 q2 => hcx x (by omega) (by omega))
  have hlen : (pieceT S.T f t).length = m := by rw [hpt]; simp; omega
  have hmod : Int.tmod f (c : Int) = (k : Int) := by
    rw [hF, hk, ← Int.ofNat_tmod]
  have wm : IntKind.i64.wrap (t - f) = (m : Int) := by rw [IntKind.wrap_i64]; omega
  have hne : (f == t) = false := beq_no (by omega)
  have hmk := fun X => mk_zeros m (by omega) X
  obtain ⟨D1, hD1⟩ : ∃ D1, D1 = (cs.drop k).take n1 ++ List.replicate (m - n1) 0 := ⟨_, rfl⟩
  have hdl : ((cs.drop k).take n1).length = n1 := by simp; omega
  have hr1 : ∀ X ty, (W.alloc (.cells (by8 (List.replicate m 0)) 5)).grownBy X none → (Builtin.copy_ #[33, 33] ty #[.slice (some ⟨W.heap.size, 0, none⟩) m m, .slice (some ⟨g, k, none⟩) (c - k) (c - k)]).run Try.prog X = .ok (goInt n1) (X.setRow W.heap.size (by8 D1)) := fun X ty hX => by
    have hmin : Nat.min (c - k) m = n1 := by rw [hn1]; exact Nat.min_comm _ _
    have hB : Blk X W.heap.size (by8 ([] ++ (List.replicate n1 0 ++ List.replicate (m - n1) 0))) 5 := by
      rw [List.nil_append, List.replicate_append_replicate, show n1 + (m - n1) = m by omega]
      exact (Blk.new W _ _).grown hX
    have := run_copy8 X ty W.heap.size 0 m m ⟨g, k, none⟩ (c - k) (c - k) [] (List.replicate n1 0) (List.replicate (m - n1) 0) ((cs.drop k).take n1) hB rfl (by simp; omega) (by rw [hmin, hdl]) (fun j x hj => by
      rw [Addr.add_lit]
      rw [List.getElem?_take] at hj
      split at hj
      · rw [List.getElem?_drop] at hj
        exact ((hgB.grown (grown_alloc _ _)).grown hX).cell _ _ (by8_get _ _ _ hj)
      · cases hj)
    rw [hmin, List.nil_append, ← hD1] at this
    exact this
  have hgs : g < W.heap.size := hgB.lt
  have hr2 : ∀ X ty, Blk X W.heap.size (by8 D1) 5 → Blk X g (by8 cs) 5 → (Builtin.copy_ #[33, 33] ty #[.slice (some ⟨W.heap.size, if m = n1 then 0 else n1, none⟩) (m - n1) (m - n1), .slice (some ⟨g, 0, none⟩) c c]).run Try.prog X = .ok (goInt (m - n1 : Nat)) (X.setRow W.heap.size (by8 (pieceT S.T f t))) := fun X ty hB hG => by
    have hmin : Nat.min c (m - n1) = m - n1 := Nat.min_eq_right (by omega)
    by_cases hmn : m = n1
    · rw [if_pos hmn]
      have e0 : D1 = pieceT S.T f t := by rw [hD1, ← hcont, show m - n1 = 0 by omega]; simp
      have := run_copy8 X ty W.heap.size 0 (m - n1) (m - n1) ⟨g, 0, none⟩ c c [] [] D1 [] (by simpa using hB) rfl rfl (by rw [hmin]; simp; omega) (fun j x hj => by simp at hj)
      rw [hmin, List.nil_append, List.nil_append, e0] at this
      exact this
    · rw [if_neg hmn]
      have := run_copy8 X ty W.heap.size n1 (m - n1) (m - n1) ⟨g, 0, none⟩ c c ((cs.drop k).take n1) (List.replicate (m - n1) 0) [] (cs.take (m - n1)) (by rw [List.append_nil, ← hD1]; exact hB) hdl.symm (by simp; omega) (by rw [hmin]; simp; omega) (fun j x hj => by
        rw [Addr.add_lit, Nat.zero_add]
        rw [List.getElem?_take] at hj
        split at hj
        · exact hG.cell _ _ (by8_get _ _ _ hj)
        · cases hj)
      rw [hmin, List.append_nil, hcont] at this
      exact this
  have htb : ∀ x ∈ pieceT S.T f t, IsB x := fun x hx => by
    rw [hpt] at hx
    exact h.tb x (List.mem_of_mem_drop (List.mem_of_mem_take hx))
  have fin : Hid (∀ X, (W.alloc (.cells (by8 (List.replicate m 0)) 5)).grownBy X (some W.heap.size) → Blk X W.heap.size (by8 (pieceT S.T f t)) 5 → BytesV X (.slice (some ⟨W.heap.size, 0, none⟩) m m) (pieceT S.T f t) ∧ Fresh W (.slice (some ⟨W.heap.size, 0, none⟩) m m) ∧ W.grownBy X none) := fun X hX hB => by
    refine ⟨⟨_, m, by rw [hlen], rd_by8 hB htb, by omega, by omega⟩, fun q e => by cases e; exact Nat.le_refl _, ?_⟩
    exact ⟨hX.os, hX.tape, hX.output, Nat.le_trans (by rw [alloc_size]; omega) hX.size, fun i hi _ => by
      rw [hX.block i (by rw [alloc_size]; omega) (by simp; omega)]
      exact (grown_alloc W _).block i hi (by simp)⟩
  have hB0 := hide (h.blk.alloc (.cells (by8 (List.replicate m 0)) 5))
  have hG0 := hide (hgB.alloc (.cells (by8 (List.replicate m 0)) 5))
  have hbs2 := h.blk.lt
  have hc00 : ¬ c = 0 := by omega
  have hck : ¬ c = k := by omega
  have hkc2 : k ≤ c := by omega
  have hn1m : n1 ≤ m := by omega
  have x0 : (W.alloc (.cells (by8 (List.replicate m 0)) 5)).cell? ⟨b, 0, none⟩ = some (.int .i64 (c : Int)) := by rw [← hc]; exact (unhide hB0).cell 0 _ rfl
  have x1 : (W.alloc (.cells (by8 (List.replicate m 0)) 5)).cell? ⟨b, 1, none⟩ = some (.slice (some ⟨g, 0, none⟩) c c) := (unhide hB0).cell 1 _ rfl
  have B1 : Hid (Blk (W.alloc (.cells (by8 (List.replicate m 0)) 5)) W.heap.size (by8 (List.replicate m 0)) 5) := Blk.new _ _ _
  clear h hok hs h1 h2 h3 hbig hcap hb0 hbs hsw hwc hgB hcl hcb hcx hm hpt hcont hF c0 c1 c2 c3 c4 c5 c6 c7 c8 c9 htb hdl hwl
  replace hk := hide hk; replace hn1 := hide hn1; replace hD1 := hide hD1; replace hlen := hide hlen
  generalize hgd : W.heap.size = gd at *
  generalize hA : W.alloc (.cells (by8 (List.replicate m 0)) 5) = A at *
  go_enter Try.func49, Try.ntmps49
  go_wp2_with (at_make; refine wpList_make_run _ rfl 33 _ _ rfl _ _ rfl rfl (hmk _) ?_)
  try rw [hgd]
  try rw [hA]
  have HGD := hide hgd
  clear hA hgd
  go_region_law (refine step_copy_run rfl _ _ 33 33 rfl _ _ (by simp [Act.eval, Act.put]) (by simp [Act.eval, Act.put]) (hr1 _ _ (by first | exact grown_self _ _ | exact grown_drew' (grown_self _ _))) ?_)
  all_goals simp only [List.getElem_toArray, List.getElem_cons_succ, List.getElem_cons_zero]
  all_goals
    have gW : A.grownBy (A.drew.setRow gd (by8 D1)) (some gd) := gr_drew (grown_setRow A.drew gd _)
    have bW : Blk (A.drew.setRow gd (by8 D1)) gd (by8 D1) 5 := (unhide B1).drew.row _
    have bG : Blk (A.drew.setRow gd (by8 D1)) g (by8 cs) 5 := (unhide hG0).drew.rowO gd _ (by omega)
    have bB := (unhide hB0).drew.rowO gd (by8 D1) (by omega)
    have y1 : (A.drew.setRow gd (by8 D1)).cell? ⟨b, 1, none⟩ = some (.slice (some ⟨g, 0, none⟩) c c) := bB.cell 1 _ rfl
    generalize hW1 : A.drew.setRow gd (by8 D1) = W1 at *
    have gW2 : A.grownBy (W1.drew.setRow gd (by8 (pieceT S.T f t))) (some gd) := gr_far gW (gr_drew (grown_setRow W1.drew gd _))
    have bW2 : Blk (W1.drew.setRow gd (by8 (pieceT S.T f t))) gd (by8 (pieceT S.T f t)) 5 := bW.drew.row _
    have FF := hide (unhide fin _ gW2 bW2)
    have hr3 := fun ty => hr2 W1.drew ty bW.drew bG.drew
    clear gW bW hW1 gW2 bW2 bG bB hr1 hr2
    by_cases hpe : m = n1
    · rw [if_pos hpe] at hr3
      subst hpe
      replace hr3 : ∀ ty, (Builtin.copy_ #[33, 33] ty #[.slice (some ⟨gd, 0, none⟩) 0 0, .slice (some ⟨g, 0, none⟩) c c]).run Try.prog W1.drew = .ok (goInt 0) (W1.drew.setRow gd (by8 (pieceT S.T f t))) := fun ty => by
        have := hr3 ty
        rw [Nat.sub_self] at this
        exact this
      go_wp2
      go_region_law (refine step_copy_run rfl _ _ 33 33 rfl _ _ (by simp [Act.eval]) (by simp [Act.eval]) (hr3 _) ?_)
      all_goals go_wp2
      all_goals go_ret
      all_goals exact ⟨_, rfl, unhide FF⟩
    · rw [if_neg hpe] at hr3
      go_wp2
      go_region_law (refine step_copy_run rfl _ _ 33 33 rfl _ _ (by simp [Act.eval]) (by simp [Act.eval]) (hr3 _) ?_)
      all_goals go_wp2
      all_goals go_ret
      all_goals exact ⟨_, rfl, unhide FF⟩
end Go.Proofs.Ytdalekjpjnhboaa
