/- S7P, S8M, S8N, S8O, S8P, one text. -/
import Derived.Test.YtdalekjpjnhboaaS5M
import Derived.Test.YtdalekjpjnhboaaM9A
namespace Go.Proofs.Ytdalekjpjnhboaa
open Go.RowKit
set_option linter.unusedVariables false
set_option maxHeartbeats 1000000
set_option maxRecDepth 100000

/-- Bytes that a call hands out, in a row of their own. -/
structure BytesVO (W : World) (v : Value) (l : List Int) : Prop where
  ex : ∃ a c, v = .slice a l.length c ∧ Rd W a l ∧ l.length ≤ c ∧ c ≤ 65536
  own : RowV 0 5 W v (uV l)

theorem own_by8 {W : World} {g m : Nat} {l : List Int} (h : Blk W g (by8 l) 5) (hl : l.length = m) (hm : m ≤ 65536) : RowV 0 5 W (.slice (some ⟨g, 0, none⟩) m m) (uV l) := by
  subst hl
  refine ⟨by simp, .inr ⟨g, l.length, by8 l, by rw [List.length_map], Nat.zero_le _, h, by rw [List.length_map]; exact Nat.le_refl _, by unfold maxLen; omega, by simp [by8], ?_⟩⟩
  rw [List.length_map, Nat.mul_one]
  simp only [by8, List.toList_toArray]
  exact List.take_of_length_le (by simp)

theorem piece_ringO {w W : World} {M : Nat → Prop} {b ba bl : Nat} {vh : Value} {S : Sd} (h : At w M b ba bl vh W S) (hok : SdOk S) (f t : Int) (hs : S.stopped = false) (h1 : S.base ≤ f) (h2 : f < t) (h3 : t ≤ wr S) (hbig : wr S ≤ 1152921504606846976) :
    Calls Try.prog 49 #[ptr b, .int .i64 f, .int .i64 t] W fun e W' => ∃ v, e = .returned v ∧ BytesVO W' v (pieceT S.T f t) ∧ Fresh W v ∧ W.grownBy W' none := by
  obtain ⟨c0, c1, c2, c3, c4, c5, c6, c7, c8, c9⟩ := h.cells
  have hcap := hok.cap
  have hb0 := hok.b0; have hbs := hok.bs; have hsw := hok.sw; have hwc := hok.wc
  obtain ⟨c, hc⟩ : ∃ c : Nat, S.cap = (c : Int) := ⟨S.cap.toNat, by omega⟩
  have hcn : S.cap.toNat = c := by omega
  obtain ⟨g, cs, rfl, hgB, hcl, hcb, hcx⟩ : ∃ g cs, vh = .slice (some ⟨g, 0, none⟩) c c ∧ Blk W g (by8 cs) 5 ∧ cs.length = c ∧ (∀ x ∈ cs, IsB x) ∧ ∀ x : Nat, S.base ≤ x → x < S.T.length → cs[x % c]? = S.T[x]? := by
    rcases h.ring with ⟨e, hg⟩ | ⟨g', cs, e, q1, q2, q3, q4⟩
    · exfalso
      rcases hg with q | q | q
      · have : wr S = 0 := by unfold wr; rw [q]; rfl
        omega
      · rw [hs] at q; cases q
      · have := q.2; omega
    · rw [hcn] at e q2 q4
      exact ⟨g', cs, e, q1, q2, q3, q4⟩
  have hwl : wr S = (S.T.length : Int) := rfl
  obtain ⟨F, hF⟩ : ∃ F : Nat, f = (F : Int) := ⟨f.toNat, by omega⟩
  obtain ⟨m, hm⟩ : ∃ m : Nat, (m : Int) = t - f := ⟨(t - f).toNat, by omega⟩
  obtain ⟨k, hk⟩ : ∃ k, k = F % c := ⟨_, rfl⟩
  have hkc : k < c := by rw [hk]; exact Nat.mod_lt _ (by omega)
  obtain ⟨n1, hn1⟩ : ∃ n1, n1 = min m (c - k) := ⟨_, rfl⟩
  have hmc : m ≤ c := by omega
  have hm0 : 0 < m := by omega
  have hpt : pieceT S.T f t = (S.T.drop F).take m := by unfold pieceT; rw [show f.toNat = F by omega, show (t - f).toNat = m by omega]
  have hcont : (cs.drop k).take n1 ++ cs.take (m - n1) = pieceT S.T f t := by
    rw [hpt, hn1, hk]
    exact ring_piece hcl (by omega) hmc (by omega) (fun x q1 q2 => hcx x (by omega) (by omega))
  have hlen : (pieceT S.T f t).length = m := by rw [hpt]; simp; omega
  have hmod : Int.tmod f (c : Int) = (k : Int) := by
    rw [hF, hk, ← Int.ofNat_tmod]
  have wm : IntKind.i64.wrap (t - f) = (m : Int) := by rw [IntKind.wrap_i64]; omega
  have hne : (f == t) = false := beq_no (by omega)
  have hmk := fun X => mk_zeros m (by omega) X
  obtain ⟨D1, hD1⟩ : ∃ D1, D1 = (cs.drop k).take n1 ++ List.replicate (m - n1) 0 := ⟨_, rfl⟩
  have hdl : ((cs.drop k).take n1).length = n1 := by simp; omega
  have hr1 : ∀ X ty, (W.alloc (.cells (by8 (List.replicate m 0)) 5)).grownBy X none → (Builtin.copy_ #[33, 33] ty #[.slice (some ⟨W.heap.size, 0, none⟩) m m, .slice (some ⟨g, k, none⟩) (c - k) (c - k)]).run Try.prog X = .ok (goInt n1) (X.setRow W.heap.size (by8 D1)) := fun X ty hX => by
    have hmin : Nat.min (c - k) m = n1 := by rw [hn1]; exact Nat.min_comm _ _
    have hB : Blk X W.heap.size (by8 ([] ++ (List.replicate n1 0 ++ List.replicate (m - n1) 0))) 5 := by
      rw [List.nil_append, List.replicate_append_replicate, show n1 + (m - n1) = m by omega]
      exact (Blk.new W _ _).grown hX
    have := run_copy8 X ty W.heap.size 0 m m ⟨g, k, none⟩ (c - k) (c - k) [] (List.replicate n1 0) (List.replicate (m - n1) 0) ((cs.drop k).take n1) hB rfl (by simp; omega) (by rw [hmin, hdl]) (fun j x hj => by
      rw [Addr.add_lit]
      rw [List.getElem?_take] at hj
      split at hj
      · rw [List.getElem?_drop] at hj
        exact ((hgB.grown (grown_alloc _ _)).grown hX).cell _ _ (by8_get _ _ _ hj)
      · cases hj)
    rw [hmin, List.nil_append, ← hD1] at this
    exact this
  have hgs : g < W.heap.size := hgB.lt
  have hr2 : ∀ X ty, Blk X W.heap.size (by8 D1) 5 → Blk X g (by8 cs) 5 → (Builtin.copy_ #[33, 33] ty #[.slice (some ⟨W.heap.size, if m = n1 then 0 else n1, none⟩) (m - n1) (m - n1), .slice (some ⟨g, 0, none⟩) c c]).run Try.prog X = .ok (goInt (m - n1 : Nat)) (X.setRow W.heap.size (by8 (pieceT S.T f t))) := fun X ty hB hG => by
    have hmin : Nat.min c (m - n1) = m - n1 := Nat.min_eq_right (by omega)
    by_cases hmn : m = n1
    · rw [if_pos hmn]
      have e0 : D1 = pieceT S.T f t := by rw [hD1, ← hcont, show m - n1 = 0 by omega]; simp
      have := run_copy8 X ty W.heap.size 0 (m - n1) (m - n1) ⟨g, 0, none⟩ c c [] [] D1 [] (by simpa using hB) rfl rfl (by rw [hmin]; simp; omega) (fun j x hj => by simp at hj)
      rw [hmin, List.nil_append, List.nil_append, e0] at this
      exact this
    · rw [if_neg hmn]
      have := run_copy8 X ty W.heap.size n1 (m - n1) (m - n1) ⟨g, 0, none⟩ c c ((cs.drop k).take n1) (List.replicate (m - n1) 0) [] (cs.take (m - n1)) (by rw [List.append_nil, ← hD1]; exact hB) hdl.symm (by simp; omega) (by rw [hmin]; simp; omega) (fun j x hj => by
        rw [Addr.add_lit, Nat.zero_add]
        rw [List.getElem?_take] at hj
        split at hj
        · exact hG.cell _ _ (by8_get _ _ _ hj)
        · cases hj)
      rw [hmin, List.append_nil, hcont] at this
      exact this
  have htb : ∀ x ∈ pieceT S.T f t, IsB x := fun x hx => by
    rw [hpt] at hx
    exact h.tb x (List.mem_of_mem_drop (List.mem_of_mem_take hx))
  have fin : Hid (∀ X, (W.alloc (.cells (by8 (List.replicate m 0)) 5)).grownBy X (some W.heap.size) → Blk X W.heap.size (by8 (pieceT S.T f t)) 5 → BytesVO X (.slice (some ⟨W.heap.size, 0, none⟩) m m) (pieceT S.T f t) ∧ Fresh W (.slice (some ⟨W.heap.size, 0, none⟩) m m) ∧ W.grownBy X none) := fun X hX hB => by
    refine ⟨⟨⟨_, m, by rw [hlen], rd_by8 hB htb, by omega, by omega⟩, own_by8 hB hlen (by omega)⟩, fun q e => by cases e; exact Nat.le_refl _, ?_⟩
    exact ⟨hX.os, hX.tape, hX.output, Nat.le_trans (by rw [alloc_size]; omega) hX.size, fun i hi _ => by
      rw [hX.block i (by rw [alloc_size]; omega) (by simp; omega)]
      exact (grown_alloc W _).block i hi (by simp)⟩
  have hB0 := hide (h.blk.alloc (.cells (by8 (List.replicate m 0)) 5))
  have hG0 := hide (hgB.alloc (.cells (by8 (List.replicate m 0)) 5))
  have hbs2 := h.blk.lt
  have hc00 : ¬ c = 0 := by omega
  have hck : ¬ c = k := by omega
  have hkc2 : k ≤ c := by omega
  have hn1m : n1 ≤ m := by omega
  have x0 : (W.alloc (.cells (by8 (List.replicate m 0)) 5)).cell? ⟨b, 0, none⟩ = some (.int .i64 (c : Int)) := by rw [← hc]; exact (unhide hB0).cell 0 _ rfl
  have x1 : (W.alloc (.cells (by8 (List.replicate m 0)) 5)).cell? ⟨b, 1, none⟩ = some (.slice (some ⟨g, 0, none⟩) c c) := (unhide hB0).cell 1 _ rfl
  have B1 : Hid (Blk (W.alloc (.cells (by8 (List.replicate m 0)) 5)) W.heap.size (by8 (List.replicate m 0)) 5) := Blk.new _ _ _
  clear h hok hs h1 h2 h3 hbig hcap hb0 hbs hsw hwc hgB hcl hcb hcx hm hpt hcont hF c0 c1 c2 c3 c4 c5 c6 c7 c8 c9 htb hdl hwl
  replace hk := hide hk; replace hn1 := hide hn1; replace hD1 := hide hD1; replace hlen := hide hlen
  generalize hgd : W.heap.size = gd at *
  generalize hA : W.alloc (.cells (by8 (List.replicate m 0)) 5) = A at *
  go_enter Try.func49, Try.ntmps49
  go_wp2_with (at_make; refine wpList_make_run _ rfl 33 _ _ rfl _ _ rfl rfl (hmk _) ?_)
  try rw [hgd]
  try rw [hA]
  have HGD := hide hgd
  clear hA hgd
  go_region_law (refine step_copy_run rfl _ _ 33 33 rfl _ _ (by simp [Act.eval, Act.put]) (by simp [Act.eval, Act.put]) (hr1 _ _ (by first | exact grown_self _ _ | exact grown_drew' (grown_self _ _))) ?_)
  all_goals simp only [List.getElem_toArray, List.getElem_cons_succ, List.getElem_cons_zero]
  all_goals
    have gW : A.grownBy (A.drew.setRow gd (by8 D1)) (some gd) := gr_drew (grown_setRow A.drew gd _)
    have bW : Blk (A.drew.setRow gd (by8 D1)) gd (by8 D1) 5 := (unhide B1).drew.row _
    have bG : Blk (A.drew.setRow gd (by8 D1)) g (by8 cs) 5 := (unhide hG0).drew.rowO gd _ (by omega)
    have bB := (unhide hB0).drew.rowO gd (by8 D1) (by omega)
    have y1 : (A.drew.setRow gd (by8 D1)).cell? ⟨b, 1, none⟩ = some (.slice (some ⟨g, 0, none⟩) c c) := bB.cell 1 _ rfl
    generalize hW1 : A.drew.setRow gd (by8 D1) = W1 at *
    have gW2 : A.grownBy (W1.drew.setRow gd (by8 (pieceT S.T f t))) (some gd) := gr_far gW (gr_drew (grown_setRow W1.drew gd _))
    have bW2 : Blk (W1.drew.setRow gd (by8 (pieceT S.T f t))) gd (by8 (pieceT S.T f t)) 5 := bW.drew.row _
    have FF := hide (unhide fin _ gW2 bW2)
    have hr3 := fun ty => hr2 W1.drew ty bW.drew bG.drew
    clear gW bW hW1 gW2 bW2 bG bB hr1 hr2
    by_cases hpe : m = n1
    · rw [if_pos hpe] at hr3
      subst hpe
      replace hr3 : ∀ ty, (Builtin.copy_ #[33, 33] ty #[.slice (some ⟨gd, 0, none⟩) 0 0, .slice (some ⟨g, 0, none⟩) c c]).run Try.prog W1.drew = .ok (goInt 0) (W1.drew.setRow gd (by8 (pieceT S.T f t))) := fun ty => by
        have := hr3 ty
        rw [Nat.sub_self] at this
        exact this
      go_wp2
      go_region_law (refine step_copy_run rfl _ _ 33 33 rfl _ _ (by simp [Act.eval]) (by simp [Act.eval]) (hr3 _) ?_)
      all_goals go_wp2
      all_goals go_ret
      all_goals exact ⟨_, rfl, unhide FF⟩
    · rw [if_neg hpe] at hr3
      go_wp2
      go_region_law (refine step_copy_run rfl _ _ 33 33 rfl _ _ (by simp [Act.eval]) (by simp [Act.eval]) (hr3 _) ?_)
      all_goals go_wp2
      all_goals go_ret
      all_goals exact ⟨_, rfl, unhide FF⟩
section
variable {w W : World} {M : Nat → Prop} {b ba bl : Nat} {vh : Value} {S : Sd}

theorem piece_atO (h : At w M b ba bl vh W S) (hok : SdOk S) (f t : Int) (hs : S.stopped = false) (h1 : S.base ≤ f) (h2 : f ≤ t) (h3 : t ≤ wr S) (hbig : wr S ≤ 1152921504606846976) :
    Calls Try.prog 49 #[ptr b, .int .i64 f, .int .i64 t] W fun e W' => ∃ v, e = .returned v ∧ BytesVO W' v (pieceT S.T f t) ∧ Fresh W v ∧ W.grownBy W' none := by
  by_cases hft : f = t
  · subst hft
    refine (piece_nil b f W).mono ?_
    rintro e W' ⟨rfl, rfl⟩
    have e0 : pieceT S.T f f = [] := by unfold pieceT; rw [Int.sub_self]; simp
    rw [e0]
    exact ⟨_, rfl, ⟨⟨none, 0, rfl, ⟨fun x hx => (by cases hx), fun hne => absurd rfl hne⟩, by simp, by simp⟩, rowV_nil 0 5 _⟩, fun k e => (by cases e), grown_self _ _⟩
  · exact piece_ringO h hok f t hs h1 (by omega) h3 hbig

/-- What Next answers and leaves. -/
def NextPostO (w : World) (M : Nat → Prop) (b ba bl : Nat) (vh : Value) (W : World) (S : Sd) (most limit : Int) (e : Ending) (W' : World) : Prop :=
  ∃ v, e = .returned (.tuple #[.int .i64 (dueS S most limit).1, v, .bool ((dueS S most limit).2.2 && endB S (dueS S most limit).2.1), .bool (dueS S most limit).2.2]) ∧ At w M b ba bl vh W' (nextS S most limit) ∧ BytesVO W' v (if (dueS S most limit).2.2 = true then pieceT S.T (dueS S most limit).1 (dueS S most limit).2.1 else []) ∧ Fresh w v ∧ ∃ n, (∀ g, v.ownBlock = some g → n ≤ g) ∧ At W' (fun k => (M k ∨ w.heap.size ≤ k) ∧ k < n) b ba bl vh W' (nextS S most limit)

theorem next_noO (h : At w M b ba bl vh W S) (hok : SdOk S) (hbig : wr S ≤ 1152921504606846976) (most limit : Int) (hl : -9223372036854775808 ≤ limit ∧ limit ≤ 9223372036854775807) (hd : (dueS S most limit).2.2 = false) :
    Calls Try.prog 21 #[ptr b, .int .i64 most, .int .i64 limit] W (NextPostO w M b ba bl vh W S most limit) := by
  have hdu := due_at h hok hbig most limit hl
  have hz := due_no hd
  unfold NextPostO nextS
  rw [hd] at hdu ⊢
  rw [hz] at hdu ⊢
  simp only [Bool.false_and, Bool.false_eq_true, if_false] at *
  have H := hide h
  clear h hok hd hz
  generalize (dueS S most limit).2.1 = tt at *
  go_enter Try.func21, Try.ntmps21
  go_wp2_with fail
  refine hdu.mono ?_
  rintro e W' ⟨rfl, hg⟩
  have G := hide hg
  clear hdu hg
  go_wp2_with fail
  try simp only [Exit.inBlock, Exit.then]
  refine bodyPost_ret (results_tmp4 rfl _ _ _) rfl ?_
  exact ⟨_, rfl, (unhide H).grown (unhide G), ⟨⟨none, 0, rfl, ⟨fun x hx => (by cases hx), fun hne => absurd rfl hne⟩, by simp, by simp⟩, rowV_nil 0 5 _⟩, fun k e => (by cases e), W'.heap.size, fun k e => (by cases e), ((unhide H).grown (unhide G)).rebase (grown_self _ _)⟩

theorem next_yesO (h : At w M b ba bl vh W S) (hok : SdOk S) (hbig : wr S ≤ 1152921504606846976) (most limit f t : Int) (hl : -9223372036854775808 ≤ limit ∧ limit ≤ 9223372036854775807) (hd : dueS S most limit = (f, t, true)) :
    Calls Try.prog 21 #[ptr b, .int .i64 most, .int .i64 limit] W (NextPostO w M b ba bl vh W S most limit) := by
  have hdu := due_at h hok hbig most limit hl
  have hdo := due_ok hok hd
  have hok2 := sdok_next hok hbig hdo
  have hokL := hok.okL hbig
  have hb0 := hok.b0; have hbs := hok.bs; have hsw := hok.sw
  have q1 := hdo.lo; have q2 := hdo.le; have q3 := hdo.hi; have q5 := hdo.run
  unfold NextPostO nextS
  rw [hd] at hdu ⊢
  simp only [if_true, Bool.true_and] at *
  have w1 : IntKind.i64.wrap (t - 1) = t - 1 := by rw [IntKind.wrap_i64]; omega
  have H := hide h
  have HOK := hide hok2
  have HR := hide (And.intro q1 (And.intro q2 (And.intro q3 q5)))
  clear h hok hd hdo hok2 q5
  go_enter Try.func21, Try.ntmps21
  go_wp2_with fail
  refine hdu.mono ?_
  rintro e W1 ⟨rfl, hg⟩
  have h1 := (unhide H).grown hg
  have HG := hide hg.size
  obtain ⟨-, -, -, -, -, -, c6, -, -, -⟩ := h1.cells
  have hcut := cutL_at h1 hokL f (t - 1) (by omega) (by omega)
  clear hdu hg H h1
  go_wp2_with fail
  refine hcut.mono ?_
  rintro e W2 ⟨n2, rfl, h2⟩
  obtain ⟨c0, c1, c2, c3, c4, c5, c6, c7, c8, c9⟩ := h2.cells
  have t3 := h2.blk.thaw 3
  have t8' := h2.blk.thaw 8
  obtain ⟨mx, hmx⟩ : ∃ mx, mx = max S.sent t := ⟨_, rfl⟩
  have h3 := h2.put (S' := { S with L := cutS 0 f (t - 1) S.L, sent := mx }) 3 (.int .i64 mx) rfl rfl rfl (fun X hr => hr.to rfl rfl (Int.le_refl _) id) rfl
  obtain ⟨-, -, d2, -, -, -, -, d7, d8, -⟩ := h3.cells
  have t8 := h3.blk.thaw 8
  have ewr : wr { S with L := cutS 0 f (t - 1) S.L, sent := mx } = wr S := rfl
  rw [ewr] at d2
  simp only at c3 d7 d8
  have H3 := hide h3
  have h4 : Hid (∀ fv, At w M b ba bl vh ((W2.setCell ⟨b, 3, none⟩ (.int .i64 mx)).setCell ⟨b, 8, none⟩ (.int .i64 fv)) { S with L := cutS 0 f (t - 1) S.L, sent := mx, fin := fv }) := fun fv => h3.put (S' := { S with L := cutS 0 f (t - 1) S.L, sent := mx, fin := fv }) 8 (.int .i64 fv) rfl rfl rfl (fun X hr => hr.to rfl rfl (Int.le_refl _) id) rfl
  have nG : Hid (∀ fv, (if endB S t = true ∧ S.fin ≠ 3 then 1 else S.fin) = fv → nextG S f t = { S with L := cutS 0 f (t - 1) S.L, sent := mx, fin := fv }) := fun fv e => by unfold nextG; rw [e, hmx]
  have hmxI : Hid (mx = max S.sent t) := hmx
  rw [show wr { S with L := cutS 0 f (t - 1) S.L } = wr S from rfl] at c2
  simp only at c7 c8
  clear hcut h2 h3 q1 q2 q3 hb0 hbs hsw w1 hokL HG c0 c1 c4 c5 c6 c9 ewr
  have EB : Hid (endB S t = (S.ended && decide (t = wr S))) := rfl
  cases hen : S.ended with
  | false =>
    rw [hen] at d7 c7
    have eb : endB S t = false := by rw [unhide EB, hen]; rfl
    have eN := unhide nG S.fin (by rw [eb]; simp)
    have H5 : Hid (At w M b ba bl vh (W2.setCell ⟨b, 3, none⟩ (.int .i64 mx)) (nextG S f t)) := by rw [eN]; exact unhide H3
    have hp := piece_atO (unhide H5) (unhide HOK) f t (unhide HR).2.2.2 (unhide HR).1 (unhide HR).2.1 (unhide HR).2.2.1 hbig
    have EBH := hide eb
    have ET : Hid (pieceT (nextG S f t).T f t = pieceT S.T f t) := rfl
    clear eb eN nG h4 EB hen H3 hmx
    by_cases hms : S.sent ≤ t
    · have em : t = mx := by rw [unhide hmxI]; omega
      subst em
      go_wp2_with fail
      all_goals try rw [show S.sent = t from by omega]
      all_goals refine hp.mono ?_
      all_goals
        rintro e W6 ⟨v, rfl, k1, k2, k3⟩
        have K := hide (And.intro k1 (And.intro k2 k3))
        obtain ⟨va, vc, rfl, -⟩ := k1.ex
        clear hp k1 k2 k3
        go_wp2_with fail
        try simp only [Exit.inBlock, Exit.then]
        refine bodyPost_ret (results_tmp4 rfl _ _ _) rfl ?_
        exact ⟨_, by rw [unhide EBH]; rfl, (unhide H5).grown (unhide K).2.2, by rw [← unhide ET]; exact (unhide K).1, fun k e => Nat.le_trans (unhide H5).kp.size ((unhide K).2.1 k e), _, (unhide K).2.1, (unhide H5).rebase (unhide K).2.2⟩
    · have em : mx = S.sent := by rw [unhide hmxI]; omega
      subst em
      go_wp2_with fail
      all_goals try rw [show S.sent = t from by omega]
      all_goals refine hp.mono ?_
      all_goals
        rintro e W6 ⟨v, rfl, k1, k2, k3⟩
        have K := hide (And.intro k1 (And.intro k2 k3))
        obtain ⟨va, vc, rfl, -⟩ := k1.ex
        clear hp k1 k2 k3
        go_wp2_with fail
        try simp only [Exit.inBlock, Exit.then]
        refine bodyPost_ret (results_tmp4 rfl _ _ _) rfl ?_
        exact ⟨_, by rw [unhide EBH]; rfl, (unhide H5).grown (unhide K).2.2, by rw [← unhide ET]; exact (unhide K).1, fun k e => Nat.le_trans (unhide H5).kp.size ((unhide K).2.1 k e), _, (unhide K).2.1, (unhide H5).rebase (unhide K).2.2⟩
  | true =>
    rw [hen] at d7 c7
    by_cases htw : t = wr S
    · have eb : endB S t = true := by rw [unhide EB, hen, htw]; simp
      have hqw := beq_yes htw
      have HTW := hide htw
      by_cases hf3 : S.fin = 3
      · have eN := unhide nG S.fin (by rw [eb, hf3]; simp)
        have H5 : Hid (At w M b ba bl vh (W2.setCell ⟨b, 3, none⟩ (.int .i64 mx)) (nextG S f t)) := by rw [eN]; exact unhide H3
        have hq3 := beq_yes hf3
        have hq3' : (S.fin != 3) = false := by simp [hf3]
        clear hf3 htw
        have hp := piece_atO (unhide H5) (unhide HOK) f t (unhide HR).2.2.2 (unhide HR).1 (unhide HR).2.1 (unhide HR).2.2.1 hbig
        have EBH := hide eb
        have ET : Hid (pieceT (nextG S f t).T f t = pieceT S.T f t) := rfl
        clear eb eN nG h4 EB hen H3 hmx
        by_cases hms : S.sent ≤ t
        · have em : t = mx := by rw [unhide hmxI]; omega
          subst em
          go_wp2_with fail
          all_goals try rw [show S.sent = t from by omega]
          all_goals refine hp.mono ?_
          all_goals
            rintro e W6 ⟨v, rfl, k1, k2, k3⟩
            have K := hide (And.intro k1 (And.intro k2 k3))
            obtain ⟨va, vc, rfl, -⟩ := k1.ex
            clear hp k1 k2 k3
            go_wp2_with fail
            try simp only [Exit.inBlock, Exit.then]
            refine bodyPost_ret (results_tmp4 rfl _ _ _) rfl ?_
            exact ⟨_, by rw [unhide EBH]; rfl, (unhide H5).grown (unhide K).2.2, by rw [← unhide ET]; exact (unhide K).1, fun k e => Nat.le_trans (unhide H5).kp.size ((unhide K).2.1 k e), _, (unhide K).2.1, (unhide H5).rebase (unhide K).2.2⟩
        · have em : mx = S.sent := by rw [unhide hmxI]; omega
          subst em
          go_wp2_with fail
          all_goals try rw [show S.sent = t from by omega]
          all_goals refine hp.mono ?_
          all_goals
            rintro e W6 ⟨v, rfl, k1, k2, k3⟩
            have K := hide (And.intro k1 (And.intro k2 k3))
            obtain ⟨va, vc, rfl, -⟩ := k1.ex
            clear hp k1 k2 k3
            go_wp2_with fail
            try simp only [Exit.inBlock, Exit.then]
            refine bodyPost_ret (results_tmp4 rfl _ _ _) rfl ?_
            exact ⟨_, by rw [unhide EBH]; rfl, (unhide H5).grown (unhide K).2.2, by rw [← unhide ET]; exact (unhide K).1, fun k e => Nat.le_trans (unhide H5).kp.size ((unhide K).2.1 k e), _, (unhide K).2.1, (unhide H5).rebase (unhide K).2.2⟩
      · have eN := unhide nG 1 (by rw [eb]; simp [hf3])
        have H5 : Hid (At w M b ba bl vh ((W2.setCell ⟨b, 3, none⟩ (.int .i64 mx)).setCell ⟨b, 8, none⟩ (.int .i64 1)) (nextG S f t)) := by rw [eN]; exact unhide h4 1
        have hq3 := beq_no hf3
        have hq3' : (S.fin != 3) = true := by simp [hf3]
        clear htw
        have hp := piece_atO (unhide H5) (unhide HOK) f t (unhide HR).2.2.2 (unhide HR).1 (unhide HR).2.1 (unhide HR).2.2.1 hbig
        have EBH := hide eb
        have ET : Hid (pieceT (nextG S f t).T f t = pieceT S.T f t) := rfl
        clear eb eN nG h4 EB hen H3 hmx
        by_cases hms : S.sent ≤ t
        · have em : t = mx := by rw [unhide hmxI]; omega
          subst em
          go_wp2_with fail
          all_goals try rw [show S.sent = t from by omega]
          all_goals refine hp.mono ?_
          all_goals
            rintro e W6 ⟨v, rfl, k1, k2, k3⟩
            have K := hide (And.intro k1 (And.intro k2 k3))
            obtain ⟨va, vc, rfl, -⟩ := k1.ex
            clear hp k1 k2 k3
            go_wp2_with fail
            try simp only [Exit.inBlock, Exit.then]
            refine bodyPost_ret (results_tmp4 rfl _ _ _) rfl ?_
            exact ⟨_, by rw [unhide EBH]; rfl, (unhide H5).grown (unhide K).2.2, by rw [← unhide ET]; exact (unhide K).1, fun k e => Nat.le_trans (unhide H5).kp.size ((unhide K).2.1 k e), _, (unhide K).2.1, (unhide H5).rebase (unhide K).2.2⟩
        · have em : mx = S.sent := by rw [unhide hmxI]; omega
          subst em
          go_wp2_with fail
          all_goals try rw [show S.sent = t from by omega]
          all_goals refine hp.mono ?_
          all_goals
            rintro e W6 ⟨v, rfl, k1, k2, k3⟩
            have K := hide (And.intro k1 (And.intro k2 k3))
            obtain ⟨va, vc, rfl, -⟩ := k1.ex
            clear hp k1 k2 k3
            go_wp2_with fail
            try simp only [Exit.inBlock, Exit.then]
            refine bodyPost_ret (results_tmp4 rfl _ _ _) rfl ?_
            exact ⟨_, by rw [unhide EBH]; rfl, (unhide H5).grown (unhide K).2.2, by rw [← unhide ET]; exact (unhide K).1, fun k e => Nat.le_trans (unhide H5).kp.size ((unhide K).2.1 k e), _, (unhide K).2.1, (unhide H5).rebase (unhide K).2.2⟩
    · have eb : endB S t = false := by rw [unhide EB, hen]; simp [htw]
      have eN := unhide nG S.fin (by rw [eb]; simp)
      have H5 : Hid (At w M b ba bl vh (W2.setCell ⟨b, 3, none⟩ (.int .i64 mx)) (nextG S f t)) := by rw [eN]; exact unhide H3
      have hqw := beq_no htw
      have hp := piece_atO (unhide H5) (unhide HOK) f t (unhide HR).2.2.2 (unhide HR).1 (unhide HR).2.1 (unhide HR).2.2.1 hbig
      have EBH := hide eb
      have ET : Hid (pieceT (nextG S f t).T f t = pieceT S.T f t) := rfl
      clear eb eN nG h4 EB hen H3 hmx
      by_cases hms : S.sent ≤ t
      · have em : t = mx := by rw [unhide hmxI]; omega
        subst em
        go_wp2_with fail
        all_goals try rw [show S.sent = t from by omega]
        all_goals refine hp.mono ?_
        all_goals
          rintro e W6 ⟨v, rfl, k1, k2, k3⟩
          have K := hide (And.intro k1 (And.intro k2 k3))
          obtain ⟨va, vc, rfl, -⟩ := k1.ex
          clear hp k1 k2 k3
          go_wp2_with fail
          try simp only [Exit.inBlock, Exit.then]
          refine bodyPost_ret (results_tmp4 rfl _ _ _) rfl ?_
          exact ⟨_, by rw [unhide EBH]; rfl, (unhide H5).grown (unhide K).2.2, by rw [← unhide ET]; exact (unhide K).1, fun k e => Nat.le_trans (unhide H5).kp.size ((unhide K).2.1 k e), _, (unhide K).2.1, (unhide H5).rebase (unhide K).2.2⟩
      · have em : mx = S.sent := by rw [unhide hmxI]; omega
        subst em
        go_wp2_with fail
        all_goals try rw [show S.sent = t from by omega]
        all_goals refine hp.mono ?_
        all_goals
          rintro e W6 ⟨v, rfl, k1, k2, k3⟩
          have K := hide (And.intro k1 (And.intro k2 k3))
          obtain ⟨va, vc, rfl, -⟩ := k1.ex
          clear hp k1 k2 k3
          go_wp2_with fail
          try simp only [Exit.inBlock, Exit.then]
          refine bodyPost_ret (results_tmp4 rfl _ _ _) rfl ?_
          exact ⟨_, by rw [unhide EBH]; rfl, (unhide H5).grown (unhide K).2.2, by rw [← unhide ET]; exact (unhide K).1, fun k e => Nat.le_trans (unhide H5).kp.size ((unhide K).2.1 k e), _, (unhide K).2.1, (unhide H5).rebase (unhide K).2.2⟩
end

section
variable {w W : World} {M : Nat → Prop} {b ba bl : Nat} {vh : Value} {S : Sd}
theorem next_anyO (h : At w M b ba bl vh W S) (hok : SdOk S) (hbig : wr S ≤ 1152921504606846976) (most limit : Int) (hl : -9223372036854775808 ≤ limit ∧ limit ≤ 9223372036854775807) :
    Calls Try.prog 21 #[ptr b, .int .i64 most, .int .i64 limit] W (NextPostO w M b ba bl vh W S most limit) := by
  cases hd : (dueS S most limit).2.2 with
  | false => exact next_noO h hok hbig most limit hl hd
  | true => exact next_yesO h hok hbig most limit (dueS S most limit).1 (dueS S most limit).2.1 hl (by rw [← hd])
end
end Go.Proofs.Ytdalekjpjnhboaa

namespace Go.Proofs.Ytdalekjpjnhboaa
open Go.RowKit
set_option linter.unusedVariables false
set_option maxHeartbeats 1000000
set_option maxRecDepth 100000

/-- Other blocks are written. -/
theorem At.keep {X Y : World} {M D : Nat → Prop} {b ba bl : Nat} {vh : Value} {S : Sd} (h : At X M b ba bl vh X S) (k : Kp D X Y) (hM : ∀ g, M g → ¬ D g) : At Y M b ba bl vh Y S := by
  obtain ⟨va, vl, s1, s2, d, m1, m2⟩ := h.sets
  have hb := h.blk.lt
  have e : ∀ {j : Nat}, M j ∨ X.heap.size ≤ j → j < X.heap.size → Y.heap[j]? = X.heap[j]? := fun q hj => k.block _ hj (hM _ (q.resolve_right (by omega)))
  have f : ∀ {j : Nat}, M j ∨ X.heap.size ≤ j → j < X.heap.size → M j ∨ Y.heap.size ≤ j := fun q hj => .inl (q.resolve_right (by omega))
  exact ⟨Kp.refl _ _, (e h.mb hb).trans h.blk, ⟨va, vl, setAt_kept s1 (e h.ma (setAt_lt s1)) (fun j q => e (m1 j q) (row_lt s1.row j q)), setAt_kept s2 (e h.ml (setAt_lt s2)) (fun j q => e (m2 j q) (row_lt s2.row j q)), d, fun j q => f (m1 j q) (row_lt s1.row j q), fun j q => f (m2 j q) (row_lt s2.row j q)⟩, h.ring.kept (fun j q => e (h.mh j q) (h.ring.lt j q)), h.ne, f h.mb hb, f h.ma (setAt_lt s1), f h.ml (setAt_lt s2), fun j q => f (h.mh j q) (h.ring.lt j q), h.tb⟩

/-- What is so of a stopped one. -/
def StOk (S : Sd) : Prop := S.stopped = true → S.L = [] ∧ S.fin ≠ 2
theorem StOk.new (cap : Int) : StOk (new0 cap) := fun h => by cases h
theorem StOk.ack {S : Sd} (h : StOk S) (off size : Int) (fin : Bool) : StOk (ackS S off size fin) := by
  unfold ackS
  by_cases hs : S.stopped = true
  · rw [if_pos hs]; exact h
  · rw [if_neg hs]; exact fun q => absurd q hs
theorem StOk.lost {S : Sd} (h : StOk S) (off size : Int) (fin : Bool) : StOk (lostS S off size fin) := by
  unfold lostS
  by_cases hs : S.stopped = true
  · rw [if_pos hs]; exact h
  · rw [if_neg hs]; exact fun q => absurd q hs
theorem StOk.stop {S : Sd} (h : StOk S) : StOk (stopS S) := by
  unfold stopS
  split
  · exact h
  · intro _
    refine ⟨rfl, ?_⟩
    show (if S.fin = 2 then 1 else S.fin) ≠ 2
    split <;> omega
theorem StOk.same {S : Sd} (h : StOk S) : (if S.stopped = true then S else stopS S) = stopS S := by
  by_cases hs : S.stopped = true
  · rw [if_pos hs]
    obtain ⟨h1, h2⟩ := h hs
    unfold stopS
    split
    · rfl
    · unfold stopG
      rw [if_neg h2]
      cases S
      simp only at hs h1
      subst hs h1
      rfl
  · rw [if_neg hs]
theorem StOk.next {S : Sd} (h : StOk S) (most limit : Int) (hst : S.stopped = true → (dueS S most limit).2.2 = false) : StOk (nextS S most limit) := by
  unfold nextS
  by_cases hs : S.stopped = true
  · rw [hst hs]
    exact h
  · split
    · exact fun q => absurd q hs
    · exact h
end Go.Proofs.Ytdalekjpjnhboaa

namespace Go.Proofs.Ytdalekjpjnhboaa
open Go.RowKit
set_option linter.unusedVariables false
set_option maxHeartbeats 1000000
set_option maxRecDepth 100000

/-- The owner, with what it holds; Q: its blocks; N: how many entries at the most. -/
structure OWs (X : World) (ob : Nat) (Q : Nat → Prop) (N : Nat) (vl vB : Value) (H : List Int) (S : Sd) (va vL wa wL : Value) (V : Nat → Prop) (es : List En) : Prop where
  ol : OL 0 X ob vl (vB :: .string (strOfNums H) :: ((viewC S va vL).toList ++ (viewC S wa wL).toList)) V es
  rB : RowV 0 5 X vB (uV H)
  bH : ∀ x ∈ H, IsB x
  nH : H.length ≤ 65536
  ra : Row X va S.A
  rL : Row X vL S.L
  qa : Row X wa S.A
  qL : Row X wL S.L
  nA : S.A.length ≤ 1000000
  nL : S.L.length ≤ 1000000
  n : es.length ≤ N
  sz : ∀ e ∈ es, e.bn ≤ 1000000000 ∧ e.rn ≤ 1000000000
  vB_ : ∀ g, vB.ownBlock = some g → ¬ V g
  va_ : ∀ g, va.ownBlock = some g → ¬ V g
  vL_ : ∀ g, vL.ownBlock = some g → ¬ V g ∧ va.ownBlock ≠ some g
  wa_ : ∀ g, wa.ownBlock = some g → ¬ V g
  wL_ : ∀ g, wL.ownBlock = some g → ¬ V g
  q : ∀ g, Q g ↔ (Om ob vl g ∨ V g ∨ vB.ownBlock = some g ∨ va.ownBlock = some g ∨ vL.ownBlock = some g ∨ wa.ownBlock = some g ∨ wL.ownBlock = some g)
def OW (X : World) (ob : Nat) (Q : Nat → Prop) (N : Nat) : Prop := ∃ vl vB H S va vL wa wL V es, OWs X ob Q N vl vB H S va vL wa wL V es

section
variable {X Y : World} {ob N : Nat} {Q D : Nat → Prop} {vl vB : Value} {H : List Int} {S : Sd} {va vL wa wL : Value} {V : Nat → Prop} {es : List En}

theorem OWs.lt (h : OWs X ob Q N vl vB H S va vL wa wL V es) : ∀ g, Q g → g < X.heap.size := fun g q => by
  rcases (h.q g).1 q with (q | q) | q | q | q | q | q | q
  · rw [q]; exact Blk.lt h.ol.blk
  · exact (h.ol.row.lt g q).2
  · exact (h.ol.nV g q).2.1
  · exact (World.ownsRow.lt h.rB g q).2
  · exact row_lt h.ra g q
  · exact row_lt h.rL g q
  · exact row_lt h.qa g q
  · exact row_lt h.qL g q
theorem OWs.kept (h : OWs X ob Q N vl vB H S va vL wa wL V es) (hs : X.heap.size ≤ Y.heap.size) (hk : ∀ g, Q g → Y.heap[g]? = X.heap[g]?) : OWs Y ob Q N vl vB H S va vL wa wL V es := by
  have r : ∀ {v : Value} {L : List Sp}, Row X v L → (∀ g, v.ownBlock = some g → Q g) → Row Y v L := fun hr hq => own_kept hr fun g e => hk g (hq g e)
  refine ⟨h.ol.kept hs fun g q _ => hk g ((h.q g).2 (q.imp id .inl)), h.rB.kept fun g e => hk g ((h.q g).2 (.inr (.inr (.inl e)))), h.bH, h.nH, r h.ra fun g e => (h.q g).2 (.inr (.inr (.inr (.inl e)))), r h.rL fun g e => (h.q g).2 (.inr (.inr (.inr (.inr (.inl e))))), r h.qa fun g e => (h.q g).2 (.inr (.inr (.inr (.inr (.inr (.inl e)))))), r h.qL fun g e => (h.q g).2 (.inr (.inr (.inr (.inr (.inr (.inr e)))))), h.nA, h.nL, h.n, h.sz, h.vB_, h.va_, h.vL_, h.wa_, h.wL_, h.q⟩
theorem OW.kp (h : OW X ob Q N) (k : Kp D X Y) (hd : ∀ g, Q g → ¬ D g) : OW Y ob Q N := by
  obtain ⟨vl, vB, H, S, va, vL, wa, wL, V, es, h⟩ := h
  exact ⟨vl, vB, H, S, va, vL, wa, wL, V, es, h.kept k.size fun g q => k.block g (h.lt g q) (hd g q)⟩
theorem OW.lt (h : OW X ob Q N) : ∀ g, Q g → g < X.heap.size := by
  obtain ⟨vl, vB, H, S, va, vL, wa, wL, V, es, h⟩ := h
  exact h.lt

/-- What bytes leaves of it. -/
def OwP (X : World) (ob : Nat) (Q : Nat → Prop) (F : Nat → Prop) (N : Nat) (Y : World) : Prop := ∃ Q', OW Y ob Q' N ∧ (∀ g, Q' g → Q g ∨ F g ∨ X.heap.size ≤ g) ∧ Kp Q X Y

theorem OW.bytes (h : OW X ob Q N) (hN : N + 2 ≤ 100000000) {vb vw : Value} {B : List Int} (hb : RowV 0 5 X vb (uV B)) (hw : RowV 0 5 X vw (uV B)) (hB : ∀ x ∈ B, IsB x) (nB : B.length ≤ 65536) (nb : ∀ g, vb.ownBlock = some g → ¬ Q g) (nw : ∀ g, vw.ownBlock = some g → ¬ Q g) :
    Calls Try.prog 10 #[ptr ob, vb, vw] X fun e Y => e = .returned (.bool true) ∧ OwP X ob Q (fun g => vb.ownBlock = some g) (N + 2) Y := by
  obtain ⟨vl, vB, H, S, va, vL, wa, wL, V, es, h⟩ := h
  have sub : ∀ g, Om ob vl g ∨ V g ∨ vB.ownBlock = some g → Q g := fun g q => (h.q g).2 (by
    rcases q with q | q | q
    · exact .inl q
    · exact .inr (.inl q)
    · exact .inr (.inr (.inl q)))
  refine (bytes_any h.ol (Nat.zero_le _) h.rB h.bH hb hw hB (by have := h.n; omega) h.sz (by have := h.nH; omega) h.vB_ (fun g q z => nb g q (sub g z)) (fun g q z => nw g q (sub g z))).mono ?_
  rintro e Y ⟨rfl, vl', V', es', hO, hr, hlen, hsz, hk, hq⟩
  have nS : ∀ {v : Value} {L : List Sp}, Row X v L → (∀ g, v.ownBlock = some g → ¬ V g) → ∀ g, v.ownBlock = some g → ¬ (Om ob vl g ∨ V g ∨ vB.ownBlock = some g) := fun hr hv g e z => by
    rcases z with (z | z) | z | z
    · subst z
      exact own_ne_blk hr h.ol.blk (by decide) e
    · exact own_ne hr h.ol.row (by decide) e z
    · exact hv g e z
    · exact own_ne hr h.rB (by decide) e z
  have keep : ∀ {v : Value} {L : List Sp}, Row X v L → (∀ g, v.ownBlock = some g → ¬ V g) → Row Y v L := fun hr hv => own_kept hr fun g e => hk.block g (row_lt hr g e) (nS hr hv g e)
  have nV' : ∀ {v : Value} {L : List Sp}, Row X v L → (∀ g, v.ownBlock = some g → ¬ V g) → ∀ g, v.ownBlock = some g → ¬ V' g := fun hr hv g e z => by
    rcases hq g (.inr z) with z | z
    · exact nS hr hv g e z
    · have := row_lt hr g e; omega
  refine ⟨rfl, _, ⟨vl', vb, B, S, va, vL, wa, wL, V', es', hO, hr, hB, nB, keep h.ra h.va_, keep h.rL fun g e => (h.vL_ g e).1, keep h.qa h.wa_, keep h.qL h.wL_, h.nA, h.nL, by have := h.n; omega, hsz, fun g e z => ?_, nV' h.ra h.va_, fun g e => ⟨nV' h.rL (fun g e => (h.vL_ g e).1) g e, (h.vL_ g e).2⟩, nV' h.qa h.wa_, nV' h.qL h.wL_, fun g => Iff.rfl⟩, fun g q => ?_, hk.mono fun g _ q => sub g q⟩
  · rcases hq g (.inr z) with z | z
    · exact nb g e (sub g z)
    · have := (World.ownsRow.lt hb g e).2; omega
  · have hq' : Om ob vl' g ∨ V' g → Q g ∨ vb.ownBlock = some g ∨ X.heap.size ≤ g := fun z => by
      rcases hq g z with z | z
      · exact .inl (sub g z)
      · exact .inr (.inr z)
    rcases q with q | q | q | q
    · exact hq' (.inl q)
    · exact hq' (.inr q)
    · exact .inr (.inl q)
    · exact .inl ((h.q g).2 (.inr (.inr (.inr q))))
end
end Go.Proofs.Ytdalekjpjnhboaa

namespace Go.Proofs.Ytdalekjpjnhboaa
open Go.RowKit
set_option linter.unusedVariables false
set_option maxHeartbeats 1000000
set_option maxRecDepth 100000

section
variable {X Y : World} {ob N : Nat} {Q D : Nat → Prop}

theorem alike_same {w : World} {S : Sd} {va vl va0 vl0 : Value} (ha : Row w va S.A) (hl : Row w vl S.L) (ha0 : Row w va0 S.A) (hl0 : Row w vl0 S.L) (n1 : S.A.length ≤ 1000000) (n2 : S.L.length ≤ 1000000) :
    Calls Try.prog 24 #[.agg (viewC S va vl), .agg (viewC S va0 vl0)] w (YesP w) := by
  refine (alike15 ha hl ha0 hl0 n1 n2 n1 n2).mono ?_
  rintro e W ⟨r, rfl, h1, h2⟩
  rw [h1 rfl]
  exact ⟨rfl, h2⟩

theorem OW.viewed (h : OW X ob Q N) (hN : N + 4 ≤ 100000000) {T : Sd} {na nl oa ol : Value} (h1 : Row X na T.A) (h2 : Row X nl T.L) (h3 : Row X oa T.A) (h4 : Row X ol T.L) (nA : T.A.length ≤ 1000000) (nL : T.L.length ≤ 1000000)
    (n1 : ∀ g, na.ownBlock = some g → ¬ Q g) (n2 : ∀ g, nl.ownBlock = some g → ¬ Q g ∧ na.ownBlock ≠ some g) (n3 : ∀ g, oa.ownBlock = some g → ¬ Q g) (n4 : ∀ g, ol.ownBlock = some g → ¬ Q g) :
    Calls Try.prog 11 #[ptr ob, .agg (viewC T na nl), .agg (viewC T oa ol)] X fun e Y => e = .returned (.bool true) ∧ OwP X ob Q (fun g => na.ownBlock = some g ∨ nl.ownBlock = some g ∨ oa.ownBlock = some g ∨ ol.ownBlock = some g) (N + 4) Y := by
  obtain ⟨vl, vB, H, S, va, vL, wa, wL, V, es, h⟩ := h
  have sub : ∀ g, Om ob vl g ∨ V g ∨ va.ownBlock = some g ∨ vL.ownBlock = some g → Q g := fun g q => (h.q g).2 (by
    rcases q with q | q | q | q
    · exact .inl q
    · exact .inr (.inl q)
    · exact .inr (.inr (.inr (.inl q)))
    · exact .inr (.inr (.inr (.inr (.inl q)))))
  have a1 : ∀ Z, X.grownBy Z none → Calls Try.prog 24 #[.agg (viewC S va vL), .agg (viewC S wa wL)] Z (YesP Z) := fun Z g => alike_same (h.ra.keep g) (h.rL.keep g) (h.qa.keep g) (h.qL.keep g) h.nA h.nL
  have a2 : ∀ Z, X.grownBy Z none → Calls Try.prog 24 #[.agg (viewC T na nl), .agg (viewC T oa ol)] Z (YesP Z) := fun Z g => alike_same (h1.keep g) (h2.keep g) (h3.keep g) (h4.keep g) nA nL
  have hcall : Calls Try.prog 11 #[ptr ob, .agg (viewC T na nl), .agg (viewC T oa ol)] X fun e Y => e = .returned (.bool true) ∧ ViewedP 0 X ob vl V es va vL (vB :: .string (strOfNums H) :: ((viewC T na nl).toList ++ (viewC T oa ol).toList)) Y := by
    obtain ⟨x1, x2, e1, -⟩ := h.ra.shape
    obtain ⟨x3, x4, e2, -⟩ := h.rL.shape
    obtain ⟨x5, x6, e3, -⟩ := h.qa.shape
    obtain ⟨x7, x8, e4, -⟩ := h.qL.shape
    obtain ⟨y1, y2, f1, -⟩ := h1.shape
    obtain ⟨y3, y4, f2, -⟩ := h2.shape
    obtain ⟨y5, y6, f3, -⟩ := h3.shape
    obtain ⟨y7, y8, f4, -⟩ := h4.shape
    subst e1 e2 e3 e4 f1 f2 f3 f4
    exact viewed_any h.ol (Nat.zero_le _) h.ra h.rL h.nA h.nL (by have := h.n; omega) h.sz h.va_ h.vL_ a1 a2
  refine hcall.mono ?_
  rintro e Y ⟨rfl, vl', V', es', hO, hlen, hsz, hk, hq⟩
  have keep : ∀ {v : Value} {L : List Sp}, Row X v L → (∀ g, v.ownBlock = some g → ¬ Q g) → Row Y v L := fun hr hv => own_kept hr fun g e => hk.block g (row_lt hr g e) fun z => hv g e (sub g z)
  have nV' : ∀ {v : Value} {L : List Sp}, Row X v L → (∀ g, v.ownBlock = some g → ¬ Q g) → ∀ g, v.ownBlock = some g → ¬ V' g := fun hr hv g e z => by
    rcases hq g (.inr z) with z | z
    · exact hv g e (sub g z)
    · have := row_lt hr g e; omega
  have nB : ∀ g, vB.ownBlock = some g → ¬ (Om ob vl g ∨ V g ∨ va.ownBlock = some g ∨ vL.ownBlock = some g) := fun g e z => by
    rcases z with (z | z) | z | z | z
    · subst z
      exact own_ne_blk h.rB h.ol.blk (by decide) e
    · exact own_ne h.rB h.ol.row (by decide) e z
    · exact h.vB_ g e z
    · exact own_ne h.rB h.ra (by decide) e z
    · exact own_ne h.rB h.rL (by decide) e z
  refine ⟨rfl, _, ⟨vl', vB, H, T, na, nl, oa, ol, V', es', hO, h.rB.kept fun g e => hk.block g (World.ownsRow.lt h.rB g e).2 (nB g e), h.bH, h.nH, keep h1 n1, keep h2 fun g e => (n2 g e).1, keep h3 n3, keep h4 n4, nA, nL, by have := h.n; omega, hsz, fun g e z => ?_, nV' h1 n1, fun g e => ⟨nV' h2 (fun g e => (n2 g e).1) g e, (n2 g e).2⟩, nV' h3 n3, nV' h4 n4, fun g => Iff.rfl⟩, fun g q => ?_, hk.mono fun g _ q => sub g q⟩
  · rcases hq g (.inr z) with z | z
    · exact nB g e z
    · have := (World.ownsRow.lt h.rB g e).2; omega
  · have hq' : Om ob vl' g ∨ V' g → Q g ∨ (na.ownBlock = some g ∨ nl.ownBlock = some g ∨ oa.ownBlock = some g ∨ ol.ownBlock = some g) ∨ X.heap.size ≤ g := fun z => by
      rcases hq g z with z | z
      · exact .inl (sub g z)
      · exact .inr (.inr z)
    rcases q with q | q | q | q
    · exact hq' (.inl q)
    · exact hq' (.inr q)
    · exact .inl ((h.q g).2 (.inr (.inr (.inl q))))
    · exact .inr (.inl q)
end
end Go.Proofs.Ytdalekjpjnhboaa

namespace Go.Proofs.Ytdalekjpjnhboaa
open Go.RowKit
set_option linter.unusedVariables false
set_option maxHeartbeats 1000000
set_option maxRecDepth 100000

/-- A pair; P: its blocks. -/
structure PRs (X : World) (b rb : Nat) (P : Nat → Prop) (S : Sd) (M : Nat → Prop) (ba bl : Nat) (vh vt vi : Value) : Prop where
  at_ : At X M b ba bl vh X S
  rs : RS 0 X rb vt vi S
  ok : SdOk S
  st : StOk S
  dis : ∀ g, M g → ¬ Rm rb vt vi g
  lt : ∀ g, M g → g < X.heap.size
  p : ∀ g, P g ↔ (M g ∨ Rm rb vt vi g)
def PR (X : World) (b rb : Nat) (P : Nat → Prop) (S : Sd) : Prop := ∃ M ba bl vh vt vi, PRs X b rb P S M ba bl vh vt vi

section
variable {X Y : World} {b rb : Nat} {P D : Nat → Prop} {S : Sd}
theorem PR.lt (h : PR X b rb P S) : ∀ g, P g → g < X.heap.size := fun g q => by
  obtain ⟨M, ba, bl, vh, vt, vi, h⟩ := h
  rcases (h.p g).1 q with q | q
  · exact h.lt g q
  · exact (RF.lt h.rs g q).2
/-- Other blocks are written. -/
theorem PR.kp (h : PR X b rb P S) (k : Kp D X Y) (hd : ∀ g, P g → ¬ D g) : PR Y b rb P S := by
  obtain ⟨M, ba, bl, vh, vt, vi, h⟩ := h
  exact ⟨M, ba, bl, vh, vt, vi, h.at_.keep k fun g q => hd g ((h.p g).2 (.inl q)), RF.kp h.rs k fun g q => hd g ((h.p g).2 (.inr q)), h.ok, h.st, h.dis, fun g q => Nat.lt_of_lt_of_le (h.lt g q) k.size, h.p⟩
end
end Go.Proofs.Ytdalekjpjnhboaa
