/- hold, piece. -/
import Derived.Test.YtdalekjpjnhboaaS5R
namespace Go.Proofs.Ytdalekjpjnhboaa
open Go.RowKit
set_option linter.unusedVariables false
set_option maxHeartbeats 1000000
set_option maxRecDepth 100000

section
variable {w W W' : World} {M : Nat → Prop} {b ba bl : Nat} {vh : Value} {S S' : Sd}

theorem kp_far {g : Nat} (h : Kp M w W) (k : W.grownBy W' (some g)) (hg : M g ∨ w.heap.size ≤ g) : Kp M w W' :=
  ⟨k.os.trans h.os, k.tape.trans h.tape, k.output.trans h.output, Nat.le_trans h.size k.size, fun x hx hn => by
    rw [k.block x (Nat.lt_of_lt_of_le hx h.size) (fun e => by cases e; exact hn (or_lt hg hx))]
    exact h.block x hx hn⟩

/-- The ring's bytes change. -/
theorem At.write {g c : Nat} {cs p : List Int} (h : At w M b ba bl (.slice (some ⟨g, 0, none⟩) c c) W S) (hc : S.cap.toNat = c) (k : W.grownBy W' (some g)) (hb : Blk W' g (by8 cs) 5) (hl : cs.length = c) (hcs : ∀ x ∈ cs, IsB x) (hp : ∀ x ∈ p, IsB x)
    (hx : ∀ x : Nat, S.base ≤ x → x < (S.T ++ p).length → cs[x % c]? = (S.T ++ p)[x]?) : At w M b ba bl (.slice (some ⟨g, 0, none⟩) c c) (W'.setCell ⟨b, 2, none⟩ (.int .i64 (wr (writeG S p)))) (writeG S p) := by
  obtain ⟨va, vl, s1, s2, d, m1, m2⟩ := h.sets
  have ho : (Value.slice (some ⟨g, 0, none⟩) c c).ownBlock = some g := rfl
  have hgb : ∀ {j : Nat} {t : TypeId} {x : Array Value}, W.heap[j]? = some (.cells x t (0, 0)) → t ≠ 5 → j ≠ g := fun hj ht e => by
    have := h.ring.ne_blk (k := g) (e ▸ hj) ht
    exact this ho
  have nb : ∀ {j : Nat}, j < W.heap.size → j ≠ g → W'.heap[j]? = W.heap[j]? := fun hj hn => k.block _ hj (by simp; exact hn)
  have hbW : Blk W' b (sdc ba bl (.slice (some ⟨g, 0, none⟩) c c) S) 72 := (nb h.blk.lt (hgb h.blk (by decide))).trans h.blk
  have rows : ∀ {v : Value} {L : List Sp}, Row W v L → ∀ j, v.ownBlock = some j → W'.heap[j]? = W.heap[j]? := fun {v L} hr j hj => nb (row_lt hr j hj) (fun e => by
    rcases Row.at hr with ⟨rfl, -⟩ | ⟨g', c', sp, rfl, hR⟩
    · cases hj
    · cases hj
      exact hgb hR.1 (by decide) e)
  have s1' : SetAt W' ba 0 va S.A := setAt_kept s1 (nb (setAt_lt s1) (hgb s1.blk (by decide))) (rows s1.row)
  have s2' : SetAt W' bl 0 vl S.L := setAt_kept s2 (nb (setAt_lt s2) (hgb s2.blk (by decide))) (rows s2.row)
  have hbg : g ≠ b := (hgb h.blk (by decide)).symm
  refine ⟨(kp_far h.kp k (h.mh g ho)).set b 2 _ (or_lt h.mb), by have := hbW.setC 2 (.int .i64 (wr (writeG S p))); exact this, sets_put hbW ⟨va, vl, s1', s2', d, m1, m2⟩, .inr ⟨g, cs, by show _ = Value.slice _ S.cap.toNat S.cap.toNat; rw [hc], hb.setO b 2 _ hbg.symm, by show _ = S.cap.toNat; rw [hc]; exact hl, hcs, fun x h1 h2 => ?_⟩, h.ne, h.mb, h.ma, h.ml, h.mh, fun x hx' => ?_⟩
  · show cs[x % S.cap.toNat]? = _
    rw [hc]
    exact hx x h1 h2
  · rcases List.mem_append.1 hx' with q | q
    · exact h.tb x q
    · exact hp x q
end

theorem Rd.cell {w : World} {b off : Nat} {l : List Int} (h : Rd w (some ⟨b, off, none⟩) l) {j : Nat} {x : Int} (hj : l[j]? = some x) : w.cell? ⟨b, off + j, none⟩ = some (.int .u8 x) := by
  have hlt := (List.getElem?_eq_some_iff.1 hj).1
  obtain ⟨b', off', e, hc⟩ := h.2 (fun e => by rw [e] at hlt; simp at hlt)
  cases e
  rw [hc j hlt]
  simp [List.getD, hj]
theorem Rd.grow {w W : World} {a : Option Addr} {l : List Int} (h : Rd w a l) (g : w.grownBy W none) : Rd W a l := ⟨h.1, fun hne => by
  obtain ⟨b, off, e, hc⟩ := h.2 hne
  exact ⟨b, off, e, fun i hi => cell_grown (hc i hi) g⟩⟩

theorem gr_drew {w w' : World} {r : Option Nat} (h : w.drew.grownBy w' r) : w.grownBy w' r := ⟨h.os, h.tape, h.output, h.size, h.block⟩
theorem gr_far {a b c : World} {r : Option Nat} (h : a.grownBy b r) (k : b.grownBy c r) : a.grownBy c r := ⟨k.os.trans h.os, k.tape.trans h.tape, k.output.trans h.output, Nat.le_trans h.size k.size, fun i hi hn => (k.block i (Nat.lt_of_lt_of_le hi h.size) hn).trans (h.block i hi hn)⟩
theorem eqnil8 (W : World) (a : Option Addr) (n c : Nat) : (binOp .eql 33 (.slice a n c) (.slice none 0 0)).run Try.prog W = .ok (.bool a.isNone) W := Lib.run_eql_slice_nil W _ _ a n c 0 0 Try.underlying33

/-- Bytes go into the ring (which may have to be made first). -/
theorem hold_ring {w W0 W : World} {v0 : Value} {M : Nat → Prop} {b ba bl g c : Nat} {S : Sd} (hstart : (v0 = .slice (some ⟨g, 0, none⟩) c c ∧ W0 = W) ∨ (v0 = nilS ∧ g = W0.heap.size ∧ W = (W0.alloc (.cells (by8 (List.replicate c 0)) 5)).setCell ⟨b, 1, none⟩ (.slice (some ⟨g, 0, none⟩) c c) ∧ ∃ S0, Blk W0 b (sdc ba bl nilS S0) 72 ∧ S0.cap = S.cap)) (h : At w M b ba bl (.slice (some ⟨g, 0, none⟩) c c) W S) (hok : SdOk S) (hc : S.cap = (c : Int)) (pb poff n pc : Nat) (p : List Int) (hp : Rd W (some ⟨pb, poff, none⟩) p) (hn : p.length = n) (hn0 : 0 < n) (hpc : n ≤ pc ∧ pc ≤ 9223372036854775807) (hpg : pb ≠ g) (hfit : wr S - S.base + n ≤ S.cap) (hbig : wr S ≤ 1152921504606846976) :
    Calls Try.prog 45 #[ptr b, .slice (some ⟨pb, poff, none⟩) n pc] W0 fun e W' => e = .returned (.tuple #[]) ∧ At w M b ba bl (.slice (some ⟨g, 0, none⟩) c c) W' (writeG S p) := by
  obtain ⟨c0, c1, c2, c3, c4, c5, c6, c7, c8, c9⟩ := h.cells
  have hcap := hok.cap
  have hb0 := hok.b0; have hbs := hok.bs; have hsw := hok.sw
  have hcn : S.cap.toNat = c := by omega
  obtain ⟨cs, hgB, hcl, hcb, hcx⟩ : ∃ cs, Blk W g (by8 cs) 5 ∧ cs.length = c ∧ (∀ x ∈ cs, IsB x) ∧ ∀ x : Nat, S.base ≤ x → x < S.T.length → cs[x % c]? = S.T[x]? := by
    rcases h.ring with ⟨e, -⟩ | ⟨g', cs, e, q1, q2, q3, q4⟩
    · cases e
    · injection e with e1 e2 e3
      injection e1 with e1
      injection e1 with e1
      subst e1
      rw [hcn] at q2 q4
      exact ⟨cs, q1, q2, q3, q4⟩
  have hc1 : 1 ≤ c := by omega
  obtain ⟨k, hk⟩ : ∃ k, k = S.T.length % c := ⟨_, rfl⟩
  have hkc : k < c := by rw [hk]; exact Nat.mod_lt _ (by omega)
  have hnc : n ≤ c := by omega
  obtain ⟨n1, hn1⟩ : ∃ n1, n1 = min n (c - k) := ⟨_, rfl⟩
  have hmod : Int.tmod (wr S) S.cap = (k : Int) := by
    rw [hc, hk]; unfold wr
    rw [← Int.ofNat_tmod]
  have d1 : ring1 cs p k n1 = cs.take k ++ (p.take n1 ++ cs.drop (k + n1)) := rfl
  have hr1 : ∀ X ty, W.grownBy X none → (Builtin.copy_ #[33, 33] ty #[.slice (some ⟨g, k, none⟩) (c - k) (c - k), .slice (some ⟨pb, poff, none⟩) n pc]).run Try.prog X = .ok (goInt n1) (X.setRow g (by8 (ring1 cs p k n1))) := fun X ty hX => by
    have hsp : cs = cs.take k ++ ((cs.drop k).take n1 ++ cs.drop (k + n1)) := by
      rw [← List.drop_drop, List.take_append_drop, List.take_append_drop]
    have hB : Blk X g (by8 (cs.take k ++ ((cs.drop k).take n1 ++ cs.drop (k + n1)))) 5 := by rw [← hsp]; exact hgB.grown hX
    have := run_copy8 X ty g k (c - k) (c - k) ⟨pb, poff, none⟩ n pc (cs.take k) ((cs.drop k).take n1) (cs.drop (k + n1)) (p.take n1) hB (by simp; omega) (by simp; omega) (by rw [show Nat.min n (c - k) = n1 from hn1.symm]; simp; omega) (fun j x hj => by
      rw [Addr.add_lit]
      exact (hp.grow hX).cell (by rw [List.getElem?_take] at hj; split at hj; exact hj; cases hj))
    rw [show Nat.min n (c - k) = n1 from hn1.symm] at this
    exact this
  have hl1 : (ring1 cs p k n1).length = c := ring1_len hcl (by omega) (by omega)
  have hr2 : ∀ X ty a' (pc' : Nat), Blk X g (by8 (ring1 cs p k n1)) 5 → (∀ j x, (p.drop n1)[j]? = some x → X.cell? (a'.add j) = some (.int .u8 x)) → (Builtin.copy_ #[33, 33] ty #[.slice (some ⟨g, 0, none⟩) c c, .slice (some a') (n - n1) pc']).run Try.prog X = .ok (goInt (n - n1 : Nat)) (X.setRow g (by8 (ring2 cs p k n1))) := fun X ty a' pc' hX hs => by
    have hmin : Nat.min (n - n1) c = n - n1 := Nat.min_eq_left (by omega)
    have := run_copy8 X ty g 0 c c a' (n - n1) pc' [] ((ring1 cs p k n1).take (n - n1)) ((ring1 cs p k n1).drop (n - n1)) (p.drop n1) (by simpa using hX) rfl (by simp; omega) (by rw [hmin]; simp; omega) hs
    rw [hmin] at this
    have e2 : ring2 cs p k n1 = p.drop n1 ++ (ring1 cs p k n1).drop (n - n1) := by unfold ring2; rw [hn]
    rw [e2]
    exact this
  have fin : Hid (∀ X, W.grownBy X (some g) → Blk X g (by8 (ring2 cs p k n1)) 5 → ∀ z, z = wr S + n → At w M b ba bl (.slice (some ⟨g, 0, none⟩) c c) (X.setCell ⟨b, 2, none⟩ (.int .i64 z)) (writeG S p)) := fun X hX hB z hz => by
    have ez : z = wr (writeG S p) := by rw [hz]; unfold wr writeG; simp; omega
    rw [ez]
    refine h.write hcn hX hB (ring2_len hcl (by omega) (by omega) (by omega)) (fun x hx => ?_) hp.1 (fun x h1 h2 => ?_)
    · rcases ring2_mem hx with q | q
      · exact hcb x q
      · exact hp.1 x q
    · have hw : wr S = (S.T.length : Int) := rfl
      have := ring_write (c := c) (base := S.base.toNat) (cs := cs) (T := S.T) (p := p) hcl (by omega) (by omega) (by omega) (fun y h3 h4 => hcx y (by omega) h4) x (by omega) h2
      rw [← hk, hn, ← hn1] at this
      exact this
  have hgb : g ≠ b := fun e => by
    have := h.blk
    rw [← e] at this
    have e2 := hgB.symm.trans this
    injection e2 with e2
    injection e2 with _ e2
    exact absurd e2 (by decide)
  have HP := hide hp
  have HB := hide hgB
  have hn1a : n1 ≤ n := by omega
  have hn1b : n1 ≤ c - k := by omega
  have e0 : ((n : Int) == 0) = false := beq_no (by omega)
  have e1 : ¬ (n : Int) = 0 := by omega
  have e2 : ¬ n = 0 := by omega
  have hck : ¬ c = k := by omega
  have hc00 : ¬ c = 0 := by omega
  have hc65 : c ≤ 65536 := by omega
  have hkc2 : k ≤ c := by omega
  replace hk := hide hk
  replace hn1 := hide hn1
  replace hn := hide hn
  replace hfit := hide hfit
  have hC0 : ¬ (c : Int) = 0 := by omega
  have wz : IntKind.i64.wrap (wr S + n) = wr S + n := by rw [IntKind.wrap_i64]; omega
  rw [hc] at c0 hmod
  have t2 : ∀ X, W.grownBy X (some g) → X.cell? ⟨b, 2, none⟩ = some (.int .i64 (wr S)) ∧ X.frozen? ⟨b, 2, none⟩ = false ∧ X.cell? ⟨b, 1, none⟩ = some (.slice (some ⟨g, 0, none⟩) c c) := fun X hX => by
    have hb := h.blk.far hX hgb.symm
    exact ⟨hb.cell 2 _ rfl, hb.thaw 2, hb.cell 1 _ rfl⟩
  have T2 := hide t2
  clear t2 h hok hcap hb0 hbs hsw hcl hcb hcx hl1 d1 hp hgB hcn
  generalize wr S = t at *
  have hq0 : ∀ X, (binOp .eql 33 (.slice (some ⟨g, 0, none⟩) c c) (.slice none 0 0)).run Try.prog X = .ok (.bool false) X := fun X => eqnil8 X _ _ _
  rcases hstart with hs | hs
  case' inr =>
    obtain ⟨rfl, hgw, hW, S0, hB0, hc0'⟩ := hs
    have x0 : W0.cell? ⟨b, 0, none⟩ = some (.int .i64 S0.cap) := hB0.cell 0 _ rfl
    have x1 : W0.cell? ⟨b, 1, none⟩ = some nilS := hB0.cell 1 _ rfl
    have hB1 := hB0.alloc (.cells (by8 (List.replicate c 0)) 5)
    have x2 : (W0.alloc (.cells (by8 (List.replicate c 0)) 5)).cell? ⟨b, 1, none⟩ = some nilS := hB1.cell 1 _ rfl
    have x3 := hB1.thaw 1
    rw [hc0', hc] at x0
    have hmk := fun X => mk_zeros c (by omega) X
    have hq1 : ∀ X, (binOp .eql 33 (.slice none 0 0) (.slice none 0 0)).run Try.prog X = .ok (.bool true) X := fun X => eqnil8 X _ _ _
    clear hB0 hB1 hc0'
    rw [hgw] at hW
    replace hW := hide hW
    replace hgw := hide hgw
    go_enter Try.func45, Try.ntmps45
    go_wp2_with (at_make; refine wpList_make_run _ rfl 33 _ _ rfl _ _ rfl rfl (hmk _) ?_)
    rw [← unhide hW]
    clear x0 x1 x2 x3
    go_region_law (refine step_copy_run rfl _ _ 33 33 rfl _ _ (by simp [Act.eval, Act.put]) (by simp [Act.eval, Act.put]) (hr1 _ _ (by first | exact grown_self _ _ | exact grown_drew' (grown_self _ _))) ?_)
  case' inl =>
    obtain ⟨rfl, hWW⟩ := hs
    subst W0
    go_enter Try.func45, Try.ntmps45
    go_wp2
    go_region_law (refine step_copy_run rfl _ _ 33 33 rfl _ _ (by simp [Act.eval, Act.put]) (by simp [Act.eval, Act.put]) (hr1 _ _ (by first | exact grown_self _ _ | exact grown_drew' (grown_self _ _))) ?_)
  all_goals simp only [List.getElem_toArray, List.getElem_cons_succ, List.getElem_cons_zero]
  all_goals
    have gW : W.grownBy (W.drew.setRow g (by8 (ring1 cs p k n1))) (some g) := gr_drew (grown_setRow W.drew g _)
    have bW : Blk (W.drew.setRow g (by8 (ring1 cs p k n1))) g (by8 (ring1 cs p k n1)) 5 := (unhide HB).drew.row _
    have cW : Hid (∀ j x, (p.drop n1)[j]? = some x → (W.drew.setRow g (by8 (ring1 cs p k n1))).cell? ⟨pb, poff + n1 + j, none⟩ = some (.int .u8 x)) := fun j x hj => by
      rw [List.getElem?_drop] at hj
      have := (unhide HP).cell hj
      rw [Nat.add_assoc, World.cell?_of_block (w := W) (w' := W.drew.setRow g (by8 (ring1 cs p k n1))) (gW.block _ (World.block_lt_of_cell? _ _ this) (by simp; exact hpg))]
      exact this
    obtain ⟨y1, y2, y3⟩ := unhide T2 _ gW
    generalize hW1 : W.drew.setRow g (by8 (ring1 cs p k n1)) = W1 at *
    have gW2 : W.grownBy (W1.drew.setRow g (by8 (ring2 cs p k n1))) (some g) := gr_far gW (gr_drew (grown_setRow W1.drew g _))
    have bW2 : Blk (W1.drew.setRow g (by8 (ring2 cs p k n1))) g (by8 (ring2 cs p k n1)) 5 := bW.drew.row _
    have FF := hide (unhide fin _ gW2 bW2 _ rfl)
    obtain ⟨z1, z2, z3⟩ := unhide T2 _ gW2
    have BW := hide bW
    clear gW bW hW1 gW2 bW2
    by_cases hpe : pc = n1
    · have hr3 := fun ty => hr2 W1.drew ty ⟨pb, poff, none⟩ 0 (unhide BW).drew (fun j x hj => by
        have hl := (List.getElem?_eq_some_iff.1 hj).1
        rw [List.length_drop, unhide hn] at hl
        omega)
      go_wp2
      go_region_law (refine step_copy_run rfl _ _ 33 33 rfl _ _ (by simp [Act.eval]) (by simp [Act.eval]) (hr3 _) ?_)
      all_goals go_wp2
      all_goals refine bodyPost_end (results_none rfl _ _ _) rfl ?_
      all_goals exact ⟨rfl, unhide FF⟩
    · have hr3 := fun ty => hr2 W1.drew ty ⟨pb, poff + n1, none⟩ (pc - n1) (unhide BW).drew (fun j x hj => by rw [Addr.add_lit]; exact unhide cW j x hj)
      go_wp2
      go_region_law (refine step_copy_run rfl _ _ 33 33 rfl _ _ (by simp [Act.eval]) (by simp [Act.eval]) (hr3 _) ?_)
      all_goals go_wp2
      all_goals refine bodyPost_end (results_none rfl _ _ _) rfl ?_
      all_goals exact ⟨rfl, unhide FF⟩
end Go.Proofs.Ytdalekjpjnhboaa
