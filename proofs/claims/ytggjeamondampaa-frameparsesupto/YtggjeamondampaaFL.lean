/- The reader: bytes. -/
import Derived.Test.YtggjeamondampaaFK
import Derived.Deep.RegionHeldLaw
namespace Go.Proofs.Ytggjeamondampaa
open Go.RowKit
set_option linter.unusedVariables false
set_option maxRecDepth 100000
set_option maxHeartbeats 1000000

theorem step_append_run {P : Program} {ops : Array Oper} {o : Oper} {a : Act} {w : World} {K : Act → World → Prop} {Q : Exit → Act → World → Prop} {E : Prop}
    (hg : o.guard = none) (d x : Operand) (dT sT : TypeId) (hop : o.op = Op.call { callee := Callee.builtin Builtin.append, args := #[d, x], argTypes := #[dT, sT] })
    (v u : Value) (hd : a.eval d = v) (hx : a.eval x = u) {v' : Value} {w' : World} (hr : (Builtin.append_ #[dT, sT] o.type #[v, u]).run P w = .ok v' w') (hK : K (a.put o.dst v') w') :
    if Region.wanted o (yielded ops a.tmps) = true then Oper.wp P o a w K Q else E := by
  have hw : Region.wanted o (yielded ops a.tmps) = true := by simp [Region.wanted, hg]
  rw [if_pos hw]
  unfold Oper.wp
  simp [execOp, hop, resolve, invoke, builtin, hd, hx, hr, Result.andThen]
  exact hK

/-- New bytes in memory, made since so many blocks were there. -/
def OwnB (base : Nat) (w : World) (v : Value) (d : List Int) : Prop := w.ownsRow base 5 1 v d.length (d.map (Value.int .u8))

theorem OwnB.mono {base base' : Nat} {w : World} {v : Value} {d : List Int} (h : OwnB base w v d) (hb : base' ≤ base) : OwnB base' w v d := by
  obtain ⟨h1, h2⟩ := h
  refine ⟨h1, ?_⟩
  rcases h2 with h2 | ⟨g, cap, cur, e1, e2, e3⟩
  · exact .inl h2
  · exact .inr ⟨g, cap, cur, e1, Nat.le_trans hb e2, e3⟩

theorem OwnB.shape {base : Nat} {w : World} {v : Value} {d : List Int} (h : OwnB base w v d) : ∃ a c, v = .slice a d.length c := by
  rcases h.2 with ⟨h1, h2⟩ | ⟨g, cap, cur, e1, -⟩
  · exact ⟨none, 0, by rw [h1, h2]⟩
  · exact ⟨_, _, e1⟩

theorem app_none (w : World) (a : Option Addr) (c : Nat) (ty : TypeId) : (Builtin.append_ #[22, 22] ty #[.slice none 0 0, .slice a 0 c]).run Try.prog w = .ok (.slice none 0 0) w := by
  obtain ⟨inf, hi0, hz0, hz1, hz2⟩ := info_parts Try.info5
  cases a <;> simp [Builtin.append_, run_underlying Try.underlying22, sizeOf, typeInfo, hi0, Builtin.lenOf, Builtin.firstCells, loadCells, loadCellsFrom]

theorem app_bytes (w : World) (b off m c : Nat) (d : List Int) (hd : d.length = m) (hm : 0 < m) (hb : m ≤ 140737488355328) (hc : ∀ i, i < m → w.cell? ⟨b, off + i, none⟩ = some (.int .u8 (d.getD i 0))) :
    ∃ v' w', (∀ ty, (Builtin.append_ #[22, 22] ty #[.slice none 0 0, .slice (some ⟨b, off, none⟩) m c]).run Try.prog w = .ok v' w') ∧ OwnB w.heap.size w' v' d ∧ w.grownBy w' none := by
  obtain ⟨inf, hi0, hz0, hz1, hz2⟩ := info_parts Try.info5
  have key := fun ty => app_keep (P := Try.prog) w w.heap.size 22 ty 5 inf (.int .u8 0) 1 Try.underlying22 hi0 hz0 hz1 hz2 rfl (.slice none 0 0) 0 [] (World.ownsRow_nil _ _ _ _) ⟨b, off, none⟩ m c (d.map (Value.int .u8)) (by simp [hd])
    (fun j u hu => by
      have hj : j < d.length := by
        by_cases c : j < d.length
        · exact c
        · simp [c] at hu
      have := hc j (by omega)
      simp [hj] at hu
      have hadd : (⟨b, off, none⟩ : Addr).add j = ⟨b, off + j, none⟩ := by simp [Addr.add]
      rw [hadd, this, ← hu]
      simp [List.getD, hj])
    (fun u hu => by simp at hu; obtain ⟨x, -, rfl⟩ := hu; rfl) hm (by unfold maxLen; omega) (by omega) (Nat.le_refl _)
  obtain ⟨v', w', hr, ho, hmv, -⟩ := key 0
  refine ⟨v', w', fun ty => ?_, ?_, ?_⟩
  · obtain ⟨v2, w2, hr2, -, -, -⟩ := key ty
    have : (Builtin.append_ #[22, 22] ty #[.slice none 0 0, .slice (some ⟨b, off, none⟩) m c]).run Try.prog w = (Builtin.append_ #[22, 22] 0 #[.slice none 0 0, .slice (some ⟨b, off, none⟩) m c]).run Try.prog w := rfl
    rw [this]; exact hr
  · unfold OwnB; simpa [hd] using ho
  · rcases hmv with ⟨-, h⟩ | ⟨-, h, -⟩
    · exact h
    · exact h

/-- What bytes tells. -/
def BytesPost (g : Nat) (a : Option Addr) (l : List Int) (c k : Nat) (y off n : Int) (w : World) (e : Ending) (w' : World) : Prop :=
  (∃ d l1 v', bytesF off n (l.drop k) = .inl (d, l1) ∧ e = .returned v' ∧ OwnB w.heap.size w' v' d ∧ l1 = l.drop (l.length - l1.length) ∧ Rdg w' g a l c (l.length - l1.length) y ∧ w.grownBy w' (some g)) ∨ (∃ e', bytesF off n (l.drop k) = .inr e' ∧ Gave g (.slice a l.length c) e' w e w')

theorem Rdg.bytes {w : World} {g : Nat} {a : Option Addr} {l : List Int} {c k : Nat} {y : Int} (h : Rdg w g a l c k y) (hb : l.length ≤ 140737488355328) (off n : Int) (ho : 0 ≤ off ∧ off ≤ MAXN) (hn : 0 ≤ n ∧ n ≤ MAXN) :
    Calls Try.prog 92 #[.pointer (some ⟨g, 0, none⟩), .int .i64 off, .int .i64 n] w (BytesPost g a l c k y off n w) := by
  have hw1 : IntKind.i64.wrap (4611686018427387903 - off) = 4611686018427387903 - off := by rw [IntKind.wrap_i64]; unfold MAXN at ho; omega
  have hk := h.at_
  by_cases h1 : n > MAXN - off
  · have hr : bytesF off n (l.drop k) = .inr 42 := by unfold bytesF; rw [if_pos h1]
    have HR := hide hr
    have hup := h.up 42
    have hd : decide (4611686018427387903 - off < n) = true := decide_eq_true h1
    clear hr
    go_enter Try.func92, Try.ntmps92
    go_wp2_with fail
    refine hup.mono ?_
    rintro e W2 ⟨⟨pv, rfl⟩, hb, hg⟩
    go_wp2_with fail
    exact ⟨rfl, .inr ⟨42, unhide HR, ⟨_, rfl⟩, hb, hg⟩⟩
  · have hd : decide (4611686018427387903 - off < n) = false := decide_eq_false h1
    have c0 := h.blk.cell 0 (.slice a l.length c) rfl
    have c1 := h.blk.cell 1 (.int .i64 k) rfl
    have hw2 : IntKind.i64.wrap ((l.length : Int) - (k : Int)) = (l.length : Int) - (k : Int) := by rw [IntKind.wrap_i64]; omega
    by_cases h2 : n > ((l.drop k).length : Int)
    · have hr : bytesF off n (l.drop k) = .inr 40 := by unfold bytesF; rw [if_neg h1, if_pos h2]
      have HR := hide hr
      rw [List.length_drop] at h2
      have hd2 : decide ((l.length : Int) - (k : Int) < n) = true := decide_eq_true (by omega)
      have hlt : (l.length : Int) - (k : Int) < n := by omega
      have hup := fun q => (h.drewN q).up 40
      clear hr h2
      go_enter Try.func92, Try.ntmps92
      go_wp2_with fail
      go_quiet (fail)
      go_wp2_with fail
      refine (hup _).mono ?_
      rintro e W2 ⟨⟨pv, rfl⟩, hb, hg⟩
      go_wp2_with fail
      exact ⟨rfl, .inr ⟨40, unhide HR, ⟨_, rfl⟩, hb, (grown_drewS (World.grownBy.refl w (some g)) _).trans hg⟩⟩
    · obtain ⟨m, rfl⟩ := Int.eq_ofNat_of_zero_le hn.1
      rw [List.length_drop] at h2
      have hm : k + m ≤ l.length := by omega
      have hr : bytesF off m (l.drop k) = .inl ((l.drop k).take m, l.drop (k + m)) := by
        unfold bytesF
        rw [if_neg h1, if_neg (by rw [List.length_drop]; omega), Int.toNat_natCast, List.drop_drop]
      have hl1 : l.length - (l.drop (k + m)).length = k + m := by rw [List.length_drop]; omega
      have hdl : ((l.drop k).take m).length = m := by rw [List.length_take, List.length_drop]; omega
      have hd2 : decide ((l.length : Int) - (k : Int) < (m : Int)) = false := decide_eq_false (by omega)
      have hlt : ¬ (l.length : Int) - (k : Int) < (m : Int) := by omega
      have hw3 : IntKind.i64.wrap ((k : Int) + (m : Int)) = (k : Int) + (m : Int) := by rw [IntKind.wrap_i64]; omega
      have th := h.blk.thaws
      have FIN : Hid (∀ W v', OwnB w.heap.size W v' ((l.drop k).take m) → Rdg W g a l c (k + m) y → w.grownBy W (some g) → BytesPost g a l c k y off m w (.returned v') W) := fun W v' o1 r1 g1 =>
        .inl ⟨_, _, v', hr, rfl, o1, by rw [hl1], by rw [hl1]; exact r1, g1⟩
      have PUT := fun q => h.put q (k + m) hm
      have hcap := h.cap
      have hmax := h.max
      unfold maxLen at hmax
      have RD := hide h.rd
      have HH := hide h
      clear h2 hr hl1 hn h
      go_enter Try.func92, Try.ntmps92
      go_wp2_with fail
      go_quiet (fail)
      go_wp2_with fail
      have R := PUT nq
      have gW := grown_at (grown_any (grown_drewN (q := nq) (World.grownBy.refl w none)) g) 1 (.int .i64 ((k : Int) + (m : Int)))
      change Rdg ((w.drewN nq).setCell ⟨g, 1, none⟩ (.int .i64 ((k : Int) + (m : Int)))) g a l c (k + m) y at R
      generalize (w.drewN nq).setCell ⟨g, 1, none⟩ (.int .i64 ((k : Int) + (m : Int))) = W at *
      have d0 := R.blk.cell 0 (.slice a l.length c) rfl
      have d1 : W.cell? ⟨g, 1, none⟩ = some (.int .i64 ((k : Int) + (m : Int))) := R.blk.cell 1 _ rfl
      have i1 : (k : Int) ≤ (k : Int) + (m : Int) := by omega
      have i2 : (k : Int) + (m : Int) ≤ (c : Int) := by omega
      have i3 : k ≤ k + m := by omega
      have i4 : k + m ≤ c := by omega
      have RW := hide R; have GW := hide gW
      have gD : W.grownBy W.drew none := ⟨rfl, rfl, rfl, Nat.le_refl _, fun _ _ _ => rfl⟩
      clear c0 c1 th hd hd2 hlt hw1 hw2 hw3 PUT
      rcases Nat.eq_zero_or_pos m with hm0 | hpos
      · have hd0 : (l.drop k).take m = [] := by rw [hm0]; simp
        have o0 : OwnB w.heap.size W.drew (.slice none 0 0) ((l.drop k).take m) := by rw [hd0]; exact World.ownsRow_nil _ _ _ _
        have E := hide (unhide FIN W.drew (.slice none 0 0) o0 ((unhide RW).go (k + m) hm (grown_any gD g) (unhide RW).blk.drew) ((unhide GW).trans (grown_any gD g)))
        have hkm : ((k : Int) + (m : Int)).toNat - k = 0 := by omega
        have pl := R.pl
        clear R gW hdl FIN RW GW HH RD hk hm hb ho h1 hcap hmax
        cases a with
        | none =>
          generalize l.length = nl at *
          go_region_held_law (fun w' => w'.cell? ⟨g, 0, none⟩ = some (.slice none nl c) ∧ w'.cell? ⟨g, 1, none⟩ = some (.int .i64 ((k : Int) + (m : Int)))) (go_keep) (refine step_append_run rfl _ _ 22 22 rfl (.slice none 0 0) (.slice none 0 (c - k)) (by simp [Act.eval]) (by simp [Act.eval] <;> omega) (app_none _ _ _ _) ?_)
          simp only [List.getElem_toArray, List.getElem_cons_succ, List.getElem_cons_zero]
          go_wp2
          go_ret
          exact unhide E
        | some x =>
          obtain ⟨b, off', rfl⟩ := pl x rfl
          generalize l.length = nl at *
          by_cases hck : c = k
          · go_region_held_law (fun w' => w'.cell? ⟨g, 0, none⟩ = some (.slice (some ⟨b, off', none⟩) nl c) ∧ w'.cell? ⟨g, 1, none⟩ = some (.int .i64 ((k : Int) + (m : Int)))) (go_keep) (refine step_append_run rfl _ _ 22 22 rfl (.slice none 0 0) (.slice (some ⟨b, off', none⟩) 0 0) (by simp [Act.eval]) (by simp [Act.eval, hck] <;> omega) (app_none _ _ _ _) ?_)
            simp only [List.getElem_toArray, List.getElem_cons_succ, List.getElem_cons_zero]
            go_wp2
            go_ret
            exact unhide E
          · go_region_held_law (fun w' => w'.cell? ⟨g, 0, none⟩ = some (.slice (some ⟨b, off', none⟩) nl c) ∧ w'.cell? ⟨g, 1, none⟩ = some (.int .i64 ((k : Int) + (m : Int)))) (go_keep) (refine step_append_run rfl _ _ 22 22 rfl (.slice none 0 0) (.slice (some ⟨b, off' + k, none⟩) 0 (c - k)) (by simp [Act.eval]) (by simp [Act.eval] <;> omega) (app_none _ _ _ _) ?_)
            simp only [List.getElem_toArray, List.getElem_cons_succ, List.getElem_cons_zero]
            go_wp2
            go_ret
            exact unhide E
      · have hKl : k < l.length := by omega
        obtain ⟨b, off', rfl, hcs⟩ := R.rd.2 (fun e => by rw [e] at hKl; simp at hKl)
        obtain ⟨v7, W7, hr7, o7, g7⟩ := app_bytes W.drew b (off' + k) m (c - k) ((l.drop k).take m) hdl hpos (by omega) (fun i hi => by
          have := hcs (k + i) (by omega)
          have e : ((l.drop k).take m).getD i 0 = l.getD (k + i) 0 := by simp [List.getD, hi]
          rw [e, show off' + k + i = off' + (k + i) by omega]
          exact this)
        have hne : ¬ c = k := by omega
        have e0 := ((R.blk.drew).grown g7).cell 0 (.slice (some ⟨b, off', none⟩) l.length c) rfl
        have e1 : W7.cell? ⟨g, 1, none⟩ = some (.int .i64 ((k : Int) + (m : Int))) := ((R.blk.drew).grown g7).cell 1 _ rfl
        have E := hide (unhide FIN W7 v7 (o7.mono gW.size) ((unhide RW).go (k + m) hm (grown_any (gD.trans g7) g) (((unhide RW).blk.drew).grown g7)) ((unhide GW).trans (grown_any (gD.trans g7) g)))
        obtain ⟨a7, c7, rfl⟩ := o7.shape
        clear hcs R gW o7 g7 hdl FIN RW GW HH RD hk hm hb ho h1 hcap hmax hpos
        generalize ((l.drop k).take m).length = n7 at *
        generalize l.length = nl at *
        go_region_held_law (fun w' => w'.cell? ⟨g, 0, none⟩ = some (.slice (some ⟨b, off', none⟩) nl c) ∧ w'.cell? ⟨g, 1, none⟩ = some (.int .i64 ((k : Int) + (m : Int)))) (go_keep) (refine step_append_run rfl _ _ 22 22 rfl _ _ (by simp [Act.eval]) (by simp [Act.eval] <;> omega) (hr7 _) ?_)
        simp only [List.getElem_toArray, List.getElem_cons_succ, List.getElem_cons_zero]
        go_wp2
        go_ret
        exact unhide E

end Go.Proofs.Ytggjeamondampaa
