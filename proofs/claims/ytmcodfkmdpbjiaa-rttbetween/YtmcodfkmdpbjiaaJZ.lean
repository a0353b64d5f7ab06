/- samples. -/
import Derived.Test.YtmcodfkmdpbjiaaJY
import Derived.OwnWalkIn
namespace Go.Proofs.Ytmcodfkmdpbjiaa
open Go.RowKit
set_option linter.unusedVariables false
set_option maxRecDepth 100000
set_option maxHeartbeats 4000000

theorem wpList_append_run {P : Program} (w : World) {ops : Array Oper} {rest : List Oper} {o : Oper} {a : Act} {Q : Exit → Act → World → Prop} (hgd : o.guard = none) (d s : Operand) (t t' : TypeId)
    (ho : o.op = .call { callee := .builtin .append, args := #[d, s], argTypes := #[t, t'] }) (v u : Value) (hd : a.eval d = v) (hs : a.eval s = u) {v' : Value} {w' : World}
    (hr : (Builtin.append_ #[t, t'] o.type #[v, u]).run P w = .ok v' w') (h : wpList P ops Q rest (a.put o.dst v') w') : wpList P ops Q (o :: rest) a w :=
  wpList_plain hgd fun K hK => by
    unfold Oper.wp execOp
    simp only [ho, resolve, invoke, builtin, Sem.run_bind, Sem.run_pure, Result.andThen_ok, List.map_toArray, List.map_cons, List.map_nil, hd, hs, hr]
    exact hK _ _ h

theorem samples_any (a0 : Option Addr) (len cap : Nat) (ol : List OpE) (w W0 : World) (h : IsOps w a0 len cap ol) (b : Nat) (s0 : Es) (q : QE w W0 b s0) (hb : BI s0 []) :
    Calls Try.prog 19 #[ptr b, .slice a0 len cap] W0 fun e w' => ∃ a n c, e = .returned (.slice a n c) ∧ ∃ s, QE w w' b s ∧ ∃ T, RT w w' (.slice a n c) T ∧ BI s T ∧ T.length ≤ 4000 := by
  have HO := hide h
  have hl := h.hlen
  have hcap := h.hcap
  have lenI : ¬ (9223372036854775807 : Int) < (len : Int) := by omega
  have R0 : Hid (QE w W0 b s0 ∧ RT w W0 (.slice none 0 0) [] ∧ BI s0 [] ∧ (([] : List Int).length ≤ 0 ∧ ([] : List Int).length ≤ 4000)) := ⟨q, rt_nil _ _, hb, Nat.le_refl _, Nat.zero_le _⟩
  clear h q hb
  go_enter Try.func19, Try.ntmps19
  go_wp2_with fail
  go_loopw [5, 6] (fun l i wr => ∃ (k : Nat) (s : Es) (T : List Int) (ta : Option Addr) (tn tq : Nat), k ≤ len ∧ i = .int .i64 k ∧ l = .slice ta tn tq ∧ Hid (QE w wr b s ∧ RT w wr (.slice ta tn tq) T ∧ BI s T ∧ (T.length ≤ k ∧ T.length ≤ 4000))) (fun _ i _ => len - (intOf i).toNat)
  case atStart => exact ⟨0, _, _, _, _, _, Nat.zero_le _, rfl, rfl, R0⟩
  case round =>
    clear R0
    obtain ⟨k, s, T, ta, tn, tq, hk, rfl, rfl, H⟩ := hrel
    by_cases hlt : k < len ∧ k < 4000
    · obtain ⟨bo, off, rfl, hcs⟩ := (unhide HO).cell.resolve_left (by omega)
      have hx' : ol[k]? = some ol[k] := List.getElem?_eq_getElem _
      have hcx := hcs k _ hx'
      generalize ol[k] = y at *
      have gr := (unhide H).1.grown
      have c0 : wr.cell? ⟨bo, off + k * 5, none⟩ = some (.bool y.rs) := cell_grown (hcx 0 _ rfl) gr
      have c2 : wr.cell? ⟨bo, off + k * 5 + 2, none⟩ = some (.int .i64 y.now) := cell_grown (hcx 2 _ rfl) gr
      have c3 : wr.cell? ⟨bo, off + k * 5 + 3, none⟩ = some (.int .i64 y.latest) := cell_grown (hcx 3 _ rfl) gr
      have kn : (k : Int) < (len : Int) := by omega
      have k4 : (k : Int) < 4000 := by omega
      have HLT := hide hlt
      cases hr : y.rs with
      | true =>
        rw [hr] at c0
        have R : Hid (QE w wr b s ∧ RT w wr (.slice ta tn tq) T ∧ BI s T ∧ (T.length ≤ k + 1 ∧ T.length ≤ 4000)) := ⟨(unhide H).1, (unhide H).2.1, (unhide H).2.2.1, by have := (unhide H).2.2.2; omega⟩
        clear hcs hcx hx' gr hlt hk H
        go_wp2_with fail
        go_roundw
        case rel => exact ⟨k + 1, _, _, _, _, _, (unhide HLT).1, by go_num, rfl, R⟩
        case measure => have := unhide HLT; simp [intOf]; omega
      | false =>
        rw [hr] at c0
        have hi := into_any y.latest
        have SA := fun q => qe_sample ((unhide H).1.keep (drewN_grown wr q)) (unhide H).2.2.1.ok y.now y.latest 0
        have CC : Hid (∀ X s', QE w X b s' → X.cell? ⟨bo, off + k * 5 + 2, none⟩ = some (.int .i64 y.now) ∧ X.cell? ⟨bo, off + k * 5 + 3, none⟩ = some (.int .i64 y.latest)) := fun X s' hX => ⟨cell_grown (hcx 2 _ rfl) hX.grown, cell_grown (hcx 3 _ rfl) hX.grown⟩
        clear hcs hcx hx' gr hlt hk
        go_wp2_with fail
        refine (hi _).mono ?_
        rintro e X0 ⟨rfl, hX0⟩
        replace hX0 := hX0.symm
        subst hX0
        clear hi
        go_wp2_with fail
        go_region_held3 (fun X => X.cell? ⟨bo, off + k * 5 + 2, none⟩ = some (.int .i64 y.now) ∧ X.cell? ⟨bo, off + k * 5 + 3, none⟩ = some (.int .i64 y.latest)) (go_keep) (first | (go_at_call 14; refine (SA 1).mono ?_; rintro e W2 ⟨rfl, S2, G2⟩; have z2 := (unhide CC W2 _ S2).1; have z3 := (unhide CC W2 _ S2).2))
        obtain ⟨q0, r0, b0, t0⟩ := unhide H
        have r2 : RT w W2 (.slice ta tn tq) T := (r0.grown (drewN_grown wr 1)).samp (q0.keep (drewN_grown wr 1)).at_ G2
        have b2 := bi_step b0 y.now y.latest
        have tn' : tn = T.length := r0.at.1
        obtain ⟨W3, hW3⟩ : ∃ W3, W3 = W2.alloc (.cells #[.int .i64 (sp y.latest)] 2) := ⟨_, rfl⟩
        have g3 : W2.grownBy W3 none := by rw [hW3]; exact World.grownBy_alloc _ _ _
        have c5 : W3.cell? ⟨W2.heap.size, 0, none⟩ = some (.int .i64 (sp y.latest)) := by rw [hW3]; exact (Blk.new W2 #[.int .i64 (sp y.latest)] 2).cell 0 _ rfl
        have hk4 := unhide HLT
        obtain ⟨a', c', W4, hap, r4, g4⟩ := rt_app w W3 (.slice ta tn tq) T (sp y.latest) W2.heap.size 1 (r2.grown g3) (gtrans S2.grown g3) c5 (by omega)
        have E : Hid (QE w W4 b (smpF y.now y.latest 0 s) ∧ RT w W4 (.slice a' (T.length + 1) c') (T ++ [sp y.latest]) ∧ BI (smpF y.now y.latest 0 s) (T ++ [sp y.latest]) ∧ ((T ++ [sp y.latest]).length ≤ k + 1 ∧ (T ++ [sp y.latest]).length ≤ 4000)) := ⟨(S2.keep g3).app (r2.grown g3) g4, r4, b2, by simp; omega⟩
        rw [hW3] at hap
        have HAP := hide hap
        clear hW3 g3 c5 r4 g4 hap q0 r0 b0 t0 r2 b2 S2 G2 z2 z3 CC SA H c0 c2 c3 tn' hk4
        go_wp2_with (at_builtin; refine wpList_append_run _ rfl _ _ 45 45 rfl _ _ rfl rfl (unhide HAP) ?_)
        go_roundw
        case rel => exact ⟨k + 1, _, _, _, _, _, (unhide HLT).1, by go_num, rfl, E⟩
        case measure => have := unhide HLT; simp [intOf]; omega
    · have alt : (¬ (k : Int) < (len : Int)) ∨ ((k : Int) < (len : Int) ∧ ¬ (k : Int) < 4000) := by omega
      clear hlt
      rcases alt with e1 | ⟨e1, e2⟩
      all_goals
        go_wp2_with fail
        go_ret
        exact ⟨ta, tn, tq, rfl, s, (unhide H).1, T, (unhide H).2.1, (unhide H).2.2.1, (unhide H).2.2.2.2⟩
end Go.Proofs.Ytmcodfkmdpbjiaa
