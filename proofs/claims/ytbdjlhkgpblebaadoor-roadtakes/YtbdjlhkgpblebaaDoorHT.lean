/- Advance. -/
import Derived.Test.YtbdjlhkgpblebaaDoorHS
import Derived.Deep.RegionHeldLaw
namespace Go.Proofs.YtbdjlhkgpblebaaDoor
open Go.RowKit Go.Shelf Go.Maps
set_option linter.unusedVariables false
set_option maxRecDepth 100000
set_option maxHeartbeats 1000000

theorem step_delete_run {P : Program} {ops : Array Oper} {o : Oper} {a : Act} {w : World} {K : Act → World → Prop} {Q : Exit → Act → World → Prop} {E : Prop}
    (hg : o.guard = none) (m x : Operand) (t k : TypeId) (hop : o.op = Op.call { callee := Callee.builtin Builtin.delete, args := #[m, x], argTypes := #[t, k] })
    (u y : Value) (hm : a.eval m = u) (hx : a.eval x = y) {w' : World} (hr : ∀ ty, (Builtin.delete_ #[t, k] ty #[u, y]).run P w = .ok (.tuple #[]) w') (hK : K (a.put o.dst (.tuple #[])) w') :
    if Region.wanted o (yielded ops a.tmps) = true then Oper.wp P o a w K Q else E := by
  have hw : Region.wanted o (yielded ops a.tmps) = true := by simp [Region.wanted, hg]
  rw [if_pos hw]
  unfold Oper.wp
  simp [execOp, hop, resolve, invoke, builtin, hm, hx, hr, Result.andThen]
  exact hK

/-- The clock behind Advance. -/
def adv (c : Nat) (now : Int) : Nat := (min (max now (c : Int)) 1125899906842624).toNat

def AdvPost (w : World) (W mb t : Nat) (L : List Nd) (e : Ending) (w' : World) : Prop :=
  ∃ (a : Option Addr) (m c' : Nat), e = .returned (.slice a m c') ∧ (L.filter (fun n => !late t n)).length = m ∧ w'.ownsRow w.heap.size 3 1 (.slice a m c') m (idsV (L.filter (fun n => !late t n))) ∧ WI w' W mb t (L.filter (late t)) ∧ Kp (FP W mb L) w w'

theorem AI.ends {w : World} {W mb c t : Nat} {L : List Nd} {n1 : Nat} {pv : Value} {wr : World} {a : Option Addr} {m c' : Nat} (hI : WI w W mb c L) (hct : c ≤ t) (ht : t ≤ 2 ^ 50) (hL : ∀ m ∈ L, m.at_ < 2 ^ 62)
    (h : AI w W mb t L (L.filter (outR c t)) (L.filter (fun n => !outR c t n)) n1 pv (L.filter (outR c t)).length wr (.slice a m c')) : AdvPost w W mb t L (.returned (.slice a m c')) wr := by
  have hol : ∀ n ∈ L, outR c t n = false → late t n = true := fun n hn h => out_late (hL n hn) hct ht h
  have eD : dueL t (L.filter (outR c t)) (L.filter (outR c t)).length = L.filter (fun n => !late t n) := by
    unfold dueL
    rw [List.take_length, List.filter_filter]
    apply List.filter_congr
    intro n hn
    cases h1 : outR c t n with
    | true => simp
    | false => rw [hol n hn h1]; rfl
  have eS : (slotL t (L.filter (outR c t)) (L.filter (fun n => !outR c t n)) (L.filter (outR c t)).length).Perm (L.filter (late t)) := by
    unfold slotL
    rw [List.take_length, List.filter_filter]
    have h1 : L.filter (fun n => !outR c t n) = (L.filter (late t)).filter (fun n => !outR c t n) := by
      rw [List.filter_filter]
      apply List.filter_congr
      intro n hn
      cases h1 : outR c t n with
      | true => simp
      | false => rw [hol n hn h1]; rfl
    have h2 : L.filter (fun n => late t n && outR c t n) = (L.filter (late t)).filter (outR c t) := by
      rw [List.filter_filter]
      apply List.filter_congr
      intro n hn
      rw [Bool.and_comm]
    rw [h1, h2]
    exact List.perm_append_comm.trans (filter_perm _ _)
  have eM : mapL t (L.filter (outR c t)) (L.filter (fun n => !outR c t n)) (L.filter (outR c t)).length = slotL t (L.filter (outR c t)) (L.filter (fun n => !outR c t n)) (L.filter (outR c t)).length := by
    unfold mapL
    rw [List.drop_length, List.append_nil]
  obtain ⟨fl, sl, sw⟩ := h.sw
  have mp := h.mp
  rw [eM] at mp
  have due := h.due
  rw [eD] at due
  have hm := row_len due
  rw [hm] at due
  refine ⟨a, m, c', rfl, hm, ?_, ⟨⟨fl, sl, sw.perm eS⟩, mp.perm eS, hI.srt.filter _, List.Nodup.sublist ((List.filter_sublist).map Nd.id) hI.ids, fun n hn => hI.idl n (List.mem_filter.1 hn).1⟩, h.kp⟩
  refine ⟨due.1, ?_⟩
  rcases due.2 with h2 | ⟨g, cap, cur, e1, q1, q2⟩
  · exact .inl h2
  · exact .inr ⟨g, cap, cur, e1, Nat.le_trans h.sz.1 q1, q2⟩

theorem AI.drewN {w : World} {W mb t : Nat} {L A B : List Nd} {n1 : Nat} {pv : Value} {k : Nat} {wr : World} {v : Value} (h : AI w W mb t L A B n1 pv k wr v) (q : Nat) : AI w W mb t L A B n1 pv k (wr.drewN q) v := by
  obtain ⟨fl, sl, sw⟩ := h.sw
  exact ⟨⟨fl, sl, sw.kept rfl (fun _ _ => rfl)⟩, h.mp.kept rfl, h.nd, h.due, h.row, h.rlt, h.kp.drewN q, h.sz⟩
theorem row_ptr {wr : World} {base m c' : Nat} {a : Option Addr} {A : List Nd} (h : wr.ownsRow base 67 1 (.slice a m c') A.length (ptrs A)) (k : Nat) (hk : k < m) : ∃ g1 n, a = some ⟨g1, 0, none⟩ ∧ A[k]? = some n ∧ wr.cell? ⟨g1, k, none⟩ = some (ptr n.g) ∧ m ≤ c' ∧ c' ≤ 9223372036854775807 := by
  have hm := row_len h
  rcases h.2 with ⟨e1, e2⟩ | ⟨g, cap, cur, e1, q1, q2, q3, q4, q5, q6⟩
  · omega
  · simp only [Value.slice.injEq] at e1
    obtain ⟨rfl, -, rfl⟩ := e1
    refine ⟨g, A[k]'(by omega), rfl, by simp, ?_, by omega, by unfold maxLen at q4; omega⟩
    simp only [World.cell?, q2]
    have h1 : (cur.toList.take (A.length * 1))[k]? = (ptrs A)[k]? := by rw [q6]
    rw [List.getElem?_take, if_pos (by omega), Array.getElem?_toList] at h1
    rw [h1]
    simp [ptrs, hm, hk]

theorem advance_any (W mb c : Nat) (L : List Nd) (w : World) (h : WI w W mb c L) (ht : Tb w) (now : Int) :
    Calls Tryd.prog 24 #[ptr W, .int .i64 now] w (AdvPost w W mb (adv c now) L) := by
  obtain ⟨fl, sl, sw⟩ := h.sw
  have c50 := sw.c50
  have ck := sw.wb.clock
  have eT : min (max now (c : Int)) 1125899906842624 = (adv c now : Int) := by unfold adv; omega
  have hct : c ≤ adv c now := by unfold adv; omega
  have h50 : adv c now ≤ 2 ^ 50 := by unfold adv; omega
  generalize adv c now = t at *
  have hL : ∀ m ∈ L, m.at_ < 2 ^ 62 ∧ m.g < w.heap.size ∧ m.g ≠ W := fun n hn => ⟨sw.lt n hn, h.fp_lt (.inr (.inr ⟨n, hn, rfl⟩)), sw.nW n hn⟩
  have hW := sw.wb.W_lt
  have hmb := h.mp.lt
  have hlen := h.len
  have tn := turn_any W mb c t fl sl L w sw ht h.srt h.len hct h50
  have hp := filter_perm L (outR c t)
  have hlA : (L.filter (outR c t)).length ≤ 4096 := Nat.le_trans (List.length_filter_le _ _) hlen
  have ST : Hid (∀ (W1 : World) (a : Option Addr) (m c' : Nat) (fl1 : Nat → Nat) (sl1 : Nat → Nat → List Nd), SW W1 W mb t fl1 sl1 (L.filter (fun n => !outR c t n)) → W1.ownsRow w.heap.size 67 1 (.slice a m c') (L.filter (outR c t)).length (ptrs (L.filter (outR c t))) → Kp (fun g => g = W) w W1 → 
      AI w W mb t L (L.filter (outR c t)) (L.filter (fun n => !outR c t n)) W1.heap.size (.slice a m c') 0 W1 (.slice none 0 0)) := by
    intro W1 a m c' fl1 sl1 sw1 ro k1
    have keep : ∀ g, g ≠ W → g < w.heap.size → W1.heap[g]? = w.heap[g]? := fun g hg hl => k1.block g hl hg
    refine ⟨⟨fl1, sl1, ?_⟩, ?_, fun n hn => ?_, ?_, ro, fun g e => (ro.lt g e).2, k1.mono (fun g _ hg => .inl hg), k1.size, Nat.le_refl _⟩
    · simpa [slotL] using sw1
    · refine (h.mp.kept (keep mb (Ne.symm h.neW) hmb)).perm ?_
      simp only [mapL, List.take_zero, List.filter_nil, List.append_nil, List.drop_zero]
      exact (List.perm_append_comm.trans hp).symm
    · rw [List.drop_zero] at hn
      have nL := (List.mem_filter.1 hn).1
      obtain ⟨b, f, hb⟩ := sw.node nL
      exact ⟨b, f, (keep n.g (hL n nL).2.2 (hL n nL).2.1).trans hb⟩
    · simp only [dueL, List.take_zero, List.filter_nil]
      exact World.ownsRow_nil _ _ _ _
  have FIN : Hid (∀ (n1 : Nat) (pv : Value) (wr : World) (a : Option Addr) (m c' : Nat), AI w W mb t L (L.filter (outR c t)) (L.filter (fun n => !outR c t n)) n1 pv (L.filter (outR c t)).length wr (.slice a m c') → AdvPost w W mb t L (.returned (.slice a m c')) wr) := fun n1 pv wr a m c' ai => AI.ends h hct h50 (fun n hn => (hL n hn).1) ai
  have tn2 : Calls Tryd.prog 32 #[ptr W, .int .i64 t] w fun e W1 => ∃ a m c', e = .returned (.slice a m c') ∧ Hid ((L.filter (outR c t)).length = m ∧ AI w W mb t L (L.filter (outR c t)) (L.filter (fun n => !outR c t n)) W1.heap.size (.slice a m c') 0 W1 (.slice none 0 0)) := by
    refine tn.mono ?_
    rintro e W1 ⟨a, m, c', fl1, sl1, rfl, hm, sw1, ro, k1⟩
    exact ⟨a, m, c', rfl, hm, unhide ST W1 a m c' fl1 sl1 sw1 ro k1⟩
  have gs := h.gs; have ids := h.ids; have idl := h.idl
  have INP := hide (And.intro hp (And.intro gs (And.intro ids (And.intro hL (And.intro idl (And.intro hlA (And.intro hW hmb)))))))
  clear hp gs ids hL idl hlA hW hmb h sw hlen ST tn
  generalize L.filter (outR c t) = A at *
  generalize L.filter (fun n => !outR c t n) = B at *
  go_enter Tryd.func24, Tryd.ntmps24
  go_wp2_with fail
  refine tn2.mono ?_
  rintro e W1 ⟨a, m, c', rfl, H⟩
  obtain ⟨hm, ai0⟩ := unhide H
  have hm4 : m ≤ 4096 := by have := (unhide INP).2.2.2.2.2.1; omega
  have hml : ¬ (9223372036854775807 : Int) < (m : Int) := by omega
  have HM := hide hm
  have AI0 := hide ai0
  clear hm ai0 H tn2 ck
  generalize hn1 : W1.heap.size = n1 at *
  have HN1 := hide hn1
  clear hn1
  go_wp2_with fail
  go_loopw [5, 18] (fun lv iv wr => ∃ (k m2 c2 : Nat) (a2 : Option Addr), lv = .slice a2 m2 c2 ∧ iv = .int .i64 k ∧ k ≤ m ∧ Hid (AI w W mb t L A B n1 (.slice a m c') k wr (.slice a2 m2 c2))) (fun _ iv _ => m - (intOf iv).toNat)
  case atStart => exact ⟨0, 0, 0, none, rfl, rfl, Nat.zero_le _, unhide AI0⟩
  case round =>
    obtain ⟨k, m2, c2, a2, rfl, rfl, hkm, H⟩ := hrel
    clear AI0
    by_cases hlt : k < m
    · have kI : (k : Int) < (m : Int) := by omega
      obtain ⟨hp, gs, ids, hL, idl, hlA, hW, hmb⟩ := unhide INP
      have ai := unhide H
      obtain ⟨g1, n, rfl, hn, hc1, cm, cx⟩ := row_ptr ai.row k hlt
      have nA : n ∈ A.drop k := by rw [drop_consN A k n hn]; simp
      obtain ⟨b, f, hb⟩ := ai.nd n nA
      have x0 := hb.cell 0 (.int .i64 n.id) rfl
      have x1 := hb.cell 1 (.int .i64 n.at_) rfl
      obtain ⟨fl1, sl1, sw1⟩ := ai.sw
      have ck := sw1.wb.clock
      have cm1 := sw1.wb.map
      cases hl : late t n with
      | true =>
        have tI : (t : Int) < (n.at_ : Int) := by unfold late at hl; simp at hl; omega
        have PUT := hide (fun q => (ai.drewN q).down hp gs hL hW n hn hl)
        clear ai H hp gs ids hL idl hlA hW hmb nA hb sw1 hl hn
        go_wp2_with fail
        go_quiet (fail)
        go_wp2_with fail
        refine (unhide PUT _).mono ?_
        rintro e W2 ⟨rfl, ai2⟩
        have AI2 := hide ai2
        clear ai2 PUT
        go_wp2_with fail
        exact ⟨⟨k + 1, m2, c2, a2, rfl, by go_num, hlt, unhide AI2⟩, by simp [intOf]; omega⟩
      | false =>
        have tI : ¬ (t : Int) < (n.at_ : Int) := by unfold late at hl; simp at hl; omega
        have TOLD := hide (fun q' q => (ai.drewN q').told hp gs ids hL idl hlA hW hmb n hn hl q)
        clear ai H hp gs ids hL idl hlA hW hmb nA hb sw1 hl hn
        go_wp2_with fail
        go_quiet (fail)
        go_wp2_with fail
        obtain ⟨W2, hdel, y1, y0, a3, m3, c3, W3, hrun, ai3⟩ := unhide TOLD nq 1
        have x0' : (wr.drewN nq).cell? ⟨n.g, 0, none⟩ = some (.int .i64 n.id) := x0
        have cm1' : (wr.drewN nq).cell? ⟨W, 1, none⟩ = some (.map (some mb)) := cm1
        have HDEL := hide hdel; have HRUN := hide hrun; have AI3 := hide ai3
        clear hdel hrun ai3 TOLD x0 cm1 x1 ck hc1
        generalize wr.drewN nq = wq at *
        go_region_held_law (fun W' => W'.cell? ⟨W, 1, none⟩ = some (.map (some mb)) ∧ W'.cell? ⟨n.g, 0, none⟩ = some (.int .i64 n.id)) (go_keep) (refine step_delete_run rfl _ _ 65 3 rfl _ _ (by simp [Act.eval]) (by simp [Act.eval]) (unhide HDEL) ?_)
        go_wp2_with (at_builtin; refine wpList_append_runQ _ rfl _ _ 49 49 rfl _ _ rfl rfl (unhide HRUN) ?_)
        exact ⟨⟨k + 1, m3, c3, a3, rfl, by go_num, hlt, unhide AI3⟩, by simp [intOf]; omega⟩
    · obtain rfl : k = m := by omega
      have kI : ¬ (k : Int) < (k : Int) := by omega
      have E : Hid (AdvPost w W mb t L (.returned (.slice a2 m2 c2)) wr) := unhide FIN n1 _ wr a2 m2 c2 (by rw [unhide HM]; exact unhide H)
      clear H
      go_wp2_with fail
      go_ret
      exact unhide E
end Go.Proofs.YtbdjlhkgpblebaaDoor
