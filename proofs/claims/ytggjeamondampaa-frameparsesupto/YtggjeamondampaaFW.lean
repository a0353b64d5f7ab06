/- The reader: runs. -/
import Derived.Test.YtggjeamondampaaFL
import Derived.Test.YtggjeamondampaaFN
import Derived.Laws.AppendOwn
import Derived.OwnWalk
namespace Go.Proofs.Ytggjeamondampaa
open Go.RowKit
set_option linter.unusedVariables false
set_option maxRecDepth 100000
set_option maxHeartbeats 2000000

def clR (L : List (Int × Int)) : List Value := L.flatMap fun s => [.int .i64 s.1, .int .i64 s.2]
/-- New runs in memory. -/
def OwnR (base : Nat) (w : World) (v : Value) (L : List (Int × Int)) : Prop := w.ownsRow base 81 2 v L.length (clR L)

def glueM (T : List (Int × Int)) : (List (Int × Int) × List Int) ⊕ Int → (List (Int × Int) × List Int) ⊕ Int
  | .inr e => .inr e
  | .inl (rs, l) => .inl (T ++ rs, l)

theorem glue_glue (A B : List (Int × Int)) (x : (List (Int × Int) × List Int) ⊕ Int) : glueM A (glueM B x) = glueM (A ++ B) x := by
  rcases x with ⟨rs, l⟩ | e
  · simp [glueM]
  · rfl
theorem more_none {n : Nat} {lo : Int} {l : List Int} (h : numF l = none) : moreF (n + 1) lo l = .inr 40 := by
  simp only [moreF]; rw [h]
theorem more_bad {n : Nat} {lo gap e : Int} {l l1 : List Int} (h : numF l = some (gap, l1)) (h2 : runF (lo - gap - 2) l1 = .inr e) : moreF (n + 1) lo l = .inr e := by
  simp only [moreF]; rw [h]; simp only; rw [h2]
theorem more_ok {n : Nat} {lo gap : Int} {l l1 l2 : List Int} {r : Int × Int} (h : numF l = some (gap, l1)) (h2 : runF (lo - gap - 2) l1 = .inl (r, l2)) : moreF (n + 1) lo l = glueM [r] (moreF n r.1 l2) := by
  simp only [moreF]; rw [h]; simp only; rw [h2]; simp only
  cases moreF n r.1 l2 with
  | inl q => obtain ⟨rs, l3⟩ := q; rfl
  | inr e => rfl
theorem runs_ok {hi n : Int} {l l1 l2 : List Int} {r : Int × Int} (h : numF l = some (n, l1)) (h2 : runF hi l1 = .inl (r, l2)) : runsF hi l = glueM [r] (moreF n.toNat r.1 l2) := by
  unfold runsF; rw [h]; simp only; rw [h2]; simp only
  cases moreF n.toNat r.1 l2 with
  | inl q => obtain ⟨rs, l3⟩ := q; rfl
  | inr e => rfl
theorem runs_none {hi : Int} {l : List Int} (h : numF l = none) : runsF hi l = .inr 40 := by unfold runsF; rw [h]
theorem runs_bad {hi n e : Int} {l l1 : List Int} (h : numF l = some (n, l1)) (h2 : runF hi l1 = .inr e) : runsF hi l = .inr e := by
  unfold runsF; rw [h]; simp only; rw [h2]

/-- What runs tells. -/
def RunsPost (g : Nat) (a : Option Addr) (l : List Int) (c k : Nat) (y hi : Int) (w : World) (e : Ending) (w' : World) : Prop :=
  (∃ L l1 v', runsF hi (l.drop k) = .inl (L, l1) ∧ e = .returned v' ∧ OwnR w.heap.size w' v' L ∧ l1 = l.drop (l.length - l1.length) ∧ Rdg w' g a l c (l.length - l1.length) y ∧ w.grownBy w' (some g)) ∨ (∃ e', runsF hi (l.drop k) = .inr e' ∧ Gave g (.slice a l.length c) e' w e w')

theorem wpList_append_run {P : Program} (w : World) {ops : Array Oper} {rest : List Oper} {o : Oper} {a : Act} {Q : Exit → Act → World → Prop} (hgd : o.guard = none) (d s : Operand) (t t' : TypeId)
    (ho : o.op = .call { callee := .builtin .append, args := #[d, s], argTypes := #[t, t'] }) (v u : Value) (hd : a.eval d = v) (hs : a.eval s = u) {v' : Value} {w' : World}
    (hr : (Builtin.append_ #[t, t'] o.type #[v, u]).run P w = .ok v' w') (h : wpList P ops Q rest (a.put o.dst v') w') : wpList P ops Q (o :: rest) a w :=
  wpList_plain hgd fun K hK => by
    unfold Oper.wp execOp
    simp only [ho, resolve, invoke, builtin, Sem.run_bind, Sem.run_pure, Result.andThen_ok, List.map_toArray, List.map_cons, List.map_nil, hd, hs, hr]
    exact hK _ _ h

theorem grown_new {w W W' : World} {g h : Nat} (a : w.grownBy W (some g)) (b : W.grownBy W' (some h)) (hh : w.heap.size ≤ h) : w.grownBy W' (some g) :=
  ⟨b.os.trans a.os, b.tape.trans a.tape, b.output.trans a.output, Nat.le_trans a.size b.size, fun i hi hn => (b.block i (Nat.lt_of_lt_of_le hi a.size) (by simp; omega)).trans (a.block i hi hn)⟩

theorem numF_len {l l1 : List Int} {v : Int} (h : numF l = some (v, l1)) : l1.length < l.length := by
  cases l with
  | nil => simp [numF] at h
  | cons x r =>
    rw [numF_cons] at h
    split at h
    · simp at h
    · simp only [Option.some.injEq, Prod.mk.injEq] at h
      rw [← h.2]; simp; omega

theorem OwnR.first (w : World) (base : Nat) (lo hi : Int) (hb : base ≤ w.heap.size) : OwnR base (w.alloc (.cells #[.int .i64 lo, .int .i64 hi] 81)) (.slice (some ⟨w.heap.size, 0, none⟩) 1 1) [(lo, hi)] :=
  ⟨rfl, .inr ⟨w.heap.size, 1, _, rfl, hb, heap_alloc_last w _, Nat.le_refl _, by unfold maxLen; omega, rfl, rfl⟩⟩

theorem clR_length (L : List (Int × Int)) : (clR L).length = L.length * 2 := by
  induction L with
  | nil => rfl
  | cons s L ih => simp [clR] at ih ⊢; omega

theorem OwnR.last {w : World} {base h cp m : Nat} {T : List (Int × Int)} {x z : Int} (o : OwnR base w (.slice (some ⟨h, 0, none⟩) (m + 1) cp) (T ++ [(x, z)])) (hm : T.length = m) : w.cell? ⟨h, m * 2, none⟩ = some (.int .i64 x) ∧ base ≤ h ∧ h < w.heap.size := by
  rcases o.2 with ⟨e, -⟩ | ⟨g, cap, cur, e, hb, hg, hn, hc, hs, ht⟩
  · simp at e
  · simp only [Value.slice.injEq, Option.some.injEq, Addr.mk.injEq, and_true] at e
    obtain ⟨rfl, -, rfl⟩ := e
    have hlt : h < w.heap.size := by
      by_cases c : h < w.heap.size
      · exact c
      · have : w.heap[h]? = none := by simp; omega
        rw [this] at hg; simp at hg
    refine ⟨?_, hb, hlt⟩
    rw [cell_of_row _ _ _ cur _ (0, 0) hg]
    have e1 : (clR (T ++ [(x, z)]))[m * 2]? = some (.int .i64 x) := by
      have : clR (T ++ [(x, z)]) = clR T ++ [.int .i64 x, .int .i64 z] := by simp [clR]
      rw [this, List.getElem?_append_right (by rw [clR_length]; omega), clR_length, hm, Nat.sub_self]; rfl
    rw [← ht] at e1
    rw [List.getElem?_take] at e1
    split at e1
    · simpa using e1
    · simp at e1

theorem addr_add (b i : Nat) : (⟨b, 0, none⟩ : Addr).add i = ⟨b, i, none⟩ := by unfold Addr.add; split <;> simp_all

theorem Try.info57 : (Try.prog.info? 81).map (fun i => (i.zero, i.size, i.bytes)) = some (some (.agg #[.int .i64 0, .int .i64 0]), 2, 16) := by kernel_rfl

theorem Rdg.runs {w : World} {g : Nat} {a : Option Addr} {l : List Int} {c k : Nat} {y : Int} (h : Rdg w g a l c k y) (hb : l.length ≤ 4000000000000) (hi : Int) (hh : hi ≤ MAXN) :
    Calls Try.prog 91 #[.pointer (some ⟨g, 0, none⟩), .int .i64 hi] w (RunsPost g a l c k y hi w) := by
  have hnu := h.num
  go_enter Try.func91, Try.ntmps91
  go_wp2_with fail
  refine hnu.mono ?_
  rintro e W1 (⟨N, l1, hn, rfl, v0, v1, hl1, R1, g1⟩ | ⟨hn, ⟨pv, rfl⟩, hb1, hg⟩)
  case inr =>
    go_wp2_with fail
    exact ⟨rfl, .inr ⟨40, runs_none hn, ⟨_, rfl⟩, hb1, hg⟩⟩
  have hru := R1.run hi hh
  rw [← hl1] at hru
  clear hnu
  go_wp2_with fail
  refine hru.mono ?_
  rintro e W2 (⟨lo, l2, hr, rfl, lo0, lo1, hl2, R2, g2⟩ | ⟨e', hr, ⟨pv, rfl⟩, hb1, hg⟩)
  case inr =>
    go_wp2_with fail
    exact ⟨rfl, .inr ⟨e', runs_bad hn hr, ⟨_, rfl⟩, hb1, g1.trans hg⟩⟩
  have INV0 := hide (runs_ok hn hr)
  clear hru
  go_wp2_with fail
  have A0 : w.heap.size ≤ W2.heap.size := Nat.le_trans g1.size g2.size
  have hND : Hid (N.toNat = N.toNat) := rfl
  go_loopw [6, 15] (fun lv i wr => ∃ (j : Nat) (T : List (Int × Int)) (x z : Int) (kk h cp m : Nat), i = .int .i64 j ∧ (j : Int) ≤ N ∧ lv = .slice (some ⟨h, 0, none⟩) (m + 1) cp ∧ T.length = m ∧ OwnR w.heap.size wr (.slice (some ⟨h, 0, none⟩) (m + 1) cp) (T ++ [(x, z)]) ∧ 0 ≤ x ∧ x ≤ MAXN ∧ Rdg wr g a l c kk y ∧ m ≤ kk ∧ w.grownBy wr (some g) ∧ runsF hi (l.drop k) = glueM (T ++ [(x, z)]) (moreF (N.toNat - j) x (l.drop kk))) (fun _ i _ => N.toNat - (intOf i).toNat)
  case atStart =>
    refine ⟨0, [], lo, hi, l.length - l2.length, W2.heap.size, 1, 0, rfl, by omega, rfl, rfl, OwnR.first W2 _ lo hi A0, lo0, by omega, R2.go _ R2.at_ (World.grownBy_alloc W2 _ (some g)) (R2.blk.alloc _), Nat.zero_le _, (g1.trans g2).trans (World.grownBy_alloc W2 _ (some g)), ?_⟩
    rw [← hl2]
    exact unhide INV0
  case round =>
    clear R1 R2 g1 g2 hn hr hl1 hl2 INV0 A0 lo0 lo1
    obtain ⟨j, T, x, z, kk, h', cp, m, rfl, hjN, rfl, hm, ow, x0, x1, R, hmk, gw, inv⟩ := hrel
    by_cases hlt : (j : Int) < N
    · obtain ⟨n', hn'⟩ : ∃ n', N.toNat - j = n' + 1 := ⟨N.toNat - j - 1, by omega⟩
      rw [hn'] at inv
      have hn2 : N.toNat - (j + 1) = n' := by omega
      have hnu := R.num
      have HIN := hide inv; have HOW := hide ow; have HGW := hide gw; have HJ := hide (And.intro hlt (And.intro hn2 hmk))
      have HR := hide R
      have hgw : g < w.heap.size := h.blk.lt
      have hltd : decide ((j : Int) < N) = true := decide_eq_true hlt
      have hjw : IntKind.i64.wrap ((j : Int) + 1) = (j : Int) + 1 := by rw [IntKind.wrap_i64]; unfold MAXN at v1; omega
      have hmw : m + 1 ≤ 4000000000001 := by have := R.at_; omega
      clear inv ow gw R hn' hn2 hmk hjN
      go_wp2_with fail
      refine hnu.mono ?_
      rintro e V1 (⟨gap, m1, hg1, rfl, q0, q1, hm1, S1, k1⟩ | ⟨hg1, ⟨pv, rfl⟩, hb1, hg⟩)
      case inr =>
        go_wp2_with fail
        exact ⟨rfl, .inr ⟨40, by rw [unhide HIN, more_none hg1]; rfl, ⟨_, rfl⟩, hb1, (unhide HGW).trans hg⟩⟩
      have hhg : h' ≠ g := by have := (OwnR.last (unhide HOW) hm).2.1; omega
      have o1 : OwnR w.heap.size V1 (.slice (some ⟨h', 0, none⟩) (m + 1) cp) (T ++ [(x, z)]) := World.ownsRow.kept (unhide HOW) k1 (.inr (by simp [Value.ownBlock]; exact hhg))
      obtain ⟨cx, hbase, hlt2⟩ := o1.last hm
      have wx1 : IntKind.i64.wrap (x - gap) = x - gap := by rw [IntKind.wrap_i64]; unfold MAXN at x1 q1; omega
      have wx2 : IntKind.i64.wrap (x - gap - 2) = x - gap - 2 := by rw [IntKind.wrap_i64]; unfold MAXN at x1 q1; omega
      have hru := S1.run (x - gap - 2) (by omega)
      rw [← hm1] at hru
      have wm : IntKind.i64.wrap (m : Int) = (m : Int) := by rw [IntKind.wrap_i64]; omega
      have bm : (m : Int) < (m : Int) + 1 := by omega
      have HO := hide o1; have HM1 := hide (numF_len hg1)
      clear o1 hnu
      go_wp2_with fail
      refine hru.mono ?_
      rintro e V2 (⟨lo', m2, hr2, rfl, p0, p1, hm2, S2, k2⟩ | ⟨e', hr2, ⟨pv, rfl⟩, hb1, hg⟩)
      case inr =>
        go_wp2_with fail
        exact ⟨rfl, .inr ⟨e', by rw [unhide HIN, more_bad hg1 hr2]; rfl, ⟨_, rfl⟩, hb1, (unhide HGW).trans (k1.trans hg)⟩⟩
      have o2 : OwnR w.heap.size V2 (.slice (some ⟨h', 0, none⟩) (m + 1) cp) (T ++ [(x, z)]) := World.ownsRow.kept (unhide HO) k2 (.inr (by simp [Value.ownBlock]; exact hhg))
      have o3 := World.ownsRow.alloc o2 (.cells #[.int .i64 lo', .int .i64 (x - gap - 2)] 81)
      obtain ⟨inf, hi0, hz0, hz1, hz2⟩ := info_parts Try.info57
      have hnews : ∀ (i : Nat) u, ([.int .i64 lo', .int .i64 (x - gap - 2)] : List Value)[i]? = some u → (V2.alloc (.cells #[.int .i64 lo', .int .i64 (x - gap - 2)] 81)).cell? ((⟨V2.heap.size, 0, none⟩ : Addr).add i) = some u := fun i u hu => by
        have hadd : (⟨V2.heap.size, 0, none⟩ : Addr).add i = ⟨V2.heap.size, i, none⟩ := addr_add _ _
        rw [hadd, cell_of_row _ _ i #[.int .i64 lo', .int .i64 (x - gap - 2)] 81 (0, 0) (heap_alloc_last V2 _)]
        rw [← hu]
        simp
      have hlen : (T ++ [(x, z)]).length = m + 1 := by simp [hm]
      have esz : (V2.alloc (.cells #[.int .i64 lo', .int .i64 (x - gap - 2)] 81)).heap.size = V2.heap.size + 1 := by
        show (V2.heap.push _).size = _
        simp
      have hbs : w.heap.size ≤ (V2.alloc (.cells #[.int .i64 lo', .int .i64 (x - gap - 2)] 81)).heap.size := by
        have s1 := (unhide HGW).size
        have s2 := k1.size
        have s3 := k2.size
        omega
      have o4 : (V2.alloc (.cells #[.int .i64 lo', .int .i64 (x - gap - 2)] 81)).ownsRow w.heap.size 81 2 (.slice (some ⟨h', 0, none⟩) (m + 1) cp) (m + 1) (clR (T ++ [(x, z)])) := by rw [← hlen] at o3 ⊢; exact o3
      obtain ⟨v5, W5, hrun, o5, g5, -⟩ := run_append_own (P := Try.prog) (V2.alloc (.cells #[.int .i64 lo', .int .i64 (x - gap - 2)] 81)) w.heap.size 23 23 81 inf (.agg #[.int .i64 0, .int .i64 0]) 2 16 Try.underlying23 hi0 hz0 hz1 hz2 rfl (by decide) (.slice (some ⟨h', 0, none⟩) (m + 1) cp) (m + 1) (clR (T ++ [(x, z)])) o4 ⟨V2.heap.size, 0, none⟩ 1 1 [.int .i64 lo', .int .i64 (x - gap - 2)] rfl hnews (fun u hu => by simp at hu; rcases hu with rfl | rfl <;> rfl) (by unfold maxLen; omega) (by omega) hbs
      obtain ⟨h5, c5, rfl⟩ : ∃ h5 c5, v5 = .slice (some ⟨h5, 0, none⟩) (m + 1 + 1) c5 := by
        rcases o5.2 with ⟨-, e⟩ | ⟨g6, cap, cur, e, -⟩
        · omega
        · exact ⟨g6, cap, e⟩
      have G5 : W5 = W5 := rfl
      have gg5 := grown_new ((((unhide HGW).trans k1).trans k2).trans (World.grownBy_alloc V2 (.cells #[.int .i64 lo', .int .i64 (x - gap - 2)] 81) (some g))) g5 hbase
      have b5 : Blk W5 g (rdr (.slice a l.length c) ((l.length - m2.length : Nat) : Int) y) 105 := ((S2.blk.alloc _).far g5 (Ne.symm hhg))
      have R5 := h.go (l.length - m2.length) S2.at_ gg5 b5
      have FIN := hide (And.intro (show OwnR w.heap.size W5 (.slice (some ⟨h5, 0, none⟩) (m + 1 + 1) c5) ((T ++ [(x, z)]) ++ [(lo', x - gap - 2)]) by
          unfold OwnR
          have e1 : (T ++ [(x, z)] ++ [(lo', x - gap - 2)]).length = m + 1 + 1 := by simp [hm]
          have e2 : clR (T ++ [(x, z)] ++ [(lo', x - gap - 2)]) = clR (T ++ [(x, z)]) ++ [.int .i64 lo', .int .i64 (x - gap - 2)] := by simp [clR]
          rw [e1, e2]; exact o5) (And.intro R5 (And.intro gg5 (show runsF hi (l.drop k) = glueM ((T ++ [(x, z)]) ++ [(lo', x - gap - 2)]) (moreF n' lo' (l.drop (l.length - m2.length))) by
          rw [unhide HIN, more_ok hg1 hr2, glue_glue, ← hm2]))))
      have HKK : Hid (m + 1 ≤ l.length - m2.length) := by
        have a1 := unhide HM1
        rw [List.length_drop] at a1
        have a2 := (unhide HJ).2.2
        have a3 := (unhide HR).at_
        have a4 : m2.length ≤ m1.length := by
          unfold runF at hr2
          split at hr2
          · simp at hr2
          · split at hr2
            · simp at hr2
            · rename_i less l9 e9
              split at hr2
              · simp at hr2
              · simp only [Sum.inl.injEq, Prod.mk.injEq] at hr2
                have := numF_len e9
                rw [← hr2.2]; omega
        show m + 1 ≤ l.length - m2.length
        omega
      have HX := hide (And.intro p0 (show lo' ≤ MAXN by omega))
      clear o2 o3 o4 o5 g5 gg5 b5 R5 hnews S2 S1 k1 k2 hru cx G5 hz0 hz1 hz2 hi0 HM1 HO hr2 hg1
      go_wp2_with (at_builtin; refine wpList_append_run _ rfl _ _ 23 23 rfl (.slice (some ⟨h', 0, none⟩) (m + 1) cp) (.slice (some ⟨V2.heap.size, 0, none⟩) 1 1) rfl rfl hrun ?_)
      exact ⟨⟨j + 1, T ++ [(x, z)], lo', x - gap - 2, l.length - m2.length, h5, c5, m + 1, by go_num, by have := (unhide HJ).1; omega, rfl, by simp [hm], (unhide FIN).1, (unhide HX).1, (unhide HX).2, (unhide FIN).2.1, unhide HKK, (unhide FIN).2.2.1, by rw [(unhide HJ).2.1]; exact (unhide FIN).2.2.2⟩, by simp [intOf]; have := (unhide HJ).1; omega⟩
    · have hjN2 : (j : Int) = N := by omega
      have hz : N.toNat - j = 0 := by omega
      rw [hz] at inv
      have F : Hid (RunsPost g a l c k y hi w (.returned (.slice (some ⟨h', 0, none⟩) (m + 1) cp)) wr) := .inl ⟨T ++ [(x, z)], l.drop kk, _, by rw [inv]; simp [moreF, glueM], rfl, by rw [OwnR] at ow ⊢; simpa [hm] using ow, by rw [List.length_drop]; congr 1; have := R.at_; omega, by rw [List.length_drop, show l.length - (l.length - kk) = kk by have := R.at_; omega]; exact R, gw⟩
      clear inv ow R gw
      go_wp2_with fail
      go_ret
      exact unhide F

end Go.Proofs.Ytggjeamondampaa
