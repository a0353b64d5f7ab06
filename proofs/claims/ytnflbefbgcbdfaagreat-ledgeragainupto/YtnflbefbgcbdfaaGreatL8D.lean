/- L0A, L0B, L0C, L3H, L0D, L0E, L0F, one text. -/
import Derived.Test.YtnflbefbgcbdfaaGreatL8C
import Derived.Test.YtnflbefbgcbdfaaGreatL8Q
import Derived.Deep.DeepCutAuto
import Derived.Deep.RegionWith
import Derived.Deep.CutRange
import Derived.BigRegion
namespace Go.Proofs.YtnflbefbgcbdfaaGreat
open Go.RowKit
set_option linter.unusedVariables false
set_option linter.unusedSimpArgs false
set_option maxRecDepth 100000
set_option maxHeartbeats 1000000

theorem eqnilS (W : World) (a : Option Addr) (n c : Nat) : (binOp .eql 26 (.slice a n c) (.slice none 0 0)).run Tryz.prog W = .ok (.bool a.isNone) W := Lib.run_eql_slice_nil W _ _ a n c 0 0 Tryz.underlying26

theorem clone_sent (R : Nat → Prop) (W : World) (kv : Value) (ks : List St) (h : KvAt R W kv ks) (hn : ks.length ≤ 1100000) :
    Calls Tryz.prog 62 #[kv] W fun e W' => ∃ v', e = .returned v' ∧ KvAt R W' v' ks ∧ Fresh W v' ∧ W.grownBy W' none := by
  rcases h.sh with ⟨rfl, rfl⟩ | ⟨g, c, rfl, hc⟩
  · go_enter Tryz.func62, Tryz.ntmps62
    go_wp2_with (simp only [eqnilS, Option.isNone_none])
    all_goals go_ret
    all_goals exact ⟨_, rfl, KvAt.nil _ _, fresh_nil _, grown_self _ _⟩
  · obtain ⟨A, hA⟩ : ∃ A, A = W.alloc (.cells #[] 46) := ⟨_, rfl⟩
    have gA : W.grownBy A none := by rw [hA]; exact grown_alloc _ _
    have bA : Blk A W.heap.size #[] 46 := by rw [hA]; exact Blk.new _ _ _
    have hfr : Fresh W (.slice (some ⟨W.heap.size, 0, none⟩) 0 0) := fun k hk => by injection hk with hk; exact Nat.le_of_eq hk
    obtain ⟨i, hi, hz0, hz1, hz2⟩ := info_parts Tryz.infoSe
    have AP : ∃ v' W', (Builtin.append_ #[26, 26] 26 #[.slice (some ⟨W.heap.size, 0, none⟩) 0 0, .slice (some ⟨g, 0, none⟩) ks.length c]).run Tryz.prog A = .ok v' W' ∧ KvAt R W' v' ks ∧ Fresh W v' ∧ W.grownBy W' none := by
      obtain ⟨fvs, h1, h2w, h3⟩ := h
      have h2 : A.ownsRow 0 46 8 (.slice (some ⟨g, 0, none⟩) ks.length c) ks.length (skl ks fvs).flatten := World.ownsRow.kept (row := none) h2w gA (by simp [Value.ownBlock])
      by_cases h0 : ks.length = 0
      · have e0 : ks = [] := List.length_eq_zero_iff.1 h0
        subst e0
        refine ⟨.slice (some ⟨W.heap.size, 0, none⟩) 0 0, A, ?_, ?_, hfr, gA⟩
        · simp [Builtin.append_, run_underlying Tryz.underlying26, sizeOf, typeInfo, hi, Builtin.lenOf, Builtin.firstCells, storeCells, loadCells, loadCellsFrom]
        · exact ⟨[], rfl, ⟨rfl, .inr ⟨W.heap.size, 0, #[], rfl, Nat.zero_le _, bA, Nat.le_refl _, Nat.zero_le _, rfl, rfl⟩⟩, fun i s fv h => by simp at h⟩
      · rcases h2.2 with ⟨e1, e2⟩ | ⟨g', c', cur, e1, q1, q2, q3, q4, q5, q6⟩
        · cases e1
        · injection e1 with e1 e1b e1c
          injection e1 with e1
          injection e1 with e1
          subst e1
          have own0 : A.ownsRow W.heap.size 46 8 (.slice (some ⟨W.heap.size, 0, none⟩) 0 0) 0 [] := ⟨rfl, .inr ⟨W.heap.size, 0, #[], rfl, Nat.le_refl _, bA, Nat.le_refl _, Nat.zero_le _, rfl, rfl⟩⟩
          have hone : ∀ u ∈ (skl ks fvs).flatten, u.oneCell' = true := by
            intro u hu
            obtain ⟨cs, hcs, huc⟩ := List.mem_flatten.1 hu
            obtain ⟨j, hj⟩ := List.getElem?_of_mem hcs
            simp only [skl, List.getElem?_zipWith] at hj
            split at hj
            · rename_i s fv e3 e4
              cases hj
              have hfv := (h3 j s fv e3 e4).one
              simp only [St.cs, List.mem_cons, List.not_mem_nil, or_false] at huc
              rcases huc with rfl | rfl | rfl | rfl | rfl | rfl | rfl | rfl <;> first | rfl | exact hfv
            · cases hj
          obtain ⟨v', W', hr, ho, hg, hnil⟩ := run_append_own (P := Tryz.prog) A W.heap.size 26 26 46 i _ 8 64 Tryz.underlying26 hi hz0 hz1 hz2 rfl (by decide) _ 0 [] own0 ⟨g, 0, none⟩ ks.length c (skl ks fvs).flatten h2.1 (fun j u hj => by
            rw [Addr.add_lit, Nat.zero_add]
            have hj2 := (List.getElem?_eq_some_iff.1 hj).1
            rw [h2.1] at hj2
            rw [← q6, List.getElem?_take, if_pos hj2, Array.getElem?_toList] at hj
            unfold World.cell?
            rw [q2]
            exact hj) hone (by unfold maxLen; omega) (by omega) (by have := bA.lt; omega)
          have gW : W.grownBy W' none := ⟨hg.os.trans gA.os, hg.tape.trans gA.tape, hg.output.trans gA.output, Nat.le_trans gA.size hg.size, fun x hx _ => (hg.block x (Nat.lt_of_lt_of_le hx gA.size) (fun e => by injection e with e; simp at e; omega)).trans (gA.block x hx (by simp))⟩
          have hfre : Fresh W v' := fun k hk => by
            rcases ho.2 with ⟨e3, -⟩ | ⟨g3, c3, cur3, e3, p1, -⟩
            · rw [e3] at hk; cases hk
            · rw [e3] at hk; cases hk; exact p1
          refine ⟨v', W', hr, ⟨fvs, h1, ?_, fun j s fv a b => ?_⟩, hfre, gW⟩
          · rw [List.nil_append, Nat.zero_add] at ho
            refine ⟨ho.1, ?_⟩
            rcases ho.2 with q | ⟨g3, c3, cur3, e3, p1, p2⟩
            · exact .inl q
            · exact .inr ⟨g3, c3, cur3, e3, Nat.zero_le _, p2⟩
          · exact (h3 j s fv a b).grown gW
    obtain ⟨v', W', hap, hkv, hf', gW⟩ := AP
    obtain ⟨va2, vn2, vc2, hv⟩ : ∃ a n c, v' = .slice a n c := by
      rcases hkv.sh with ⟨e, -⟩ | ⟨g, c, e, -⟩
      · exact ⟨_, _, _, e⟩
      · exact ⟨_, _, _, e⟩
    subst hv
    have FIN := hide (And.intro hkv (And.intro hf' gW))
    rw [hA] at hap
    generalize ks.length = n at hap ⊢
    clear h hA gA bA hfr hkv hf' gW hi hz0 hz1 hz2
    go_enter Tryz.func62, Tryz.ntmps62
    go_wp2_with (first | simp only [eqnilS, Option.isNone_some] | (at_builtin; refine wpList_append_run _ rfl _ _ 26 26 rfl _ _ rfl rfl hap ?_))
    all_goals go_ret
    all_goals exact ⟨_, rfl, (unhide FIN).1, (unhide FIN).2.1, (unhide FIN).2.2⟩
theorem kept_any (b : Nat) (w : World) : Calls Tryz.prog 32 #[.pointer (some ⟨b, 0, none⟩)] w fun e w' => e = .returned (.func (.func 61) #[] #[.pointer (some ⟨w.heap.size, 0, none⟩)]) ∧ w' = w.alloc (.cells #[.pointer (some ⟨b, 0, none⟩)] 25) := by
  go_enter Tryz.func32, Tryz.ntmps32
  go_wp2
  go_ret
  exact ⟨rfl, rfl⟩
end Go.Proofs.YtnflbefbgcbdfaaGreat

namespace Go.Proofs.YtnflbefbgcbdfaaGreat
open Go.RowKit Go.Shelf
set_option linter.unusedVariables false
set_option maxHeartbeats 1000000
set_option maxRecDepth 100000
attribute [local go_sem] Oper.semAt_some

abbrev encP (x : St × Value) : Array Value := #[.agg (x.1.cs x.2)]
/-- What a round's body keeps: the blocks of R, and all cells that lie from n on. -/
structure KR (R : Nat → Prop) (n : Nat) (W W' : World) : Prop where
  size : W.heap.size ≤ W'.heap.size
  old : ∀ j, R j → W'.heap[j]? = W.heap[j]?
  new : ∀ j cs t, n ≤ j → Blk W j cs t → W'.heap[j]? = W.heap[j]?
/-- Between two rounds. -/
def KpI (R : Nat → Prop) (n₀ : Nat) (ks : List St) (cv : Value) (J : List (St × Value) → World → Prop) (k : Nat) (wr : World) : Prop :=
  KvAt R wr cv ks ∧ n₀ ≤ wr.heap.size ∧ ∃ pre : List (St × Value), pre.map Prod.fst = ks.take k ∧ J pre wr

theorem kept1_in (n : Nat) (hn : 1 ≤ n) (l Bn b n₀ : Nat) (R : Nat → Prop) (kv : Value) (ks : List St) (J Jx : List (St × Value) → World → Prop)
    (hY : ∀ pre x W, J pre W → pre.length < ks.length → YieldAt Fence.wide (n - 1) Tryz.prog l (encP x) W fun e W' =>
      (e = .returned (.bool true) ∧ J (pre ++ [x]) W' ∧ KR R n₀ W W') ∨ (e = .returned (.bool false) ∧ Jx (pre ++ [x]) W'))
    (hJ : ∀ pre X X', J pre X → X.grownBy X' none → J pre X')
    (W : World) (hBn : W.cell? ⟨Bn, 0, none⟩ = some (.pointer (some ⟨b, 0, none⟩))) (hb6 : W.cell? ⟨b, 6, none⟩ = some kv) (hk : KvAt R W kv ks) (hn0 : n₀ ≤ W.heap.size) (hlen : ks.length ≤ 1000) (h0 : J [] W) :
    CallsIn Fence.wide n Tryz.prog 61 #[.func (.yield l) #[] #[], .pointer (some ⟨Bn, 0, none⟩)] W fun e W' => (∃ v, e = .returned v) ∧
      ((∃ ys : List (St × Value), ys.map Prod.fst = ks ∧ J ys W') ∨ (∃ pre : List (St × Value), pre.map Prod.fst <+: ks ∧ Jx pre W')) := by
  obtain ⟨N, hN⟩ : ∃ N, N = ks.length := ⟨_, rfl⟩
  have hcl := clone_sent R W kv ks hk (by omega)
  obtain ⟨ka, kn, kc, hkv⟩ : ∃ a n c, kv = .slice a n c := by
    rcases hk.sh with ⟨e, -⟩ | ⟨g, c, e, -⟩
    · exact ⟨_, _, _, e⟩
    · exact ⟨_, _, _, e⟩
  subst hkv
  have HN := hide (And.intro hN hlen)
  have HY := hide hY; have HJ := hide hJ; have H0 := hide h0; have HN0 := hide hn0
  have lenI : ¬ (9223372036854775807 : Int) < (N : Int) := by omega
  clear hY hJ h0 hN hlen hk hn0
  refine callsIn_of_wp Tryz.func61 rfl trivial ?_ rfl
  simp only [Tryz.ntmps61, List.size_toArray, List.length_cons, List.length_nil, Nat.reduceAdd, Nat.reduceSub, Array.replicate_succ, Array.replicate_zero, List.push_toArray, List.append_toArray, List.nil_append, List.cons_append]
  gi_wp2_with fail
  refine ⟨trivial, (callsIn_wide.2 hcl).mono ?_⟩
  rintro e Y ⟨v', rfl, hkY, hfr, gY⟩
  obtain ⟨ca, cc, hcv⟩ : ∃ a c, v' = .slice a N c := by
    rcases hkY.sh with ⟨e, e2⟩ | ⟨g, c, e, -⟩
    · exact ⟨none, 0, by rw [e, (unhide HN).1, e2]; rfl⟩
    · exact ⟨_, c, by rw [e, (unhide HN).1]⟩
  subst hcv
  have I0 : Hid (KpI R n₀ ks (.slice ca N cc) J 0 Y) := ⟨hkY, Nat.le_trans (unhide HN0) gY.size, [], rfl, unhide HJ _ _ _ (unhide H0) gY⟩
  have FR : Hid (∀ g, (Value.slice ca N cc).ownBlock = some g → n₀ ≤ g) := fun g e => Nat.le_trans (unhide HN0) (hfr g e)
  clear hcl hkY hfr gY hBn hb6 H0
  gi_wp2_with fail
  gi_loopw [11] (fun iv wr => ∃ k : Nat, k ≤ N ∧ iv = .int .i64 k ∧ Hid (KpI R n₀ ks (.slice ca N cc) J k wr)) (fun iv _ => N - (intOf iv).toNat)
  case atStart => exact ⟨0, Nat.zero_le _, rfl, I0⟩
  case round =>
    clear I0
    obtain ⟨k, hk, rfl, H⟩ := hrel
    by_cases hlt : k < N
    · have hkI : (k : Int) < (N : Int) := by omega
      have hk0 : (0 : Int) ≤ (k : Int) := by omega
      obtain ⟨kvw, hnw, pre, hpre, hj⟩ := unhide H
      obtain ⟨s, hs⟩ : ∃ s, ks[k]? = some s := ⟨_, List.getElem?_eq_getElem (by rw [← (unhide HN).1]; exact hlt)⟩
      obtain ⟨g, hca⟩ : ∃ g, ca = some ⟨g, 0, none⟩ := by
        rcases kvw.sh with ⟨_, e2⟩ | ⟨g, c', e1, -⟩
        · rw [e2] at hs; simp at hs
        · injection e1 with e1; exact ⟨g, e1⟩
      subst hca
      have kvw2 := kvw
      rw [(unhide HN).1] at kvw2
      obtain ⟨fv, hfv, hc⟩ := kvw2.get hs
      have y0 : wr.cell? ⟨g, k * 8, none⟩ = some (.int .i64 s.nu) := hc 0 _ rfl
      have y1 : wr.cell? ⟨g, k * 8 + 1, none⟩ = some (.int .i64 s.ti) := hc 1 _ rfl
      have y2 : wr.cell? ⟨g, k * 8 + 2, none⟩ = some (.int .i64 s.si) := hc 2 _ rfl
      have y3 : wr.cell? ⟨g, k * 8 + 3, none⟩ = some (.bool s.el) := hc 3 _ rfl
      have y4 : wr.cell? ⟨g, k * 8 + 4, none⟩ = some (.bool s.co) := hc 4 _ rfl
      have y5 : wr.cell? ⟨g, k * 8 + 5, none⟩ = some (.bool s.pr) := hc 5 _ rfl
      have y6 : wr.cell? ⟨g, k * 8 + 6, none⟩ = some (.int .i64 s.tl) := hc 6 _ rfl
      have y7 : wr.cell? ⟨g, k * 8 + 7, none⟩ = some fv := hc 7 _ rfl
      have HF := hide hfv
      obtain ⟨-, fa, fc, css, e9, -⟩ := hfv
      subst e9
      obtain ⟨Z, hZ⟩ : ∃ Z, Z = wr.alloc (.cells #[.int .i64 s.nu, .int .i64 s.ti, .int .i64 s.si, .bool s.el, .bool s.co, .bool s.pr, .int .i64 s.tl, .slice fa s.fs.length fc] 46) := ⟨_, rfl⟩
      have gZ : wr.grownBy Z none := by rw [hZ]; exact grown_alloc _ _
      have bZ : Blk Z wr.heap.size #[.int .i64 s.nu, .int .i64 s.ti, .int .i64 s.si, .bool s.el, .bool s.co, .bool s.pr, .int .i64 s.tl, .slice fa s.fs.length fc] 46 := by rw [hZ]; exact Blk.new wr _ _
      obtain ⟨zs, hzs⟩ : ∃ zs, zs = wr.heap.size := ⟨_, rfl⟩
      rw [← hzs] at bZ
      obtain ⟨z0, z1, z2, z3, z4, z5, z6, z7⟩ := cells8 bZ
      have hcp := copied_fv s fa fc Z ((unhide HF).grown gZ)
      simp only [St.cs] at hcp
      have hpl : pre.length < ks.length := by
        have := congrArg List.length hpre
        rw [List.length_map, List.length_take] at this
        have := (unhide HN).1
        omega
      have E := hide (And.intro kvw (And.intro hnw (And.intro hpre (And.intro hj (And.intro hs (And.intro gZ hpl))))))
      clear kvw kvw2 hnw hpre hj hs hc HF gZ bZ hpl H
      gi_upto_region 3 with fail
      rw [← hZ, ← hzs]
      replace hZ := hide hZ
      replace hzs := hide hzs
      clear y0 y1 y2 y3 y4 y5 y6 y7
      gi_wp2_with fail
      refine ⟨trivial, (callsIn_wide.2 hcp).mono ?_⟩
      rintro e W2 ⟨a2, c2, rfl, hf2, g2⟩
      obtain ⟨kvw, hnw, hpre, hj, hs, gZ, hpl⟩ := unhide E
      have gg := grown_trans gZ g2
      obtain ⟨fn, tmps, assign, body, hy, hRR⟩ := (unhide HY) pre (s, .slice a2 s.fs.length c2) W2 (unhide HJ _ _ _ hj gg) hpl
      have HRR := hide hRR
      have E2 := hide (And.intro (kvw.grown gg) (And.intro (Nat.le_trans hnw gg.size) (And.intro hpre hs)))
      clear hRR kvw hnw hpre hj hs gZ hpl gg hcp hf2 g2 E z0 z1 z2 z3 z4 z5 z6 z7
      simp only [encP, St.cs] at hy
      gi_wp2_with fail
      refine (unhide HRR).mono ?_
      rintro e W3 (⟨rfl, hJ3, hk3⟩ | ⟨rfl, hJx3⟩)
      · have HK := hide (And.intro hJ3 hk3)
        clear hJ3 hk3 hy HRR
        gi_wp2_with fail
        go_roundw
        case rel =>
          obtain ⟨hJ3, hk3⟩ := unhide HK
          obtain ⟨kw2, nw2, hpre, hs⟩ := unhide E2
          refine ⟨k + 1, hlt, by go_num, ?_, Nat.le_trans nw2 hk3.size, pre ++ [(s, .slice a2 s.fs.length c2)], ?_, hJ3⟩
          · refine kw2.kept (fun x hx => hk3.old x hx) (fun x e => ?_)
            obtain ⟨cs, hb⟩ := kw2.ty x e
            exact hk3.new x cs _ (unhide FR x e) hb
          · rw [List.map_append, hpre, take_at hs]
            rfl
        case measure => simp [intOf]; omega
      · have HJ3 := hide hJx3
        clear hJx3 hy HRR
        gi_wp2_with fail
        refine bodyPost_ret (results_none rfl _ _ _) rfl ?_
        obtain ⟨kw2, nw2, hpre, hs⟩ := unhide E2
        refine ⟨⟨_, rfl⟩, .inr ⟨pre ++ [(s, .slice a2 s.fs.length c2)], ?_, unhide HJ3⟩⟩
        rw [List.map_append, hpre]
        have e := take_at hs
        exact (show ks.take k ++ [s] <+: ks by rw [← e]; exact List.take_prefix _ _)
    · obtain rfl : k = N := by omega
      have hkI : ¬ (k : Int) < (k : Int) := by omega
      obtain ⟨-, -, pre, e2, e3⟩ := unhide H
      have Ex := hide (And.intro e2 e3)
      clear e2 e3 H
      gi_wp2_with fail
      go_end0
      obtain ⟨e2, e3⟩ := unhide Ex
      rw [List.take_of_length_le (by rw [(unhide HN).1]; exact Nat.le_refl _)] at e2
      exact ⟨⟨_, rfl⟩, .inl ⟨pre, e2, e3⟩⟩
end Go.Proofs.YtnflbefbgcbdfaaGreat

namespace Go.Proofs.YtnflbefbgcbdfaaGreat
open Go.RowKit
set_option linter.unusedVariables false
set_option maxRecDepth 100000
set_option maxHeartbeats 1000000

/-- Those without a fate. -/
def zf (T : List Tr) : List Tr := T.filter (fun t => decide (t.2.2 = 0))
/-- i of them lie among the first k. -/
structure HK (T : List Tr) (i k : Nat) : Prop where
  eq : zf (T.take k) = (zf T).take i
  le : k ≤ T.length
theorem HK.zero (T : List Tr) : HK T 0 0 := ⟨by simp [zf], Nat.zero_le _⟩
section
variable {T : List Tr} {i k : Nat} {t : Tr}
theorem zf_take (T : List Tr) (k : Nat) : zf (T.take k) ++ zf (T.drop k) = zf T := by
  unfold zf
  rw [← List.filter_append, List.take_append_drop]
theorem HK.skip (h : HK T i k) (ht : T[k]? = some t) (h0 : t.2.2 ≠ 0) : HK T i (k + 1) := by
  refine ⟨?_, (List.getElem?_eq_some_iff.1 ht).1⟩
  rw [take_at ht]
  unfold zf
  rw [List.filter_append]
  have := h.eq
  unfold zf at this
  rw [this]
  simp [h0]
theorem HK.more (h : HK T i k) (hi : i < (zf T).length) : k < T.length := by
  rcases Nat.lt_or_ge k T.length with q | q
  · exact q
  · have := h.eq
    rw [List.take_of_length_le q] at this
    have := congrArg List.length this
    rw [List.length_take] at this
    omega
theorem HK.hit (h : HK T i k) (hi : i < (zf T).length) (ht : T[k]? = some t) (h0 : t.2.2 = 0) : (zf T)[i]? = some t ∧ HK T (i + 1) (k + 1) := by
  have e1 : zf (T.take (k + 1)) = (zf T).take i ++ [t] := by
    rw [take_at ht]
    unfold zf
    rw [List.filter_append]
    have := h.eq
    unfold zf at this
    rw [this]
    simp [h0]
  have e2 := zf_take T (k + 1)
  rw [e1] at e2
  have hl : ((zf T).take i).length = i := by rw [List.length_take]; omega
  have e3 : (zf T)[i]? = some t := by
    rw [← e2, List.append_assoc, List.getElem?_append_right (by omega), hl]
    simp
  exact ⟨e3, by rw [e1, take_at e3], (List.getElem?_eq_some_iff.1 ht).1⟩
theorem HK.rest (h : HK T i k) (hi : i = (zf T).length) : ∀ j t, k ≤ j → T[j]? = some t → t.2.2 ≠ 0 := by
  intro j t hj ht h0
  have e := zf_take T k
  rw [h.eq, hi, List.take_length] at e
  have hz : zf (T.drop k) = [] := by
    have := congrArg List.length e
    rw [List.length_append] at this
    exact List.length_eq_zero_iff.1 (by omega)
  have hm : t ∈ T.drop k := by
    refine List.mem_of_getElem? (i := j - k) ?_
    rw [List.getElem?_drop, show k + (j - k) = j by omega]
    exact ht
  have : t ∈ zf (T.drop k) := List.mem_filter.2 ⟨hm, by simpa using h0⟩
  rw [hz] at this
  cases this
end
theorem OnT.at_ {l : Lg} {T : List Tr} (h : OnT l T) {i : Nat} {s : St} (hs : l.ks[i]? = some s) : ∃ t, (zf T)[i]? = some t ∧ t.1 = s.nu ∧ t.2.1 = s.si := by
  have h1 : (l.ks.map (fun s => (s.nu, s.si)))[i]? = some (s.nu, s.si) := by rw [List.getElem?_map, hs]; rfl
  rw [h.ks, List.getElem?_map] at h1
  obtain ⟨t, ht, e⟩ := Option.map_eq_some_iff.1 h1
  simp only [Prod.mk.injEq] at e
  exact ⟨t, ht, e.1, e.2⟩
theorem OnT.zl {l : Lg} {T : List Tr} (h : OnT l T) : (zf T).length = l.ks.length := by
  have := congrArg List.length h.ks
  simpa [zf] using this.symm
/-- What a step leaves. -/
def Lg.stepR (l : Lg) (kd : Int) (s : St) (rs : List Sp) (ms : List Int) (x : Lg) : Prop := if kd = 1 then x = l.addBy (s.at_ l.ne) else if kd = 2 then l.ackR rs x else if kd = 3 then x = l.lostBy ms else if kd = 4 then x = l.drpd else x = l
/-- A step of a script, whichever. -/
theorem does_any {R : Nat → Prop} {lw b q : Nat} {nv zv fv kv va : Value} {l : Lg} {T : List Tr} (w : World) (h : LW R w lw b q nv zv fv kv va l T) (hT : T.length < 1100000) (h62 : l.ne ≤ 4611686018427387904) (kd hh : Int) (s : St) (R0 : Nat → Prop) (fa : Option Addr) (fc : Nat) (hf : FvAt R0 w (.slice fa s.fs.length fc) s.fs) (rs : List Sp) (ra : Option Addr) (rc : Nat) (hr : rs.length ≤ 1100000) (rd : RdS w ra rs) (ms : List Int) (ma : Option Addr) (mc : Nat) (hm : ms.length ≤ 1100000) (rdm : RdV w ma (ints ms)) (n : Int) :
    Calls Tryz.prog 13 #[.pointer (some ⟨lw, 0, none⟩), .agg (opc kd hh s (.slice fa s.fs.length fc) (.slice ra rs.length rc) (.slice ma ms.length mc) n)] w fun e w' => DoP (l.stepR kd s rs ms) R w lw b q nv zv fv kv va l T e w' := by
  by_cases k1 : kd = 1
  · subst k1; exact (does_add w h hT h62 hh s R0 fa fc _ _ n hf).mono fun _ _ d => d.weak fun x hx => by unfold Lg.stepR; rw [if_pos rfl]; exact hx
  · by_cases k2 : kd = 2
    · subst k2; exact (does_ack w h (by omega) h62 hh s _ _ n rs ra rc hr rd).mono fun _ _ d => d.weak fun x hx => by unfold Lg.stepR; rw [if_neg (by decide), if_pos rfl]; exact hx
    · by_cases k3 : kd = 3
      · subst k3; exact (does_lose w h (by omega) hh s _ _ n ms ma mc hm rdm).mono fun _ _ d => d.weak fun x hx => by unfold Lg.stepR; rw [if_neg (by decide), if_neg (by decide), if_pos rfl]; exact hx
      · by_cases k4 : kd = 4
        · subst k4; exact (does_drop w h (by omega) hh s _ _ _ n).mono fun _ _ d => d.weak fun x hx => by unfold Lg.stepR; rw [if_neg (by decide), if_neg (by decide), if_neg (by decide), if_pos rfl]; exact hx
        · exact (does_else w h kd hh s _ _ _ n rfl k1 k2 k3 k4).mono fun _ _ d => d.weak fun x hx => by unfold Lg.stepR; rw [if_neg k1, if_neg k2, if_neg k3, if_neg k4]; exact hx
end Go.Proofs.YtnflbefbgcbdfaaGreat

namespace Go.Proofs.YtnflbefbgcbdfaaGreat
open Go.RowKit
set_option linter.unusedVariables false
set_option maxRecDepth 100000
set_option maxHeartbeats 4000000

/-- The sum of the sizes; how many want an acknowledgement. -/
def flt : List St → Int
  | [] => 0
  | s :: r => s.si + flt r
def wtg : List St → Int
  | [] => 0
  | s :: r => (if s.el = true then 1 else 0) + wtg r
theorem flt_app : ∀ (A B : List St), flt (A ++ B) = flt A + flt B
  | [], B => by simp [flt]
  | s :: A, B => by simp only [List.cons_append, flt, flt_app A B]; omega
theorem wtg_app : ∀ (A B : List St), wtg (A ++ B) = wtg A + wtg B
  | [], B => by simp [wtg]
  | s :: A, B => by simp only [List.cons_append, wtg, wtg_app A B]; omega
theorem flt_next {ks : List St} {k : Nat} {s : St} (h : ks[k]? = some s) : flt (ks.take (k + 1)) = flt (ks.take k) + s.si := by
  rw [List.take_add_one, h, flt_app]; simp [flt]
theorem wtg_next {ks : List St} {k : Nat} {s : St} (h : ks[k]? = some s) : wtg (ks.take (k + 1)) = wtg (ks.take k) + (if s.el = true then 1 else 0) := by
  rw [List.take_add_one, h, wtg_app]; simp [wtg]
theorem flt_bd : ∀ (ks : List St), (∀ s ∈ ks, 0 ≤ s.si ∧ s.si ≤ 65535) → 0 ≤ flt ks ∧ flt ks ≤ ks.length * 65535
  | [], h => by simp [flt]
  | s :: r, h => by
    have h1 := h s (by simp)
    have h2 := flt_bd r (fun x hx => h x (by simp [hx]))
    simp only [flt, List.length_cons]
    omega
theorem wtg_bd : ∀ (ks : List St), 0 ≤ wtg ks ∧ wtg ks ≤ ks.length
  | [] => by simp [wtg]
  | s :: r => by
    have h2 := wtg_bd r
    simp only [wtg, List.length_cons]
    split <;> omega

/-- The cells of a view. -/
def vw (l : Lg) (f n w : Int) : Array Value := #[.bool l.op, .int .i64 l.ne, .int .i64 l.la, .int .i64 l.ls, .int .i64 (-1), .int .i64 f, .int .i64 n, .int .i64 w]

theorem Tryz.sizeSpace : (Tryz.prog.info? 52).map (·.size) = some 8 := by kernel_rfl
theorem view_any {R : Nat → Prop} (b q : Nat) (kv : Value) (l : Lg) (X : World) (hb : Blk X b (l.cs kv q) 75) (hk : KvAt R X kv l.ks) (hl : l.ks.length ≤ 1100000) (hs : ∀ s ∈ l.ks, 0 ≤ s.si ∧ s.si ≤ 65535) (hR : ∀ g, R g → g < X.heap.size) :
    Calls Tryz.prog 9 #[.pointer (some ⟨b, 0, none⟩)] X fun e Y => e = .returned (.agg (vw l (flt l.ks) l.ks.length (wtg l.ks))) ∧ X.grownBy Y none := by
  obtain ⟨W1, hW1⟩ : ∃ W1, W1 = X.alloc (.cells #[.bool false, .int .i64 0, .int .i64 0, .int .i64 0, .int .i64 0, .int .i64 0, .int .i64 0, .int .i64 0] 52) := ⟨_, rfl⟩
  have g1 : X.grownBy W1 none := by rw [hW1]; exact grown_alloc _ _
  have B1 : Blk W1 X.heap.size #[.bool false, .int .i64 0, .int .i64 0, .int .i64 0, .int .i64 0, .int .i64 0, .int .i64 0, .int .i64 0] 52 := by rw [hW1]; exact Blk.new X _ _
  have hb1 := hb.grown g1
  have hk1 := hk.grown g1
  obtain ⟨a, n, c, hkv, hn⟩ : ∃ a n c, kv = .slice a n c ∧ n = l.ks.length := by
    rcases hk.sh with ⟨e1, e2⟩ | ⟨g, c, e1, -⟩
    · exact ⟨none, 0, 0, e1, by rw [e2]; rfl⟩
    · exact ⟨_, _, c, e1, rfl⟩
  subst hkv
  have c0 : W1.cell? ⟨b, 0, none⟩ = some (.bool l.op) := hb1.cell 0 _ rfl
  have c2 : W1.cell? ⟨b, 2, none⟩ = some (.int .i64 l.ne) := hb1.cell 2 _ rfl
  have c3 : W1.cell? ⟨b, 3, none⟩ = some (.int .i64 l.la) := hb1.cell 3 _ rfl
  have c5 : W1.cell? ⟨b, 5, none⟩ = some (.int .i64 l.ls) := hb1.cell 5 _ rfl
  have c6 : W1.cell? ⟨b, 6, none⟩ = some (.slice a n c) := hb1.cell 6 _ rfl
  have d0 := cell_grown c0 (grown_alloc W1 (.cells #[.bool false, .int .i64 0, .int .i64 0, .int .i64 0, .int .i64 0, .int .i64 0, .int .i64 0, .int .i64 0] 52))
  have d2 := cell_grown c2 (grown_alloc W1 (.cells #[.bool false, .int .i64 0, .int .i64 0, .int .i64 0, .int .i64 0, .int .i64 0, .int .i64 0, .int .i64 0] 52))
  have d3 := cell_grown c3 (grown_alloc W1 (.cells #[.bool false, .int .i64 0, .int .i64 0, .int .i64 0, .int .i64 0, .int .i64 0, .int .i64 0, .int .i64 0] 52))
  have d5 := cell_grown c5 (grown_alloc W1 (.cells #[.bool false, .int .i64 0, .int .i64 0, .int .i64 0, .int .i64 0, .int .i64 0, .int .i64 0, .int .i64 0] 52))
  have d6 := cell_grown c6 (grown_alloc W1 (.cells #[.bool false, .int .i64 0, .int .i64 0, .int .i64 0, .int .i64 0, .int .i64 0, .int .i64 0, .int .i64 0] 52))
  have hnI : ¬ (9223372036854775807 : Int) < (n : Int) := by omega
  obtain ⟨r0, hr0⟩ : ∃ r0, r0 = X.heap.size := ⟨_, rfl⟩
  rw [← hr0] at B1
  have HR := hide hR
  clear hR
  have LO := hide (And.intro g1 (And.intro B1 (And.intro hb1 (And.intro hk1 (And.intro hs (And.intro hn hl))))))
  clear g1 B1 hb1 hk1 hs hb hk hn hl
  go_enter Tryz.func9, Tryz.ntmps9
  go_upto_region 1 with fail
  rw [← hW1, ← hr0]
  replace hW1 := hide hW1
  replace hr0 := hide hr0
  go_region
  obtain ⟨W2, hW2⟩ : ∃ W2, W2 = (W1.alloc (.cells #[.bool l.op, .int .i64 l.ne, .int .i64 l.la, .int .i64 l.ls, .int .i64 (-1), .int .i64 0, .int .i64 n, .int .i64 0] 52)).drew := ⟨_, rfl⟩
  have g2 : W1.grownBy W2 none := by rw [hW2]; exact grown_drew' (grown_alloc _ _)
  have e6 : W2.cell? ⟨b, 6, none⟩ = some (.slice a n c) := cell_grown c6 g2
  have B2 : Blk W2 W1.heap.size #[.bool l.op, .int .i64 l.ne, .int .i64 l.la, .int .i64 l.ls, .int .i64 (-1), .int .i64 0, .int .i64 n, .int .i64 0] 52 := by rw [hW2]; exact (Blk.new W1 _ _).drew
  rw [← hW2]
  replace hW2 := hide hW2
  obtain ⟨b3, hb3⟩ : ∃ b3, b3 = W1.heap.size := ⟨_, rfl⟩
  rw [← hb3] at B2 ⊢
  have I0 : Hid (X.grownBy W2 none ∧ Blk W2 r0 #[.bool false, .int .i64 0, .int .i64 0, .int .i64 0, .int .i64 0, .int .i64 0, .int .i64 0, .int .i64 0] 52 ∧ Blk W2 b3 (vw l (flt (l.ks.take 0)) n (wtg (l.ks.take 0))) 52 ∧ KvAt R W2 (.slice a n c) l.ks ∧ r0 < b3) := by
    obtain ⟨q1, q2, q3, q4, q5, q6⟩ := unhide LO
    exact ⟨grown_trans q1 g2, q2.grown g2, B2, q4.grown g2, by rw [hb3]; exact q2.lt⟩
  have SX : Hid (X.heap.size ≤ r0) := by show _ ≤ _; rw [unhide hr0]; exact Nat.le_refl _
  clear g2 B2 d0 d2 d3 d5 d6 c0 c2 c3 c5 c6
  replace hb3 := hide hb3
  go_upto_region 3 with fail
  clear e6
  go_loopw [33] (fun iv wr => ∃ (k : Nat), k ≤ n ∧ iv = .int .i64 k ∧ Hid (X.grownBy wr none ∧ Blk wr r0 #[.bool false, .int .i64 0, .int .i64 0, .int .i64 0, .int .i64 0, .int .i64 0, .int .i64 0, .int .i64 0] 52 ∧ Blk wr b3 (vw l (flt (l.ks.take k)) n (wtg (l.ks.take k))) 52 ∧ KvAt R wr (.slice a n c) l.ks ∧ r0 < b3)) (fun iv _ => n - (intOf iv).toNat)
  case atStart => exact ⟨0, Nat.zero_le _, rfl, I0⟩
  case round =>
    clear I0
    obtain ⟨k, hk, rfl, I⟩ := hrel
    by_cases hlt : k < n
    · have hkI : (k : Int) < (n : Int) := by omega
      obtain ⟨q1, q2, q3, q4, q5⟩ := unhide I
      obtain ⟨p1, p2, p3, p4, p5, p6, p7⟩ := unhide LO
      obtain ⟨s, hs⟩ : ∃ s, l.ks[k]? = some s := ⟨_, List.getElem?_eq_getElem (by omega)⟩
      obtain ⟨g, rfl⟩ : ∃ g, a = some ⟨g, 0, none⟩ := by
        rcases q4.sh with ⟨_, e2⟩ | ⟨g, c', e1, -⟩
        · rw [e2] at hs; simp at hs
        · injection e1 with e1; exact ⟨g, e1⟩
      subst p6
      obtain ⟨fv, hfv, hc⟩ := q4.get hs
      have y0 : wr.cell? ⟨g, k * 8, none⟩ = some (.int .i64 s.nu) := hc 0 _ rfl
      have y1 : wr.cell? ⟨g, k * 8 + 1, none⟩ = some (.int .i64 s.ti) := hc 1 _ rfl
      have y2 : wr.cell? ⟨g, k * 8 + 2, none⟩ = some (.int .i64 s.si) := hc 2 _ rfl
      have y3 : wr.cell? ⟨g, k * 8 + 3, none⟩ = some (.bool s.el) := hc 3 _ rfl
      have y4 : wr.cell? ⟨g, k * 8 + 4, none⟩ = some (.bool s.co) := hc 4 _ rfl
      have y5 : wr.cell? ⟨g, k * 8 + 5, none⟩ = some (.bool s.pr) := hc 5 _ rfl
      have y6 : wr.cell? ⟨g, k * 8 + 6, none⟩ = some (.int .i64 s.tl) := hc 6 _ rfl
      have y7 : wr.cell? ⟨g, k * 8 + 7, none⟩ = some fv := hc 7 _ rfl
      obtain ⟨-, fa, fc, css, rfl, -⟩ := hfv
      obtain ⟨Z, hZ⟩ : ∃ Z, Z = wr.alloc (.cells #[.int .i64 s.nu, .int .i64 s.ti, .int .i64 s.si, .bool s.el, .bool s.co, .bool s.pr, .int .i64 s.tl, .slice fa s.fs.length fc] 46) := ⟨_, rfl⟩
      have gZ : wr.grownBy Z none := by rw [hZ]; exact grown_alloc _ _
      have BZ : Blk Z wr.heap.size #[.int .i64 s.nu, .int .i64 s.ti, .int .i64 s.si, .bool s.el, .bool s.co, .bool s.pr, .int .i64 s.tl, .slice fa s.fs.length fc] 46 := by rw [hZ]; exact Blk.new wr _ _
      have q3Z := q3.grown gZ
      obtain ⟨F, hF⟩ : ∃ F, F = flt (l.ks.take k) := ⟨_, rfl⟩
      obtain ⟨N, hN⟩ : ∃ N, N = wtg (l.ks.take k) := ⟨_, rfl⟩
      rw [← hF, ← hN] at q3Z
      obtain ⟨zs, hzs⟩ : ∃ zs, zs = wr.heap.size := ⟨_, rfl⟩
      rw [← hzs] at BZ
      have ne3 : b3 ≠ zs := by have := q3.lt; omega
      have z5 : Z.cell? ⟨b3, 5, none⟩ = some (.int .i64 F) := q3Z.cell 5 _ rfl
      have t5 := q3Z.thaw 5
      have zs2 : Z.cell? ⟨zs, 2, none⟩ = some (.int .i64 s.si) := BZ.cell 2 _ rfl
      obtain ⟨Z1, hZ1⟩ : ∃ Z1, Z1 = Z.setCell ⟨b3, 5, none⟩ (.int .i64 (F + s.si)) := ⟨_, rfl⟩
      have q3Z1 : Blk Z1 b3 (vw l (F + s.si) l.ks.length N) 52 := by rw [hZ1]; exact q3Z.setC 5 _
      have BZ1 : Blk Z1 zs #[.int .i64 s.nu, .int .i64 s.ti, .int .i64 s.si, .bool s.el, .bool s.co, .bool s.pr, .int .i64 s.tl, .slice fa s.fs.length fc] 46 := by rw [hZ1]; exact BZ.setO b3 5 _ ne3
      have z13 : Z1.cell? ⟨zs, 3, none⟩ = some (.bool s.el) := BZ1.cell 3 _ rfl
      have z17 : Z1.cell? ⟨b3, 7, none⟩ = some (.int .i64 N) := q3Z1.cell 7 _ rfl
      have t17 := q3Z1.thaw 7
      have bF := flt_bd (l.ks.take k) (fun x hx => p5 x (List.mem_of_mem_take hx))
      have bN := wtg_bd (l.ks.take k)
      have lk : (l.ks.take k).length ≤ 1100000 := by rw [List.length_take]; omega
      have bs := p5 s (List.mem_of_getElem? hs)
      rw [← hF] at bF
      rw [← hN] at bN
      have bF1 : 0 ≤ F := bF.1
      have bF2 : F ≤ 72088500000 := by omega
      have bN1 : 0 ≤ N := bN.1
      have bN2 : N ≤ 1100000 := by omega
      have bs1 := bs.1
      have bs2 := bs.2
      have hn8 : (l.ks.length : Int) ≤ 1100000 := by omega
      have hkv := q4
      have sx : X.heap.size ≤ b3 := by have := unhide SX; omega
      have ng : ∀ g', Value.ownBlock (.slice (some ⟨g, 0, none⟩) l.ks.length c) = some g' → g' ≠ b3 := by
        intro g' e1 e2
        subst e2
        injection e1 with e1
        have e1 : g = g' := e1
        subst e1
        have r := q3.cell 0 _ rfl
        obtain ⟨fvs, -, ho, -⟩ := q4
        rcases ho.2 with ⟨e, -⟩ | ⟨g'', c', cur, e, -, u, -⟩
        · cases e
        · injection e with e
          injection e with e
          injection e with e
          subst e
          have := u.symm.trans q3
          simp at this
      have GO := hide (And.intro hF (And.intro hN (And.intro hs (And.intro sx (And.intro ng (And.intro gZ (And.intro q3Z1 BZ1)))))))
      clear q1 q2 q3 q4 q5 p1 p2 p3 p4 p5 p7 gZ BZ q3Z hF hN q3Z1 BZ1 bF bN lk bs hkv sx ng hs hc hnI
      go_upto_region 5 with fail
      rw [← hZ, ← hzs]
      replace hZ := hide hZ
      replace hzs := hide hzs
      clear y0 y1 y2 y3 y4 y5 y6 y7
      go_upto_region 6 with fail
      rw [← hZ1]
      have STEP : ∀ (W' : World) (N' : Int), (W' = Z1 ∧ N' = N ∧ s.el = false ∨ W' = Z1.setCell ⟨b3, 7, none⟩ (.int .i64 (N + 1)) ∧ N' = N + 1 ∧ s.el = true) → Hid (X.grownBy W' none ∧ Blk W' r0 #[.bool false, .int .i64 0, .int .i64 0, .int .i64 0, .int .i64 0, .int .i64 0, .int .i64 0, .int .i64 0] 52 ∧ Blk W' b3 (vw l (flt (l.ks.take (k + 1))) l.ks.length (wtg (l.ks.take (k + 1)))) 52 ∧ KvAt R W' (.slice (some ⟨g, 0, none⟩) l.ks.length c) l.ks ∧ r0 < b3) := by
        intro W' N' hW
        obtain ⟨q1, q2, q3, q4, q5⟩ := unhide I
        obtain ⟨hF, hN, hs, sx, ng, gZ, q3Z1, BZ1⟩ := unhide GO
        have e1 : F + s.si = flt (l.ks.take (k + 1)) := by rw [flt_next hs, hF]
        have x1 : X.grownBy Z1 none := by rw [hZ1]; exact grown_set (grown_trans q1 gZ) _ _ _ sx
        have x2 : Blk Z1 r0 #[.bool false, .int .i64 0, .int .i64 0, .int .i64 0, .int .i64 0, .int .i64 0, .int .i64 0, .int .i64 0] 52 := by rw [hZ1]; exact (q2.grown gZ).setO b3 5 _ (by omega)
        have nR : ∀ b, R b → b ≠ b3 := fun b hb => by have := unhide HR b hb; omega
        have x4 : KvAt R Z1 (.slice (some ⟨g, 0, none⟩) l.ks.length c) l.ks := by
          rw [hZ1]
          exact (q4.grown gZ).kept (fun b hb => set_heap _ _ _ _ _ (nR b hb)) (fun g' hg' => set_heap _ _ _ _ _ (ng g' hg'))
        rcases hW with ⟨rfl, rfl, el⟩ | ⟨rfl, rfl, el⟩
        · have e2 : N' = wtg (l.ks.take (k + 1)) := by rw [wtg_next hs, hN, el]; simp
          rw [e1, e2] at q3Z1
          exact ⟨x1, x2, q3Z1, x4, q5⟩
        · have e2 : N + 1 = wtg (l.ks.take (k + 1)) := by rw [wtg_next hs, hN, el]; simp
          refine ⟨grown_set x1 _ _ _ sx, x2.setO b3 7 _ (by omega), ?_, x4.kept (fun b hb => set_heap _ _ _ _ _ (nR b hb)) (fun g' hg' => set_heap _ _ _ _ _ (ng g' hg')), q5⟩
          rw [e1] at q3Z1
          rw [← e2]
          exact q3Z1.setC 7 _
      have ST := hide STEP
      clear STEP GO I hZ1 z5 t5 zs2
      cases el : s.el
      · rw [el] at z13
        go_wp2_with fail
        exact ⟨⟨k + 1, hlt, rfl, unhide ST _ N (.inl ⟨rfl, rfl, el⟩)⟩, by simp [intOf]; omega⟩
      · rw [el] at z13
        go_wp2_with fail
        exact ⟨⟨k + 1, hlt, rfl, unhide ST _ (N + 1) (.inr ⟨rfl, rfl, el⟩)⟩, by simp [intOf]; omega⟩
    · obtain rfl : k = n := by omega
      have hkI : ¬ (k : Int) < (k : Int) := by omega
      obtain ⟨q1, q2, q3, q4, q5⟩ := unhide I
      obtain ⟨p1, p2, p3, p4, p5, p6, p7⟩ := unhide LO
      have ek : l.ks.take k = l.ks := by rw [p6]; exact List.take_length
      rw [ek] at q3
      obtain ⟨F, hF⟩ : ∃ F, F = flt l.ks := ⟨_, rfl⟩
      obtain ⟨N, hN⟩ : ∃ N, N = wtg l.ks := ⟨_, rfl⟩
      rw [← hF, ← hN] at q3
      have fin : Hid (X.grownBy (wr.setRow r0 #[.bool l.op, .int .i64 l.ne, .int .i64 l.la, .int .i64 l.ls, .int .i64 (-1), .int .i64 F, .int .i64 k, .int .i64 N]) none ∧ Blk (wr.setRow r0 #[.bool l.op, .int .i64 l.ne, .int .i64 l.la, .int .i64 l.ls, .int .i64 (-1), .int .i64 F, .int .i64 k, .int .i64 N]) r0 #[.bool l.op, .int .i64 l.ne, .int .i64 l.la, .int .i64 l.ls, .int .i64 (-1), .int .i64 F, .int .i64 k, .int .i64 N] 52 ∧ (.agg (vw l F k N) : Value) = .agg (vw l (flt l.ks) l.ks.length (wtg l.ks))) := ⟨grown_row q1 _ _ (unhide SX), q2.row _, by rw [hF, hN, p6]⟩
      obtain ⟨y0, y1, y2, y3, y4, y5, y6, y7⟩ : wr.cell? ⟨b3, 0, none⟩ = some (.bool l.op) ∧ wr.cell? ⟨b3, 1, none⟩ = some (.int .i64 l.ne) ∧ wr.cell? ⟨b3, 2, none⟩ = some (.int .i64 l.la) ∧ wr.cell? ⟨b3, 3, none⟩ = some (.int .i64 l.ls) ∧ wr.cell? ⟨b3, 4, none⟩ = some (.int .i64 (-1)) ∧ wr.cell? ⟨b3, 5, none⟩ = some (.int .i64 F) ∧ wr.cell? ⟨b3, 6, none⟩ = some (.int .i64 k) ∧ wr.cell? ⟨b3, 7, none⟩ = some (.int .i64 N) := ⟨q3.cell 0 _ rfl, q3.cell 1 _ rfl, q3.cell 2 _ rfl, q3.cell 3 _ rfl, q3.cell 4 _ rfl, q3.cell 5 _ rfl, q3.cell 6 _ rfl, q3.cell 7 _ rfl⟩
      have Q2 := hide q2
      clear q1 q2 q3 q4 q5 p1 p2 p3 p4 p5 p6 p7 ek hF hN I LO
      go_wp2_with (refine wpList_store_row rfl _ _ _ rfl r0 #[.bool l.op, .int .i64 l.ne, .int .i64 l.la, .int .i64 l.ls, .int .i64 (-1), .int .i64 F, .int .i64 k, .int .i64 N] rfl rfl 52 _ (unhide Q2) Tryz.sizeSpace rfl (by simp [Value.oneCell']) ?_)
      refine bodyPost_ret (results_cell_row rfl _ _ r0 52 #[.bool l.op, .int .i64 l.ne, .int .i64 l.la, .int .i64 l.ls, .int .i64 (-1), .int .i64 F, .int .i64 k, .int .i64 N] (0, 0) _ rfl (unhide fin).2.1 Tryz.underlying52 rfl Tryz.sizeSpace) rfl ?_
      exact ⟨congrArg Ending.returned (unhide fin).2.2, (unhide fin).1⟩
end Go.Proofs.YtnflbefbgcbdfaaGreat

namespace Go.Proofs.YtnflbefbgcbdfaaGreat
open Go.RowKit
set_option linter.unusedVariables false
set_option maxRecDepth 100000
set_option maxHeartbeats 1000000

/-- A ledger that was made since w0. -/
structure SH (w0 w : World) (b q : Nat) (kv va : Value) (l : Lg) (R : Nat → Prop) : Prop where
  lg : LgAt R w b q kv va l
  kp : Kp (fun x => w0.heap.size ≤ x) w0 w
  lb : w0.heap.size ≤ b
  lq : w0.heap.size ≤ q
  lk : ∀ g, kv.ownBlock = some g → w0.heap.size ≤ g
  lv : ∀ g, va.ownBlock = some g → w0.heap.size ≤ g
section
variable {w0 w : World} {b q : Nat} {kv va : Value} {l : Lg} {R : Nat → Prop}
theorem SH.grown {w' : World} (h : SH w0 w b q kv va l R) (g : w.grownBy w' none) : SH w0 w' b q kv va l R := ⟨h.lg.grown g, h.kp.trans (Kp.grown g _), h.lb, h.lq, h.lk, h.lv⟩
theorem SH.end (h : SH w0 w b q kv va l R) : w0.grownBy w none := ⟨h.kp.os, h.kp.tape, h.kp.output, h.kp.size, fun x hx _ => h.kp.block x hx (fun e => by omega)⟩
theorem fv_none (R : Nat → Prop) (W : World) : FvAt R W (.slice none 0 0) [] := ⟨by simp, none, 0, [], rfl, ⟨rfl, fun i c f h => by simp at h⟩, rdv_nil _ _, fun q => absurd rfl q⟩
theorem sh_new (first : Int) (w0 : World) (h : 0 ≤ first ∧ first ≤ 4611686018427387903) :
    Calls Tryz.prog 6 #[.int .i64 first] w0 fun e w' => ∃ b q, e = .returned (.tuple #[.pointer (some ⟨b, 0, none⟩), .int .i64 0]) ∧ SH w0 w' b q (.slice none 0 0) (.slice none 0 0) (Lg.fresh first) (fun _ => False) := by
  refine (lnew_good first w0 h).mono ?_
  rintro e w' ⟨b, q, rfl, hb, hs, -, l1, l2, g⟩
  exact ⟨b, q, rfl, LgAt.new hb hs, Kp.grown g _, l1, l2, fun g e => (by cases e), fun g e => (by cases e)⟩
theorem sh_add (h : SH w0 w b q kv va l R) (s : St) (hm : l.may s = 0) (hco : s.co = true) (hne : 0 ≤ l.ne) (hk : l.ks.length < 256) (hs : s.fs = []) :
    Calls Tryz.prog 18 #[.pointer (some ⟨b, 0, none⟩), .agg (s.cs (.slice none 0 0))] w fun e w' => ∃ oa oc kv' R', e = .returned (.tuple #[.slice oa 0 oc, .int .i64 0]) ∧ SH w0 w' b q kv' va (l.added s) R' := by
  have e0 : s.cs (.slice none 0 0) = s.cs (.slice none s.fs.length 0) := by rw [hs]; rfl
  rw [e0]
  refine (add_more b q kv va l R (fun _ => False) s none 0 w h.lg (by rw [hs]; exact fv_none _ _) id hm hco hne (by omega)).mono ?_
  rintro e w' ⟨ov, Ro, kv', R', rfl, p2, p3, p4, p5, p6, p7, p8⟩
  have ho : (l.added s).over = fun _ => false := over_no (by show (l.ks ++ [s]).length ≤ 256; rw [List.length_append, List.length_singleton]; omega)
  rw [ho] at p2 p5
  have e1 : (l.added s).left (fun _ => false) = l.added s := by unfold Lg.left; rw [List.filter_eq_self.2 (fun x _ => by simp)]
  have e2 : (l.added s).ks.filter (fun x => (fun _ : Int => false) x.nu) = [] := by simp
  rw [e1] at p5
  rw [e2] at p2
  have sz := h.kp.size
  obtain ⟨oa, oc, hov⟩ : ∃ oa oc, ov = .slice oa 0 oc := by
    rcases p2.sh with ⟨e, -⟩ | ⟨g, c, e, -⟩
    · exact ⟨none, 0, e⟩
    · exact ⟨_, c, e⟩
  subst hov
  refine ⟨oa, oc, kv', R', rfl, p5, h.kp.trans (p8.mono fun x _ e => ?_), h.lb, h.lq, fun g e => ?_, h.lv⟩
  · rcases e with e | e
    · rw [e]; exact h.lb
    · exact h.lk x e
  · rcases p6 with q1 | q1
    · rw [q1] at e; exact h.lk g e
    · have := q1 g e; omega
theorem sh_bare (h : SH w0 w b q kv va l R) (s : St) (hm : l.may s = 0) (hco : s.co = false) (hne : 0 ≤ l.ne) (hs : s.fs = []) :
    Calls Tryz.prog 18 #[.pointer (some ⟨b, 0, none⟩), .agg (s.cs (.slice none 0 0))] w fun e w' => e = .returned (.tuple #[.slice none 0 0, .int .i64 0]) ∧ SH w0 w' b q kv va ⟨l.op, l.fi, s.nu + 1, l.la, s.ti, l.ls, l.ks, l.ac⟩ R := by
  refine (add_bare b q kv l s none 0 0 w h.lg.blk hm hco hne).mono ?_
  rintro e w1 ⟨rfl, bb, g1⟩
  have k1 : Kp (fun x => x = b) w w1 := Kp.grownS g1 rfl
  have dV := h.lg.diff
  have hqV : Blk w q _ 116 := h.lg.set.blk
  refine ⟨rfl, ⟨bb, ?_, ?_, fun g hg => Nat.lt_of_lt_of_le (h.lg.low g hg) g1.size, h.lg.nb, h.lg.nq, h.lg.nk, h.lg.na⟩, h.kp.trans (k1.mono fun x _ e => by rw [e]; exact h.lb), h.lb, h.lq, h.lk, h.lv⟩
  · exact h.lg.set.kept (k1.block q hqV.lt (Ne.symm dV.bq)) (fun g e => k1.block g (row_lt h.lg.set.row g e) (dV.vb g e).1)
  · exact h.lg.row.kept (fun g hg => k1.block g (h.lg.low g hg) (fun e => h.lg.nb (e ▸ hg))) (fun g e => k1.block g (h.lg.row.lt g e) (dV.kb g e).1)
theorem sh_ack (h : SH w0 w b q kv va l R) (v : Value) (rs : List Sp) (hv : Row w v rs) (hvb : ∀ g, v.ownBlock = some g → g ≠ b ∧ g ≠ q ∧ va.ownBlock ≠ some g) (hr : rs.length ≤ 1100000) (hm : l.mayAck rs = 0) (hac : AcOk l.ac) (hne : l.ne ≤ 4611686018427387904) (hn : l.ks.length ≤ 1100000) :
    Calls Tryz.prog 15 #[.pointer (some ⟨b, 0, none⟩), v] w fun e w' => ∃ P ov Ro kv' va', P.Perm rs ∧ e = .returned (.tuple #[ov, .int .i64 0]) ∧ KvAt Ro w' ov (l.ks.filter (fun s => memB s.nu (putL [] P))) ∧ SH w0 w' b q kv' va' ((l.ackd rs).left (fun k => memB k (putL [] P))) R := by
  refine (ack_ok b q kv va l R w v rs h.lg hv hvb hr hm hac hne hn).mono ?_
  rintro e w' ⟨P, ov, Ro, kv', va', hP, rfl, p2, p3, p4, p5, p6, p7, p8⟩
  have sz := h.kp.size
  refine ⟨P, ov, Ro, kv', va', hP, rfl, p2, p5, h.kp.trans (p8.mono fun x _ e => ?_), h.lb, h.lq, fun g e => h.lk g (by rw [← p6]; exact e), fun g e => ?_⟩
  · rcases e with e | e | e | e
    · rw [e]; exact h.lb
    · rw [e]; exact h.lq
    · exact h.lk x e
    · exact h.lv x e
  · rcases p7 with q1 | q1
    · rw [q1] at e; exact h.lv g e
    · have := q1 g e; omega
end
end Go.Proofs.YtnflbefbgcbdfaaGreat

namespace Go.Proofs.YtnflbefbgcbdfaaGreat
open Go.RowKit
set_option linter.unusedVariables false
set_option maxRecDepth 100000
set_option maxHeartbeats 1000000

def s7 : St := ⟨7, 5, 100, true, true, false, 0, []⟩
def s8 : St := ⟨8, 6, 0, false, false, false, 0, []⟩
def s9 : St := ⟨9, 6, 100, true, true, false, 0, []⟩
def lA : Lg := (Lg.fresh 7).added s7
def lB : Lg := ⟨lA.op, lA.fi, s8.nu + 1, lA.la, s8.ti, lA.ls, lA.ks, lA.ac⟩
def lC : Lg := lB.added s9
def lD : Lg := (lC.ackd [(8, 9)]).left (fun k => memB k (putL [] [(8, 9)]))
theorem mA : (Lg.fresh 7).may s7 = 0 := by decide
theorem mB : lA.may s8 = 0 := by decide
theorem mC : lB.may s9 = 0 := by decide
theorem mD1 : lC.mayAck [(10, 10)] = 130 := by decide
theorem mD2 : lC.mayAck [(8, 9)] = 0 := by decide
theorem b7 : memB 7 (putL [] [(8, 9)]) = false := by decide
theorem b9 : memB 9 (putL [] [(8, 9)]) = true := by decide
theorem kC : lC.ks = [s7, s9] := rfl
theorem oD : lC.ks.filter (fun s => memB s.nu (putL [] [(8, 9)])) = [s9] := by
  rw [kC]
  have e7 : memB s7.nu (putL [] [(8, 9)]) = false := b7
  have e9 : memB s9.nu (putL [] [(8, 9)]) = true := b9
  simp [e7, e9]
theorem kD : lD.ks = [s7] := by
  show lC.ks.filter (fun s => !memB s.nu (putL [] [(8, 9)])) = [s7]
  rw [kC]
  have e7 : memB s7.nu (putL [] [(8, 9)]) = false := b7
  have e9 : memB s9.nu (putL [] [(8, 9)]) = true := b9
  simp [e7, e9]
theorem aD : lD.ac = [(8, 9)] := by decide
theorem tD1 : lD.told 8 8 = true := by decide
theorem tD2 : lD.told 0 7 = false := by decide
theorem vD : vw lD (flt lD.ks) lD.ks.length (wtg lD.ks) = #[.bool true, .int .i64 10, .int .i64 9, .int .i64 6, .int .i64 (-1), .int .i64 100, .int .i64 1, .int .i64 1] := by
  rw [kD]
  have h1 : lD.ne = 10 := rfl
  have h2 : lD.la = 9 := by decide
  have h3 : lD.ls = 6 := rfl
  have h4 : lD.op = true := rfl
  unfold vw
  rw [h1, h2, h3, h4]
  rfl
theorem row_one (W : World) (x y : Int) : Row (W.alloc (.cells #[.int .i64 x, .int .i64 y] 63)) (.slice (some ⟨W.heap.size, 0, none⟩) 1 1) [(x, y)] := by
  have hb : Blk (W.alloc (.cells #[.int .i64 x, .int .i64 y] 63)) W.heap.size #[.int .i64 x, .int .i64 y] 63 := Blk.new _ _ _
  exact ⟨rfl, .inr ⟨W.heap.size, 1, _, rfl, Nat.zero_le _, hb, Nat.le_refl _, by unfold maxLen; omega, rfl, rfl⟩⟩

theorem shown_any (w0 : World) : Calls Tryz.prog 5 #[] w0 fun e w' => e = .returned (.bool true) ∧ w0.grownBy w' none := by
  have hnew := sh_new 7 w0 (by omega)
  go_enter Tryz.func5, Tryz.ntmps5
  go_wp2_with fail
  refine hnew.mono ?_
  rintro e X0 ⟨b, q, rfl, h0⟩
  have hA : Calls Tryz.prog 18 #[.pointer (some ⟨b, 0, none⟩), .agg #[.int .i64 7, .int .i64 5, .int .i64 100, .bool true, .bool true, .bool false, .int .i64 0, .slice none 0 0]] X0 fun e w' => ∃ oa oc kv' R', e = .returned (.tuple #[.slice oa 0 oc, .int .i64 0]) ∧ SH w0 w' b q kv' (.slice none 0 0) lA R' := sh_add h0 s7 mA rfl (by decide) (by decide) rfl
  clear hnew h0
  go_wp2_with fail
  refine hA.mono ?_
  rintro e X1 ⟨a1, c1, kv1, R1, rfl, h1⟩
  have hB : Calls Tryz.prog 18 #[.pointer (some ⟨b, 0, none⟩), .agg #[.int .i64 8, .int .i64 6, .int .i64 0, .bool false, .bool false, .bool false, .int .i64 0, .slice none 0 0]] X1 fun e w' => e = .returned (.tuple #[.slice none 0 0, .int .i64 0]) ∧ SH w0 w' b q kv1 (.slice none 0 0) lB R1 := sh_bare h1 s8 mB rfl (by decide) rfl
  clear hA h1
  go_wp2_with fail
  refine hB.mono ?_
  rintro e X2 ⟨rfl, h2⟩
  have hC : Calls Tryz.prog 18 #[.pointer (some ⟨b, 0, none⟩), .agg #[.int .i64 9, .int .i64 6, .int .i64 100, .bool true, .bool true, .bool false, .int .i64 0, .slice none 0 0]] X2 fun e w' => ∃ oa oc kv' R', e = .returned (.tuple #[.slice oa 0 oc, .int .i64 0]) ∧ SH w0 w' b q kv' (.slice none 0 0) lC R' := sh_add h2 s9 mC rfl (by decide) (by decide) rfl
  clear hB h2
  go_wp2_with fail
  refine hC.mono ?_
  rintro e X3 ⟨a3, c3, kv3, R3, rfl, h3⟩
  have h3a := h3.grown (grown_alloc X3 (.cells #[.int .i64 10, .int .i64 10] 63))
  have hD := ack_bad b q kv3 (.slice none 0 0) lC R3 _ _ [(10, 10)] h3a.lg (row_one X3 10 10) (by simp) (by rw [mD1]; decide)
  rw [mD1] at hD
  have H3 := hide h3a
  clear hC h3 h3a
  go_wp2_with fail
  refine hD.mono ?_
  rintro e X4 ⟨rfl, g4⟩
  have h4 := (unhide H3).grown g4
  have h4a := h4.grown (grown_alloc X4 (.cells #[.int .i64 8, .int .i64 9] 63))
  have hE := sh_ack h4a (.slice (some ⟨X4.heap.size, 0, none⟩) 1 1) [(8, 9)] (row_one X4 8 9) (fun g e => by
    injection e with e
    subst e
    have hq : Blk X4 q _ 116 := h4.lg.set.blk
    have := h4.lg.blk.lt
    have := hq.lt
    exact ⟨by show X4.heap.size ≠ b; omega, by show X4.heap.size ≠ q; omega, fun e => by cases e⟩) (by simp) mD2 ⟨trivial, by decide⟩ (by decide) (by decide)
  clear hD H3 h4 h4a g4
  go_wp2_with fail
  refine hE.mono ?_
  rintro e X5 ⟨P, ov, Ro, kv5, va5, hP, rfl, ho, h5⟩
  have hP1 : P = [(8, 9)] := List.perm_singleton.1 hP
  subst hP1
  rw [oD] at ho
  have h5 : SH w0 X5 b q kv5 va5 lD R3 := h5
  obtain ⟨go, oc, hov⟩ : ∃ go oc, ov = .slice (some ⟨go, 0, none⟩) 1 oc := by
    rcases ho.sh with ⟨-, e⟩ | ⟨g, c, e, -⟩
    · cases e
    · exact ⟨g, c, e⟩
  subst hov
  obtain ⟨fw, -, hcl⟩ := KvAt.get (ks := [s9]) ho (k := 0) rfl
  have y0 : X5.cell? ⟨go, 0, none⟩ = some (.int .i64 9) := hcl 0 _ rfl
  have ok5 : Ok lD.ac := by
    have hg := (addS_good (L := []) (lo := 8) (hi := 9) (most := 256) trivial (by omega) (by omega)).1
    rw [show addS 256 8 9 [] = [(8, 9)] by decide] at hg
    rw [aD]
    exact ⟨hg, by decide⟩
  have hF := told_any b q kv5 va5 lD 8 8 X5 h5.lg.blk h5.lg.set ok5
  rw [tD1] at hF
  have H5 := hide h5
  clear hE ho hcl h5 hP
  go_wp2_with fail
  refine hF.mono ?_
  rintro e X6 ⟨rfl, g6⟩
  have h6 := (unhide H5).grown g6
  have y6 := cell_grown y0 g6
  have hG := told_any b q kv5 va5 lD 0 7 X6 h6.lg.blk h6.lg.set ok5
  rw [tD2] at hG
  have H6 := hide h6
  clear hF h6 g6 y0 H5
  go_wp2_with fail
  refine hG.mono ?_
  rintro e X7 ⟨rfl, g7⟩
  have h7 := (unhide H6).grown g7
  have y7 := cell_grown y6 g7
  have hV := view_any b q kv5 lD X7 h7.lg.blk h7.lg.row (by rw [kD]; decide) (by rw [kD]; intro s hs; simp at hs; subst hs; decide) h7.lg.low
  rw [vD] at hV
  have H7 := hide h7
  clear hG h7 g7 y6 H6 ok5
  go_wp2_with fail
  refine hV.mono ?_
  rintro e X8 ⟨rfl, g8⟩
  have h8 := (unhide H7).grown g8
  have y8 := cell_grown y7 g8
  obtain ⟨X9, hX9⟩ : ∃ X9, X9 = X8.alloc (.cells #[.bool true, .int .i64 10, .int .i64 9, .int .i64 6, .int .i64 (-1), .int .i64 100, .int .i64 1, .int .i64 1] 52) := ⟨_, rfl⟩
  have g9 : X8.grownBy X9 none := by rw [hX9]; exact grown_alloc _ _
  have y9 := cell_grown y8 g9
  have bX9 : Blk X9 X8.heap.size #[.bool true, .int .i64 10, .int .i64 9, .int .i64 6, .int .i64 (-1), .int .i64 100, .int .i64 1, .int .i64 1] 52 := by rw [hX9]; exact Blk.new _ _ _
  obtain ⟨bx, hbx⟩ : ∃ bx, bx = X8.heap.size := ⟨_, rfl⟩
  rw [← hbx] at bX9
  obtain ⟨x0, x1, x2, x3, x4, x5, x6, x7⟩ := cells8 bX9
  have FIN := hide (h8.grown g9).end
  clear hV h8 g8 y7 y8 H7 bX9 g9
  go_upto_region 12 with fail
  rw [← hX9, ← hbx]
  replace hX9 := hide hX9
  replace hbx := hide hbx
  go_wp2_with fail
  all_goals go_ret
  all_goals exact ⟨rfl, unhide FIN⟩
end Go.Proofs.YtnflbefbgcbdfaaGreat

namespace Go.Proofs.YtnflbefbgcbdfaaGreat
open Go.RowKit
set_option linter.unusedVariables false
set_option maxRecDepth 100000
set_option maxHeartbeats 1000000

theorem LOk.new (first : Int) (h : 0 ≤ first) : LOk (Lg.fresh first) [] :=
  ⟨⟨rfl, List.Pairwise.nil, fun t ht => by cases ht⟩, ⟨trivial, Nat.zero_le 256⟩, h, Nat.zero_le 256, fun s hs => by cases hs⟩
theorem LW.new {w0 w : World} {b q lw : Nat} {first : Int} (h : SH w0 w b q (.slice none 0 0) (.slice none 0 0) (Lg.fresh first) (fun _ => False)) (h0 : 0 ≤ first) (hb : Blk w lw (ldc b (.slice none 0 0) (.slice none 0 0) (.slice none 0 0) first true) 60) :
    LW (fun _ => False) w lw b q (.slice none 0 0) (.slice none 0 0) (.slice none 0 0) (.slice none 0 0) (.slice none 0 0) (Lg.fresh first) [] :=
  ⟨hb, IR.nil _ _, IR.nil _ _, IR.nil _ _, h.lg, fun g e => (by cases e), fun g e => e.elim, LOk.new first h0⟩
/-- Many steps: what a load and its ledger write lies above what was there. -/
structure LM (w0 : World) (N0 : Int) (R : Nat → Prop) (w : World) (lw b q : Nat) (nv zv fv kv va : Value) (l : Lg) (T : List Tr) (k : Nat) : Prop where
  lw_ : LW R w lw b q nv zv fv kv va l T
  kp : Kp (fun x => w0.heap.size ≤ x) w0 w
  lo : ∀ x, ownL lw b q nv zv fv kv va x → w0.heap.size ≤ x
  tl : T.length ≤ k
  ne : l.ne ≤ N0 + k
theorem LM.step {w0 w w' : World} {N0 : Int} {R : Nat → Prop} {lw b q : Nat} {nv zv fv kv va : Value} {l : Lg} {T : List Tr} {k : Nat} {e : Ending} {D : Lg → Prop} (h : LM w0 N0 R w lw b q nv zv fv kv va l T k) (d : DoP D R w lw b q nv zv fv kv va l T e w') :
    e = .returned (.bool true) ∧ ∃ R' nv' zv' fv' kv' va' l' T', LM w0 N0 R' w' lw b q nv' zv' fv' kv' va' l' T' (k + 1) ∧ l'.fi = l.fi ∧ D l' := by
  obtain ⟨R', nv', zv', fv', kv', va', l', T', rfl, d1, d2, d3, d4, d5, d6, d7, d8⟩ := d
  have sz := h.kp.size
  refine ⟨rfl, R', nv', zv', fv', kv', va', l', T', ⟨d1, h.kp.trans (d2.mono fun x _ e => h.lo x e), fun x hx => ?_, ?_, ?_⟩, d7, d8⟩
  · rcases d3 x hx with q1 | q1
    · exact h.lo x q1
    · omega
  · have := h.tl; omega
  · have := h.ne; omega
theorem LM.grown {w0 w w' : World} {N0 : Int} {R : Nat → Prop} {lw b q : Nat} {nv zv fv kv va : Value} {l : Lg} {T : List Tr} {k : Nat} (h : LM w0 N0 R w lw b q nv zv fv kv va l T k) (g : w.grownBy w' none) : LM w0 N0 R w' lw b q nv zv fv kv va l T k := ⟨h.lw_.grown g, h.kp.trans (Kp.grown g _), h.lo, h.tl, h.ne⟩
end Go.Proofs.YtnflbefbgcbdfaaGreat
