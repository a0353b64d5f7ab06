/- L6A, L6B, L7X, L7Y, L7A, one text. -/
import Derived.Test.YtnflbefbgcbdfaaL8C
import Derived.WalkKit
import Derived.Below
import Derived.RangeFuncNested
import Derived.RangeFuncLeaves
import Derived.RangeFuncBound
import Derived.Sort.CutIn
import Derived.Sort.QuietIn
import Derived.Shelf.RegionOpen
import Derived.OwnWalkIn
namespace Go.Proofs.Ytnflbefbgcbdfaa
open Go.RowKit
set_option linter.unusedVariables false
set_option linter.unusedSimpArgs false
set_option maxRecDepth 100000
set_option maxHeartbeats 1000000

theorem eqnilS (W : World) (a : Option Addr) (n c : Nat) : (binOp .eql 49 (.slice a n c) (.slice none 0 0)).run Try.prog W = .ok (.bool a.isNone) W := Lib.run_eql_slice_nil W _ _ a n c 0 0 Try.underlying49

theorem clone_sent (R : Nat → Prop) (W : World) (kv : Value) (ks : List St) (h : KvAt R W kv ks) (hn : ks.length ≤ 1100000) :
    Calls Try.prog 27 #[kv] W fun e W' => ∃ v', e = .returned v' ∧ KvAt R W' v' ks ∧ Fresh W v' ∧ W.grownBy W' none := by
  rcases h.sh with ⟨rfl, rfl⟩ | ⟨g, c, rfl, hc⟩
  · go_enter Try.func27, Try.ntmps27
    go_wp2_with (simp only [eqnilS, Option.isNone_none])
    all_goals go_ret
    all_goals exact ⟨_, rfl, KvAt.nil _ _, fresh_nil _, grown_self _ _⟩
  · obtain ⟨A, hA⟩ : ∃ A, A = W.alloc (.cells #[] 36) := ⟨_, rfl⟩
    have gA : W.grownBy A none := by rw [hA]; exact grown_alloc _ _
    have bA : Blk A W.heap.size #[] 36 := by rw [hA]; exact Blk.new _ _ _
    have hfr : Fresh W (.slice (some ⟨W.heap.size, 0, none⟩) 0 0) := fun k hk => by injection hk with hk; exact Nat.le_of_eq hk
    obtain ⟨i, hi, hz0, hz1, hz2⟩ := info_parts Try.infoSe
    have AP : ∃ v' W', (Builtin.append_ #[49, 49] 49 #[.slice (some ⟨W.heap.size, 0, none⟩) 0 0, .slice (some ⟨g, 0, none⟩) ks.length c]).run Try.prog A = .ok v' W' ∧ KvAt R W' v' ks ∧ Fresh W v' ∧ W.grownBy W' none := by
      obtain ⟨fvs, h1, h2w, h3⟩ := h
      have h2 : A.ownsRow 0 36 8 (.slice (some ⟨g, 0, none⟩) ks.length c) ks.length (skl ks fvs).flatten := World.ownsRow.kept (row := none) h2w gA (by simp [Value.ownBlock])
      by_cases h0 : ks.length = 0
      · have e0 : ks = [] := List.length_eq_zero_iff.1 h0
        subst e0
        refine ⟨.slice (some ⟨W.heap.size, 0, none⟩) 0 0, A, ?_, ?_, hfr, gA⟩
        · simp [Builtin.append_, run_underlying Try.underlying49, sizeOf, typeInfo, hi, Builtin.lenOf, Builtin.firstCells, storeCells, loadCells, loadCellsFrom]
        · exact ⟨[], rfl, ⟨rfl, .inr ⟨W.heap.size, 0, #[], rfl, Nat.zero_le _, bA, Nat.le_refl _, Nat.zero_le _, rfl, rfl⟩⟩, fun i s fv h => by simp at h⟩
      · rcases h2.2 with ⟨e1, e2⟩ | ⟨g', c', cur, e1, q1, q2, q3, q4, q5, q6⟩
        · cases e1
        · injection e1 with e1 e1b e1c
          injection e1 with e1
          injection e1 with e1
          subst e1
          have own0 : A.ownsRow W.heap.size 36 8 (.slice (some ⟨W.heap.size, 0, none⟩) 0 0) 0 [] := ⟨rfl, .inr ⟨W.heap.size, 0, #[], rfl, Nat.le_refl _, bA, Nat.le_refl _, Nat.zero_le _, rfl, rfl⟩⟩
          have hone : ∀ u ∈ (skl ks fvs).flatten, u.oneCell' = true := by
            intro u hu
            obtain ⟨cs, hcs, huc⟩ := List.mem_flatten.1 hu
            obtain ⟨j, hj⟩ := List.getElem?_of_mem hcs
            simp only [skl, List.getElem?_zipWith] at hj
            split at hj
            · rename_i s fv e3 e4
              cases hj
              have hfv := (h3 j s fv e3 e4).one
              simp only [St.cs, List.mem_cons, List.not_mem_nil, or_false] at huc
              rcases huc with rfl | rfl | rfl | rfl | rfl | rfl | rfl | rfl <;> first | rfl | exact hfv
            · cases hj
          obtain ⟨v', W', hr, ho, hg, hnil⟩ := run_append_own (P := Try.prog) A W.heap.size 49 49 36 i _ 8 64 Try.underlying49 hi hz0 hz1 hz2 rfl (by decide) _ 0 [] own0 ⟨g, 0, none⟩ ks.length c (skl ks fvs).flatten h2.1 (fun j u hj => by
            rw [Addr.add_lit, Nat.zero_add]
            have hj2 := (List.getElem?_eq_some_iff.1 hj).1
            rw [h2.1] at hj2
            rw [← q6, List.getElem?_take, if_pos hj2, Array.getElem?_toList] at hj
            unfold World.cell?
            rw [q2]
            exact hj) hone (by unfold maxLen; omega) (by omega) (by have := bA.lt; omega)
          have gW : W.grownBy W' none := ⟨hg.os.trans gA.os, hg.tape.trans gA.tape, hg.output.trans gA.output, Nat.le_trans gA.size hg.size, fun x hx _ => (hg.block x (Nat.lt_of_lt_of_le hx gA.size) (fun e => by injection e with e; simp at e; omega)).trans (gA.block x hx (by simp))⟩
          have hfre : Fresh W v' := fun k hk => by
            rcases ho.2 with ⟨e3, -⟩ | ⟨g3, c3, cur3, e3, p1, -⟩
            · rw [e3] at hk; cases hk
            · rw [e3] at hk; cases hk; exact p1
          refine ⟨v', W', hr, ⟨fvs, h1, ?_, fun j s fv a b => ?_⟩, hfre, gW⟩
          · rw [List.nil_append, Nat.zero_add] at ho
            refine ⟨ho.1, ?_⟩
            rcases ho.2 with q | ⟨g3, c3, cur3, e3, p1, p2⟩
            · exact .inl q
            · exact .inr ⟨g3, c3, cur3, e3, Nat.zero_le _, p2⟩
          · exact (h3 j s fv a b).grown gW
    obtain ⟨v', W', hap, hkv, hf', gW⟩ := AP
    obtain ⟨va2, vn2, vc2, hv⟩ : ∃ a n c, v' = .slice a n c := by
      rcases hkv.sh with ⟨e, -⟩ | ⟨g, c, e, -⟩
      · exact ⟨_, _, _, e⟩
      · exact ⟨_, _, _, e⟩
    subst hv
    have FIN := hide (And.intro hkv (And.intro hf' gW))
    rw [hA] at hap
    generalize ks.length = n at hap ⊢
    clear h hA gA bA hfr hkv hf' gW hi hz0 hz1 hz2
    go_enter Try.func27, Try.ntmps27
    go_wp2_with (first | simp only [eqnilS, Option.isNone_some] | (at_builtin; refine wpList_append_run _ rfl _ _ 49 49 rfl _ _ rfl rfl hap ?_))
    all_goals go_ret
    all_goals exact ⟨_, rfl, (unhide FIN).1, (unhide FIN).2.1, (unhide FIN).2.2⟩
theorem kept_any (b : Nat) (w : World) : Calls Try.prog 13 #[.pointer (some ⟨b, 0, none⟩)] w fun e w' => e = .returned (.func (.func 26) #[] #[.pointer (some ⟨w.heap.size, 0, none⟩)]) ∧ w' = w.alloc (.cells #[.pointer (some ⟨b, 0, none⟩)] 24) := by
  go_enter Try.func13, Try.ntmps13
  go_wp2
  go_ret
  exact ⟨rfl, rfl⟩
end Go.Proofs.Ytnflbefbgcbdfaa

namespace Go.Proofs.Ytnflbefbgcbdfaa
open Go.RowKit Go.Shelf
set_option linter.unusedVariables false
set_option maxHeartbeats 1000000
set_option maxRecDepth 100000
attribute [local go_sem] Oper.semAt_some

abbrev encP (x : St × Value) : Array Value := #[.agg (x.1.cs x.2)]
/-- What a round's body keeps: the blocks of R, and all cells that lie from n on. -/
structure KR (R : Nat → Prop) (n : Nat) (W W' : World) : Prop where
  size : W.heap.size ≤ W'.heap.size
  old : ∀ j, R j → W'.heap[j]? = W.heap[j]?
  new : ∀ j cs t, n ≤ j → Blk W j cs t → W'.heap[j]? = W.heap[j]?
/-- Between two rounds. -/
def KpI (R : Nat → Prop) (n₀ : Nat) (ks : List St) (cv : Value) (J : List (St × Value) → World → Prop) (k : Nat) (wr : World) : Prop :=
  KvAt R wr cv ks ∧ n₀ ≤ wr.heap.size ∧ ∃ pre : List (St × Value), pre.map Prod.fst = ks.take k ∧ J pre wr

theorem kept1_in (n : Nat) (hn : 1 ≤ n) (l Bn b n₀ : Nat) (R : Nat → Prop) (kv : Value) (ks : List St) (J Jx : List (St × Value) → World → Prop)
    (hY : ∀ pre x W, J pre W → pre.length < ks.length → YieldAt Fence.wide (n - 1) Try.prog l (encP x) W fun e W' =>
      (e = .returned (.bool true) ∧ J (pre ++ [x]) W' ∧ KR R n₀ W W') ∨ (e = .returned (.bool false) ∧ Jx (pre ++ [x]) W'))
    (hJ : ∀ pre X X', J pre X → X.grownBy X' none → J pre X')
    (W : World) (hBn : W.cell? ⟨Bn, 0, none⟩ = some (.pointer (some ⟨b, 0, none⟩))) (hb6 : W.cell? ⟨b, 6, none⟩ = some kv) (hk : KvAt R W kv ks) (hn0 : n₀ ≤ W.heap.size) (hlen : ks.length ≤ 1000) (h0 : J [] W) :
    CallsIn Fence.wide n Try.prog 26 #[.func (.yield l) #[] #[], .pointer (some ⟨Bn, 0, none⟩)] W fun e W' => (∃ v, e = .returned v) ∧
      ((∃ ys : List (St × Value), ys.map Prod.fst = ks ∧ J ys W') ∨ (∃ pre : List (St × Value), pre.map Prod.fst <+: ks ∧ Jx pre W')) := by
  obtain ⟨N, hN⟩ : ∃ N, N = ks.length := ⟨_, rfl⟩
  have hcl := clone_sent R W kv ks hk (by omega)
  obtain ⟨ka, kn, kc, hkv⟩ : ∃ a n c, kv = .slice a n c := by
    rcases hk.sh with ⟨e, -⟩ | ⟨g, c, e, -⟩
    · exact ⟨_, _, _, e⟩
    · exact ⟨_, _, _, e⟩
  subst hkv
  have HN := hide (And.intro hN hlen)
  have HY := hide hY; have HJ := hide hJ; have H0 := hide h0; have HN0 := hide hn0
  have lenI : ¬ (9223372036854775807 : Int) < (N : Int) := by omega
  clear hY hJ h0 hN hlen hk hn0
  refine callsIn_of_wp Try.func26 rfl trivial ?_ rfl
  simp only [Try.ntmps26, List.size_toArray, List.length_cons, List.length_nil, Nat.reduceAdd, Nat.reduceSub, Array.replicate_succ, Array.replicate_zero, List.push_toArray, List.append_toArray, List.nil_append, List.cons_append]
  gi_wp2_with fail
  refine ⟨trivial, (callsIn_wide.2 hcl).mono ?_⟩
  rintro e Y ⟨v', rfl, hkY, hfr, gY⟩
  obtain ⟨ca, cc, hcv⟩ : ∃ a c, v' = .slice a N c := by
    rcases hkY.sh with ⟨e, e2⟩ | ⟨g, c, e, -⟩
    · exact ⟨none, 0, by rw [e, (unhide HN).1, e2]; rfl⟩
    · exact ⟨_, c, by rw [e, (unhide HN).1]⟩
  subst hcv
  have I0 : Hid (KpI R n₀ ks (.slice ca N cc) J 0 Y) := ⟨hkY, Nat.le_trans (unhide HN0) gY.size, [], rfl, unhide HJ _ _ _ (unhide H0) gY⟩
  have FR : Hid (∀ g, (Value.slice ca N cc).ownBlock = some g → n₀ ≤ g) := fun g e => Nat.le_trans (unhide HN0) (hfr g e)
  clear hcl hkY hfr gY hBn hb6 H0
  gi_wp2_with fail
  gi_loopw [11] (fun iv wr => ∃ k : Nat, k ≤ N ∧ iv = .int .i64 k ∧ Hid (KpI R n₀ ks (.slice ca N cc) J k wr)) (fun iv _ => N - (intOf iv).toNat)
  case atStart => exact ⟨0, Nat.zero_le _, rfl, I0⟩
  case round =>
    clear I0
    obtain ⟨k, hk, rfl, H⟩ := hrel
    by_cases hlt : k < N
    · have hkI : (k : Int) < (N : Int) := by omega
      have hk0 : (0 : Int) ≤ (k : Int) := by omega
      obtain ⟨kvw, hnw, pre, hpre, hj⟩ := unhide H
      obtain ⟨s, hs⟩ : ∃ s, ks[k]? = some s := ⟨_, List.getElem?_eq_getElem (by rw [← (unhide HN).1]; exact hlt)⟩
      obtain ⟨g, hca⟩ : ∃ g, ca = some ⟨g, 0, none⟩ := by
        rcases kvw.sh with ⟨_, e2⟩ | ⟨g, c', e1, -⟩
        · rw [e2] at hs; simp at hs
        · injection e1 with e1; exact ⟨g, e1⟩
      subst hca
      have kvw2 := kvw
      rw [(unhide HN).1] at kvw2
      obtain ⟨fv, hfv, hc⟩ := kvw2.get hs
      have y0 : wr.cell? ⟨g, k * 8, none⟩ = some (.int .i64 s.nu) := hc 0 _ rfl
      have y1 : wr.cell? ⟨g, k * 8 + 1, none⟩ = some (.int .i64 s.ti) := hc 1 _ rfl
      have y2 : wr.cell? ⟨g, k * 8 + 2, none⟩ = some (.int .i64 s.si) := hc 2 _ rfl
      have y3 : wr.cell? ⟨g, k * 8 + 3, none⟩ = some (.bool s.el) := hc 3 _ rfl
      have y4 : wr.cell? ⟨g, k * 8 + 4, none⟩ = some (.bool s.co) := hc 4 _ rfl
      have y5 : wr.cell? ⟨g, k * 8 + 5, none⟩ = some (.bool s.pr) := hc 5 _ rfl
      have y6 : wr.cell? ⟨g, k * 8 + 6, none⟩ = some (.int .i64 s.tl) := hc 6 _ rfl
      have y7 : wr.cell? ⟨g, k * 8 + 7, none⟩ = some fv := hc 7 _ rfl
      have HF := hide hfv
      obtain ⟨-, fa, fc, css, e9, -⟩ := hfv
      subst e9
      obtain ⟨Z, hZ⟩ : ∃ Z, Z = wr.alloc (.cells #[.int .i64 s.nu, .int .i64 s.ti, .int .i64 s.si, .bool s.el, .bool s.co, .bool s.pr, .int .i64 s.tl, .slice fa s.fs.length fc] 36) := ⟨_, rfl⟩
      have gZ : wr.grownBy Z none := by rw [hZ]; exact grown_alloc _ _
      have bZ : Blk Z wr.heap.size #[.int .i64 s.nu, .int .i64 s.ti, .int .i64 s.si, .bool s.el, .bool s.co, .bool s.pr, .int .i64 s.tl, .slice fa s.fs.length fc] 36 := by rw [hZ]; exact Blk.new wr _ _
      obtain ⟨zs, hzs⟩ : ∃ zs, zs = wr.heap.size := ⟨_, rfl⟩
      rw [← hzs] at bZ
      obtain ⟨z0, z1, z2, z3, z4, z5, z6, z7⟩ := cells8 bZ
      have hcp := copied_fv s fa fc Z ((unhide HF).grown gZ)
      simp only [St.cs] at hcp
      have hpl : pre.length < ks.length := by
        have := congrArg List.length hpre
        rw [List.length_map, List.length_take] at this
        have := (unhide HN).1
        omega
      have E := hide (And.intro kvw (And.intro hnw (And.intro hpre (And.intro hj (And.intro hs (And.intro gZ hpl))))))
      clear kvw kvw2 hnw hpre hj hs hc HF gZ bZ hpl H
      gi_upto_region 3 with fail
      rw [← hZ, ← hzs]
      replace hZ := hide hZ
      replace hzs := hide hzs
      clear y0 y1 y2 y3 y4 y5 y6 y7
      gi_wp2_with fail
      refine ⟨trivial, (callsIn_wide.2 hcp).mono ?_⟩
      rintro e W2 ⟨a2, c2, rfl, hf2, g2⟩
      obtain ⟨kvw, hnw, hpre, hj, hs, gZ, hpl⟩ := unhide E
      have gg := grown_trans gZ g2
      obtain ⟨fn, tmps, assign, body, hy, hRR⟩ := (unhide HY) pre (s, .slice a2 s.fs.length c2) W2 (unhide HJ _ _ _ hj gg) hpl
      have HRR := hide hRR
      have E2 := hide (And.intro (kvw.grown gg) (And.intro (Nat.le_trans hnw gg.size) (And.intro hpre hs)))
      clear hRR kvw hnw hpre hj hs gZ hpl gg hcp hf2 g2 E z0 z1 z2 z3 z4 z5 z6 z7
      simp only [encP, St.cs] at hy
      gi_wp2_with fail
      refine (unhide HRR).mono ?_
      rintro e W3 (⟨rfl, hJ3, hk3⟩ | ⟨rfl, hJx3⟩)
      · have HK := hide (And.intro hJ3 hk3)
        clear hJ3 hk3 hy HRR
        gi_wp2_with fail
        go_roundw
        case rel =>
          obtain ⟨hJ3, hk3⟩ := unhide HK
          obtain ⟨kw2, nw2, hpre, hs⟩ := unhide E2
          refine ⟨k + 1, hlt, by go_num, ?_, Nat.le_trans nw2 hk3.size, pre ++ [(s, .slice a2 s.fs.length c2)], ?_, hJ3⟩
          · refine kw2.kept (fun x hx => hk3.old x hx) (fun x e => ?_)
            obtain ⟨cs, hb⟩ := kw2.ty x e
            exact hk3.new x cs _ (unhide FR x e) hb
          · rw [List.map_append, hpre, take_at hs]
            rfl
        case measure => simp [intOf]; omega
      · have HJ3 := hide hJx3
        clear hJx3 hy HRR
        gi_wp2_with fail
        refine bodyPost_ret (results_none rfl _ _ _) rfl ?_
        obtain ⟨kw2, nw2, hpre, hs⟩ := unhide E2
        refine ⟨⟨_, rfl⟩, .inr ⟨pre ++ [(s, .slice a2 s.fs.length c2)], ?_, unhide HJ3⟩⟩
        rw [List.map_append, hpre]
        have e := take_at hs
        exact (show ks.take k ++ [s] <+: ks by rw [← e]; exact List.take_prefix _ _)
    · obtain rfl : k = N := by omega
      have hkI : ¬ (k : Int) < (k : Int) := by omega
      obtain ⟨-, -, pre, e2, e3⟩ := unhide H
      have Ex := hide (And.intro e2 e3)
      clear e2 e3 H
      gi_wp2_with fail
      go_end0
      obtain ⟨e2, e3⟩ := unhide Ex
      rw [List.take_of_length_le (by rw [(unhide HN).1]; exact Nat.le_refl _)] at e2
      exact ⟨⟨_, rfl⟩, .inl ⟨pre, e2, e3⟩⟩
end Go.Proofs.Ytnflbefbgcbdfaa

namespace Go.Proofs.Ytnflbefbgcbdfaa
open Go.RowKit Go.Shelf
set_option linter.unusedVariables false
set_option maxHeartbeats 1000000
set_option maxRecDepth 100000
attribute [local go_sem] Oper.semAt_some

/-- A block of no cells from M on. -/
def Rec (M : Nat) (w : World) (row : Option Nat) : Prop := ∀ r, row = some r → M ≤ r ∧ ∃ o : Obj, w.heap[r]? = some o ∧ o.isCells = false
theorem Rec.ne_blk {M : Nat} {w : World} {row : Option Nat} (h : Rec M w row) {g : Nat} {cs : Array Value} {t : TypeId} (hb : w.heap[g]? = some (.cells cs t (0, 0))) : some g ≠ row := fun e => by
  obtain ⟨-, o, h1, h2⟩ := h g e.symm
  rw [hb] at h1
  cases h1; cases h2
theorem Rec.ne_cell {M : Nat} {w : World} {row : Option Nat} (h : Rec M w row) {a : Addr} {v : Value} (hc : w.cell? a = some v) : some a.block ≠ row := fun e => by
  obtain ⟨-, o, h1, h2⟩ := h _ e.symm
  obtain ⟨o', h3, h4⟩ := cells_of_cell hc
  rw [h1] at h3; cases h3; rw [h2] at h4; cases h4

/-- Blocks of cells from n on are kept. -/
structure KC (n : Nat) (W W' : World) : Prop where
  size : W.heap.size ≤ W'.heap.size
  same : ∀ (g : Nat) (o : Obj), n ≤ g → W.heap[g]? = some o → o.isCells = true → W'.heap[g]? = some o
theorem KC.refl (n : Nat) (W : World) : KC n W W := ⟨Nat.le_refl _, fun _ _ _ h _ => h⟩
theorem KC.trans {n : Nat} {A B C : World} (h : KC n A B) (k : KC n B C) : KC n A C := ⟨Nat.le_trans h.size k.size, fun g o hg h1 h2 => k.same g o hg (h.same g o hg h1 h2) h2⟩
theorem KC.put {n : Nat} (W : World) (l : Nat) (o o' : Obj) (hl : W.heap[l]? = some o) (ho : o.isCells = false) : KC n W (W.putObj l o') :=
  ⟨by simp, fun g ob hg h1 h2 => (World.putObj_heap_other (fun e => by subst e; rw [hl] at h1; cases h1; rw [ho] at h2; cases h2)).trans h1⟩
theorem KC.of {n : Nat} {U : Nat → Prop} {W W' : World} (k : Kp U W W') (hU : ∀ g, U g → g < n) : KC n W W' :=
  ⟨k.size, fun g o hg h1 _ => (k.block g (Array.getElem?_eq_some_iff.1 h1).1 (fun hu => by have := hU g hu; omega)).trans h1⟩

theorem Kp.own {S : Nat → Prop} {w1 X X' : World} {row : Option Nat} (h : Kp S w1 X) (g : X.grownBy X' row) (hr : Rec w1.heap.size X row) : Kp S w1 X' :=
  ⟨g.os.trans h.os, g.tape.trans h.tape, g.output.trans h.output, Nat.le_trans h.size g.size, fun x hx hn => (g.block x (Nat.lt_of_lt_of_le hx h.size) (fun e => by have := (hr x e.symm).1; omega)).trans (h.block x hx hn)⟩
theorem bxOwn {X X' : World} {b M : Nat} {t : TypeId} {v : Value} {row : Option Nat} (h : Boxed X b t v) (g : X.grownBy X' row) (hr : Rec M X row) : Boxed X' b t v := h.kept g (hr.ne_blk (show X.heap[b]? = some (.cells #[v] t (0, 0)) from h))
theorem bxKp {S : Nat → Prop} {X X' : World} {b : Nat} {t : TypeId} {v : Value} (h : Boxed X b t v) (k : Kp S X X') (hn : ¬ S b) : Boxed X' b t v := (k.block b h.lt hn).trans h
theorem Kp.then {S S' : Nat → Prop} {A B C : World} (h : Kp S A B) (k : Kp S' B C) (hs : ∀ g, g < A.heap.size → S' g → S g) : Kp S A C :=
  ⟨k.os.trans h.os, k.tape.trans h.tape, k.output.trans h.output, Nat.le_trans h.size k.size, fun g hg hn => (k.block g (Nat.lt_of_lt_of_le hg h.size) (fun hS => hn (hs g hg hS))).trans (h.block g hg hn)⟩
theorem Kp.kf {S : Nat → Prop} {A B : World} {n : Nat} (k : Kp S A B) (hs : ∀ g, S g → g < n) : KeepsFrom n A B :=
  ⟨k.size, fun g o hg h1 _ => (k.block g (Array.getElem?_eq_some_iff.1 h1).1 (fun hS => by have := hs g hS; omega)).trans h1⟩

theorem kp_drew {S : Nat → Prop} {A B : World} (k : Kp S A.drew B) : Kp S A B := ⟨k.os, k.tape, k.output, k.size, k.block⟩
theorem drew_grown (A : World) : A.grownBy A.drew none := ⟨rfl, rfl, rfl, Nat.le_refl _, fun _ _ _ => rfl⟩
/-- An append within a region that draws, in a round. -/
theorem stepIn_app {F : Fence} {n : Nat} {P : Program} {ops : Array Oper} {o : Oper} {a : Act} {w : World} {K : Act → World → Prop} {Q : Exit → Act → World → Prop} {E : Prop} (hgd : o.guard = none) (d s : Operand) (t : TypeId)
    (hop : o.op = Op.call { callee := Callee.builtin Builtin.append, args := #[d, s], argTypes := #[t, t] }) (vd vs : Value) (hd : a.eval d = vd) (hs : a.eval s = vs) {v' : Value} {w' : World} (hrun : (Builtin.append_ #[t, t] o.type #[vd, vs]).run P w = .ok v' w') (hK : K (a.put o.dst v') w') :
    if Region.wanted o (yielded ops a.tmps) = true then Oper.wpIn F n P o a w K Q else E := by
  rw [if_pos (by simp [Region.wanted, hgd])]
  unfold Oper.wpIn
  refine ⟨?_, ?_⟩
  · simp [Oper.about, hop, resolve, Target.leads, Sem.run_pure]
  · rw [Oper.semAt_plain F _ _ (by rw [hop]; intro c hc'; cases hc')]
    simp [execOp, hop, resolve, invoke, builtin, hd, hs, hrun, Result.andThen]
    exact hK

def noDefer (o : Oper) : Bool := match o.op with | .defer _ => false | _ => true
theorem noDefer_ne {o : Oper} (h : noDefer o = true) : ∀ c, o.op ≠ .defer c := fun c e => by
  unfold noDefer at h; rw [e] at h; cases h

theorem wpOpIn_round {F : Fence} {n : Nat} {P : Program} {ops : Array Oper} {Q : Exit → Act → World → Prop} {i : Nat} {K : Act → World → Prop} {a : Act} {w : World} (l : Nat) (hnd : ∀ o, ops[i]? = some o → noDefer o = true) (h : wpOpIn F n P ops Q i K a w) : wpOpIn (F.inRound l) n P ops Q i K a w := by
  unfold wpOpIn at *
  cases ho : ops[i]? with
  | none => rw [ho] at h; exact h
  | some o =>
    rw [ho] at h
    have hd := noDefer_ne (hnd o ho)
    simp only at h ⊢
    by_cases hw : Region.wanted o (yielded ops a.tmps) = true
    · rw [if_pos hw] at h ⊢
      unfold Oper.wpIn at h ⊢
      refine ⟨h.1, ?_⟩
      rw [Oper.semAt_plain (F.inRound l) _ _ hd]
      have h2 := h.2
      rw [Oper.semAt_plain F _ _ hd] at h2
      exact h2
    · rw [if_neg hw] at h ⊢
      exact h

theorem wpAnyIn_round {F : Fence} {n : Nat} {P : Program} {md : Region.Mode} {ops : Array Oper} {Q : Exit → Act → World → Prop} (l : Nat) (hnd : ∀ (i : Nat) o, ops[i]? = some o → noDefer o = true) : ∀ (fuel : Nat) (listed : Array Bool) (a : Act) (w : World), wpAnyIn F n P md ops Q fuel listed a w → wpAnyIn (F.inRound l) n P md ops Q fuel listed a w
  | 0, _, _, _, h => h
  | fuel + 1, listed, a, w, h => ⟨h.1, fun i hi => wpOpIn_round l (hnd i) (wpOpIn_mono (fun a' w' hh => wpAnyIn_round l hnd fuel _ a' w' hh) (h.2 i hi))⟩

theorem region_quiet_round {F : Fence} {n : Nat} {P : Program} {id l : Nat} {Q : Exit → Act → World → Prop} {a : Act} {w : World} {ls : List Oper} (hro : F.round = none) (hm : P.follows .mixedOrders = true) (hB : Region.lexB .any ls.toArray = true) (hnd : ls.all noDefer = true)
    (h : wpQuietIn F n P ls.toArray (fun w' => ∃ n, w' = w.drewN n) (fun a' => ∀ w', (∃ n, w' = w.drewN n) → Q .normal a' w') ls a) : (Code.region id ls.toArray true).wpIn (F.inRound l) n P Q a w := by
  refine wpIn_region_any hm (wpAnyIn_round l (fun i o ho => ?_) _ _ _ _ ?_)
  · have : o ∈ ls := by
      have h2 : ls[i]? = some o := by simpa using ho
      exact List.mem_of_getElem? h2
    exact List.all_eq_true.1 hnd o this
  · simp only [Region.lexB, Bool.and_eq_true] at hB
    refine wpAnyIn_of_quiet (C := fun w' => ∃ n, w' = w.drewN n) (Q := fun a' => ∀ w', (∃ n, w' = w.drewN n) → Q .normal a' w') hro (fun _ w' hw' h => h w' hw') _ _ _ _ ⟨1, rfl⟩ ?_
    have := wpAnyQIn_lex (F := F) (n := n) (C := fun w' => ∃ n, w' = w.drewN n) (md := .any) hB.1 ls.toArray.toList 0 (Array.replicate ls.toArray.size false) a (by simp) (by simpa using hB.2) (by simpa using h)
    simpa using this

end Go.Proofs.Ytnflbefbgcbdfaa

namespace Go.Proofs.Ytnflbefbgcbdfaa
open Go.RowKit Go.Shelf
set_option linter.unusedVariables false
set_option maxHeartbeats 1000000
set_option maxRecDepth 100000
attribute [local go_sem] Oper.semAt_some

/-- Whatever hands things on one by one; what is kept from round to round abides the turn of what is no cells and new. -/
def SeqO {α : Type} (g : Nat) (lb : Array Value) (encs : α → Array Value) (Kx : World → World → Prop) (S Sp : List α → Prop) (w : World) : Prop :=
  ∀ (l : Nat) (J Jx : List α → World → Prop) (W : World), Below w.heap.size w W → OwnFrom W.heap.size J → OwnFrom W.heap.size Jx →
    (∀ (m : Nat) (pre : List α) (x : α) (X : World), J pre X → Sp (pre ++ [x]) → YieldAt Fence.wide m Try.prog l (encs x) X fun e X' =>
      (e = .returned (.bool true) ∧ J (pre ++ [x]) X' ∧ Kx X X' ∧ KeepsFrom W.heap.size X X') ∨ (e = .returned (.bool false) ∧ Jx (pre ++ [x]) X' ∧ KeepsFrom W.heap.size X X')) →
    J [] W → Calls Try.prog g (#[.func (.yield l) #[] #[]] ++ lb) W fun e W' => (∃ v, e = .returned v) ∧ ((∃ xs, S xs ∧ J xs W') ∨ (∃ pre, Sp pre ∧ Jx pre W'))

/-- The marks that lie where they lay. -/
def DX (d : Option Nat) (X : World) : Prop := ∀ D, d = some D → X.heap[D]? = some (.deferred (some []))

theorem round_own {α : Type} {fn : FuncId} {B0 B1 l dfr : Nat} {d : Option Nat} {ps : Array Tmp} {assign body : Code} {a : Act} {encs : α → Array Value} {Kx : World → World → Prop} {I : List α → World → Prop} {Ix : Code → List α → World → Prop} {Ax : α → Act → World → Prop} {Sp : List α → Prop}
    (rec : LoopState → Option Code → Loop) (hrec : rec = fun st pe => { state := st, pending := pe, fn := fn, tmps := a.tmps, params := ps, assign := assign, body := body, defers := dfr })
    (hl0 : B0 ≤ l) (hl1 : l < B1) (hd : ∀ D, d = some D → B0 ≤ D ∧ D ≠ l)
    (hKt : ∀ {A B C : World}, Kx A B → Kx B C → Kx A C) (hKb : ∀ (W : World) (j : Nat) (o o' : Obj), B0 ≤ j → W.heap[j]? = some o → o.isCells = false → Kx W (W.putObj j o')) (hps : ∀ x, (encs x).size = ps.size)
    (hI : OwnFrom B0 I) (hIx : ∀ c, OwnFrom B0 (Ix c)) (hAx : ∀ x a', OwnFrom B0 (fun (_ : Unit) W => Ax x a' W)) (hB : B0 ≤ B1)
    (hassign : ∀ (m : Nat) (pre : List α) (x : α) (W : World) (K : Act → World → Prop), I pre W → (∀ a' W', KeepsFrom B0 W W' → Kx W W' → I pre W' → Ax x a' W' → K a' W') →
      assign.wpIn (Fence.wide.inRound l) m Try.prog (Exit.then K (fun _ _ _ => False)) { tmps := (ps.zip (encs x)).foldl (fun t (p, v) => t.setIfInBounds p v) a.tmps, defers := [] } W)
    (hbody : ∀ (m : Nat) (pre : List α) (x : α) (a' : Act) (W : World), (∃ r, W.heap[l]? = some (.loop r)) → I pre W → Ax x a' W → Sp (pre ++ [x]) → body.wpIn (Fence.wide.inRound l) m Try.prog (ownPostG B0 Kx I Ix (pre ++ [x]) W) a' W) :
    ∀ (m : Nat) (pre : List α) (x : α) (X : World), (I pre X ∧ X.heap[l]? = some (.loop (rec .ready none)) ∧ DX d X) → Sp (pre ++ [x]) → YieldAt Fence.wide m Try.prog l (encs x) X fun e X' =>
      (e = .returned (.bool true) ∧ (I (pre ++ [x]) X' ∧ X'.heap[l]? = some (.loop (rec .ready none)) ∧ DX d X') ∧ Kx X X' ∧ KeepsFrom B1 X X') ∨
      (e = .returned (.bool false) ∧ (∃ c, Ix c (pre ++ [x]) X' ∧ X'.heap[l]? = some (.loop (rec .done (some c))) ∧ DX d X') ∧ KeepsFrom B1 X X') := by
  rintro m pre x X ⟨hi, hl, hdx⟩ hp
  have hy := run_yield (P := Try.prog) (args := encs x) hl (by rw [hrec]; exact hps x)
  have e0 : (rec .ready none).fn = fn ∧ (rec .ready none).params = ps ∧ (rec .ready none).tmps = a.tmps ∧ (rec .ready none).assign = assign ∧ (rec .ready none).body = body := by rw [hrec]; exact ⟨rfl, rfl, rfl, rfl, rfl⟩
  rw [e0.1, e0.2.1, e0.2.2.1, e0.2.2.2.1, e0.2.2.2.2] at hy
  refine ⟨fn, _, assign, body, hy, roundIn_of_wpIn trivial (hassign m pre x X _ hi ?_)⟩
  clear hy
  intro a' X1 k1 q1 i1 ax
  have l1 := k1.same l _ hl0 hl rfl
  have lt1 : l < X1.heap.size := (Array.getElem?_eq_some_iff.1 l1).1
  have d1 : DX d X1 := fun D e => k1.same D _ (hd D e).1 (hdx D e) rfl
  have busy : { rec .ready none with state := .busy } = rec .busy none := by rw [hrec]
  have bg := run_beginRound (P := Try.prog) l1 (by rw [hrec])
  rw [busy] at bg
  refine ⟨_, bg, ?_⟩
  have l2 : (X1.putObj l (.loop (rec .busy none))).heap[l]? = some (.loop (rec .busy none)) := World.putObj_heap_same lt1
  have d2 : DX d (X1.putObj l (.loop (rec .busy none))) := fun D e => (World.putObj_heap_other (hd D e).2).trans (d1 D e)
  have q2 : Kx X1 (X1.putObj l (.loop (rec .busy none))) := hKb _ _ _ _ hl0 l1 rfl
  have z2 : X1.heap.size ≤ (X1.putObj l (.loop (rec .busy none))).heap.size := by simp
  refine wpIn_mono (hbody m pre x a' _ ⟨_, l2⟩ (hI.putObj _ i1 hl0 l1 rfl) ((hAx x a').putObj (s := ()) _ ax hl0 l1 rfl) hp) ?_
  -- how a round ends
  have fin : ∀ (jump : Option Code) (X3 : World), KeepsFrom B0 (X1.putObj l (.loop (rec .busy none))) X3 →
      (Instr.endRound l jump).run Try.prog X3 = .ok (.bool jump.isNone) (X3.putObj l (.loop (rec (if jump.isNone then .ready else .done) jump))) ∧ X3.heap[l]? = some (.loop (rec .busy none)) ∧
      (X3.putObj l (.loop (rec (if jump.isNone then .ready else .done) jump))).heap[l]? = some (.loop (rec (if jump.isNone then .ready else .done) jump)) ∧ DX d (X3.putObj l (.loop (rec (if jump.isNone then .ready else .done) jump))) ∧
      KeepsFrom B1 X (X3.putObj l (.loop (rec (if jump.isNone then .ready else .done) jump))) := fun jump X3 k3 => by
    have l3 := k3.same l _ hl0 l2 rfl
    have er := run_endRound (P := Try.prog) jump l3
    have e1 : { rec .busy none with state := if jump.isNone then .ready else .done, pending := jump } = rec (if jump.isNone then .ready else .done) jump := by rw [hrec]
    rw [e1] at er
    refine ⟨er, l3, World.putObj_heap_same (Array.getElem?_eq_some_iff.1 l3).1, fun D e => (World.putObj_heap_other (hd D e).2).trans (k3.same D _ (hd D e).1 (d2 D e) rfl), ?_, fun j o hj ho hc => ?_⟩
    · have := k1.size; have := k3.size; simp; omega
    · have nj : j ≠ l := by omega
      refine (World.putObj_heap_other nj).trans (k3.same j o (by omega) ((World.putObj_heap_other nj).trans (k1.same j o (by omega) ho hc)) hc)
  rintro e a3 X3 hpost
  have one : ∀ (jump : Option Code) (cd : Code), jump = some cd → KeepsFrom B0 (X1.putObj l (.loop (rec .busy none))) X3 → Ix cd (pre ++ [x]) X3 → ∃ v X4, (Instr.endRound l jump).run Try.prog X3 = .ok v X4 ∧ ((Ending.returned v = .returned (.bool true) ∧ (I (pre ++ [x]) X4 ∧ X4.heap[l]? = some (.loop (rec .ready none)) ∧ DX d X4) ∧ Kx X X4 ∧ KeepsFrom B1 X X4) ∨ (Ending.returned v = .returned (.bool false) ∧ (∃ c, Ix c (pre ++ [x]) X4 ∧ X4.heap[l]? = some (.loop (rec .done (some c))) ∧ DX d X4) ∧ KeepsFrom B1 X X4)) := fun jump cd ej k3 i3 => by
    subst ej
    obtain ⟨hr, l3, l4, d4, k4⟩ := fin (some cd) X3 k3
    exact ⟨_, _, hr, .inr ⟨rfl, ⟨cd, (hIx cd).putObj _ i3 hl0 l3 rfl, l4, d4⟩, k4⟩⟩
  cases e with
  | normal =>
    obtain ⟨k3, q3, i3⟩ := hpost
    obtain ⟨hr, l3, l4, d4, k4⟩ := fin none X3 k3
    exact ⟨_, _, hr, .inl ⟨rfl, ⟨hI.putObj _ i3 hl0 l3 rfl, l4, d4⟩, hKt (hKt (hKt q1 q2) q3) (hKb _ _ _ _ hl0 l3 rfl), k4⟩⟩
  | ret => exact one _ _ rfl hpost.1 hpost.2
  | exit id => exact one _ _ rfl hpost.1 hpost.2
  | goto t => exact one _ _ rfl hpost.1 hpost.2
  | panic ch => exact hpost.elim
  | outgrown => exact hpost.elim

theorem range_own {α : Type} {g : Operand} {ps : Array Tmp} {assign body : Code} {Q : Exit → Act → World → Prop} {a : Act} {w : World} (n : Nat) {gf : Nat} {lb : Array Value} (hg : a.eval g = .func (.func gf) #[] lb) (eg : ∀ args w, (callFunc gf args).run Try.prog w = .ok (.enter gf args) w)
    {encs : α → Array Value} {Kx : World → World → Prop} {S Sp : List α → Prop} (hseq : SeqO gf lb encs Kx S Sp w)
    (hKt : ∀ {A B C : World}, Kx A B → Kx B C → Kx A C) (hKb : ∀ (W : World) (j : Nat) (o o' : Obj), w.heap.size ≤ j → W.heap[j]? = some o → o.isCells = false → Kx W (W.putObj j o')) (hps : ∀ x, (encs x).size = ps.size)
    (I : List α → World → Prop) (Ix : Code → List α → World → Prop) (hI : OwnFrom w.heap.size I) (hIx : ∀ c, OwnFrom w.heap.size (Ix c)) (h0 : I [] w) (Ax : α → Act → World → Prop) (hAx : ∀ x a', OwnFrom w.heap.size (fun (_ : Unit) W => Ax x a' W))
    (hassign : ∀ (l m : Nat) (pre : List α) (x : α) (W : World) (K : Act → World → Prop), I pre W → (∀ a' W', KeepsFrom w.heap.size W W' → Kx W W' → I pre W' → Ax x a' W' → K a' W') →
      assign.wpIn (Fence.wide.inRound l) m Try.prog (Exit.then K (fun _ _ _ => False)) { tmps := (ps.zip (encs x)).foldl (fun t (p, v) => t.setIfInBounds p v) a.tmps, defers := [] } W)
    (hbody : ∀ (l m : Nat) (pre : List α) (x : α) (a' : Act) (W : World), w.heap.size ≤ l → (∃ r, W.heap[l]? = some (.loop r)) → I pre W → Ax x a' W → Sp (pre ++ [x]) → body.wpIn (Fence.wide.inRound l) m Try.prog (ownPostG w.heap.size Kx I Ix (pre ++ [x]) W) a' W)
    (hdone : ∀ (D : Nat) (xs : List α) (W : World), w.heap.size ≤ D → S xs → I xs W → W.heap[D]? = some (.deferred (some [])) → Q .normal { a with defers := { target := .collected D, args := #[] } :: a.defers } W)
    (hstop : ∀ (D : Nat) (c : Code) (pre : List α) (W : World), w.heap.size ≤ D → Sp pre → Ix c pre W → W.heap[D]? = some (.deferred (some [])) → c.wpIn Fence.wide n Try.prog Q { a with defers := { target := .collected D, args := #[] } :: a.defers } W) :
    (Code.rangeFunc g ps assign body).wpIn Fence.wide n Try.prog Q a w := by
  refine wpIn_rangeFunc fun fn hfn => ?_
  obtain ⟨rec, hrec⟩ : ∃ rec : LoopState → Option Code → Loop, rec = fun st pe => { state := st, pending := pe, fn := fn, tmps := a.tmps, params := ps, assign := assign, body := body, defers := w.heap.size } := ⟨_, rfl⟩
  obtain ⟨W1, hW1⟩ : ∃ W1, W1 = (w.alloc (.deferred (some []))).alloc (.loop (rec .ready none)) := ⟨_, rfl⟩
  have s1 : W1.heap.size = w.heap.size + 2 := by rw [hW1]; simp
  have rl : W1.heap[w.heap.size + 1]? = some (.loop (rec .ready none)) := by
    have := World.alloc_heap_new (w.alloc (.deferred (some []))) (.loop (rec .ready none))
    rw [World.size_alloc] at this
    rw [hW1]; exact this
  have rd : W1.heap[w.heap.size]? = some (.deferred (some [])) := by
    rw [hW1, Below.heap_alloc _ _ _ (by simp)]
    exact World.alloc_heap_new w _
  have bel : Below w.heap.size w W1 := by rw [hW1]; exact ((Below.refl _ w).alloc (Nat.le_refl _) _).alloc (by simp) _
  have i1 : I [] W1 := by rw [hW1]; exact hI.alloc _ (hI.alloc _ h0)
  have far : ∀ {X Y : World} {row : Option Nat}, X.grownBy Y row → (∀ r, row = some r → W1.heap.size ≤ r ∧ ∃ o : Obj, X.heap[r]? = some o ∧ o.isCells = false) → ∀ k, k < W1.heap.size → ∀ o, X.heap[k]? = some o → Y.heap[k]? = some o := fun {X Y row} hgr hr k hk o ho => by
    rw [hgr.block k (Array.getElem?_eq_some_iff.1 ho).1 (fun e => by have := (hr k e.symm).1; omega)]
    exact ho
  have dx : ∀ X : World, X.heap[w.heap.size]? = some (.deferred (some [])) ↔ DX (some w.heap.size) X := fun X => ⟨fun h D e => by cases e; exact h, fun h => h _ rfl⟩
  have hr := round_own (B0 := w.heap.size) (B1 := W1.heap.size) (l := w.heap.size + 1) (d := some w.heap.size) (Kx := Kx) (Sp := Sp) (I := I) (Ix := Ix) (Ax := Ax) (encs := encs) rec hrec (by omega) (by omega) (fun D e => by cases e; omega) (fun h k => hKt h k) hKb hps hI hIx hAx (by omega) (fun m => hassign _ m) (fun m pre x a' W => hbody (w.heap.size + 1) m pre x a' W (by omega))
  refine ⟨w.heap.size + 1, [{ target := .collected w.heap.size, args := #[] }], W1, { target := .fn (.func gf) lb, args := #[.func (.yield (w.heap.size + 1)) #[] #[]] }, W1, gf, #[.func (.yield (w.heap.size + 1)) #[] #[]] ++ lb, W1, ?_, ?_, fun _ _ => trivial, ?_, fun h => (by cases h), ?_⟩
  · rw [hW1, hrec]; exact run_enterLoop_outer _ _ _ _ _
  · simp only [resolve, hg]
    simp [go_sem]
  · simp [invoke, go_sem, eg]
  · refine callsIn_wide.2 (Calls.mono (hseq (w.heap.size + 1) (fun pre X => I pre X ∧ X.heap[w.heap.size + 1]? = some (.loop (rec .ready none)) ∧ DX (some w.heap.size) X) (fun pre X => ∃ c, Ix c pre X ∧ X.heap[w.heap.size + 1]? = some (.loop (rec .done (some c))) ∧ DX (some w.heap.size) X) W1 bel ?_ ?_ hr ⟨i1, rl, (dx _).1 rd⟩) ?_)
    · rintro pre X Y row ⟨hi, hl, hd⟩ hgr hr'
      exact ⟨hI pre X Y row hi hgr (fun r e => ⟨by have := (hr' r e).1; omega, (hr' r e).2⟩), far hgr hr' _ (by omega) _ hl, (dx _).1 (far hgr hr' _ (by omega) _ ((dx _).2 hd))⟩
    · rintro pre X Y row ⟨c, hi, hl, hd⟩ hgr hr'
      exact ⟨c, hIx c pre X Y row hi hgr (fun r e => ⟨by have := (hr' r e).1; omega, (hr' r e).2⟩), far hgr hr' _ (by omega) _ hl, (dx _).1 (far hgr hr' _ (by omega) _ ((dx _).2 hd))⟩
    · rintro e W2 ⟨⟨v, rfl⟩, ⟨xs, hS, hi, hl, hd⟩ | ⟨pre, hSp, c, hi, hl, hd⟩⟩
      · have el := run_endLoop (P := Try.prog) hl (by rw [hrec]; simp)
        refine ⟨none, _, by rw [hrec] at el; exact el, hdone w.heap.size xs _ (Nat.le_refl _) hS (hI.putObj _ hi (by omega) hl rfl) ((World.putObj_heap_other (by omega)).trans ((dx _).2 hd))⟩
      · have el := run_endLoop (P := Try.prog) hl (by rw [hrec]; simp)
        refine ⟨some c, _, by rw [hrec] at el; exact el, hstop w.heap.size c pre _ (Nat.le_refl _) hSp ((hIx c).putObj _ hi (by omega) hl rfl) ((World.putObj_heap_other (by omega)).trans ((dx _).2 hd))⟩

theorem range_in {α : Type} {g : Operand} {ps : Array Tmp} {assign body : Code} {Q : Exit → Act → World → Prop} {a : Act} {w : World} (n : Nat) {l₀ : Nat} {r₀ : Loop} (hl₀ : w.heap[l₀]? = some (.loop r₀)) {gf : Nat} {lb : Array Value} (hg : a.eval g = .func (.func gf) #[] lb) (eg : ∀ args w, (callFunc gf args).run Try.prog w = .ok (.enter gf args) w)
    {encs : α → Array Value} {Kx : World → World → Prop} {S Sp : List α → Prop} (hseq : SeqO gf lb encs Kx S Sp w)
    (hKt : ∀ {A B C : World}, Kx A B → Kx B C → Kx A C) (hKb : ∀ (W : World) (j : Nat) (o o' : Obj), w.heap.size ≤ j → W.heap[j]? = some o → o.isCells = false → Kx W (W.putObj j o')) (hps : ∀ x, (encs x).size = ps.size)
    (I : List α → World → Prop) (Ix : Code → List α → World → Prop) (hI : OwnFrom w.heap.size I) (hIx : ∀ c, OwnFrom w.heap.size (Ix c)) (h0 : I [] w) (Ax : α → Act → World → Prop) (hAx : ∀ x a', OwnFrom w.heap.size (fun (_ : Unit) W => Ax x a' W))
    (hassign : ∀ (l m : Nat) (pre : List α) (x : α) (W : World) (K : Act → World → Prop), I pre W → (∀ a' W', KeepsFrom w.heap.size W W' → Kx W W' → I pre W' → Ax x a' W' → K a' W') →
      assign.wpIn (Fence.wide.inRound l) m Try.prog (Exit.then K (fun _ _ _ => False)) { tmps := (ps.zip (encs x)).foldl (fun t (p, v) => t.setIfInBounds p v) a.tmps, defers := [] } W)
    (hbody : ∀ (l m : Nat) (pre : List α) (x : α) (a' : Act) (W : World), w.heap.size ≤ l → (∃ r, W.heap[l]? = some (.loop r)) → I pre W → Ax x a' W → Sp (pre ++ [x]) → body.wpIn (Fence.wide.inRound l) m Try.prog (ownPostG w.heap.size Kx I Ix (pre ++ [x]) W) a' W)
    (hdone : ∀ (xs : List α) (W : World), S xs → I xs W → Q .normal a W)
    (hstop : ∀ (c : Code) (pre : List α) (W : World), Sp pre → Ix c pre W → c.wpIn (Fence.wide.inRound l₀) n Try.prog Q a W) :
    (Code.rangeFunc g ps assign body).wpIn (Fence.wide.inRound l₀) n Try.prog Q a w := by
  refine wpIn_rangeFunc fun fn hfn => ?_
  obtain ⟨rec, hrec⟩ : ∃ rec : LoopState → Option Code → Loop, rec = fun st pe => { state := st, pending := pe, fn := fn, tmps := a.tmps, params := ps, assign := assign, body := body, defers := r₀.defers } := ⟨_, rfl⟩
  obtain ⟨W1, hW1⟩ : ∃ W1, W1 = w.alloc (.loop (rec .ready none)) := ⟨_, rfl⟩
  have s1 : W1.heap.size = w.heap.size + 1 := by rw [hW1]; simp
  have rl : W1.heap[w.heap.size]? = some (.loop (rec .ready none)) := by rw [hW1]; exact World.alloc_heap_new w _
  have bel : Below w.heap.size w W1 := by rw [hW1]; exact (Below.refl _ w).alloc (Nat.le_refl _) _
  have i1 : I [] W1 := by rw [hW1]; exact hI.alloc _ h0
  have far : ∀ {X Y : World} {row : Option Nat}, X.grownBy Y row → (∀ r, row = some r → W1.heap.size ≤ r ∧ ∃ o : Obj, X.heap[r]? = some o ∧ o.isCells = false) → ∀ k, k < W1.heap.size → ∀ o, X.heap[k]? = some o → Y.heap[k]? = some o := fun {X Y row} hgr hr k hk o ho => by
    rw [hgr.block k (Array.getElem?_eq_some_iff.1 ho).1 (fun e => by have := (hr k e.symm).1; omega)]
    exact ho
  have nd : ∀ X : World, DX none X := fun X D e => by cases e
  have hr := round_own (B0 := w.heap.size) (B1 := W1.heap.size) (l := w.heap.size) (d := none) (Kx := Kx) (Sp := Sp) (I := I) (Ix := Ix) (Ax := Ax) (encs := encs) rec hrec (Nat.le_refl _) (by omega) (fun D e => by cases e) (fun h k => hKt h k) hKb hps hI hIx hAx (by omega) (fun m => hassign _ m) (fun m pre x a' W => hbody _ m pre x a' W (Nat.le_refl _))
  refine ⟨w.heap.size, [], W1, { target := .fn (.func gf) lb, args := #[.func (.yield w.heap.size) #[] #[]] }, W1, gf, #[.func (.yield w.heap.size) #[] #[]] ++ lb, W1, ?_, ?_, fun _ _ => trivial, ?_, fun h => (by cases h), ?_⟩
  · rw [hW1, hrec]; exact run_enterLoop_inner hl₀ _ _ _ _ _
  · simp only [resolve, hg]
    simp [go_sem]
  · simp [invoke, go_sem, eg]
  · refine CallsIn.inRound l₀ (callsIn_wide.2 (Calls.mono (hseq w.heap.size (fun pre X => I pre X ∧ X.heap[w.heap.size]? = some (.loop (rec .ready none)) ∧ DX none X) (fun pre X => ∃ c, Ix c pre X ∧ X.heap[w.heap.size]? = some (.loop (rec .done (some c))) ∧ DX none X) W1 bel ?_ ?_ hr ⟨i1, rl, nd _⟩) ?_))
    · rintro pre X Y row ⟨hi, hl, hd⟩ hgr hr'
      exact ⟨hI pre X Y row hi hgr (fun r e => ⟨by have := (hr' r e).1; omega, (hr' r e).2⟩), far hgr hr' _ (by omega) _ hl, nd _⟩
    · rintro pre X Y row ⟨c, hi, hl, hd⟩ hgr hr'
      exact ⟨c, hIx c pre X Y row hi hgr (fun r e => ⟨by have := (hr' r e).1; omega, (hr' r e).2⟩), far hgr hr' _ (by omega) _ hl, nd _⟩
    · rintro e W2 ⟨⟨v, rfl⟩, ⟨xs, hS, hi, hl, hd⟩ | ⟨pre, hSp, c, hi, hl, hd⟩⟩
      · have el := run_endLoop (P := Try.prog) hl (by rw [hrec]; simp)
        refine ⟨none, _, by rw [hrec] at el; exact el, hdone xs _ hS (hI.putObj _ hi (Nat.le_refl _) hl rfl)⟩
      · have el := run_endLoop (P := Try.prog) hl (by rw [hrec]; simp)
        refine ⟨some c, _, by rw [hrec] at el; exact el, hstop c pre _ hSp ((hIx c).putObj _ hi (Nat.le_refl _) hl rfl)⟩

end Go.Proofs.Ytnflbefbgcbdfaa

namespace Go.Proofs.Ytnflbefbgcbdfaa
open Go.RowKit Go.Shelf
set_option linter.unusedVariables false
set_option maxHeartbeats 1000000
set_option maxRecDepth 100000
attribute [local go_sem] Oper.semAt_some

abbrev PkV := St × Option Addr × Nat
abbrev encQ (x : PkV) : Array Value := #[.agg (x.1.cs (.slice x.2.1 x.1.fs.length x.2.2))]
/-- Between two rounds. -/
def KpQ (R : Nat → Prop) (n₀ : Nat) (ks : List St) (cv : Value) (J : List PkV → World → Prop) (k : Nat) (wr : World) : Prop :=
  KvAt R wr cv ks ∧ n₀ ≤ wr.heap.size ∧ ∃ pre : List PkV, pre.map Prod.fst = ks.take k ∧ J pre wr

theorem kept1_inS (n : Nat) (hn : 1 ≤ n) (l Bn b n₀ : Nat) (R : Nat → Prop) (kv : Value) (ks : List St) (J Jx : List PkV → World → Prop)
    (hY : ∀ pre x W, J pre W → (pre ++ [x]).map Prod.fst <+: ks → YieldAt Fence.wide (n - 1) Try.prog l (encQ x) W fun e W' =>
      (e = .returned (.bool true) ∧ J (pre ++ [x]) W' ∧ KR R n₀ W W') ∨ (e = .returned (.bool false) ∧ Jx (pre ++ [x]) W'))
    (hJ : ∀ pre X X', J pre X → X.grownBy X' none → J pre X')
    (W : World) (hBn : W.cell? ⟨Bn, 0, none⟩ = some (.pointer (some ⟨b, 0, none⟩))) (hb6 : W.cell? ⟨b, 6, none⟩ = some kv) (hk : KvAt R W kv ks) (hn0 : n₀ ≤ W.heap.size) (hlen : ks.length ≤ 1000) (h0 : J [] W) :
    CallsIn Fence.wide n Try.prog 26 #[.func (.yield l) #[] #[], .pointer (some ⟨Bn, 0, none⟩)] W fun e W' => (∃ v, e = .returned v) ∧
      ((∃ ys : List PkV, ys.map Prod.fst = ks ∧ J ys W') ∨ (∃ pre : List PkV, pre.map Prod.fst <+: ks ∧ Jx pre W')) := by
  obtain ⟨N, hN⟩ : ∃ N, N = ks.length := ⟨_, rfl⟩
  have hcl := clone_sent R W kv ks hk (by omega)
  obtain ⟨ka, kn, kc, hkv⟩ : ∃ a n c, kv = .slice a n c := by
    rcases hk.sh with ⟨e, -⟩ | ⟨g, c, e, -⟩
    · exact ⟨_, _, _, e⟩
    · exact ⟨_, _, _, e⟩
  subst hkv
  have HN := hide (And.intro hN hlen)
  have HY := hide hY; have HJ := hide hJ; have H0 := hide h0; have HN0 := hide hn0
  have lenI : ¬ (9223372036854775807 : Int) < (N : Int) := by omega
  clear hY hJ h0 hN hlen hk hn0
  refine callsIn_of_wp Try.func26 rfl trivial ?_ rfl
  simp only [Try.ntmps26, List.size_toArray, List.length_cons, List.length_nil, Nat.reduceAdd, Nat.reduceSub, Array.replicate_succ, Array.replicate_zero, List.push_toArray, List.append_toArray, List.nil_append, List.cons_append]
  gi_wp2_with fail
  refine ⟨trivial, (callsIn_wide.2 hcl).mono ?_⟩
  rintro e Y ⟨v', rfl, hkY, hfr, gY⟩
  obtain ⟨ca, cc, hcv⟩ : ∃ a c, v' = .slice a N c := by
    rcases hkY.sh with ⟨e, e2⟩ | ⟨g, c, e, -⟩
    · exact ⟨none, 0, by rw [e, (unhide HN).1, e2]; rfl⟩
    · exact ⟨_, c, by rw [e, (unhide HN).1]⟩
  subst hcv
  have I0 : Hid (KpQ R n₀ ks (.slice ca N cc) J 0 Y) := ⟨hkY, Nat.le_trans (unhide HN0) gY.size, [], rfl, unhide HJ _ _ _ (unhide H0) gY⟩
  have FR : Hid (∀ g, (Value.slice ca N cc).ownBlock = some g → n₀ ≤ g) := fun g e => Nat.le_trans (unhide HN0) (hfr g e)
  clear hcl hkY hfr gY hBn hb6 H0
  gi_wp2_with fail
  gi_loopw [11] (fun iv wr => ∃ k : Nat, k ≤ N ∧ iv = .int .i64 k ∧ Hid (KpQ R n₀ ks (.slice ca N cc) J k wr)) (fun iv _ => N - (intOf iv).toNat)
  case atStart => exact ⟨0, Nat.zero_le _, rfl, I0⟩
  case round =>
    clear I0
    obtain ⟨k, hk, rfl, H⟩ := hrel
    by_cases hlt : k < N
    · have hkI : (k : Int) < (N : Int) := by omega
      have hk0 : (0 : Int) ≤ (k : Int) := by omega
      obtain ⟨kvw, hnw, pre, hpre, hj⟩ := unhide H
      obtain ⟨s, hs⟩ : ∃ s, ks[k]? = some s := ⟨_, List.getElem?_eq_getElem (by rw [← (unhide HN).1]; exact hlt)⟩
      obtain ⟨g, hca⟩ : ∃ g, ca = some ⟨g, 0, none⟩ := by
        rcases kvw.sh with ⟨_, e2⟩ | ⟨g, c', e1, -⟩
        · rw [e2] at hs; simp at hs
        · injection e1 with e1; exact ⟨g, e1⟩
      subst hca
      have kvw2 := kvw
      rw [(unhide HN).1] at kvw2
      obtain ⟨fv, hfv, hc⟩ := kvw2.get hs
      have y0 : wr.cell? ⟨g, k * 8, none⟩ = some (.int .i64 s.nu) := hc 0 _ rfl
      have y1 : wr.cell? ⟨g, k * 8 + 1, none⟩ = some (.int .i64 s.ti) := hc 1 _ rfl
      have y2 : wr.cell? ⟨g, k * 8 + 2, none⟩ = some (.int .i64 s.si) := hc 2 _ rfl
      have y3 : wr.cell? ⟨g, k * 8 + 3, none⟩ = some (.bool s.el) := hc 3 _ rfl
      have y4 : wr.cell? ⟨g, k * 8 + 4, none⟩ = some (.bool s.co) := hc 4 _ rfl
      have y5 : wr.cell? ⟨g, k * 8 + 5, none⟩ = some (.bool s.pr) := hc 5 _ rfl
      have y6 : wr.cell? ⟨g, k * 8 + 6, none⟩ = some (.int .i64 s.tl) := hc 6 _ rfl
      have y7 : wr.cell? ⟨g, k * 8 + 7, none⟩ = some fv := hc 7 _ rfl
      have HF := hide hfv
      obtain ⟨-, fa, fc, css, e9, -⟩ := hfv
      subst e9
      obtain ⟨Z, hZ⟩ : ∃ Z, Z = wr.alloc (.cells #[.int .i64 s.nu, .int .i64 s.ti, .int .i64 s.si, .bool s.el, .bool s.co, .bool s.pr, .int .i64 s.tl, .slice fa s.fs.length fc] 36) := ⟨_, rfl⟩
      have gZ : wr.grownBy Z none := by rw [hZ]; exact grown_alloc _ _
      have bZ : Blk Z wr.heap.size #[.int .i64 s.nu, .int .i64 s.ti, .int .i64 s.si, .bool s.el, .bool s.co, .bool s.pr, .int .i64 s.tl, .slice fa s.fs.length fc] 36 := by rw [hZ]; exact Blk.new wr _ _
      obtain ⟨zs, hzs⟩ : ∃ zs, zs = wr.heap.size := ⟨_, rfl⟩
      rw [← hzs] at bZ
      obtain ⟨z0, z1, z2, z3, z4, z5, z6, z7⟩ := cells8 bZ
      have hcp := copied_fv s fa fc Z ((unhide HF).grown gZ)
      simp only [St.cs] at hcp
      have hpl : pre.map Prod.fst ++ [s] <+: ks := by
        rw [hpre, ← take_at hs]
        exact List.take_prefix _ _
      have E := hide (And.intro kvw (And.intro hnw (And.intro hpre (And.intro hj (And.intro hs (And.intro gZ hpl))))))
      clear kvw kvw2 hnw hpre hj hs hc HF gZ bZ hpl H
      gi_upto_region 3 with fail
      rw [← hZ, ← hzs]
      replace hZ := hide hZ
      replace hzs := hide hzs
      clear y0 y1 y2 y3 y4 y5 y6 y7
      gi_wp2_with fail
      refine ⟨trivial, (callsIn_wide.2 hcp).mono ?_⟩
      rintro e W2 ⟨a2, c2, rfl, hf2, g2⟩
      obtain ⟨kvw, hnw, hpre, hj, hs, gZ, hpl⟩ := unhide E
      have gg := grown_trans gZ g2
      obtain ⟨fn, tmps, assign, body, hy, hRR⟩ := (unhide HY) pre (s, a2, c2) W2 (unhide HJ _ _ _ hj gg) (by rw [List.map_append]; exact hpl)
      have HRR := hide hRR
      have E2 := hide (And.intro (kvw.grown gg) (And.intro (Nat.le_trans hnw gg.size) (And.intro hpre hs)))
      clear hRR kvw hnw hpre hj hs gZ hpl gg hcp hf2 g2 E z0 z1 z2 z3 z4 z5 z6 z7
      simp only [encQ, St.cs] at hy
      gi_wp2_with fail
      refine (unhide HRR).mono ?_
      rintro e W3 (⟨rfl, hJ3, hk3⟩ | ⟨rfl, hJx3⟩)
      · have HK := hide (And.intro hJ3 hk3)
        clear hJ3 hk3 hy HRR
        gi_wp2_with fail
        go_roundw
        case rel =>
          obtain ⟨hJ3, hk3⟩ := unhide HK
          obtain ⟨kw2, nw2, hpre, hs⟩ := unhide E2
          refine ⟨k + 1, hlt, by go_num, ?_, Nat.le_trans nw2 hk3.size, pre ++ [(s, a2, c2)], ?_, hJ3⟩
          · refine kw2.kept (fun x hx => hk3.old x hx) (fun x e => ?_)
            obtain ⟨cs, hb⟩ := kw2.ty x e
            exact hk3.new x cs _ (unhide FR x e) hb
          · rw [List.map_append, hpre, take_at hs]
            rfl
        case measure => simp [intOf]; omega
      · have HJ3 := hide hJx3
        clear hJx3 hy HRR
        gi_wp2_with fail
        refine bodyPost_ret (results_none rfl _ _ _) rfl ?_
        obtain ⟨kw2, nw2, hpre, hs⟩ := unhide E2
        refine ⟨⟨_, rfl⟩, .inr ⟨pre ++ [(s, a2, c2)], ?_, unhide HJ3⟩⟩
        rw [List.map_append, hpre]
        have e := take_at hs
        exact (show ks.take k ++ [s] <+: ks by rw [← e]; exact List.take_prefix _ _)
    · obtain rfl : k = N := by omega
      have hkI : ¬ (k : Int) < (k : Int) := by omega
      obtain ⟨-, -, pre, e2, e3⟩ := unhide H
      have Ex := hide (And.intro e2 e3)
      clear e2 e3 H
      gi_wp2_with fail
      go_end0
      obtain ⟨e2, e3⟩ := unhide Ex
      rw [List.take_of_length_le (by rw [(unhide HN).1]; exact Nat.le_refl _)] at e2
      exact ⟨⟨_, rfl⟩, .inl ⟨pre, e2, e3⟩⟩

theorem KR.refl (R : Nat → Prop) (n : Nat) (W : World) : KR R n W W := ⟨Nat.le_refl _, fun _ _ => rfl, fun _ _ _ _ _ => rfl⟩
theorem KR.trans {R : Nat → Prop} {n : Nat} {A B C : World} (h : KR R n A B) (k : KR R n B C) : KR R n A C :=
  ⟨Nat.le_trans h.size k.size, fun j hj => (k.old j hj).trans (h.old j hj), fun j cs t hj hb => (k.new j cs t hj ((h.new j cs t hj hb).trans hb)).trans (h.new j cs t hj hb)⟩
theorem KR.put {R : Nat → Prop} {n : Nat} (hR : ∀ g, R g → g < n) (W : World) (j : Nat) (o o' : Obj) (hj : n ≤ j) (hl : W.heap[j]? = some o) (ho : o.isCells = false) : KR R n W (W.putObj j o') :=
  ⟨by simp, fun i hi => World.putObj_heap_other (fun e => by have := hR i hi; omega), fun i cs t hi hb => World.putObj_heap_other (fun e => by
    subst e
    rw [show W.heap[i]? = some (.cells cs t (0, 0)) from hb] at hl
    cases hl
    cases ho)⟩
/-- What a body of a round keeps that writes nothing but some blocks below n that R does not name. -/
theorem KR.of {R : Nat → Prop} {n : Nat} {U : Nat → Prop} {W W' : World} (k : Kp U W W') (hU : ∀ g, U g → g < n ∧ ¬ R g) (hR : ∀ g, R g → g < W.heap.size) : KR R n W W' :=
  ⟨k.size, fun j hj => k.block j (hR j hj) (fun hu => (hU j hu).2 hj), fun j cs t hj hb => k.block j hb.lt (fun hu => by have := (hU j hu).1; omega)⟩
abbrev keptS (ks : List St) (xs : List PkV) : Prop := xs.map Prod.fst = ks
abbrev keptP (ks : List St) (xs : List PkV) : Prop := xs.map Prod.fst <+: ks
theorem kept_seq (Bn b : Nat) (R : Nat → Prop) (kv : Value) (ks : List St) (w : World) (hBn : w.cell? ⟨Bn, 0, none⟩ = some (.pointer (some ⟨b, 0, none⟩))) (hb6 : w.cell? ⟨b, 6, none⟩ = some kv) (hk : KvAt R w kv ks) (hR : ∀ g, R g → g < w.heap.size) (hlen : ks.length ≤ 1000) :
    SeqO 26 #[.pointer (some ⟨Bn, 0, none⟩)] encQ (KR R w.heap.size) (keptS ks) (keptP ks) w := by
  intro l J Jx W bel hJ hJx hY h0
  have c1 : W.cell? ⟨Bn, 0, none⟩ = some (.pointer (some ⟨b, 0, none⟩)) := (bel.cell (p := ⟨Bn, 0, none⟩) (World.block_lt_of_cell? w _ hBn)).trans hBn
  have c2 : W.cell? ⟨b, 6, none⟩ = some kv := (bel.cell (p := ⟨b, 6, none⟩) (World.block_lt_of_cell? w _ hb6)).trans hb6
  have c3 : KvAt R W kv ks := hk.kept (fun g hg => bel.block g (hR g hg)) (fun g hg => bel.block g (hk.lt g hg))
  refine (callsIn_wide (n := 1)).1 ?_
  exact kept1_inS 1 (Nat.le_refl _) l Bn b w.heap.size R kv ks J Jx (fun pre x X hj hp => YieldAt.mono (hY 0 pre x X hj hp) (fun e X' h => by
      rcases h with ⟨e1, h2, h3, -⟩ | ⟨e1, h2, -⟩
      · exact .inl ⟨e1, h2, h3⟩
      · exact .inr ⟨e1, h2⟩)) (fun pre X X' h g => hJ pre X X' none h g (fun r e => by cases e)) W c1 c2 c3 bel.size hlen h0
end Go.Proofs.Ytnflbefbgcbdfaa
