/- F2G, F2F, F2M, F2H, F2N, F2O, P4Row, one text. -/
import Derived.Test.YtggjeamondampabF2X
import Derived.Test.YtggjeamondampabF2Y
import Derived.LoopIn
import Derived.TacticsInMore
import Derived.Deep.RegionHeld3
import Derived.Deep.RegionHeld
import Derived.OrdersHeld
import Derived.Test.YtggjeamondampabF1F
import Derived.Test.YtggjeamondampabBK
import Derived.ProofKit
import Derived.OpenShut
import Derived.ShutString
import Derived.ChangeOld
import Derived.SizedLaws
import Derived.JoinedCond
import Derived.Deep.CondSized
namespace Go.Proofs.Ytggjeamondampab
open Go.RowKit Go.Shelf
set_option linter.unusedVariables false
set_option linter.unusedSimpArgs false
set_option maxRecDepth 100000
set_option maxHeartbeats 4000000
attribute [local go_sem] Oper.semAt_some

/-- A whole frame is loaded, within a round or not. -/
theorem inLoad_row {F : Fence} {n : Nat} {ops : Array Oper} {rest : List Oper} {o : Oper} {a : Act} {w : World} {Q : Exit → Act → World → Prop} (hw : Region.wanted o (yielded ops a.tmps) = true) (x : Operand) (ho : o.op = .load 26 x)
    (g : Nat) (C : Array Value) (hx : a.eval x = .pointer (some ⟨g, 0, none⟩)) (hg : w.heap[g]? = some (.cells C 26 (0, 0))) (iC : (Try.prog.info? 26).map (·.size) = some C.size)
    (h : wpListIn F n Try.prog ops Q rest (a.put o.dst (.agg C)) w) : wpListIn F n Try.prog ops Q (o :: rest) a w := by
  refine wpListIn_step fun K hK => ?_
  rw [if_pos hw]
  unfold Oper.wpIn
  refine ⟨?_, ?_⟩
  · simp [Oper.about, ho]
  · rw [Oper.semAt_plain F _ _ (by rw [ho]; intro c hc; cases hc)]
    unfold execOp
    simp only [ho, hx, Instr.loadAt, Instr.sureAddr, Sem.run_bind, Sem.run_pure, Result.andThen_ok, run_loadVar_row w g 26 26 C (0, 0) _ hg Try.underlying26 rfl iC]
    exact hK _ _ h
/-- A whole frame is stored into a new block. -/
theorem inStore_new {F : Fence} {n : Nat} {ops : Array Oper} {rest : List Oper} {o : Oper} {a : Act} {Q : Exit → Act → World → Prop} (W : World) (Z C : Array Value) (k : Nat) (hgd : o.guard = none) (p x : Operand) (ho : o.op = .store 26 p x)
    (hk : W.heap.size = k) (hp : a.eval p = .pointer (some ⟨k, 0, none⟩)) (hx : a.eval x = .agg C) (iC : (Try.prog.info? 26).map (·.size) = some C.size) (hz : Z.size = C.size) (h1 : C.all (·.oneCell') = true)
    (h : wpListIn F n Try.prog ops Q rest (a.put o.dst undef) (W.alloc (.cells C 26))) : wpListIn F n Try.prog ops Q (o :: rest) a (W.alloc (.cells Z 26)) := by
  subst hk
  refine wpListIn_plain hgd fun K hK => ?_
  unfold Oper.wpIn
  refine ⟨?_, ?_⟩
  · simp [Oper.about, ho]
  · rw [Oper.semAt_plain F _ _ (by rw [ho]; intro c hc; cases hc)]
    unfold execOp
    simp only [ho, hp, hx, Instr.storeAt, Instr.sureAddr, Sem.run_bind, Sem.run_pure, Result.andThen_ok, run_storeVar_row (W.alloc (.cells Z 26)) W.heap.size 26 26 Z C (Blk.new W Z 26) iC hz h1, World.setRow_alloc_new]
    exact hK _ _ h

abbrev FX := Nat × FV
abbrev statX (x : FX) : Nat × Fr := (x.1, x.2.f)
abbrev encX (x : FX) : Array Value := #[.int .i64 (x.1 : Int), .agg x.2.C]
abbrev GdX (x : FX) (X : World) : Prop := OwnB 0 X x.2.d x.2.f.data ∧ OwnR 0 X x.2.r x.2.f.runs
theorem bel_gr {w X : World} (hX : Below w.heap.size w X) : w.grownBy X none := ⟨hX.os, hX.tape, hX.output, hX.size, fun i hi _ => hX.block i hi⟩
theorem gr_bel {w X Y : World} {n : Nat} (hX : Below n w X) (g : X.grownBy Y none) (hn : n ≤ w.heap.size) : Below n w Y :=
  ⟨g.os.trans hX.os, g.tape.trans hX.tape, g.output.trans hX.output, Nat.le_trans hX.size g.size, fun k hk => (g.block k (Nat.lt_of_lt_of_le (Nat.lt_of_lt_of_le hk hn) hX.size) (by simp)).trans (hX.block k hk)⟩

theorem allFr_any (v : Value) (w : World) (hv : ∃ a l c, v = .slice a l c) :
    Calls Try.prog 19 #[v] w fun e w' => e = .returned (.func (.func 30) #[] #[.pointer (some ⟨w.heap.size, 0, none⟩)]) ∧ w' = w.alloc (.cells #[v] 22) := by
  obtain ⟨a, l, c, rfl⟩ := hv
  go_enter Try.func19, Try.ntmps19
  go_wp2
  go_ret
  exact ⟨rfl, rfl⟩

theorem all1_in (n : Nat) (hn : 1 ≤ n) (l Bs N cap : Nat) (a : Option Addr) (b : List Int) (fs : List Fr) (J Jx : List FX → World → Prop) (w₁ w : World)
    (hY : ∀ (pre : List FX) (x : FX) (X : World), J pre X → (pre ++ [x]).map statX <+: plD N b fs → GdX x X → YieldAt Fence.wide (n - 1) Try.prog l (encX x) X fun e X' =>
      (e = .returned (.bool true) ∧ J (pre ++ [x]) X' ∧ Below w₁.heap.size X X') ∨ (e = .returned (.bool false) ∧ Jx (pre ++ [x]) X'))
    (hJ : ∀ pre X X', J pre X → X.grownBy X' none → J pre X')
    (hBs : w₁.cell? ⟨Bs, 0, none⟩ = some (.slice a N cap)) (hin : InS w₁ (.slice a N cap) b) (hN : b.length = N) (hbb : Go.Proofs.Ytggjeamondampab.Bs b) (hNl : N ≤ 4000000000000) (hd : Decs b fs) (h1 : Below w₁.heap.size w₁ w) (h0 : J [] w) :
    CallsIn Fence.wide n Try.prog 30 #[.func (.yield l) #[] #[], .pointer (some ⟨Bs, 0, none⟩)] w fun e W' => (∃ v, e = .returned v) ∧
      ((∃ ys : List FX, ys.map statX = plD N b fs ∧ J ys W') ∨ (∃ pre : List FX, pre.map statX <+: plD N b fs ∧ Jx pre W')) := by
  have hwide : ∀ f, Fence.wide.fn f := fun _ => trivial
  have HY := hide hY; have H0 := hide h0; have HJ := hide hJ; have HIN := hide hin; have HN := hide hN; have HBB := hide hbb; have HD := hide hd; have H1 := hide h1
  clear hY h0 hJ hin hN hbb hd h1
  refine callsIn_of_wp Try.func30 rfl trivial ?_ rfl
  simp only [Try.ntmps30, List.size_toArray, List.length_cons, List.length_nil, Nat.reduceAdd, Nat.reduceSub, Array.replicate_succ, Array.replicate_zero, List.push_toArray, List.append_toArray, List.nil_append, List.cons_append]
  gi_wp2_with fail
  gi_loopw [3] (fun iv wr => ∃ (k : Nat) (pre : List FX) (gs : List Fr), k ≤ N ∧ iv = .int .i64 k ∧ Hid (J pre wr ∧ Below w₁.heap.size w₁ wr ∧ pre.map statX ++ plD N (b.drop k) gs = plD N b fs ∧ Decs (b.drop k) gs)) (fun iv _ => N - (intOf iv).toNat)
  case atStart => exact ⟨0, [], fs, Nat.zero_le _, rfl, unhide H0, unhide H1, rfl, unhide HD⟩
  case round =>
    obtain ⟨k, pre, gs, hk, rfl, H⟩ := hrel
    have cB : wr.cell? ⟨Bs, 0, none⟩ = some (.slice a N cap) := cell_grown hBs (bel_gr (unhide H).2.1)
    by_cases hlt : k < N
    · have kI : (k : Int) < (N : Int) := by omega
      obtain ⟨j1, g1, e1, d1⟩ := unhide H
      have hkl : (b.drop k).length = N - k := by rw [List.length_drop, unhide HN]
      have bk : Go.Proofs.Ytggjeamondampab.Bs (b.drop k) := (unhide HBB).drop k
      generalize hlk : b.drop k = lk' at d1 e1
      cases d1 with
      | nil => rw [hlk] at hkl; simp at hkl; omega
      | @cons _ l1 f gs' q1 q2 q3 q4 =>
        rw [← hlk] at q1 q2 q3 e1
        have de := decode_next ((unhide HIN).keep (bel_gr g1)) (by rw [unhide HN]; omega) (by rw [unhide HN]; omega) q1 bk
        have pb := read_pure bk q1
        obtain ⟨-, -, -, -, -, -, bdat⟩ := pb
        obtain ⟨m, hm⟩ : ∃ m, m = N - l1.length := ⟨_, rfl⟩
        rw [unhide HN, ← hm] at de
        have mk : k < m ∧ m ≤ N := by rw [hkl] at q2; omega
        have dm : b.drop m = l1 := by
          rw [hkl] at q3
          rw [List.drop_drop] at q3
          rw [hm, show N - l1.length = k + (N - k - l1.length) by rw [hkl] at q2; omega]
          exact q3.symm
        have nx : nextL (b.drop k) = l1 := by unfold nextL; rw [q1]
        have e2 : pre.map statX ++ [(k, f)] ++ plD N l1 gs' = plD N b fs := by
          rw [← e1]
          show _ = _ ++ ((N - (b.drop k).length, f) :: plD N (nextL (b.drop k)) gs')
          rw [nx, hkl, show N - (N - k) = k by omega]
          simp
        have HM := hide mk
        have HP := hide (And.intro j1 (And.intro g1 (And.intro e2 (And.intro bdat (And.intro dm q4)))))
        clear H j1 g1 e1 e2 hkl bk hlk q1 q2 q3 q4 bdat mk dm hm hk hlt nx
        gi_upto_region 3 with (first | (gi_at_call 11; refine (callsIn_wide.2 de).mono ?_; rintro e W2 ⟨d2, r2, C, rfl, s2, a2, g2, H2⟩; have iC : (Try.prog.info? 26).map (·.size) = some C.size := (by rw [s2]; exact Try.size26)) | (refine inStore_new W2 Z17 C W2.heap.size rfl _ _ rfl rfl rfl rfl iC (by rw [s2]; rfl) a2 ?_))
        obtain ⟨j1, g1, e2, bdat, dm, q4⟩ := unhide HP
        obtain ⟨hC, oB, oR⟩ := unhide H2
        have B2 := Blk.new W2 C 26
        have g3 := World.grownBy_alloc W2 (.cells C 26) none
        have frr : GdX (k, ⟨f, d2, r2⟩) (W2.alloc (.cells C 26)) := ⟨(oB.keepN g3).mono (Nat.zero_le _), (oR.keepN g3).mono (Nat.zero_le _)⟩
        have jj := unhide HJ _ _ _ j1 (g2.trans g3)
        have bb := gr_bel g1 (g2.trans g3) (Nat.le_refl _)
        have hy0 := unhide HY pre (k, ⟨f, d2, r2⟩) _ jj ⟨plD N l1 gs', by rw [List.map_append]; exact e2⟩ frr
        have eC : encX (k, ⟨f, d2, r2⟩) = #[.int .i64 (k : Int), .agg C] := by rw [hC]
        rw [eC] at hy0
        obtain ⟨fn, tmps, assign, body, hy, hRR⟩ := hy0
        have HRR := hide hRR
        have HP2 := hide (And.intro bb (And.intro e2 (And.intro dm q4)))
        clear hRR j1 g1 e2 bdat dm q4 hC oB oR g3 frr jj bb eC H2 g2 HP de
        generalize W2.alloc (.cells C 26) = W3 at *
        generalize W2.heap.size = b3 at *
        gi_wp2_with (first | (refine inLoad_row (by rfl) _ rfl b3 C rfl B2 iC ?_))
        refine (unhide HRR).mono ?_
        rintro e W4 (⟨rfl, hJ4, hk4⟩ | ⟨rfl, hJx4⟩)
        · have FIN : Hid (J (pre ++ [(k, ⟨f, d2, r2⟩)]) W4 ∧ Below w₁.heap.size w₁ W4 ∧ (pre ++ [((k, ⟨f, d2, r2⟩) : FX)]).map statX ++ plD N (b.drop m) gs' = plD N b fs ∧ Decs (b.drop m) gs') := by
            obtain ⟨bb, e2, dm, q4⟩ := unhide HP2
            exact ⟨hJ4, bb.trans hk4, by rw [dm, List.map_append]; exact e2, by rw [dm]; exact q4⟩
          clear hJ4 hk4 HRR HP2 hy
          gi_wp2_with fail
          go_roundw
          case rel => exact ⟨m, _, gs', (unhide HM).2, rfl, unhide FIN⟩
          case measure => have := (unhide HM).1; have := (unhide HM).2; simp [intOf]; omega
        · have FIN : Hid (∃ pre' : List FX, pre'.map statX <+: plD N b fs ∧ Jx pre' W4) := by
            obtain ⟨bb, e2, dm, q4⟩ := unhide HP2
            exact ⟨_, ⟨plD N l1 gs', by rw [List.map_append]; exact e2⟩, hJx4⟩
          clear hJx4 HRR HP2 hy
          gi_wp2_with fail
          refine bodyPost_ret (results_none rfl _ _ _) rfl ?_
          exact ⟨⟨_, rfl⟩, .inr (unhide FIN)⟩
    · obtain rfl : k = N := by omega
      have kI : ¬ (k : Int) < (k : Int) := by omega
      have FIN : Hid (∃ ys : List FX, ys.map statX = plD k b fs ∧ J ys wr) := by
        obtain ⟨j1, g1, e1, d1⟩ := unhide H
        have : b.drop k = [] := by rw [← unhide HN]; simp
        rw [this] at d1 e1
        cases d1 with
        | nil => exact ⟨pre, by simpa [plD] using e1, j1⟩
        | cons q1 q2 _ _ => simp at q2
      clear H
      gi_wp2_with fail
      go_end0
      exact ⟨⟨_, rfl⟩, .inl (unhide FIN)⟩

/-- All, as it is ranged over. -/
theorem all_seq (Bs N cap : Nat) (a : Option Addr) (b : List Int) (fs : List Fr) (w₁ w : World) (hBs : w₁.cell? ⟨Bs, 0, none⟩ = some (.slice a N cap)) (hin : InS w₁ (.slice a N cap) b) (hN : b.length = N) (hbb : Go.Proofs.Ytggjeamondampab.Bs b) (hNl : N ≤ 4000000000000) (hd : Decs b fs) (h1 : Below w₁.heap.size w₁ w) :
    SeqO 30 #[.pointer (some ⟨Bs, 0, none⟩)] encX (Below w₁.heap.size) GdX (fun ys => ys.map statX = plD N b fs) (fun pre => pre.map statX <+: plD N b fs) w := fun l J Jx X hX hJ hJx hY hJ0 => by
  refine (callsIn_wide (n := 2)).1 (all1_in 2 (by decide) l Bs N cap a b fs J Jx w₁ X ?_ (fun pre Y Y' h g => hJ pre Y Y' none h g (fun r e => by cases e)) hBs hin hN hbb hNl hd (h1.trans (hX.mono h1.size)) hJ0)
  intro pre x Y hj hp hg
  refine (hY 1 pre x Y hj hp hg).mono ?_
  rintro e Y' (⟨h1, h2, h3, -⟩ | ⟨h1, h2, -⟩)
  · exact .inl ⟨h1, h2, h3⟩
  · exact .inr ⟨h1, h2⟩
end Go.Proofs.Ytggjeamondampab

namespace Go.Proofs.Ytggjeamondampab
open Go.RowKit
set_option linter.unusedVariables false
set_option linter.unusedSimpArgs false
set_option maxRecDepth 100000
set_option maxHeartbeats 4000000

theorem exec_load_at {w : World} {o : Oper} {a : Act} {x : Operand} {b off : Nat} {C : Array Value} (ho : o.op = .load 26 x) (hx : a.eval x = .pointer (some ⟨b, off, none⟩)) (h17 : C.size = 17) (hc : ∀ j v, C[j]? = some v → w.cell? ⟨b, off + j, none⟩ = some v) :
    (execOp a.eval o).run Try.prog w = .ok (.value (.agg C)) w := by
  unfold execOp
  simp only [ho, hx, Instr.loadAt, Instr.sureAddr, Sem.run_bind, Sem.run_pure, Result.andThen_ok, load_at h17 hc]
theorem drew_gr (w : World) : w.grownBy w.drew none := ⟨rfl, rfl, rfl, Nat.le_refl _, fun _ _ _ => rfl⟩
theorem sameFrames_any (a a' : Option Addr) (c c' N : Nat) (L M : List FV) (w : World) (hN : L.length = N) (hE : L.map FV.f = M.map FV.f) (h : RdF w a L) (h' : RdF w a' M) (hc : N ≤ c ∧ c ≤ 9223372036854775807) (hc' : N ≤ c' ∧ c' ≤ 9223372036854775807) :
    Calls Try.prog 18 #[.slice a N c, .slice a' N c'] w fun e w' => e = .returned (.bool true) ∧ w.grownBy w' none := by
  have HH := hide h
  have HH' := hide h'
  have HN := hide hN
  have HE := hide hE
  clear h h' hN hE
  go_enter Try.func18, Try.ntmps18
  go_wp2
  go_loopw [5] (fun i wr => ∃ k : Nat, k ≤ N ∧ i = .int .i64 k ∧ Hid (w.grownBy wr none)) (fun i _ => N - (intOf i).toNat)
  case atStart => exact ⟨0, Nat.zero_le _, rfl, World.grownBy.refl w none⟩
  case round =>
    obtain ⟨k, hk, rfl, H⟩ := hrel
    by_cases hlt : k < N
    · have kI : (k : Int) < (N : Int) := by omega
      have hkL : k < L.length := by rw [unhide HN]; exact hlt
      have hl : L.length = M.length := by have := congrArg List.length (unhide HE); simpa using this
      have hkM : k < M.length := by omega
      obtain ⟨b, off, rfl, hcs⟩ := (unhide HH).cells (fun e => by rw [e] at hkL; simp at hkL)
      obtain ⟨b', off', rfl, hcs'⟩ := (unhide HH').cells (fun e => by rw [e] at hkM; simp at hkM)
      obtain ⟨C, hC⟩ : ∃ C, C = (L.getD k fv0).C := ⟨_, rfl⟩
      obtain ⟨C', hC'⟩ : ∃ C', C' = (M.getD k fv0).C := ⟨_, rfl⟩
      have ef : (L.getD k fv0).f = (M.getD k fv0).f := by
        have h1 : (L.map FV.f)[k]? = (M.map FV.f)[k]? := by rw [unhide HE]
        simp only [List.getElem?_map] at h1
        simp only [List.getD]
        rw [List.getElem?_eq_getElem hkL, List.getElem?_eq_getElem hkM] at h1 ⊢
        simpa using h1
      have C17 : C.size = 17 := by rw [hC]; rfl
      have C17' : C'.size = 17 := by rw [hC']; rfl
      have cl : ∀ W, wr.grownBy W none → ∀ j v, C[j]? = some v → W.cell? ⟨b, off + k * 17 + j, none⟩ = some v := fun W g j v hv => cell_grown (cell_grown (hcs k hkL j v (by rw [← hC]; exact hv)) (unhide H)) g
      have cl' : ∀ W, wr.grownBy W none → ∀ j v, C'[j]? = some v → W.cell? ⟨b', off' + k * 17 + j, none⟩ = some v := fun W g j v hv => cell_grown (cell_grown (hcs' k hkM j v (by rw [← hC']; exact hv)) (unhide H)) g
      have r1 := (unhide HH).each (L.getD k fv0) (by simp [List.getD, hkL])
      have r2 := (unhide HH').each (M.getD k fv0) (by simp [List.getD, hkM])
      have sm : Hid (∀ W, wr.grownBy W none → Calls Try.prog 13 #[.agg C, .agg C'] W fun e w' => e = .returned (.bool true) ∧ W.grownBy w' none) := fun W g => by
        have hh := same_fr (L.getD k fv0).f (L.getD k fv0).d (L.getD k fv0).r (M.getD k fv0).d (M.getD k fv0).r W ((r1.keep (unhide H)).keep g) (by rw [ef]; exact (r2.keep (unhide H)).keep g)
        rw [hC, hC']
        have e2 : (M.getD k fv0).C = (L.getD k fv0).f.cs (M.getD k fv0).d (M.getD k fv0).r := by rw [ef]
        rw [e2]
        exact hh
      have HLT := hide hlt
      clear hcs hcs' hC hC' ef r1 r2 hl hkL hkM hlt hk
      go_upto_region 6 with fail
      refine wp_region_held_drew (S := fun W => wr.grownBy W none) (by kernel_rfl) (drew_gr wr) (fun hHeld => ?_)
      refine wpAnyH_take (i := 0) (v := ?_) rfl (by as_aux_lemma => kernel_rfl) (by as_aux_lemma => kernel_rfl) (by as_aux_lemma => kernel_rfl) (fun _ _ _ h => h) (Or.inl ⟨by rfl, ?_⟩) (by assumption) ?_
      rotate_left
      · intro wH hSw
        try dsimp only at hSw
        go_simp
        try with_reducible rfl
      try simp only [Act.put, List.setIfInBounds_toArray, List.set_cons_zero, List.set_cons_succ]
      refine wpAnyH_take (i := 1) (v := ?_) rfl (by as_aux_lemma => kernel_rfl) (by as_aux_lemma => kernel_rfl) (by as_aux_lemma => kernel_rfl) (fun _ _ _ h => h) (Or.inl ⟨by rfl, ?_⟩) (by assumption) ?_
      rotate_left
      · intro wH hSw
        try dsimp only at hSw
        go_simp
        try with_reducible rfl
      try simp only [Act.put, List.setIfInBounds_toArray, List.set_cons_zero, List.set_cons_succ]
      refine wpAnyH_take (i := 2) (v := ?_) rfl (by as_aux_lemma => kernel_rfl) (by as_aux_lemma => kernel_rfl) (by as_aux_lemma => kernel_rfl) (fun _ _ _ h => h) (Or.inl ⟨by rfl, ?_⟩) (by assumption) ?_
      rotate_left
      · intro wH hSw
        try dsimp only at hSw
        go_simp
        try with_reducible rfl
      try simp only [Act.put, List.setIfInBounds_toArray, List.set_cons_zero, List.set_cons_succ]
      refine wpAnyH_take (i := 3) (v := .agg C) rfl (by as_aux_lemma => kernel_rfl) (by as_aux_lemma => kernel_rfl) (by as_aux_lemma => kernel_rfl) (fun _ _ _ h => h) (Or.inl ⟨by rfl, ?_⟩) (by assumption) ?_
      · intro wH hSw
        exact exec_load_at (x := .tmp 20) rfl rfl C17 (cl wH hSw)
      try simp only [Act.put, List.setIfInBounds_toArray, List.set_cons_zero, List.set_cons_succ]
      refine wpAnyH_take (i := 4) (v := ?_) rfl (by as_aux_lemma => kernel_rfl) (by as_aux_lemma => kernel_rfl) (by as_aux_lemma => kernel_rfl) (fun _ _ _ h => h) (Or.inl ⟨by rfl, ?_⟩) (by assumption) ?_
      rotate_left
      · intro wH hSw
        try dsimp only at hSw
        go_simp
        try with_reducible rfl
      try simp only [Act.put, List.setIfInBounds_toArray, List.set_cons_zero, List.set_cons_succ]
      refine wpAnyH_take (i := 5) (v := ?_) rfl (by as_aux_lemma => kernel_rfl) (by as_aux_lemma => kernel_rfl) (by as_aux_lemma => kernel_rfl) (fun _ _ _ h => h) (Or.inl ⟨by rfl, ?_⟩) (by assumption) ?_
      rotate_left
      · intro wH hSw
        try dsimp only at hSw
        go_simp
        try with_reducible rfl
      try simp only [Act.put, List.setIfInBounds_toArray, List.set_cons_zero, List.set_cons_succ]
      refine wpAnyH_take (i := 6) (v := ?_) rfl (by as_aux_lemma => kernel_rfl) (by as_aux_lemma => kernel_rfl) (by as_aux_lemma => kernel_rfl) (fun _ _ _ h => h) (Or.inl ⟨by rfl, ?_⟩) (by assumption) ?_
      rotate_left
      · intro wH hSw
        try dsimp only at hSw
        go_simp
        try with_reducible rfl
      try simp only [Act.put, List.setIfInBounds_toArray, List.set_cons_zero, List.set_cons_succ]
      refine wpAnyH_take (i := 7) (v := .agg C') rfl (by as_aux_lemma => kernel_rfl) (by as_aux_lemma => kernel_rfl) (by as_aux_lemma => kernel_rfl) (fun _ _ _ h => h) (Or.inl ⟨by rfl, ?_⟩) (by assumption) ?_
      · intro wH hSw
        exact exec_load_at (x := .tmp 24) rfl rfl C17' (cl' wH hSw)
      try simp only [Act.put, List.setIfInBounds_toArray, List.set_cons_zero, List.set_cons_succ]
      refine wpAnyH_ready (rs := [8]) (by as_aux_lemma => kernel_rfl) (by simp) ?_
      refine AllReadyH.cons rfl (fun KH hKH => ?_) AllReadyH.nil
      go_simp
      refine (unhide sm _ (drew_gr wr)).mono ?_
      rintro e W9 ⟨rfl, g9⟩
      refine hKH.out _ _ ((drew_gr wr).trans g9) (fun hHeld2 => ?_)
      clear hKH KH
      try simp only [Act.put, List.setIfInBounds_toArray, List.set_cons_zero, List.set_cons_succ]
      refine wpAnyH_ready (rs := [9]) (by as_aux_lemma => kernel_rfl) (by simp) ?_
      refine AllReadyH.cons rfl (fun KH hKH => ?_) AllReadyH.nil
      go_simp
      refine hKH.out _ _ ((drew_gr wr).trans g9) (fun hHeld3 => ?_)
      clear hKH KH
      try simp only [Act.put, List.setIfInBounds_toArray, List.set_cons_zero, List.set_cons_succ]
      refine wpAnyH_done (by as_aux_lemma => kernel_rfl) ?_ _
      have G9 := hide ((unhide H).trans ((drew_gr wr).trans g9))
      clear hHeld hHeld2 hHeld3 cl cl' sm g9
      go_wp2
      exact ⟨⟨k + 1, unhide HLT, by go_num, unhide G9⟩, by simp [intOf]; have := unhide HLT; omega⟩
    · obtain rfl : k = N := by omega
      have kI : ¬ (k : Int) < (k : Int) := by omega
      go_wp2
      go_ret
      exact ⟨rfl, unhide H⟩
end Go.Proofs.Ytggjeamondampab

namespace Go.Proofs.Ytggjeamondampab
open Go.RowKit Go.Shelf
set_option linter.unusedVariables false
set_option maxHeartbeats 1000000

theorem rowsIn_of {n : Nat} {P : Program} {row : String} {args : Array Value} {w : World} {R : Value → World → Prop} (h : Rows P row args w R) : RowsIn Fence.wide n P row args w R :=
  fun c cs _ => let ⟨v, w', r, s⟩ := h c cs; ⟨v, w', r, stepsIn_wide.2 s⟩

theorem opIn_of {n : Nat} {P : Program} {ops : Array Oper} {Q Q' : Exit → Act → World → Prop} {i : Nat} {K K' : Act → World → Prop} {a : Act} {w : World} (h2 : ∀ c a w, ¬ Q' (.panic c) a w) (h3 : ¬ LetsOut Q') (hK : ∀ a w, K' a w → K a w) (h : wpOp P ops Q' i K' a w) : wpOpIn Fence.wide n P ops Q i K a w := by
  unfold wpOp at h
  unfold wpOpIn
  cases ho : ops[i]? with
  | none => rw [ho] at h; exact hK _ _ h
  | some o =>
    rw [ho] at h
    simp only at h ⊢
    by_cases hw : Region.wanted o (yielded ops a.tmps) = true
    · rw [if_pos hw] at h ⊢
      rcases h with h | ⟨-, h⟩
      · refine ⟨fun _ _ => trivial, ?_⟩
        have e : o.semAt Fence.wide.round a.eval = execOp a.eval o := Oper.semAt_none _ _
        rw [e]
        unfold Oper.wp at h
        cases hx : (execOp a.eval o).run P w with
        | ok r w' =>
          rw [hx] at h
          cases r <;> simp only [Oper.upon, Oper.uponIn] at h ⊢
          case value v => exact hK _ _ h
          case skip => exact hK _ _ h
          case defer d => exact hK _ _ h
          case enter f args =>
            refine ⟨fun hd => absurd hd (by simp [Fence.wide]), callsIn_wide.2 (h.mono ?_)⟩
            intro e w'' he
            cases e with
            | returned v => exact hK _ _ he
            | panicked c => exact absurd he (h2 _ _ _)
            | outgrown => exact absurd he h3
          case row row args => exact ⟨fun hd => absurd hd (by simp [Fence.wide]), (rowsIn_of h).mono fun v w'' he => hK _ _ he⟩
        | halt x w' =>
          rw [hx] at h
          cases x <;> simp only [Oper.upon, Oper.uponIn] at h ⊢
          case panic v => exact absurd h (h2 _ _ _)
      · exact absurd h h3
    · rw [if_neg hw] at h ⊢
      exact ⟨fun _ _ => trivial, hK _ _ h⟩

theorem anyIn_of {n : Nat} {P : Program} {md : Region.Mode} {ops : Array Oper} {Q Q' : Exit → Act → World → Prop} (h1 : ∀ a w, Q' .normal a w → Q .normal a w) (h2 : ∀ c a w, ¬ Q' (.panic c) a w) (h3 : ¬ LetsOut Q') : ∀ (fuel : Nat) (listed : Array Bool) (a : Act) (w : World), wpAny P md ops Q' fuel listed a w → wpAnyIn Fence.wide n P md ops Q fuel listed a w
  | 0, _, _, _, h => ⟨h.1, h1 _ _ h.2⟩
  | fuel + 1, _, _, _, h => ⟨fun hh => h1 _ _ (h.1 hh), fun i hi => opIn_of h2 h3 (fun a' w' hh => anyIn_of h1 h2 h3 fuel _ a' w' hh) (h.2 i hi)⟩

/-- A region, held, in a round. -/
theorem region_held_round {n : Nat} {P : Program} {id l : Nat} {Q : Exit → Act → World → Prop} {a : Act} {w : World} {ls : List Oper} {S : World → Prop} (hm : P.follows .mixedOrders = true) (hnd : ls.all noDefer = true) (hS : S w.drew)
    (h : S w.drew → wpAnyH P .any ls.toArray (fun e a' w' => e = .normal ∧ Q .normal a' w') S ls.toArray.size (Array.replicate ls.toArray.size false) a w.drew) : (Code.region id ls.toArray true).wpIn (Fence.wide.inRound l) n P Q a w := by
  refine wpIn_region_any hm (wpAnyIn_round l (fun i o ho => ?_) _ _ _ _ (anyIn_of (Q' := fun e a' w' => e = .normal ∧ Q .normal a' w') (fun a' w' hh => hh.2) (fun c a' w' hh => by cases hh.1) (fun ⟨a', w', hh⟩ => by cases hh.1) _ _ _ _ (wpAny_of_held _ _ _ _ (h hS))))
  have : o ∈ ls := by
    have h2 : ls[i]? = some o := by simpa using ho
    exact List.mem_of_getElem? h2
  exact List.all_eq_true.1 hnd o this
end Go.Proofs.Ytggjeamondampab

namespace Go.Proofs.Ytggjeamondampab
open Go.RowKit Go.Shelf
set_option linter.unusedVariables false
set_option linter.unusedSimpArgs false
set_option maxRecDepth 100000
set_option maxHeartbeats 4000000
attribute [local go_sem] Oper.semAt_some

theorem InF.keep {w W : World} {a : Option Addr} {L : List FV} (h : InF w a L) (g : w.grownBy W none) : InF W a L :=
  ⟨h.rd.grow g, fun x hx => ⟨(h.each x hx).1.keep g, (h.each x hx).2.1.keep g, (h.each x hx).2.2⟩, h.few⟩
theorem seqF_nilIn (W : World) (d : Nat) (f : Fn) (x y : Array Value) : (Op.equalIn (d + 1) 48 (.func f x y) .nilFunc).run Try.prog W = .ok false W := by
  rw [Op.equalIn]
  simp [run_underlying Try.underlying48]
theorem seqF_nil (W : World) (f : Fn) (x y : Array Value) : (binOp .eql 48 (.func f x y) .nilFunc).run Try.prog W = .ok (.bool false) W := by
  simp only [binOp]
  simp [Op.equal, Op.maxDepth, seqF_nilIn W 9999 f x y]
/-- Parse of nothing. -/
theorem parse_none (a : Option Addr) (c : Nat) (w : World) :
    Calls Try.prog 16 #[.slice a 0 c] w fun e w' => e = .returned (.tuple #[nilS, .int .i64 0, .int .i64 43]) ∧ w' = w := by
  go_enter Try.func16, Try.ntmps16
  go_wp2
  go_ret3
  exact ⟨rfl, rfl⟩

/-- The loop's variables are laid. -/
def putF (a : Act) (x : FX) (C : Array Value) (Bx : Nat) : Act := { tmps := (((a.tmps.setIfInBounds 84 (.int .i64 (x.1 : Int))).setIfInBounds 85 (.agg C)).setIfInBounds 14 (.int .i64 (x.1 : Int))).setIfInBounds 15 (.pointer (some ⟨Bx, 0, none⟩)), defers := [] }
theorem join_nil {L : List Fr} (h : JoinOk L []) : L = [] := by
  cases L with
  | nil => rfl
  | cons f L =>
    obtain ⟨n, rs, r, ht, -, e, -⟩ := h
    obtain ⟨r', e', -⟩ := tell_head ht
    rw [e'] at e
    cases e

theorem row_err (a : Option Addr) (c N : Nat) (L : List FV) (w : World) (hN : L.length = N) (h : InF w a L) (hc : N ≤ c ∧ c ≤ 9223372036854775807) (he : (joinG [] (L.map FV.f)).2 ≠ 0) :
    CallsIn Fence.wide 4 Try.prog 6 #[.slice a N c] w fun e w' => e = .returned (.bool true) ∧ Below w.heap.size w w' := by
  have hwide : ∀ f, Fence.wide.fn f := fun _ => trivial
  have AW := awake_any (w.alloc (.cells #[.bool false] 4))
  have g0 := World.grownBy_alloc w (.cells #[.bool false] 4) none
  have bx0 : Boxed (w.alloc (.cells #[.bool false] 4)) w.heap.size 4 (.bool false) := heap_alloc_new w _
  obtain ⟨jb, je⟩ := joinG_err (L.map FV.f) [] _ _ (Prod.ext rfl rfl) he
  have npos : 0 < N := by
    rw [← hN]; exact List.length_pos_iff.2 (fun e => by rw [e] at je; exact je rfl)
  have np : (0 : Int) < (N : Int) := by omega
  have HJ := hide (fun W (g : w.grownBy W none) => joinFr_any a c N L W hN (h.keep g) hc)
  obtain ⟨x, hx⟩ : ∃ x, x = (joinG [] (L.map FV.f)).2 := ⟨_, rfl⟩
  rw [← hx] at he
  have nx : (x != 0) = true := bne_iff_ne.2 he
  have nx2 : ¬ x = 0 := he
  rw [← hx, jb] at HJ
  clear h hN jb je hx he
  refine callsIn_of_wp_marks Try.func6 rfl trivial ?_ rfl
  simp only [Try.ntmps6, List.size_toArray, List.length_cons, List.length_nil, Nat.reduceAdd, Nat.reduceSub, Array.replicate_succ, Array.replicate_zero, List.push_toArray, List.append_toArray, List.nil_append, List.cons_append]
  gi_upto_region 2 with (gi_at_call 8; refine (callsIn_wide.2 AW).mono ?_; rintro e W1 ⟨rfl, g1⟩)
  have jn := unhide HJ W1 (g0.trans g1)
  clear AW HJ
  gi_upto_region 3 with (gi_at_call 15; refine (callsIn_wide.2 jn).mono ?_; rintro e W2 ⟨v, rfl, o2, g2⟩; obtain ⟨va, vc, rfl⟩ := o2.shape; have bx2 : Boxed W2 w.heap.size 4 (.bool false) := ((g1.trans g2).block _ bx0.lt (by simp)).trans bx0; have cz := bx2.cell; have cf := bx2.frozen)
  have HB := hide bx2
  have HG := hide (grown_bel ((g0.trans g1).trans g2))
  clear jn o2 g0 g1 g2 bx0 bx2
  gi_wp2
  have bxf := Boxed.set (.bool true) (unhide HB)
  have hcf := bxf.cell
  refine ⟨.bool true, ?_, rfl, (unhide HG).setCell (p := ⟨w.heap.size, 0, none⟩) (Nat.le_refl _) _⟩
  simp [results, Try.results6, go_sem, hcf]

theorem row_none (a : Option Addr) (c : Nat) (w : World) (h : InF w a []) (hc : c ≤ 9223372036854775807) :
    CallsIn Fence.wide 4 Try.prog 6 #[.slice a 0 c] w fun e w' => e = .returned (.bool true) ∧ Below w.heap.size w w' := by
  have hwide : ∀ f, Fence.wide.fn f := fun _ => trivial
  have AW := awake_any (w.alloc (.cells #[.bool false] 4))
  have g0 := World.grownBy_alloc w (.cells #[.bool false] 4) none
  have bx0 : Boxed (w.alloc (.cells #[.bool false] 4)) w.heap.size 4 (.bool false) := heap_alloc_new w _
  have HJ := hide (fun W (g : w.grownBy W none) => joinFr_any a c 0 [] W rfl (h.keep g) ⟨Nat.zero_le _, hc⟩)
  simp only [List.map_nil, joinG] at HJ
  clear h
  refine callsIn_of_wp_marks Try.func6 rfl trivial ?_ rfl
  simp only [Try.ntmps6, List.size_toArray, List.length_cons, List.length_nil, Nat.reduceAdd, Nat.reduceSub, Array.replicate_succ, Array.replicate_zero, List.push_toArray, List.append_toArray, List.nil_append, List.cons_append]
  gi_upto_region 2 with (gi_at_call 8; refine (callsIn_wide.2 AW).mono ?_; rintro e W1 ⟨rfl, g1⟩)
  have jn := unhide HJ W1 (g0.trans g1)
  clear AW HJ
  gi_upto_region 3 with (gi_at_call 15; refine (callsIn_wide.2 jn).mono ?_; rintro e W2 ⟨v, rfl, o2, g2⟩; obtain ⟨va, vc, rfl⟩ := o2.shape; have bx2 : Boxed W2 w.heap.size 4 (.bool false) := ((g1.trans g2).block _ bx0.lt (by simp)).trans bx0; have cz := bx2.cell; have cf := bx2.frozen)
  have HB := hide bx2
  have HG := hide (grown_bel ((g0.trans g1).trans g2))
  clear jn o2 g0 g1 g2 bx0 bx2
  have pn := parse_none va vc W2
  gi_wp2_with (gi_at_call 16; refine (callsIn_wide.2 pn).mono ?_; rintro e W3 ⟨rfl, hw⟩; replace hw := hw.symm; subst hw)
  have bxf := Boxed.set (.bool true) (unhide HB)
  have hcf := bxf.cell
  refine ⟨.bool true, ?_, rfl, (unhide HG).setCell (p := ⟨w.heap.size, 0, none⟩) (Nat.le_refl _) _⟩
  simp [results, Try.results6, go_sem, hcf]
end Go.Proofs.Ytggjeamondampab

namespace Go.Proofs.Ytggjeamondampab
open Go.RowKit Go.Shelf
set_option linter.unusedVariables false
set_option linter.unusedSimpArgs false
set_option maxRecDepth 100000
set_option maxHeartbeats 4000000
attribute [local go_sem] Oper.semAt_some

/-- What is held between two rounds. -/
structure RowI (w7 : World) (b : List Int) (M : Nat) (pre : List FX) (X : World) : Prop where
  bel : Below w7.heap.size w7 X
  n : Boxed X w7.heap.size 3 (.int .i64 (pre.length : Int))
  goal : Boxed X (w7.heap.size + 1) 3 (.int .i64 ((M - (restAt b pre.length).length : Nat) : Int))
theorem RowI.own {w7 X X' : World} {b : List Int} {M B : Nat} {pre : List FX} {row : Option Nat} (h : RowI w7 b M pre X) (g : X.grownBy X' row) (hr : Rec B X row) (hB : w7.heap.size ≤ B) : RowI w7 b M pre X' :=
  ⟨h.bel.grown g h.bel.size (fun k e => by have := (hr k e).1; omega), bxOwn h.n g hr, bxOwn h.goal g hr⟩

theorem own_rec {w W : World} {base sz n B : Nat} {e : TypeId} {v : Value} {cs : List Value} {row : Option Nat} (h : w.ownsRow base e sz v n cs) (g : w.grownBy W row) (hr : Rec B w row) : W.ownsRow base e sz v n cs := by
  refine World.ownsRow.kept h g ?_
  rcases h.2 with ⟨e1, -⟩ | ⟨g', c', cur, e1, q1, q2, -⟩
  · left; rw [e1]; rfl
  · right; rw [e1]; exact hr.ne_blk q2
/-- What a round finds. -/
def AxF (a : Act) (x : FX) (a' : Act) (W : World) : Prop := ∃ (Bx : Nat) (C : Array Value), C = x.2.C ∧ W.heap[Bx]? = some (.cells C 26 (0, 0)) ∧ GdX x W ∧ a' = putF a x C Bx
theorem axF_own (a : Act) (B : Nat) (x : FX) (a' : Act) : OwnFrom B (fun (_ : Unit) W => AxF a x a' W) := by
  rintro s W W' row ⟨Bx, C, h0, h1, ⟨h2, h3⟩, h4⟩ hg hr
  have hr' : Rec B W row := hr
  exact ⟨Bx, C, h0, (hg.block Bx (Array.getElem?_eq_some_iff.1 h1).1 (hr'.ne_blk h1)).trans h1, ⟨own_rec h2 hg hr', own_rec h3 hg hr'⟩, h4⟩
theorem rangeF {g : Operand} {assign body : Code} {Q : Exit → Act → World → Prop} {a : Act} {w : World} (n n1 : Nat)
    {gf : Nat} {lb : Array Value} (hg : a.eval g = .func (.func gf) #[] lb) (eg : ∀ args w, (callFunc gf args).run Try.prog w = .ok (.enter gf args) w)
    {S Sp' : List FX → Prop} (hseq : SeqO gf lb encX (Below n1) GdX S Sp' w) (hn1 : n1 ≤ w.heap.size)
    (I : List FX → World → Prop) (hI : OwnFrom w.heap.size I) (h0 : I [] w)
    (hassign : ∀ (l m : Nat) (pre : List FX) (x : FX) (C : Array Value) (W : World) (K : Act → World → Prop), C = x.2.C → I pre W → GdX x W → (∀ a' W', KeepsFrom w.heap.size W W' → Below n1 W W' → I pre W' → AxF a x a' W' → K a' W') →
      assign.wpIn (Fence.wide.inRound l) m Try.prog (Exit.then K (fun _ _ _ => False)) { tmps := (a.tmps.setIfInBounds 84 (.int .i64 (x.1 : Int))).setIfInBounds 85 (.agg C), defers := [] } W)
    (hbody : ∀ (l m : Nat) (pre : List FX) (x : FX) (C : Array Value) (Bx : Nat) (W : World), C = x.2.C → I pre W → W.heap[Bx]? = some (.cells C 26 (0, 0)) → GdX x W → Sp' (pre ++ [x]) →
      body.wpIn (Fence.wide.inRound l) m Try.prog (ownPostG w.heap.size (Below n1) I (fun _ _ _ => False) (pre ++ [x]) W) (putF a x C Bx) W)
    (hdone : ∀ (D : Nat) (xs : List FX) (W : World), w.heap.size ≤ D → S xs → I xs W → W.heap[D]? = some (.deferred (some [])) → Q .normal { a with defers := { target := .collected D, args := #[] } :: a.defers } W) :
    (Code.rangeFunc g #[84, 85] assign body).wpIn Fence.wide n Try.prog Q a w :=
  range_own n hg eg hseq (fun h k => h.trans k) (fun X j o o' hj hl ho => (Below.refl _ X).grown (grownBy_putObj' X j o') (by have := (Array.getElem?_eq_some_iff.1 hl).1; omega) (fun k e => by cases e; omega)) (fun _ => rfl) I (fun _ _ _ => False) hI (fun _ _ _ _ _ h => h.elim) h0 (AxF a) (fun x a' => axF_own a _ x a')
    (fun l m pre x W K hi hgd hK => by
      have e : (#[84, 85].zip (encX x)).foldl (fun t (p, v) => t.setIfInBounds p v) a.tmps = (a.tmps.setIfInBounds 84 (.int .i64 (x.1 : Int))).setIfInBounds 85 (.agg x.2.C) := by simp [encX]
      rw [e]
      exact hassign l m pre x x.2.C W K rfl hi hgd hK)
    (fun l m pre x a' W _ _ hi ⟨Bx, C, hC, hx, hgd, e⟩ hp => by subst e; exact hbody l m pre x C Bx W hC hi hx hgd hp) hdone (fun _ _ _ _ _ _ h => h.elim)
theorem sp_at {M : Nat} {b : List Int} {fs : List Fr} {pre : List FX} {x : FX} (h : (pre ++ [x]).map statX <+: plD M b fs) : fs[pre.length]? = some x.2.f ∧ x.1 = M - (restAt b pre.length).length := by
  obtain ⟨t, ht⟩ := h
  have h1 : (plD M b fs)[pre.length]? = some (statX x) := by rw [← ht]; simp
  have hlt : pre.length < fs.length := by rw [← plD_len M fs b]; exact (List.getElem?_eq_some_iff.1 h1).1
  have h2 := plD_at M fs b pre.length fs[pre.length] (List.getElem?_eq_getElem hlt)
  rw [h1] at h2
  injection h2 with h2
  have h3 := congrArg Prod.fst h2
  have h4 := congrArg Prod.snd h2
  exact ⟨by rw [List.getElem?_eq_getElem hlt]; exact congrArg some h4.symm, h3⟩

theorem row_ok (a : Option Addr) (c N : Nat) (L : List FV) (b : List Int) (w : World) (hN : L.length = N) (h : InF w a L) (hc : N ≤ c ∧ c ≤ 9223372036854775807) (hB : ∀ x ∈ L, Bs x.f.data) (hj : joinG [] (L.map FV.f) = (b, 0)) (hne : b ≠ []) :
    CallsIn Fence.wide 4 Try.prog 6 #[.slice a N c] w fun e w' => e = .returned (.bool true) ∧ Below w.heap.size w w' := by
  have hwide : ∀ f, Fence.wide.fn f := fun _ => trivial
  have AW := awake_any (w.alloc (.cells #[.bool false] 4))
  have g0 := World.grownBy_alloc w (.cells #[.bool false] 4) none
  have bx0 : Boxed (w.alloc (.cells #[.bool false] 4)) w.heap.size 4 (.bool false) := heap_alloc_new w _
  have HJ := hide (fun W (g : w.grownBy W none) => joinFr_any a c N L W hN (h.keep g) hc)
  rw [hj] at HJ
  -- what the bytes are
  obtain ⟨r, e1, jo⟩ := joinG_ok (L.map FV.f) [] b hj
  rw [List.nil_append] at e1
  subst e1
  have mem : ∀ f ∈ L.map FV.f, ∃ x ∈ L, x.f = f := fun f hf => by
    obtain ⟨x, hx, rfl⟩ := List.mem_map.1 hf; exact ⟨x, hx, rfl⟩
  obtain ⟨bb, bl, bp⟩ := join_bytes (L.map FV.f) b jo (fun f hf => by
    obtain ⟨x, hx, rfl⟩ := mem f hf
    exact ⟨(h.each x hx).2.2.2.2, (h.each x hx).2.2.2.1, hB x hx⟩)
  have mx : ∀ f ∈ L.map FV.f, (f.runs.length : Int) ≤ MAXN := fun f hf => by
    obtain ⟨x, hx, rfl⟩ := mem f hf
    have := (h.each x hx).2.2.2.2
    unfold MAXN; omega
  have dj := decs_join (L.map FV.f) b 0 jo mx
  have de := decE_join (L.map FV.f) b 0 jo mx
  rw [List.replicate_zero, List.nil_append] at dj de
  have ml := merge_len (L.map FV.f) 0 (fun f hf hk => (bp f hf hk).2)
  have few := h.few
  rw [List.length_map] at bl ml
  have fine : ∀ f ∈ mergeF 0 (L.map FV.f), (∀ x ∈ f.data, IsB x) ∧ (∀ s ∈ f.runs, -9223372036854775808 ≤ s.1 ∧ s.1 ≤ 9223372036854775807) ∧ (-9223372036854775808 ≤ f.kind ∧ f.kind ≤ 9223372036854775807) ∧ f.runs.length * 16 ≤ 140737488351232 ∧ f.data.length ≤ 140737488351232 := fun f hf => by
    rcases mem_merge _ _ f hf with hf | ⟨k, rfl⟩
    · obtain ⟨x, hx, rfl⟩ := mem f hf
      obtain ⟨q1, q2, q3, q4, q5⟩ := h.each x hx
      exact ⟨hB x hx, q1.runs64, q3, by omega, by omega⟩
    · refine ⟨?_, ?_, ?_, ?_, ?_⟩ <;> simp [padF, Fr.zero]
  have HMG := hide (fun W (g : w.grownBy W none) => merged_any a c N L W hN (h.keep g) hc (fun x hx hk => bp x.f (List.mem_map_of_mem hx) hk))
  obtain ⟨fs, hfs⟩ : ∃ fs, fs = mergeF 0 (L.map FV.f) := ⟨_, rfl⟩
  rw [← hfs] at dj de ml fine HMG
  obtain ⟨M, hM⟩ : ∃ M, M = b.length := ⟨_, rfl⟩
  have M0 : 0 < M := by rw [hM]; exact List.length_pos_iff.2 hne
  have Ml : M ≤ 4000000000000 := by omega
  have fl : fs.length ≤ 800000000000 := by omega
  have pM : ((M : Int) == 0) = false := by simp; omega
  have pM2 : ¬ (M : Int) = 0 := by omega
  have ST := hide (And.intro hM.symm (And.intro bb (And.intro dj (And.intro de (And.intro fine hne)))))
  have HFL := hide (And.intro Ml fl)
  have HM0 := hide M0
  have eb : b.length = M := hM.symm
  simp only at HJ
  clear h hN hB hj jo mem bb bl bp mx dj de ml few fine hfs hM hne eb M0 Ml fl
  refine callsIn_of_wp_marks Try.func6 rfl trivial ?_ rfl
  simp only [Try.ntmps6, List.size_toArray, List.length_cons, List.length_nil, Nat.reduceAdd, Nat.reduceSub, Array.replicate_succ, Array.replicate_zero, List.push_toArray, List.append_toArray, List.nil_append, List.cons_append]
  gi_upto_region 2 with (gi_at_call 8; refine (callsIn_wide.2 AW).mono ?_; rintro e W1 ⟨rfl, g1⟩)
  have jn := unhide HJ W1 (g0.trans g1)
  clear AW HJ
  gi_upto_region 3 with (gi_at_call 15; refine (callsIn_wide.2 jn).mono ?_; rintro e W2 ⟨v, rfl, o2, g2⟩; obtain ⟨va, vc, hv⟩ := o2.shape; rw [(unhide ST).1] at hv; subst hv)
  have in2 := o2.inS (unhide ST).2.1
  have ps := parse_any va vc M b fs W2 (unhide ST).1 in2 (unhide ST).2.1 (unhide HFL).1 (unhide ST).2.2.2.2.2 (unhide ST).2.2.1 (unhide HFL).2
  have gw2 := (g0.trans g1).trans g2
  have bx2 : Boxed W2 w.heap.size 4 (.bool false) := ((g1.trans g2).block _ bx0.lt (by simp)).trans bx0
  have H2 := hide (And.intro in2 (And.intro gw2 bx2))
  clear jn o2 g0 g1 g2 bx0 in2 gw2 bx2
  gi_upto_region 10 with (gi_at_call 16; refine (callsIn_wide.2 ps).mono ?_; rintro e W3 ⟨v3, rfl, L3, q3, o3, g3⟩)
  obtain ⟨Kf, hKf⟩ : ∃ Kf, Kf = fs.length := ⟨_, rfl⟩
  have l3 : L3.length = Kf := by rw [hKf, ← q3, List.length_map]
  obtain ⟨a3, c3, rfl, rd3, c3a, c3b⟩ := o3.rd
  rw [l3] at c3a
  have mg := unhide HMG W3 ((unhide H2).2.1.trans g3)
  have H3 := hide (And.intro rd3 (And.intro q3 (And.intro l3 (And.intro g3 (And.intro hKf (And.intro c3a c3b))))))
  rw [l3]
  clear ps rd3 q3 l3 g3 o3 hKf HMG c3a c3b
  gi_upto_region 11 with (gi_at_call 17; refine (callsIn_wide.2 mg).mono ?_; rintro e W4 ⟨v4, rfl, L4, q4, o4, g4⟩; have l4 : L4.length = Kf := (by rw [(unhide H3).2.2.2.2.1, ← q4, List.length_map]); obtain ⟨a4, c4, e4, rd4, c4a, c4b⟩ := o4.rd; rw [l4] at e4 c4a; subst e4)
  obtain ⟨rd3, q3, l3, g3, hKf, c3a, c3b⟩ := unhide H3
  have g5 := World.grownBy_alloc W4 (.cells #[.slice a4 Kf c4] 41) none
  have sf := sameFrames_any a3 a4 c3 c4 Kf L3 L4 (W4.alloc (.cells #[.slice a4 Kf c4] 41)) l3 (by rw [q3, q4]) ((rd3.grow g4).grow g5) (rd4.grow g5) ⟨c3a, c3b⟩ ⟨c4a, c4b⟩
  have bw5 : Boxed (W4.alloc (.cells #[.slice a4 Kf c4] 41)) W4.heap.size 41 (.slice a4 Kf c4) := heap_alloc_new W4 _
  have cw5 := bw5.cell
  have H5 := hide (And.intro ((unhide H2).2.1.trans ((g3.trans g4).trans g5)) (And.intro ((g3.trans g4).trans g5) (And.intro (rd4.grow g5) (And.intro q4 (And.intro bw5 (And.intro hKf (And.intro c4a c4b)))))))
  clear rd3 q3 l3 g3 hKf c3a c3b H3 mg rd4 c4a c4b o4 g4 q4 l4 g5 bw5
  generalize W4.alloc (.cells #[.slice a4 Kf c4] 41) = W5 at *
  generalize W4.heap.size = Bw at *
  gi_upto_region 14 with (gi_at_call 18; refine (callsIn_wide.2 sf).mono ?_; rintro e W6 ⟨rfl, g6⟩)
  have af := allFr_any (.slice va M vc) W6 ⟨_, _, _, rfl⟩
  have snil := seqF_nil
  clear sf cw5
  gi_upto_region 17 with (gi_at_call 19; refine (callsIn_wide.2 af).mono ?_; rintro e W7 ⟨rfl, hw7⟩; replace hw7 := hide hw7)
  have H7 : Hid (w.grownBy W7 none ∧ InS W7 (.slice va M vc) b ∧ Boxed W7 W6.heap.size 22 (.slice va M vc) ∧ Boxed W7 w.heap.size 4 (.bool false) ∧ Boxed W7 Bw 41 (.slice a4 Kf c4) ∧ RdF W7 a4 L4 ∧ L4.map FV.f = fs ∧ Kf = fs.length ∧ Kf ≤ c4 ∧ c4 ≤ 9223372036854775807) := by
    obtain ⟨i2, gw2, bx2⟩ := unhide H2
    obtain ⟨gw5, g25, rd5, q4, bw5, k5, ka, kb⟩ := unhide H5
    have g7 : W6.grownBy W7 none := by rw [unhide hw7]; exact World.grownBy_alloc W6 _ none
    have g57 := g6.trans g7
    refine ⟨gw5.trans g57, (i2.keep g25).keep g57, by rw [unhide hw7]; exact heap_alloc_new W6 _, ((g25.trans g57).block _ bx2.lt (by simp)).trans bx2, (g57.block _ bw5.lt (by simp)).trans bw5, rd5.grow g57, q4, k5, ka, kb⟩
  clear H2 H5 g6 hw7 af
  generalize W6.heap.size = Bq at *
  gi_wp2_with fail
  obtain ⟨w9, hw9⟩ : ∃ w9, w9 = (W7.alloc (.cells #[.int .i64 0] 3)).alloc (.cells #[.int .i64 0] 3) := ⟨_, rfl⟩
  rw [← hw9]
  have z9 : w9.heap.size = W7.heap.size + 2 := by rw [hw9]; simp
  have b79 : Below W7.heap.size W7 w9 := by rw [hw9]; exact ((Below.refl _ _).alloc (Nat.le_refl _) _).alloc (by simp) _
  have r0 : RowI W7 b M [] w9 := by
    refine ⟨b79, ?_, ?_⟩
    · rw [hw9]; exact ((World.grownBy_alloc _ _ none).block _ (by simp) (by simp)).trans (heap_alloc_new W7 _)
    · have := heap_alloc_new (W7.alloc (.cells #[.int .i64 0] 3)) (.cells #[.int .i64 0] 3)
      rw [World.size_alloc] at this
      have e0 : M - (restAt b 0).length = 0 := by show M - b.length = 0; rw [(unhide ST).1]; omega
      rw [hw9]
      show Boxed _ _ _ (.int .i64 ((M - (restAt b 0).length : Nat) : Int))
      rw [e0]; exact this
  have SEQ := all_seq Bq M vc va b fs W7 w9 (unhide H7).2.2.1.cell (unhide H7).2.1 (unhide ST).1 (unhide ST).2.1 (unhide HFL).1 (unhide ST).2.2.1 b79
  clear hw9 snil
  refine rangeF 4 W7.heap.size (gf := 30) (lb := #[.pointer (some ⟨Bq, 0, none⟩)]) rfl (enters_of Try.func30 (by kernel_rfl) rfl) SEQ b79.size
    (RowI W7 b M) (fun pre X Y row h g hr => h.own g hr (by omega)) r0 ?assign ?body ?done
  case assign =>
    rintro l m pre x C X K hC hi hgd hK
    have s2 : C.size = 17 := by rw [hC]; rfl
    have iC : (Try.prog.info? 26).map (·.size) = some C.size := by rw [s2]; exact Try.size26
    have a2 : C.all (·.oneCell') = true := by
      rw [hC]
      obtain ⟨a1, c1, e1⟩ := OwnB.shape hgd.1
      rcases hgd.2.2 with ⟨e2, -⟩ | ⟨g', c', cur, e2, -⟩
      · exact one17 _ _ _ (by rw [e1]; rfl) (by rw [e2]; rfl)
      · exact one17 _ _ _ (by rw [e1]; rfl) (by rw [e2]; rfl)
    have gA := World.grownBy_alloc X (.cells C 26) none
    have hA : RowI W7 b M pre (X.alloc (.cells C 26)) := hi.own (B := 0 + W7.heap.size) gA (fun r e => by cases e) (by omega)
    have hK2 := hK _ _ ((KeepsOthers.alloc X (.cells C 26)).from _) ((Below.refl _ X).alloc hi.bel.size _) hA ⟨X.heap.size, C, hC, heap_alloc_new X _, ⟨hgd.1.keepN gA, hgd.2.keepN gA⟩, rfl⟩
    have HK2 := hide hK2
    clear hK hK2 hi hA hgd hC SEQ r0 b79
    simp only [List.setIfInBounds_toArray, List.set_cons_zero, List.set_cons_succ]
    gi_wp2_with (refine inStore_new X Z17 C X.heap.size rfl _ _ rfl rfl rfl rfl iC (by rw [s2]; rfl) a2 ?_)
    have hK3 := unhide HK2
    simp only [putF, List.setIfInBounds_toArray, List.set_cons_zero, List.set_cons_succ] at hK3
    exact hK3
  case body =>
    rintro l m pre ⟨q, V⟩ C Bx X hC hi hbx hgd hsp
    obtain ⟨hf, hq⟩ := sp_at hsp
    simp only at hC hq hf
    obtain ⟨e0, e1, e2⟩ := (unhide ST).2.2.2.1.step _ _ hf
    obtain ⟨f1, f2, f3, f4, f5⟩ := (unhide ST).2.2.2.2.1 V.f (List.mem_of_getElem? hf)
    obtain ⟨gw7, i7, bq7, bx7, bw7, rd7, q7, k7, ka7, kb7⟩ := unhide H7
    have hpl : pre.length < Kf := by rw [k7]; exact (List.getElem?_eq_some_iff.1 hf).1
    have hpB : pre.length ≤ 800000000000 := by have := (unhide HFL).2; omega
    have bn := hi.n
    have bt := hi.goal
    rw [← hq] at bt
    have g7X := bel_gr hi.bel
    have bwX : Boxed X Bw 41 (.slice a4 Kf c4) := (g7X.block _ bw7.lt (by simp)).trans bw7
    have rdX := rd7.grow g7X
    have L4l : L4.length = Kf := by rw [k7, ← q7, List.length_map]
    obtain ⟨bw, ow, rfl, hcs⟩ := rdX.cells (fun e => by rw [e] at L4l; simp at L4l; omega)
    obtain ⟨U, hU⟩ : ∃ U, U = L4.getD pre.length fv0 := ⟨_, rfl⟩
    have hUm : U ∈ L4 := by rw [hU]; simp [List.getD, L4l, hpl]
    have hUf : U.f = V.f := by
      have h1 : (L4.map FV.f)[pre.length]? = some V.f := by rw [q7]; exact hf
      rw [hU]
      simp only [List.getD]
      rw [List.getElem?_map, List.getElem?_eq_getElem (by omega)] at h1
      rw [List.getElem?_eq_getElem (by omega)]
      simpa using h1
    obtain ⟨C', hC'⟩ : ∃ C', C' = U.C := ⟨_, rfl⟩
    have s2 : C.size = 17 := by rw [hC]; rfl
    have s2' : C'.size = 17 := by rw [hC']; rfl
    have iC : (Try.prog.info? 26).map (·.size) = some C.size := by rw [s2]; exact Try.size26
    have cl : ∀ W, X.grownBy W none → ∀ j v, C[j]? = some v → W.cell? ⟨Bx, 0 + j, none⟩ = some v := fun W g j v hv => by
      have hb : W.heap[Bx]? = some (.cells C 26 (0, 0)) := (g.block _ (Array.getElem?_eq_some_iff.1 hbx).1 (by simp)).trans hbx
      rw [Nat.zero_add, cell_of_row _ _ j C 26 (0, 0) hb]; exact hv
    have cl' : ∀ W, X.grownBy W none → ∀ j v, C'[j]? = some v → W.cell? ⟨bw, ow + pre.length * 17 + j, none⟩ = some v := fun W g j v hv => cell_grown (hcs pre.length (by omega) j v (by rw [← hU, ← hC']; exact hv)) g
    have c9 : ∀ W, X.grownBy W none → W.cell? ⟨Bw, 0, none⟩ = some (.slice (some ⟨bw, ow, none⟩) Kf c4) := fun W g => cell_grown bwX.cell g
    have cn : ∀ W, X.grownBy W none → W.cell? ⟨W7.heap.size, 0, none⟩ = some (.int .i64 (pre.length : Int)) := fun W g => cell_grown bn.cell g
    have fV := fun W (g : X.grownBy W none) => own_in (hgd.1.keepN g) (hgd.2.keepN g) f1 f2
    have frV : FrR X V.f V.d V.r := FrR.own hgd.1 hgd.2 f1
    have frU := rdX.each U hUm
    rw [hUf] at frU
    have sm : Hid (∀ W, X.grownBy W none → Calls Try.prog 13 #[.agg C, .agg C'] W fun e w' => e = .returned (.bool true) ∧ W.grownBy w' none) := fun W g => by
      have hh := same_fr V.f V.d V.r U.d U.r W (frV.keep g) (frU.keep g)
      have e3 : U.C = V.f.cs U.d U.r := by show U.f.cs U.d U.r = _; rw [hUf]
      rw [hC, hC', e3]
      exact hh
    have sz : Hid (∀ W, X.grownBy W none → Calls Try.prog 10 #[.agg C] W fun e w' => e = .returned (.tuple #[.int .i64 ((encF V.f).1.length : Int), .int .i64 0]) ∧ W.grownBy w' none) := fun W g => by
      have hh := sizeFr_any V.f V.d V.r W (fV W g).1 (fV W g).2 f3 f4 f5
      rw [e0] at hh
      rw [hC]
      exact hh
    have eT : M - (restAt b (pre ++ [(q, V)]).length).length = q + (encF V.f).1.length := by
      rw [List.length_append, hq]; simp only [List.length_cons, List.length_nil, Nat.zero_add]; have := (unhide ST).1; omega
    have eP : ((pre ++ [((q, V) : FX)]).length : Int) = (pre.length : Int) + 1 := by simp
    have qI : q + (encF V.f).1.length ≤ 4000000000000 := by rw [hq]; have := (unhide ST).1; have := (unhide HFL).1; omega
    have HE := hide (And.intro eT eP)
    have HI := hide (And.intro hi (And.intro bn bt))
    have ct := bt.cell
    have cnX := bn.cell
    have cwX := bwX.cell
    have HBX := hide (And.intro hbx (And.intro bn.lt (And.intro bt.lt bn.frozen)))
    generalize (encF V.f).1.length = E at *
    generalize hpp : pre.length = pn at *
    have HPP := hide hpp
    clear hi hC hf hq hsp e0 e1 e2 f1 f2 f3 f4 f5 gw7 i7 bq7 bx7 bw7 rd7 q7 k7 ka7 kb7 bwX rdX L4l hcs hU hUm hUf hC' fV frV frU eT eP hgd hbx bn bt g7X hpp SEQ r0
    have nI : (pn : Int) < (Kf : Int) := by omega
    have nI2 : ¬ (Kf : Int) ≤ (pn : Int) := by omega
    simp only [putF, List.setIfInBounds_toArray, List.set_cons_zero, List.set_cons_succ]
    gi_upto_region 24 with fail
    refine region_held_round (S := fun W => X.grownBy W none) (by kernel_rfl) (by kernel_rfl) (drew_gr X) (fun hHeld => ?_)
    refine wpAnyH_take (i := 0) (v := .agg C) rfl (by as_aux_lemma => kernel_rfl) (by as_aux_lemma => kernel_rfl) (by as_aux_lemma => kernel_rfl) (fun _ _ _ h => by cases h.1) (Or.inl ⟨by rfl, ?_⟩) (by assumption) ?_
    · intro wH hSw
      exact exec_load_at (x := .tmp 15) rfl rfl s2 (cl wH hSw)
    try simp only [Act.put, List.setIfInBounds_toArray, List.set_cons_zero, List.set_cons_succ]
    refine wpAnyH_take (i := 1) (v := ?_) rfl (by as_aux_lemma => kernel_rfl) (by as_aux_lemma => kernel_rfl) (by as_aux_lemma => kernel_rfl) (fun _ _ _ h => by cases h.1) (Or.inl ⟨by rfl, ?_⟩) (by assumption) ?_
    rotate_left
    · intro wH hSw
      try dsimp only at hSw
      have c9H := c9 wH hSw
      go_simp
      try with_reducible rfl
    try simp only [Act.put, List.setIfInBounds_toArray, List.set_cons_zero, List.set_cons_succ]
    refine wpAnyH_take (i := 2) (v := ?_) rfl (by as_aux_lemma => kernel_rfl) (by as_aux_lemma => kernel_rfl) (by as_aux_lemma => kernel_rfl) (fun _ _ _ h => by cases h.1) (Or.inl ⟨by rfl, ?_⟩) (by assumption) ?_
    rotate_left
    · intro wH hSw
      try dsimp only at hSw
      have cnH := cn wH hSw
      go_simp
      try with_reducible rfl
    try simp only [Act.put, List.setIfInBounds_toArray, List.set_cons_zero, List.set_cons_succ]
    refine wpAnyH_take (i := 3) (v := ?_) rfl (by as_aux_lemma => kernel_rfl) (by as_aux_lemma => kernel_rfl) (by as_aux_lemma => kernel_rfl) (fun _ _ _ h => by cases h.1) (Or.inl ⟨by rfl, ?_⟩) (by assumption) ?_
    rotate_left
    · intro wH hSw
      try dsimp only at hSw
      skip
      go_simp
      try with_reducible rfl
    try simp only [Act.put, List.setIfInBounds_toArray, List.set_cons_zero, List.set_cons_succ]
    refine wpAnyH_take (i := 4) (v := .agg C') rfl (by as_aux_lemma => kernel_rfl) (by as_aux_lemma => kernel_rfl) (by as_aux_lemma => kernel_rfl) (fun _ _ _ h => by cases h.1) (Or.inl ⟨by rfl, ?_⟩) (by assumption) ?_
    · intro wH hSw
      exact exec_load_at (x := .tmp 98) rfl rfl s2' (cl' wH hSw)
    try simp only [Act.put, List.setIfInBounds_toArray, List.set_cons_zero, List.set_cons_succ]
    refine wpAnyH_ready (rs := [5]) (by as_aux_lemma => kernel_rfl) (by simp) ?_
    refine AllReadyH.cons rfl (fun KH hKH => ?_) AllReadyH.nil
    go_simp
    refine (unhide sm _ (drew_gr X)).mono ?_
    rintro e X9 ⟨rfl, g9⟩
    refine hKH.out _ _ ((drew_gr X).trans g9) (fun hHeld2 => ?_)
    clear hKH KH
    try simp only [Act.put, List.setIfInBounds_toArray, List.set_cons_zero, List.set_cons_succ]
    refine wpAnyH_ready (rs := [6]) (by as_aux_lemma => kernel_rfl) (by simp) ?_
    refine AllReadyH.cons rfl (fun KH hKH => ?_) AllReadyH.nil
    go_simp
    refine hKH.out _ _ ((drew_gr X).trans g9) (fun hHeld3 => ?_)
    clear hKH KH
    try simp only [Act.put, List.setIfInBounds_toArray, List.set_cons_zero, List.set_cons_succ]
    refine wpAnyH_done (by as_aux_lemma => kernel_rfl) ⟨rfl, ?_⟩ _
    have gX9 : X.grownBy X9 none := (drew_gr X).trans g9
    have sz9 := unhide sz X9 gX9
    have b9 : X9.heap[Bx]? = some (.cells C 26 (0, 0)) := (gX9.block _ (Array.getElem?_eq_some_iff.1 (unhide HBX).1).1 (by simp)).trans (unhide HBX).1
    clear hHeld hHeld2 hHeld3 cl cl' sm g9 sz c9 cn ct cnX cwX
    gi_upto_region 26 with (first | (refine inLoad_row (by rfl) _ rfl Bx C rfl b9 iC ?_) | (refine ⟨fun hd => absurd hd (by simp [Fence.wide]), ?_⟩; refine (CallsIn.inRound l (callsIn_wide.2 sz9)).mono ?_; rintro e X10 ⟨rfl, g10⟩))
    have gT : X.grownBy X10 none := gX9.trans g10
    obtain ⟨hi, bn, bt⟩ := unhide HI
    have bn10 : Boxed X10 W7.heap.size 3 (.int .i64 (pn : Int)) := (gT.block _ bn.lt (by simp)).trans bn
    have bt10 : Boxed X10 (W7.heap.size + 1) 3 (.int .i64 (q : Int)) := (gT.block _ bt.lt (by simp)).trans bt
    have ct := bt10.cell
    have cf := bt10.frozen
    have HT := hide (And.intro gT (And.intro bn10 bt10))
    have hi0 := hi
    clear hi bn bt gT gX9 g10 bn10 bt10 b9 sz9 HI HBX iC s2 s2'
    have HI2 := hide (And.intro hi0.bel hi0.bel.size)
    clear hi0
    gi_upto_region 29 with fail
    obtain ⟨gT, bn10, bt10⟩ := unhide HT
    have kT : Kp (fun g => g = W7.heap.size + 1) X10 (X10.setCell ⟨W7.heap.size + 1, 0, none⟩ (.int .i64 ((q : Int) + (E : Int)))) := (Kp.refl _ X10).set _ _ _ (fun _ => rfl)
    have bt11 := Boxed.set (.int .i64 ((q : Int) + (E : Int))) bt10
    have bn11 := bxKp bn10 kT (by omega)
    have kX : Kp (fun g => g = W7.heap.size ∨ g = W7.heap.size + 1) X (X10.setCell ⟨W7.heap.size + 1, 0, none⟩ (.int .i64 ((q : Int) + (E : Int)))) := (Kp.grown gT _).then kT (fun g _ h => .inr h)
    generalize X10.setCell ⟨W7.heap.size + 1, 0, none⟩ (.int .i64 ((q : Int) + (E : Int))) = X11 at *
    have cn11 := bn11.cell
    have cf11 := bn11.frozen
    have HQ := hide (And.intro bn11 (And.intro bt11 kX))
    clear HT gT bn10 bt10 kT bt11 bn11 kX ct cf
    gi_wp2_with fail
    obtain ⟨bn11, bt11, kX⟩ := unhide HQ
    have kN : Kp (fun g => g = W7.heap.size) X11 (X11.setCell ⟨W7.heap.size, 0, none⟩ (.int .i64 ((pn : Int) + 1))) := (Kp.refl _ X11).set _ _ _ (fun _ => rfl)
    have bn12 := Boxed.set (.int .i64 ((pn : Int) + 1)) bn11
    have bt12 := bxKp bt11 kN (by omega)
    have kF := kX.then kN (fun g _ h => .inl h)
    obtain ⟨bel0, sz0⟩ := unhide HI2
    have belF : Below W7.heap.size X (X11.setCell ⟨W7.heap.size, 0, none⟩ (.int .i64 ((pn : Int) + 1))) := ⟨kF.os, kF.tape, kF.output, kF.size, fun k hk => kF.block k (by omega) (by omega)⟩
    refine ⟨kF.kf (n := w9.heap.size) (fun g h => by omega), belF, bel0.trans belF, ?_, ?_⟩
    · rw [(unhide HE).2]; exact bn12
    · rw [(unhide HE).1]
      have e9 : ((q + E : Nat) : Int) = (q : Int) + (E : Int) := by omega
      rw [e9]; exact bt12
  case done =>
    rintro D xs W hD hS hi hK
    obtain ⟨gw7, i7, bq7, bx7, bw7, rd7, q7, k7, ka7, kb7⟩ := unhide H7
    have xl : xs.length = Kf := by
      have := congrArg List.length hS
      rw [List.length_map, plD_len] at this
      rw [this, k7]
    have bn := hi.n
    have bt := hi.goal
    have eM : M - (restAt b xs.length).length = M := by rw [xl, k7, (unhide ST).2.2.2.1.end]; rfl
    rw [eM] at bt
    rw [xl] at bn
    have cn := bn.cell
    have ct := bt.cell
    have bwW : Boxed W Bw 41 (.slice a4 Kf c4) := (hi.bel.block _ bw7.lt).trans bw7
    have cw := bwW.cell
    have bxW : Boxed W w.heap.size 4 (.bool false) := (hi.bel.block _ bx7.lt).trans bx7
    have cz := bxW.cell
    have cf := bxW.frozen
    have belW : Below w.heap.size w W := (grown_bel gw7).trans (hi.bel.mono gw7.size)
    have HX := hide (And.intro bxW (And.intro belW (And.intro hK (And.intro hD bx7.lt))))
    clear gw7 i7 bq7 bx7 bw7 rd7 q7 k7 ka7 kb7 xl bn bt eM bwW bxW belW hK hD hi hS SEQ r0
    gi_wp2_with fail
    obtain ⟨bxW, belW, hK, hD, hlt⟩ := unhide HX
    have hne : D ≠ w.heap.size := by
      intro e
      rw [e] at hK
      have h2 : W.heap[w.heap.size]? = some (.cells #[.bool false] 4 (0, 0)) := bxW
      rw [h2] at hK
      simp at hK
    have hKf : (W.setCell ⟨w.heap.size, 0, none⟩ (.bool true)).heap[D]? = some (.deferred (some [])) := by
      rw [heap_setCell_other _ _ _ _ (by show D ≠ w.heap.size; exact hne)]; exact hK
    have bxf := Boxed.set (.bool true) bxW
    have belf : Below w.heap.size w (W.setCell ⟨w.heap.size, 0, none⟩ (.bool true)) := belW.setCell (p := ⟨w.heap.size, 0, none⟩) (Nat.le_refl _) _
    refine ⟨by simp, .inl ⟨_, _, rfl, run_takeDeferred hKf, ?_⟩⟩
    have hcf : ((W.setCell ⟨w.heap.size, 0, none⟩ (.bool true)).putObj D (.deferred none)).cell? ⟨w.heap.size, 0, none⟩ = some (.bool true) := cell_kept bxf.cell (grownBy_putObj' _ D (.deferred none)) (fun r e => by cases e; exact ⟨_, hKf, rfl⟩)
    have belz : Below w.heap.size w ((W.setCell ⟨w.heap.size, 0, none⟩ (.bool true)).putObj D (.deferred none)) := belf.grown (grownBy_putObj' _ D (.deferred none)) belf.size (fun k e => by cases e; omega)
    refine ⟨.bool true, ?_, rfl, belz⟩
    simp [results, Try.results6, go_sem, hcf]
end Go.Proofs.Ytggjeamondampab

namespace Go.Proofs.Ytggjeamondampab
open Go.ChangeShapes Go.WideShapes Go.ChangeAt Go.RowKit
set_option linter.unusedVariables false
set_option maxRecDepth 100000
set_option maxHeartbeats 1000000

theorem row_walk (a : Option Addr) (c N : Nat) (L : List FV) (w : World) (hN : L.length = N) (h : InF w a L) (hc : N ≤ c ∧ c ≤ 9223372036854775807) (hB : ∀ x ∈ L, Bs x.f.data) :
    Calls Try.prog 6 #[.slice a N c] w fun e w' => e = .returned (.bool true) ∧ Below w.heap.size w w' := by
  refine (callsIn_wide (n := 4)).1 ?_
  by_cases he : (joinG [] (L.map FV.f)).2 = 0
  · obtain ⟨b, hb⟩ : ∃ b, joinG [] (L.map FV.f) = (b, 0) := ⟨_, Prod.ext rfl he⟩
    by_cases hne : b = []
    · obtain ⟨r, e1, jo⟩ := joinG_ok (L.map FV.f) [] b hb
      rw [List.nil_append] at e1
      subst e1
      subst hne
      have hL : L = [] := List.map_eq_nil_iff.1 (join_nil jo)
      subst hL
      simp only [List.length_nil] at hN
      subst hN
      exact row_none a c w h hc.2
    · exact row_ok a c N L b w hN h hc hB hb hne
  · exact row_err a c N L w hN h hc he

theorem bulk_count16 {H : Type} : ∀ l : List (DataW H), (∀ d ∈ l, 16 ≤ Rows.uptoBulk d) → l.length * 16 ≤ Rows.uptoBulkAll l
  | [], _ => by simp
  | d :: r, h => by
    have h1 := h d (by simp)
    have h2 := bulk_count16 r (fun x hx => h x (List.mem_cons_of_mem _ hx))
    simp only [Rows.uptoBulkAll, List.length_cons]
    omega

section
variable {H : Type} {enc : TypeId × Value → H} {w : World} {base : Nat} {held : Bool}

theorem fr_cells {n : Nat} {cs : List Value} {y : DataW H × List MemPlace} (h2 : DataW.trod enc Try.prog w base (fun _ => true) held n 26 cs = some y) (hl : cs.length = 17) :
    ∃ x : FV, cs = x.C.toList ∧ FrIn w x.f x.d x.r ∧ TS w x.d x.f.data ∧ (-9223372036854775808 ≤ x.f.kind ∧ x.f.kind ≤ 9223372036854775807) ∧ x.f.data.length ≤ Rows.uptoBulk y.1 ∧ x.f.runs.length ≤ Rows.uptoBulk y.1 ∧ 16 ≤ Rows.uptoBulk y.1 := by
  have c3 : Try.prog.cellsOf 3 = 1 := by kernel_rfl
  have c2 : Try.prog.cellsOf 2 = 1 := by kernel_rfl
  have c4 : Try.prog.cellsOf 4 = 1 := by kernel_rfl
  have cB : Try.prog.cellsOf 22 = 1 := by kernel_rfl
  have cS : Try.prog.cellsOf 23 = 1 := by kernel_rfl
  have cA : Try.prog.cellsOf 24 = 3 := by kernel_rfl
  obtain ⟨xs, m, -, hx, -, hxl, hff⟩ := DataW.trod_struct Try.underlying26 h2
  match cs, hl, xs, hxl with
  | [v0, v1, v2, v3, v4, v5, v6, v7, v8, v9, v10, v11, v12, v13, v14, v15, v16], _, [y0, y1, y2, y3, y4, y5, y6, y7, y8, y9, y10, y11, y12, y13, y14], _ =>
    have f0 := hff 0 _ rfl
    have f1 := hff 1 _ rfl
    have f2 := hff 2 _ rfl
    have f3 := hff 3 _ rfl
    have f4 := hff 4 _ rfl
    have f5 := hff 5 _ rfl
    have f6 := hff 6 _ rfl
    have f7 := hff 7 _ rfl
    have f8 := hff 8 _ rfl
    have f9 := hff 9 _ rfl
    have f10 := hff 10 _ rfl
    have f11 := hff 11 _ rfl
    have f12 := hff 12 _ rfl
    have f13 := hff 13 _ rfl
    have f14 := hff 14 _ rfl
    simp [c2, c3, c4, cB, cS, cA] at f0 f1 f2 f3 f4 f5 f6 f7 f8 f9 f10 f11 f12 f13 f14
    obtain ⟨a0, e0, -, w0⟩ := DataW.trod_int Try.underlying3 f0
    obtain ⟨a1, e1, -⟩ := DataW.trod_int Try.underlying2 f1
    obtain ⟨a2, e2, -⟩ := DataW.trod_int Try.underlying2 f2
    obtain ⟨a4, e4, -⟩ := DataW.trod_int Try.underlying2 f4
    obtain ⟨a5, e5, -⟩ := DataW.trod_bool Try.underlying4 f5
    obtain ⟨a6, e6, -⟩ := DataW.trod_bool Try.underlying4 f6
    obtain ⟨a7, e7, -⟩ := DataW.trod_int Try.underlying2 f7
    obtain ⟨a8, e8, -⟩ := DataW.trod_bool Try.underlying4 f8
    obtain ⟨a9, e9, -⟩ := DataW.trod_int Try.underlying2 f9
    obtain ⟨a10, e10, -⟩ := DataW.trod_bool Try.underlying4 f10
    obtain ⟨a11, e11, -⟩ := DataW.trod_int Try.underlying2 f11
    obtain ⟨a13, e13, -⟩ := DataW.trod_bool Try.underlying4 f13
    obtain ⟨p3, l3, k3, z3, e3, r3, q3⟩ := row_cells f3
    obtain ⟨p12, l12, k12, L, e12, hL, rL, lc, lm, l64, lb, lw⟩ := span_row f12
    obtain ⟨u0, u1, u2, n, -, g0, g1, g2⟩ := trod_array3 Try.underlying24 c2 f14
    obtain ⟨b0, e14, -⟩ := DataW.trod_int Try.underlying2 g0
    obtain ⟨b1', e15, -⟩ := DataW.trod_int Try.underlying2 g1
    obtain ⟨b2', e16, -⟩ := DataW.trod_int Try.underlying2 g2
    simp only [List.cons.injEq, and_true] at e0 e1 e2 e3 e4 e5 e6 e7 e8 e9 e10 e11 e12 e13 e14 e15 e16
    subst e0 e1 e2 e3 e4 e5 e6 e7 e8 e9 e10 e11 e12 e13 e14 e15 e16
    have hy : y.1 = .agg [y0.1, y1.1, y2.1, y3.1, y4.1, y5.1, y6.1, y7.1, y8.1, y9.1, y10.1, y11.1, y12.1, y13.1, y14.1] := by rw [hx]; rfl
    have h3 : Rows.uptoBulk y.1 = Rows.uptoBulkAll [y0.1, y1.1, y2.1, y3.1, y4.1, y5.1, y6.1, y7.1, y8.1, y9.1, y10.1, y11.1, y12.1, y13.1, y14.1] + 1 := by rw [hy, Rows.uptoBulk]
    have hcnt := bulk_count [y0.1, y1.1, y2.1, y3.1, y4.1, y5.1, y6.1, y7.1, y8.1, y9.1, y10.1, y11.1, y12.1, y13.1, y14.1]
    have b1 := Nat.le_trans (row_bulk q3) (bulk_among (d := y3.1) (l := [y0.1, y1.1, y2.1, y3.1, y4.1, y5.1, y6.1, y7.1, y8.1, y9.1, y10.1, y11.1, y12.1, y13.1, y14.1]) (by simp))
    have b2 := bulk_among (d := y12.1) (l := [y0.1, y1.1, y2.1, y3.1, y4.1, y5.1, y6.1, y7.1, y8.1, y9.1, y10.1, y11.1, y12.1, y13.1, y14.1]) (by simp)
    simp only [List.length_cons, List.length_nil] at hcnt
    obtain ⟨i1, i2, i3, i4, i5⟩ := isRow_rd r3
    have i4' : k3 ≤ 9223372036854775807 := by unfold maxLen at i4; omega
    subst hL
    refine ⟨⟨⟨a0, a1, a2, z3.take l3, a4, a5, a6, a7, a8, a9, a10, a11, L, a13, b0, b1', b2'⟩, .slice p3 l3 k3, .slice p12 L.length k12⟩, rfl, ⟨⟨p3, k3, by rw [i1], by rw [i1]; exact i3, i4'⟩, ⟨p12, k12, rfl, rL, lc, lm⟩, l64⟩, ⟨p3, k3, by rw [i1], i2, by rw [i1]; exact i3, i4'⟩, wf_i64 w0, by rw [h3]; show (z3.take l3).length ≤ _; omega, by rw [h3]; show L.length ≤ _; omega, by omega⟩

theorem open_frames {a : Option Addr} {len cap fuel : Nat} {x : DataW H × List MemPlace} (hf : DataW.trod enc Try.prog w base (fun _ => true) held fuel 41 [.slice a len cap] = some x) (hb : Rows.uptoBulk x.1 ≤ 1048576) :
    ∃ L : List FV, L.length = len ∧ InF w a L ∧ (len ≤ cap ∧ cap ≤ 9223372036854775807) ∧ ∀ x ∈ L, Bs x.f.data := by
  have c17 : Try.prog.cellsOf 26 = 17 := by kernel_rfl
  rcases Go.Deep.open_slice Try.underlying41 hf with ⟨hcs, _⟩ | ⟨ad, l, c, m, n, D, Pl, hcs, _, hl, hm, hmm, hxe, hx⟩
  · simp at hcs
    obtain ⟨rfl, rfl, rfl⟩ := hcs
    exact ⟨[], rfl, ⟨⟨(fun x hx => by cases hx), fun h => absurd rfl h⟩, (fun x hx => by cases hx), by simp⟩, ⟨by omega, by omega⟩, (fun x hx => by cases hx)⟩
  · simp at hcs
    obtain ⟨rfl, rfl, rfl⟩ := hcs
    have hlm : len ≤ m := by rw [hmm]; split <;> omega
    have bk : Rows.uptoBulkAll ((List.range len).map D) ≤ 1048575 := by
      have : x.1 = .slice ((List.range len).map D) ((List.range (m - len)).map fun j => D (len + j)) := by rw [hxe]
      rw [this] at hb
      simp only [Rows.uptoBulk] at hb
      omega
    have each : ∀ i, i < len → ∃ x : FV, (FrIn w x.f x.d x.r ∧ TS w x.d x.f.data ∧ (-9223372036854775808 ≤ x.f.kind ∧ x.f.kind ≤ 9223372036854775807) ∧ x.f.data.length ≤ Rows.uptoBulk (D i) ∧ x.f.runs.length ≤ Rows.uptoBulk (D i) ∧ 16 ≤ Rows.uptoBulk (D i)) ∧ ∀ j v, x.C.toList[j]? = some v → w.cell? (ad.add (i * 17) |>.add j) = some v := fun i hi => by
      obtain ⟨cs', h1, h2⟩ := hx i (by omega)
      rw [c17] at h1
      obtain ⟨_, hlen, hcell⟩ := World.cells?_some h1
      obtain ⟨x, rfl, ok⟩ := fr_cells h2 hlen
      exact ⟨x, ok, fun j v hj => by rw [hcell j (by have := (List.getElem?_eq_some_iff.1 hj).1; rw [hlen] at this; exact this)]; exact hj⟩
    obtain ⟨xs, hxs, hP⟩ := list_of fv0 len _ each
    have small : ∀ i, i < len → Rows.uptoBulk (D i) ≤ 1048575 := fun i hi => Nat.le_trans (bulk_among (List.mem_map.2 ⟨i, by simpa using hi, rfl⟩)) bk
    have tl : len ≤ 65536 := by
      have := bulk_count16 ((List.range len).map D) (fun d hd => by
        obtain ⟨i, hi, rfl⟩ := List.mem_map.1 hd
        exact (hP i (by simpa using hi)).1.2.2.2.2.2)
      simp only [List.length_map, List.length_range] at this
      omega
    have getx : ∀ x ∈ xs, ∃ i, i < len ∧ xs.getD i fv0 = x := fun x hx => by
      obtain ⟨i, hi, rfl⟩ := List.mem_iff_getElem.1 hx
      exact ⟨i, by omega, by simp [List.getD, hi]⟩
    refine ⟨xs, hxs, ⟨⟨fun x hx => ?_, fun hne => ?_⟩, fun x hx => ?_, by omega⟩, ⟨hl, by unfold maxLen at hm; omega⟩, fun x hx => ?_⟩
    · obtain ⟨i, hi, rfl⟩ := getx x hx
      obtain ⟨⟨q1, q2, -⟩, -⟩ := hP i hi
      exact ⟨q2.ex, q1.runs⟩
    · have h0 : 0 < len := by rw [← hxs]; exact List.length_pos_iff.2 hne
      have hs : ad.spot = none := by
        have := (hP 0 h0).2 0 _ rfl
        unfold World.cell? at this
        split at this
        · split at this
          · cases this
          · rename_i hsp
            cases hsq : ad.spot with
            | none => rfl
            | some q => simp [Addr.add, hsq] at hsp
        · cases this
      obtain ⟨bb, off, sp⟩ := ad
      simp only at hs
      subst hs
      refine ⟨bb, off, rfl, fun i hi j v hv => ?_⟩
      have := (hP i (by omega)).2 j v (by simpa using hv)
      simp only [Addr.add_lit] at this
      exact this
    · obtain ⟨i, hi, rfl⟩ := getx x hx
      obtain ⟨⟨q1, q2, q3, q4, q5, q6⟩, -⟩ := hP i hi
      have := small i hi
      exact ⟨q1, q2, q3, by omega, by omega⟩
    · obtain ⟨i, hi, rfl⟩ := getx x hx
      obtain ⟨⟨q1, q2, -⟩, -⟩ := hP i hi
      obtain ⟨a', c', -, r', -⟩ := q2.ex
      exact r'.1
end
end Go.Proofs.Ytggjeamondampab

namespace Go.Proofs.Ytggjeamondampab
open Go.ChangeShapes Go.WideShapes Go.ChangeAt Go.RowKit
set_option linter.unusedVariables false
set_option maxRecDepth 100000
namespace frameRowFrame

theorem own : ownKnob Try.prog.godebug = none := by kernel_rfl
theorem laidOut : laidOutB Try.prog = true := by kernel_rfl

set_option maxRecDepth 100000 in
theorem lifted (os : Os) (started : os.Started) (H : Type) (enc : TypeId × Value → H) (F : Stop.Interp) :
    ReturnsInHanded {} Try.checked os 6 .any ((Rows.OpenSpec.upto Rows.frameRowSpec).pre6 enc Try.prog Try.f6 Rows.frameRowUptoRow.domain false) (((Rows.OpenSpec.upto Rows.frameRowSpec).at F).post enc Try.prog Try.f6 false true false false) := by
  refine returnsInHanded_of_cond_sized (C := Try.checked) (s := Rows.OpenSpec.upto Rows.frameRowSpec) (k := Rows.uptoSmall) rfl own started (by kernel_rfl) Try.func6
    (OpenSpec.witness (enc := enc) (C := Try.checked) (s := Rows.OpenSpec.upto Rows.frameRowSpec) (k := Rows.uptoSmall) rfl false ⟨#[], #[.slice none 0 0], []⟩ 8 (by kernel_rfl) (by kernel_rfl) (by kernel_rfl)
      (x := ([.nil], [], [])) (by kernel_rfl) rfl (by kernel_rfl)) ?_
  intro W base args ds gs before hval0 hW hcnd hk hsz0 _
  have hsz : (DataW.weightsEach Try.prog (Try.f6.params.toList ++ (Rows.OpenSpec.upto Rows.frameRowSpec).bare.plain.varTypes Try.prog) (ds ++ gs)).all (· ≤ reachBytes) = true := hsz0
  have hval : ∀ (j : Nat) t v, Try.f6.params[j]? = some t → args[j]? = some v → Value.okWide Try.prog W .any base t v := hval0
  have hW' := hW
  obtain ⟨p, q, hA0, hV, rfl, hfz, hnd⟩ := hW
  have hA : DataW.TrodAll enc Try.prog W 0 (fun _ => true) true Try.f6.params.toList args.toList ds p := hA0
  rw [Try.params6] at hA hval hsz
  obtain ⟨v0, vs0, d0, ds0, p0, q0, hargs, rfl, rfl, h0, r0⟩ := trodAll_cons hA
  obtain ⟨rfl, rfl, rfl⟩ := trodAll_nil r0
  obtain rfl : args = #[v0] := by cases args; simp_all
  obtain ⟨rfl, rfl⟩ := trodVars_none hV
  have k0 := h0
  have lt0 : ∀ x ∈ p0, x.block < W.heap.size := by obtain ⟨m, hm⟩ := k0; exact DataW.trod_lt m _ _ _ hm
  obtain ⟨a0, len0, cap0, rfl⟩ := okWide_slice Try.underlying41 (hval 0 41 v0 rfl rfl)
  obtain ⟨L0, l0, i0, c0, b0⟩ : ∃ L : List FV, L.length = len0 ∧ InF W a0 L ∧ (len0 ≤ cap0 ∧ cap0 ≤ 9223372036854775807) ∧ ∀ x ∈ L, Bs x.f.data := by
    obtain ⟨fuel, hf⟩ := h0
    exact open_frames (x := (d0, p0)) (by simpa [Value.cells] using hf) (bulk_mem hk (d := d0) (by simp))
  clear hA0 hval0
  refine (row_walk a0 cap0 len0 L0 W l0 i0 c0 b0).mono fun e W' ⟨he, gr⟩ => ?_
  have bel := gr
  subst he
  exact ⟨_, rfl, _, _, _, [], _, [], hW', trodAll_mk1 (shut_bool Try.underlying4 _), (trodAll_cons_mk (Below.trod laidOut (by kernel_rfl) (of_decide_eq_true (by kernel_rfl)) k0 bel lt0) trodAll_mk0), rfl, bel.frame _, fun h => by cases h⟩

theorem over : Rows.frameRowUptoRow.holds Try.pinned (Rows.OpenSpec.upto Rows.frameRowSpec) :=
  OpenClaim.holds_of_cond 6 Try.f6 rfl rfl rfl rfl rfl rfl rfl ⟨rfl, rfl, rfl, rfl, rfl⟩ rfl rfl rfl rfl rfl (by kernel_rfl) Try.func6 (by kernel_rfl)
    (of_decide_eq_true (by kernel_rfl)) (by unfold Func.isWrapper; first | (rw [if_pos (by decide +kernel)]; kernel_rfl) | (rw [if_neg (by decide +kernel)]; exact ⟨rfl, rfl⟩))
    (fun os started H enc _ F => lifted os started H enc F)
end frameRowFrame

/-- THE STATEMENT -/
theorem frameRow_holds : Rows.FrameRowUptoSaid := frameRowFrame.over
end Go.Proofs.Ytggjeamondampab
