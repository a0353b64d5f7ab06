/- SPu and SQu, one text. -/
import Derived.Test.YtcojhjnledeciaaSOu
import Derived.Shelf.Abstract
import Derived.BigRegion
namespace Go.Proofs.Ytcojhjnledeciaa.Ku
open Go.RowKit
set_option linter.unusedVariables false
set_option maxRecDepth 100000
set_option maxHeartbeats 400000

theorem grown_trans {a b c : World} {r : Option Nat} (h : a.grownBy b r) (h2 : b.grownBy c none) : a.grownBy c r :=
  ⟨h2.os.trans h.os, h2.tape.trans h.tape, h2.output.trans h.output, Nat.le_trans h.size h2.size, fun k hk hr => (h2.block k (Nat.lt_of_lt_of_le hk h.size) (by simp)).trans (h.block k hk hr)⟩
theorem grown_alloc (w : World) (o : Obj) : w.grownBy (w.alloc o) none := World.grownBy_alloc w o none
theorem grown_drewN (w : World) (q : Nat) : w.grownBy (w.drewN q) none := ⟨rfl, rfl, rfl, Nat.le_refl _, fun _ _ _ => rfl⟩

theorem cell_grown_none {w w' : World} (h : w.grownBy w' none) {a : Addr} {v : Value} (hc : w.cell? a = some v) : w'.cell? a = some v := by
  rw [World.cell?_of_block (w := w) (w' := w') (h.block _ (World.block_lt_of_cell? _ _ hc) (by simp))]; exact hc

theorem heap_some_lt {w : World} {k : Nat} {o : Obj} (h : w.heap[k]? = some o) : k < w.heap.size := by
  rcases Nat.lt_or_ge k w.heap.size with h1 | h1
  · exact h1
  · rw [Array.getElem?_eq_none h1] at h; cases h

theorem Row.keep {w w' : World} {v : Value} {L : List Sp} (h : Row w v L) (hg : w.grownBy w' none) : Row w' v L := by
  refine ⟨h.1, ?_⟩
  rcases h.2 with h1 | ⟨g, c, cur, h1, h2, h3, h4⟩
  · exact .inl h1
  · exact .inr ⟨g, c, cur, h1, h2, by rw [hg.block g (heap_some_lt h3) (by simp)]; exact h3, h4⟩
theorem Row.keepBut {w w' : World} {v : Value} {L : List Sp} {r : Option Nat} (h : Row w v L) (hg : w.grownBy w' r) (hr : v.ownBlock = none ∨ v.ownBlock ≠ r) : Row w' v L := by
  refine ⟨h.1, ?_⟩
  rcases h.2 with h1 | ⟨g, c, cur, h1, h2, h3, h4⟩
  · exact .inl h1
  · refine .inr ⟨g, c, cur, h1, h2, ?_, h4⟩
    subst h1
    rw [hg.block g (heap_some_lt h3) (fun e => by rcases hr with hr | hr; cases hr; exact hr e)]
    exact h3
theorem SetAt.keep {w w' : World} {b : Nat} {most : Int} {v : Value} {L : List Sp} (h : SetAt w b most v L) (hg : w.grownBy w' none) : SetAt w' b most v L :=
  ⟨by rw [hg.block b (heap_some_lt h.blk) (by simp)]; exact h.blk, h.row.keep hg⟩

theorem Row.shape {w : World} {v : Value} {L : List Sp} (h : Row w v L) : ∃ a c, v = .slice a L.length c ∧ (L = [] ∨ ∃ g, a = some ⟨g, 0, none⟩ ∧ ∀ i, i < L.length → w.cell? ⟨g, i * 2, none⟩ = some (.int .u64 (L.getD i (0, 0)).1) ∧ w.cell? ⟨g, i * 2 + 1, none⟩ = some (.int .u64 (L.getD i (0, 0)).2)) ∧ c ≤ maxLen ∧ L.length ≤ c := by
  rcases Row.at h with ⟨rfl, rfl⟩ | ⟨g, c, sp, rfl, hR⟩
  · exact ⟨none, 0, rfl, .inl rfl, by simp [maxLen], Nat.le_refl _⟩
  · exact ⟨_, c, rfl, .inr ⟨g, rfl, fun i hi => ⟨hR.cell _ _ (cl_lo L i hi), hR.cell _ _ (cl_hi L i hi)⟩⟩, hR.2.2, by have := hR.2.1; omega⟩

theorem eg_reach1 : ∀ args w, (callFunc 79 args).run Try.prog w = .ok (.enter 79 args) w := Go.Proofs.enters_of Try.func79 (by kernel_rfl) rfl
theorem eg_reach2 : ∀ args w, (callFunc 80 args).run Try.prog w = .ok (.enter 80 args) w := Go.Proofs.enters_of Try.func80 (by kernel_rfl) rfl

theorem getD_split (A B : List Sp) (i : Nat) (h : i < A.length) : (A ++ B).getD i (0, 0) ∈ A := by
  rw [List.getD_eq_getElem?_getD, List.getElem?_append_left h, List.getElem?_eq_getElem h]; simp
theorem getD_split2 (A B : List Sp) (i : Nat) (h : A.length ≤ i) (h2 : i < (A ++ B).length) : (A ++ B).getD i (0, 0) ∈ B := by
  rw [List.length_append] at h2
  rw [List.getD_eq_getElem?_getD, List.getElem?_append_right h, List.getElem?_eq_getElem (by omega)]; simp

theorem box_cell (w w' : World) (o : Obj) (c : Array Value) (t : TypeId) (x : Value) (hc : o = .cells c t) (hx : c[0]? = some x) (hg : (w.alloc o).grownBy w' none) : w'.cell? ⟨w.heap.size, 0, none⟩ = some x := by
  refine cell_grown_none hg ?_
  subst hc
  unfold World.cell?
  simp only [heap_alloc_new]
  simpa using hx

theorem reach_walk (b : Nat) (most lo hi : Int) (v : Value) (A M D : List Sp) (w : World) (h0 : SetAt w b most v (A ++ (M ++ D))) (hA : ∀ s ∈ A, s.2 < lo) (hM : ∀ s ∈ M, lo ≤ s.2 ∧ s.1 ≤ hi) (hD : ∀ s ∈ D, hi < s.1 ∧ lo ≤ s.2) (hA1 : ∀ s ∈ A, s.1 ≤ hi) (hsz : (A ++ (M ++ D)).length < 4611686018427387904) :
    Calls Try.prog 50 #[.pointer (some ⟨b, 0, none⟩), .int .u64 lo, .int .u64 hi] w fun e w' => e = .returned (.tuple #[.int .i64 A.length, .int .i64 ((A.length + M.length : Nat) : Int)]) ∧ w.grownBy w' none := by
  obtain ⟨a, c, rfl, hcells, hcm, hnc⟩ := h0.row.shape
  obtain ⟨W1, hW1⟩ : ∃ W1, W1 = (w.alloc (.cells #[.int .u64 lo] 48)).alloc (.cells #[.int .u64 hi] 48) := ⟨_, rfl⟩
  have hg1 : w.grownBy W1 none := by rw [hW1]; exact grown_trans (grown_alloc _ _) (grown_alloc _ _)
  have hl := list_any b most _ _ W1 (h0.keep hg1)
  obtain ⟨W2, hW2⟩ : ∃ W2, W2 = W1.alloc (.cells #[.slice a (A ++ (M ++ D)).length c] 51) := ⟨_, rfl⟩
  have hg2 : w.grownBy W2 none := by rw [hW2]; exact grown_trans hg1 (grown_alloc _ _)
  have hN1 : W1.heap.size = w.heap.size + 2 := by rw [hW1]; simp
  have c0 : W2.cell? ⟨w.heap.size, 0, none⟩ = some (.int .u64 lo) := box_cell w W2 _ #[.int .u64 lo] 48 _ rfl rfl (by rw [hW2, hW1]; exact grown_trans (grown_alloc _ _) (grown_alloc _ _))
  have c1 : W2.cell? ⟨w.heap.size + 1, 0, none⟩ = some (.int .u64 hi) := by
    have := box_cell (w.alloc (.cells #[.int .u64 lo] 48)) W2 _ #[.int .u64 hi] 48 _ rfl rfl (by rw [hW2, hW1]; exact grown_alloc _ _)
    simpa using this
  have c2 : W2.cell? ⟨w.heap.size + 2, 0, none⟩ = some (.slice a (A ++ (M ++ D)).length c) := by
    have := box_cell W1 W2 _ _ _ _ rfl rfl (by rw [hW2]; exact grown_self _ _)
    rwa [hN1] at this
  have hs1 : Calls Try.prog 55 #[.int .i64 (A ++ (M ++ D)).length, .func (.func 79) #[] #[.pointer (some ⟨w.heap.size + 2, 0, none⟩), .pointer (some ⟨w.heap.size, 0, none⟩)]] W2 fun e w' => e = .returned (.int .i64 A.length) ∧ ∃ q, w' = W2.drewN q := by
    refine search_any _ _ _ A.length W2 (by simp) eg_reach1 hsz fun q i hi => ?_
    rcases hcells with h1 | ⟨g, rfl, hcells⟩
    · rw [h1] at hi; simp at hi
    · have := reach1 (w.heap.size + 2) w.heap.size g c _ i lo _ (W2.drewN q) hi c2 c0 (cell_grown_none hg2 (hcells i hi).2)
      have hd : decide (lo ≤ ((A ++ (M ++ D)).getD i (0, 0)).2) = decide (A.length ≤ i) := by
        by_cases h1 : i < A.length
        · rw [decide_eq_false (by have := hA _ (getD_split A (M ++ D) i h1); omega), decide_eq_false (by omega)]
        · have h2 := getD_split2 A (M ++ D) i (by omega) hi
          rw [decide_eq_true, decide_eq_true (by omega)]
          rcases List.mem_append.1 h2 with h3 | h3
          · exact (hM _ h3).1
          · exact (hD _ h3).2
      rw [hd] at this
      exact this
  have hs2 : ∀ q0, Calls Try.prog 55 #[.int .i64 (A ++ (M ++ D)).length, .func (.func 80) #[] #[.pointer (some ⟨w.heap.size + 2, 0, none⟩), .pointer (some ⟨w.heap.size + 1, 0, none⟩)]] (W2.drewN q0) fun e w' => e = .returned (.int .i64 ((A.length + M.length : Nat) : Int)) ∧ ∃ q, w' = (W2.drewN q0).drewN q := fun q0 => by
    refine search_any _ _ _ (A.length + M.length) (W2.drewN q0) (by simp) eg_reach2 hsz fun q i hin => ?_
    rcases hcells with h1 | ⟨g, rfl, hcells⟩
    · rw [h1] at hin; simp at hin
    · have := reach2 (w.heap.size + 2) (w.heap.size + 1) g c _ i hi _ ((W2.drewN q0).drewN q) hin c2 c1 (cell_grown_none hg2 (hcells i hin).1)
      have hd : decide (hi < ((A ++ (M ++ D)).getD i (0, 0)).1) = decide (A.length + M.length ≤ i) := by
        rw [← List.append_assoc] at hin ⊢
        by_cases h1 : i < (A ++ M).length
        · rw [decide_eq_false, decide_eq_false (by rw [List.length_append] at h1; omega)]
          rcases List.mem_append.1 (getD_split (A ++ M) D i h1) with h3 | h3
          · have := hA1 _ h3; omega
          · have := (hM _ h3).2; omega
        · have h2 := getD_split2 (A ++ M) D i (by omega) hin
          rw [decide_eq_true (hD _ h2).1, decide_eq_true (by rw [List.length_append] at h1; omega)]
      rw [hd] at this
      exact this
  have hfin := hide hg2
  clear hA hM hD hA1 hcells h0 hg1 hg2 c0 c1 hcm hnc
  generalize (A ++ (M ++ D)).length = n at *
  subst hW1
  have hW2' : W2.cell? ⟨w.heap.size + 2, 0, none⟩ = some (.slice a n c) := c2
  go_enter Try.func50, Try.ntmps50
  go_wp2_with (refine hl.mono ?_; rintro e w' ⟨rfl, hw'⟩; subst w')
  rw [← hW2]
  have HW2 := hide hW2
  clear hW2 hl hN1
  refine hs1.mono ?_
  rintro e w' ⟨rfl, q1, rfl⟩
  have hs2 := hs2 q1
  have c2' : (W2.drewN q1).cell? ⟨w.heap.size + 2, 0, none⟩ = some (.slice a n c) := c2
  go_wp2_with (refine hs2.mono ?_; rintro e w' ⟨rfl, q2, rfl⟩)
  all_goals go_ret2
  all_goals exact ⟨rfl, grown_trans (unhide hfin) (grown_drewN _ _)⟩
end Go.Proofs.Ytcojhjnledeciaa.Ku

namespace Go.Proofs.Ytcojhjnledeciaa.Ku
open Go.RowKit
set_option linter.unusedVariables false
set_option maxRecDepth 100000
set_option maxHeartbeats 400000

/-- A row that was not there. -/
def Fresh (w : World) (v : Value) : Prop := ∀ k, v.ownBlock = some k → w.heap.size ≤ k

theorem grown_fresh {w w1 w' : World} {r : Option Nat} (hg : w.grownBy w1 none) (h : w1.grownBy w' r) (hr : ∀ k, r = some k → w.heap.size ≤ k) : w.grownBy w' none :=
  ⟨h.os.trans hg.os, h.tape.trans hg.tape, h.output.trans hg.output, Nat.le_trans hg.size h.size, fun k hk _ => by
    rw [h.block k (Nat.lt_of_lt_of_le hk hg.size) (fun e => by have := hr k e.symm; omega)]
    exact hg.block k hk (by simp)⟩

theorem Moved.fresh {w w1 w' : World} {v v' : Value} (hg : w.grownBy w1 none) (hf : Fresh w v) (hm : Moved w1 w' v v') : w.grownBy w' none ∧ Fresh w v' := by
  rcases hm with ⟨h1, h2⟩ | ⟨h1, h2, h3⟩
  · exact ⟨grown_fresh hg h2 hf, fun k hk => hf k (by rw [← h1]; exact hk)⟩
  · refine ⟨grown_trans hg h2, fun k hk => ?_⟩
    rw [h1] at hk
    injection hk with hk
    have := hg.size
    omega

theorem eqnil (W : World) (a : Option Addr) (n c : Nat) : (binOp .eql 51 (.slice a n c) (.slice none 0 0)).run Try.prog W = .ok (.bool a.isNone) W := Lib.run_eql_slice_nil W _ _ a n c 0 0 Try.underlying51

theorem row_empty (w : World) : RowAt (w.alloc (.cells #[] 90)) w.heap.size 0 [] [] := ⟨heap_alloc_new w _, rfl, by simp [maxLen]⟩

/-- slices.Clone of a part of a row. -/
theorem clone_part (g o n c : Nat) (L : List Sp) (w : World) (hn : L.length = n) (hsrc : ∀ j u, (cl L)[j]? = some u → w.cell? (Addr.add ⟨g, o, none⟩ j) = some u) (hbytes : n * 16 ≤ 140737488355328) :
    Calls Try.prog 60 #[.slice (some ⟨g, o, none⟩) n c] w fun e w' => ∃ v', e = .returned v' ∧ Row w' v' L ∧ Fresh w v' ∧ w.grownBy w' none := by
  have hfr : Fresh w (.slice (some ⟨w.heap.size, 0, none⟩) 0 0) := fun k hk => by injection hk with hk; exact Nat.le_of_eq hk
  by_cases hn0 : n = 0
  · subst hn0
    obtain rfl := List.length_eq_zero_iff.1 hn
    have hap : ∀ ty, (Builtin.append_ #[51, 51] ty #[.slice (some ⟨w.heap.size, 0, none⟩) 0 0, .slice (some ⟨g, o, none⟩) 0 c]).run Try.prog (w.alloc (.cells #[] 90)) = .ok (.slice (some ⟨w.heap.size, 0, none⟩) 0 0) (w.alloc (.cells #[] 90)) := fun ty => by
      obtain ⟨inf, hi0, hz0, hz1, hz2⟩ := info_parts Try.infoS
      simp [Builtin.append_, run_underlying Try.underlying51, sizeOf, typeInfo, hi0, Builtin.lenOf, Builtin.firstCells, storeCells, loadCells, loadCellsFrom]
    clear hsrc hbytes hn
    go_enter Try.func60, Try.ntmps60
    go_wp2_with (first | simp only [eqnil, Option.isNone_some] | (at_builtin; refine wpList_append_run _ rfl _ _ 51 51 rfl _ _ rfl rfl (hap _) ?_))
    all_goals go_ret
    all_goals exact ⟨_, rfl, (row_empty w).row, hfr, grown_alloc _ _⟩
  · obtain ⟨v', w', hr, hro, hmo, hnn⟩ := app2 (w.alloc (.cells #[] 90)) _ [] L 51 (row_empty w).row ⟨g, o, none⟩ c (fun j u hj => cell_grown_none (grown_alloc _ _) (hsrc j u hj)) (fun e => by rw [e] at hn; simp at hn; omega) (by simpa [hn] using hbytes)
    rw [hn] at hr
    have hfin := hide (And.intro hro (Moved.fresh (grown_alloc w _) hfr hmo))
    have hr' : (Builtin.append_ #[51, 51] 51 #[.slice (some ⟨w.heap.size, 0, none⟩) 0 0, .slice (some ⟨g, o, none⟩) n c]).run Try.prog (w.alloc (.cells #[] 90)) = .ok v' w' := hr
    clear hsrc hbytes hn hr hro hmo hnn
    go_enter Try.func60, Try.ntmps60
    go_wp2_with (first | simp only [eqnil, Option.isNone_some] | (at_builtin; refine wpList_append_run _ rfl _ _ 51 51 rfl _ _ rfl rfl hr' ?_))
    all_goals go_ret
    all_goals exact ⟨_, rfl, (unhide hfin).1, (unhide hfin).2.2, (unhide hfin).2.1⟩

theorem clone_nil (w : World) (n c : Nat) : Calls Try.prog 60 #[.slice none n c] w fun e w' => e = .returned (.slice none 0 0) ∧ w' = w := by
  go_enter Try.func60, Try.ntmps60
  go_wp2_with (simp only [eqnil, Option.isNone_none])
  all_goals go_ret
  all_goals exact ⟨rfl, rfl⟩

theorem row_nil (w : World) : Row w (.slice none 0 0) [] := ⟨rfl, .inl ⟨rfl, rfl⟩⟩
theorem fresh_nil (w : World) : Fresh w (.slice none 0 0) := fun k hk => by cases hk

/-- slices.Clone of a row. -/
theorem clone_row (v : Value) (L : List Sp) (w : World) (h : Row w v L) (hbytes : L.length * 16 ≤ 140737488355328) :
    Calls Try.prog 60 #[v] w fun e w' => ∃ v', e = .returned v' ∧ Row w' v' L ∧ Fresh w v' ∧ w.grownBy w' none := by
  rcases Row.at h with ⟨rfl, rfl⟩ | ⟨g, c, sp, rfl, hR⟩
  · refine (clone_nil w 0 0).mono ?_
    rintro e w' ⟨rfl, rfl⟩
    exact ⟨_, rfl, row_nil _, fresh_nil _, grown_self _ _⟩
  · exact clone_part g 0 L.length c L w rfl (fun j u hj => by rw [Addr.add_lit, Nat.zero_add]; exact hR.cell j u hj) hbytes

theorem runs_any (b : Nat) (most : Int) (v : Value) (L : List Sp) (w : World) (h0 : SetAt w b most v L) (hbytes : L.length * 16 ≤ 140737488355328) :
    Calls Try.prog 20 #[.pointer (some ⟨b, 0, none⟩)] w fun e w' => ∃ v', e = .returned v' ∧ Row w' v' L ∧ Fresh w v' ∧ w.grownBy w' none := by
  have hl := list_any b most v L w h0
  have hc := clone_row v L w h0.row hbytes
  go_enter Try.func20, Try.ntmps20
  go_wp2_with (first | (refine hl.mono ?_; rintro e w' ⟨rfl, hw'⟩; subst w') | (refine hc.mono ?_; rintro e w' ⟨v', rfl, k1, k2, k3⟩))
  all_goals go_ret
  all_goals exact ⟨_, rfl, k1, k2, k3⟩
end Go.Proofs.Ytcojhjnledeciaa.Ku
