/- reach. -/
import Derived.Test.YtnflbefbgcbdfaaGreatSO
import Derived.Shelf.Abstract
namespace Go.Proofs.YtnflbefbgcbdfaaGreat
set_option maxRecDepth 100000
open Go.RowKit
set_option linter.unusedVariables false
set_option maxHeartbeats 400000

theorem grown_trans {a b c : World} {r : Option Nat} (h : a.grownBy b r) (h2 : b.grownBy c none) : a.grownBy c r :=
  ⟨h2.os.trans h.os, h2.tape.trans h.tape, h2.output.trans h.output, Nat.le_trans h.size h2.size, fun k hk hr => (h2.block k (Nat.lt_of_lt_of_le hk h.size) (by simp)).trans (h.block k hk hr)⟩
theorem grown_alloc (w : World) (o : Obj) : w.grownBy (w.alloc o) none := World.grownBy_alloc w o none
theorem grown_drewN (w : World) (q : Nat) : w.grownBy (w.drewN q) none := ⟨rfl, rfl, rfl, Nat.le_refl _, fun _ _ _ => rfl⟩

theorem cell_grown_none {w w' : World} (h : w.grownBy w' none) {a : Addr} {v : Value} (hc : w.cell? a = some v) : w'.cell? a = some v := by
  rw [World.cell?_of_block (w := w) (w' := w') (h.block _ (World.block_lt_of_cell? _ _ hc) (by simp))]; exact hc

theorem heap_some_lt {w : World} {k : Nat} {o : Obj} (h : w.heap[k]? = some o) : k < w.heap.size := by
  rcases Nat.lt_or_ge k w.heap.size with h1 | h1
  · exact h1
  · rw [Array.getElem?_eq_none h1] at h; cases h

theorem Row.keep {w w' : World} {v : Value} {L : List Sp} (h : Row w v L) (hg : w.grownBy w' none) : Row w' v L := by
  refine ⟨h.1, ?_⟩
  rcases h.2 with h1 | ⟨g, c, cur, h1, h2, h3, h4⟩
  · exact .inl h1
  · exact .inr ⟨g, c, cur, h1, h2, by rw [hg.block g (heap_some_lt h3) (by simp)]; exact h3, h4⟩
theorem Row.keepBut {w w' : World} {v : Value} {L : List Sp} {r : Option Nat} (h : Row w v L) (hg : w.grownBy w' r) (hr : v.ownBlock = none ∨ v.ownBlock ≠ r) : Row w' v L := by
  refine ⟨h.1, ?_⟩
  rcases h.2 with h1 | ⟨g, c, cur, h1, h2, h3, h4⟩
  · exact .inl h1
  · refine .inr ⟨g, c, cur, h1, h2, ?_, h4⟩
    subst h1
    rw [hg.block g (heap_some_lt h3) (fun e => by rcases hr with hr | hr; cases hr; exact hr e)]
    exact h3
theorem SetAt.keep {w w' : World} {b : Nat} {most : Int} {v : Value} {L : List Sp} (h : SetAt w b most v L) (hg : w.grownBy w' none) : SetAt w' b most v L :=
  ⟨by rw [hg.block b (heap_some_lt h.blk) (by simp)]; exact h.blk, h.row.keep hg⟩

theorem Row.shape {w : World} {v : Value} {L : List Sp} (h : Row w v L) : ∃ a c, v = .slice a L.length c ∧ (L = [] ∨ ∃ g, a = some ⟨g, 0, none⟩ ∧ ∀ i, i < L.length → w.cell? ⟨g, i * 2, none⟩ = some (.int .i64 (L.getD i (0, 0)).1) ∧ w.cell? ⟨g, i * 2 + 1, none⟩ = some (.int .i64 (L.getD i (0, 0)).2)) ∧ c ≤ maxLen ∧ L.length ≤ c := by
  rcases Row.at h with ⟨rfl, rfl⟩ | ⟨g, c, sp, rfl, hR⟩
  · exact ⟨none, 0, rfl, .inl rfl, by simp [maxLen], Nat.le_refl _⟩
  · exact ⟨_, c, rfl, .inr ⟨g, rfl, fun i hi => ⟨hR.cell _ _ (cl_lo L i hi), hR.cell _ _ (cl_hi L i hi)⟩⟩, hR.2.2, by have := hR.2.1; omega⟩

theorem eg_reach1 : ∀ args w, (callFunc 103 args).run Tryz.prog w = .ok (.enter 103 args) w := Go.Proofs.enters_of Tryz.func103 (by kernel_rfl) rfl
theorem eg_reach2 : ∀ args w, (callFunc 104 args).run Tryz.prog w = .ok (.enter 104 args) w := Go.Proofs.enters_of Tryz.func104 (by kernel_rfl) rfl

theorem getD_split (A B : List Sp) (i : Nat) (h : i < A.length) : (A ++ B).getD i (0, 0) ∈ A := by
  rw [List.getD_eq_getElem?_getD, List.getElem?_append_left h, List.getElem?_eq_getElem h]; simp
theorem getD_split2 (A B : List Sp) (i : Nat) (h : A.length ≤ i) (h2 : i < (A ++ B).length) : (A ++ B).getD i (0, 0) ∈ B := by
  rw [List.length_append] at h2
  rw [List.getD_eq_getElem?_getD, List.getElem?_append_right h, List.getElem?_eq_getElem (by omega)]; simp

theorem box_cell (w w' : World) (o : Obj) (c : Array Value) (t : TypeId) (x : Value) (hc : o = .cells c t) (hx : c[0]? = some x) (hg : (w.alloc o).grownBy w' none) : w'.cell? ⟨w.heap.size, 0, none⟩ = some x := by
  refine cell_grown_none hg ?_
  subst hc
  unfold World.cell?
  simp only [heap_alloc_new]
  simpa using hx

theorem reach_walk (b : Nat) (most lo hi : Int) (v : Value) (A M D : List Sp) (w : World) (h0 : SetAt w b most v (A ++ (M ++ D))) (hA : ∀ s ∈ A, s.2 < lo) (hM : ∀ s ∈ M, lo ≤ s.2 ∧ s.1 ≤ hi) (hD : ∀ s ∈ D, hi < s.1 ∧ lo ≤ s.2) (hA1 : ∀ s ∈ A, s.1 ≤ hi) (hsz : (A ++ (M ++ D)).length < 4611686018427387904) :
    Calls Tryz.prog 78 #[.pointer (some ⟨b, 0, none⟩), .int .i64 lo, .int .i64 hi] w fun e w' => e = .returned (.tuple #[.int .i64 A.length, .int .i64 ((A.length + M.length : Nat) : Int)]) ∧ w.grownBy w' none := by
  obtain ⟨a, c, rfl, hcells, hcm, hnc⟩ := h0.row.shape
  obtain ⟨W1, hW1⟩ : ∃ W1, W1 = (w.alloc (.cells #[.int .i64 lo] 2)).alloc (.cells #[.int .i64 hi] 2) := ⟨_, rfl⟩
  have hg1 : w.grownBy W1 none := by rw [hW1]; exact grown_trans (grown_alloc _ _) (grown_alloc _ _)
  have hl := list_any b most _ _ W1 (h0.keep hg1)
  obtain ⟨W2, hW2⟩ : ∃ W2, W2 = W1.alloc (.cells #[.slice a (A ++ (M ++ D)).length c] 47) := ⟨_, rfl⟩
  have hg2 : w.grownBy W2 none := by rw [hW2]; exact grown_trans hg1 (grown_alloc _ _)
  have hN1 : W1.heap.size = w.heap.size + 2 := by rw [hW1]; simp
  have c0 : W2.cell? ⟨w.heap.size, 0, none⟩ = some (.int .i64 lo) := box_cell w W2 _ #[.int .i64 lo] 2 _ rfl rfl (by rw [hW2, hW1]; exact grown_trans (grown_alloc _ _) (grown_alloc _ _))
  have c1 : W2.cell? ⟨w.heap.size + 1, 0, none⟩ = some (.int .i64 hi) := by
    have := box_cell (w.alloc (.cells #[.int .i64 lo] 2)) W2 _ #[.int .i64 hi] 2 _ rfl rfl (by rw [hW2, hW1]; exact grown_alloc _ _)
    simpa using this
  have c2 : W2.cell? ⟨w.heap.size + 2, 0, none⟩ = some (.slice a (A ++ (M ++ D)).length c) := by
    have := box_cell W1 W2 _ _ _ _ rfl rfl (by rw [hW2]; exact grown_self _ _)
    rwa [hN1] at this
  have hs1 : Calls Tryz.prog 66 #[.int .i64 (A ++ (M ++ D)).length, .func (.func 103) #[] #[.pointer (some ⟨w.heap.size + 2, 0, none⟩), .pointer (some ⟨w.heap.size, 0, none⟩)]] W2 fun e w' => e = .returned (.int .i64 A.length) ∧ ∃ q, w' = W2.drewN q := by
    refine search_any _ _ _ A.length W2 (by simp) eg_reach1 hsz fun q i hi => ?_
    rcases hcells with h1 | ⟨g, rfl, hcells⟩
    · rw [h1] at hi; simp at hi
    · have := reach1 (w.heap.size + 2) w.heap.size g c _ i lo _ (W2.drewN q) hi c2 c0 (cell_grown_none hg2 (hcells i hi).2)
      have hd : decide (lo ≤ ((A ++ (M ++ D)).getD i (0, 0)).2) = decide (A.length ≤ i) := by
        by_cases h1 : i < A.length
        · rw [decide_eq_false (by have := hA _ (getD_split A (M ++ D) i h1); omega), decide_eq_false (by omega)]
        · have h2 := getD_split2 A (M ++ D) i (by omega) hi
          rw [decide_eq_true, decide_eq_true (by omega)]
          rcases List.mem_append.1 h2 with h3 | h3
          · exact (hM _ h3).1
          · exact (hD _ h3).2
      rw [hd] at this
      exact this
  have hs2 : ∀ q0, Calls Tryz.prog 66 #[.int .i64 (A ++ (M ++ D)).length, .func (.func 104) #[] #[.pointer (some ⟨w.heap.size + 2, 0, none⟩), .pointer (some ⟨w.heap.size + 1, 0, none⟩)]] (W2.drewN q0) fun e w' => e = .returned (.int .i64 ((A.length + M.length : Nat) : Int)) ∧ ∃ q, w' = (W2.drewN q0).drewN q := fun q0 => by
    refine search_any _ _ _ (A.length + M.length) (W2.drewN q0) (by simp) eg_reach2 hsz fun q i hin => ?_
    rcases hcells with h1 | ⟨g, rfl, hcells⟩
    · rw [h1] at hin; simp at hin
    · have := reach2 (w.heap.size + 2) (w.heap.size + 1) g c _ i hi _ ((W2.drewN q0).drewN q) hin c2 c1 (cell_grown_none hg2 (hcells i hin).1)
      have hd : decide (hi < ((A ++ (M ++ D)).getD i (0, 0)).1) = decide (A.length + M.length ≤ i) := by
        rw [← List.append_assoc] at hin ⊢
        by_cases h1 : i < (A ++ M).length
        · rw [decide_eq_false, decide_eq_false (by rw [List.length_append] at h1; omega)]
          rcases List.mem_append.1 (getD_split (A ++ M) D i h1) with h3 | h3
          · have := hA1 _ h3; omega
          · have := (hM _ h3).2; omega
        · have h2 := getD_split2 (A ++ M) D i (by omega) hin
          rw [decide_eq_true (hD _ h2).1, decide_eq_true (by rw [List.length_append] at h1; omega)]
      rw [hd] at this
      exact this
  have hfin := hide hg2
  clear hA hM hD hA1 hcells h0 hg1 hg2 c0 c1 hcm hnc
  generalize (A ++ (M ++ D)).length = n at *
  subst hW1
  have hW2' : W2.cell? ⟨w.heap.size + 2, 0, none⟩ = some (.slice a n c) := c2
  go_enter Tryz.func78, Tryz.ntmps78
  go_wp2_with (refine hl.mono ?_; rintro e w' ⟨rfl, hw'⟩; subst w')
  rw [← hW2]
  have HW2 := hide hW2
  clear hW2 hl hN1
  refine hs1.mono ?_
  rintro e w' ⟨rfl, q1, rfl⟩
  have hs2 := hs2 q1
  have c2' : (W2.drewN q1).cell? ⟨w.heap.size + 2, 0, none⟩ = some (.slice a n c) := c2
  go_wp2_with (refine hs2.mono ?_; rintro e w' ⟨rfl, q2, rfl⟩)
  all_goals go_ret2
  all_goals exact ⟨rfl, grown_trans (unhide hfin) (grown_drewN _ _)⟩
end Go.Proofs.YtnflbefbgcbdfaaGreat
