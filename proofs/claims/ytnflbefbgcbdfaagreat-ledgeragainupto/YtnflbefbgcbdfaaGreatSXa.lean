/- Add. -/
import Derived.Test.YtnflbefbgcbdfaaGreatSX0
namespace Go.Proofs.YtnflbefbgcbdfaaGreat
set_option maxRecDepth 100000
open Go.RowKit
set_option linter.unusedVariables false
set_option maxHeartbeats 400000

theorem eg_add1 : ∀ args w, (callFunc 67 args).run Tryz.prog w = .ok (.enter 67 args) w := Go.Proofs.enters_of Tryz.func67 (by kernel_rfl) rfl
theorem eg_add2 : ∀ args w, (callFunc 69 args).run Tryz.prog w = .ok (.enter 69 args) w := Go.Proofs.enters_of Tryz.func69 (by kernel_rfl) rfl
theorem Ok.holes {L : List Sp} (h : Ok L) {lo hi : Int} (hlh : lo ≤ hi) (hlo : -9223372036854775808 ≤ lo) (hhi : hi ≤ 9223372036854775807) : Good (-9223372036854775808) 9223372036854775807 (holesF lo hi L) := ((holes_good h.good hlh).1.mono hlo).top hhi

/-- The two searches. -/
theorem add_search (b : Nat) (most lo hi : Int) (a : Option Addr) (c N : Nat) (A M D : List Sp) (U : World) (h0 : SetAt U b most (.slice a (A ++ (M ++ D)).length c) (A ++ (M ++ D))) (hL : Ok (A ++ (M ++ D))) (hlh : lo ≤ hi) (hlo : -9223372036854775808 ≤ lo) (hhi : hi ≤ 9223372036854775807)
    (hA : ∀ s ∈ A, s.2 < lo - 1) (hM : ∀ s ∈ M, lo - 1 ≤ s.2 ∧ s.1 ≤ hi + 1) (hD : ∀ s ∈ D, hi + 1 < s.1 ∧ lo - 1 ≤ s.2)
    (k0 : U.cell? ⟨N, 0, none⟩ = some (.pointer (some ⟨b, 0, none⟩))) (k1 : U.cell? ⟨N + 1, 0, none⟩ = some (.int .i64 lo)) (k2 : U.cell? ⟨N + 2, 0, none⟩ = some (.int .i64 hi)) :
    (Calls Tryz.prog 66 #[.int .i64 (A ++ (M ++ D)).length, .func (.func 67) #[] #[.pointer (some ⟨N, 0, none⟩), .pointer (some ⟨N + 1, 0, none⟩)]] U fun e w' => e = .returned (.int .i64 A.length) ∧ ∃ q, w' = U.drewN q) ∧
    (∀ q0, Calls Tryz.prog 66 #[.int .i64 (A ++ (M ++ D)).length, .func (.func 69) #[] #[.pointer (some ⟨N + 2, 0, none⟩), .pointer (some ⟨N, 0, none⟩)]] (U.drewN q0) fun e w' => e = .returned (.int .i64 ((A.length + M.length : Nat) : Int)) ∧ ∃ q, w' = (U.drewN q0).drewN q) := by
  have hsz := hL.size
  have hg := hL.good
  obtain ⟨a', c', e1, hcells, _, _⟩ := h0.row.shape
  injection e1 with e1 _ e2
  subst e1 e2
  have c1 := h0.c1
  refine ⟨?_, fun q0 => ?_⟩
  · refine search_any _ _ _ A.length U (by simp) eg_add1 (by omega) fun q i hin => ?_
    rcases hcells with h1 | ⟨g, rfl, hcells⟩
    · rw [h1] at hin; simp at hin
    · have hb := hg.mem (getD_mem _ i hin)
      have := add1 N (N + 1) b g c _ i lo _ (U.drewN q) hin k0 c1 k1 (hcells i hin).2 ⟨hlo, by omega⟩ ⟨by omega, by omega⟩
      have hd : (!decide (((A ++ (M ++ D)).getD i (0, 0)).2 + 1 < lo)) = decide (A.length ≤ i) := by
        by_cases h1 : i < A.length
        · rw [decide_eq_true (by have := hA _ (getD_split A (M ++ D) i h1); omega), decide_eq_false (by omega)]; rfl
        · have h2 := getD_split2 A (M ++ D) i (by omega) hin
          rw [decide_eq_false, decide_eq_true (by omega)]; rfl
          rcases List.mem_append.1 h2 with h3 | h3
          · have := (hM _ h3).1; omega
          · have := (hD _ h3).2; omega
      rw [hd] at this
      exact this
  · refine search_any _ _ _ (A.length + M.length) (U.drewN q0) (by simp) eg_add2 (by omega) fun q i hin => ?_
    rcases hcells with h1 | ⟨g, rfl, hcells⟩
    · rw [h1] at hin; simp at hin
    · have hb := hg.mem (getD_mem _ i hin)
      have := add2 N (N + 2) b g c _ i hi _ ((U.drewN q0).drewN q) hin k0 c1 k2 (hcells i hin).1 ⟨by omega, hhi⟩ ⟨by omega, by omega⟩
      have hd : decide (hi + 1 < ((A ++ (M ++ D)).getD i (0, 0)).1) = decide (A.length + M.length ≤ i) := by
        rw [← List.append_assoc] at hin ⊢
        by_cases h1 : i < (A ++ M).length
        · rw [decide_eq_false, decide_eq_false (by rw [List.length_append] at h1; omega)]
          rcases List.mem_append.1 (getD_split (A ++ M) D i h1) with h3 | h3
          · have := hA _ h3; have := hg.left.mem h3; omega
          · have := (hM _ h3).2; omega
        · have h2 := getD_split2 (A ++ M) D i (by omega) hin
          rw [decide_eq_true (hD _ h2).1, decide_eq_true (by rw [List.length_append] at h1; omega)]
      rw [hd] at this
      exact this

/-- What is there behind Replace, and behind the store that follows. -/
structure RepPost (X w' : World) (b N G : Nat) (most lo hi : Int) (v v' : Value) (L' : List Sp) : Prop where
  n0 : w'.cell? ⟨N, 0, none⟩ = some (.pointer (some ⟨b, 0, none⟩))
  g0 : w'.cell? ⟨G, 0, none⟩ = some (.int .i64 lo)
  g1 : w'.cell? ⟨G, 1, none⟩ = some (.int .i64 hi)
  c1 : w'.cell? ⟨b, 1, none⟩ = some v
  f1 : w'.frozen? ⟨b, 1, none⟩ = false
  set : SetAt (w'.setCell ⟨b, 1, none⟩ v') b most v' L'
  own : v'.ownBlock = v.ownBlock ∨ Fresh X v'
  touch : Touch X (w'.setCell ⟨b, 1, none⟩ v') b v
  shape : ∃ a n c, v' = .slice a n c
  held : (w'.setCell ⟨b, 1, none⟩ v').cell? ⟨N, 0, none⟩ = some (.pointer (some ⟨b, 0, none⟩)) ∧ (w'.setCell ⟨b, 1, none⟩ v').cell? ⟨G, 0, none⟩ = some (.int .i64 lo) ∧ (w'.setCell ⟨b, 1, none⟩ v').cell? ⟨G, 1, none⟩ = some (.int .i64 hi)

/-- Replace in Add. -/
theorem add_replace (X W : World) (b N G : Nat) (most lo hi : Int) (v : Value) (A M D : List Sp) (h0 : SetAt X b most v (A ++ (M ++ D))) (hL : Ok (A ++ (M ++ D)))
    (hN : X.heap[N]? = some (.cells #[.pointer (some ⟨b, 0, none⟩)] 71)) (hG : X.heap[G]? = some (.cells #[.int .i64 lo, .int .i64 hi] 63)) (hGv : v.ownBlock ≠ some G)
    (hW : (X.alloc (.cells #[.int .i64 lo, .int .i64 hi] 63)).grownBy W none) :
    Calls Tryz.prog 70 #[v, .int .i64 A.length, .int .i64 ((A.length + M.length : Nat) : Int), .slice (some ⟨X.heap.size, 0, none⟩) 1 1] W fun e w' => ∃ v', e = .returned v' ∧ RepPost X w' b N G most lo hi v v' (A ++ ([(lo, hi)] ++ D)) := by
  have hgX := grown_trans (grown_alloc X (.cells #[.int .i64 lo, .int .i64 hi] 63)) hW
  have hs := hL.size
  simp only [List.length_append] at hs
  have hbl : W.heap[X.heap.size]? = some (.cells (cl [(lo, hi)] ++ []).toArray 63 (0, 0)) := by
    rw [hW.block X.heap.size (by simp) (by simp)]; exact heap_alloc_new X _
  refine (replace_any v (.slice (some ⟨X.heap.size, 0, none⟩) 1 1) A M D [(lo, hi)] W (h0.row.keep hgX) (.inr ⟨by simp, X.heap.size, 1, rfl, heap_some_lt hbl, fun g hg e => ?_, [], hbl⟩) (by simp; omega)).mono ?_
  · have := h0.row.blk_lt g hg; omega
  rintro e w' ⟨v', rfl, hr, hm⟩
  have h0W := h0.keep hgX
  have hw := setAt_write h0W hr hm
  have hNW : W.heap[N]? = _ := (hgX.block N (heap_some_lt hN) (by simp)).trans hN
  have hGW : W.heap[G]? = _ := (hgX.block G (heap_some_lt hG) (by simp)).trans hG
  have hbN := heap_ne hN h0.blk (by decide)
  have hbG := heap_ne hG h0.blk (by decide)
  have q0 := hm.cell (a := ⟨N, 0, none⟩) (x := .pointer (some ⟨b, 0, none⟩)) (by simp [World.cell?, hNW]) (h0W.row.ne_of hNW (by decide))
  have q1 := hm.cell (a := ⟨G, 0, none⟩) (x := .int .i64 lo) (by simp [World.cell?, hGW]) hGv
  have q2 := hm.cell (a := ⟨G, 1, none⟩) (x := .int .i64 hi) (by simp [World.cell?, hGW]) hGv
  refine ⟨v', rfl, ⟨q0, q1, q2, by simp [World.cell?, hw.2], by simp [World.frozen?, hw.2], hw.1, ?_, Touch.before hgX (Touch.write hm _), (by obtain ⟨a, c, e, _⟩ := hr.shape; exact ⟨a, _, c, e⟩), cell_set_other q0 hbN, cell_set_other q1 hbG, cell_set_other q2 hbG⟩⟩
  rcases hm with ⟨h1, _⟩ | ⟨h1, _, _⟩
  · exact .inl h1
  · exact .inr fun k hk => by rw [h1] at hk; injection hk with hk; have := hgX.size; omega
end Go.Proofs.YtnflbefbgcbdfaaGreat
