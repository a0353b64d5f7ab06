/- Road: alike; two lists one behind the other. -/
import Derived.Test.YtbdjlhkgpblebaaDoorY2S
namespace Go.Proofs.YtbdjlhkgpblebaaDoor
open Go.RowKit Go.Shelf Go.Maps
set_option linter.unusedVariables false
set_option linter.unusedSimpArgs false
set_option maxRecDepth 100000
set_option maxHeartbeats 1000000

/-- A list of what was told, read. -/
structure RdF (w : World) (a : Option Addr) (L : List Fl) : Prop where
  at_ : L = [] ∨ ∃ g, a = some ⟨g, 0, none⟩ ∧ ∀ k f, L[k]? = some f → ∀ j v, f.cs[j]? = some v → w.cell? ⟨g, k * 5 + j, none⟩ = some v
  rd : ∀ f ∈ L, Rd w (some ⟨f.db, 0, none⟩) f.g.tx
theorem RdF.grown {w w' : World} {a : Option Addr} {L : List Fl} (h : RdF w a L) (g : w.grownBy w' none) : RdF w' a L := by
  refine ⟨?_, fun f hf => rdg (h.rd f hf) g⟩
  rcases h.at_ with h1 | ⟨b, rfl, h1⟩
  · exact .inl h1
  · exact .inr ⟨b, rfl, fun k f hk j v hj => cell_grown (h1 k f hk j v hj) g⟩
theorem rdF_row {w : World} {base m c : Nat} {a : Option Addr} {L : List Fl} (h : w.ownsRow base 35 5 (.slice a m c) m (clF L)) (hf : ∀ f ∈ L, Rd w (some ⟨f.db, 0, none⟩) f.g.tx) : RdF w a L ∧ L.length = m ∧ m ≤ c ∧ c ≤ 9223372036854775807 := by
  have hl : L.length = m := by have := h.1; rw [clF_len] at this; omega
  rcases h.2 with ⟨e1, e2⟩ | ⟨g, cap, cur, e1, q1, q2, q3, q4, q5, q6⟩
  · simp only [Value.slice.injEq] at e1
    refine ⟨⟨.inl (List.length_eq_zero_iff.1 (by omega)), hf⟩, hl, by omega, by omega⟩
  · simp only [Value.slice.injEq, true_and] at e1
    obtain ⟨rfl, rfl⟩ := e1
    refine ⟨⟨.inr ⟨g, rfl, fun k f hk j v hj => ?_⟩, hf⟩, hl, q3, q4⟩
    have hj5 : j < 5 := (Array.getElem?_eq_some_iff.1 hj).1
    have hk2 := (List.getElem?_eq_some_iff.1 hk).1
    have hx := clF_get L k f j v hk hj
    rw [← q6, List.getElem?_take, if_pos (by omega), Array.getElem?_toList] at hx
    unfold World.cell?
    rw [q2]
    exact hx

theorem alike_true (a b : Option Addr) (m ca cb : Nat) (L K : List Fl) (hL : L.length = m) (hK : K.length = m) (he : L.map Fl.g = K.map Fl.g) (hca : m ≤ ca ∧ ca ≤ 9223372036854775807) (hcb : m ≤ cb ∧ cb ≤ 9223372036854775807) (w : World) (r1 : RdF w a L) (r2 : RdF w b K) :
    Calls Tryd.prog 14 #[.slice a m ca, .slice b m cb] w fun e w' => e = .returned (.bool true) ∧ w.grownBy w' none := by
  have mm : ((m : Int) != (m : Int)) = false := by simp
  have ml : ¬ (9223372036854775807 : Int) < (m : Int) := by omega
  have m1 : m ≤ ca := hca.1
  have m2 : m ≤ cb := hcb.1
  have IN := hide (And.intro hL (And.intro hK (And.intro he (And.intro r1 r2))))
  clear hL hK he r1 r2 hca hcb
  go_enter Tryd.func14, Tryd.ntmps14
  go_wp2_with fail
  go_loopw [5] (fun i wr => ∃ k : Nat, k ≤ m ∧ i = .int .i64 (k : Int) ∧ Hid (w.grownBy wr none)) (fun i _ => m - (intOf i).toNat)
  case atStart => exact ⟨0, Nat.zero_le _, rfl, World.grownBy.refl w none⟩
  case round =>
    obtain ⟨k, hk, rfl, H⟩ := hrel
    by_cases hlt : k < m
    · have kI : (k : Int) < (m : Int) := by omega
      have k0 : ¬ (k : Int) < 0 := by omega
      obtain ⟨hL, hK, he, r1, r2⟩ := unhide IN
      obtain ⟨f, hf⟩ : ∃ f, L[k]? = some f := ⟨_, List.getElem?_eq_getElem (by omega)⟩
      obtain ⟨f', hf'⟩ : ∃ f, K[k]? = some f := ⟨_, List.getElem?_eq_getElem (by omega)⟩
      have eg : f.g = f'.g := by
        have h1 : (L.map Fl.g)[k]? = some f.g := by rw [List.getElem?_map, hf]; rfl
        have h2 : (K.map Fl.g)[k]? = some f'.g := by rw [List.getElem?_map, hf']; rfl
        rw [he, h2] at h1
        injection h1 with h1
        exact h1.symm
      have q1 := r1.grown (unhide H)
      have q2 := r2.grown (unhide H)
      rcases q1.at_ with h | ⟨g1, rfl, c1⟩
      · rw [h] at hf; simp at hf
      rcases q2.at_ with h | ⟨g2, rfl, c2⟩
      · rw [h] at hf'; simp at hf'
      have hs := fun (X : World) (gX : wr.grownBy X none) => same_true f f' eg X (rdg (q1.rd f (List.mem_of_getElem? hf)) gX) (rdg (q2.rd f' (List.mem_of_getElem? hf')) gX)
      have HS := hide hs
      have a0 : wr.cell? ⟨g1, k * 5, none⟩ = some (.int .i64 (f.g.id : Int)) := c1 k f hf 0 _ rfl
      have a1 : wr.cell? ⟨g1, k * 5 + 1, none⟩ = some (.int .i64 f.g.to) := c1 k f hf 1 _ rfl
      have a2 : wr.cell? ⟨g1, k * 5 + 2, none⟩ = some (.int .i64 (f.g.at_ : Int)) := c1 k f hf 2 _ rfl
      have a3 : wr.cell? ⟨g1, k * 5 + 3, none⟩ = some (.slice (some ⟨f.db, 0, none⟩) f.g.tx.length f.cap) := c1 k f hf 3 _ rfl
      have a4 : wr.cell? ⟨g1, k * 5 + 4, none⟩ = some (.int .i64 f.g.mark) := c1 k f hf 4 _ rfl
      have b0 : wr.cell? ⟨g2, k * 5, none⟩ = some (.int .i64 (f'.g.id : Int)) := c2 k f' hf' 0 _ rfl
      have b1 : wr.cell? ⟨g2, k * 5 + 1, none⟩ = some (.int .i64 f'.g.to) := c2 k f' hf' 1 _ rfl
      have b2 : wr.cell? ⟨g2, k * 5 + 2, none⟩ = some (.int .i64 (f'.g.at_ : Int)) := c2 k f' hf' 2 _ rfl
      have b3 : wr.cell? ⟨g2, k * 5 + 3, none⟩ = some (.slice (some ⟨f'.db, 0, none⟩) f'.g.tx.length f'.cap) := c2 k f' hf' 3 _ rfl
      have b4 : wr.cell? ⟨g2, k * 5 + 4, none⟩ = some (.int .i64 f'.g.mark) := c2 k f' hf' 4 _ rfl
      have GW := hide (unhide H)
      clear hL hK he r1 r2 hf hf' eg q1 q2 c1 c2 hs H
      unfold Fl.cs at HS
      generalize f.g.tx.length = n1 at *
      generalize f'.g.tx.length = n2 at *
      go_upto_region 6 with fail
      go_region_held3 (fun Z => Z.cell? ⟨g1, k * 5, none⟩ = some (.int .i64 (f.g.id : Int)) ∧ Z.cell? ⟨g1, k * 5 + 1, none⟩ = some (.int .i64 f.g.to) ∧ Z.cell? ⟨g1, k * 5 + 2, none⟩ = some (.int .i64 (f.g.at_ : Int)) ∧ Z.cell? ⟨g1, k * 5 + 3, none⟩ = some (.slice (some ⟨f.db, 0, none⟩) n1 f.cap) ∧ Z.cell? ⟨g1, k * 5 + 4, none⟩ = some (.int .i64 f.g.mark) ∧ Z.cell? ⟨g2, k * 5, none⟩ = some (.int .i64 (f'.g.id : Int)) ∧ Z.cell? ⟨g2, k * 5 + 1, none⟩ = some (.int .i64 f'.g.to) ∧ Z.cell? ⟨g2, k * 5 + 2, none⟩ = some (.int .i64 (f'.g.at_ : Int)) ∧ Z.cell? ⟨g2, k * 5 + 3, none⟩ = some (.slice (some ⟨f'.db, 0, none⟩) n2 f'.cap) ∧ Z.cell? ⟨g2, k * 5 + 4, none⟩ = some (.int .i64 f'.g.mark)) (go_keep) (first
        | (go_at_call 29; refine (unhide HS _ (by first | with_reducible exact World.grownBy.refl _ _ | with_reducible exact grown_drew' (World.grownBy.refl _ _))).mono ?_; rintro e Y ⟨rfl, gY⟩; have gY2 : wr.grownBy Y none := (by first | with_reducible exact gY | exact (grown_drew' (World.grownBy.refl wr none)).trans gY); have c0 := cell_grown a0 gY2; have c1 := cell_grown a1 gY2; have c2 := cell_grown a2 gY2; have c3 := cell_grown a3 gY2; have c4 := cell_grown a4 gY2; have d0 := cell_grown b0 gY2; have d1 := cell_grown b1 gY2; have d2 := cell_grown b2 gY2; have d3 := cell_grown b3 gY2; have d4 := cell_grown b4 gY2))
      have E := hide ((unhide GW).trans gY2)
      clear a0 a1 a2 a3 a4 b0 b1 b2 b3 b4 c0 c1 c2 c3 c4 d0 d1 d2 d3 d4 gY gY2
      go_wp2_with fail
      exact ⟨⟨k + 1, hlt, by go_num, unhide E⟩, by simp [intOf]; omega⟩
    · obtain rfl : k = m := by omega
      have kI : ¬ (k : Int) < (k : Int) := by omega
      have E := hide (unhide H)
      clear H
      go_wp2_with fail
      go_ret
      exact ⟨rfl, unhide E⟩

/-- What was told, behind what was told. -/
theorem app_fls {w : World} {b1 b2 m n c c2 : Nat} {a a2 : Option Addr} {L K : List Fl} (hL : L.length = m) (h1 : w.ownsRow b1 35 5 (.slice a m c) m (clF L)) (hK : K.length = n) (h2 : w.ownsRow b2 35 5 (.slice a2 n c2) n (clF K)) (hb : b1 ≤ w.heap.size) (hs : m + n ≤ 100000) :
    ∃ a' c' w', (Builtin.append_ #[28, 28] 28 #[.slice a m c, .slice a2 n c2]).run Tryd.prog w = .ok (.slice a' (m + n) c') w' ∧ w'.ownsRow b1 35 5 (.slice a' (m + n) c') (m + n) (clF (L ++ K)) ∧ w.grownBy w' (Value.slice a m c).ownBlock := by
  obtain ⟨i, hi, hz0, hz1, hz2⟩ := info_parts Tryd.infoFl
  have sh : ∀ {W : World} {v' : Value}, W.ownsRow b1 35 5 v' (m + n) (clF (L ++ K)) → ∃ a' c', v' = .slice a' (m + n) c' := fun h => by
    rcases h.2 with ⟨e1, e2⟩ | ⟨g', c', cur, e1, -⟩
    · exact ⟨none, 0, by rw [e1, e2]⟩
    · exact ⟨_, _, e1⟩
  rcases h2.2 with ⟨e1, e2⟩ | ⟨g, cap, cur, e1, q1, q2, q3, q4, q5, q6⟩
  · simp only [Value.slice.injEq] at e1
    obtain ⟨rfl, rfl, rfl⟩ := e1
    have hK0 : K = [] := List.length_eq_zero_iff.1 hK
    subst hK0
    refine ⟨a, c, w, ?_, by rw [Nat.add_zero, List.append_nil]; exact h1, World.grownBy.refl _ _⟩
    rw [Nat.add_zero]
    rcases h1.2 with ⟨e1, e2⟩ | ⟨g, cap, cur, e1, _, _, hnc, _⟩
    · simp only [Value.slice.injEq] at e1
      obtain ⟨rfl, rfl, rfl⟩ := e1
      simp [Builtin.append_, run_underlying Tryd.underlying28, sizeOf, typeInfo, hi, Builtin.lenOf, Builtin.firstCells, loadCells, loadCellsFrom]
    · simp only [Value.slice.injEq, true_and] at e1
      obtain ⟨rfl, rfl⟩ := e1
      simp [Builtin.append_, run_underlying Tryd.underlying28, sizeOf, typeInfo, hi, Builtin.lenOf, Builtin.firstCells, loadCells, loadCellsFrom, hnc, storeCells]
  · simp only [Value.slice.injEq, true_and] at e1
    obtain ⟨rfl, rfl⟩ := e1
    obtain ⟨v', w', r1, r2, r3, -, -⟩ := run_append_own_at (P := Tryd.prog) w b1 28 28 35 i _ 5 56 Tryd.underlying28 hi hz0 hz1 hz2 rfl (by decide) (.slice a m c) m _ h1 ⟨g, 0, none⟩ n c2 (clF K) (by rw [clF_len, hK]) (fun j u hj => by
      rw [Addr.add_lit, Nat.zero_add]
      have hjl := (List.getElem?_eq_some_iff.1 hj).1
      rw [clF_len, hK] at hjl
      rw [← q6, List.getElem?_take, if_pos hjl, Array.getElem?_toList] at hj
      unfold World.cell?
      rw [q2]
      exact hj) (fun u hu => by
      simp only [clF, List.mem_flatten, List.mem_map] at hu
      obtain ⟨l, ⟨f, -, rfl⟩, hu⟩ := hu
      exact Fl.one f u hu) (by unfold maxLen; omega) (by omega) hb
    rw [← clF_app] at r2
    obtain ⟨a', c', rfl⟩ := sh r2
    exact ⟨a', c', w', r1, r2, r3⟩
end Go.Proofs.YtbdjlhkgpblebaaDoor
