/- Rows of the document's spans (a text for an instance '@r'). -/
import Derived.Test.YtcojhjnledeciaaSBr
namespace Go.Proofs.Ytcojhjnledeciaa.Kr
open Go.RowKit
set_option linter.unusedVariables false
set_option maxRecDepth 100000
set_option maxHeartbeats 400000

theorem app2 (w : World) (v : Value) (A V : List Sp) (ty : TypeId) (hrow : Row w v A) (ad : Addr) (c : Nat) (hsrc : ∀ j u, (cl V)[j]? = some u → w.cell? (ad.add j) = some u) (hm : V ≠ []) (hbytes : (A.length + V.length) * 16 ≤ 140737488355328) :
    ∃ v' w', (Builtin.append_ #[26, 26] ty #[v, .slice (some ad) V.length c]).run Try.prog w = .ok v' w' ∧ Row w' v' (A ++ V) ∧ Moved w w' v v' ∧ v' ≠ .slice none 0 0 := by
  obtain ⟨i, hi, hz0, hz1, hz2⟩ := info_parts Try.infoS
  have hVl : 0 < V.length := List.length_pos_iff.2 hm
  have h63 : A.length + V.length ≤ maxLen := by unfold maxLen; omega
  obtain ⟨v', w', hr, ho, hg, hnil⟩ := run_append_own (P := Try.prog) w 0 26 ty 96 i _ 2 16 Try.underlying26 hi hz0 hz1 hz2 rfl (by decide) v A.length (cl A) hrow ad V.length c (cl V) (cl_length V) hsrc (cl_one V) h63 hbytes (Nat.zero_le _)
  refine ⟨v', w', hr, ?_, ?_, fun h => by have := (hnil.1 h).2; omega⟩
  · unfold Row; rw [cl_append, List.length_append]; exact ho
  rcases Row.at hrow with ⟨rfl, rfl⟩ | ⟨g, cap, sp, rfl, hR⟩
  · have := run_append_nil (P := Try.prog) w 26 ty 96 i _ Try.underlying26 hi hz0 ad V.length c (cl V) (by rw [hz1]; exact cl_length V) hsrc hVl (by omega) (by rw [hz2]; simp only [List.length_nil, Nat.zero_add] at hbytes; omega)
    rw [this] at hr
    injection hr with e1 e2
    subst e1 e2
    exact .inr ⟨rfl, grown_drew_alloc w _⟩
  · have hsz := hR.2.1
    by_cases hroom : A.length + V.length ≤ cap
    · have := run_append_room (P := Try.prog) w 26 ty 96 i Try.underlying26 hi g A.length cap _ hR.1 ad V.length c (cl V) (by rw [hz1]; exact cl_length V) hsrc (cl_one V) hroom (by simp only [hz1, List.size_toArray, List.length_append, cl_length]; omega)
      rw [this] at hr
      injection hr with e1 e2
      subst e1
      exact .inl ⟨rfl, hg⟩
    · have := run_append_grow (P := Try.prog) w 26 ty 96 i _ Try.underlying26 hi hz0 ⟨g, 0, none⟩ A.length cap (cl A) (by rw [hz1]; exact cl_length A) (fun j u hj => by rw [Addr.add_lit, Nat.zero_add]; exact hR.cell j u hj) ad V.length c (cl V) (by rw [hz1]; exact cl_length V) hsrc (by omega) (by unfold maxLen at h63; omega) (growslice_fits (by omega) (by rw [hz2]; exact hbytes))
      rw [this] at hr
      injection hr with e1 e2
      subst e1 e2
      exact .inr ⟨rfl, grown_drew_alloc w _⟩

theorem grown_self (w : World) (row : Option Nat) : w.grownBy w row := ⟨rfl, rfl, rfl, Nat.le_refl _, fun _ _ _ => rfl⟩

theorem grown_trans {a b c : World} {r : Option Nat} (h : a.grownBy b r) (h2 : b.grownBy c none) : a.grownBy c r :=
  ⟨h2.os.trans h.os, h2.tape.trans h.tape, h2.output.trans h.output, Nat.le_trans h.size h2.size, fun k hk hr => (h2.block k (Nat.lt_of_lt_of_le hk h.size) (by simp)).trans (h.block k hk hr)⟩
theorem grown_alloc (w : World) (o : Obj) : w.grownBy (w.alloc o) none := World.grownBy_alloc w o none
theorem grown_drewN (w : World) (q : Nat) : w.grownBy (w.drewN q) none := ⟨rfl, rfl, rfl, Nat.le_refl _, fun _ _ _ => rfl⟩

theorem cell_grown_none {w w' : World} (h : w.grownBy w' none) {a : Addr} {v : Value} (hc : w.cell? a = some v) : w'.cell? a = some v := by
  rw [World.cell?_of_block (w := w) (w' := w') (h.block _ (World.block_lt_of_cell? _ _ hc) (by simp))]; exact hc

theorem heap_some_lt {w : World} {k : Nat} {o : Obj} (h : w.heap[k]? = some o) : k < w.heap.size := by
  rcases Nat.lt_or_ge k w.heap.size with h1 | h1
  · exact h1
  · rw [Array.getElem?_eq_none h1] at h; cases h

theorem Row.keep {w w' : World} {v : Value} {L : List Sp} (h : Row w v L) (hg : w.grownBy w' none) : Row w' v L := by
  refine ⟨h.1, ?_⟩
  rcases h.2 with h1 | ⟨g, c, cur, h1, h2, h3, h4⟩
  · exact .inl h1
  · exact .inr ⟨g, c, cur, h1, h2, by rw [hg.block g (heap_some_lt h3) (by simp)]; exact h3, h4⟩
theorem Row.keepBut {w w' : World} {v : Value} {L : List Sp} {r : Option Nat} (h : Row w v L) (hg : w.grownBy w' r) (hr : v.ownBlock = none ∨ v.ownBlock ≠ r) : Row w' v L := by
  refine ⟨h.1, ?_⟩
  rcases h.2 with h1 | ⟨g, c, cur, h1, h2, h3, h4⟩
  · exact .inl h1
  · refine .inr ⟨g, c, cur, h1, h2, ?_, h4⟩
    subst h1
    rw [hg.block g (heap_some_lt h3) (fun e => by rcases hr with hr | hr; cases hr; exact hr e)]
    exact h3
theorem Row.shape {w : World} {v : Value} {L : List Sp} (h : Row w v L) : ∃ a c, v = .slice a L.length c ∧ (L = [] ∨ ∃ g, a = some ⟨g, 0, none⟩ ∧ ∀ i, i < L.length → w.cell? ⟨g, i * 2, none⟩ = some (.int .u64 (L.getD i (0, 0)).1) ∧ w.cell? ⟨g, i * 2 + 1, none⟩ = some (.int .u64 (L.getD i (0, 0)).2)) ∧ c ≤ maxLen ∧ L.length ≤ c := by
  rcases Row.at h with ⟨rfl, rfl⟩ | ⟨g, c, sp, rfl, hR⟩
  · exact ⟨none, 0, rfl, .inl rfl, by simp [maxLen], Nat.le_refl _⟩
  · exact ⟨_, c, rfl, .inr ⟨g, rfl, fun i hi => ⟨hR.cell _ _ (cl_lo L i hi), hR.cell _ _ (cl_hi L i hi)⟩⟩, hR.2.2, by have := hR.2.1; omega⟩

/-- A row that was not there. -/
def Fresh (w : World) (v : Value) : Prop := ∀ k, v.ownBlock = some k → w.heap.size ≤ k

theorem grown_fresh {w w1 w' : World} {r : Option Nat} (hg : w.grownBy w1 none) (h : w1.grownBy w' r) (hr : ∀ k, r = some k → w.heap.size ≤ k) : w.grownBy w' none :=
  ⟨h.os.trans hg.os, h.tape.trans hg.tape, h.output.trans hg.output, Nat.le_trans hg.size h.size, fun k hk _ => by
    rw [h.block k (Nat.lt_of_lt_of_le hk hg.size) (fun e => by have := hr k e.symm; omega)]
    exact hg.block k hk (by simp)⟩

theorem Moved.fresh {w w1 w' : World} {v v' : Value} (hg : w.grownBy w1 none) (hf : Fresh w v) (hm : Moved w1 w' v v') : w.grownBy w' none ∧ Fresh w v' := by
  rcases hm with ⟨h1, h2⟩ | ⟨h1, h2, h3⟩
  · exact ⟨grown_fresh hg h2 hf, fun k hk => hf k (by rw [← h1]; exact hk)⟩
  · refine ⟨grown_trans hg h2, fun k hk => ?_⟩
    rw [h1] at hk
    injection hk with hk
    have := hg.size
    omega

theorem row_nil (w : World) : Row w (.slice none 0 0) [] := ⟨rfl, .inl ⟨rfl, rfl⟩⟩
theorem fresh_nil (w : World) : Fresh w (.slice none 0 0) := fun k hk => by cases hk

/-- One span more: it lies in a block of its own, the last one. -/
theorem app_one (W : World) (lv : Value) (H : List Sp) (x y : Int) (ty : TypeId) (hrow : Row W lv H) (hb : H.length ≤ 8000000000009) :
    ∃ v' w', (Builtin.append_ #[26, 26] ty #[lv, .slice (some ⟨W.heap.size, 0, none⟩) 1 1]).run Try.prog (W.alloc (.cells #[.int .u64 x, .int .u64 y] 96)) = .ok v' w' ∧ Row w' v' (H ++ [(x, y)]) ∧ Moved (W.alloc (.cells #[.int .u64 x, .int .u64 y] 96)) w' lv v' ∧ v' ≠ .slice none 0 0 := by
  refine app2 (W.alloc _) lv H [(x, y)] ty (hrow.keep (grown_alloc _ _)) ⟨W.heap.size, 0, none⟩ 1 ?_ (by simp) (by simp; omega)
  intro j u hj
  rw [Addr.add_lit, Nat.zero_add]
  unfold World.cell?
  simp only [heap_alloc_new]
  simpa [cl] using hj

theorem box2 {w : World} {k : Nat} {x y : Value} {t : TypeId} (h : w.heap[k]? = some (.cells #[x, y] t)) : w.cell? ⟨k, 0, none⟩ = some x ∧ w.cell? ⟨k, 1, none⟩ = some y := by simp [World.cell?, h]
end Go.Proofs.Ytcojhjnledeciaa.Kr
