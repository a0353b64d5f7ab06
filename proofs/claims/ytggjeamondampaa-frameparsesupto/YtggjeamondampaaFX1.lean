/- Numbers that a call collects; appendRuns. -/
import Derived.Test.YtggjeamondampaaFS
import Derived.Test.YtggjeamondampaaFW
import Derived.Test.YtggjeamondampaaFN
import Derived.Deep.RegionHeld3
namespace Go.Proofs.Ytggjeamondampaa
open Go.RowKit
set_option linter.unusedVariables false
set_option maxRecDepth 100000
set_option maxHeartbeats 4000000

def OwnI (base : Nat) (w : World) (v : Value) (T : List Int) : Prop := w.ownsRow base 2 1 v T.length (T.map (Value.int .i64))
theorem OwnI.at {base : Nat} {w : World} {v : Value} {T : List Int} (h : OwnI base w v T) : ∃ a c, v = .slice a T.length c ∧ T.length ≤ c ∧ c ≤ 9223372036854775807 ∧ RdI w a T := by
  rcases h.2 with ⟨e1, e2⟩ | ⟨g, c', cur, e1, q1, q2, q3, q4, q5, q6⟩
  · exact ⟨none, 0, by rw [e1, e2], by omega, by omega, fun hne => absurd (List.length_eq_zero_iff.1 e2) hne⟩
  · unfold maxLen at q4
    refine ⟨_, c', e1, q3, by omega, fun _ => ⟨g, 0, rfl, fun j hj => ?_⟩⟩
    rw [Nat.zero_add]
    unfold World.cell?
    rw [q2]
    have h1 : (cur.toList.take (T.length * 1))[j]? = (T.map (Value.int .i64))[j]? := by rw [q6]
    rw [List.getElem?_take, if_pos (by omega), Array.getElem?_toList] at h1
    simp only
    rw [h1]
    simp [List.getD, hj]
theorem OwnI.keep {base : Nat} {w w' : World} {v : Value} {T : List Int} (h : OwnI base w v T) (g : w.grownBy w' none) : OwnI base w' v T := by
  refine ⟨h.1, ?_⟩
  rcases h.2 with h2 | ⟨b, c, cur, e1, q1, q2, q3⟩
  · exact .inl h2
  · exact .inr ⟨b, c, cur, e1, q1, (g.block b (Array.getElem?_eq_some_iff.1 q2).1 (by simp)).trans q2, q3⟩
theorem OwnI.own {base : Nat} {w : World} {v : Value} {T : List Int} (h : OwnI base w v T) : ∀ k, v.ownBlock = some k → base ≤ k := fun k hk => by
  rcases h.2 with ⟨rfl, -⟩ | ⟨b, c, cur, rfl, q1, -⟩
  · cases hk
  · injection hk with hk; exact hk ▸ q1
theorem Try.infoE2 : (Try.prog.info? 2).map (fun i => (i.zero, i.size, i.bytes)) = some (some (.int .i64 0), 1, 8) := by kernel_rfl
theorem grown_own {w w1 w' : World} {r : Option Nat} (hg : w.grownBy w1 none) (h : w1.grownBy w' r) (hr : ∀ k, r = some k → w.heap.size ≤ k) : w.grownBy w' none :=
  ⟨h.os.trans hg.os, h.tape.trans hg.tape, h.output.trans hg.output, Nat.le_trans hg.size h.size, fun k hk _ => by
    rw [h.block k (Nat.lt_of_lt_of_le hk hg.size) (fun e => by have := hr k e.symm; omega)]
    exact hg.block k hk (by simp)⟩

/-- Blocks that hold no plain numbers are kept. -/
def KO (W W' : World) : Prop := ∀ (g : Nat) (cs : Array Value) (t : TypeId), t ≠ 2 → W.heap[g]? = some (Obj.cells cs t (0, 0)) → W'.heap[g]? = some (Obj.cells cs t (0, 0))
theorem KO.refl (W : World) : KO W W := fun _ _ _ _ h => h
theorem KO.trans {A B C : World} (h : KO A B) (k : KO B C) : KO A C := fun g cs t ht hg => k g cs t ht (h g cs t ht hg)
theorem KO.grown {A B : World} (h : A.grownBy B none) : KO A B := fun g cs t _ hg => (h.block g (Array.getElem?_eq_some_iff.1 hg).1 (by simp)).trans hg
theorem OwnI.ko {base : Nat} {W W' : World} {v : Value} {T : List Int} (h : OwnI base W v T) (g : W.grownBy W' v.ownBlock) : KO W W' := fun k cs t ht hk => by
  refine (g.block k (Array.getElem?_eq_some_iff.1 hk).1 (fun e => ?_)).trans hk
  rcases h.2 with ⟨rfl, -⟩ | ⟨b, c, cur, rfl, q1, q2, -⟩
  · cases e
  · injection e with e
    rw [e, q2] at hk
    injection hk with hk
    injection hk with _ h2
    exact ht h2.symm

/-- More numbers, from wherever they lie. -/
theorem app_ints {w0 W : World} {v : Value} {T xs : List Int} (ad : Addr) (n c : Nat) (h : OwnI w0.heap.size W v T) (hg : w0.grownBy W none) (hn : xs.length = n) (hpos : 0 < n) (hsrc : ∀ j x, xs[j]? = some x → W.cell? (ad.add j) = some (.int .i64 x)) (hb : (T.length + n) * 8 ≤ 140737488355328) :
    ∃ a' c' W', (∀ ty, (Builtin.append_ #[87, 87] ty #[v, .slice (some ad) n c]).run Try.prog W = .ok (.slice a' (T.length + n) c') W') ∧ OwnI w0.heap.size W' (.slice a' (T.length + n) c') (T ++ xs) ∧ w0.grownBy W' none ∧ W.grownBy W' v.ownBlock := by
  subst hn
  obtain ⟨i, hi, hz0, hz1, hz2⟩ := info_parts Try.infoE2
  obtain ⟨v', W', hr, ho, hgr, hnil⟩ := run_append_own (P := Try.prog) W w0.heap.size 87 87 2 i _ 1 8 Try.underlying87 hi hz0 hz1 hz2 rfl (by decide) v T.length (T.map (Value.int .i64)) h ad xs.length c (xs.map (Value.int .i64)) (by simp) (fun j u hj => by
    rw [List.getElem?_map] at hj
    cases hx : xs[j]? with
    | none => rw [hx] at hj; simp at hj
    | some x => rw [hx] at hj; simp at hj; rw [← hj]; exact hsrc j x hx) (by simp [Value.oneCell']) (by unfold maxLen; omega) hb hg.size
  have e : T.map (Value.int .i64) ++ xs.map (Value.int .i64) = (T ++ xs).map (Value.int .i64) := by simp
  have e2 : (T ++ xs).length = T.length + xs.length := by simp
  rw [e] at ho
  have ho' : OwnI w0.heap.size W' v' (T ++ xs) := by unfold OwnI; rw [e2]; exact ho
  obtain ⟨a', c', rfl⟩ : ∃ a' c', v' = .slice a' (T.length + xs.length) c' := by
    rcases ho.2 with ⟨e1, e2⟩ | ⟨g', c', cur, e1, -⟩
    · omega
    · exact ⟨_, _, e1⟩
  exact ⟨a', c', W', fun _ => hr, ho', grown_own hg hgr h.own, hgr⟩

/-- One number, in a block of its own. -/
theorem app_int1 {w0 W : World} {v : Value} {T : List Int} (x : Int) (h : OwnI w0.heap.size W v T) (hg : w0.grownBy W none) (hb : (T.length + 1) * 8 ≤ 140737488355328) :
    ∃ a' c' W', (∀ ty, (Builtin.append_ #[87, 87] ty #[v, .slice (some ⟨W.heap.size, 0, none⟩) 1 1]).run Try.prog (W.alloc (.cells #[.int .i64 x] 2)) = .ok (.slice a' (T.length + 1) c') W') ∧ OwnI w0.heap.size W' (.slice a' (T.length + 1) c') (T ++ [x]) ∧ w0.grownBy W' none ∧ (W.alloc (.cells #[.int .i64 x] 2)).grownBy W' v.ownBlock := by
  have gA := World.grownBy_alloc W (.cells #[.int .i64 x] 2) none
  refine app_ints (xs := [x]) ⟨W.heap.size, 0, none⟩ 1 1 (h.keep gA) (hg.trans gA) rfl (by omega) (fun j y hj => ?_) hb
  match j, hj with
  | 0, hj =>
    cases hj
    have := heap_alloc_new W (.cells #[.int .i64 x] 2)
    rw [addr_add]
    unfold World.cell?
    rw [this]
    rfl

/-- Lengths and gaps of the first runs. -/
def gapK : List (Int × Int) → List Int
  | [] => []
  | r :: l => (r.2 - r.1) :: gapsF r.1 l

theorem gaps_snoc (lo : Int) (l : List (Int × Int)) (r : Int × Int) : gapsF lo (l ++ [r]) = gapsF lo l ++ [(l.getLastD (lo, 0)).1 - r.2 - 2, r.2 - r.1] := by
  induction l generalizing lo with
  | nil => simp [gapsF]
  | cons s l ih =>
    have e : ((s :: l).getLastD (lo, 0)).1 = (l.getLastD (s.1, 0)).1 := by
      cases l with
      | nil => rfl
      | cons t l => rfl
    rw [e]
    simp only [List.cons_append, gapsF, ih]

theorem gapK_step (L : List (Int × Int)) (k : Nat) (h : k < L.length) : gapK (L.take (k + 1)) = gapK (L.take k) ++ ((if 0 < k then [(L.getD (k - 1) (0, 0)).1 - (L.getD k (0, 0)).2 - 2] else []) ++ [(L.getD k (0, 0)).2 - (L.getD k (0, 0)).1]) := by
  have e : L.take (k + 1) = L.take k ++ [L.getD k (0, 0)] := by rw [List.take_add_one]; simp [List.getD, h]
  rw [e]
  cases k with
  | zero => simp [gapK, gapsF]
  | succ k =>
    rw [if_pos (by omega)]
    cases L with
    | nil => simp at h
    | cons s L =>
      simp only [List.take_succ_cons, List.cons_append, gapK]
      rw [gaps_snoc]
      have e2 : ((L.take k).getLastD (s.1, 0)).1 = ((s :: L).getD (k + 1 - 1) (0, 0)).1 := by
        rw [Nat.add_sub_cancel]
        have hl : k ≤ L.length := by simp at h; omega
        cases k with
        | zero => simp
        | succ k =>
          have hk : k < L.length := by omega
          have : L.take (k + 1) = L.take k ++ [L.getD k (0, 0)] := by rw [List.take_add_one]; simp [List.getD, hk]
          rw [this]
          simp [List.getLastD_eq_getLast?, List.getD]
      rw [e2]
      simp

theorem runsN_gapK (L : List (Int × Int)) (h : L ≠ []) : runsN L = ((L.length : Int) - 1) :: gapK L := by
  cases L with
  | nil => exact absurd rfl h
  | cons r l => simp [runsN, gapK]

theorem gapK_len (L : List (Int × Int)) (k : Nat) (h : k ≤ L.length) : (gapK (L.take k)).length ≤ 2 * k := by
  have hg : ∀ (l : List (Int × Int)) (lo : Int), (gapsF lo l).length = 2 * l.length := fun l => by
    induction l with
    | nil => intro lo; rfl
    | cons s l ih => intro lo; simp only [gapsF, List.length_cons, ih]; omega
  cases hq : L.take k with
  | nil => simp [gapK]
  | cons r l =>
    have : (L.take k).length = k := by simp; omega
    rw [hq] at this
    simp only [gapK, List.length_cons, hg] at this ⊢
    omega
end Go.Proofs.Ytggjeamondampaa
