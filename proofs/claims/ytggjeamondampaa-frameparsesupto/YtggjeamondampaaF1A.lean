/- Same, of frames that are the same. -/
import Derived.Test.YtggjeamondampaaFU
import Derived.Test.YtggjeamondampaaFV
import Derived.Test.YtggjeamondampaaFX6
namespace Go.Proofs.Ytggjeamondampaa
open Go.RowKit
set_option linter.unusedVariables false
set_option maxRecDepth 100000
set_option maxHeartbeats 4000000

/-- A frame whose lists can be read. -/
structure FrR (w : World) (f : Fr) (d r : Value) : Prop where
  data : ∃ a c, d = .slice a f.data.length c ∧ Rd w a f.data ∧ f.data.length ≤ c ∧ c ≤ 9223372036854775807
  runs : ∃ a c, r = .slice a f.runs.length c ∧ RdR w a f.runs ∧ f.runs.length ≤ c ∧ c ≤ 9223372036854775807
theorem RdR.grow {w W : World} {a : Option Addr} {L : List (Int × Int)} (h : RdR w a L) (g : w.grownBy W none) : RdR W a L := fun hne => by
  obtain ⟨b, off, e, hcs⟩ := h hne
  exact ⟨b, off, e, fun i hi => ⟨cell_grown (hcs i hi).1 g, cell_grown (hcs i hi).2 g⟩⟩
theorem FrR.keep {w W : World} {f : Fr} {d r : Value} (h : FrR w f d r) (g : w.grownBy W none) : FrR W f d r := by
  obtain ⟨a, c, e, h1, h2, h3⟩ := h.data
  obtain ⟨a', c', e', h1', h2', h3'⟩ := h.runs
  exact ⟨⟨a, c, e, h1.grow g, h2, h3⟩, ⟨a', c', e', h1'.grow g, h2', h3'⟩⟩
theorem FrR.of {w : World} {f : Fr} {d r : Value} (h : FrIn w f d r) (t : TS w d f.data) : FrR w f d r := ⟨t.ex, h.runs⟩
theorem OwnB.rd {base : Nat} {w : World} {v : Value} {T : List Int} (h : OwnB base w v T) (hb : ∀ x ∈ T, IsB x) : ∃ a c, v = .slice a T.length c ∧ Rd w a T ∧ T.length ≤ c ∧ c ≤ 9223372036854775807 := by
  rcases h.2 with ⟨e1, e2⟩ | ⟨g, c', cur, e1, q1, q2, q3, q4, q5, q6⟩
  · exact ⟨none, 0, by rw [e1, e2], ⟨hb, fun hne => absurd (List.length_eq_zero_iff.1 e2) hne⟩, by omega, by omega⟩
  · unfold maxLen at q4
    refine ⟨_, c', e1, ⟨hb, fun _ => ⟨g, 0, rfl, fun j hj => ?_⟩⟩, q3, by omega⟩
    rw [Nat.zero_add]
    unfold World.cell?
    rw [q2]
    have h1 : (cur.toList.take (T.length * 1))[j]? = (T.map (Value.int .u8))[j]? := by rw [q6]
    rw [List.getElem?_take, if_pos (by omega), Array.getElem?_toList] at h1
    simp only
    rw [h1]
    simp [List.getD, hj]
theorem clR_get (L : List (Int × Int)) (j : Nat) (hj : j < L.length) : (clR L)[j * 2]? = some (.int .i64 (L.getD j (0, 0)).1) ∧ (clR L)[j * 2 + 1]? = some (.int .i64 (L.getD j (0, 0)).2) := by
  induction L generalizing j with
  | nil => simp at hj
  | cons s L ih =>
    cases j with
    | zero => simp [clR]
    | succ j =>
      have := ih j (by simpa using hj)
      have e : clR (s :: L) = Value.int .i64 s.1 :: Value.int .i64 s.2 :: clR L := by simp [clR]
      rw [e, show (j + 1) * 2 = j * 2 + 2 by omega, show j * 2 + 2 + 1 = j * 2 + 1 + 2 by omega]
      simpa using this
theorem OwnR.rd {base : Nat} {w : World} {v : Value} {T : List (Int × Int)} (h : OwnR base w v T) : ∃ a c, v = .slice a T.length c ∧ RdR w a T ∧ T.length ≤ c ∧ c ≤ 9223372036854775807 := by
  rcases h.2 with ⟨e1, e2⟩ | ⟨g, c', cur, e1, q1, q2, q3, q4, q5, q6⟩
  · exact ⟨none, 0, by rw [e1, e2], fun hne => absurd (List.length_eq_zero_iff.1 e2) hne, by omega, by omega⟩
  · unfold maxLen at q4
    refine ⟨_, c', e1, fun _ => ⟨g, 0, rfl, fun j hj => ?_⟩, q3, by omega⟩
    have hc : ∀ m, m < T.length * 2 → w.cell? ⟨g, m, none⟩ = (clR T)[m]? := fun m hm => by
      unfold World.cell?
      rw [q2]
      have h1 : (cur.toList.take (T.length * 2))[m]? = (clR T)[m]? := by rw [q6]
      rw [List.getElem?_take, if_pos hm, Array.getElem?_toList] at h1
      exact h1
    obtain ⟨c0, c1⟩ := clR_get T j hj
    rw [Nat.zero_add, hc _ (by omega), hc _ (by omega)]
    exact ⟨c0, c1⟩
theorem FrR.own {base : Nat} {w : World} {f : Fr} {d r : Value} (h : OwnB base w d f.data) (hr : OwnR base w r f.runs) (hb : ∀ x ∈ f.data, IsB x) : FrR w f d r := ⟨h.rd hb, hr.rd⟩
theorem FrR.zero (w : World) : FrR w Fr.zero nilS nilS := ⟨⟨none, 0, rfl, ⟨by simp [Fr.zero], fun h => absurd rfl h⟩, Nat.le_refl _, by omega⟩, ⟨none, 0, rfl, fun h => absurd rfl h, Nat.le_refl _, by omega⟩⟩

theorem same_fr (f : Fr) (d r d' r' : Value) (w : World) (h : FrR w f d r) (h' : FrR w f d' r') :
    Calls Try.prog 25 #[f.val d r, f.val d' r'] w fun e w' => e = .returned (.bool true) ∧ w.grownBy w' none := by
  obtain ⟨a, c, rfl, h1, h2, h3⟩ := h.data
  obtain ⟨p, q, rfl, h4, h5, h6⟩ := h.runs
  obtain ⟨a', c', rfl, k1, k2, k3⟩ := h'.data
  obtain ⟨p', q', rfl, k4, k5, k6⟩ := h'.runs
  have S1 := hide (fun W (g : w.grownBy W none) => same_any a a' f.data.length c c' f.data f.data W rfl rfl (h1.grow g) (k1.grow g) ⟨h2, h3⟩ ⟨k2, k3⟩)
  have S2 := hide (fun W (g : w.grownBy W none) => sameRuns_any p p' f.runs.length q q' f.runs f.runs W rfl rfl (h4.grow g) (k4.grow g) ⟨h5, h6⟩ ⟨k5, k6⟩)
  simp only [decide_true] at S1 S2
  clear h h' h1 h2 h3 h4 h5 h6 k1 k2 k3 k4 k5 k6
  have gA := (World.grownBy_alloc w (.cells (f.cs (.slice a f.data.length c) (.slice p f.runs.length q)) 26) none).trans (World.grownBy_alloc _ (.cells (f.cs (.slice a' f.data.length c') (.slice p' f.runs.length q')) 26) none)
  have T1 := unhide S1 _ gA
  obtain ⟨B1, B2, -⟩ := Blk.two w (f.cs (.slice a f.data.length c) (.slice p f.runs.length q)) (f.cs (.slice a' f.data.length c') (.slice p' f.runs.length q')) 26 26
  have HB := hide (And.intro B1 (And.intro B2 gA))
  clear B1 B2 gA S1
  generalize f.data.length = n at *
  generalize f.runs.length = m at *
  go_enter Try.func25, Try.ntmps25
  go_wp2_with fail
  refine T1.mono ?_
  rintro e W1 ⟨rfl, g1⟩
  clear T1
  generalize (w.alloc _).alloc _ = W0 at *
  obtain ⟨B1, B2, gA⟩ := unhide HB
  have T2 := unhide S2 W1 (gA.trans g1)
  have B1' := B1.grown g1
  have B2' := B2.grown g1
  have x12 := B1'.cell 12 _ rfl
  have y12 := B2'.cell 12 _ rfl
  have HB' := hide (And.intro B1' (And.intro B2' (gA.trans g1)))
  clear HB B1 B2 gA g1 S2 B1' B2'
  go_wp2_with fail
  refine T2.mono ?_
  rintro e W2 ⟨rfl, g2⟩
  clear T2 x12 y12
  obtain ⟨B1, B2, gA⟩ := unhide HB'
  obtain ⟨x0, x1, x2, x3, x4, x5, x6, x7, x8, x9, x10, x11, x12, x13, x14, x15, x16⟩ := (B1.grown g2).cells
  obtain ⟨y0, y1, y2, y3, y4, y5, y6, y7, y8, y9, y10, y11, y12, y13, y14, y15, y16⟩ := (B2.grown g2).cells
  have G := hide (gA.trans g2)
  clear HB' B1 B2 gA g2
  go_wp2
  go_ret
  exact ⟨rfl, unhide G⟩
end Go.Proofs.Ytggjeamondampaa
