/- Same of packets; awake. -/
import Derived.Test.YtnglgedcpmbbjaaK3
import Derived.Test.YtnglgedcpmbbjaaK2
namespace Go.Proofs.Ytnglgedcpmbbjaa
open Go.RowKit
set_option linter.unusedVariables false
set_option maxRecDepth 100000
set_option maxHeartbeats 1000000

theorem OwnB.inB {base : Nat} {w : World} {v : Value} {d : List Int} (h : OwnB base w v d) (hb : ∀ x ∈ d, IsB x) : InB w v d := by
  obtain ⟨a, c, rfl⟩ := h.shape
  have hr := h.rd hb
  rcases h.2 with ⟨e1, e2⟩ | ⟨g, cap, cur, e1, e2, e3, e4, e5, e6, e7⟩
  · simp only [Value.slice.injEq] at e1
    obtain ⟨rfl, -, rfl⟩ := e1
    exact ⟨none, 0, rfl, hr, by rw [e2]; exact Nat.le_refl _, Nat.zero_le _, fun x e _ => by cases e⟩
  · simp only [Value.slice.injEq] at e1
    obtain ⟨rfl, -, rfl⟩ := e1
    have hlt : g < w.heap.size := by
      by_cases c : g < w.heap.size
      · exact c
      · have : w.heap[g]? = none := by simp; omega
        rw [this] at e3; simp at e3
    exact ⟨_, _, rfl, hr, e4, e5, fun x e _ => by cases e; exact ⟨hlt, Nat.ne_of_lt hlt, _, _, rfl⟩⟩
theorem InB.bytes {w : World} {v : Value} {l : List Int} (h : InB w v l) : ∀ x ∈ l, IsB x := by
  obtain ⟨a, c, e, hr, -⟩ := h; exact hr.1

theorem sameB (v v' : Value) (A : List Int) (w : World) (h1 : InB w v A) (h2 : InB w v' A) : Calls Try.prog 26 #[v, v'] w fun e w' => e = .returned (.bool true) ∧ w.grownBy w' none := by
  obtain ⟨a, c, rfl, hr, q1, q2, -⟩ := h1
  obtain ⟨a', c', rfl, hr', q1', q2', -⟩ := h2
  unfold maxLen at q2 q2'
  exact (same_any a a' A.length c c' A A w rfl rfl hr hr' ⟨q1, by omega⟩ ⟨q1', by omega⟩).mono fun e w' ⟨he, g⟩ => ⟨by rw [he]; simp, g⟩

/-- The same packet. -/
theorem same05 (p : Pk) (d s y d' s' y' : Value) (w : World) (h1 : InB w d p.dst) (h2 : InB w s p.src) (h3 : InB w y p.payload) (h1' : InB w d' p.dst) (h2' : InB w s' p.src) (h3' : InB w y' p.payload) :
    Calls Try.prog 16 #[p.val d s y, p.val d' s' y'] w fun e w' => e = .returned (.bool true) ∧ w.grownBy w' none := by
  have s1 := fun W (g : w.grownBy W none) => sameB d d' p.dst W (h1.grown g) (h1'.grown g)
  have s2 := fun W (g : w.grownBy W none) => sameB s s' p.src W (h2.grown g) (h2'.grown g)
  have s3 := fun W (g : w.grownBy W none) => sameB y y' p.payload W (h3.grown g) (h3'.grown g)
  obtain ⟨a1, c1, rfl, -⟩ := h1
  obtain ⟨a2, c2, rfl, -⟩ := h2
  obtain ⟨a3, c3, rfl, -⟩ := h3
  obtain ⟨b1, e1, rfl, -⟩ := h1'
  obtain ⟨b2, e2, rfl, -⟩ := h2'
  obtain ⟨b3, e3, rfl, -⟩ := h3'
  obtain ⟨bA, bB, gA⟩ := Blk.two w (p.cs (.slice a1 p.dst.length c1) (.slice a2 p.src.length c2) (.slice a3 p.payload.length c3)) (p.cs (.slice b1 p.dst.length e1) (.slice b2 p.src.length e2) (.slice b3 p.payload.length e3)) 30 30
  go_enter Try.func16, Try.ntmps16
  go_wp2_with fail
  refine (s1 _ gA).mono ?_
  rintro e W1 ⟨rfl, g1⟩
  have x2 := (bA.grown g1).cell 2 _ rfl
  have y2 := (bB.grown g1).cell 2 _ rfl
  go_wp2_with fail
  refine (s2 _ (gA.trans g1)).mono ?_
  rintro e W2 ⟨rfl, g2⟩
  have x5 := ((bA.grown g1).grown g2).cell 5 _ rfl
  have y5 := ((bB.grown g1).grown g2).cell 5 _ rfl
  go_wp2_with fail
  refine (s3 _ ((gA.trans g1).trans g2)).mono ?_
  rintro e W3 ⟨rfl, g3⟩
  have bX := ((bA.grown g1).grown g2).grown g3
  have bY := ((bB.grown g1).grown g2).grown g3
  have z0 := bX.cell 0 _ rfl
  have z3 := bX.cell 3 _ rfl
  have z4 := bX.cell 4 _ rfl
  have w0 := bY.cell 0 _ rfl
  have w3 := bY.cell 3 _ rfl
  have w4 := bY.cell 4 _ rfl
  have G := hide (((gA.trans g1).trans g2).trans g3)
  have t0 : (p.space == p.space) = true := by simp
  have t3 : (p.number == p.number) = true := by simp
  have t4 : (p.width == p.width) = true := by simp
  clear bA bB gA g1 g2 g3 bX bY s1 s2 s3
  go_wp2_with fail
  go_ret
  exact ⟨rfl, unhide G⟩

end Go.Proofs.Ytnglgedcpmbbjaa
