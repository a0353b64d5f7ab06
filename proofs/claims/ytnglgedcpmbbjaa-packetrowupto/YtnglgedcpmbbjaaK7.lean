/- awake. -/
import Derived.Test.YtnglgedcpmbbjaaK4
import Derived.Test.YtnglgedcpmbbjaaK6
import Derived.Lib.SlBytesConst
import Derived.Laws.IdiomStrings
namespace Go.Proofs.Ytnglgedcpmbbjaa
open Go.RowKit
set_option linter.unusedVariables false
set_option maxRecDepth 100000
set_option maxHeartbeats 1000000

def pA : Pk := ⟨0, [1, 2], [3], 5, 1, [1]⟩
def bA : List Int := [192, 0, 0, 0, 1, 2, 1, 2, 1, 3, 0, 64, 2, 5, 1]
abbrev pB : Pk := ⟨2, [170], [], 9, 4, [30]⟩
theorem encE_A : encE pA = 0 := by decide
theorem bytes_A : bytesP pA = bA := by decide
theorem dec_B : decP [103, 170, 0, 0, 0, 9, 30] 0 1 (-1, -1, 3) = (pB, 7, 0) := by decide +kernel

theorem decode_in (v : Value) (l : List Int) (i n : Int) (G : Lg) (w : World) (h : InB w v l) (hb : l.length ≤ 140737488355328) :
    Calls Try.prog 9 #[v, .int .i64 i, .int .i64 n, G.v] w (DecPost w (decP l i n G)) := by
  obtain ⟨a, c, rfl, hr, h1, h2, h3⟩ := h
  exact decode_any a l c i n G w hr h1 h2 hb (fun x e hc => (h3 x e hc).1) (fun x e hc => (h3 x e hc).2.2)

theorem DecPost.parts {w : World} {r : Pk × Int × Int} {e : Ending} {w' : World} (h : DecPost w r e w') : ∃ a1 n1 c1 a2 n2 c2 a3 n3 c3, e = .returned (.tuple #[r.1.val (.slice a1 n1 c1) (.slice a2 n2 c2) (.slice a3 n3 c3), .int .i64 r.2.1, .int .i64 r.2.2]) ∧ OwnB w.heap.size w' (.slice a1 n1 c1) r.1.dst ∧ OwnB w.heap.size w' (.slice a2 n2 c2) r.1.src ∧ OwnB w.heap.size w' (.slice a3 n3 c3) r.1.payload ∧ w.grownBy w' none ∧ n1 = r.1.dst.length ∧ n2 = r.1.src.length ∧ n3 = r.1.payload.length := by
  obtain ⟨d, s, y, rfl, o1, o2, o3, gr⟩ := h
  obtain ⟨a1, c1, rfl⟩ := o1.shape
  obtain ⟨a2, c2, rfl⟩ := o2.shape
  obtain ⟨a3, c3, rfl⟩ := o3.shape
  exact ⟨_, _, _, _, _, _, _, _, _, rfl, o1, o2, o3, gr, rfl, rfl, rfl⟩

theorem InB.at {w : World} {l : List Int} {n k : Nat} (hk : w.heap.size = k) (hn : l.length = n) (hm : n ≤ maxLen) (hb : ∀ x ∈ l, IsB x) : InB (w.alloc (bts l)) (.slice (some ⟨k, 0, none⟩) n n) l := by
  subst hk; subst hn
  refine ⟨_, _, rfl, rd_at (heap_alloc_new w _) hb, Nat.le_refl _, hm, fun x e _ => ?_⟩
  cases e
  have : w.heap.size < (w.alloc (bts l)).heap.size := by rw [alloc_size]; omega
  exact ⟨this, Nat.ne_of_lt this, _, _, rfl⟩

theorem InB.mark (w : World) (l : List Int) (n : Nat) (fr : Nat × Nat) (hn : l.length = n) (hm : n ≤ maxLen) (hb : ∀ x ∈ l, IsB x) : InB (w.alloc (.cells (l.map (Value.int .u8)).toArray 5 fr)) (.slice (some ⟨w.heap.size, 0, none⟩) n n) l := by
  subst hn
  refine ⟨_, _, rfl, ⟨hb, fun _ => ⟨_, _, rfl, fun i hi => ?_⟩⟩, Nat.le_refl _, hm, fun x e _ => ?_⟩
  · rw [Nat.zero_add, World.cell?_alloc_mark]
    simp [List.getD, hi]
  · cases e
    have : w.heap.size < (w.alloc (.cells (l.map (Value.int .u8)).toArray 5 fr)).heap.size := by rw [alloc_size]; omega
    exact ⟨this, Nat.ne_of_lt this, _, _, rfl⟩

/-- The literal's block. -/
abbrev oB : Obj := .cells ([103, 170, 0, 0, 0, 9, 30].map (Value.int .u8)).toArray 5 (7, 8)

theorem awake_any (w : World) : Calls Try.prog 4 #[] w fun e w' => e = .returned (.bool true) ∧ w.grownBy w' none := by
  have i1 : InB (w.alloc (bts [1, 2])) (.slice (some ⟨w.heap.size, 0, none⟩) 2 2) [1, 2] := InB.at rfl rfl (small_le (by simp)) (by simp [IsB])
  have i2 : InB ((w.alloc (bts [1, 2])).alloc (bts [3])) (.slice (some ⟨w.heap.size + 1, 0, none⟩) 1 1) [3] := InB.at (alloc_size _ _) rfl (small_le (by simp)) (by simp [IsB])
  have i3 : InB (((w.alloc (bts [1, 2])).alloc (bts [3])).alloc (bts [1])) (.slice (some ⟨w.heap.size + 1 + 1, 0, none⟩) 1 1) [1] := InB.at (by rw [alloc_size, alloc_size]) rfl (small_le (by simp)) (by simp [IsB])
  have g1 := ((World.grownBy_alloc w (bts [1, 2]) none).trans (World.grownBy_alloc _ (bts [3]) none)).trans (World.grownBy_alloc _ (bts [1]) none)
  have en := encode_any pA _ _ _ _ ((i1.grown (World.grownBy_alloc _ (bts [3]) none)).grown (World.grownBy_alloc _ (bts [1]) none)) (i2.grown (World.grownBy_alloc _ (bts [1]) none)) i3 (by decide) (by decide) (by decide)
  go_enter Try.func4, Try.ntmps4
  go_wp2_with fail
  refine en.mono ?_
  rintro e W1 ⟨⟨h1, -⟩ | ⟨-, -, g, hg, rfl, hh⟩, g2⟩
  · exact absurd encE_A h1
  rw [bytes_A] at hh ⊢
  have hrd : Rd W1 (some ⟨g, 0, none⟩) bA := rd_at hh (by simp [bA, IsB])
  have hgl : g < W1.heap.size := by
    by_cases c : g < W1.heap.size
    · exact c
    · have : W1.heap[g]? = none := by simp; omega
      rw [this] at hh; simp at hh
  have hlA : bA.length = 15 := rfl
  rw [hlA]
  have j1 : InB (W1.alloc oB) (.slice (some ⟨W1.heap.size, 0, none⟩) 7 7) [103, 170, 0, 0, 0, 9, 30] := InB.mark W1 _ 7 (7, 8) rfl (small_le (by simp)) (by simp [IsB])
  have de := decode_in _ _ 0 1 (-1, -1, 3) _ j1 (by simp)
  rw [dec_B] at de
  have gA := (g1.trans g2).trans (World.grownBy_alloc W1 oB none)
  have cvS := Lib.run_convert_bytes_const (P := Try.prog) W1 24 5 #[.int .u8 103, .int .u8 170, .int .u8 0, .int .u8 0, .int .u8 0, .int .u8 9, .int .u8 30] 7 7 Try.underlying24 Try.underlying5
  clear en i1 i2 i3 g1 j1
  go_wp2_with fail
  refine de.mono ?_
  intro e W2 hd
  obtain ⟨a1, n1, c1, a2, n2, c2, a3, n3, c3, rfl, o1, o2, o3, g3, q1, q2, q3⟩ := hd.parts
  obtain rfl : n3 = 1 := q3
  have hrd2 : Rd W2 (some ⟨g, 0, none⟩) bA := (hrd.far (g := W1.heap.size) (grown_any (World.grownBy_alloc W1 oB none) _) (fun x e => by cases e; exact ⟨Nat.ne_of_lt hgl, hgl⟩)).far (g := (W1.alloc oB).heap.size) (grown_any g3 _) (fun x e => by cases e; rw [alloc_size]; exact ⟨Nat.ne_of_lt (Nat.lt_succ_of_lt hgl), Nat.lt_succ_of_lt hgl⟩)
  have gF := (gA.trans g3).trans (World.grownBy_alloc W2 (.cells (pB.cs (.slice a1 n1 c1) (.slice a2 n2 c2) (.slice a3 1 c3)) 30) none)
  have hrd3 : Rd (W2.alloc (.cells (pB.cs (.slice a1 n1 c1) (.slice a2 n2 c2) (.slice a3 1 c3)) 30)) (some ⟨g, 0, none⟩) bA := by
    have hl2 : g < W2.heap.size := by have := g3.size; rw [alloc_size] at this; omega
    exact hrd2.far (g := W2.heap.size) (grown_any (World.grownBy_alloc W2 _ none) _) (fun x e => by cases e; exact ⟨Nat.ne_of_lt hl2, hl2⟩)
  have o3' : InB W2 (.slice a3 1 c3) [30] := o3.inB (by simp [IsB])
  obtain ⟨a3', c3', e3, r3, -⟩ := o3'.grown (World.grownBy_alloc W2 (.cells (pB.cs (.slice a1 n1 c1) (.slice a2 n2 c2) (.slice a3 1 c3)) 30) none)
  simp only [Value.slice.injEq] at e3
  obtain ⟨rfl, -, rfl⟩ := e3
  have cv1 := conv_rd _ (some ⟨g, 0, none⟩) bA 15 15 rfl hrd3
  have cv2 := conv_rd _ a3 [30] 1 c3 rfl r3
  have hs1 : ((strOfNums bA).toList == [192, 0, 0, 0, 1, 2, 1, 2, 1, 3, 0, 64, 2, 5, 1]) = true := by rw [str_toList]; decide
  have hs2 : ((strOfNums [30]).toList == [30]) = true := by rw [str_toList]; decide
  clear hd hrd hrd2 hrd3 gA g3 o1 o2 o3 o3' r3 de hh
  clear q1 q2
  go_wp2
  go_ret
  exact ⟨rfl, gF⟩

end Go.Proofs.Ytnglgedcpmbbjaa
