/- awake. -/
import Derived.Test.YtggjeamondampabF1B
import Derived.Test.YtggjeamondampabF1A
import Derived.Test.YtggjeamondampabF1I
import Derived.Lib.SlBytesConst
import Derived.Laws.IdiomStrings
import Derived.Laws.BytesArg
namespace Go.Proofs.Ytggjeamondampab
open Go.RowKit
set_option linter.unusedVariables false
set_option maxRecDepth 100000
set_option maxHeartbeats 2000000

def fA : Fr := ⟨6, 0, 300, [97, 98, 99], 0, false, false, 0, false, 0, false, 0, [], false, 0, 0, 0⟩
def bA : List Int := [6, 65, 44, 3, 97, 98, 99]
theorem enc_A : encF fA = (bA, 0) := by kernel_rfl
def fB : Fr := ⟨2, 0, 0, [], 0, false, false, 0, false, 0, false, 0, [(5, 5), (0, 0)], false, 0, 0, 0⟩
theorem dec_B : decF [2, 5, 0, 1, 0, 3, 0] = .inl (fB, []) := by kernel_rfl

theorem conv_rd (w : World) (a : Option Addr) (l : List Int) (n cap : Nat) (hn : l.length = n) (hr : Rd w a l) :
    (convert 22 9 (.slice a n cap)).run Try.prog w = .ok (.string (strOfNums l)) w := by
  subst hn
  by_cases h : l = []
  · subst h
    rw [run_convert_bytes_string w 22 9 5 _ _ cap Try.underlying22 Try.underlying5 Try.underlying9]
    cases a <;> simp [Conv.bytesToString, loadCells]
    all_goals rfl
  · obtain ⟨b, off, rfl, hc⟩ := hr.2 h
    exact run_convert_bytes_arg w 22 5 Try.underlying22 Try.underlying5 b off _ cap l rfl hc 9 Try.underlying9
theorem str_toList (l : List Int) : (strOfNums l).toList = l.map fun n => UInt8.ofNat n.toNat := by
  rw [ByteArray.toList_eq]
  rfl
theorem InS.mark (w : World) (l : List Int) (n : Nat) (fr : Nat × Nat) (hn : l.length = n) (hm : n ≤ maxLen) (hb : ∀ x ∈ l, IsB x) : InS (w.alloc (.cells (l.map (Value.int .u8)).toArray 5 fr)) (.slice (some ⟨w.heap.size, 0, none⟩) n n) l := by
  subst hn
  refine ⟨_, _, rfl, ⟨hb, fun _ => ⟨_, _, rfl, fun i hi => ?_⟩⟩, Nat.le_refl _, hm, fun x e _ => ?_⟩
  · rw [Nat.zero_add, World.cell?_alloc_mark]
    simp [List.getD, hi]
  · cases e
    exact ⟨by show _ < (w.heap.push _).size; simp, _, _, rfl⟩
theorem InS.keep {w W : World} {v : Value} {l : List Int} (h : InS w v l) (g : w.grownBy W none) : InS W v l := by
  obtain ⟨a, c, e, h1, h2, h3, h4⟩ := h.ex
  exact ⟨a, c, e, h1.grow g, h2, h3, fun x hx hc => ⟨Nat.lt_of_lt_of_le (h4 x hx hc).1 g.size, (h4 x hx hc).2⟩⟩
theorem OwnB.inS {base : Nat} {w : World} {v : Value} {T : List Int} (h : OwnB base w v T) (hb : ∀ x ∈ T, IsB x) : InS w v T := by
  obtain ⟨a, c, e, h1, h2, h3⟩ := h.rd hb
  rcases h.2 with ⟨e1, e2⟩ | ⟨g, c', cur, e1, q1, q2, q3, q4, q5, q6⟩
  · rw [e1] at e
    injection e with ea eb ec
    exact ⟨none, 0, by rw [e1, e2], by rw [ea]; exact h1, by omega, by unfold maxLen; omega, fun x hx => by cases hx⟩
  · rw [e1] at e
    injection e with ea eb ec
    subst ea ec
    exact ⟨_, c', e1, h1, q3, q4, fun x hx _ => by cases hx; exact ⟨(Array.getElem?_eq_some_iff.1 q2).1, _, _, rfl⟩⟩

theorem awake_any (w : World) : Calls Try.prog 8 #[] w fun e w' => e = .returned (.bool true) ∧ w.grownBy w' none := by
  have cA := Lib.run_convert_bytes_const (P := Try.prog) w 22 5 #[.int .u8 97, .int .u8 98, .int .u8 99] 3 3 Try.underlying22 Try.underlying5
  have i1 : InS (w.alloc (.cells #[.int .u8 97, .int .u8 98, .int .u8 99] 5 (3, 4))) (.slice (some ⟨w.heap.size, 0, none⟩) 3 3) [97, 98, 99] := InS.mark w [97, 98, 99] 3 (3, 4) rfl (by unfold maxLen; omega) (by simp [IsB])
  have g1 := (World.grownBy_alloc w (.cells #[.int .u8 97, .int .u8 98, .int .u8 99] 5 (3, 4)) none).trans (World.grownBy_alloc _ (.cells (fA.cs (.slice (some ⟨w.heap.size, 0, none⟩) 3 3) nilS) 26) none)
  have i2 := i1.keep (World.grownBy_alloc _ (.cells (fA.cs (.slice (some ⟨w.heap.size, 0, none⟩) 3 3) nilS) 26) none)
  have t1 : TS ((w.alloc (.cells #[.int .u8 97, .int .u8 98, .int .u8 99] 5 (3, 4))).alloc (.cells (fA.cs (.slice (some ⟨w.heap.size, 0, none⟩) 3 3) nilS) 26)) (.slice (some ⟨w.heap.size, 0, none⟩) 3 3) fA.data := by
    obtain ⟨a, c, e, h1, h2, h3, -⟩ := i2.ex
    exact ⟨a, c, e, h1, h2, by unfold maxLen at h3; omega⟩
  have f1 : FrIn ((w.alloc (.cells #[.int .u8 97, .int .u8 98, .int .u8 99] 5 (3, 4))).alloc (.cells (fA.cs (.slice (some ⟨w.heap.size, 0, none⟩) 3 3) nilS) 26)) fA (.slice (some ⟨w.heap.size, 0, none⟩) 3 3) nilS :=
    ⟨⟨_, _, rfl, by decide, by decide⟩, ⟨_, _, rfl, fun h => absurd rfl h, by decide, by decide⟩, fun s hs => by cases hs⟩
  have en := encode_any fA _ _ _ f1 t1 (by decide) (by decide) (by decide)
  rw [enc_A] at en
  have G1 := hide g1
  clear g1 i1 i2 t1 f1
  go_enter Try.func8, Try.ntmps8
  have bF0 := Blk.new (w.alloc (.cells #[.int .u8 97, .int .u8 98, .int .u8 99] 5 (3, 4))) (fA.cs (.slice (some ⟨w.heap.size, 0, none⟩) 3 3) nilS) 26
  have es1 : (w.alloc (.cells #[.int .u8 97, .int .u8 98, .int .u8 99] 5 (3, 4))).heap.size = w.heap.size + 1 := by show (w.heap.push _).size = _; simp
  rw [es1] at bF0
  go_upto_region 2 with (refine wpList_store_new _ Z17 (fA.cs (.slice (some ⟨w.heap.size, 0, none⟩) 3 3) nilS) (w.heap.size + 1) rfl _ _ _ rfl es1 rfl rfl Try.size26 rfl (one17 fA _ _ rfl rfl) ?_)
  go_wp2_with (refine wpList_load_row rfl _ _ rfl (w.heap.size + 1) rfl 26 (fA.cs (.slice (some ⟨w.heap.size, 0, none⟩) 3 3) nilS) (0, 0) _ bF0 Try.underlying26 rfl Try.size26 ?_)
  refine en.mono ?_
  rintro e W3 ⟨v, rfl, o3, g3⟩
  have bb : ∀ x ∈ bA, IsB x := by simp [bA, IsB]
  obtain ⟨a, c, rfl, rd3, -, -⟩ := o3.rd bb
  have hlA : bA.length = 7 := rfl
  rw [hlA]
  have cB := Lib.run_convert_bytes_const (P := Try.prog) W3 22 5 #[.int .u8 2, .int .u8 5, .int .u8 0, .int .u8 1, .int .u8 0, .int .u8 3, .int .u8 0] 7 7 Try.underlying22 Try.underlying5
  have j1 : InS (W3.alloc (.cells #[.int .u8 2, .int .u8 5, .int .u8 0, .int .u8 1, .int .u8 0, .int .u8 3, .int .u8 0] 5 (7, 8))) (.slice (some ⟨W3.heap.size, 0, none⟩) 7 7) [2, 5, 0, 1, 0, 3, 0] := InS.mark W3 [2, 5, 0, 1, 0, 3, 0] 7 (7, 8) rfl (by unfold maxLen; omega) (by simp [IsB])
  have de := decode_in (k := 0) j1 (by simp) (by simp)
  have g4 := World.grownBy_alloc W3 (.cells #[.int .u8 2, .int .u8 5, .int .u8 0, .int .u8 1, .int .u8 0, .int .u8 3, .int .u8 0] 5 (7, 8)) none
  have G4 := hide (((unhide G1).trans g3).trans g4)
  have R4 := hide (rd3.grow g4)
  clear en cA o3 g3 rd3 j1 g4 G1
  go_wp2_with fail
  refine de.mono ?_
  rintro e W5 (⟨f', l1, d', r', h1, rfl, o1, o2, g5⟩ | ⟨e', h1, -⟩)
  case inr => rw [List.drop_zero, dec_B] at h1; cases h1
  rw [List.drop_zero, dec_B] at h1
  cases h1
  obtain ⟨pa, pc, rfl, rr, rl1, rl2⟩ := o2.rd
  obtain ⟨qa, qc, rfl⟩ := o1.shape
  have g6 := World.grownBy_alloc W5 (.cells (fB.cs (.slice qa fB.data.length qc) (.slice pa fB.runs.length pc)) 26) none
  have g7 := World.grownBy_alloc (W5.alloc (.cells (fB.cs (.slice qa fB.data.length qc) (.slice pa fB.runs.length pc)) 26)) (.cells #[.int .i64 5, .int .i64 5, .int .i64 0, .int .i64 0] 57) none
  have r2 : RdR ((W5.alloc (.cells (fB.cs (.slice qa fB.data.length qc) (.slice pa fB.runs.length pc)) 26)).alloc (.cells #[.int .i64 5, .int .i64 5, .int .i64 0, .int .i64 0] 57)) (some ⟨(W5.alloc (.cells (fB.cs (.slice qa fB.data.length qc) (.slice pa fB.runs.length pc)) 26)).heap.size, 0, none⟩) fB.runs := fun _ => ⟨_, 0, rfl, fun i hi => by
    have B := Blk.new (W5.alloc (.cells (fB.cs (.slice qa fB.data.length qc) (.slice pa fB.runs.length pc)) 26)) #[.int .i64 5, .int .i64 5, .int .i64 0, .int .i64 0] 57
    match i, hi with
    | 0, _ => exact ⟨B.cell 0 _ rfl, B.cell 1 _ rfl⟩
    | 1, _ => exact ⟨B.cell 2 _ rfl, B.cell 3 _ rfl⟩⟩
  have sr := sameRuns_any pa _ 2 pc 2 fB.runs fB.runs _ rfl rfl (rr.grow (g6.trans g7)) r2 ⟨rl1, rl2⟩ (by omega)
  have esz : (W5.alloc (.cells (fB.cs (.slice qa fB.data.length qc) (.slice pa fB.runs.length pc)) 26)).heap.size = W5.heap.size + 1 := by show (W5.heap.push _).size = _; simp
  rw [esz] at sr
  simp only [decide_true] at sr
  have bF := (Blk.new W5 (fB.cs (.slice qa fB.data.length qc) (.slice pa fB.runs.length pc)) 26).grown g7
  have HF := hide (And.intro bF (And.intro ((unhide G4).trans (g5.trans (g6.trans g7))) ((unhide R4).grow (g5.trans (g6.trans g7)))))
  clear de cB o1 o2 rr g6 g7 r2 esz bF G4 R4 g5 rl1 rl2
  have hl2 : fB.runs.length = 2 := rfl
  have hl0 : fB.data.length = 0 := rfl
  rw [hl2, hl0] at sr HF ⊢
  go_upto_region 4 with (refine wpList_store_new _ Z17 (fB.cs (.slice qa 0 qc) (.slice pa 2 pc)) W5.heap.size rfl _ _ _ rfl rfl rfl rfl Try.size26 rfl (one17 fB _ _ rfl rfl) ?_)
  have c12 := (Blk.new W5 (fB.cs (.slice qa 0 qc) (.slice pa 2 pc)) 26).cell 12 (.slice pa 2 pc) rfl
  go_wp2_with fail
  refine sr.mono ?_
  rintro e W8 ⟨rfl, g8⟩
  obtain ⟨bF, gF, rF⟩ := unhide HF
  have k0 := (bF.grown g8).cell 0 (.int .i64 2) rfl
  have cv := conv_rd W8 a bA 7 c rfl (rF.grow g8)
  have hs1 : ((strOfNums bA).toList == [6, 65, 44, 3, 97, 98, 99]) = true := by rw [str_toList]; decide
  have G := hide (gF.trans g8)
  clear sr HF bF gF rF g8
  go_wp2
  go_ret
  exact ⟨rfl, unhide G⟩
end Go.Proofs.Ytggjeamondampab
