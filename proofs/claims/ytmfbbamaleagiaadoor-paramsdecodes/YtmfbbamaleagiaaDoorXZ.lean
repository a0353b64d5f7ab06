/- awake. -/
import Derived.Test.YtmfbbamaleagiaaDoorXY
import Derived.Laws.BytesArg
import Derived.Lib.SlBytesConst
namespace Go.Proofs.YtmfbbamaleagiaaDoor
open Go.RowKit Go.Maps
set_option linter.unusedVariables false
set_option maxRecDepth 100000
set_option maxHeartbeats 1000000

theorem conv_rd (w : World) (a : Option Addr) (l : List Int) (n cap : Nat) (hn : l.length = n) (hr : Rd w a l) :
    (convert 31 9 (.slice a n cap)).run Tryd.prog w = .ok (.string (strOfNums l)) w := by
  subst hn
  by_cases h : l = []
  · subst h
    rw [run_convert_bytes_string w 31 9 5 _ _ cap Tryd.underlying31 Tryd.underlying5 Tryd.underlying9]
    cases a <;> simp [Conv.bytesToString, loadCells]
    all_goals rfl
  · obtain ⟨b, off, rfl, hc⟩ := hr.2 h
    exact run_convert_bytes_arg w 31 5 Tryd.underlying31 Tryd.underlying5 b off _ cap l rfl hc 9 Tryd.underlying9
theorem str_toList (l : List Int) : (strOfNums l).toList = l.map fun n => UInt8.ofNat n.toNat := by
  rw [ByteArray.toList_eq]
  rfl

def pA : Ps := ⟨0, 1000, 0, 0, 0, 0, 0, 0, 25000⟩
theorem pA_check : checkF pA = 0 := by decide
theorem pA_enc : encF pA = [4, 2, 67, 232, 10, 1, 0] := by decide
theorem pA_dec : dec [10, 1, 0, 4, 2, 67, 232] = (pA, 0) := by rfl

/-- What Encode leaves, where it may be. -/
theorem encode_ok (p : Ps) (w : World) (h : Tb w) (hc : checkF p = 0) : Calls Tryd.prog 16 #[.agg p.cs] w fun e w' => ∃ a c, e = .returned (.tuple #[.slice a (encF p).length c, .int .i64 0]) ∧ Rd w' a (encF p) ∧ OwnB w.heap.size w' (.slice a (encF p).length c) (encF p) ∧ w.grownBy w' none := by
  refine (encode_any p w h).mono ?_
  rintro e w' ⟨s, rfl, ho, hg⟩
  rw [if_pos hc] at ho
  rw [hc]
  have hb : ∀ k, k ≤ 9 → ∀ x ∈ encK p k, IsB x := by
    intro k
    induction k with
    | zero => intro _ x hx; cases hx
    | succ k ih =>
      intro hk x hx
      simp only [encK, List.mem_append] at hx
      rcases hx with hx | hx
      · exact ih (by omega) x hx
      · unfold partK at hx
        split at hx
        · cases hx
        · exact part_byte k (by omega) _ ((checkF_ok p).1 hc k (by omega)) x hx
  obtain ⟨a, c, rfl, hr⟩ := OwnB.rd ho (hb 9 (Nat.le_refl _))
  exact ⟨a, c, rfl, hr, ho, hg⟩

theorem dflt_cs : dflt.cs = #[.int .i64 0, .int .i64 0, .int .i64 0, .int .i64 0, .int .i64 0, .int .i64 0, .int .i64 0, .int .i64 3, .int .i64 25000] := rfl
theorem pA_cs : pA.cs = #[.int .i64 0, .int .i64 1000, .int .i64 0, .int .i64 0, .int .i64 0, .int .i64 0, .int .i64 0, .int .i64 0, .int .i64 25000] := rfl
theorem awake_any (w : World) (h : Tb w) : Calls Tryd.prog 9 #[] w fun e w' => e = .returned (.bool true) ∧ w.grownBy w' none := by
  have hd := default_any w h
  rw [dflt_cs] at hd
  have he := fun W hW => encode_ok pA W hW pA_check
  rw [pA_enc, pA_cs] at he
  go_enter Tryd.func9, Tryd.ntmps9
  go_wp2_with (first | (go_at_call 10; refine hd.mono ?_; rintro e W1 ⟨rfl, g1⟩) | (go_at_call 16; fail))
  refine (he _ ((h.grown g1).alloc _)).mono ?_
  rintro e W2 ⟨a, c, rfl, r2, o2, g2⟩
  clear he hd
  have cvS := Lib.run_convert_bytes_const (P := Tryd.prog) W2 31 5 #[.int .u8 10, .int .u8 1, .int .u8 0, .int .u8 4, .int .u8 2, .int .u8 67, .int .u8 232] 7 7 Tryd.underlying31 Tryd.underlying5
  have gB := World.grownBy_alloc W2 (.cells #[.int .u8 10, .int .u8 1, .int .u8 0, .int .u8 4, .int .u8 2, .int .u8 67, .int .u8 232] 5 (7, 8)) none
  have gT := (g1.trans (World.grownBy_alloc W1 (.cells pA.cs 23) none)).trans (g2.trans gB)
  have rB : Rd (W2.alloc (.cells #[.int .u8 10, .int .u8 1, .int .u8 0, .int .u8 4, .int .u8 2, .int .u8 67, .int .u8 232] 5 (7, 8))) (some ⟨W2.heap.size, 0, none⟩) [10, 1, 0, 4, 2, 67, 232] := by
    refine ⟨by simp [IsB], fun _ => ⟨_, 0, rfl, fun i hi => ?_⟩⟩
    have hb : (W2.alloc (.cells #[.int .u8 10, .int .u8 1, .int .u8 0, .int .u8 4, .int .u8 2, .int .u8 67, .int .u8 232] 5 (7, 8))).heap[W2.heap.size]? = some (.cells #[.int .u8 10, .int .u8 1, .int .u8 0, .int .u8 4, .int .u8 2, .int .u8 67, .int .u8 232] 5 (7, 8)) := heap_alloc_new W2 _
    unfold World.cell?
    simp only [hb, Nat.zero_add]
    have : i < 7 := hi
    obtain rfl | rfl | rfl | rfl | rfl | rfl | rfl : i = 0 ∨ i = 1 ∨ i = 2 ∨ i = 3 ∨ i = 4 ∨ i = 5 ∨ i = 6 := by omega
    all_goals rfl
  have de := decode_any (some ⟨W2.heap.size, 0, none⟩) [10, 1, 0, 4, 2, 67, 232] 7 _ (h.grown gT) rB (Nat.le_refl _) (by unfold maxLen; omega) (fun x e _ => by cases e; exact ⟨_, _, rfl⟩)
  rw [pA_dec] at de
  simp only [pA_cs] at de
  have B1 := ((Blk.new W1 pA.cs 23).grown g2).grown gB
  have r2' := rd_below r2 (grown_bel gB)
  go_wp2_with fail
  refine de.mono ?_
  rintro e W3 ⟨rfl, g3⟩
  have gF := hide ((gT.trans g3).trans (World.grownBy_alloc W3 (.cells pA.cs 23) none))
  have B3 := (B1.grown g3).alloc (.cells pA.cs 23)
  have r3 := rd_below (rd_below r2' (grown_bel g3)) (grown_bel (World.grownBy_alloc W3 (.cells pA.cs 23) none))
  rw [pA_cs] at B3 r3
  have cv := conv_rd _ a [4, 2, 67, 232, 10, 1, 0] 7 c rfl r3
  have hs1 : ((strOfNums [4, 2, 67, 232, 10, 1, 0]).toList == [4, 2, 67, 232, 10, 1, 0]) = true := by rw [str_toList]; decide
  have b0 := B3.cell 0 _ rfl
  have b1 := B3.cell 1 _ rfl
  have b2 := B3.cell 2 _ rfl
  have b3 := B3.cell 3 _ rfl
  have b4 := B3.cell 4 _ rfl
  have b5 := B3.cell 5 _ rfl
  have b6 := B3.cell 6 _ rfl
  have b7 := B3.cell 7 _ rfl
  have b8 := B3.cell 8 _ rfl
  simp only [List.getElem_toArray, List.getElem_cons_succ, List.getElem_cons_zero] at b0 b1 b2 b3 b4 b5 b6 b7 b8
  clear de B1 r2' r3 B3 g3 gT gB rB g1 g2 o2 r2 h cvS
  go_wp2
  go_ret
  exact ⟨rfl, unhide gF⟩
end Go.Proofs.YtmfbbamaleagiaaDoor
