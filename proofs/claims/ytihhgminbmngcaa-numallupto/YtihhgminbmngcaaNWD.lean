import Derived.Test.YtihhgminbmngcaaG5V
import Derived.Laws.BytesArg
namespace Go.Proofs.Ytihhgminbmngcaa
open Go.RowKit
set_option linter.unusedVariables false
set_option maxRecDepth 100000

theorem rd_at {w : World} {g : Nat} {l : List Int} (h : w.heap[g]? = some (bts l)) (hb : ∀ x ∈ l, IsB x) : Rd w (some ⟨g, 0, none⟩) l := by
  refine ⟨hb, fun _ => ⟨g, 0, rfl, fun i hi => ?_⟩⟩
  unfold World.cell?
  rw [h]
  simp [bts, List.getD, hi]

theorem rd_drew {w : World} {a : Option Addr} {l : List Int} (h : Rd w a l) (n : Nat) : Rd (w.drewN n) a l := h

theorem conv_rd (w : World) (a : Option Addr) (l : List Int) (n cap : Nat) (hn : l.length = n) (hr : Rd w a l) :
    (convert 22 9 (.slice a n cap)).run Try.prog w = .ok (.string (strOfNums l)) w := by
  subst hn
  by_cases h : l = []
  · subst h
    rw [run_convert_bytes_string w 22 9 5 _ _ cap Try.underlying22 Try.underlying5 Try.underlying9]
    cases a <;> simp [Conv.bytesToString, loadCells]
    all_goals rfl
  · obtain ⟨b, off, rfl, hc⟩ := hr.2 h
    exact run_convert_bytes_arg w 22 5 Try.underlying22 Try.underlying5 b off _ cap l rfl hc 9 Try.underlying9

theorem str_toList (l : List Int) : (strOfNums l).toList = l.map fun n => UInt8.ofNat n.toNat := by
  rw [ByteArray.toList_eq]
  rfl

set_option maxHeartbeats 800000 in
theorem awake_any (w : World) :
    Calls Try.prog 4 #[] w fun e w' => e = .returned (.bool true) ∧ Below w.heap.size w w' := by
  go_enter Try.func4, Try.ntmps4
  go_wp2_with fail
  refine (put_ok 16384 _ (by decide) (by decide)).mono ?_
  rintro e w' ⟨rfl, rfl⟩
  have e1 : layF 16384 (sizeF 16384) = [128, 0, 64, 0] := by decide
  have e2 : sizeF 16384 = 4 := by decide
  rw [e1, e2]
  clear e1 e2
  go_wp2_with fail
  have hr : Rd ((w.alloc (bts [128, 0, 64, 0])).alloc (bts [156, 5, 16, 7])) (some ⟨w.heap.size + 1, 0, none⟩) [156, 5, 16, 7] := rd_at (by simpa using heap_alloc_new (w.alloc (bts [128, 0, 64, 0])) (bts [156, 5, 16, 7])) (by simp [IsB])
  refine (get_any (some ⟨w.heap.size + 1, 0, none⟩) [156, 5, 16, 7] 4 0 _ hr (by decide) (by decide)).mono ?_
  rintro e w' ⟨rfl, nq, rfl⟩
  clear hr
  have hcv := conv_rd (((w.alloc (bts [128, 0, 64, 0])).alloc (bts [156, 5, 16, 7])).drewN nq) (some ⟨w.heap.size, 0, none⟩) [128, 0, 64, 0] 4 4 rfl
    (rd_drew (rd_at (by rw [Below.heap_alloc _ _ _ (by simp)]; exact heap_alloc_new w (bts [128, 0, 64, 0])) (by simp [IsB])) nq)
  rw [show getF [156, 5, 16, 7] 0 = (470093831, 4, 0) by decide]
  have hs : ((strOfNums [128, 0, 64, 0]).toList == [128, 0, 64, 0]) = true := by rw [str_toList]; decide
  go_wp2
  go_ret
  exact ⟨rfl, bel_drewN (((Below.refl _ _).alloc (Nat.le_refl _) _).alloc (by simp) _) _⟩
end Go.Proofs.Ytihhgminbmngcaa
