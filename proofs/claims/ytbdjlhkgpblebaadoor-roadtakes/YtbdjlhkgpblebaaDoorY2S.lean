/- Road: pick, same, alike; lists behind one another. -/
import Derived.Test.YtbdjlhkgpblebaaDoorY2T
namespace Go.Proofs.YtbdjlhkgpblebaaDoor
open Go.RowKit Go.Shelf Go.Maps
set_option linter.unusedVariables false
set_option linter.unusedSimpArgs false
set_option maxRecDepth 100000
set_option maxHeartbeats 1000000

/-- Which of n things a raw number speaks of. -/
def pkR (c : Int) (n : Nat) : Nat := ((if c < 0 then -(c + 1) else c) % (n : Int)).toNat
theorem pickR (c : Int) (n : Nat) (hc : -9223372036854775808 ≤ c ∧ c ≤ 9223372036854775807) (hn : 0 < n ∧ n ≤ 4611686018427387904) (w : World) :
    Calls Tryd.prog 6 #[.int .i64 c, .int .i64 (n : Int)] w fun e w' => e = .returned (.int .i64 (pkR c n : Int)) ∧ w' = w := by
  have n0 : ((n : Int) == 0) = false := by simp; omega
  have n1 : ¬ (n : Int) = 0 := by omega
  have pos : 0 < (n : Int) := by omega
  have e0 : ((pkR c n : Nat) : Int) = (if c < 0 then -(c + 1) else c) % (n : Int) := by
    unfold pkR
    exact Int.toNat_of_nonneg (Int.emod_nonneg _ n1)
  rw [e0]
  by_cases h : c < 0
  · rw [if_pos h]
    have E : Hid (-(c + 1) % (n : Int) = -((c + 1).tmod (n : Int))) := by
      show _ = _; rw [← Int.neg_tmod, Int.tmod_eq_emod_of_nonneg (by omega)]
    have HE := hide e0
    clear e0 hn pos
    go_enter Tryd.func6, Tryd.ntmps6
    go_wp2_with fail
    go_ret
    exact ⟨by rw [unhide E]; rfl, rfl⟩
  · rw [if_neg h]
    have E : Hid (c.tmod (n : Int) = c % (n : Int)) := by show _ = _; rw [Int.tmod_eq_emod_of_nonneg (by omega)]
    clear e0 hn pos
    go_enter Tryd.func6, Tryd.ntmps6
    go_wp2_with fail
    go_ret
    exact ⟨rfl, rfl⟩
theorem pkR_lt (c : Int) (n : Nat) (hn : 0 < n) : pkR c n < n := by
  unfold pkR
  have := Int.emod_lt_of_pos (if c < 0 then -(c + 1) else c) (show 0 < (n : Int) by omega)
  have := Int.emod_nonneg (if c < 0 then -(c + 1) else c) (show (n : Int) ≠ 0 by omega)
  omega

theorem same_true (f f' : Fl) (h : f.g = f'.g) (w : World) (rd1 : Rd w (some ⟨f.db, 0, none⟩) f.g.tx) (rd2 : Rd w (some ⟨f'.db, 0, none⟩) f'.g.tx) :
    Calls Tryd.prog 29 #[.agg f.cs, .agg f'.cs] w fun e w' => e = .returned (.bool true) ∧ w.grownBy w' none := by
  obtain ⟨b1, b2, g2⟩ := Blk.two w f.cs f'.cs 35 35
  have cv1 := conv_rd _ _ _ f.g.tx.length f.cap rfl (rdg rd1 g2)
  have cv2 := conv_rd _ _ _ f'.g.tx.length f'.cap rfl (rdg rd2 g2)
  rw [← h] at cv2
  have G2 := hide g2
  unfold Fl.cs at *
  rw [← h] at *
  obtain ⟨g, db, cap⟩ := f
  obtain ⟨g', db', cap'⟩ := f'
  simp only at *
  clear b1 b2 rd1 rd2 h
  generalize strOfNums g.tx = st at *
  generalize g.tx.length = n at *
  have i0 : ((g.id : Int) == (g.id : Int)) = true := by simp
  have i1 : (g.to == g.to) = true := by simp
  have i2 : ((g.at_ : Int) == (g.at_ : Int)) = true := by simp
  have i4 : (g.mark == g.mark) = true := by simp
  go_enter Tryd.func29, Tryd.ntmps29
  go_wp2_with fail
  go_ret
  exact ⟨rfl, unhide G2⟩
end Go.Proofs.YtbdjlhkgpblebaaDoor
