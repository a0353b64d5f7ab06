/- Plain: what Put writes Get reads, and the other way round. -/
import Derived.Test.YtggjeamondampaaNC
namespace Go.Proofs.Ytggjeamondampaa
open Go.RowKit
set_option linter.unusedVariables false
set_option maxRecDepth 100000

theorem sz_mark (v : Int) (m n : Nat) (hn : n = m + 1) (h : Fits v n) (v0 : 0 ≤ v) : 0 ≤ v / 256 ^ m ∧ v / 256 ^ m ≤ 63 ∧ sz (v / 256 ^ m % 256 + markF n) = n ∧ (v / 256 ^ m % 256 + markF n) % 64 = v / 256 ^ m := by
  rcases h with ⟨rfl, h⟩ | ⟨rfl, h⟩ | ⟨rfl, h⟩ | ⟨rfl, h⟩
  · obtain rfl : m = 0 := by omega
    simp only [Int.pow_zero, Int.ediv_one, markF, if_true]
    refine ⟨by omega, by omega, ?_, by omega⟩
    unfold sz; rw [if_pos (by omega)]
  · obtain rfl : m = 1 := by omega
    simp only [Int.pow_one, markF]
    refine ⟨by omega, by omega, ?_, by simp; omega⟩
    simp
    unfold sz; rw [if_neg (by omega), if_pos (by omega)]
  · obtain rfl : m = 3 := by omega
    simp only [show (256 : Int) ^ 3 = 16777216 from rfl, markF]
    refine ⟨by omega, by omega, ?_, by simp; omega⟩
    simp
    unfold sz; rw [if_neg (by omega), if_neg (by omega), if_pos (by omega)]
  · obtain rfl : m = 7 := by omega
    simp only [show (256 : Int) ^ 7 = 72057594037927936 from rfl, markF]
    refine ⟨by omega, by omega, ?_, by simp; omega⟩
    simp
    unfold sz; rw [if_neg (by omega), if_neg (by omega), if_neg (by omega)]

theorem get_back (la lc : List Int) (v : Int) (n : Nat) (h : Fits v n) (v0 : 0 ≤ v) : getF (la ++ layF v n ++ lc) la.length = (v, (la.length : Int) + (n : Int), 0) := by
  obtain ⟨m, hm⟩ : ∃ m, n = m + 1 := ⟨n - 1, by unfold Fits at h; omega⟩
  obtain ⟨u0, u1, hs, h64⟩ := sz_mark v m n hm h v0
  have hlay : layF v n = (v / 256 ^ m % 256 + markF n) :: dig v m := by subst hm; simp only [layF, dig]
  have hg : (la ++ layF v n ++ lc).getD la.length 0 = v / 256 ^ m % 256 + markF n := by
    rw [hlay, List.append_assoc]
    simp [List.getD]
  rw [getF_in _ la.length n _ hg hs (by simp [layF_length]) (by rw [hlay]; simp)]
  have hd : ((la ++ layF v n ++ lc).drop (la.length + 1)).take (n - 1) = dig v m := by
    rw [hlay, List.append_assoc, List.drop_append, List.drop_of_length_le (by omega)]
    simp only [List.nil_append, show la.length + 1 - la.length = 1 by omega, List.cons_append, List.drop_succ_cons, List.drop_zero]
    rw [List.take_append_of_le_length (by rw [dig_length]; omega), List.take_of_length_le (by rw [dig_length]; omega)]
  rw [hd, h64, joinF_dig]
  have := Int.mul_ediv_add_emod v (256 ^ m)
  rw [Int.mul_comm (v / 256 ^ m)]
  rw [this]

theorem getF_cases (l : List Int) (i : Int) : (∃ c, (c = 1 ∨ c = 11) ∧ getF l i = (0, 0, c)) ∨
    (∃ k : Nat, i = k ∧ k < l.length ∧ k + sz (l.getD k 0) ≤ l.length ∧ getF l i = (joinF (l.getD k 0 % 64) ((l.drop (k + 1)).take (sz (l.getD k 0) - 1)), (k : Int) + (sz (l.getD k 0) : Int), 0)) := by
  by_cases h1 : i < 0 ∨ (l.length : Int) < i
  · exact .inl ⟨1, .inl rfl, getF_arg l i h1⟩
  · by_cases h2 : i = l.length
    · subst h2; exact .inl ⟨11, .inr rfl, getF_end l⟩
    · obtain ⟨k, rfl⟩ := Int.eq_ofNat_of_zero_le (show 0 ≤ i by omega)
      have hk : k < l.length := by omega
      by_cases h3 : k + sz (l.getD k 0) ≤ l.length
      · exact .inr ⟨k, rfl, hk, h3, getF_in l k _ _ rfl rfl h3 hk⟩
      · exact .inl ⟨11, .inr rfl, getF_short l k _ _ rfl rfl h3 hk⟩

/-- A sized number's bytes, written again. -/
theorem lay_back (x : Int) (r : List Int) (hx : IsB x) (hr : ∀ y ∈ r, IsB y) (hl : r.length + 1 = sz x) :
    0 ≤ joinF (x % 64) r ∧ Fits (joinF (x % 64) r) (sz x) ∧ layF (joinF (x % 64) r) (sz x) = x :: r := by
  have hb := joinF_lt r hr (x % 64) 64 (by omega) (by omega)
  have hd := joinF_div r hr (x % 64)
  have hj := dig_joinF r hr (x % 64)
  unfold IsB at hx
  generalize hJ : joinF (x % 64) r = J at hb hd hj
  refine ⟨hb.1, ?_, ?_⟩
  · unfold Fits
    have : sz x = 1 ∨ sz x = 2 ∨ sz x = 4 ∨ sz x = 8 := by unfold sz; (repeat' split) <;> omega
    rcases this with h | h | h | h
    · rw [show r.length = 0 by omega] at hb; simp at hb; omega
    · rw [show r.length = 1 by omega] at hb; simp at hb; omega
    · rw [show r.length = 3 by omega] at hb; simp at hb; omega
    · rw [show r.length = 7 by omega] at hb; simp at hb; omega
  · rw [← hl]
    simp only [layF, dig]
    rw [hd, hj, hl]
    congr 1
    have : sz x = 1 ∨ sz x = 2 ∨ sz x = 4 ∨ sz x = 8 := by unfold sz; (repeat' split) <;> omega
    unfold sz at this ⊢
    unfold markF
    (repeat' split) <;> omega

theorem sz_size (x : Int) : sz x = 1 ∨ sz x = 2 ∨ sz x = 4 ∨ sz x = 8 := by unfold sz; (repeat' split) <;> omega
theorem size_le (v : Int) (n : Nat) (h : Fits v n) : sizeF v ≤ n ∧ v ≤ 4611686018427387903 := by
  unfold Fits at h; unfold sizeF; (repeat' split) <;> omega
end Go.Proofs.Ytggjeamondampaa
