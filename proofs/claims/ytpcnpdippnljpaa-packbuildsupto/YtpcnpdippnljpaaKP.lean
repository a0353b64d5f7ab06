/- Plain: digits and numbers, there and back. -/
import Derived.Test.YtpcnpdippnljpaaKO
namespace Go.Proofs.Ytpcnpdippnljpaa
open Go.RowKit
set_option maxRecDepth 100000
set_option linter.unusedVariables false

theorem joinF_dig (v : Int) (n : Nat) : ∀ u, joinF u (dig v n) = u * 256 ^ n + v % 256 ^ n := by
  induction n with
  | zero => intro u; simp [dig, joinF, Int.emod_one]
  | succ n ih =>
    intro u
    rw [dig, joinF_cons, ih, mod_split, Int.add_mul, Int.pow_succ, Int.mul_assoc, Int.mul_comm 256 (256 ^ n)]
    omega

theorem joinF_div (l : List Int) (hl : ∀ x ∈ l, IsB x) : ∀ u, joinF u l / 256 ^ l.length = u := by
  induction l with
  | nil => intro u; simp [joinF]
  | cons x r ih =>
    intro u
    have hx := hl x (by simp)
    unfold IsB at hx
    rw [joinF_cons, List.length_cons, Int.pow_succ, ← Int.ediv_ediv_of_nonneg (Int.le_of_lt (pow_pos256 _)), ih (fun y hy => hl y (by simp [hy]))]
    omega

theorem dig_joinF (l : List Int) (hl : ∀ x ∈ l, IsB x) : ∀ u, dig (joinF u l) l.length = l := by
  induction l with
  | nil => intro u; rfl
  | cons x r ih =>
    intro u
    have hx := hl x (by simp)
    unfold IsB at hx
    have hr : ∀ y ∈ r, IsB y := fun y hy => hl y (by simp [hy])
    rw [List.length_cons, dig, joinF_cons, joinF_div r hr, ih hr]
    congr 1
    omega

/-- What stands in n bytes comes back. -/
theorem joinF_back (v : Int) (n : Nat) (v0 : 0 ≤ v) (h : v / 256 ^ n = 0) : joinF 0 (dig v n) = v := by
  have h1 := Int.mul_ediv_add_emod v (256 ^ n)
  rw [joinF_dig, Int.zero_mul, Int.zero_add]
  rw [h, Int.mul_zero] at h1
  omega

theorem joinF_bound (l : List Int) (hl : ∀ x ∈ l, IsB x) (h : l.length ≤ 8) : 0 ≤ joinF 0 l ∧ joinF 0 l < 18446744073709551616 := by
  have := joinF_lt l hl 0 1 (by decide) (by decide)
  have h2 := pow256_le l.length h
  omega

theorem dig_zero_head (v : Int) (n : Nat) (h : v / 256 ^ n = 0) : dig v (n + 1) = 0 :: dig v n := by
  rw [dig, h]
  rfl

theorem readF_cases (l : List Int) (i n : Int) : ((∃ c, (c = 1 ∨ c = 11) ∧ readF l i n = (0, 0, c)) ∨
    (∃ k m : Nat, i = k ∧ n = m ∧ m ≤ 8 ∧ k + m ≤ l.length ∧ readF l i n = (joinF 0 ((l.drop k).take m), (k : Int) + (m : Int), 0))) := by
  by_cases h1 : n < 0 ∨ 8 < n ∨ i < 0 ∨ (l.length : Int) < i
  · exact .inl ⟨1, .inl rfl, readF_arg l i n h1⟩
  · by_cases h2 : (l.length : Int) - i < n
    · exact .inl ⟨11, .inr rfl, readF_short l i n h1 h2⟩
    · obtain ⟨k, rfl⟩ := Int.eq_ofNat_of_zero_le (show 0 ≤ i by omega)
      obtain ⟨m, rfl⟩ := Int.eq_ofNat_of_zero_le (show 0 ≤ n by omega)
      exact .inr ⟨k, m, rfl, rfl, by omega, by omega, readF_in l k m (by omega) (by omega)⟩

theorem rd_below {w w' : World} {a : Option Addr} {l : List Int} (h : Rd w a l) (hb : Below w.heap.size w w') : Rd w' a l := by
  refine ⟨h.1, fun hne => ?_⟩
  obtain ⟨b, off, e, hc⟩ := h.2 hne
  refine ⟨b, off, e, fun i hi => ?_⟩
  have := hc i hi
  rw [hb.cell (p := ⟨b, off + i, none⟩) (World.block_lt_of_cell? w _ this)]
  exact this

end Go.Proofs.Ytpcnpdippnljpaa
