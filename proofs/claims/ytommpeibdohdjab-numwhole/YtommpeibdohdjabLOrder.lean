import Derived.Test.YtommpeibdohdjabPO
namespace Go.Proofs.Ytommpeibdohdjab
open Go.RowKit
set_option linter.unusedVariables false

theorem rd_new (w : World) (v : Int) (n : Nat) (h0 : 0 ≤ v) (h : Fits v n) : Rd (w.alloc (bts (layF v n))) (some ⟨w.heap.size, 0, none⟩) (layF v n) :=
  rd_at (heap_alloc_new w _) (layF_byte v n h0 h)
theorem rd_old {w : World} {g : Nat} {l : List Int} (h : Rd w (some ⟨g, 0, none⟩) l) (hg : g < w.heap.size) (o : Obj) : Rd (w.alloc o) (some ⟨g, 0, none⟩) l := by
  refine ⟨h.1, fun hne => ?_⟩
  obtain ⟨b, off, e, hc⟩ := h.2 hne
  refine ⟨b, off, e, fun i hi => ?_⟩
  simp only [Option.some.injEq, Addr.mk.injEq] at e
  rw [World.cell?_of_block (Below.heap_alloc w o _ (by simp; omega))]
  exact hc i hi

set_option maxHeartbeats 1600000 in
theorem order_walk (v u : Int) (w : World) (v0 : 0 ≤ v) (v1 : v < 18446744073709551616) (u0 : 0 ≤ u) (u1 : u < 18446744073709551616) :
    Calls Try.prog 3 #[.int .u64 v, .int .u64 u] w fun e w' => e = .returned (.bool true) ∧ Below w.heap.size w w' := by
  go_enter Try.func3, Try.ntmps3
  go_wp2_with fail
  refine (awake_any _).mono ?_
  rintro e w1 ⟨rfl, b1⟩
  have hz1 := b1.size
  go_wp2_with fail
  by_cases hv : v ≤ 4611686018427387903
  · refine (put_ok v _ v0 hv).mono ?_
    rintro e w' ⟨rfl, rfl⟩
    go_wp2_with fail
    by_cases hu : u ≤ 4611686018427387903
    · refine (put_ok u _ u0 hu).mono ?_
      rintro e w' ⟨rfl, rfl⟩
      have hfv := fits_size v hv
      have hfu := fits_size u hu
      have c1 := conv_rd ((w1.alloc (bts (layF v (sizeF v)))).alloc (bts (layF u (sizeF u)))) (some ⟨w1.heap.size, 0, none⟩) (layF v (sizeF v)) (sizeF v) (sizeF v) (layF_length _ _) (rd_old (rd_new w1 v _ v0 hfv) (by simp) _)
      have c2 := conv_rd ((w1.alloc (bts (layF v (sizeF v)))).alloc (bts (layF u (sizeF u)))) (some ⟨w1.heap.size + 1, 0, none⟩) (layF u (sizeF u)) (sizeF u) (sizeF u) (layF_length _ _) (by simpa using rd_new (w1.alloc (bts (layF v (sizeF v)))) u _ u0 hfu)
      have s1 := str_less v u v0 u0 hv hu
      have s2 := str_eq v u v0 u0 hv hu
      have bel : Below w.heap.size w ((w1.alloc (bts (layF v (sizeF v)))).alloc (bts (layF u (sizeF u)))) := (b1.alloc hz1 _).alloc (by simp; omega) _
      clear b1 hfv hfu
      go_wp2
      go_ret
      exact ⟨rfl, bel⟩
    · refine (put_no u _ (by omega) u1).mono ?_
      rintro e w' ⟨rfl, rfl⟩
      have bel : Below w.heap.size w (w1.alloc (bts (layF v (sizeF v)))) := b1.alloc hz1 _
      have h1 : decide (4611686018427387903 < v) = false := by simp; omega
      have h2 : 4611686018427387903 < u := by omega
      clear b1 hu hv
      go_wp2
      go_ret
      exact ⟨rfl, bel⟩
  · refine (put_no v _ (by omega) v1).mono ?_
    rintro e w' ⟨rfl, rfl⟩
    have h1 : 4611686018427387903 < v := by omega
    clear hv
    go_wp2_with fail
    by_cases hu : u ≤ 4611686018427387903
    · refine (put_ok u _ u0 hu).mono ?_
      rintro e w' ⟨rfl, rfl⟩
      have bel := b1.alloc hz1 (bts (layF u (sizeF u)))
      have h2 : decide (4611686018427387903 < u) = false := by simp; omega
      clear b1 hu
      go_wp2
      go_ret
      exact ⟨rfl, bel⟩
    · refine (put_no u _ (by omega) u1).mono ?_
      rintro e w' ⟨rfl, rfl⟩
      have h2 : 4611686018427387903 < u := by omega
      clear hu
      go_wp2
      go_ret
      exact ⟨rfl, b1⟩
end Go.Proofs.Ytommpeibdohdjab
