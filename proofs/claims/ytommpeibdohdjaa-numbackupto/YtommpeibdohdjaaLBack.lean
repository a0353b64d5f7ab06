import Derived.Test.YtommpeibdohdjaaWU
import Derived.Test.YtommpeibdohdjaaLPuts
namespace Go.Proofs.Ytommpeibdohdjaa
open Go.RowKit
set_option linter.unusedVariables false

theorem Own.rows {w w' : World} {s : Value} {l : List Int} (h : Own w w' s l) : Row w.heap.size w' s l := h.1
theorem Row.slice {B : Nat} {w : World} {s : Value} {l : List Int} (h : Row B w s l) (hl : ∀ x ∈ l, IsB x) : ∃ a c, s = .slice a l.length c ∧ Rd w a l ∧ l.length ≤ c ∧ c ≤ maxLen ∧ (a = none → c = 0) := own_slice h hl

/-- What Put and PutAs answer. -/
theorem putF_cases (v : Int) : (v ≤ 4611686018427387903 ∧ putF v = (layF v (sizeF v), 0)) ∨ (4611686018427387903 < v ∧ putF v = ([], 10) ∧ sizeF v = 0) := by
  unfold putF
  by_cases h : v ≤ 4611686018427387903
  · exact .inl ⟨h, by rw [if_pos h]⟩
  · exact .inr ⟨by omega, by rw [if_neg h], size_zero v (by omega)⟩
theorem putAsF_cases (v n : Int) : (v ≤ 4611686018427387903 ∧ isSize n ∧ (sizeF v : Int) ≤ n ∧ putAsF v n = (layF v n.toNat, 0)) ∨ (∃ c, (c = 1 ∨ c = 10) ∧ putAsF v n = ([], c)) := by
  unfold putAsF
  by_cases hs : n = 1 ∨ n = 2 ∨ n = 4 ∨ n = 8
  · rw [if_pos hs]
    by_cases h : v ≤ 4611686018427387903 ∧ (sizeF v : Int) ≤ n
    · rw [if_pos h]; exact .inl ⟨h.1, hs, h.2, rfl⟩
    · rw [if_neg h]; exact .inr ⟨10, .inr rfl, rfl⟩
  · rw [if_neg hs]; exact .inr ⟨1, .inl rfl, rfl⟩

theorem app_byte {a b c : List Int} (ha : ∀ x ∈ a, IsB x) (hb : ∀ x ∈ b, IsB x) (hc : ∀ x ∈ c, IsB x) : ∀ x ∈ a ++ b ++ c, IsB x := by
  intro x hx
  simp only [List.mem_append] at hx
  rcases hx with (h | h) | h
  · exact ha x h
  · exact hb x h
  · exact hc x h

theorem rd_lay (w : World) (v : Int) (n : Nat) (h0 : 0 ≤ v) (h : Fits v n) : Rd (w.alloc (bts (layF v n))) (some ⟨w.heap.size, 0, none⟩) (layF v n) :=
  rd_at (heap_alloc_new w _) (layF_byte v n h0 h)

/-- What stands at the beginning of bytes, read and written again. -/
theorem first_back (l : List Int) (hl : ∀ x ∈ l, IsB x) (h0 : 0 < l.length) (h : sz (l.getD 0 0) ≤ l.length) :
    0 ≤ joinF (l.getD 0 0 % 64) ((l.drop 1).take (sz (l.getD 0 0) - 1)) ∧ Fits (joinF (l.getD 0 0 % 64) ((l.drop 1).take (sz (l.getD 0 0) - 1))) (sz (l.getD 0 0)) ∧ layF (joinF (l.getD 0 0 % 64) ((l.drop 1).take (sz (l.getD 0 0) - 1))) (sz (l.getD 0 0)) = l.take (sz (l.getD 0 0)) := by
  have hs := sz_size (l.getD 0 0)
  have := lay_back (l.getD 0 0) ((l.drop 1).take (sz (l.getD 0 0) - 1)) (hl _ (by simp [List.getD, h0])) (fun y hy => hl y (List.mem_of_mem_drop (List.mem_of_mem_take hy))) (by rw [List.length_take, List.length_drop]; omega)
  refine ⟨this.1, this.2.1, this.2.2.trans ?_⟩
  match l, h0 with
  | x :: r, _ =>
    simp only [List.getD_cons_zero, List.drop_succ_cons, List.drop_zero]
    simp only [List.getD_cons_zero] at hs
    obtain ⟨m, hm⟩ : ∃ m, sz x = m + 1 := ⟨sz x - 1, by omega⟩
    rw [hm, List.take_succ_cons]
    rfl

set_option maxRecDepth 100000 in
set_option maxHeartbeats 1600000 in
theorem back_no (v n : Int) (aA bB : Option Addr) (la lb : List Int) (cA cB : Nat) (w : World) (v0 : 0 ≤ v) (v1 : v < 18446744073709551616) (ra : Rd w aA la) (rb : Rd w bB lb) (hac : la.length ≤ cA) (ham : cA ≤ maxLen) (hbc : lb.length ≤ cB) (hbm : cB ≤ maxLen) (na : aA = none → cA = 0) (nb : bB = none → cB = 0) (h1 : la.length ≤ 1048576) (h2 : lb.length ≤ 1048576) (hv : 4611686018427387903 < v) :
    Calls Try.prog 8 #[.int .u64 v, .int .i64 n, .slice aA la.length cA, .slice bB lb.length cB] w fun e w' => e = .returned (.bool true) ∧ Below w.heap.size w w' := by
  have RA := hide ra; have RB := hide rb; have NA := hide na; have NB := hide nb; have HAC := hide hac; have HAM := hide ham; have HBC := hide hbc; have HBM := hide hbm
  clear ra rb na nb hac ham hbc hbm
  have hz := size_zero v hv
  go_enter Try.func8, Try.ntmps8
  go_wp2_with fail
  refine (awake_any _).mono ?_
  rintro e w1 ⟨rfl, b1⟩
  go_wp2_with fail
  refine (put_no v _ hv v1).mono ?_
  rintro e w' ⟨rfl, hw⟩; subst w'
  go_wp2_with fail
  refine (size_any v _ v0 v1).mono ?_
  rintro e w' ⟨rfl, hw⟩; subst w'
  go_wp2_with fail
  have c2 := putAs_own v n w1 v0 v1
  have hp : ∃ c, (c = 1 ∨ c = 10) ∧ putAsF v n = ([], c) := by
    rcases putAsF_cases v n with ⟨h, _⟩ | h
    · omega
    · exact h
  obtain ⟨c, hc, hp⟩ := hp
  rw [hp] at c2
  refine c2.mono ?_
  clear c2 hp
  rintro e WX ⟨s, rfl, ho⟩
  have bX := b1.trans (ho.2.mono b1.size)
  have hc0 : (c == 0) = false := by rw [beq_eq_false_iff_ne]; omega
  clear b1 ho hc
  go_wp2_with fail
  have c3 := get_any bB lb cB 0 WX (rd_below (unhide RB) bX) (unhide HBC) (unhide HBM)
  refine c3.mono ?_
  clear c3
  rintro e wg ⟨rfl, q, rfl⟩
  have bY := bel_drewN bX q
  clear bX
  generalize WX.drewN q = WY at bY ⊢
  rcases getF_cases lb 0 with ⟨c, hc, eg⟩ | ⟨k, hk0, hkl, hks, eg⟩
  · rw [eg]
    have hc0 : (c != 0) = true := by rw [bne_iff_ne]; omega
    clear hc eg
    go_wp2
    go_ret
    exact ⟨rfl, bY⟩
  · obtain rfl : k = 0 := by omega
    obtain ⟨j0, jf, jl⟩ := first_back lb (unhide RB).1 hkl (by omega)
    rw [eg]
    simp only [Nat.zero_add] at hks ⊢
    obtain ⟨js, jm⟩ := size_le _ _ jf
    have HSZ := hide (sz_size (lb.getD 0 0))
    have JF := hide jf; have JL := hide jl; have EG := hide eg; have HK0 := hide hk0
    clear jf jl eg hk0
    generalize joinF (lb.getD 0 0 % 64) ((lb.drop 1).take (sz (lb.getD 0 0) - 1)) = J at j0 js jm JF JL ⊢
    generalize sz (lb.getD 0 0) = N at hks HSZ js JF JL ⊢
    have hN0 : 1 ≤ N := by have := unhide HSZ; omega
    have hN1 : ¬ ((0 : Int) + N) < 1 := by omega
    have hN2 : ¬ (lb.length : Int) < (0 : Int) + N := by omega
    have hcb := unhide HBC
    have hcm := unhide HBM
    unfold maxLen at hcm
    go_wp2_with fail
    have c4 := putAs_ok J N WY j0 jm (by have := unhide HSZ; unfold isSize; omega) (by omega)
    rw [Int.toNat_natCast] at c4
    refine c4.mono ?_
    clear c4
    rintro e w4 ⟨rfl, rfl⟩
    have bZ := bY.alloc bY.size (bts (layF J N))
    have hrz := rd_below (unhide RB) bZ
    obtain ⟨b, off, eb, hcell⟩ := hrz.2 (by intro h; simp [h] at hkl)
    subst eb
    rw [unhide JL]
    rw [unhide JL] at bZ
    have hlen : (lb.take N).length = N := by simp; omega
    have hbt : ∀ x ∈ lb.take N, IsB x := fun x hx => (unhide RB).1 x (List.mem_of_mem_take hx)
    have z1 : ∀ q, (convert 25 9 (.slice (some ⟨WY.heap.size, 0, none⟩) N N)).run Try.prog ((WY.alloc (bts (lb.take N))).drewN q) = .ok (.string (strOfNums (lb.take N))) ((WY.alloc (bts (lb.take N))).drewN q) := fun q =>
      conv_rd _ _ _ N N hlen (rd_drew (rd_at (heap_alloc_new WY _) hbt) q)
    have z2 : ∀ q, (convert 25 9 (.slice (some ⟨b, off, none⟩) N cB)).run Try.prog ((WY.alloc (bts (lb.take N))).drewN q) = .ok (.string (strOfNums (lb.take N))) ((WY.alloc (bts (lb.take N))).drewN q) := fun q => by
      have hr5 := rd_below (unhide RB) bZ
      obtain ⟨b', off', eb, hc5⟩ := hr5.2 (by intro h; simp [h] at hkl)
      cases eb
      have := rd_sub hr5.1 hc5 0 N (by omega) (some ⟨b, off, none⟩) (fun _ => rfl) q
      rw [List.drop_zero] at this
      exact conv_rd _ _ _ N cB hlen this
    clear hrz hcell hbt hlen bY
    go_wp2
    go_quiet (fail)
    all_goals go_wp2
    all_goals go_ret
    all_goals exact ⟨rfl, bel_drewN bZ _⟩

end Go.Proofs.Ytommpeibdohdjaa
