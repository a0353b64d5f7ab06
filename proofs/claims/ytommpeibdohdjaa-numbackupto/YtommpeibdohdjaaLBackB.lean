import Derived.Test.YtommpeibdohdjaaLBack
namespace Go.Proofs.Ytommpeibdohdjaa
open Go.RowKit
set_option linter.unusedVariables false

set_option maxRecDepth 100000 in
set_option maxHeartbeats 1600000 in
theorem back_half (v n : Int) (aA bB : Option Addr) (la lb : List Int) (cA cB : Nat) (w : World) (v0 : 0 ≤ v) (v1 : v < 18446744073709551616) (ra : Rd w aA la) (rb : Rd w bB lb) (hac : la.length ≤ cA) (ham : cA ≤ maxLen) (hbc : lb.length ≤ cB) (hbm : cB ≤ maxLen) (na : aA = none → cA = 0) (nb : bB = none → cB = 0) (h1 : la.length ≤ 1048576) (h2 : lb.length ≤ 1048576) (hv : v ≤ 4611686018427387903) (hp : ∃ c, (c = 1 ∨ c = 10) ∧ putAsF v n = ([], c)) :
    Calls Try.prog 8 #[.int .u64 v, .int .i64 n, .slice aA la.length cA, .slice bB lb.length cB] w fun e w' => e = .returned (.bool true) ∧ Below w.heap.size w w' := by
  have RA := hide ra; have RB := hide rb; have NA := hide na; have NB := hide nb; have HAC := hide hac; have HAM := hide ham; have HBC := hide hbc; have HBM := hide hbm
  clear ra rb na nb hac ham hbc hbm
  have hfit := fits_size v hv
  have hs8 : sizeF v ≤ 8 := by unfold Fits at hfit; omega
  go_enter Try.func8, Try.ntmps8
  go_wp2_with fail
  refine (awake_any _).mono ?_
  rintro e w1 ⟨rfl, b1⟩
  go_wp2_with fail
  refine (put_ok v _ v0 hv).mono ?_
  rintro e w2 ⟨rfl, rfl⟩
  have b2 := b1.alloc b1.size (bts (layF v (sizeF v)))
  have r2 := rd_lay w1 v (sizeF v) v0 hfit
  have R2 := hide r2
  clear b1 r2
  generalize w1.heap.size = g2 at R2 ⊢
  generalize w1.alloc (bts (layF v (sizeF v))) = W2 at b2 R2 ⊢
  go_wp2_with fail
  refine (size_any v _ v0 v1).mono ?_
  rintro e w' ⟨rfl, hw⟩; subst w'
  go_wp2_with fail
  have c1 := whole_any aA (some ⟨g2, 0, none⟩) bB la (layF v (sizeF v)) lb cA (sizeF v) cB W2 (rd_below (unhide RA) b2) (unhide R2) (rd_below (unhide RB) b2) (unhide NA) (by intro h; cases h) (unhide NB) (by rw [layF_length]; omega)
  rw [layF_length] at c1
  refine c1.mono ?_
  clear c1
  rintro e w3 ⟨s, rfl, ho⟩
  have b3 := b2.trans (ho.2.mono b2.size)
  obtain ⟨x3, k3, rfl, r3, hk3, hk4, -⟩ := own_slice ho.1 (app_byte (unhide RA).1 (layF_byte v _ v0 hfit) (unhide RB).1)
  have R3 := hide r3
  have HK3 := hide hk3
  clear b2 ho r3 R2 hk3
  generalize hLn : (la ++ layF v (sizeF v) ++ lb).length = Ln
  have HLn := hide hLn
  clear hLn
  go_wp2_with fail
  have c2 := get_any x3 (la ++ layF v (sizeF v) ++ lb) k3 la.length w3 (unhide R3) (unhide HK3) hk4
  rw [unhide HLn] at c2
  rw [get_back la lb v (sizeF v) hfit v0] at c2
  refine c2.mono ?_
  clear c2
  rintro e w4 ⟨rfl, q, rfl⟩
  have b4 := bel_drewN b3 q
  clear b3 R3 HK3 hk4
  generalize w3.drewN q = W4 at b4 ⊢
  go_wp2_with fail
  have c2 := putAs_own v n W4 v0 v1
  obtain ⟨c, hc, hp⟩ := hp
  rw [hp] at c2
  refine c2.mono ?_
  clear c2 hp
  rintro e WX ⟨s, rfl, ho⟩
  have bX := b4.trans (ho.2.mono b4.size)
  have hc0 : (c == 0) = false := by rw [beq_eq_false_iff_ne]; omega
  clear b4 ho hc
  go_wp2_with fail
  have c3 := get_any bB lb cB 0 WX (rd_below (unhide RB) bX) (unhide HBC) (unhide HBM)
  refine c3.mono ?_
  clear c3
  rintro e wg ⟨rfl, q, rfl⟩
  have bY := bel_drewN bX q
  clear bX
  generalize WX.drewN q = WY at bY ⊢
  rcases getF_cases lb 0 with ⟨c, hc, eg⟩ | ⟨k, hk0, hkl, hks, eg⟩
  · rw [eg]
    have hc0 : (c != 0) = true := by rw [bne_iff_ne]; omega
    clear hc eg
    go_wp2
    go_ret
    exact ⟨rfl, bY⟩
  · obtain rfl : k = 0 := by omega
    obtain ⟨j0, jf, jl⟩ := first_back lb (unhide RB).1 hkl (by omega)
    rw [eg]
    simp only [Nat.zero_add] at hks ⊢
    obtain ⟨js, jm⟩ := size_le _ _ jf
    have HSZ := hide (sz_size (lb.getD 0 0))
    have JF := hide jf; have JL := hide jl; have EG := hide eg; have HK0 := hide hk0
    clear jf jl eg hk0
    generalize joinF (lb.getD 0 0 % 64) ((lb.drop 1).take (sz (lb.getD 0 0) - 1)) = J at j0 js jm JF JL ⊢
    generalize sz (lb.getD 0 0) = N at hks HSZ js JF JL ⊢
    have hN0 : 1 ≤ N := by have := unhide HSZ; omega
    have hN1 : ¬ ((0 : Int) + N) < 1 := by omega
    have hN2 : ¬ (lb.length : Int) < (0 : Int) + N := by omega
    have hcb := unhide HBC
    have hcm := unhide HBM
    unfold maxLen at hcm
    go_wp2_with fail
    have c4 := putAs_ok J N WY j0 jm (by have := unhide HSZ; unfold isSize; omega) (by omega)
    rw [Int.toNat_natCast] at c4
    refine c4.mono ?_
    clear c4
    rintro e w4 ⟨rfl, rfl⟩
    have bZ := bY.alloc bY.size (bts (layF J N))
    have hrz := rd_below (unhide RB) bZ
    obtain ⟨b, off, eb, hcell⟩ := hrz.2 (by intro h; simp [h] at hkl)
    subst eb
    rw [unhide JL]
    rw [unhide JL] at bZ
    have hlen : (lb.take N).length = N := by simp; omega
    have hbt : ∀ x ∈ lb.take N, IsB x := fun x hx => (unhide RB).1 x (List.mem_of_mem_take hx)
    have z1 : ∀ q, (convert 25 9 (.slice (some ⟨WY.heap.size, 0, none⟩) N N)).run Try.prog ((WY.alloc (bts (lb.take N))).drewN q) = .ok (.string (strOfNums (lb.take N))) ((WY.alloc (bts (lb.take N))).drewN q) := fun q =>
      conv_rd _ _ _ N N hlen (rd_drew (rd_at (heap_alloc_new WY _) hbt) q)
    have z2 : ∀ q, (convert 25 9 (.slice (some ⟨b, off, none⟩) N cB)).run Try.prog ((WY.alloc (bts (lb.take N))).drewN q) = .ok (.string (strOfNums (lb.take N))) ((WY.alloc (bts (lb.take N))).drewN q) := fun q => by
      have hr5 := rd_below (unhide RB) bZ
      obtain ⟨b', off', eb, hc5⟩ := hr5.2 (by intro h; simp [h] at hkl)
      cases eb
      have := rd_sub hr5.1 hc5 0 N (by omega) (some ⟨b, off, none⟩) (fun _ => rfl) q
      rw [List.drop_zero] at this
      exact conv_rd _ _ _ N cB hlen this
    clear hrz hcell hbt hlen bY
    go_wp2
    go_quiet (fail)
    all_goals go_wp2
    all_goals go_ret
    all_goals exact ⟨rfl, bel_drewN bZ _⟩

end Go.Proofs.Ytommpeibdohdjaa
