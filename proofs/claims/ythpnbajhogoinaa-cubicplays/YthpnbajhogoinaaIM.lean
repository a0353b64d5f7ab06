/- climb where the curve begins; raise. -/
import Derived.Test.YthpnbajhogoinaaIL
namespace Go.Proofs.Ythpnbajhogoinaa
open Go.RowKit Fl
set_option linter.unusedVariables false
set_option maxRecDepth 100000
set_option maxHeartbeats 4000000
attribute [local go_sem] run_store_float

theorem go_sz (g : Nat) (s : Cs) : (goF g s).mtu = s.mtu ∧ (goF g s).clock = s.clock := ⟨rfl, rfl⟩
theorem begin_sz (s : Cs) : (beginF s).size = s.size ∧ (beginF s).mtu = s.mtu ∧ (beginF s).clock = s.clock ∧ (beginF s).ep = s.clock := by
  unfold beginF
  split <;> exact ⟨rfl, rfl, rfl, rfl⟩
theorem climb_new1 (b : Nat) (s : Cs) (z : Int) (w : World) (h : CB w b s) (n : Nat) (ok : s.Ok n) (hn : n ≤ 9999) (hz : 0 ≤ z ∧ z ≤ 65535 ∧ z ≤ s.size) (he : s.ep < 0) (hc : sI s < s.pk) : Calls Try.prog 47 #[ptr b, .int .i64 z] w fun e w' => e = .returned (.tuple #[]) ∧ CB w' b (climbG z (beginF s)) ∧ w.grownBy w' (some b) := by
  obtain ⟨b1, b2, b3, b4⟩ := begin_sz s
  have bI : sI (beginF s) = sI s := by unfold sI; rw [b1]
  obtain ⟨sz, zz, mm, m1, q1, go, tg, s1, m2, q2, wn⟩ := clm (begin_ok ok (by omega)) hn (by rw [b4]; exact ok.c.1) (by rw [b1]; exact hz) b
  rw [b1, bI] at sz
  rw [b2] at mm m1 q1
  rw [bI] at q1 s1 q2 wn m2
  rw [b2, b3, bI] at tg
  have em : ((s.mtu.toNat : Nat) : Int) = s.mtu := by have := ok.m; omega
  have N := fun W => newcurve_any s.clock (sI s) s.pk s.mtu.toNat (sI_lt ok (by omega)) (Nat.le_trans ok.p (big_I (by omega))) (mN ok) W
  rw [em, show curV s.clock (sI s) s.pk s.mtu.toNat = #[.int .i64 s.clock, fv s.pk, .int .i64 (kOf (subW s.pk (sI s)) s.mtu.toNat : Int), fv (sI s)] by unfold curV; rw [if_pos hc]] at N
  have BA : Hid (∀ W, CB W b s → CB ((((W.setCell ⟨b, 7, none⟩ (.int .i64 s.clock)).setCell ⟨b, 8, none⟩ (fv s.pk)).setCell ⟨b, 9, none⟩ (.int .i64 (kOf (subW s.pk (sI s)) s.mtu.toNat : Int))).setCell ⟨b, 10, none⟩ (fv (sI s))) b (beginF s)) := fun W hW => by
    unfold beginF
    rw [if_pos hc]
    exact (((Blk.setC hW 7 _).setC 8 _).setC 9 _).setC 10 _
  obtain ⟨t, c0, c1, c2, -⟩ := h.full
  obtain ⟨c6, c7, -⟩ := h.more
  have H := hide h
  have C5 : Hid (∀ W, CB W b s → (∀ j, W.frozen? ⟨b, j, none⟩ = false) ∧ W.cell? ⟨b, 7, none⟩ = some (.int .i64 s.ep) ∧ W.cell? ⟨b, 8, none⟩ = some (fv s.og) ∧ W.cell? ⟨b, 9, none⟩ = some (.int .i64 s.wt) ∧ W.cell? ⟨b, 10, none⟩ = some (fv s.pl)) := fun W hW => ⟨hW.full.1, hW.more.2.1, hW.more.2.2.1, hW.more.2.2.2.1, hW.more.2.2.2.2.1⟩
  have P0 : Hid (∀ W, CB W b (beginF s) → (∀ j, W.frozen? ⟨b, j, none⟩ = false) ∧ W.cell? ⟨b, 0, none⟩ = some (.int .i64 s.mtu)) := fun W hW => ⟨hW.full.1, by have := hW.full.2.1; rwa [b2] at this⟩
  have P1 : Hid (∀ W, CB W b (goF (gnF z (beginF s)) (beginF s)) → (∀ j, W.frozen? ⟨b, j, none⟩ = false) ∧ W.cell? ⟨b, 0, none⟩ = some (.int .i64 s.mtu) ∧ W.cell? ⟨b, 1, none⟩ = some (.int .i64 s.clock)) := fun W hW => ⟨hW.full.1, by have := hW.full.2.1; rwa [(go_sz _ _).1, b2] at this, by have := hW.full.2.2.1; rwa [(go_sz _ _).2, b3] at this⟩
  have GD : Hid (∀ X, World.grownBy w.drew X none → World.grownBy w X (some b)) := fun X g => grown_any' (w := w) ⟨g.os, g.tape, g.output, g.size, g.block⟩ b
  clear ok hz hn h b1 b2 b3 b4 bI em hc
  generalize climbG z (beginF s) = s3 at *
  generalize moreW (tgF (goF (gnF z (beginF s)) (beginF s))) (sI s) z.toNat = y5 at *
  generalize mulW (subW (tgF (goF (gnF z (beginF s)) (beginF s))) (sI s)) (I z.toNat) = y4 at *
  generalize subW (tgF (goF (gnF z (beginF s)) (beginF s))) (sI s) = y3 at *
  generalize tgF (goF (gnF z (beginF s)) (beginF s)) = y2 at *
  generalize goF (gnF z (beginF s)) (beginF s) = s2 at *
  generalize gnF z (beginF s) = y1 at *
  generalize beginF s = s1' at *
  generalize mulW (I z.toNat) (I s.mtu.toNat) = y0 at *
  generalize I s.mtu.toNat = im at *
  generalize I z.toNat = iz at *
  generalize kOf (subW s.pk (sI s)) s.mtu.toNat = kk at *
  generalize (kk : Int) = ki at *
  generalize sI s = is at *
  go_enter Try.func47, Try.ntmps47
  go_wp2_with fail
  go_region_with (go_at_call 49; refine (N _).mono ?_; rintro e W1 ⟨rfl, g1⟩; have h1 := CB.grown (w := World.drew _) (unhide H) g1; obtain ⟨t', d7, d8, d9, d10⟩ := unhide C5 W1 h1)
  all_goals
    have h2 := unhide BA W1 h1
    have G2 := hide (grown_at (grown_at (grown_at (grown_at (unhide GD W1 g1) 7 (.int .i64 s.clock)) 8 (fv s.pk)) 9 (.int .i64 ki)) 10 (fv is))
    clear N BA C5 GD H h1 g1 t c0 c1 c2 c6 c7
    obtain ⟨u', e0⟩ := unhide P0 _ h2
    have GO := go _ h2
    clear h2 P0 go
    go_wp2_with fail
    refine GO.mono ?_
    rintro e W2 ⟨rfl, h3, g3⟩
    have G3 := hide (gtrans (unhide G2) g3)
    obtain ⟨u'', f0, f1⟩ := unhide P1 W2 h3
    have TG := fun q => tg (W2.drewN q) h3
    have H3 := hide h3
    clear GO G2 g3 h3 tg P1 e0 u' t' d7 d8 d9 d10
    go_wp2_with fail
    go_quiet (exact Calls.quiet_of (TG _))
    have WN := wn (W2.drewN nq) (unhide H3)
    have G4 := hide (grown_drewS' (unhide G3) nq)
    clear TG wn H3 G3
    go_wp2_with fail
    refine WN.mono ?_
    rintro e W3 ⟨rfl, h5, g5⟩
    go_wp2_with fail
    refine bodyPost_end (results_none rfl _ _ _) rfl ?_
    exact ⟨rfl, h5, gtrans (unhide G4) g5⟩
theorem climb_new2 (b : Nat) (s : Cs) (z : Int) (w : World) (h : CB w b s) (n : Nat) (ok : s.Ok n) (hn : n ≤ 9999) (hz : 0 ≤ z ∧ z ≤ 65535 ∧ z ≤ s.size) (he : s.ep < 0) (hc : ¬ sI s < s.pk) : Calls Try.prog 47 #[ptr b, .int .i64 z] w fun e w' => e = .returned (.tuple #[]) ∧ CB w' b (climbG z (beginF s)) ∧ w.grownBy w' (some b) := by
  obtain ⟨b1, b2, b3, b4⟩ := begin_sz s
  have bI : sI (beginF s) = sI s := by unfold sI; rw [b1]
  obtain ⟨sz, zz, mm, m1, q1, go, tg, s1, m2, q2, wn⟩ := clm (begin_ok ok (by omega)) hn (by rw [b4]; exact ok.c.1) (by rw [b1]; exact hz) b
  rw [b1, bI] at sz
  rw [b2] at mm m1 q1
  rw [bI] at q1 s1 q2 wn m2
  rw [b2, b3, bI] at tg
  have em : ((s.mtu.toNat : Nat) : Int) = s.mtu := by have := ok.m; omega
  have N := fun W => newcurve_any s.clock (sI s) s.pk s.mtu.toNat (sI_lt ok (by omega)) (Nat.le_trans ok.p (big_I (by omega))) (mN ok) W
  rw [em, show curV s.clock (sI s) s.pk s.mtu.toNat = #[.int .i64 s.clock, fv (sI s), .int .i64 0, fv (sI s)] by unfold curV; rw [if_neg hc]] at N
  have BA : Hid (∀ W, CB W b s → CB ((((W.setCell ⟨b, 7, none⟩ (.int .i64 s.clock)).setCell ⟨b, 8, none⟩ (fv (sI s))).setCell ⟨b, 9, none⟩ (.int .i64 0)).setCell ⟨b, 10, none⟩ (fv (sI s))) b (beginF s)) := fun W hW => by
    unfold beginF
    rw [if_neg hc]
    exact (((Blk.setC hW 7 _).setC 8 _).setC 9 _).setC 10 _
  obtain ⟨t, c0, c1, c2, -⟩ := h.full
  obtain ⟨c6, c7, -⟩ := h.more
  have H := hide h
  have C5 : Hid (∀ W, CB W b s → (∀ j, W.frozen? ⟨b, j, none⟩ = false) ∧ W.cell? ⟨b, 7, none⟩ = some (.int .i64 s.ep) ∧ W.cell? ⟨b, 8, none⟩ = some (fv s.og) ∧ W.cell? ⟨b, 9, none⟩ = some (.int .i64 s.wt) ∧ W.cell? ⟨b, 10, none⟩ = some (fv s.pl)) := fun W hW => ⟨hW.full.1, hW.more.2.1, hW.more.2.2.1, hW.more.2.2.2.1, hW.more.2.2.2.2.1⟩
  have P0 : Hid (∀ W, CB W b (beginF s) → (∀ j, W.frozen? ⟨b, j, none⟩ = false) ∧ W.cell? ⟨b, 0, none⟩ = some (.int .i64 s.mtu)) := fun W hW => ⟨hW.full.1, by have := hW.full.2.1; rwa [b2] at this⟩
  have P1 : Hid (∀ W, CB W b (goF (gnF z (beginF s)) (beginF s)) → (∀ j, W.frozen? ⟨b, j, none⟩ = false) ∧ W.cell? ⟨b, 0, none⟩ = some (.int .i64 s.mtu) ∧ W.cell? ⟨b, 1, none⟩ = some (.int .i64 s.clock)) := fun W hW => ⟨hW.full.1, by have := hW.full.2.1; rwa [(go_sz _ _).1, b2] at this, by have := hW.full.2.2.1; rwa [(go_sz _ _).2, b3] at this⟩
  have GD : Hid (∀ X, World.grownBy w.drew X none → World.grownBy w X (some b)) := fun X g => grown_any' (w := w) ⟨g.os, g.tape, g.output, g.size, g.block⟩ b
  clear ok hz hn h b1 b2 b3 b4 bI em hc
  generalize climbG z (beginF s) = s3 at *
  generalize moreW (tgF (goF (gnF z (beginF s)) (beginF s))) (sI s) z.toNat = y5 at *
  generalize mulW (subW (tgF (goF (gnF z (beginF s)) (beginF s))) (sI s)) (I z.toNat) = y4 at *
  generalize subW (tgF (goF (gnF z (beginF s)) (beginF s))) (sI s) = y3 at *
  generalize tgF (goF (gnF z (beginF s)) (beginF s)) = y2 at *
  generalize goF (gnF z (beginF s)) (beginF s) = s2 at *
  generalize gnF z (beginF s) = y1 at *
  generalize beginF s = s1' at *
  generalize mulW (I z.toNat) (I s.mtu.toNat) = y0 at *
  generalize I s.mtu.toNat = im at *
  generalize I z.toNat = iz at *
  generalize sI s = is at *
  go_enter Try.func47, Try.ntmps47
  go_wp2_with fail
  go_region_with (go_at_call 49; refine (N _).mono ?_; rintro e W1 ⟨rfl, g1⟩; have h1 := CB.grown (w := World.drew _) (unhide H) g1; obtain ⟨t', d7, d8, d9, d10⟩ := unhide C5 W1 h1)
  all_goals
    have h2 := unhide BA W1 h1
    have G2 := hide (grown_at (grown_at (grown_at (grown_at (unhide GD W1 g1) 7 (.int .i64 s.clock)) 8 (fv is)) 9 (.int .i64 0)) 10 (fv is))
    clear N BA C5 GD H h1 g1 t c0 c1 c2 c6 c7
    obtain ⟨u', e0⟩ := unhide P0 _ h2
    have GO := go _ h2
    clear h2 P0 go
    go_wp2_with fail
    refine GO.mono ?_
    rintro e W2 ⟨rfl, h3, g3⟩
    have G3 := hide (gtrans (unhide G2) g3)
    obtain ⟨u'', f0, f1⟩ := unhide P1 W2 h3
    have TG := fun q => tg (W2.drewN q) h3
    have H3 := hide h3
    clear GO G2 g3 h3 tg P1 e0 u' t' d7 d8 d9 d10
    go_wp2_with fail
    go_quiet (exact Calls.quiet_of (TG _))
    have WN := wn (W2.drewN nq) (unhide H3)
    have G4 := hide (grown_drewS' (unhide G3) nq)
    clear TG wn H3 G3
    go_wp2_with fail
    refine WN.mono ?_
    rintro e W3 ⟨rfl, h5, g5⟩
    go_wp2_with fail
    refine bodyPost_end (results_none rfl _ _ _) rfl ?_
    exact ⟨rfl, h5, gtrans (unhide G4) g5⟩
theorem climb_any (b : Nat) (s : Cs) (z : Int) (w : World) (h : CB w b s) (n : Nat) (ok : s.Ok n) (hn : n ≤ 9999) (hz : 0 ≤ z ∧ z ≤ 65535 ∧ z ≤ s.size) : Calls Try.prog 47 #[ptr b, .int .i64 z] w fun e w' => e = .returned (.tuple #[]) ∧ CB w' b (climbF z s) ∧ w.grownBy w' (some b) := by
  unfold climbF startF
  by_cases he : s.ep < 0
  · rw [if_pos he]
    by_cases hc : sI s < s.pk
    · exact climb_new1 b s z w h n ok hn hz he hc
    · exact climb_new2 b s z w h n ok hn hz he hc
  · rw [if_neg he]
    exact climb_on b s z w h n ok hn hz (by omega)
theorem raise_any (b : Nat) (s : Cs) (x : Int) (w : World) (h : CB w b s) (n : Nat) (ok : s.Ok n) (hn : n ≤ 9999) (hx : 0 ≤ x ∧ x ≤ 65535) :
    Calls Try.prog 43 #[ptr b, .int .i64 x] w fun e w' => e = .returned (.tuple #[]) ∧ CB w' b (raiseF x s) ∧ w.grownBy w' (some b) := by
  obtain ⟨t, c0, -, c2, c3, -, -⟩ := h.full
  have C := fun (W : World) (hW : CB W b s) => climb_any b s (min x s.size) W hW n ok hn (by have := ok.z; have := ok.m; omega)
  have hz := ok.z
  have hm := ok.m
  obtain ⟨x1, x2⟩ := hx
  by_cases hlt : s.size < s.thr
  · have F := hide (And.intro (show ∀ q, CB ((w.drewN q).setCell ⟨b, 2, none⟩ (.int .i64 (s.size + x))) b (raiseF x s) from fun q => by unfold raiseF; rw [if_pos hlt]; exact Blk.setC (w := w.drewN q) h 2 _) (fun q => grown_at (grown_drewS' (World.grownBy.refl w (some b)) q) 2 (.int .i64 (s.size + x))))
    have hw : IntKind.i64.wrap (s.size + x) = s.size + x := by rw [IntKind.wrap_i64]; omega
    clear h C ok hz hm
    generalize raiseF x s = s' at *
    generalize s.size = z at *
    generalize s.thr = th at *
    go_enter Try.func43, Try.ntmps43
    go_wp2_with fail
    go_quiet (fail)
    go_wp2_with fail
    refine bodyPost_ret (results_none rfl _ _ _) rfl ?_
    exact ⟨rfl, (unhide F).1 _, (unhide F).2 _⟩
  · have E : Hid (raiseF x s = climbF (min x s.size) s) := by show _ = _; unfold raiseF; rw [if_neg hlt]
    have CQ := fun q => C (w.drewN q) h
    have G := hide (fun q => grown_drewS' (World.grownBy.refl w (some b)) q)
    clear h C ok hm hn hz
    generalize raiseF x s = s' at *
    generalize s.thr = th at *
    by_cases hmi : s.size < x
    · have M : min x s.size = s.size := by omega
      rw [M] at CQ E
      generalize climbF s.size s = s2 at *
      generalize s.size = z at *
      go_enter Try.func43, Try.ntmps43
      go_wp2_with fail
      go_quiet (fail)
      have CQ' := CQ nq
      go_wp2_with fail
      refine CQ'.mono ?_
      rintro e W ⟨rfl, h1, g1⟩
      go_wp2_with fail
      refine bodyPost_end (results_none rfl _ _ _) rfl ?_
      exact ⟨rfl, by rw [unhide E]; exact h1, gtrans (unhide G _) g1⟩
    · have M : min x s.size = x := by omega
      rw [M] at CQ E
      generalize climbF x s = s2 at *
      generalize s.size = z at *
      go_enter Try.func43, Try.ntmps43
      go_wp2_with fail
      go_quiet (fail)
      have CQ' := CQ nq
      go_wp2_with fail
      refine CQ'.mono ?_
      rintro e W ⟨rfl, h1, g1⟩
      go_wp2_with fail
      refine bodyPost_end (results_none rfl _ _ _) rfl ?_
      exact ⟨rfl, by rw [unhide E]; exact h1, gtrans (unhide G _) g1⟩
end Go.Proofs.Ythpnbajhogoinaa
