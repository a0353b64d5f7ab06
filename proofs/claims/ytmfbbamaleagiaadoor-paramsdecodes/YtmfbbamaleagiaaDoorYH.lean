/- ParamsDecodes. -/
import Derived.Test.YtmfbbamaleagiaaDoorYG
import Derived.Test.YtmfbbamaleagiaaDoorXN
namespace Go.Proofs.YtmfbbamaleagiaaDoor
open Go.RowKit
set_option linter.unusedVariables false
set_option maxRecDepth 100000
set_option maxHeartbeats 3200000

/-- A round's state: the bytes are lent, and as they were. -/
def getsSt (w1 wr : World) (n : Nat) : Prop := ∃ gf cf gw cw F, Lent w1 w1.heap.size wr w1.heap.size n gf cf gw cw F F ∧ ∀ x ∈ F, IsB x

theorem decodes_walk (a : Option Addr) (l : List Int) (n cap : Nat) (w : World) (h : Tb w) (hr : Rd w a l) (hn : l.length = n) (hm : l.length ≤ 140737488351232) :
    Calls Tryd.prog 5 #[.slice a n cap] w fun e w' => e = .returned (.bool true) ∧ w.grownBy w' none := by
  subst hn
  have HR := hide hr
  have HT := hide h
  clear hr
  go_enter Tryd.func5, Tryd.ntmps5
  go_wp2_with fail
  refine (awake_any _ h).mono ?_
  rintro e w1 ⟨rfl, b1⟩
  go_wp2_with fail
  refine (lend_any a l cap w1 (rd_below (unhide HR) (grown_bel b1)) (by omega)).mono ?_
  rintro e w2 ⟨fv, wv, rfl, lp⟩
  have st0 : getsSt w1 w2 l.length := by
    obtain ⟨gf, cf, rfl, -⟩ := ownsRow_open lp.full (by omega)
    obtain ⟨gw, cw, rfl, -⟩ := ownsRow_open lp.was (by omega)
    exact ⟨gf, cf, gw, cw, _, lp, lentL_byte l (unhide HR).1⟩
  have ST0 := hide st0
  have B1 := hide b1
  have T1 := hide (h.grown b1)
  clear lp st0 b1 h
  go_wp2_with fail
  go_loopw [5] (fun i wr => ∃ k : Nat, k ≤ 3 ∧ i = .int .i64 k ∧ getsSt w1 wr l.length) (fun i _ => 3 - (intOf i).toNat)
  case atStart => exact ⟨0, by omega, rfl, unhide ST0⟩
  case round =>
    obtain ⟨k, hk, rfl, st⟩ := hrel
    by_cases hlt : k < 3
    · obtain ⟨gf, cf, gw, cw, F, lent, hF⟩ := st
      have hlen := lent.tlen
      obtain ⟨-, -, -, hc1, hc2, -, -⟩ := lent.ne
      have LE := hide lent; have HF := hide hF; have HLEN := hide hlen; have HC1 := hide hc1; have HC2 := hide hc2
      clear lent hF hlen hc1 hc2 ST0
      go_wp2_with fail
      refine (bytes_any w1 wr _ _ _ _ _ _ _ F F (unhide LE)).mono ?_
      rintro e w3 ⟨rfl, q1, rfl⟩
      have LE2 := hide ((unhide LE).drewN q1)
      generalize wr.drewN q1 = W3 at LE2 ⊢
      clear LE
      go_wp2_with fail
      refine (rdecode_any (some ⟨gf, 0, none⟩) (F.take l.length) l.length cf W3 ((unhide LE2).rd (unhide HF)) (unhide HLEN) (by have := unhide HC1; omega) (unhide HC2) (by rw [unhide HLEN]; exact hm)).mono ?_
      rintro e w4 ⟨rfl, g4⟩
      have LE3 := hide ((unhide LE2).below (grown_bel g4))
      clear g4 LE2
      have dq : (dec (F.take l.length)).1 = (dec (F.take l.length)).1 := rfl
      have de : Hid (∀ W, Lent w1 w1.heap.size W w1.heap.size l.length gf cf gw cw F F → Calls Tryd.prog 22 #[.slice (some ⟨gf, 0, none⟩) l.length cf] W fun e w' => e = .returned (.tuple #[.agg (dec (F.take l.length)).1.cs, .int .i64 (dec (F.take l.length)).2]) ∧ W.grownBy w' none) := by
        intro W hl
        have := decode_any (some ⟨gf, 0, none⟩) (F.take l.length) cf W ((unhide T1).grown (bel_grown hl.bel)) (hl.rd (unhide HF)) (by rw [unhide HLEN]; have := unhide HC1; omega) (unhide HC2) (fun x e _ => by cases e; exact ⟨_, _, rfl⟩)
        rw [unhide HLEN] at this
        exact this
      generalize dec (F.take l.length) = D at *
      obtain ⟨P, X⟩ := D
      simp only at *
      clear dq
      go_wp2_with (refine wpList_store_row rfl _ _ _ rfl w4.heap.size P.cs rfl rfl 23 _ (Blk.new w4 zero9 23) Tryd.sizePs rfl (Ps.one _) ?_; rw [World.setRow_alloc_new])
      have A4 := Blk.new w4 P.cs 23
      have LE4 := hide ((unhide LE3).below (grown_bel (World.grownBy_alloc w4 (.cells P.cs 23) none)))
      clear LE3
      generalize w4.alloc (.cells P.cs 23) = W4 at *
      generalize w4.heap.size = g4 at *
      refine (bytes_any w1 _ _ _ _ _ _ _ _ F F (unhide LE4)).mono ?_
      rintro e w5 ⟨rfl, q2, rfl⟩
      have LE5 := hide ((unhide LE4).drewN q2)
      have A5 := A4.drewN q2
      generalize W4.drewN q2 = W5 at *
      clear LE4 A4
      go_wp2_with fail
      refine (unhide de _ (unhide LE5)).mono ?_
      rintro e w6 ⟨rfl, g6⟩
      have LE6 := hide ((unhide LE5).below (grown_bel g6))
      have A6 := A5.grown g6
      clear g6 LE5 A5 de
      go_wp2_with (refine wpList_store_row rfl _ _ _ rfl w6.heap.size P.cs rfl rfl 23 _ (Blk.new w6 zero9 23) Tryd.sizePs rfl (Ps.one _) ?_; rw [World.setRow_alloc_new])
      have A7 := A6.alloc (.cells P.cs 23)
      have C7 := Blk.new w6 P.cs 23
      have LE7 := hide ((unhide LE6).below (grown_bel (World.grownBy_alloc w6 (.cells P.cs 23) none)))
      clear LE6 A6
      generalize w6.alloc (.cells P.cs 23) = W7 at *
      generalize w6.heap.size = g6 at *
      refine (kept_any w1 _ _ _ _ _ _ _ _ F (unhide LE7)).mono ?_
      rintro e w8 ⟨rfl, q4, rfl⟩
      have LE8 := hide ((unhide LE7).drewN q4)
      obtain ⟨n0, n1, n2, n3, n4, n5, n6, n7, n8⟩ := (A7.drewN q4).nine
      obtain ⟨o0, o1, o2, o3, o4, o5, o6, o7, o8⟩ := (C7.drewN q4).nine
      clear LE7 A7 C7
      generalize W7.drewN q4 = W8 at *
      have hXX : (X != X) = false := by simp
      have cd := fun W => code_was X W
      have : k = 0 ∨ k = 1 ∨ k = 2 := by omega
      rcases this with rfl | rfl | rfl
      · go_wp2_with (go_at_call 14; refine (cd _).mono ?_; rintro e w' ⟨rfl, hw⟩; subst w')
        go_roundw
        case rel => exact ⟨1, by omega, rfl, gf, cf, gw, cw, F, unhide LE8, unhide HF⟩
        case measure => simp [intOf]
      · go_wp2_with (first
          | (go_at_call 14; refine (cd _).mono ?_; rintro e w' ⟨rfl, hw⟩; subst w')
          | (go_at_call 24; refine (turn_any w1 _ _ _ _ _ _ _ _ 3 F (unhide LE8) (unhide HF) (by decide) (by decide)).mono ?_; rintro e w9 ⟨rfl, F2, l2, hF2⟩; have LE9 := hide l2; have HF9 := hide hF2; clear l2 hF2))
        go_roundw
        case rel => exact ⟨2, by omega, rfl, gf, cf, gw, cw, F2, unhide LE9, unhide HF9⟩
        case measure => simp [intOf]
      · go_wp2_with (go_at_call 14; refine (cd _).mono ?_; rintro e w' ⟨rfl, hw⟩; subst w')
        go_roundw
        case rel => exact ⟨3, by omega, rfl, gf, cf, gw, cw, F, unhide LE8, unhide HF⟩
        case measure => simp [intOf]
    · obtain ⟨gf, cf, gw, cw, F, lent, hF⟩ := st
      obtain rfl : k = 3 := by omega
      have LE := hide lent
      clear lent hF ST0
      go_wp2_with fail
      go_ret
      exact ⟨rfl, (unhide B1).trans (bel_grown (unhide LE).bel)⟩
end Go.Proofs.YtmfbbamaleagiaaDoor
