/- ParamsRead. -/
import Derived.Test.YtmfbbamaleagiaaDoorYB
namespace Go.Proofs.YtmfbbamaleagiaaDoor
open Go.RowKit
set_option linter.unusedVariables false
set_option maxRecDepth 100000
set_option maxHeartbeats 1000000

theorem zeroP_cs : zeroP.cs = #[.int .i64 0, .int .i64 0, .int .i64 0, .int .i64 0, .int .i64 0, .int .i64 0, .int .i64 0, .int .i64 0, .int .i64 0] := rfl

theorem read_walk (a : Option Addr) (l : List Int) (n c : Nat) (w : World) (h : Tb w) (hr : Rd w a l) (hn : l.length = n) (h1 : n ≤ c) (h2 : c ≤ maxLen) (hpl : ∀ x, a = some x → 0 < c → ∃ b o, x = ⟨b, o, none⟩) :
    Calls Tryd.prog 7 #[.slice a n c] w fun e w' => e = .returned (.bool true) ∧ w.grownBy w' none := by
  subst hn
  have aw := awake_any w h
  have de : Hid (∀ W, w.grownBy W none → Calls Tryd.prog 22 #[.slice a l.length c] W fun e w' => e = .returned (.tuple #[.agg (dec l).1.cs, .int .i64 (dec l).2]) ∧ W.grownBy w' none) := fun W g => decode_any a l c W (h.grown g) (rd_below hr (grown_bel g)) h1 h2 hpl
  obtain ⟨rd1, rd2⟩ := dec_read l hr.1
  generalize dec l = D at *
  obtain ⟨p, x⟩ := D
  simp only at *
  by_cases hx : x = 0
  · obtain ⟨hc, hle, hde⟩ := rd1 hx
    subst hx
    clear rd1 rd2
    have en := fun W (hW : Tb W) => encode_ok p W hW hc
    have ck := fun W (hW : Tb W) => check_any p W hW
    rw [hc] at ck
    have d2 : Hid (∀ W a c, Tb W → Rd W a (encF p) → (encF p).length ≤ c → c ≤ maxLen → (∀ x, a = some x → 0 < c → ∃ b o, x = ⟨b, o, none⟩) → Calls Tryd.prog 22 #[.slice a (encF p).length c] W fun e w' => e = .returned (.tuple #[.agg p.cs, .int .i64 0]) ∧ W.grownBy w' none) := by
      intro W a c hT hr h1 h2 h3
      have := decode_any a (encF p) c W hT hr h1 h2 h3
      rw [hde] at this
      exact this
    have hle' : ((encF p).length : Int) ≤ (l.length : Int) := by omega
    clear hr h1 h2 hpl hde hle
    go_enter Tryd.func7, Tryd.ntmps7
    go_wp2_with (first
      | (go_at_call 9; refine aw.mono ?_; rintro e W1 ⟨rfl, g1⟩; have dd := unhide de W1 g1; clear aw de)
      | (go_at_call 22; refine dd.mono ?_; rintro e W2 ⟨rfl, g2⟩; have G2 := g1.trans g2; clear g1 g2 dd)
      | (refine wpList_store_row rfl _ _ _ rfl W2.heap.size p.cs rfl rfl 23 _ (Blk.new W2 zero9 23) Tryd.sizePs rfl (Ps.one _) ?_; rw [World.setRow_alloc_new]; have B3 := Blk.new W2 p.cs 23; have G3 := G2.trans (World.grownBy_alloc W2 (.cells p.cs 23) none); generalize hW3 : W2.alloc (.cells p.cs 23) = W3 at *; have T3 := h.grown G3; clear G2)
      | (refine wpList_load_row rfl _ _ rfl W2.heap.size rfl 23 p.cs (0, 0) _ (by first | exact B3 | exact B4) Tryd.underlying23 rfl Tryd.sizePs ?_)
      | (go_at_call 11; refine (ck _ T3).mono ?_; rintro e W4 ⟨rfl, g4⟩; have B4 := B3.grown g4; have G4 := G3.trans g4; have T4 := T3.grown g4; clear g4 B3 G3 T3)
      | (go_at_call 16; refine (en _ T4).mono ?_; rintro e W5 ⟨a5, c5, rfl, r5, o5, g5⟩; have pl := own_pl o5; have B5 := hide (B4.grown g5); have G5 := hide (G4.trans g5); have T5 := T4.grown g5; have dd2 := unhide d2 W5 a5 c5 T5 r5 pl.1 pl.2.1 pl.2.2; clear g5 B4 G4 T4 o5 r5 pl)
      | (go_at_call 22; refine dd2.mono ?_; rintro e W6 ⟨rfl, g6⟩; have B6 := hide ((unhide B5).grown g6); have G6 := hide ((unhide G5).trans g6); clear g6 dd2 B5 G5)
      | (refine wpList_store_row rfl _ _ _ rfl W6.heap.size p.cs rfl rfl 23 _ (Blk.new W6 zero9 23) Tryd.sizePs rfl (Ps.one _) ?_; rw [World.setRow_alloc_new]; have G7 := hide ((unhide G6).trans (World.grownBy_alloc W6 (.cells p.cs 23) none)); obtain ⟨n0, n1, n2, n3, n4, n5, n6, n7, n8⟩ := ((unhide B6).alloc (.cells p.cs 23)).nine; obtain ⟨o0, o1, o2, o3, o4, o5, o6, o7, o8⟩ := (Blk.new W6 p.cs 23).nine; clear B6 G6 d2 en ck; generalize hW7 : W6.alloc (.cells p.cs 23) = W7 at *))
    go_ret
    exact ⟨rfl, unhide G7⟩
  · have hz := rd2 hx
    subst hz
    have hd : (x != 0) = true := by simpa using hx
    have hp : Hid True := trivial
    rw [zeroP_cs] at de
    clear rd1 rd2 hr h1 h2 hpl
    go_enter Tryd.func7, Tryd.ntmps7
    go_wp2_with (first
      | (go_at_call 9; refine aw.mono ?_; rintro e W1 ⟨rfl, g1⟩; have dd := unhide de W1 g1; clear aw de)
      | (go_at_call 22; refine dd.mono ?_; rintro e W2 ⟨rfl, g2⟩; have G2 := hide (g1.trans g2); clear g1 g2 dd))
    go_ret
    exact ⟨rfl, (unhide G2).trans (World.grownBy_alloc _ _ none)⟩
end Go.Proofs.YtmfbbamaleagiaaDoor
