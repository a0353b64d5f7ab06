/- ParamsBack. -/
import Derived.Test.YtmfbbamaleagiaaDoorXZ
import Derived.Test.YtmfbbamaleagiaaDoorYA
namespace Go.Proofs.YtmfbbamaleagiaaDoor
open Go.RowKit
set_option linter.unusedVariables false
set_option maxRecDepth 100000
set_option maxHeartbeats 1000000

theorem own_pl {base : Nat} {w : World} {a : Option Addr} {n c : Nat} {d : List Int} (h : OwnB base w (.slice a n c) d) : n ≤ c ∧ c ≤ maxLen ∧ ∀ x, a = some x → 0 < c → ∃ b o, x = ⟨b, o, none⟩ := by
  rcases h.2 with ⟨h1, h2⟩ | ⟨g, cap, cur, e1, -, -, hc, hm, -⟩
  · injection h1 with h3 h4 h5
    subst h3 h4 h5
    exact ⟨Nat.le_refl _, Nat.zero_le _, fun x e => by cases e⟩
  · injection e1 with h3 h4 h5
    subst h3 h4 h5
    exact ⟨hc, hm, fun x e _ => by cases e; exact ⟨_, _, rfl⟩⟩

theorem Blk.nine {w : World} {g : Nat} {p : Ps} {t : TypeId} (h : Blk w g p.cs t) : w.cell? ⟨g, 0, none⟩ = some (.int .i64 p.a0) ∧ w.cell? ⟨g, 1, none⟩ = some (.int .i64 p.a1) ∧ w.cell? ⟨g, 2, none⟩ = some (.int .i64 p.a2) ∧ w.cell? ⟨g, 3, none⟩ = some (.int .i64 p.a3) ∧
    w.cell? ⟨g, 4, none⟩ = some (.int .i64 p.a4) ∧ w.cell? ⟨g, 5, none⟩ = some (.int .i64 p.a5) ∧ w.cell? ⟨g, 6, none⟩ = some (.int .i64 p.a6) ∧ w.cell? ⟨g, 7, none⟩ = some (.int .i64 p.a7) ∧ w.cell? ⟨g, 8, none⟩ = some (.int .i64 p.a8) :=
  ⟨h.cell 0 _ rfl, h.cell 1 _ rfl, h.cell 2 _ rfl, h.cell 3 _ rfl, h.cell 4 _ rfl, h.cell 5 _ rfl, h.cell 6 _ rfl, h.cell 7 _ rfl, h.cell 8 _ rfl⟩

theorem back_walk (p : Ps) (w : World) (h : Tb w) : Calls Tryd.prog 6 #[.agg p.cs] w fun e w' => e = .returned (.bool true) ∧ w.grownBy w' none := by
  have G0 := World.grownBy_alloc w (.cells p.cs 23) none
  have B0 := Blk.new w p.cs 23
  have T0 := h.grown G0
  have aw := fun W (hW : Tb W) => awake_any W hW
  have ck := fun W (hW : Tb W) => check_any p W hW
  by_cases hc : checkF p = 0
  · have en := fun W (hW : Tb W) => encode_ok p W hW hc
    have de : Hid (∀ W a c, Tb W → Rd W a (encF p) → (encF p).length ≤ c → c ≤ maxLen → (∀ x, a = some x → 0 < c → ∃ b o, x = ⟨b, o, none⟩) → Calls Tryd.prog 22 #[.slice a (encF p).length c] W fun e w' => e = .returned (.tuple #[.agg p.cs, .int .i64 0]) ∧ W.grownBy w' none) := by
      intro W a c hT hr h1 h2 h3
      have := decode_any a (encF p) c W hT hr h1 h2 h3
      rw [dec_enc p hc] at this
      exact this
    rw [hc] at ck
    go_enter Tryd.func6, Tryd.ntmps6
    go_wp2_with (first
      | (go_at_call 9; refine (aw _ T0).mono ?_; rintro e W1 ⟨rfl, g1⟩; have B1 := B0.grown g1; have G1 := G0.trans g1; have T1 := T0.grown g1; clear g1 B0 G0 T0)
      | (refine wpList_load_row rfl _ _ rfl w.heap.size rfl 23 p.cs (0, 0) _ (by first | exact B1 | exact B2) Tryd.underlying23 rfl Tryd.sizePs ?_)
      | (go_at_call 11; refine (ck _ T1).mono ?_; rintro e W2 ⟨rfl, g2⟩; have B2 := B1.grown g2; have G2 := G1.trans g2; have T2 := T1.grown g2; clear g2 B1 G1 T1)
      | (go_at_call 16; refine (en _ T2).mono ?_; rintro e W3 ⟨a, c, rfl, r3, o3, g3⟩; have pl := own_pl o3; have B3 := hide (B2.grown g3); have G3 := hide (G2.trans g3); have T3 := T2.grown g3; have dd := unhide de W3 a c T3 r3 pl.1 pl.2.1 pl.2.2; clear g3 B2 G2 T2 o3 r3 pl)
      | (go_at_call 22; refine dd.mono ?_; rintro e W4 ⟨rfl, g4⟩; have B4 := hide ((unhide B3).grown g4); have G4 := hide ((unhide G3).trans g4); clear g4 dd B3 G3)
      | (refine wpList_store_row rfl _ _ _ rfl W4.heap.size p.cs rfl rfl 23 _ (Blk.new W4 zero9 23) Tryd.sizePs rfl (Ps.one _) ?_; rw [World.setRow_alloc_new]; have G5 := hide ((unhide G4).trans (World.grownBy_alloc W4 (.cells p.cs 23) none)); obtain ⟨n0, n1, n2, n3, n4, n5, n6, n7, n8⟩ := ((unhide B4).alloc (.cells p.cs 23)).nine; obtain ⟨o0, o1, o2, o3, o4, o5, o6, o7, o8⟩ := (Blk.new W4 p.cs 23).nine; clear B4 G4 de en ck aw; generalize hW5 : W4.alloc (.cells p.cs 23) = W5 at *))
    go_ret
    exact ⟨rfl, unhide G5⟩
  · have h62 : checkF p = 62 := (checkFrom_two _ _ _).resolve_left hc
    have en : ∀ W, Tb W → Calls Tryd.prog 16 #[.agg p.cs] W fun e w' => ∃ a c, e = .returned (.tuple #[.slice a 0 c, .int .i64 62]) ∧ W.grownBy w' none := by
      intro W hW
      refine (encode_any p W hW).mono ?_
      rintro e w' ⟨s, rfl, ho, hg⟩
      rw [if_neg hc] at ho
      obtain ⟨a, c, rfl⟩ := ho.shape
      exact ⟨a, c, by rw [h62]; rfl, hg⟩
    rw [h62] at ck
    go_enter Tryd.func6, Tryd.ntmps6
    go_wp2_with (first
      | (go_at_call 9; refine (aw _ T0).mono ?_; rintro e W1 ⟨rfl, g1⟩; have B1 := B0.grown g1; have G1 := G0.trans g1; have T1 := T0.grown g1; clear g1 B0 G0 T0)
      | (refine wpList_load_row rfl _ _ rfl w.heap.size rfl 23 p.cs (0, 0) _ (by first | exact B1 | exact B2) Tryd.underlying23 rfl Tryd.sizePs ?_)
      | (go_at_call 11; refine (ck _ T1).mono ?_; rintro e W2 ⟨rfl, g2⟩; have B2 := B1.grown g2; have G2 := G1.trans g2; have T2 := T1.grown g2; clear g2 B1 G1 T1)
      | (go_at_call 16; refine (en _ T2).mono ?_; rintro e W3 ⟨a, c, rfl, g3⟩; have G3 := hide (G2.trans g3); clear g3 B2 G2 T2))
    go_ret
    exact ⟨rfl, unhide G3⟩
end Go.Proofs.YtmfbbamaleagiaaDoor
