/- ParamsChecks. -/
import Derived.Test.YtmfbbamaleagiaaDoorYC
import Derived.Deep.RegionHeld3
namespace Go.Proofs.YtmfbbamaleagiaaDoor
open Go.RowKit
set_option linter.unusedVariables false
set_option maxRecDepth 100000
set_option maxHeartbeats 1000000

theorem code_was (n : Int) (w : World) : Calls Tryd.prog 14 #[.int .i64 n] w fun e w' => e = .returned (.int .i64 n) ∧ w' = w := by
  go_enter Tryd.func14, Tryd.ntmps14
  go_wp2
  go_ret
  exact ⟨rfl, rfl⟩

theorem checks_walk (p : Ps) (w : World) (h : Tb w) : Calls Tryd.prog 3 #[.agg p.cs] w fun e w' => e = .returned (.bool true) ∧ w.grownBy w' none := by
  have G0 := World.grownBy_alloc w (.cells p.cs 23) none
  have B0 := Blk.new w p.cs 23
  have T0 := h.grown G0
  have aw := fun W (hW : Tb W) => awake_any W hW
  have df := fun W (hW : Tb W) => default_any W hW
  have ck := fun W (hW : Tb W) => check_any p W hW
  have rk := fun W => rcheck_any p W
  have rd := fun W => rdefault_any W
  have cd := fun W => code_was (checkF p) W
  have hcc : (checkF p == checkF p) = true := by simp
  generalize checkF p = C at *
  go_enter Tryd.func3, Tryd.ntmps3
  go_wp2_with (first
    | (go_at_call 9; refine (aw _ T0).mono ?_; rintro e W1 ⟨rfl, g1⟩; have B1 := B0.grown g1; have G1 := G0.trans g1; have T1 := T0.grown g1; clear g1 B0 G0 T0 aw)
    | (go_at_call 10; refine (df _ T1).mono ?_; rintro e W2 ⟨rfl, g2⟩; have B2 := B1.grown g2; have G2 := G1.trans g2; have T2 := T1.grown g2; clear g2 B1 G1 T1 df)
    | (refine wpList_store_row rfl _ _ _ rfl W2.heap.size dflt.cs rfl rfl 23 _ (Blk.new W2 zero9 23) Tryd.sizePs rfl (Ps.one _) ?_; rw [World.setRow_alloc_new]; have D3 := Blk.new W2 dflt.cs 23; have g3 := World.grownBy_alloc W2 (.cells dflt.cs 23) none; have B3 := B2.grown g3; have G3 := G2.trans g3; have T3 := T2.grown g3; clear g3 B2 G2 T2; generalize hW3 : W2.alloc (.cells dflt.cs 23) = W3 at *)
    | (refine wpList_load_row rfl _ _ rfl w.heap.size rfl 23 p.cs (0, 0) _ (by first | exact B3 | exact B4) Tryd.underlying23 rfl Tryd.sizePs ?_)
    | (go_at_call 11; refine (ck _ T3).mono ?_; rintro e W4 ⟨rfl, g4⟩; have B4 := B3.grown g4; have G4 := G3.trans g4; have D4 := D3.grown g4; clear g4 B3 G3 T3 D3 ck)
    | (go_at_call 12; refine (rk _).mono ?_; rintro e W5 ⟨rfl, g5⟩; have G5 := G4.trans g5; have D5 := D4.grown g5; clear g5 B4 G4 D4 rk))
  obtain ⟨n0, n1, n2, n3, n4, n5, n6, n7, n8⟩ := D5.nine
  have HD := hide D5; have HG := hide G5
  rw [dflt_cs] at rd
  simp only [dflt] at n0 n1 n2 n3 n4 n5 n6 n7 n8
  clear D5 G5 h hW3
  generalize W2.heap.size = d at *
  go_region_held3 (fun W => W.cell? ⟨d, 0, none⟩ = some (.int .i64 0) ∧ W.cell? ⟨d, 1, none⟩ = some (.int .i64 0) ∧ W.cell? ⟨d, 2, none⟩ = some (.int .i64 0) ∧ W.cell? ⟨d, 3, none⟩ = some (.int .i64 0) ∧ W.cell? ⟨d, 4, none⟩ = some (.int .i64 0) ∧ W.cell? ⟨d, 5, none⟩ = some (.int .i64 0) ∧ W.cell? ⟨d, 6, none⟩ = some (.int .i64 0) ∧ W.cell? ⟨d, 7, none⟩ = some (.int .i64 3) ∧ W.cell? ⟨d, 8, none⟩ = some (.int .i64 25000)) (go_keep)
    (first
      | (go_at_call 13; refine (rd _).mono ?_; rintro e W6 ⟨rfl, g6⟩; have z6 := Blk.nine (Blk.grown (by exact unhide HD) g6); obtain ⟨z0, z1, z2, z3, z4, z5, z6, z7, z8⟩ := z6; simp only [dflt] at z0 z1 z2 z3 z4 z5 z6 z7 z8; have HG6 : Hid (World.grownBy w W6 none) := World.grownBy.trans (by first | exact unhide HG | exact grown_drew' (unhide HG) | exact grown_drewN (unhide HG)) g6; clear g6 rd)
      | (go_at_call 14; refine (cd _).mono ?_; rintro e W7 ⟨rfl, hW⟩; subst hW; clear cd))
  all_goals go_wp2
  all_goals go_ret
  all_goals exact ⟨rfl, unhide HG6⟩
end Go.Proofs.YtmfbbamaleagiaaDoor
