/- Ledger: Add of what may not be. -/
import Derived.Test.YtnflbefbgcbdfaaL3J
namespace Go.Proofs.Ytnflbefbgcbdfaa
open Go.RowKit
set_option linter.unusedVariables false
set_option maxRecDepth 100000
set_option maxHeartbeats 4000000

theorem add_bad (b q : Nat) (kv : Value) (l : Lg) (s : St) (fa : Option Addr) (fn fc : Nat) (w : World) (hb : Blk w b (l.cs kv q) 63) (hm : l.may s ≠ 0) :
    Calls Try.prog 14 #[.pointer (some ⟨b, 0, none⟩), .agg (s.cs (.slice fa fn fc))] w fun e w' => e = .returned (.tuple #[.slice none 0 0, .int .i64 (l.may s)]) ∧ w.grownBy w' none := by
  obtain ⟨W, hW⟩ : ∃ W, W = w.alloc (.cells (s.cs (.slice fa fn fc)) 36) := ⟨_, rfl⟩
  have gW : w.grownBy W none := by rw [hW]; exact grown_alloc _ _
  have hs : Blk W w.heap.size (s.cs (.slice fa fn fc)) 36 := by rw [hW]; exact Blk.new w _ _
  have ha := may_any b q kv l s (.slice fa fn fc) W (hb.grown gW)
  obtain ⟨bs, hbs⟩ : ∃ bs, bs = w.heap.size := ⟨_, rfl⟩
  rw [← hbs] at hs
  generalize l.may s = m at hm ha ⊢
  obtain ⟨nu, ti, si, el, co, pr, tl, fs⟩ := s
  simp only [St.cs] at hW hs ha ⊢
  obtain ⟨y0, y1, y2, y3, y4, y5, y6, y7⟩ : W.cell? ⟨bs, 0, none⟩ = some (.int .i64 nu) ∧ W.cell? ⟨bs, 1, none⟩ = some (.int .i64 ti) ∧ W.cell? ⟨bs, 2, none⟩ = some (.int .i64 si) ∧ W.cell? ⟨bs, 3, none⟩ = some (.bool el) ∧ W.cell? ⟨bs, 4, none⟩ = some (.bool co) ∧ W.cell? ⟨bs, 5, none⟩ = some (.bool pr) ∧ W.cell? ⟨bs, 6, none⟩ = some (.int .i64 tl) ∧ W.cell? ⟨bs, 7, none⟩ = some (.slice fa fn fc) := ⟨hs.cell 0 _ rfl, hs.cell 1 _ rfl, hs.cell 2 _ rfl, hs.cell 3 _ rfl, hs.cell 4 _ rfl, hs.cell 5 _ rfl, hs.cell 6 _ rfl, hs.cell 7 _ rfl⟩
  have GW := hide gW
  clear gW hb hs
  go_enter Try.func14, Try.ntmps14
  go_upto_region 1 with fail
  rw [← hW, ← hbs]
  replace hW := hide hW
  replace hbs := hide hbs
  go_wp2_with fail
  refine ha.mono ?_
  rintro e Y ⟨rfl, gY⟩
  have GY := hide (grown_trans (unhide GW) gY)
  clear gY ha
  go_wp2_with fail
  all_goals go_ret2
  all_goals exact ⟨rfl, unhide GY⟩
end Go.Proofs.Ytnflbefbgcbdfaa
