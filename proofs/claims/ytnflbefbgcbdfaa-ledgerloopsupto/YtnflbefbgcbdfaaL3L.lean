/- Ledger: Add of a bare one. -/
import Derived.Test.YtnflbefbgcbdfaaL3K
import Derived.Deep.DeepCutAuto
import Derived.Deep.RegionWith
import Derived.Deep.CutRange
import Derived.BigRegion
namespace Go.Proofs.Ytnflbefbgcbdfaa
open Go.RowKit
set_option linter.unusedVariables false
set_option maxRecDepth 100000
set_option maxHeartbeats 4000000

theorem may_zero {l : Lg} {s : St} (h : l.may s = 0) (hco : s.co = false) : s.nu = l.ne ∧ l.ne ≤ 4611686018427387903 ∧ s.el = false := by
  unfold Lg.may at h
  by_cases h1 : l.next.2 ≠ 0
  · rw [if_pos h1] at h; exact absurd h h1
  · rw [if_neg h1] at h
    by_cases h2 : s.nu ≠ l.next.1
    · rw [if_pos h2] at h; simp at h
    · rw [if_neg h2] at h
      have h2 : s.nu = l.next.1 := by simpa using h2
      have h1 : l.next.2 = 0 := by simpa using h1
      unfold Lg.next at h1 h2
      cases hop : l.op
      · simp [hop] at h1
      · simp only [hop] at h1 h2
        by_cases h3 : l.ne > 4611686018427387903
        · simp [h3] at h1
        · simp only [if_neg h3] at h2
          refine ⟨by simpa using h2, by omega, ?_⟩
          cases hel : s.el
          · rfl
          · rw [if_pos (.inr (.inr (.inr (.inr ⟨hel, hco⟩))))] at h
            simp at h

theorem add_bare (b q : Nat) (kv : Value) (l : Lg) (s : St) (fa : Option Addr) (fn fc : Nat) (w : World) (hb : Blk w b (l.cs kv q) 63) (hm : l.may s = 0) (hco : s.co = false) (hne : 0 ≤ l.ne) :
    Calls Try.prog 14 #[.pointer (some ⟨b, 0, none⟩), .agg (s.cs (.slice fa fn fc))] w fun e w' => e = .returned (.tuple #[.slice none 0 0, .int .i64 0]) ∧ Blk w' b ((⟨l.op, l.fi, s.nu + 1, l.la, s.ti, l.ls, l.ks, l.ac⟩ : Lg).cs kv q) 63 ∧ w.grownBy w' (some b) := by
  obtain ⟨m1, m2, m3⟩ := may_zero hm hco
  obtain ⟨W, hW⟩ : ∃ W, W = w.alloc (.cells (s.cs (.slice fa fn fc)) 36) := ⟨_, rfl⟩
  have gW : w.grownBy W none := by rw [hW]; exact grown_alloc _ _
  have hs : Blk W w.heap.size (s.cs (.slice fa fn fc)) 36 := by rw [hW]; exact Blk.new w _ _
  have ha := may_any b q kv l s (.slice fa fn fc) W (hb.grown gW)
  obtain ⟨bs, hbs⟩ : ∃ bs, bs = w.heap.size := ⟨_, rfl⟩
  rw [← hbs] at hs
  rw [hm] at ha
  clear hm
  have HBW := hide (hb.grown gW)
  obtain ⟨nu, ti, si, el, co, pr, tl, fs⟩ := s
  simp only at m1 m2 m3 hco
  subst hco
  subst m3
  have nu1 : 0 ≤ nu := by omega
  have nu2 : nu ≤ 4611686018427387903 := by omega
  clear m1 m2 hne
  simp only [St.cs] at hW hs ha ⊢
  obtain ⟨y0, y1, y2, y3, y4, y5, y6, y7⟩ : W.cell? ⟨bs, 0, none⟩ = some (.int .i64 nu) ∧ W.cell? ⟨bs, 1, none⟩ = some (.int .i64 ti) ∧ W.cell? ⟨bs, 2, none⟩ = some (.int .i64 si) ∧ W.cell? ⟨bs, 3, none⟩ = some (.bool false) ∧ W.cell? ⟨bs, 4, none⟩ = some (.bool false) ∧ W.cell? ⟨bs, 5, none⟩ = some (.bool pr) ∧ W.cell? ⟨bs, 6, none⟩ = some (.int .i64 tl) ∧ W.cell? ⟨bs, 7, none⟩ = some (.slice fa fn fc) := ⟨hs.cell 0 _ rfl, hs.cell 1 _ rfl, hs.cell 2 _ rfl, hs.cell 3 _ rfl, hs.cell 4 _ rfl, hs.cell 5 _ rfl, hs.cell 6 _ rfl, hs.cell 7 _ rfl⟩
  have GW := hide gW
  have HB := hide hb.lt
  clear gW hb hs
  go_enter Try.func14, Try.ntmps14
  go_upto_region 1 with fail
  rw [← hW, ← hbs]
  replace hW := hide hW
  replace hbs := hide hbs
  go_wp2_with fail
  refine ha.mono ?_
  rintro e Y ⟨rfl, gY⟩
  have BY := (unhide HBW).grown gY
  have v2 : Y.cell? ⟨b, 2, none⟩ = some (.int .i64 l.ne) := BY.cell 2 _ rfl
  have v4 : Y.cell? ⟨b, 4, none⟩ = some (.int .i64 l.ti) := BY.cell 4 _ rfl
  have f2 := BY.thaw 2
  have f4 := BY.thaw 4
  have x0 := cell_grown y0 gY
  have x1 := cell_grown y1 gY
  have x3 := cell_grown y3 gY
  have x4 := cell_grown y4 gY
  have nb : bs ≠ b := by
    have h1 := unhide HB
    have h2 := unhide hbs
    omega
  have GY := hide (And.intro (grown_trans (unhide GW) gY) BY)
  clear gY ha BY y0 y1 y2 y3 y4 y5 y6 y7
  go_upto_region 4 with fail
  go_region
  all_goals go_wp2_with fail
  all_goals go_ret2
  all_goals
    obtain ⟨g1, B1⟩ := unhide GY
    refine ⟨rfl, ?_, ?_⟩
    · first
        | exact (B1.setC 2 _).setC 4 _
        | exact (B1.setC 4 _).setC 2 _
    · first
        | exact grown_drewS (grown_at (grown_at (grown_any g1 b) _ _) _ _) _
        | exact grown_at (grown_at (grown_any g1 b) _ _) _ _
        | exact grown_at (grown_at (grown_any (grown_drew' g1) b) _ _) _ _
end Go.Proofs.Ytnflbefbgcbdfaa
