/- Sample, New, est, Takes. -/
import Derived.Test.YtmcodfkmdpbjiaaJC
namespace Go.Proofs.Ytmcodfkmdpbjiaa
open Go.RowKit
set_option linter.unusedVariables false
set_option maxRecDepth 100000
set_option maxHeartbeats 2000000

def smpF (now latest delay : Int) (s : Es) : Es :=
  if s.has then { gran := s.gran, has := true, latest := sp latest, least := leastF s.restart (sp latest) s.least, smooth := smoF s.smooth (adjF (leastF s.restart (sp latest) s.least) (sp latest) (sp delay)), var := varF s.var s.smooth (adjF (leastF s.restart (sp latest) s.least) (sp latest) (sp delay)), first := s.first, restart := false }
  else { gran := s.gran, has := true, latest := sp latest, least := sp latest, smooth := sp latest, var := sp latest / 2, first := sp now, restart := false }

theorem EB.set7 {w : World} {b : Nat} {s : Es} (h : EB w b s) (v1 v2 v3 v4 v5 v6 v7 : Value) :
    Blk (((((((w.setCell ⟨b, 1, none⟩ v1).setCell ⟨b, 2, none⟩ v2).setCell ⟨b, 3, none⟩ v3).setCell ⟨b, 4, none⟩ v4).setCell ⟨b, 5, none⟩ v5).setCell ⟨b, 6, none⟩ v6).setCell ⟨b, 7, none⟩ v7) b #[.int .i64 s.gran, v1, v2, v3, v4, v5, v6, v7] 54 :=
  ((((((Blk.setC h 1 v1).setC 2 v2).setC 3 v3).setC 4 v4).setC 5 v5).setC 6 v6).setC 7 v7
theorem grown_set7 {w W : World} {b : Nat} (g : w.grownBy W (some b)) (v1 v2 v3 v4 v5 v6 v7 : Value) :
    w.grownBy (((((((W.setCell ⟨b, 1, none⟩ v1).setCell ⟨b, 2, none⟩ v2).setCell ⟨b, 3, none⟩ v3).setCell ⟨b, 4, none⟩ v4).setCell ⟨b, 5, none⟩ v5).setCell ⟨b, 6, none⟩ v6).setCell ⟨b, 7, none⟩ v7) (some b) :=
  grown_at (grown_at (grown_at (grown_at (grown_at (grown_at (grown_at g 1 v1) 2 v2) 3 v3) 4 v4) 5 v5) 6 v6) 7 v7
theorem EB.grown {w W : World} {b : Nat} {s : Es} (h : EB w b s) (g : w.grownBy W none) : EB W b s := Blk.grown h g
theorem EB.full {w : World} {b : Nat} {s : Es} (h : EB w b s) : (∀ j, w.frozen? ⟨b, j, none⟩ = false) ∧ w.cell? ⟨b, 0, none⟩ = some (.int .i64 s.gran) ∧ w.cell? ⟨b, 1, none⟩ = some (.bool s.has) ∧ w.cell? ⟨b, 2, none⟩ = some (.int .i64 s.latest) ∧ w.cell? ⟨b, 3, none⟩ = some (.int .i64 s.least) ∧ w.cell? ⟨b, 4, none⟩ = some (.int .i64 s.smooth) ∧ w.cell? ⟨b, 5, none⟩ = some (.int .i64 s.var) ∧ w.cell? ⟨b, 6, none⟩ = some (.int .i64 s.first) ∧ w.cell? ⟨b, 7, none⟩ = some (.bool s.restart) := ⟨h.thaws, h.cells⟩

theorem sample_any (b : Nat) (s : Es) (now latest delay : Int) (w : World) (h : EB w b s) (ok : s.Ok) :
    Calls Try.prog 14 #[ptr b, .int .i64 now, .int .i64 latest, .int .i64 delay] w fun e w' => e = .returned (.tuple #[]) ∧ EB w' b (smpF now latest delay s) ∧ w.grownBy w' (some b) := by
  have hs1 := span_any latest
  have hs2 := span_any delay
  have hs3 := span_any now
  obtain ⟨t, c0, c1, c2, c3, c4, c5, c6, c7⟩ := h.full
  have H := hide h
  have GD : Hid (∀ X, World.grownBy w.drew X none → World.grownBy w X (some b)) := fun X g => grown_any (w := w) ⟨g.os, g.tape, g.output, g.size, g.block⟩ b
  cases hh : s.has with
  | false =>
    have hf := fun W => first_any (sp now) (sp latest) (sp_b latest) W
    have E : Hid (esc (smpF now latest delay s) = #[.int .i64 s.gran, .bool true, .int .i64 (sp latest), .int .i64 (sp latest), .int .i64 (sp latest), .int .i64 (sp latest / 2), .int .i64 (sp now), .bool false]) := by show _ = _; unfold smpF; rw [hh]; rfl
    rw [hh] at c1
    unfold rtc at hf
    clear h ok
    go_enter Try.func14, Try.ntmps14
    go_wp2_with fail
    refine (hs1 _).mono ?_
    rintro e W ⟨rfl, rfl⟩
    go_wp2_with fail
    refine (hs2 _).mono ?_
    rintro e W ⟨rfl, rfl⟩
    go_wp2_with fail
    refine (hs3 _).mono ?_
    rintro e W ⟨rfl, rfl⟩
    go_wp2_with fail
    refine (hf _).mono ?_
    rintro e W1 ⟨rfl, g1⟩
    have h1 := (unhide H).grown g1
    obtain ⟨t', d0, d1, d2, d3, d4, d5, d6, d7⟩ := h1.full
    have F := hide (And.intro (h1.set7 (.bool true) (.int .i64 (sp latest)) (.int .i64 (sp latest)) (.int .i64 (sp latest)) (.int .i64 (sp latest / 2)) (.int .i64 (sp now)) (.bool false)) (grown_set7 (grown_any g1 b) (.bool true) (.int .i64 (sp latest)) (.int .i64 (sp latest)) (.int .i64 (sp latest)) (.int .i64 (sp latest / 2)) (.int .i64 (sp now)) (.bool false)))
    clear h1 g1 t c0 c1 c2 c3 c4 c5 c6 c7 hs1 hs2 hs3 hf
    go_wp2
    refine bodyPost_end (results_none rfl _ _ _) rfl ?_
    refine ⟨rfl, ?_, (unhide F).2⟩
    unfold EB
    rw [unhide E]
    exact (unhide F).1
  | true =>
    have hf := fun W => further_any true s.latest s.least s.smooth s.var s.first (sp latest) (sp delay) s.restart ok.m ok.s ok.v (sp_b latest) (sp_b delay) W
    generalize hL : leastF s.restart (sp latest) s.least = L at *
    generalize hT : adjF L (sp latest) (sp delay) = T at *
    have E : Hid (esc (smpF now latest delay s) = #[.int .i64 s.gran, .bool true, .int .i64 (sp latest), .int .i64 L, .int .i64 (smoF s.smooth T), .int .i64 (varF s.var s.smooth T), .int .i64 s.first, .bool false]) := by show _ = _; unfold smpF; rw [hh, ← hT, ← hL]; rfl
    rw [hh] at c1
    unfold rtc at hf
    clear h ok hL hT
    generalize smoF s.smooth T = SM at *
    generalize varF s.var s.smooth T = VA at *
    go_enter Try.func14, Try.ntmps14
    go_wp2_with fail
    refine (hs1 _).mono ?_
    rintro e W ⟨rfl, rfl⟩
    go_wp2_with fail
    refine (hs2 _).mono ?_
    rintro e W ⟨rfl, rfl⟩
    go_wp2_with fail
    go_region_with (go_at_call 25; refine (hf _).mono ?_; rintro e W1 ⟨rfl, g1⟩; have h1 := EB.grown (w := World.drew _) (unhide H) g1; obtain ⟨t', d0, d1, d2, d3, d4, d5, d6, d7⟩ := h1.full)
    all_goals
      have F := hide (And.intro (h1.set7 (.bool true) (.int .i64 (sp latest)) (.int .i64 L) (.int .i64 SM) (.int .i64 VA) (.int .i64 s.first) (.bool false)) (grown_set7 (unhide GD W1 g1) (.bool true) (.int .i64 (sp latest)) (.int .i64 L) (.int .i64 SM) (.int .i64 VA) (.int .i64 s.first) (.bool false)))
      clear h1 g1 t c0 c1 c2 c3 c4 c5 c6 c7 hs1 hs2 hs3 hf
      go_wp2
      refine bodyPost_end (results_none rfl _ _ _) rfl ?_
      refine ⟨rfl, ?_, (unhide F).2⟩
      unfold EB
      rw [unhide E]
      exact (unhide F).1
end Go.Proofs.Ytmcodfkmdpbjiaa
