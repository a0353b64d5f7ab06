/- New, est, Takes; the document's example. -/
import Derived.Test.YtmcodfkmdpbjiaaJD
import Derived.Test.YtmcodfkmdpbjiaaJE
namespace Go.Proofs.Ytmcodfkmdpbjiaa
open Go.RowKit
set_option linter.unusedVariables false
set_option maxRecDepth 100000
set_option maxHeartbeats 2000000

def es0 (i g : Int) : Es := ⟨g, false, 0, 0, i, i / 2, 0, false⟩
def rs0 (i g : Int) : Rs := ⟨i, g, 0, false, false, 0, 0, 0, 0, 0⟩
abbrev fitsF (i g : Int) : Prop := (1 ≤ i ∧ i ≤ 60000000) ∧ 1 ≤ g ∧ g ≤ 1000000

theorem new_ok (i g : Int) (h : fitsF i g) (w : World) : Calls Try.prog 10 #[.int .i64 i, .int .i64 g] w fun e w' => e = .returned (.tuple #[ptr w.heap.size, .int .i64 0]) ∧ w' = w.alloc (.cells (esc (es0 i g)) 54) := by
  obtain ⟨⟨i1, i2⟩, g1, g2⟩ := h
  have n1 : ¬ i < 1 := by omega
  have n2 : ¬ (60000000 : Int) < i := by omega
  have n3 : ¬ g < 1 := by omega
  have n4 : ¬ (1000000 : Int) < g := by omega
  go_enter Try.func10, Try.ntmps10
  go_wp2
  go_ret2
  exact ⟨rfl, rfl⟩

theorem new_no (i g : Int) (h : ¬ fitsF i g) (w : World) : Calls Try.prog 10 #[.int .i64 i, .int .i64 g] w fun e w' => e = .returned (.tuple #[.pointer none, .int .i64 1]) ∧ w' = w := by
  have h' : i < 1 ∨ 60000000 < i ∨ g < 1 ∨ 1000000 < g := by unfold fitsF at h; omega
  clear h
  by_cases n1 : i < 1
  · go_enter Try.func10, Try.ntmps10
    go_wp2
    go_ret2
    exact ⟨rfl, rfl⟩
  · by_cases n2 : (60000000 : Int) < i
    · go_enter Try.func10, Try.ntmps10
      go_wp2
      go_ret2
      exact ⟨rfl, rfl⟩
    · by_cases n3 : g < 1
      · go_enter Try.func10, Try.ntmps10
        go_wp2
        go_ret2
        exact ⟨rfl, rfl⟩
      · have n4 : (1000000 : Int) < g := by omega
        go_enter Try.func10, Try.ntmps10
        go_wp2
        go_ret2
        exact ⟨rfl, rfl⟩

theorem takes_ok (i g : Int) (h : fitsF i g) (w : World) : Calls Try.prog 11 #[.int .i64 i, .int .i64 g] w fun e w' => e = .returned (.bool true) ∧ w' = w := by
  obtain ⟨⟨i1, i2⟩, g1, g2⟩ := h
  go_enter Try.func11, Try.ntmps11
  go_wp2
  go_ret
  exact ⟨rfl, rfl⟩
theorem takes_no (i g : Int) (h : ¬ fitsF i g) (w : World) : Calls Try.prog 11 #[.int .i64 i, .int .i64 g] w fun e w' => e = .returned (.bool false) ∧ w' = w := by
  have h' : i < 1 ∨ 60000000 < i ∨ g < 1 ∨ 1000000 < g := by unfold fitsF at h; omega
  clear h
  by_cases n1 : 1 ≤ i
  · by_cases n2 : i ≤ 60000000
    · by_cases n3 : 1 ≤ g
      · have n4 : ¬ g ≤ 1000000 := by omega
        go_enter Try.func11, Try.ntmps11
        go_wp2
        go_ret
        exact ⟨rfl, rfl⟩
      · go_enter Try.func11, Try.ntmps11
        go_wp2
        go_ret
        exact ⟨rfl, rfl⟩
    · go_enter Try.func11, Try.ntmps11
      go_wp2
      go_ret
      exact ⟨rfl, rfl⟩
  · go_enter Try.func11, Try.ntmps11
    go_wp2
    go_ret
    exact ⟨rfl, rfl⟩

def eI (i : Int) : Int := 1 + sp i % 60000000
def eG (g : Int) : Int := 1 + sp g % 1000000
theorem e_fits (i g : Int) : fitsF (eI i) (eG g) := by unfold eI eG; have := sp_b i; have := sp_b g; omega

theorem results_tc {P : Program} {fn : Func} {p u : Tmp} {tp : TypeId} (h : fn.results = #[.tmp u, .cell p tp]) (tmps : Array Value) (w : World) (g1 : Nat) (c1 : Array Value) (d1 : TypeDesc)
    (hp : tmps.getD p undef = .pointer (some ⟨g1, 0, none⟩)) (b1 : Blk w g1 c1 tp)
    (hu1 : P.underlying tp = some d1) (hd1 : (match d1 with | .struct _ | .array _ _ => true | _ => false) = true) (hi1 : (P.info? tp).map (·.size) = some c1.size) :
    (results fn tmps).run P w = .ok (.tuple #[tmps.getD u undef, .agg c1]) w := by
  have hp' : tmps[p]?.getD undef = .pointer (some ⟨g1, 0, none⟩) := by simpa using hp
  simp [results, h, hp', asAddr, run_loadVar_row w g1 tp tp c1 (0, 0) d1 b1 hu1 hd1 hi1]
theorem Try.sizeS : (Try.prog.info? 32).map (·.size) = some 10 := by kernel_rfl

theorem est_any (i g : Int) (w : World) : Calls Try.prog 12 #[.int .i64 i, .int .i64 g] w fun e w' => e = .returned (.tuple #[ptr (w.heap.size + 1), .agg (rsc (rs0 (eI i) (eG g)))]) ∧ w' = (w.alloc (.cells (rsc (rs0 (eI i) (eG g))) 32)).alloc (.cells (esc (es0 (eI i) (eG g))) 54) := by
  have h1 := into_any i
  have h2 := into_any g
  have hn := fun W => new_ok _ _ (e_fits i g) W
  obtain ⟨i1, i2⟩ := sp_b i
  obtain ⟨g1, g2⟩ := sp_b g
  have E := hide (Blk.two w (rsc (rs0 (eI i) (eG g))) (esc (es0 (eI i) (eG g))) 32 54).1
  unfold eI eG at *
  unfold rsc rs0 at *
  generalize sp i = I at *
  generalize sp g = G at *
  go_enter Try.func12, Try.ntmps12
  go_wp2_with fail
  refine (h1 _).mono ?_
  rintro e W ⟨rfl, rfl⟩
  go_wp2_with fail
  refine (h2 _).mono ?_
  rintro e W ⟨rfl, rfl⟩
  go_wp2_with fail
  refine (hn _).mono ?_
  rintro e W1 ⟨rfl, rfl⟩
  go_wp2
  refine bodyPost_ret (results_tc rfl _ _ _ _ _ rfl (unhide E) Try.underlying32 rfl Try.sizeS) rfl ?_
  exact ⟨rfl, rfl⟩
end Go.Proofs.Ytmcodfkmdpbjiaa
