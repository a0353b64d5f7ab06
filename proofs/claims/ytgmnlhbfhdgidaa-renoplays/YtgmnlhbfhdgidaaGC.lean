/- The program's functions: raise, Acked, Event, New. -/
import Derived.Test.YtgmnlhbfhdgidaaGB2
import Derived.LoopIn
import Derived.Deep.CutRange
namespace Go.Proofs.Ytgmnlhbfhdgidaa
open Go.RowKit
set_option linter.unusedVariables false
set_option maxRecDepth 100000
set_option maxHeartbeats 4000000

/-- How far the rising has come. -/
structure UpI (w wr : World) (b : Nat) (s : Cs) (k : Nat) (r z : Int) : Prop where
  at_ : CB wr b { s with size := z, rest := r }
  grown : w.grownBy wr (some b)
  fin : upF s.mtu k (r, z) = riseF s.mtu s.rest s.size
  kb : r < k
  r0 : 0 ≤ r
  z0 : 2 * s.mtu ≤ z
  sum : r + z ≤ s.rest + s.size
theorem UpI.step {w wr : World} {b : Nat} {s : Cs} {k : Nat} {r z : Int} (hm : 1200 ≤ s.mtu ∧ s.mtu ≤ 9000) (h : UpI w wr b s (k + 1) r z) (hl : z ≤ r) :
    UpI w ((wr.setCell ⟨b, 6, none⟩ (.int .i64 (r - z))).setCell ⟨b, 2, none⟩ (.int .i64 (z + s.mtu))) b s k (r - z) (z + s.mtu) := by
  have z0 := h.z0
  have kb := h.kb
  have sm := h.sum
  refine ⟨?_, grown_at (grown_at h.grown 6 _) 2 _, ?_, by omega, by omega, by omega, by omega⟩
  · exact Blk.setC (Blk.setC h.at_ 6 (.int .i64 (r - z))) 2 (.int .i64 (z + s.mtu))
  · rw [← h.fin, upF_step s.mtu k (r, z) hl]

theorem UpI.draw {w wr : World} {b : Nat} {s : Cs} {k : Nat} {r z : Int} (h : UpI w wr b s k r z) (q : Nat) : UpI w (wr.drewN q) b s k r z :=
  ⟨h.at_, grown_drewS h.grown q, h.fin, h.kb, h.r0, h.z0, h.sum⟩

theorem raise_any (b : Nat) (s : Cs) (x : Int) (w : World) (h : CB w b s) (hx : 0 ≤ x ∧ x ≤ 65535) (hm : 1200 ≤ s.mtu ∧ s.mtu ≤ 9000) (hz : 2 * s.mtu ≤ s.size ∧ s.size + s.rest ≤ 1000000000000) (hr : 0 ≤ s.rest ∧ s.rest < s.size) :
    Calls Try.prog 38 #[ptr b, .int .i64 x] w fun e w' => e = .returned (.tuple #[]) ∧ CB w' b (raiseF x s) ∧ w.grownBy w' (some b) := by
  obtain ⟨t, c0, -, c2, c3, -, -, c6⟩ := h.full
  obtain ⟨x1, x2⟩ := hx
  obtain ⟨m1, m2⟩ := hm
  obtain ⟨z1, z2⟩ := hz
  obtain ⟨r1, r2⟩ := hr
  by_cases hlt : s.size < s.thr
  · have F := hide (And.intro (show ∀ q, CB ((w.drewN q).setCell ⟨b, 2, none⟩ (.int .i64 (s.size + x))) b (raiseF x s) from fun q => by unfold raiseF; rw [if_pos hlt]; exact Blk.setC (w := w.drewN q) h 2 _) (fun q => grown_at (grown_drewS (World.grownBy.refl w (some b)) q) 2 (.int .i64 (s.size + x))))
    clear h
    generalize raiseF x s = s' at *
    generalize s.size = z at *
    generalize s.thr = th at *
    have hw : IntKind.i64.wrap (z + x) = z + x := by rw [IntKind.wrap_i64]; omega
    go_enter Try.func38, Try.ntmps38
    go_wp2_with fail
    go_quiet (fail)
    go_wp2_with fail
    refine bodyPost_ret (results_none rfl _ _ _) rfl ?_
    exact ⟨rfl, (unhide F).1 _, (unhide F).2 _⟩
  · have R : Hid (raiseF x s = { s with size := (riseF s.mtu (s.rest + x) s.size).2, rest := (riseF s.mtu (s.rest + x) s.size).1 }) := by show _ = _; unfold raiseF; rw [if_neg hlt]
    have S0 : Hid (∀ q, UpI w ((w.drewN q).setCell ⟨b, 6, none⟩ (.int .i64 (s.rest + x))) b { s with rest := s.rest + x } ((s.rest + x).toNat + 1) (s.rest + x) s.size) := fun q =>
      ⟨Blk.setC (w := w.drewN q) h 6 _, grown_at (grown_drewS (World.grownBy.refl w (some b)) q) 6 (.int .i64 (s.rest + x)), rfl, by omega, by omega, z1, Int.le_refl _⟩
    clear h
    have hw : IntKind.i64.wrap (s.rest + x) = s.rest + x := by rw [IntKind.wrap_i64]; omega
    go_enter Try.func38, Try.ntmps38
    go_wp2_with fail
    go_quiet (fail)
    go_wp2_with fail
    go_loopw [] (fun wr => ∃ (k : Nat) (r z : Int), Hid (UpI w wr b { s with rest := s.rest + x } k r z)) (fun wr => (intOf ((wr.cell? ⟨b, 6, none⟩).getD (.int .i64 0))).toNat)
    case atStart => exact ⟨_, _, _, unhide S0 _⟩
    case round =>
      clear S0 t c0 c2 c3 c6
      obtain ⟨k, r, z, H⟩ := hrel
      have u := unhide H
      obtain ⟨t, c0, -, c2, -, -, -, c6⟩ := u.at_.full
      have kb := u.kb
      have r0 := u.r0
      have z0 := u.z0
      have sm := u.sum
      simp only at c0 c2 c6 sm z0
      by_cases hl : z ≤ r
      · obtain ⟨k, rfl⟩ : ∃ k', k = k' + 1 := ⟨k - 1, by omega⟩
        have ST := hide (fun q => UpI.step (s := { s with rest := s.rest + x }) ⟨m1, m2⟩ (u.draw q) hl)
        clear u H
        have w1 : IntKind.i64.wrap (r - z) = r - z := by rw [IntKind.wrap_i64]; omega
        have w2 : IntKind.i64.wrap (z + s.mtu) = z + s.mtu := by rw [IntKind.wrap_i64]; omega
        go_wp2_with fail
        go_quiet (fail)
        go_wp2_with fail
        go_region
        go_wp2_with fail
        go_region
        go_wp2_with fail
        have c6' := (unhide ST (nq + 1 + 1)).at_.cell 6 _ rfl
        go_roundw
        case rel => exact ⟨k, r - z, z + s.mtu, unhide ST (nq + 1 + 1)⟩
        case measure =>
          have e1 : ∀ W : World, W.cell? ⟨b, 6, none⟩ = some (.int .i64 (r - z)) → (intOf ((W.cell? ⟨b, 6, none⟩).getD (.int .i64 0))).toNat < (intOf ((wr.cell? ⟨b, 6, none⟩).getD (.int .i64 0))).toNat := by
            intro W hW
            rw [hW, c6]
            simp [intOf]
            omega
          exact e1 _ c6'
      · have E := u.fin
        rw [upF_end _ _ _ (by show r < z; omega)] at E
        have F := hide (fun q => And.intro (u.draw q).at_ (u.draw q).grown)
        clear u H
        go_wp2_with fail
        go_quiet (fail)
        go_wp2_with fail
        refine bodyPost_end (results_none rfl _ _ _) rfl ?_
        refine ⟨rfl, ?_, (unhide F _).2⟩
        rw [unhide R, show riseF s.mtu (s.rest + x) s.size = (r, z) from E.symm]
        exact (unhide F _).1
end Go.Proofs.Ytgmnlhbfhdgidaa
