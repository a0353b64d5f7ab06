/- Road: the clock, the marks, arm, room. -/
import Derived.Test.YtbdjlhkgpblebaaDoorY2D
import Derived.BigQuiet
namespace Go.Proofs.YtbdjlhkgpblebaaDoor
open Go.RowKit Go.Shelf Go.Maps
set_option linter.unusedVariables false
set_option linter.unusedSimpArgs false
set_option maxRecDepth 100000
set_option maxHeartbeats 1000000
section
variable {b : Nat} {w w' : World} {r W mb : Nat} {vl vf : Value} {Sw : Nat → Prop} {c : Nat} {T : List Tm} {A : List (Gm × Nat)} {LY : List Gm} {FR : List Nat} {k now sp nx : Nat}

theorem pass_any (h : RP b w r W mb vl vf Sw c T A LY FR k now sp nx) (t : Int) :
    Calls Tryd.prog 17 #[ptr r, .int .i64 t] w fun e w' => e = .returned (.tuple #[]) ∧ RP b w' r W mb vl vf Sw c T A LY FR k (adv now t) sp nx ∧ Kp (fun g => g = r) w w' := by
  have n50 := h.n50
  have eT : max (now : Int) (min t 1125899906842624) = (adv now t : Int) := by unfold adv; omega
  have ge : now ≤ adv now t := by unfold adv; omega
  have le : adv now t ≤ 2 ^ 50 := by unfold adv; omega
  have c0 := h.cells.1
  have f0 := h.blk.thaw 0
  have st := h.setR 0 (.int .i64 (adv now t : Int)) (now' := adv now t) (sp' := sp) (nx' := nx) (vl' := vl) (vf' := vf) rfl
  generalize hT : adv now t = u at *
  have FIN : Hid (RP b (w.setCell ⟨r, 0, none⟩ (.int .i64 (u : Int))) r W mb vl vf Sw c T A LY FR k u sp nx ∧ Kp (fun g => g = r) w (w.setCell ⟨r, 0, none⟩ (.int .i64 (u : Int)))) := by
    have ns := h.nes
    refine ⟨{ h with blk := st.1, wl := ?_, mp := ?_, ly := ?_, fr := ?_, ck := ?_, n50 := le }, (Kp.refl _ _).set r 0 _ (fun _ => rfl)⟩
    · exact h.wl.kept (by rw [set_size]; exact Nat.le_refl _) (fun g hg => st.2 g (fun e => h.ne1 (e ▸ hg)))
    · exact h.mp.kept (st.2 mb ns.1.symm)
    · exact rows_kept h.ly (fun g e => st.2 g (fun e2 => ns.2.1 (e2 ▸ e)))
    · exact rows_kept h.fr (fun g e => st.2 g (fun e2 => ns.2.2.1 (e2 ▸ e)))
    · have := h.ck; omega
  clear h st n50 ge le hT
  go_enter Tryd.func17, Tryd.ntmps17
  go_wp2_with fail
  refine bodyPost_end (results_none rfl _ _ _) rfl ?_
  exact ⟨rfl, unhide FIN⟩
end
theorem isEnd_any (t : Int) (w : World) : Calls Tryd.prog 18 #[.int .i64 t] w fun e w' => e = .returned (.bool (decide (isEndT t))) ∧ w' = w := by
  obtain ⟨r, hr⟩ : ∃ r, r = decide (isEndT t) := ⟨_, rfl⟩
  rw [← hr]
  have HR := hide hr
  clear hr
  rcases (show t = 0 ∨ t ≠ 0 by omega) with h | h
  · have hb : (t == 0) = true := by simp [h]
    have E : Hid (r = true) := by rw [unhide HR]; exact decide_eq_true (.inl h)
    clear h
    go_enter Tryd.func18, Tryd.ntmps18
    go_wp2_with fail
    go_ret
    exact ⟨by rw [unhide E]; rfl, rfl⟩
  · have hb : (t == 0) = false := by simp [h]
    obtain ⟨s, hs⟩ : ∃ s, s = (t == 1) := ⟨_, rfl⟩
    have E : Hid (r = s) := by show r = s; rw [unhide HR, hs]; unfold isEndT; by_cases h3 : t = 1 <;> simp [h, h3]
    have hs' := hs.symm
    clear h hs
    go_enter Tryd.func18, Tryd.ntmps18
    go_wp2_with fail
    go_ret
    exact ⟨by rw [unhide E]; rfl, rfl⟩
theorem isMark_any (t : Int) (w : World) : Calls Tryd.prog 19 #[.int .i64 t] w fun e w' => e = .returned (.bool (decide (isMarkT t))) ∧ w' = w := by
  obtain ⟨r, hr⟩ : ∃ r, r = decide (isMarkT t) := ⟨_, rfl⟩
  rw [← hr]
  have HR := hide hr
  clear hr
  rcases (show t = 0 ∨ (t ≠ 0 ∧ t = 1) ∨ (t ≠ 0 ∧ t ≠ 1) by omega) with h | ⟨h, h1⟩ | ⟨h, h1⟩
  · have hb : (t == 0) = true := by simp [h]
    have E : Hid (r = true) := by rw [unhide HR]; exact decide_eq_true (.inl h)
    clear h
    go_enter Tryd.func19, Tryd.ntmps19
    go_wp2_with fail
    go_ret
    exact ⟨by rw [unhide E]; rfl, rfl⟩
  · have hb : (t == 0) = false := by simp [h]
    have hb1 : (t == 1) = true := by simp [h1]
    have E : Hid (r = true) := by rw [unhide HR]; exact decide_eq_true (.inr (.inl h1))
    clear h h1
    go_enter Tryd.func19, Tryd.ntmps19
    go_wp2_with fail
    go_ret
    exact ⟨by rw [unhide E]; rfl, rfl⟩
  · have hb : (t == 0) = false := by simp [h]
    have hb1 : (t == 1) = false := by simp [h1]
    obtain ⟨s, hs⟩ : ∃ s, s = (t == 2) := ⟨_, rfl⟩
    have E : Hid (r = s) := by show r = s; rw [unhide HR, hs]; unfold isMarkT; by_cases h3 : t = 2 <;> simp [h, h1, h3]
    have hs' := hs.symm
    clear h h1 hs
    go_enter Tryd.func19, Tryd.ntmps19
    go_wp2_with fail
    go_ret
    exact ⟨by rw [unhide E]; rfl, rfl⟩
theorem isArr_any (t : Int) (w : World) : Calls Tryd.prog 23 #[.int .i64 t] w fun e w' => e = .returned (.bool (decide (atOk t))) ∧ w' = w := by
  obtain ⟨r, hr⟩ : ∃ r, r = decide (atOk t) := ⟨_, rfl⟩
  rw [← hr]
  have HR := hide hr
  clear hr
  rcases (show t < 0 ∨ (0 ≤ t ∧ t < 4611686018427387904) ∨ (0 ≤ t ∧ ¬ t < 4611686018427387904) by omega) with h | ⟨h, h1⟩ | ⟨h, h1⟩
  · have E : Hid (r = false) := by rw [unhide HR]; exact decide_eq_false (fun a => by have := a.1; omega)
    have h0 : ¬ 0 ≤ t := by omega
    clear h
    go_enter Tryd.func23, Tryd.ntmps23
    go_wp2_with fail
    go_ret
    exact ⟨by rw [unhide E]; rfl, rfl⟩
  · have E : Hid (r = true) := by rw [unhide HR]; exact decide_eq_true ⟨h, h1⟩
    go_enter Tryd.func23, Tryd.ntmps23
    go_wp2_with fail
    go_ret
    exact ⟨by rw [unhide E]; rfl, rfl⟩
  · have E : Hid (r = false) := by rw [unhide HR]; exact decide_eq_false (fun a => h1 a.2)
    go_enter Tryd.func23, Tryd.ntmps23
    go_wp2_with fail
    go_ret
    exact ⟨by rw [unhide E]; rfl, rfl⟩
end Go.Proofs.YtbdjlhkgpblebaaDoor
