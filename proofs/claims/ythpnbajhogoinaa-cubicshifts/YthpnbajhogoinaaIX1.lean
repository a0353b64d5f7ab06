/- later. -/
import Derived.Test.YthpnbajhogoinaaIX0
namespace Go.Proofs.Ythpnbajhogoinaa
open Go.RowKit Fl
set_option linter.unusedVariables false
set_option maxRecDepth 100000
set_option maxHeartbeats 4000000

/-- A step, its times taken into half of all, later by so much. -/
def laterF (d : Int) (y : OpE) : OpE := { y with now := sp y.now % 562949953421312 + d, sent := sp y.sent % 562949953421312 + d }
theorem later_any (a0 : Option Addr) (len cap : Nat) (ol : List OpE) (w W0 : World) (h : IsOps w a0 len cap ol) (hw : w.grownBy W0 none) (d : Int) (hd : 0 ≤ d ∧ d < 562949953421312) (big : len * 48 ≤ 140737488355328) :
    Calls Try.prog 25 #[.slice a0 len cap, .int .i64 d] W0 fun e w' => ∃ a n c, e = .returned (.slice a n c) ∧ RO W0.heap.size w' (.slice a n c) (ol.map (laterF d)) ∧ W0.grownBy w' none := by
  have HO := hide h
  have hl := h.hlen
  have hcap := h.hcap
  have lenI : ¬ (9223372036854775807 : Int) < (len : Int) := by omega
  have HW := hide hw
  obtain ⟨d1, d2⟩ := hd
  have TM := fun x => time_any x
  have R0 : Hid (RO W0.heap.size W0 (.slice none 0 0) ((ol.take 0).map (laterF d)) ∧ W0.grownBy W0 none) := ⟨ro_nil _ _, World.grownBy.refl _ _⟩
  clear h hw
  go_enter Try.func25, Try.ntmps25
  go_wp2_with fail
  go_loopw [5, 6] (fun l i wr => ∃ (k : Nat) (ta : Option Addr) (tn tq : Nat), k ≤ len ∧ i = .int .i64 k ∧ l = .slice ta tn tq ∧ Hid (RO W0.heap.size wr (.slice ta tn tq) ((ol.take k).map (laterF d)) ∧ W0.grownBy wr none)) (fun _ i _ => len - (intOf i).toNat)
  case atStart => exact ⟨0, _, _, _, Nat.zero_le _, rfl, rfl, R0⟩
  case round =>
    clear R0
    obtain ⟨k, ta, tn, tq, hk, rfl, rfl, H⟩ := hrel
    by_cases hlt : k < len
    · obtain ⟨bo, off, rfl, hcs⟩ := (unhide HO).cell.resolve_left (by omega)
      have hx' : ol[k]? = some ol[k] := List.getElem?_eq_getElem _
      have hcx := hcs k _ hx'
      have htk : (ol.take (k + 1)).map (laterF d) = (ol.take k).map (laterF d) ++ [laterF d ol[k]] := by
        rw [List.take_add_one, hx', List.map_append]; rfl
      have htl : ((ol.take k).map (laterF d)).length = k := by rw [List.length_map, List.length_take]; omega
      generalize ol[k] = y at *
      have kn : (k : Int) < (len : Int) := by omega
      have HLT := hide hlt
      obtain ⟨ro, gr0⟩ := unhide H
      have gr := gtrans (unhide HW) gr0
      have c0 : wr.cell? ⟨bo, off + k * 6, none⟩ = some (.int .i64 y.kind) := cell_grown (hcx 0 _ rfl) gr
      have c1 : wr.cell? ⟨bo, off + k * 6 + 1, none⟩ = some (.int .i64 y.h) := cell_grown (hcx 1 _ rfl) gr
      have c2 : wr.cell? ⟨bo, off + k * 6 + 2, none⟩ = some (.int .i64 y.now) := cell_grown (hcx 2 _ rfl) gr
      have c3 : wr.cell? ⟨bo, off + k * 6 + 3, none⟩ = some (.int .i64 y.sent) := cell_grown (hcx 3 _ rfl) gr
      have c4 : wr.cell? ⟨bo, off + k * 6 + 4, none⟩ = some (.int .i64 y.size) := cell_grown (hcx 4 _ rfl) gr
      have c5 : wr.cell? ⟨bo, off + k * 6 + 5, none⟩ = some (.bool y.lim) := cell_grown (hcx 5 _ rfl) gr
      obtain ⟨n1, n2⟩ := sp_b y.now
      obtain ⟨m1, m2⟩ := sp_b y.sent
      have T1 := TM y.now
      have T2 := TM y.sent
      obtain ⟨W1, hW1⟩ : ∃ W1, W1 = wr.alloc (.cells (opc (laterF d y)) 40) := ⟨_, rfl⟩
      have g1 : wr.grownBy W1 none := by rw [hW1]; exact World.grownBy_alloc _ _ _
      obtain ⟨W2, hW2⟩ : ∃ W2, W2 = W1.alloc (.cells (opc (laterF d y)) 40) := ⟨_, rfl⟩
      have g2 : W1.grownBy W2 none := by rw [hW2]; exact World.grownBy_alloc _ _ _
      have B2 : Blk W2 W1.heap.size (opc (laterF d y)) 40 := by rw [hW2]; exact Blk.new _ _ _
      obtain ⟨a', c', W3, hap, r3, g3⟩ := ro_app W0 W2 (.slice ta tn tq) _ (laterF d y) W1.heap.size 1 ((ro.grown g1).grown g2) (gtrans (gtrans gr0 g1) g2) B2 (by rw [htl]; omega)
      rw [← htk, htl] at r3
      rw [htl] at hap
      have E := hide (And.intro r3 g3)
      have hs1 : W1.heap.size = wr.heap.size + 1 := by rw [hW1]; show (wr.heap.push _).size = _; simp
      rw [hs1, hW2, hW1] at hap
      unfold opc laterF at hap
      dsimp only at hap
      have HAP := hide hap
      clear hs1 hW1 hW2 g1 g2 B2 r3 g3 hap ro gr0 gr H hcs hcx hx' htk htl hlt hk
      have hT1 : (sp y.now).tmod 562949953421312 = sp y.now % 562949953421312 := Int.tmod_eq_emod_of_nonneg n1
      have hT2 : (sp y.sent).tmod 562949953421312 = sp y.sent % 562949953421312 := Int.tmod_eq_emod_of_nonneg m1
      have r1 : 0 ≤ sp y.now % 562949953421312 ∧ sp y.now % 562949953421312 < 562949953421312 := by omega
      have r2 : 0 ≤ sp y.sent % 562949953421312 ∧ sp y.sent % 562949953421312 < 562949953421312 := by omega
      generalize sp y.now % 562949953421312 = r at *
      generalize sp y.sent % 562949953421312 = q at *
      have hw1 : IntKind.i64.wrap (r + d) = r + d := by rw [IntKind.wrap_i64]; omega
      have hw2 : IntKind.i64.wrap (q + d) = q + d := by rw [IntKind.wrap_i64]; omega
      generalize sp y.now = N at *
      generalize sp y.sent = M at *
      clear r1 r2 n1 n2 m1 m2 d1 d2 TM
      go_wp2_with fail
      refine (T1 _).mono ?_
      rintro e X0 ⟨rfl, hX0⟩
      replace hX0 := hX0.symm
      subst hX0
      go_wp2_with fail
      refine (T2 _).mono ?_
      rintro e X0 ⟨rfl, hX0⟩
      replace hX0 := hX0.symm
      subst hX0
      go_wp2_with (at_builtin; refine wpList_append_run _ rfl _ _ 22 22 rfl _ _ rfl rfl (unhide HAP) ?_)
      go_roundw
      case rel => exact ⟨k + 1, _, _, _, unhide HLT, by go_num, rfl, E⟩
      case measure => have := unhide HLT; simp [intOf]; omega
    · have hk2 : k = len := by omega
      have alt : ¬ (k : Int) < (len : Int) := by omega
      have E := hide (unhide H)
      rw [show ol.take k = ol from List.take_of_length_le (by omega)] at E
      clear hlt H hk2
      go_wp2_with fail
      go_ret
      exact ⟨ta, tn, tq, rfl, (unhide E).1, (unhide E).2⟩
end Go.Proofs.Ythpnbajhogoinaa
