/- keepBound. -/
import Derived.Test.YtnflbefbgcbdfaaGreatSV
namespace Go.Proofs.YtnflbefbgcbdfaaGreat
set_option maxRecDepth 100000
open Go.RowKit
set_option linter.unusedVariables false
set_option maxHeartbeats 400000

/-- The highest runs, as many as the bound. -/
def boundF (most : Int) (L : List Sp) : List Sp := if 0 < most ∧ most < L.length then L.drop (L.length - most.toNat) else L

theorem keep_not (b : Nat) (most : Int) (v : Value) (L : List Sp) (w : World) (h0 : SetAt w b most v L) (hno : ¬ (0 < most ∧ most < L.length)) :
    Calls Tryz.prog 71 #[.pointer (some ⟨b, 0, none⟩)] w fun e w' => e = .returned (.tuple #[]) ∧ ∃ q, w' = w.drewN q := by
  have c0 := h0.c0
  have c1 := h0.c1
  obtain ⟨a, c, rfl, _, hcm, hnc⟩ := h0.row.shape
  unfold maxLen at hcm
  by_cases hm : 0 < most
  · have hd : decide (0 < most) = true := decide_eq_true hm
    have hd2 : decide (most < (L.length : Int)) = false := decide_eq_false (fun h => hno ⟨hm, h⟩)
    clear hno h0
    generalize L.length = n at *
    go_enter Tryz.func71, Tryz.ntmps71
    go_wp2
    go_quiet (fail)
    go_wp2
    go_end0
    exact ⟨rfl, _, rfl⟩
  · have hd : decide (0 < most) = false := decide_eq_false hm
    clear hno h0
    go_enter Tryz.func71, Tryz.ntmps71
    go_wp2
    go_quiet (fail)
    go_wp2
    go_end0
    exact ⟨rfl, _, rfl⟩

theorem enters_delete : Enters Tryz.prog 98 := Go.Proofs.enters_of Tryz.func98 (by kernel_rfl) rfl

/-- A call by its contract, as one step of a region that draws its order. -/
theorem step_call {ops : Array Oper} {o : Oper} {a : Act} {w : World} {K : Act → World → Prop} {Q : Exit → Act → World → Prop} {E : Prop}
    (hg : o.guard = none) (f : FuncId) (args : Array Value) (hen : Enters Tryz.prog f) (xs : Array Operand) (ts : Array TypeId) (hop : o.op = Op.call { callee := Callee.value (Operand.func f), args := xs, argTypes := ts })
    (hargs : xs.map a.eval = args) {R : Ending → World → Prop} (hc : Calls Tryz.prog f args w R) (hK : ∀ e w', R e w' → ∃ v, e = .returned v ∧ K (a.put o.dst v) w') :
    if Region.wanted o (yielded ops a.tmps) = true then Oper.wp Tryz.prog o a w K Q else E := by
  have hw : Region.wanted o (yielded ops a.tmps) = true := by simp [Region.wanted, hg]
  rw [if_pos hw]
  have hrun : (execOp a.eval o).run Tryz.prog w = .ok (.enter f args) w := by
    subst hargs
    have := hen (xs.map a.eval) w
    simp [execOp, hop, resolve, invoke, Act.eval, Deferred.ofValue] at this ⊢
    exact this
  unfold Oper.wp
  rw [hrun, Oper.upon_enter]
  refine hc.mono fun e w' hR => ?_
  obtain ⟨v, rfl, h⟩ := hK e w' hR
  exact h

set_option maxRecDepth 100000 in
theorem keep_cut (b : Nat) (most : Int) (v : Value) (L : List Sp) (w : World) (h0 : SetAt w b most v L) (hm : 0 < most) (hlt : most < L.length) :
    Calls Tryz.prog 71 #[.pointer (some ⟨b, 0, none⟩)] w fun e w' => e = .returned (.tuple #[]) ∧ (∃ v', SetAt w' b most v' (L.drop (L.length - most.toNat)) ∧ v'.ownBlock = v.ownBlock) ∧ Touch w w' b v := by
  have c0 := h0.c0
  have c1 := h0.c1
  have f1 := h0.f1
  rcases Row.at h0.row with ⟨_, rfl⟩ | ⟨g, c, sp, rfl, hR⟩
  · simp at hlt; omega
  have hcm := hR.2.2
  unfold maxLen at hcm
  have hsz := hR.2.1
  have hd : decide (0 < most) = true := decide_eq_true hm
  have hd2 : decide (most < (L.length : Int)) = true := decide_eq_true hlt
  obtain ⟨M, D, rfl, hMD⟩ : ∃ M D, L = M ++ D ∧ D = L.drop (L.length - most.toNat) := ⟨L.take (L.length - most.toNat), L.drop (L.length - most.toNat), by rw [List.take_append_drop], rfl⟩
  have hDl : D.length = most.toNat := by
    have := congrArg List.length hMD
    simp only [List.length_drop] at this
    omega
  have hlen : (M ++ D).length = M.length + D.length := by simp
  rw [← hMD]
  have hde := fun q => delete_head g c M D sp (w.drewN q) hR (fun e => by rw [e] at hlt; simp at hlt; omega) (fun e => by rw [e] at hDl; simp at hDl; omega) (M.length + D.length) rfl
  rw [hlen] at hd2 c1 hlt
  have hw1 : IntKind.i64.wrap ((M.length : Int) + (D.length : Int) - most) = (M.length : Int) := by rw [IntKind.wrap_i64]; omega
  have hfin : ∀ q w', (∃ sp', RowAt w' g c D sp') → (w.drewN q).grownBy w' (some g) → (SetAt (w'.setCell ⟨b, 1, none⟩ (.slice (some ⟨g, 0, none⟩) D.length c)) b most (.slice (some ⟨g, 0, none⟩) D.length c) D ∧ Touch w (w'.setCell ⟨b, 1, none⟩ (.slice (some ⟨g, 0, none⟩) D.length c)) b (.slice (some ⟨g, 0, none⟩) (M ++ D).length c)) ∧ w'.frozen? ⟨b, 1, none⟩ = false ∧ w'.cell? ⟨b, 1, none⟩ = some (.slice (some ⟨g, 0, none⟩) (M.length + D.length) c) ∧ w'.cell? ⟨b, 0, none⟩ = some (.int .i64 most) := fun q w' hr hg => by
    obtain ⟨sp', hr⟩ := hr
    have hmo : Moved w w' (.slice (some ⟨g, 0, none⟩) (M ++ D).length c) (.slice (some ⟨g, 0, none⟩) D.length c) := .inl ⟨rfl, grown_of_drewN hg⟩
    have := setAt_write h0 hr.row hmo
    exact ⟨⟨this.1, Touch.write hmo _⟩, by simp [World.frozen?, this.2], by rw [← hlen]; simp [World.cell?, this.2], by simp [World.cell?, this.2]⟩
  have HF := hide hfin
  have HD := hide hde
  clear hfin hde h0 hR hMD hDl hsz hlen
  generalize hml : M.length = m at *
  generalize hdl : D.length = d at *
  go_enter Tryz.func71, Tryz.ntmps71
  go_wp2
  go_quiet (fail)
  go_wp2
  clear hml hdl hd hd2 hm hlt hcm
  go_region_law (refine step_call rfl _ _ enters_delete _ _ rfl (by simp [Act.eval, Act.put]) (unhide HD _) ?_; rintro e w' ⟨rfl, k1, k2⟩; refine ⟨_, rfl, ?_⟩; have k3 := unhide HF _ _ k1 k2; have k4 := k3.2.1; have k5 := k3.2.2.1; have k0 := k3.2.2.2)
  all_goals go_end0
  all_goals (clear HD HF; refine ⟨rfl, ⟨_, k3.1.1, rfl⟩, k3.1.2⟩)
end Go.Proofs.YtnflbefbgcbdfaaGreat
