/- SV and SW, one text. -/
import Derived.Test.YtcojhjnledeciaaSU
namespace Go.Proofs.Ytcojhjnledeciaa
open Go.RowKit
set_option linter.unusedVariables false
set_option maxRecDepth 100000
set_option maxHeartbeats 400000

theorem add1 (bs bx b g c n i : Nat) (x hi : Int) (w : World) (hn : i < n) (hs : w.cell? ⟨bs, 0, none⟩ = some (.pointer (some ⟨b, 0, none⟩))) (hv : w.cell? ⟨b, 1, none⟩ = some (.slice (some ⟨g, 0, none⟩) n c)) (hx : w.cell? ⟨bx, 0, none⟩ = some (.int .i64 x)) (hc : w.cell? ⟨g, i * 2 + 1, none⟩ = some (.int .i64 hi))
    (h1 : -9223372036854775808 ≤ x ∧ x ≤ 9223372036854775807) (h2 : -9223372036854775808 ≤ hi ∧ hi ≤ 9223372036854775807) :
    Calls Try.prog 70 (#[.int .i64 i] ++ #[.pointer (some ⟨bs, 0, none⟩), .pointer (some ⟨bx, 0, none⟩)]) w fun e w' => e = .returned (.bool (!decide (hi + 1 < x))) ∧ ∃ q, w' = w.drewN q := by
  have hap := fun W => apart_any hi x W h2 h1
  have hiz : (i : Int) < (n : Int) := by omega
  clear h1 h2
  go_enter Try.func70, Try.ntmps70
  go_wp2
  go_quiet (exact Calls.quiet_of_same (hap _))
  all_goals go_wp2
  all_goals go_ret
  all_goals exact ⟨rfl, _, rfl⟩

theorem add2 (bs bx b g c n i : Nat) (x lo : Int) (w : World) (hn : i < n) (hs : w.cell? ⟨bs, 0, none⟩ = some (.pointer (some ⟨b, 0, none⟩))) (hv : w.cell? ⟨b, 1, none⟩ = some (.slice (some ⟨g, 0, none⟩) n c)) (hx : w.cell? ⟨bx, 0, none⟩ = some (.int .i64 x)) (hc : w.cell? ⟨g, i * 2, none⟩ = some (.int .i64 lo))
    (h1 : -9223372036854775808 ≤ x ∧ x ≤ 9223372036854775807) (h2 : -9223372036854775808 ≤ lo ∧ lo ≤ 9223372036854775807) :
    Calls Try.prog 72 (#[.int .i64 i] ++ #[.pointer (some ⟨bx, 0, none⟩), .pointer (some ⟨bs, 0, none⟩)]) w fun e w' => e = .returned (.bool (decide (x + 1 < lo))) ∧ ∃ q, w' = w.drewN q := by
  have hap := fun W => apart_any x lo W h1 h2
  have hiz : (i : Int) < (n : Int) := by omega
  clear h1 h2
  go_enter Try.func72, Try.ntmps72
  go_wp2
  go_quiet (exact Calls.quiet_of_same (hap _))
  all_goals go_wp2
  all_goals go_ret
  all_goals exact ⟨rfl, _, rfl⟩

theorem count_any (b : Nat) (most : Int) (v : Value) (L : List Sp) (w : World) (h0 : SetAt w b most v L) (hL : Ok L) :
    Calls Try.prog 44 #[.pointer (some ⟨b, 0, none⟩)] w fun e w' => e = .returned (.int .u64 (toldF L)) ∧ w.grownBy w' none := by
  have hl := list_any b most v L w h0
  have ht := total_any v L w h0.row hL.good
  go_enter Try.func44, Try.ntmps44
  go_wp2_with (first | (refine hl.mono ?_; rintro e w' ⟨rfl, hw'⟩; subst w') | (refine ht.mono ?_; rintro e w' ⟨rfl, k1⟩))
  all_goals go_ret
  all_goals exact ⟨rfl, k1⟩

theorem new_any (most : Int) (w : World) (h : 0 ≤ most) :
    Calls Try.prog 10 #[.int .i64 most] w fun e w' => e = .returned (.tuple #[.pointer (some ⟨w.heap.size, 0, none⟩), .int .i64 0]) ∧ SetAt w' w.heap.size most (.slice none 0 0) [] ∧ w.grownBy w' none := by
  have hd : decide (most < 0) = false := decide_eq_false (by omega)
  go_enter Try.func10, Try.ntmps10
  go_wp2
  all_goals go_ret2
  all_goals exact ⟨rfl, ⟨heap_alloc_new w _, row_nil _⟩, grown_alloc _ _⟩

theorem setAt_write {w w' : World} {b : Nat} {most : Int} {v v' : Value} {L L' : List Sp} (h : SetAt w b most v L) (hr : Row w' v' L') (hm : Moved w w' v v') :
    SetAt (w'.setCell ⟨b, 1, none⟩ v') b most v' L' ∧ w'.heap[b]? = some (.cells #[.int .i64 most, v] 77 (0, 0)) := by
  have hb : w'.heap[b]? = some (.cells #[.int .i64 most, v] 77 (0, 0)) := by
    rcases hm with ⟨_, h2⟩ | ⟨_, h2, _⟩
    · rw [h2.block b (heap_some_lt h.blk) (fun e => h.ne e.symm)]; exact h.blk
    · rw [h2.block b (heap_some_lt h.blk) (by simp)]; exact h.blk
  refine ⟨?_, hb⟩
  rw [setCell_eq_setRow w' b 1 _ _ _ v' hb]
  refine ⟨by rw [setRow_heap w' b _ _ _ _ hb]; rfl, hr.keepBut (grown_setRow w' b _) ?_⟩
  rcases Row.at hr with ⟨rfl, _⟩ | ⟨g, c, sp, rfl, hR⟩
  · exact .inl rfl
  · refine .inr fun e => ?_
    injection e with e
    have e' : g = b := e
    have h1 := hR.1
    rw [e', hb] at h1
    injection h1 with h1
    injection h1 with _ h1
    exact absurd h1 (by decide)

/-- What may have changed: the set's own block, its row's, and what is new. -/
structure Touch (w w' : World) (b : Nat) (v : Value) : Prop where
  os : w'.os = w.os
  tape : w'.tape = w.tape
  output : w'.output = w.output
  size : w.heap.size ≤ w'.heap.size
  block : ∀ k, k < w.heap.size → k ≠ b → some k ≠ v.ownBlock → w'.heap[k]? = w.heap[k]?

theorem Touch.of {w w' : World} (b : Nat) (v : Value) (h : w.grownBy w' none) : Touch w w' b v := ⟨h.os, h.tape, h.output, h.size, fun k hk _ _ => h.block k hk (by simp)⟩
theorem Touch.before {w w1 w' : World} {b : Nat} {v : Value} (h : w.grownBy w1 none) (t : Touch w1 w' b v) : Touch w w' b v :=
  ⟨t.os.trans h.os, t.tape.trans h.tape, t.output.trans h.output, Nat.le_trans h.size t.size, fun k hk h1 h2 => (t.block k (Nat.lt_of_lt_of_le hk h.size) h1 h2).trans (h.block k hk (by simp))⟩
theorem Touch.write {w w' : World} {b : Nat} {v v' : Value} (hm : Moved w w' v v') (x : Value) : Touch w (w'.setCell ⟨b, 1, none⟩ x) b v := by
  have hc : ∀ k, k ≠ b → (w'.setCell ⟨b, 1, none⟩ x).heap[k]? = w'.heap[k]? := fun k hk => heap_setCell_other w' _ k x hk
  have hs : (w'.setCell ⟨b, 1, none⟩ x).heap.size = w'.heap.size := by simp
  rcases hm with ⟨_, h2⟩ | ⟨_, h2, _⟩
  · exact ⟨h2.os, h2.tape, h2.output, by rw [hs]; exact h2.size, fun k hk h3 h4 => by rw [hc k h3]; exact h2.block k hk h4⟩
  · exact ⟨h2.os, h2.tape, h2.output, by rw [hs]; exact h2.size, fun k hk h3 h4 => by rw [hc k h3]; exact h2.block k hk (by simp)⟩
/-- Two steps behind one another: the row may have moved. -/
theorem Touch.trans {w w1 w' : World} {b : Nat} {v v1 : Value} (h : Touch w w1 b v) (hv : v1.ownBlock = v.ownBlock ∨ ∀ k, v1.ownBlock = some k → w.heap.size ≤ k) (t : Touch w1 w' b v1) : Touch w w' b v :=
  ⟨t.os.trans h.os, t.tape.trans h.tape, t.output.trans h.output, Nat.le_trans h.size t.size, fun k hk h1 h2 => by
    rw [t.block k (Nat.lt_of_lt_of_le hk h.size) h1 (fun e => by
      rcases hv with hv | hv
      · rw [hv] at e; exact h2 e
      · have := hv k e.symm; omega)]
    exact h.block k hk h1 h2⟩
end Go.Proofs.Ytcojhjnledeciaa

namespace Go.Proofs.Ytcojhjnledeciaa
open Go.RowKit
set_option linter.unusedVariables false
set_option maxRecDepth 100000
set_option maxHeartbeats 400000

/-- The highest runs, as many as the bound. -/
def boundF (most : Int) (L : List Sp) : List Sp := if 0 < most ∧ most < L.length then L.drop (L.length - most.toNat) else L

theorem keep_not (b : Nat) (most : Int) (v : Value) (L : List Sp) (w : World) (h0 : SetAt w b most v L) (hno : ¬ (0 < most ∧ most < L.length)) :
    Calls Try.prog 69 #[.pointer (some ⟨b, 0, none⟩)] w fun e w' => e = .returned (.tuple #[]) ∧ ∃ q, w' = w.drewN q := by
  have c0 := h0.c0
  have c1 := h0.c1
  obtain ⟨a, c, rfl, _, hcm, hnc⟩ := h0.row.shape
  unfold maxLen at hcm
  by_cases hm : 0 < most
  · have hd : decide (0 < most) = true := decide_eq_true hm
    have hd2 : decide (most < (L.length : Int)) = false := decide_eq_false (fun h => hno ⟨hm, h⟩)
    clear hno h0
    generalize L.length = n at *
    go_enter Try.func69, Try.ntmps69
    go_wp2
    go_quiet (fail)
    go_wp2
    go_end0
    exact ⟨rfl, _, rfl⟩
  · have hd : decide (0 < most) = false := decide_eq_false hm
    clear hno h0
    go_enter Try.func69, Try.ntmps69
    go_wp2
    go_quiet (fail)
    go_wp2
    go_end0
    exact ⟨rfl, _, rfl⟩

theorem enters_delete : Enters Try.prog 93 := Go.Proofs.enters_of Try.func93 (by kernel_rfl) rfl

/-- A call by its contract, as one step of a region that draws its order. -/
theorem step_call {ops : Array Oper} {o : Oper} {a : Act} {w : World} {K : Act → World → Prop} {Q : Exit → Act → World → Prop} {E : Prop}
    (hg : o.guard = none) (f : FuncId) (args : Array Value) (hen : Enters Try.prog f) (xs : Array Operand) (ts : Array TypeId) (hop : o.op = Op.call { callee := Callee.value (Operand.func f), args := xs, argTypes := ts })
    (hargs : xs.map a.eval = args) {R : Ending → World → Prop} (hc : Calls Try.prog f args w R) (hK : ∀ e w', R e w' → ∃ v, e = .returned v ∧ K (a.put o.dst v) w') :
    if Region.wanted o (yielded ops a.tmps) = true then Oper.wp Try.prog o a w K Q else E := by
  have hw : Region.wanted o (yielded ops a.tmps) = true := by simp [Region.wanted, hg]
  rw [if_pos hw]
  have hrun : (execOp a.eval o).run Try.prog w = .ok (.enter f args) w := by
    subst hargs
    have := hen (xs.map a.eval) w
    simp [execOp, hop, resolve, invoke, Act.eval, Deferred.ofValue] at this ⊢
    exact this
  unfold Oper.wp
  rw [hrun, Oper.upon_enter]
  refine hc.mono fun e w' hR => ?_
  obtain ⟨v, rfl, h⟩ := hK e w' hR
  exact h

set_option maxRecDepth 100000 in
theorem keep_cut (b : Nat) (most : Int) (v : Value) (L : List Sp) (w : World) (h0 : SetAt w b most v L) (hm : 0 < most) (hlt : most < L.length) :
    Calls Try.prog 69 #[.pointer (some ⟨b, 0, none⟩)] w fun e w' => e = .returned (.tuple #[]) ∧ (∃ v', SetAt w' b most v' (L.drop (L.length - most.toNat)) ∧ v'.ownBlock = v.ownBlock) ∧ Touch w w' b v := by
  have c0 := h0.c0
  have c1 := h0.c1
  have f1 := h0.f1
  rcases Row.at h0.row with ⟨_, rfl⟩ | ⟨g, c, sp, rfl, hR⟩
  · simp at hlt; omega
  have hcm := hR.2.2
  unfold maxLen at hcm
  have hsz := hR.2.1
  have hd : decide (0 < most) = true := decide_eq_true hm
  have hd2 : decide (most < (L.length : Int)) = true := decide_eq_true hlt
  obtain ⟨M, D, rfl, hMD⟩ : ∃ M D, L = M ++ D ∧ D = L.drop (L.length - most.toNat) := ⟨L.take (L.length - most.toNat), L.drop (L.length - most.toNat), by rw [List.take_append_drop], rfl⟩
  have hDl : D.length = most.toNat := by
    have := congrArg List.length hMD
    simp only [List.length_drop] at this
    omega
  have hlen : (M ++ D).length = M.length + D.length := by simp
  rw [← hMD]
  have hde := fun q => delete_head g c M D sp (w.drewN q) hR (fun e => by rw [e] at hlt; simp at hlt; omega) (fun e => by rw [e] at hDl; simp at hDl; omega) (M.length + D.length) rfl
  rw [hlen] at hd2 c1 hlt
  have hw1 : IntKind.i64.wrap ((M.length : Int) + (D.length : Int) - most) = (M.length : Int) := by rw [IntKind.wrap_i64]; omega
  have hfin : ∀ q w', (∃ sp', RowAt w' g c D sp') → (w.drewN q).grownBy w' (some g) → (SetAt (w'.setCell ⟨b, 1, none⟩ (.slice (some ⟨g, 0, none⟩) D.length c)) b most (.slice (some ⟨g, 0, none⟩) D.length c) D ∧ Touch w (w'.setCell ⟨b, 1, none⟩ (.slice (some ⟨g, 0, none⟩) D.length c)) b (.slice (some ⟨g, 0, none⟩) (M ++ D).length c)) ∧ w'.frozen? ⟨b, 1, none⟩ = false ∧ w'.cell? ⟨b, 1, none⟩ = some (.slice (some ⟨g, 0, none⟩) (M.length + D.length) c) ∧ w'.cell? ⟨b, 0, none⟩ = some (.int .i64 most) := fun q w' hr hg => by
    obtain ⟨sp', hr⟩ := hr
    have hmo : Moved w w' (.slice (some ⟨g, 0, none⟩) (M ++ D).length c) (.slice (some ⟨g, 0, none⟩) D.length c) := .inl ⟨rfl, grown_of_drewN hg⟩
    have := setAt_write h0 hr.row hmo
    exact ⟨⟨this.1, Touch.write hmo _⟩, by simp [World.frozen?, this.2], by rw [← hlen]; simp [World.cell?, this.2], by simp [World.cell?, this.2]⟩
  have HF := hide hfin
  have HD := hide hde
  clear hfin hde h0 hR hMD hDl hsz hlen
  generalize hml : M.length = m at *
  generalize hdl : D.length = d at *
  go_enter Try.func69, Try.ntmps69
  go_wp2
  go_quiet (fail)
  go_wp2
  clear hml hdl hd hd2 hm hlt hcm
  go_region_law (refine step_call rfl _ _ enters_delete _ _ rfl (by simp [Act.eval, Act.put]) (unhide HD _) ?_; rintro e w' ⟨rfl, k1, k2⟩; refine ⟨_, rfl, ?_⟩; have k3 := unhide HF _ _ k1 k2; have k4 := k3.2.1; have k5 := k3.2.2.1; have k0 := k3.2.2.2)
  all_goals go_end0
  all_goals (clear HD HF; refine ⟨rfl, ⟨_, k3.1.1, rfl⟩, k3.1.2⟩)
end Go.Proofs.Ytcojhjnledeciaa
