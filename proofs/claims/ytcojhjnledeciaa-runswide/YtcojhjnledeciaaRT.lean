/- RU and RT, one text. -/
import Derived.Test.YtcojhjnledeciaaMW
import Derived.BigRegion
import Derived.RangeFuncBox
import Derived.Deep.RegionHeldLaw
import Derived.BigQuiet
namespace Go.Proofs.Ytcojhjnledeciaa.Kr
open Go.RowKit
set_option linter.unusedVariables false
set_option maxHeartbeats 800000
set_option maxRecDepth 100000

/-- The document's set in memory. -/
structure RefAt (w : World) (b : Nat) (most : Int) (v : Value) (L : List Sp) : Prop where
  blk : w.heap[b]? = some (.cells #[v, .int .i64 most] 28 (0, 0))
  row : Row w v L

theorem refHas_any (b : Nat) (most x : Int) (v : Value) (L : List Sp) (w : World) (h : RefAt w b most v L) (hL : Good 0 18446744073709551615 L) (hb : L.length ≤ 8000000000000) (hx : 0 ≤ x ∧ x ≤ 18446744073709551615) :
    Calls Try.prog 26 #[.pointer (some ⟨b, 0, none⟩), .int .u64 x] w fun e w' => e = .returned (.bool (memB x L)) ∧ w.grownBy w' none := by
  obtain ⟨a, c, rfl, rd, k1, k2⟩ := h.row.rd
  have hw := within_ref a L.length c L x x w rfl rd (good_vb hL) ⟨k1, k2⟩ hb hx hx
  rw [withinR_eq (fun s hs => (hL.mem hs).2.1) (Int.le_refl _)] at hw
  have c0 := (box2 h.blk).1
  have hlen : (withinF x x L).length = if memB x L then 1 else 0 := by
    obtain ⟨A, M, D, rfl, hA, hM, hD⟩ := split3 x x hL (by omega)
    rw [memB_split hA hM hD, withinF_append, withinF_append, withinF_none (fun s hs => .inl (hA s hs)), withinF_none (A := D) (fun s hs => .inr (hD s hs).1), withinF_all hM]
    match M, hM with
    | [], _ => simp
    | [m], _ => simp
    | m :: m' :: M, hM =>
      have h1 := hM m (by simp)
      have h2 := hM m' (by simp)
      have h3 := hL.right.left.2.2.2.1
      omega
  generalize withinF x x L = R at *
  clear rd h hL
  go_enter Try.func26, Try.ntmps26
  go_wp2_with fail
  refine hw.mono ?_
  rintro e W1 ⟨v1, rfl, r1, f1, g1⟩
  obtain ⟨a1, d1, rfl, -, -, -⟩ := r1.rd
  rw [hlen]
  clear hw r1 f1
  cases hm : memB x L
  · simp only [hm] at hlen ⊢
    go_wp2_with fail
    go_ret
    first | exact ⟨rfl, g1⟩ | exact ⟨by rw [hm]; rfl, g1⟩
  · simp only [hm] at hlen ⊢
    go_wp2_with fail
    go_ret
    first | exact ⟨rfl, g1⟩ | exact ⟨by rw [hm]; rfl, g1⟩
end Go.Proofs.Ytcojhjnledeciaa.Kr

namespace Go.Proofs.Ytcojhjnledeciaa
open Go.RowKit
set_option linter.unusedVariables false
set_option maxRecDepth 100000

theorem heap_setCell_at {w : World} {g k : Nat} {c : Array Value} {t : TypeId} {fr : Nat × Nat} (h : w.heap[g]? = some (.cells c t fr)) (v : Value) : (w.setCell ⟨g, k, none⟩ v).heap[g]? = some (.cells (c.setIfInBounds k v) t fr) := by
  simp [World.setCell, Array.getElem?_modify, h]
end Go.Proofs.Ytcojhjnledeciaa

namespace Go.Proofs.Ytcojhjnledeciaa.Kr
open Go.RowKit
set_option linter.unusedVariables false
set_option maxHeartbeats 800000
set_option maxRecDepth 100000

theorem rdR_drop2 {w : World} {b off : Nat} {A D : List Sp} (h : RdR w (some ⟨b, off, none⟩) (A ++ D)) : RdR w (some ⟨b, off + A.length * 2, none⟩) D := fun hne => by
  obtain ⟨b', off', e, hc⟩ := h (fun e => hne (List.append_eq_nil_iff.1 e).2)
  simp only [Option.some.injEq, Addr.mk.injEq, and_true] at e
  obtain ⟨rfl, rfl⟩ := e
  refine ⟨b, off + A.length * 2, rfl, fun i hi => ?_⟩
  have h1 := hc (A.length + i) (by rw [List.length_append]; omega)
  have e2 : (A ++ D).getD (A.length + i) (0, 0) = D.getD i (0, 0) := by simp only [List.getD]; rw [List.getElem?_append_right (by omega), Nat.add_sub_cancel_left]
  rw [e2, show off + (A.length + i) * 2 = off + A.length * 2 + i * 2 by omega] at h1
  exact h1

theorem RefAt.keep {w w' : World} {b : Nat} {most : Int} {v : Value} {L : List Sp} (h : RefAt w b most v L) (hg : w.grownBy w' none) : RefAt w' b most v L :=
  ⟨by rw [hg.block b (heap_some_lt h.blk) (by simp)]; exact h.blk, h.row.keep hg⟩

/-- What a call on the set leaves: the set; all else as it was. -/
def RefPost (b : Nat) (most : Int) (v : Value) (w : World) (L' : List Sp) (w' : World) : Prop :=
  ∃ v', RefAt w' b most v' L' ∧ (v' = v ∨ Fresh w v') ∧ w.grownBy w' (some b)

theorem ref_norow {w : World} {b : Nat} {most : Int} {v v' : Value} {L L' : List Sp} (h : RefAt w b most v L) (h' : Row w v' L') : v'.ownBlock ≠ some b := fun e => by
  rcases Row.at h' with ⟨rfl, _⟩ | ⟨g', c, sp, rfl, hR⟩
  · simp [Value.ownBlock] at e
  · simp [Value.ownBlock] at e
    subst e
    have h1 := hR.1
    rw [h.blk] at h1
    simp at h1

/-- A list of one's own stored into the set. -/
theorem RefAt.store {w W : World} {b : Nat} {most : Int} {v v' : Value} {L L' : List Sp} (h : RefAt W b most v L) (hr : Row W v' L') (hf : Fresh w v') (hg : w.grownBy W none) : RefPost b most v w L' (W.setCell ⟨b, 0, none⟩ v') := by
  refine ⟨v', ⟨?_, ?_⟩, .inr hf, ?_⟩
  · rw [heap_setCell_at h.blk]; rfl
  · exact World.ownsRow.kept hr (grownBy_setCell' W b v') (.inr (ref_norow h hr))
  · exact ⟨(grownBy_setCell' W b v').os.trans hg.os, (grownBy_setCell' W b v').tape.trans hg.tape, (grownBy_setCell' W b v').output.trans hg.output, Nat.le_trans hg.size (grownBy_setCell' W b v').size, fun k hk hne => by rw [(grownBy_setCell' W b v').block k (Nat.lt_of_lt_of_le hk hg.size) hne]; exact hg.block k hk (by simp)⟩

theorem bound_no (b : Nat) (most : Int) (v : Value) (L : List Sp) (w : World) (h : RefAt w b most v L) (hno : ¬ (0 < most ∧ most < L.length)) :
    Calls Try.prog 54 #[.pointer (some ⟨b, 0, none⟩)] w fun e w' => e = .returned (.tuple #[]) ∧ w.grownBy w' none := by
  obtain ⟨a, c, rfl, -, -, -⟩ := h.row.rd
  have c0 := (box2 h.blk).1
  have c1 := (box2 h.blk).2
  generalize L.length = n at *
  clear h
  by_cases h1 : 0 < most
  · have hd1 : decide (0 < most) = true := decide_eq_true h1
    have h2 : ¬ most < (n : Int) := fun e => hno ⟨h1, e⟩
    have hd2 : decide (most < (n : Int)) = false := decide_eq_false h2
    clear hno
    go_enter Try.func54, Try.ntmps54
    go_wp2
    go_quiet (fail)
    go_wp2
    go_end0
    exact ⟨rfl, grown_drewN _ _⟩
  · have hd1 : decide (0 < most) = false := decide_eq_false h1
    clear hno
    go_enter Try.func54, Try.ntmps54
    go_wp2
    go_quiet (fail)
    go_wp2
    go_end0
    exact ⟨rfl, grown_drewN _ _⟩

theorem bound_yes (b M : Nat) (v : Value) (L : List Sp) (w : World) (h : RefAt w b M v L) (h0 : 0 < M) (h1 : M < L.length) (hb : L.length ≤ 8000000000000) :
    Calls Try.prog 54 #[.pointer (some ⟨b, 0, none⟩)] w fun e w' => e = .returned (.tuple #[]) ∧ RefPost b M v w (L.drop (L.length - M)) w' := by
  rcases Row.at h.row with ⟨rfl, rfl⟩ | ⟨g, c, sp, rfl, hR⟩
  · simp at h1
  have c0 := (box2 h.blk).1
  have c1 := (box2 h.blk).2
  have HH := hide h
  have hsz := hR.2.1
  have hcm := hR.2.2
  unfold maxLen at hcm
  have rd : RdR w (some ⟨g, (L.length - M) * 2, none⟩) (L.drop (L.length - M)) := by
    have h2 : RdR w (some ⟨g, 0, none⟩) (L.take (L.length - M) ++ L.drop (L.length - M)) := by rw [List.take_append_drop]; exact rdR_row h.row
    have := rdR_drop2 h2
    rw [List.length_take, Nat.min_eq_left (by omega), Nat.zero_add] at this
    exact this
  have RD := hide rd
  have hdl : (L.drop (L.length - M)).length = L.length - (L.length - M) := List.length_drop
  have HDL := hide hdl
  clear rd h hR hdl
  have hb8 : L.length ≤ 8000000000000 := hb
  generalize hnn : L.length = n at *
  have HN := hide hnn
  clear hnn
  have hd1 : decide (0 < (M : Int)) = true := decide_eq_true (by omega)
  have hd1' : (0 : Int) < (M : Int) := by omega
  have hd2 : decide ((M : Int) < (n : Int)) = true := decide_eq_true (by omega)
  have hd2' : (M : Int) < (n : Int) := by omega
  have hd3 : decide (0 < M) = true := decide_eq_true h0
  have hd4 : decide (M < n) = true := decide_eq_true h1
  generalize hdd : n - M = d at *
  have HDD := hide hdd
  have hcz : ¬ (c = d) := by omega
  have hcn : n ≤ c := by omega
  have hs6 : IntKind.i64.wrap (d : Int) = (d : Int) := by rw [IntKind.wrap_i64]; omega
  have hs2 : IntKind.i64.wrap ((n : Int) - (M : Int)) = (d : Int) := by rw [IntKind.wrap_i64]; omega
  have hs3 : (d : Int) ≤ (n : Int) := by omega
  have hs4 : d ≤ n := by omega
  have hs5 : n - d = M := by omega
  have hcn' : (n : Int) ≤ (c : Int) := by omega
  have hMn : M ≤ n := by omega
  go_enter Try.func54, Try.ntmps54
  go_wp2
  go_quiet (fail)
  have hgW := hide (grown_drewN w nq)
  have e0 : (w.drewN nq).cell? ⟨b, 0, none⟩ = some (.slice (some ⟨g, 0, none⟩) n c) := c0
  have e1 : (w.drewN nq).cell? ⟨b, 1, none⟩ = some (.int .i64 (M : Int)) := c1
  generalize w.drewN nq = W at *
  have hgD : W.grownBy W.drew none := grown_drewN W 1
  obtain ⟨v2, W2, hr, r2, f2, g2⟩ := app_all (W := w) (w := W.drew) (c := c - d) (row_nil W.drew) (fresh_nil w) (grown_trans (unhide hgW) hgD) (n := M) (by rw [unhide HDL]; exact hs5) ((unhide RD).grown (grown_trans (unhide hgW) hgD)) (by simp; omega)
  rw [List.nil_append] at r2
  have y0 := cell_grown_none g2 c0
  have y1 := cell_grown_none g2 c1
  have hfz : W2.frozen? ⟨b, 0, none⟩ = false := by
    have := ((unhide HH).keep g2).blk
    unfold World.frozen?
    rw [this]
    simp
  have F := hide (((unhide HH).keep g2).store r2 f2 g2)
  obtain ⟨a2, d2, rfl, -, -, -⟩ := r2.rd
  clear r2 f2 c0 c1 h1 h0 hdd
  generalize (L.drop d).length = n2 at *
  go_wp2
  go_region_held_law (fun w' => w'.cell? ⟨b, 0, none⟩ = some (.slice (some ⟨g, 0, none⟩) n c) ∧ w'.cell? ⟨b, 1, none⟩ = some (.int .i64 (M : Int))) (go_keep) (refine step_append_run rfl _ _ 26 26 rfl _ _ (by simp [Act.eval]) (by simp [Act.eval]) (hr _) ?_)
  go_wp2
  go_end0
  exact ⟨rfl, unhide F⟩
end Go.Proofs.Ytcojhjnledeciaa.Kr
