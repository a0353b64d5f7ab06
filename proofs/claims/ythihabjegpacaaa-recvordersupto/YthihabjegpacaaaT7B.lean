/- recv: View. -/
import Derived.Test.YthihabjegpacaaaT7A
import Derived.Deep.RegionHeld3
namespace Go.Proofs.Ythihabjegpacaaa
open Go.RowKit
set_option linter.unusedVariables false
set_option linter.unusedSimpArgs false
set_option maxHeartbeats 8000000
set_option maxRecDepth 100000

theorem ne_r {W W1 : World} {v : Value} {r : Nat} (f : Fresh W1 v) (h : W1.heap.size = W.heap.size + 1) (hr : r = W.heap.size) : v.ownBlock = none ∨ v.ownBlock ≠ some r := .inr fun e => by have := f r e; omega
theorem gr_new {W W1 X Y : World} {r : Nat} (g1 : W.grownBy W1 none) (g2 : W1.grownBy X none) (g3 : X.grownBy Y (some r)) (hr : r = W.heap.size) : W.grownBy Y none :=
  have g := grown_trans g1 g2
  ⟨g3.os.trans g.os, g3.tape.trans g.tape, g3.output.trans g.output, Nat.le_trans g.size g3.size, fun k hk _ => (g3.block k (Nat.lt_of_lt_of_le hk g.size) (fun e => by cases e; omega)).trans (g.block k hk (by simp))⟩
theorem Try.sizeRV : (Try.prog.info? 38).map (·.size) = some 8 := by kernel_rfl
def rview0 : Array Value := #[.int .i64 0, .int .i64 0, .int .i64 0, .int .i64 0, .int .i64 0, .slice none 0 0, .bool false, .bool false]
/-- Eight cells are written. -/
def rput8 (X : World) (r : Nat) (v0 v1 v2 v3 v4 v5 v6 v7 : Value) : World := (((((((X.setCell ⟨r, 0, none⟩ v0).setCell ⟨r, 1, none⟩ v1).setCell ⟨r, 2, none⟩ v2).setCell ⟨r, 3, none⟩ v3).setCell ⟨r, 4, none⟩ v4).setCell ⟨r, 5, none⟩ v5).setCell ⟨r, 6, none⟩ v6).setCell ⟨r, 7, none⟩ v7
theorem rput8_blk {X : World} {r : Nat} {t : TypeId} (h : Blk X r rview0 t) (v0 v1 v2 v3 v4 v5 v6 v7 : Value) : Blk (rput8 X r v0 v1 v2 v3 v4 v5 v6 v7) r #[v0, v1, v2, v3, v4, v5, v6, v7] t ∧ X.grownBy (rput8 X r v0 v1 v2 v3 v4 v5 v6 v7) (some r) := by
  refine ⟨?_, ?_⟩
  · have h0 : Blk _ r #[v0, .int .i64 0, .int .i64 0, .int .i64 0, .int .i64 0, .slice none 0 0, .bool false, .bool false] t := h.setC 0 v0
    have h1 : Blk _ r #[v0, v1, .int .i64 0, .int .i64 0, .int .i64 0, .slice none 0 0, .bool false, .bool false] t := h0.setC 1 v1
    have h2 : Blk _ r #[v0, v1, v2, .int .i64 0, .int .i64 0, .slice none 0 0, .bool false, .bool false] t := h1.setC 2 v2
    have h3 : Blk _ r #[v0, v1, v2, v3, .int .i64 0, .slice none 0 0, .bool false, .bool false] t := h2.setC 3 v3
    have h4 : Blk _ r #[v0, v1, v2, v3, v4, .slice none 0 0, .bool false, .bool false] t := h3.setC 4 v4
    have h5 : Blk _ r #[v0, v1, v2, v3, v4, v5, .bool false, .bool false] t := h4.setC 5 v5
    have h6 : Blk _ r #[v0, v1, v2, v3, v4, v5, v6, .bool false] t := h5.setC 6 v6
    have h7 : Blk _ r #[v0, v1, v2, v3, v4, v5, v6, v7] t := h6.setC 7 v7
    exact h7
  · exact grown_at (grown_at (grown_at (grown_at (grown_at (grown_at (grown_at (grown_at (grown_any (grown_self X none) r) 0 v0) 1 v1) 2 v2) 3 v3) 4 v4) 5 v5) 6 v6) 7 v7
/-- The cells of a view. -/
def rviewC (S : Rv) (vr : Value) : Array Value := #[.int .i64 S.limit, .int .i64 S.read, .int .i64 S.high, .int .i64 S.final, .int .i64 (cnt S.K - S.read), vr, .bool S.ended, .bool S.reset]
theorem cnt_bounds {mn mx : Int} {L : List Sp} (h : Good mn mx L) (hm : mn ≤ mx + 1) : 0 ≤ cnt L ∧ cnt L ≤ mx - mn + 1 := by
  induction L generalizing mn with
  | nil => simp [cnt]; omega
  | cons s L ih =>
    have h1 := h.1; have h2 := h.2.1; have h3 := h.2.2.1
    by_cases c : s.2 + 2 ≤ mx + 1
    · have := ih h.2.2.2 c
      simp only [cnt]
      omega
    · have : L = [] := by
        cases L with
        | nil => rfl
        | cons t L => have := h.2.2.2.1; have := h.2.2.2.2.1; have := h.2.2.2.2.2.1; omega
      subst this
      simp only [cnt]
      omega

section
variable {w W : World} {M : Nat → Prop} {b bk : Nat} {vh : Value} {E : List He} {S : Rv}
theorem view_at (h : RA w M b bk vh E W S) (hok : RvOk S) (nK : S.K.length ≤ 100000000) :
    Calls Try.prog 11 #[ptr b] W fun e W' => ∃ vr, e = .returned (.agg (rviewC S vr)) ∧ Row W' vr S.K ∧ Fresh W vr ∧ W.grownBy W' none := by
  have hr0 := hok.r0; have hrh := hok.rh; have hhl := hok.hl; have hlm := hok.lm
  have hcn := cnt_bounds hok.gK (by omega)
  have okK : Ok S.K := ⟨rv_gx hok, by omega⟩
  have tld : toldF S.K = cnt S.K := by unfold toldF; omega
  obtain ⟨va, s, m⟩ := h.set
  obtain ⟨W1, hW1⟩ : ∃ W1, W1 = W.alloc (.cells #[.int .i64 0, .int .i64 0, .int .i64 0, .int .i64 0, .int .i64 0, .slice none 0 0, .bool false, .bool false] 38) := ⟨_, rfl⟩
  have g1 : W.grownBy W1 none := by rw [hW1]; exact grown_alloc _ _
  have b1 : Blk W1 W.heap.size #[.int .i64 0, .int .i64 0, .int .i64 0, .int .i64 0, .int .i64 0, .slice none 0 0, .bool false, .bool false] 38 := by rw [hW1]; exact Blk.new _ _ _
  have h1 := h.grown g1
  have hC : ∀ X, W1.grownBy X none → Calls Try.prog 21 #[ptr bk] X (fun e X' => e = .returned (.int .u64 (cnt S.K)) ∧ W1.grownBy X' none) := fun X g => (count_any bk 0 va S.K X ((s.keep g1).keep g) okK).mono (by rintro e X' ⟨he, hg⟩; rw [tld] at he; exact ⟨he, grown_trans g hg⟩)
  have hR : ∀ X, W1.grownBy X none → Calls Try.prog 22 #[ptr bk] X (fun e X' => ∃ v, e = .returned v ∧ Row X' v S.K ∧ Fresh W1 v ∧ W1.grownBy X' none) := fun X g => (runs_any bk 0 va S.K X ((s.keep g1).keep g) (by omega)).mono (by rintro e X' ⟨v, he, hr, hf, hg⟩; exact ⟨v, he, hr, fun k e => Nat.le_trans g.size (hf k e), grown_trans g hg⟩)
  have HK : ∀ X, W1.grownBy X none → X.cell? ⟨b, 0, none⟩ = some (.int .i64 S.limit) ∧ X.cell? ⟨b, 1, none⟩ = some (.int .i64 S.read) ∧ X.cell? ⟨b, 2, none⟩ = some (.int .i64 S.high) ∧ X.cell? ⟨b, 3, none⟩ = some (.int .i64 S.final) ∧ X.cell? ⟨b, 4, none⟩ = some (ptr bk) ∧ X.cell? ⟨b, 6, none⟩ = some (.bool S.ended) ∧ X.cell? ⟨b, 7, none⟩ = some (.bool S.reset) := fun X g => by
    obtain ⟨c0, c1, c2, c3, c4, c5, c6, c7⟩ := (h1.grown g).cells
    exact ⟨c0, c1, c2, c3, c4, c6, c7⟩
  have BR : Hid (∀ X, W1.grownBy X none → Blk X W.heap.size rview0 38) := fun X g => b1.grown g
  have hsz : W1.heap.size = W.heap.size + 1 := by rw [hW1]; exact alloc_size _ _
  obtain ⟨r, hr⟩ : ∃ r, r = W.heap.size := ⟨_, rfl⟩
  have hbr : b ≠ r := by have := h.blk.lt; omega
  have hrb : r ≠ b := hbr.symm
  have G1 := hide g1
  have HSZ := hide hsz
  rw [← hr] at BR
  have HV : Hid (rviewC S = fun vr => #[.int .i64 S.limit, .int .i64 S.read, .int .i64 S.high, .int .i64 S.final, .int .i64 (cnt S.K - S.read), vr, .bool S.ended, .bool S.reset]) := rfl
  obtain ⟨x0, x1, x2, x3, x4, x6, x7⟩ := HK W1 (grown_self _ _)
  clear h hok h1 b1 g1 okK hsz s m tld nK
  generalize cnt S.K = cn at *
  generalize S.reset = rs at *
  generalize S.ended = en at *
  generalize S.final = fn at *
  generalize S.high = hi at *
  generalize S.read = rd at *
  generalize S.limit = lm at *
  have HR := hide hr
  go_enter Try.func11, Try.ntmps11
  go_wp2_with fail
  rw [← hW1, ← hr]
  clear hW1 hr
  go_region_held3 (fun X => X.cell? ⟨b, 0, none⟩ = some (.int .i64 lm) ∧ X.cell? ⟨b, 1, none⟩ = some (.int .i64 rd) ∧ X.cell? ⟨b, 2, none⟩ = some (.int .i64 hi) ∧ X.cell? ⟨b, 3, none⟩ = some (.int .i64 fn) ∧ X.cell? ⟨b, 4, none⟩ = some (ptr bk) ∧ X.cell? ⟨b, 6, none⟩ = some (.bool en) ∧ X.cell? ⟨b, 7, none⟩ = some (.bool rs)) (go_keep) (first | (go_at_call 21; refine (hC _ (by first | with_reducible exact grown_self _ _ | with_reducible exact grown_drew' (grown_self _ _) | with_reducible exact grown_drewN _ _)).mono ?_; rintro e X1 ⟨rfl, G2⟩; clear x0 x1 x2 x3 x4 x6 x7; obtain ⟨x0, x1, x2, x3, x4, x6, x7⟩ := HK X1 G2) | (go_at_call 22; refine (hR _ (by first | with_reducible exact G2 | with_reducible exact grown_drew' G2)).mono ?_; rintro e X3 ⟨va, rfl, r1, f1, G4⟩; obtain ⟨a1, c1, rfl, -⟩ := r1.shape; clear x0 x1 x2 x3 x4 x6 x7; obtain ⟨x0, x1, x2, x3, x4, x6, x7⟩ := HK X3 G4; have b4 := unhide BR X3 G4; have e0 := b4.thaw 0; have e1 := b4.thaw 1; have e2 := b4.thaw 2; have e3 := b4.thaw 3; have e4 := b4.thaw 4; have e5 := b4.thaw 5; have e6 := b4.thaw 6; have e7 := b4.thaw 7; have o0 := b4.cell 0 _ rfl; have o1 := b4.cell 1 _ rfl; have o2 := b4.cell 2 _ rfl; have o3 := b4.cell 3 _ rfl; have o4 := b4.cell 4 _ rfl; have o5 := b4.cell 5 _ rfl; have o6 := b4.cell 6 _ rfl; have o7 := b4.cell 7 _ rfl; clear b4))
  have w1 : IntKind.i64.wrap cn = cn := by rw [IntKind.wrap_i64]; omega
  have w2 : IntKind.i64.wrap (IntKind.i64.wrap cn - rd) = cn - rd := by rw [w1, IntKind.wrap_i64]; omega
  rw [w2, w1]
  go_wp2_with fail
  have FF := rput8_blk (unhide BR X3 G4) (.int .i64 lm) (.int .i64 rd) (.int .i64 hi) (.int .i64 fn) (.int .i64 (cn - rd)) (.slice a1 S.K.length c1) (.bool en) (.bool rs)
  refine bodyPost_ret (results_cell_row rfl _ _ r 38 _ (0, 0) _ rfl FF.1 Try.underlying38 rfl Try.sizeRV) rfl ?_
  exact ⟨_, by rw [unhide HV], r1.keepBut FF.2 (ne_r f1 (unhide HSZ) (unhide HR)), fun k e => Nat.le_trans (unhide G1).size (f1 k e), gr_new (unhide G1) G4 FF.2 (unhide HR)⟩
end
end Go.Proofs.Ythihabjegpacaaa
