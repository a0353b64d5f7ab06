/- View. -/
import Derived.Test.YtdalekjpjnhboaaS5V1
namespace Go.Proofs.Ytdalekjpjnhboaa
open Go.RowKit
set_option linter.unusedVariables false
set_option maxHeartbeats 2000000
set_option maxRecDepth 100000

section
variable {w W : World} {M : Nat → Prop} {b ba bl : Nat} {vh : Value} {S : Sd}

theorem view_at (h : At w M b ba bl vh W S) (hok : SdOk S) (hbig : wr S ≤ 1152921504606846976) :
    Calls Try.prog 18 #[ptr b] W fun e W' => ∃ va vl, e = .returned (.agg (viewC S va vl)) ∧ Row W' va S.A ∧ Row W' vl S.L ∧ Fresh W va ∧ Fresh W vl ∧ (∀ g, va.ownBlock = some g → vl.ownBlock ≠ some g) ∧ W.grownBy W' none := by
  by_cases hf1 : S.fin = 1
  · exact view_one hf1 h hok hbig
  have hb := h.blk.alloc (.cells view0 36)
  have g1 : W.grownBy (W.alloc (.cells view0 36)) none := grown_alloc _ _
  have h1 := h.grown g1
  have br : Blk (W.alloc (.cells view0 36)) W.heap.size view0 36 := Blk.new _ _ _
  have hsz : (W.alloc (.cells view0 36)).heap.size = W.heap.size + 1 := alloc_size _ _
  have okA := hok.okA hbig
  have okL := hok.okL hbig
  obtain ⟨W1, hW1⟩ : ∃ W1, W1 = W.alloc (.cells view0 36) := ⟨_, rfl⟩
  rw [← hW1] at h1 br g1 hsz
  have hA : ∀ X, W1.grownBy X none → Calls Try.prog 43 #[ptr ba] X (fun e X' => ∃ v, e = .returned v ∧ Row X' v S.A ∧ Fresh W1 v ∧ W1.grownBy X' none) := fun X g => (runsA_at (h1.grown g) okA).mono (by rintro e X' ⟨v, he, hr, hf, hg⟩; exact ⟨v, he, hr, fun k e => Nat.le_trans g.size (hf k e), grown_trans g hg⟩)
  have hL : ∀ X, W1.grownBy X none → Calls Try.prog 43 #[ptr bl] X (fun e X' => ∃ v, e = .returned v ∧ Row X' v S.L ∧ Fresh X v ∧ X.grownBy X' none) := fun X g => runsL_at (h1.grown g) okL
  have hD : ∀ X, W1.grownBy X none → Calls Try.prog 44 #[ptr b] X (fun e X' => e = .returned (.bool (doneB S)) ∧ X.grownBy X' none) := fun X g => (done_at (h1.grown g)).mono (by rintro e X' ⟨he, q, rfl⟩; exact ⟨he, grown_drewN X q⟩)
  have HK : ∀ X, W1.grownBy X none → X.cell? ⟨b, 2, none⟩ = some (.int .i64 (wr S)) ∧ X.cell? ⟨b, 3, none⟩ = some (.int .i64 S.sent) ∧ X.cell? ⟨b, 4, none⟩ = some (.int .i64 S.base) ∧ X.cell? ⟨b, 5, none⟩ = some (ptr ba) ∧ X.cell? ⟨b, 6, none⟩ = some (ptr bl) ∧ X.cell? ⟨b, 7, none⟩ = some (.bool S.ended) ∧ X.cell? ⟨b, 8, none⟩ = some (.int .i64 S.fin) ∧ X.cell? ⟨b, 9, none⟩ = some (.bool S.stopped) := fun X g => by
    obtain ⟨c0, c1, c2, c3, c4, c5, c6, c7, c8, c9⟩ := (h1.grown g).cells
    exact ⟨c2, c3, c4, c5, c6, c7, c8, c9⟩
  have BR : Hid (∀ X, W1.grownBy X none → Blk X W.heap.size view0 36) := fun X g => br.grown g
  obtain ⟨r, hr⟩ : ∃ r, r = W.heap.size := ⟨_, rfl⟩
  have hbr : b ≠ r := by have := h.blk.lt; omega
  have hrb : r ≠ b := hbr.symm
  have G1 := hide g1
  have HSZ := hide hsz
  rw [← hr] at BR
  have HV : Hid (viewC S = fun va vl => #[.int .i64 (wr S), .int .i64 S.sent, .int .i64 S.base, va, vl, .bool S.ended, .bool (decide (S.fin = 1) || decide (S.fin = 3)), .bool (decide (S.fin = 3)), .bool S.stopped, .bool (doneB S)]) := rfl
  obtain ⟨x2, x3, x4, x5, x6, x7, x8, x9⟩ := HK W1 (grown_self _ _)
  clear h hok hb h1 br g1 okA okL hsz
  generalize doneB S = dn at *
  generalize S.stopped = st at *
  generalize S.ended = en at *
  generalize S.fin = ff at *
  generalize S.base = bs at *
  generalize S.sent = sn at *
  generalize wr S = t at *
  have HR := hide hr
  by_cases hf3 : ff = 3
  · have q1 := beq_no hf1
    have q3 := beq_yes hf3
    go_enter Try.func18, Try.ntmps18
    go_wp2_with fail
    rw [show (W.alloc (.cells #[.int .i64 0, .int .i64 0, .int .i64 0, .slice none 0 0, .slice none 0 0, .bool false, .bool false, .bool false, .bool false, .bool false] 36)) = W1 from hW1.symm]
    rw [← hr]
    clear hW1 hr
    go_region_held3 (fun X => X.cell? ⟨b, 2, none⟩ = some (.int .i64 t) ∧ X.cell? ⟨b, 3, none⟩ = some (.int .i64 sn) ∧ X.cell? ⟨b, 4, none⟩ = some (.int .i64 bs) ∧ X.cell? ⟨b, 5, none⟩ = some (ptr ba) ∧ X.cell? ⟨b, 6, none⟩ = some (ptr bl) ∧ X.cell? ⟨b, 7, none⟩ = some (.bool en) ∧ X.cell? ⟨b, 8, none⟩ = some (.int .i64 ff) ∧ X.cell? ⟨b, 9, none⟩ = some (.bool st)) (go_keep) (first | (go_at_call 43; refine (hA _ (by first | with_reducible exact grown_self _ _ | with_reducible exact grown_drew' (grown_self _ _) | with_reducible exact grown_drewN _ _)).mono ?_; rintro e X1 ⟨va, rfl, r1, f1, G2⟩; obtain ⟨a1, c1, rfl, -⟩ := r1.shape; clear x2 x3 x4 x5 x6 x7 x8 x9; obtain ⟨x2, x3, x4, x5, x6, x7, x8, x9⟩ := HK X1 G2) | (go_at_call 43; refine (hL _ (by first | with_reducible exact G2 | with_reducible exact grown_drew' G2)).mono ?_; rintro e X2 ⟨vl, rfl, r2, f2, k2⟩; obtain ⟨a2, c2, rfl, -⟩ := r2.shape; have G3 : W1.grownBy X2 none := grown_trans G2 k2; clear x2 x3 x4 x5 x6 x7 x8 x9; obtain ⟨x2, x3, x4, x5, x6, x7, x8, x9⟩ := HK X2 G3) | (go_at_call 44; refine (hD _ (by first | with_reducible exact G3 | with_reducible exact grown_drew' G3)).mono ?_; rintro e X3 ⟨rfl, k3⟩; have G4 : W1.grownBy X3 none := grown_trans G3 k3; clear x2 x3 x4 x5 x6 x7 x8 x9; obtain ⟨x2, x3, x4, x5, x6, x7, x8, x9⟩ := HK _ G4; have b4 := unhide BR X3 G4; have e0 := b4.thaw 0; have e1 := b4.thaw 1; have e2 := b4.thaw 2; have e3 := b4.thaw 3; have e4 := b4.thaw 4; have e5 := b4.thaw 5; have e6 := b4.thaw 6; have e7 := b4.thaw 7; have e8 := b4.thaw 8; have e9 := b4.thaw 9; have o0 := b4.cell 0 _ rfl; have o1 := b4.cell 1 _ rfl; have o2 := b4.cell 2 _ rfl; have o3 := b4.cell 3 _ rfl; have o4 := b4.cell 4 _ rfl; have o5 := b4.cell 5 _ rfl; have o6 := b4.cell 6 _ rfl; have o7 := b4.cell 7 _ rfl; have o8 := b4.cell 8 _ rfl; have o9 := b4.cell 9 _ rfl; clear b4))
    go_wp2_with fail
    have FF := put10_blk (unhide BR X3 G4) (.int .i64 t) (.int .i64 sn) (.int .i64 bs) (.slice a1 S.A.length c1) (.slice a2 S.L.length c2) (.bool en) (.bool true) (.bool true) (.bool st) (.bool dn)
    have gX : X1.grownBy X3 none := grown_trans k2 k3
    refine bodyPost_ret (results_cell_row rfl _ _ r 36 _ (0, 0) _ rfl FF.1 Try.underlying36 rfl Try.sizeV) rfl ?_
    exact ⟨_, _, by rw [unhide HV]; simp [*], (r1.keep gX).keepBut FF.2 (ne_r f1 (unhide HSZ) (unhide HR)), (r2.keep k3).keepBut FF.2 (ne_r (fun k e => Nat.le_trans G2.size (f2 k e)) (unhide HSZ) (unhide HR)), fun k e => Nat.le_trans (unhide G1).size (f1 k e), fun k e => Nat.le_trans (unhide G1).size (Nat.le_trans G2.size (f2 k e)), fun g e e' => by have := row_lt r1 g e; have := f2 g e'; omega, gr_new (unhide G1) G4 FF.2 (unhide HR)⟩
  · have q1 := beq_no hf1
    have q3 := beq_no hf3
    go_enter Try.func18, Try.ntmps18
    go_wp2_with fail
    rw [show (W.alloc (.cells #[.int .i64 0, .int .i64 0, .int .i64 0, .slice none 0 0, .slice none 0 0, .bool false, .bool false, .bool false, .bool false, .bool false] 36)) = W1 from hW1.symm]
    rw [← hr]
    clear hW1 hr
    go_region_held3 (fun X => X.cell? ⟨b, 2, none⟩ = some (.int .i64 t) ∧ X.cell? ⟨b, 3, none⟩ = some (.int .i64 sn) ∧ X.cell? ⟨b, 4, none⟩ = some (.int .i64 bs) ∧ X.cell? ⟨b, 5, none⟩ = some (ptr ba) ∧ X.cell? ⟨b, 6, none⟩ = some (ptr bl) ∧ X.cell? ⟨b, 7, none⟩ = some (.bool en) ∧ X.cell? ⟨b, 8, none⟩ = some (.int .i64 ff) ∧ X.cell? ⟨b, 9, none⟩ = some (.bool st)) (go_keep) (first | (go_at_call 43; refine (hA _ (by first | with_reducible exact grown_self _ _ | with_reducible exact grown_drew' (grown_self _ _) | with_reducible exact grown_drewN _ _)).mono ?_; rintro e X1 ⟨va, rfl, r1, f1, G2⟩; obtain ⟨a1, c1, rfl, -⟩ := r1.shape; clear x2 x3 x4 x5 x6 x7 x8 x9; obtain ⟨x2, x3, x4, x5, x6, x7, x8, x9⟩ := HK X1 G2) | (go_at_call 43; refine (hL _ (by first | with_reducible exact G2 | with_reducible exact grown_drew' G2)).mono ?_; rintro e X2 ⟨vl, rfl, r2, f2, k2⟩; obtain ⟨a2, c2, rfl, -⟩ := r2.shape; have G3 : W1.grownBy X2 none := grown_trans G2 k2; clear x2 x3 x4 x5 x6 x7 x8 x9; obtain ⟨x2, x3, x4, x5, x6, x7, x8, x9⟩ := HK X2 G3) | (go_at_call 44; refine (hD _ (by first | with_reducible exact G3 | with_reducible exact grown_drew' G3)).mono ?_; rintro e X3 ⟨rfl, k3⟩; have G4 : W1.grownBy X3 none := grown_trans G3 k3; clear x2 x3 x4 x5 x6 x7 x8 x9; obtain ⟨x2, x3, x4, x5, x6, x7, x8, x9⟩ := HK _ G4; have b4 := unhide BR X3 G4; have e0 := b4.thaw 0; have e1 := b4.thaw 1; have e2 := b4.thaw 2; have e3 := b4.thaw 3; have e4 := b4.thaw 4; have e5 := b4.thaw 5; have e6 := b4.thaw 6; have e7 := b4.thaw 7; have e8 := b4.thaw 8; have e9 := b4.thaw 9; have o0 := b4.cell 0 _ rfl; have o1 := b4.cell 1 _ rfl; have o2 := b4.cell 2 _ rfl; have o3 := b4.cell 3 _ rfl; have o4 := b4.cell 4 _ rfl; have o5 := b4.cell 5 _ rfl; have o6 := b4.cell 6 _ rfl; have o7 := b4.cell 7 _ rfl; have o8 := b4.cell 8 _ rfl; have o9 := b4.cell 9 _ rfl; clear b4))
    go_wp2_with fail
    have FF := put10_blk (unhide BR X3 G4) (.int .i64 t) (.int .i64 sn) (.int .i64 bs) (.slice a1 S.A.length c1) (.slice a2 S.L.length c2) (.bool en) (.bool false) (.bool false) (.bool st) (.bool dn)
    have gX : X1.grownBy X3 none := grown_trans k2 k3
    refine bodyPost_ret (results_cell_row rfl _ _ r 36 _ (0, 0) _ rfl FF.1 Try.underlying36 rfl Try.sizeV) rfl ?_
    exact ⟨_, _, by rw [unhide HV]; simp [*], (r1.keep gX).keepBut FF.2 (ne_r f1 (unhide HSZ) (unhide HR)), (r2.keep k3).keepBut FF.2 (ne_r (fun k e => Nat.le_trans G2.size (f2 k e)) (unhide HSZ) (unhide HR)), fun k e => Nat.le_trans (unhide G1).size (f1 k e), fun k e => Nat.le_trans (unhide G1).size (Nat.le_trans G2.size (f2 k e)), fun g e e' => by have := row_lt r1 g e; have := f2 g e'; omega, gr_new (unhide G1) G4 FF.2 (unhide HR)⟩
end
end Go.Proofs.Ytdalekjpjnhboaa
