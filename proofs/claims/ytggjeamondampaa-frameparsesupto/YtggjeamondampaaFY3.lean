/- The reader's part, where the order is drawn. -/
import Derived.Test.YtggjeamondampaaFY2
namespace Go.Proofs.Ytggjeamondampaa
open Go.RowKit
set_option linter.unusedVariables false
set_option linter.unusedSimpArgs false
set_option maxRecDepth 100000
set_option maxHeartbeats 4000000
section
variable {w0 w : World} {g b : Nat} {a : Option Addr} {l : List Int} {c k : Nat} {y : Int} {f : Fr} {d r : Value}
theorem PI.keepN {W : World} (h : PI w0 w g b a l c k y f d r) (gA : w.grownBy W none) : PI w0 W g b a l c k y f d r :=
  ⟨h.st, h.rb.grown gA, h.at_, h.blk.grown gA, World.ownsRow.kept h.own gA (by cases d.ownBlock <;> simp), World.ownsRow.kept h.runs gA (by cases r.ownBlock <;> simp), h.ne, h.ng, h.gb, grown_kept h.gr gA, h.off, h.lar⟩
theorem part_11 (h : PI w0 w g b a l c k y f d r) : Calls Try.prog 82 #[.pointer (some ⟨g, 0, none⟩), .pointer (some ⟨b, 0, none⟩), .int .i64 11] w (PartPost w0 g b a l c k y f 11) := by
  have hD := h.keepN (grown_drew' (World.grownBy.refl w none))
  have hnu := hD.rdg.num
  have e0 : readP 11 f (l.drop k) = (match numF (l.drop k) with | none => .inr 40 | some (n, l1) => match bytesF f.offset n l1 with | .inr e => .inr e | .inl (d, l2) => .inl ({ f with data := d }, l2)) := rfl
  have S0 : w.drew.cell? ⟨b, 2, none⟩ = some (.int .i64 f.offset) := hD.blk.cells.2.2.1
  have H := hide hD
  have HE := hide e0
  clear h e0 hD
  go_enter Try.func82, Try.ntmps82
  go_wp2_with fail
  refine wp_region_held_drew (S := fun W => W.cell? ⟨b, 2, none⟩ = some (.int .i64 f.offset)) (by kernel_rfl) S0 (fun hHeld => ?_)
  refine wpAnyH_take (i := 0) (v := ?_) rfl (by as_aux_lemma => kernel_rfl) (by as_aux_lemma => kernel_rfl) (by as_aux_lemma => kernel_rfl) (fun _ _ _ h => h) (Or.inl ⟨by rfl, ?_⟩) (by assumption) ?_
  rotate_left
  · intro wH hSw
    try dsimp only at hSw
    go_simp
    try with_reducible rfl
  try simp only [Act.put, List.setIfInBounds_toArray, List.set_cons_zero, List.set_cons_succ]
  refine wpAnyH_take (i := 1) (v := ?_) rfl (by as_aux_lemma => kernel_rfl) (by as_aux_lemma => kernel_rfl) (by as_aux_lemma => kernel_rfl) (fun _ _ _ h => h) (Or.inl ⟨by rfl, ?_⟩) (by assumption) ?_
  rotate_left
  · intro wH hSw
    try dsimp only at hSw
    go_simp
    try with_reducible rfl
  try simp only [Act.put, List.setIfInBounds_toArray, List.set_cons_zero, List.set_cons_succ]
  refine wpAnyH_take (i := 2) (v := ?_) rfl (by as_aux_lemma => kernel_rfl) (by as_aux_lemma => kernel_rfl) (by as_aux_lemma => kernel_rfl) (fun _ _ _ h => h) (Or.inl ⟨by rfl, ?_⟩) (by assumption) ?_
  rotate_left
  · intro wH hSw
    try dsimp only at hSw
    go_simp
    try with_reducible rfl
  try simp only [Act.put, List.setIfInBounds_toArray, List.set_cons_zero, List.set_cons_succ]
  refine wpAnyH_take (i := 3) (v := ?_) rfl (by as_aux_lemma => kernel_rfl) (by as_aux_lemma => kernel_rfl) (by as_aux_lemma => kernel_rfl) (fun _ _ _ h => h) (Or.inl ⟨by rfl, ?_⟩) (by assumption) ?_
  rotate_left
  · intro wH hSw
    try dsimp only at hSw
    go_simp
    try with_reducible rfl
  try simp only [Act.put, List.setIfInBounds_toArray, List.set_cons_zero, List.set_cons_succ]
  refine wpAnyH_take (i := 4) (v := ?_) rfl (by as_aux_lemma => kernel_rfl) (by as_aux_lemma => kernel_rfl) (by as_aux_lemma => kernel_rfl) (fun _ _ _ h => h) (Or.inl ⟨by rfl, ?_⟩) (by assumption) ?_
  rotate_left
  · intro wH hSw
    try dsimp only at hSw
    go_simp
    try with_reducible rfl
  try simp only [Act.put, List.setIfInBounds_toArray, List.set_cons_zero, List.set_cons_succ]
  refine wpAnyH_take (i := 5) (v := ?_) rfl (by as_aux_lemma => kernel_rfl) (by as_aux_lemma => kernel_rfl) (by as_aux_lemma => kernel_rfl) (fun _ _ _ h => h) (Or.inl ⟨by rfl, ?_⟩) (by assumption) ?_
  rotate_left
  · intro wH hSw
    try dsimp only at hSw
    go_simp
    try with_reducible rfl
  try simp only [Act.put, List.setIfInBounds_toArray, List.set_cons_zero, List.set_cons_succ]
  refine wpAnyH_take (i := 6) (v := ?_) rfl (by as_aux_lemma => kernel_rfl) (by as_aux_lemma => kernel_rfl) (by as_aux_lemma => kernel_rfl) (fun _ _ _ h => h) (Or.inl ⟨by rfl, ?_⟩) (by assumption) ?_
  rotate_left
  · intro wH hSw
    try dsimp only at hSw
    go_simp
    try with_reducible rfl
  try simp only [Act.put, List.setIfInBounds_toArray, List.set_cons_zero, List.set_cons_succ]
  refine wpAnyH_ready (rs := [7]) (by as_aux_lemma => kernel_rfl) (by simp) ?_
  refine AllReadyH.cons rfl (fun KH hKH => ?_) AllReadyH.nil
  go_simp
  refine hnu.mono ?_
  rintro e W1 (⟨v, l1, hn, rfl, v0, v1, hl1, R1, g1⟩ | ⟨hn, ⟨pv, rfl⟩, hb1, hg⟩)
  case inr =>
    exact ⟨rfl, .inr ⟨40, by rw [unhide HE, hn], ⟨_, rfl⟩, hb1, grown_add (unhide H).gr hg (fun k e => by cases e; exact .inr rfl)⟩⟩
  have P1 := (unhide H).step R1 g1
  have hby := P1.rdg.bytes (by have := P1.st.len; omega) f.offset v P1.off ⟨v0, v1⟩
  unfold BytesPost at hby
  rw [← hl1] at hby
  refine hKH.out _ _ P1.blk.cells.2.2.1 (fun hH2 => ?_)
  clear hKH KH
  try simp only [Act.put, List.setIfInBounds_toArray, List.set_cons_zero, List.set_cons_succ]
  have HP := hide P1
  clear hnu R1 g1 hHeld S0 P1
  refine wpAnyH_ready (rs := [8]) (by as_aux_lemma => kernel_rfl) (by simp) ?_
  refine AllReadyH.cons rfl (fun KH hKH => ?_) AllReadyH.nil
  go_simp
  refine hby.mono ?_
  rintro e W2 (⟨dd, l2, v', hn2, rfl, o1, hl2, R2, g2⟩ | ⟨e', hn2, ⟨pv, rfl⟩, hb1, hg⟩)
  case inr =>
    exact ⟨rfl, .inr ⟨e', by rw [unhide HE, hn]; simp only; rw [hn2], ⟨_, rfl⟩, hb1, grown_add (unhide HP).gr hg (fun k e => by cases e; exact .inr rfl)⟩⟩
  have P2 := (unhide HP).step R2 g2
  refine hKH.out _ _ P2.blk.cells.2.2.1 (fun hH3 => ?_)
  clear hKH KH
  obtain ⟨da, dn, dc, rfl⟩ : ∃ a n c, v' = .slice a n c := by obtain ⟨x, z, e⟩ := o1.shape; exact ⟨_, _, _, e⟩
  try simp only [Act.put, List.setIfInBounds_toArray, List.set_cons_zero, List.set_cons_succ]
  have P3 := P2.set (f' := { f with data := dd }) 3 (.slice da dn dc) rfl (o1.mono (unhide HP).gr.size) P2.runs P2.off P2.lar
  obtain ⟨z0, z1, z2, z3, z4, z5, z6, z7, z8, z9, z10, z11, z12, z13, z14, z15, z16⟩ := P2.blk.cells
  have th := P2.blk.thaws
  have S3 := P3.blk.cells.2.2.1
  have HQ := hide P3
  clear P2 P3 R2 g2 o1 hby
  refine wpAnyH_take (i := 9) (v := ?_) rfl (by as_aux_lemma => kernel_rfl) (by as_aux_lemma => kernel_rfl) (by as_aux_lemma => kernel_rfl) (fun _ _ _ h => h) (Or.inl ⟨by rfl, ?_⟩) (by assumption) ?_
  rotate_left
  · intro wH hSw
    try dsimp only at hSw
    go_simp
    try with_reducible rfl
  try simp only [Act.put, List.setIfInBounds_toArray, List.set_cons_zero, List.set_cons_succ]
  refine wpAnyH_take (i := 10) (v := ?_) rfl (by as_aux_lemma => kernel_rfl) (by as_aux_lemma => kernel_rfl) (by as_aux_lemma => kernel_rfl) (fun _ _ _ h => h) (Or.inl ⟨by rfl, ?_⟩) (by assumption) ?_
  rotate_left
  · intro wH hSw
    try dsimp only at hSw
    go_simp
    try with_reducible rfl
  try simp only [Act.put, List.setIfInBounds_toArray, List.set_cons_zero, List.set_cons_succ]
  refine wpAnyH_ready (rs := [11]) (by as_aux_lemma => kernel_rfl) (by simp) ?_
  refine AllReadyH.cons rfl (fun KH hKH => ?_) AllReadyH.nil
  go_simp
  refine hKH.out _ _ S3 (fun hH4 => ?_)
  clear hKH KH
  refine wpAnyH_done (by as_aux_lemma => kernel_rfl) ?_ _
  go_wp2_with fail
  go_end0
  exact .inl ⟨{ f with data := dd }, l2, _, r, by rw [unhide HE, hn]; simp only; rw [hn2], rfl, hl2, unhide HQ⟩
theorem part_12 (h : PI w0 w g b a l c k y f d r) : Calls Try.prog 82 #[.pointer (some ⟨g, 0, none⟩), .pointer (some ⟨b, 0, none⟩), .int .i64 12] w (PartPost w0 g b a l c k y f 12) := by
  have hD := h.keepN (grown_drew' (World.grownBy.refl w none))
  have hby := hD.rdg.bytes (by have := h.st.len; omega) f.offset ((l.length : Int) - (k : Int)) h.off ⟨by have := h.at_; omega, by have := h.st.len; unfold MAXN; omega⟩
  have e0 : readP 12 f (l.drop k) = (match bytesF f.offset ((l.drop k).length : Nat) (l.drop k) with | .inr e => .inr e | .inl (d, l2) => .inl ({ f with data := d }, l2)) := rfl
  rw [show ((l.drop k).length : Int) = (l.length : Int) - (k : Int) by rw [List.length_drop]; have := h.at_; omega] at e0
  have wk : IntKind.i64.wrap ((l.length : Int) - (k : Int)) = (l.length : Int) - (k : Int) := by rw [IntKind.wrap_i64]; have := h.at_; have := h.st.len; omega
  have S0 : w.drew.cell? ⟨b, 2, none⟩ = some (.int .i64 f.offset) ∧ w.drew.cell? ⟨g, 0, none⟩ = some (.slice a l.length c) := ⟨hD.blk.cells.2.2.1, hD.rb.cell 0 _ rfl⟩
  have k1 : w.drew.cell? ⟨g, 1, none⟩ = some (.int .i64 (k : Int)) := hD.rb.cell 1 _ rfl
  obtain ⟨n, hn0⟩ : ∃ n, n = l.length := ⟨_, rfl⟩
  have HB := hide hby
  have H := hide hD
  have HE := hide e0
  have HN0 := hide hn0
  rw [← hn0] at S0 wk
  clear h e0 hD hn0 hby
  go_enter Try.func82, Try.ntmps82
  go_wp2_with fail
  refine wp_region_held_drew (S := fun W => W.cell? ⟨b, 2, none⟩ = some (.int .i64 f.offset) ∧ W.cell? ⟨g, 0, none⟩ = some (.slice a n c)) (by kernel_rfl) S0 (fun hHeld => ?_)
  refine wpAnyH_take (i := 0) (v := ?_) rfl (by as_aux_lemma => kernel_rfl) (by as_aux_lemma => kernel_rfl) (by as_aux_lemma => kernel_rfl) (fun _ _ _ h => h) (Or.inl ⟨by rfl, ?_⟩) (by assumption) ?_
  rotate_left
  · intro wH hSw
    try dsimp only at hSw
    go_simp
    try with_reducible rfl
  try simp only [Act.put, List.setIfInBounds_toArray, List.set_cons_zero, List.set_cons_succ]
  refine wpAnyH_take (i := 1) (v := ?_) rfl (by as_aux_lemma => kernel_rfl) (by as_aux_lemma => kernel_rfl) (by as_aux_lemma => kernel_rfl) (fun _ _ _ h => h) (Or.inl ⟨by rfl, ?_⟩) (by assumption) ?_
  rotate_left
  · intro wH hSw
    try dsimp only at hSw
    go_simp
    try with_reducible rfl
  try simp only [Act.put, List.setIfInBounds_toArray, List.set_cons_zero, List.set_cons_succ]
  refine wpAnyH_take (i := 2) (v := ?_) rfl (by as_aux_lemma => kernel_rfl) (by as_aux_lemma => kernel_rfl) (by as_aux_lemma => kernel_rfl) (fun _ _ _ h => h) (Or.inl ⟨by rfl, ?_⟩) (by assumption) ?_
  rotate_left
  · intro wH hSw
    try dsimp only at hSw
    go_simp
    try with_reducible rfl
  try simp only [Act.put, List.setIfInBounds_toArray, List.set_cons_zero, List.set_cons_succ]
  refine wpAnyH_take (i := 3) (v := ?_) rfl (by as_aux_lemma => kernel_rfl) (by as_aux_lemma => kernel_rfl) (by as_aux_lemma => kernel_rfl) (fun _ _ _ h => h) (Or.inl ⟨by rfl, ?_⟩) (by assumption) ?_
  rotate_left
  · intro wH hSw
    try dsimp only at hSw
    go_simp
    try with_reducible rfl
  try simp only [Act.put, List.setIfInBounds_toArray, List.set_cons_zero, List.set_cons_succ]
  refine wpAnyH_take (i := 4) (v := ?_) rfl (by as_aux_lemma => kernel_rfl) (by as_aux_lemma => kernel_rfl) (by as_aux_lemma => kernel_rfl) (fun _ _ _ h => h) (Or.inl ⟨by rfl, ?_⟩) (by assumption) ?_
  rotate_left
  · intro wH hSw
    try dsimp only at hSw
    go_simp
    try with_reducible rfl
  try simp only [Act.put, List.setIfInBounds_toArray, List.set_cons_zero, List.set_cons_succ]
  refine wpAnyH_take (i := 5) (v := ?_) rfl (by as_aux_lemma => kernel_rfl) (by as_aux_lemma => kernel_rfl) (by as_aux_lemma => kernel_rfl) (fun _ _ _ h => h) (Or.inl ⟨by rfl, ?_⟩) (by assumption) ?_
  rotate_left
  · intro wH hSw
    try dsimp only at hSw
    go_simp
    try with_reducible rfl
  try simp only [Act.put, List.setIfInBounds_toArray, List.set_cons_zero, List.set_cons_succ]
  refine wpAnyH_take (i := 6) (v := ?_) rfl (by as_aux_lemma => kernel_rfl) (by as_aux_lemma => kernel_rfl) (by as_aux_lemma => kernel_rfl) (fun _ _ _ h => h) (Or.inl ⟨by rfl, ?_⟩) (by assumption) ?_
  rotate_left
  · intro wH hSw
    try dsimp only at hSw
    go_simp
    try with_reducible rfl
  try simp only [Act.put, List.setIfInBounds_toArray, List.set_cons_zero, List.set_cons_succ]
  refine wpAnyH_take (i := 7) (v := ?_) rfl (by as_aux_lemma => kernel_rfl) (by as_aux_lemma => kernel_rfl) (by as_aux_lemma => kernel_rfl) (fun _ _ _ h => h) (Or.inl ⟨by rfl, ?_⟩) (by assumption) ?_
  rotate_left
  · intro wH hSw
    try dsimp only at hSw
    go_simp
    try with_reducible rfl
  try simp only [Act.put, List.setIfInBounds_toArray, List.set_cons_zero, List.set_cons_succ]
  refine wpAnyH_take (i := 8) (v := ?_) rfl (by as_aux_lemma => kernel_rfl) (by as_aux_lemma => kernel_rfl) (by as_aux_lemma => kernel_rfl) (fun _ _ _ h => h) (Or.inl ⟨by rfl, ?_⟩) (by assumption) ?_
  rotate_left
  · intro wH hSw
    try dsimp only at hSw
    go_simp
    try with_reducible rfl
  try simp only [Act.put, List.setIfInBounds_toArray, List.set_cons_zero, List.set_cons_succ]
  refine wpAnyH_take (i := 9) (v := ?_) rfl (by as_aux_lemma => kernel_rfl) (by as_aux_lemma => kernel_rfl) (by as_aux_lemma => kernel_rfl) (fun _ _ _ h => h) (Or.inl ⟨by rfl, ?_⟩) (by assumption) ?_
  rotate_left
  · intro wH hSw
    try dsimp only at hSw
    go_simp
    try with_reducible rfl
  try simp only [Act.put, List.setIfInBounds_toArray, List.set_cons_zero, List.set_cons_succ]
  refine wpAnyH_take (i := 10) (v := ?_) rfl (by as_aux_lemma => kernel_rfl) (by as_aux_lemma => kernel_rfl) (by as_aux_lemma => kernel_rfl) (fun _ _ _ h => h) (Or.inl ⟨by rfl, ?_⟩) (by assumption) ?_
  rotate_left
  · intro wH hSw
    try dsimp only at hSw
    go_simp
    try with_reducible rfl
  try simp only [Act.put, List.setIfInBounds_toArray, List.set_cons_zero, List.set_cons_succ]
  refine wpAnyH_take (i := 11) (v := ?_) rfl (by as_aux_lemma => kernel_rfl) (by as_aux_lemma => kernel_rfl) (by as_aux_lemma => kernel_rfl) (fun _ _ _ h => h) (Or.inl ⟨by rfl, ?_⟩) (by assumption) ?_
  rotate_left
  · intro wH hSw
    try dsimp only at hSw
    go_simp
    try with_reducible rfl
  try simp only [Act.put, List.setIfInBounds_toArray, List.set_cons_zero, List.set_cons_succ]
  refine wpAnyH_take (i := 12) (v := ?_) rfl (by as_aux_lemma => kernel_rfl) (by as_aux_lemma => kernel_rfl) (by as_aux_lemma => kernel_rfl) (fun _ _ _ h => h) (Or.inl ⟨by rfl, ?_⟩) (by assumption) ?_
  rotate_left
  · intro wH hSw
    try dsimp only at hSw
    go_simp
    try with_reducible rfl
  try simp only [Act.put, List.setIfInBounds_toArray, List.set_cons_zero, List.set_cons_succ]
  refine wpAnyH_take (i := 13) (v := ?_) rfl (by as_aux_lemma => kernel_rfl) (by as_aux_lemma => kernel_rfl) (by as_aux_lemma => kernel_rfl) (fun _ _ _ h => h) (Or.inl ⟨by rfl, ?_⟩) (by assumption) ?_
  rotate_left
  · intro wH hSw
    try dsimp only at hSw
    go_simp
    try with_reducible rfl
  try simp only [Act.put, List.setIfInBounds_toArray, List.set_cons_zero, List.set_cons_succ]
  refine wpAnyH_ready (rs := [14]) (by as_aux_lemma => kernel_rfl) (by simp) ?_
  refine AllReadyH.cons rfl (fun KH hKH => ?_) AllReadyH.nil
  go_simp
  refine hKH.out _ _ S0 (fun hHeld3 => ?_)
  clear hKH KH
  try simp only [Act.put, List.setIfInBounds_toArray, List.set_cons_zero, List.set_cons_succ]
  refine wpAnyH_take (i := 15) (v := ?_) rfl (by as_aux_lemma => kernel_rfl) (by as_aux_lemma => kernel_rfl) (by as_aux_lemma => kernel_rfl) (fun _ _ _ h => h) (Or.inl ⟨by rfl, ?_⟩) (by assumption) ?_
  rotate_left
  · intro wH hSw
    try dsimp only at hSw
    go_simp
    try with_reducible rfl
  try simp only [Act.put, List.setIfInBounds_toArray, List.set_cons_zero, List.set_cons_succ]
  refine wpAnyH_ready (rs := [16]) (by as_aux_lemma => kernel_rfl) (by simp) ?_
  refine AllReadyH.cons rfl (fun KH hKH => ?_) AllReadyH.nil
  go_simp
  have hby := unhide HB
  rw [← unhide HN0] at hby
  refine hby.mono ?_
  rintro e W2 (⟨dd, l2, v', hn2, rfl, o1, hl2, R2, g2⟩ | ⟨e', hn2, ⟨pv, rfl⟩, hb1, hg⟩)
  case inr =>
    exact ⟨rfl, .inr ⟨e', by rw [unhide HE, ← unhide HN0, hn2], ⟨_, rfl⟩, hb1, grown_add (unhide H).gr hg (fun k e => by cases e; exact .inr rfl)⟩⟩
  have P2 := (unhide H).step R2 g2
  have r2 : W2.cell? ⟨g, 0, none⟩ = some (.slice a n c) := by have := P2.rb.cell 0 (.slice a l.length c) rfl; rw [← unhide HN0] at this; exact this
  refine hKH.out _ _ ⟨P2.blk.cells.2.2.1, r2⟩ (fun hH3 => ?_)
  clear hKH KH
  obtain ⟨da, dn, dc, rfl⟩ : ∃ a n c, v' = .slice a n c := by obtain ⟨x, z, e⟩ := o1.shape; exact ⟨_, _, _, e⟩
  try simp only [Act.put, List.setIfInBounds_toArray, List.set_cons_zero, List.set_cons_succ]
  have P3 := P2.set (f' := { f with data := dd }) 3 (.slice da dn dc) rfl (o1.mono (unhide H).gr.size) P2.runs P2.off P2.lar
  obtain ⟨z0, z1, z2, z3, z4, z5, z6, z7, z8, z9, z10, z11, z12, z13, z14, z15, z16⟩ := P2.blk.cells
  have th := P2.blk.thaws
  have r3 : (W2.setCell ⟨b, 3, none⟩ (.slice da dn dc)).cell? ⟨g, 0, none⟩ = some (.slice a n c) := by have := P3.rb.cell 0 (.slice a l.length c) rfl; rw [← unhide HN0] at this; exact this
  have S3 := And.intro P3.blk.cells.2.2.1 r3
  have HQ := hide P3
  clear P2 P3 R2 g2 o1 hby hHeld
  refine wpAnyH_take (i := 17) (v := ?_) rfl (by as_aux_lemma => kernel_rfl) (by as_aux_lemma => kernel_rfl) (by as_aux_lemma => kernel_rfl) (fun _ _ _ h => h) (Or.inl ⟨by rfl, ?_⟩) (by assumption) ?_
  rotate_left
  · intro wH hSw
    try dsimp only at hSw
    go_simp
    try with_reducible rfl
  try simp only [Act.put, List.setIfInBounds_toArray, List.set_cons_zero, List.set_cons_succ]
  refine wpAnyH_take (i := 18) (v := ?_) rfl (by as_aux_lemma => kernel_rfl) (by as_aux_lemma => kernel_rfl) (by as_aux_lemma => kernel_rfl) (fun _ _ _ h => h) (Or.inl ⟨by rfl, ?_⟩) (by assumption) ?_
  rotate_left
  · intro wH hSw
    try dsimp only at hSw
    go_simp
    try with_reducible rfl
  try simp only [Act.put, List.setIfInBounds_toArray, List.set_cons_zero, List.set_cons_succ]
  refine wpAnyH_ready (rs := [19]) (by as_aux_lemma => kernel_rfl) (by simp) ?_
  refine AllReadyH.cons rfl (fun KH hKH => ?_) AllReadyH.nil
  go_simp
  refine hKH.out _ _ S3 (fun hH4 => ?_)
  clear hKH KH
  refine wpAnyH_done (by as_aux_lemma => kernel_rfl) ?_ _
  go_wp2_with fail
  go_end0
  exact .inl ⟨{ f with data := dd }, l2, _, r, by rw [unhide HE, ← unhide HN0, hn2], rfl, hl2, unhide HQ⟩
/-- What is left of the three counts. -/
def contC : Nat → Fr → List Int → (Fr × List Int) ⊕ Int
  | 0, f, L => readP 10 f L
  | 1, f, L => match numF L with | none => .inr 40 | some (b, l2) => match numF l2 with | none => .inr 40 | some (c, l3) => .inl ({ f with c1 := b, c2 := c }, l3)
  | 2, f, L => match numF L with | none => .inr 40 | some (c, l3) => .inl ({ f with c2 := c }, l3)
  | _, f, L => .inl (f, L)
theorem contC_1 (f : Fr) (L : List Int) : contC 1 f L = (match numF L with | none => .inr 40 | some (b, l2) => match numF l2 with | none => .inr 40 | some (c, l3) => .inl ({ f with c1 := b, c2 := c }, l3)) := rfl
theorem contC_2 (f : Fr) (L : List Int) : contC 2 f L = (match numF L with | none => .inr 40 | some (c, l3) => .inl ({ f with c2 := c }, l3)) := rfl
def setCn (f : Fr) (j : Nat) (v : Int) : Fr := if j = 0 then { f with c0 := v } else if j = 1 then { f with c1 := v } else { f with c2 := v }
theorem contC_none {j : Nat} {f : Fr} {L : List Int} (hj : j < 3) (h : numF L = none) : contC j f L = .inr 40 := by
  rcases (by omega : j = 0 ∨ j = 1 ∨ j = 2) with rfl | rfl | rfl
  · have e : readP 10 f L = (match numF L with | none => .inr 40 | some (a, l1) => match numF l1 with | none => .inr 40 | some (b, l2) => match numF l2 with | none => .inr 40 | some (c, l3) => .inl ({ f with c0 := a, c1 := b, c2 := c }, l3)) := rfl
    show readP 10 f L = _
    rw [e, h]
  · rw [contC_1, h]
  · rw [contC_2, h]
theorem contC_some {j : Nat} {f : Fr} {L l1 : List Int} {v : Int} (hj : j < 3) (h : numF L = some (v, l1)) : contC j f L = contC (j + 1) (setCn f j v) l1 := by
  rcases (by omega : j = 0 ∨ j = 1 ∨ j = 2) with rfl | rfl | rfl
  · have e : readP 10 f L = (match numF L with | none => .inr 40 | some (a, l1) => match numF l1 with | none => .inr 40 | some (b, l2) => match numF l2 with | none => .inr 40 | some (c, l3) => .inl ({ f with c0 := a, c1 := b, c2 := c }, l3)) := rfl
    show readP 10 f L = _
    rw [e, h]
    rfl
  · rw [contC_1, h]
    rfl
  · rw [contC_2, h]
    rfl
theorem setCn_cs (f : Fr) (d r : Value) (j : Nat) (v : Int) (hj : j < 3) : (f.cs d r).setIfInBounds (14 + j) (.int .i64 v) = (setCn f j v).cs d r := by
  rcases (by omega : j = 0 ∨ j = 1 ∨ j = 2) with rfl | rfl | rfl <;> rfl
theorem setCn_rest (f : Fr) (j : Nat) (v : Int) : (setCn f j v).data = f.data ∧ (setCn f j v).runs = f.runs ∧ (setCn f j v).offset = f.offset := by
  unfold setCn; (repeat' split) <;> exact ⟨rfl, rfl, rfl⟩
theorem part_10 (h : PI w0 w g b a l c k y f d r) : Calls Try.prog 82 #[.pointer (some ⟨g, 0, none⟩), .pointer (some ⟨b, 0, none⟩), .int .i64 10] w (PartPost w0 g b a l c k y f 10) := by
  have H := hide h
  clear h
  go_enter Try.func82, Try.ntmps82
  go_wp2_with fail
  go_loopw [56] (fun i wr => ∃ (j kj : Nat) (fj : Fr), j ≤ 3 ∧ i = .int .i64 j ∧ Hid (PI w0 wr g b a l c kj y fj d r ∧ readP 10 f (l.drop k) = contC j fj (l.drop kj))) (fun i _ => 3 - (intOf i).toNat)
  case atStart => exact ⟨0, k, f, by omega, rfl, unhide H, rfl⟩
  case round =>
    clear H
    obtain ⟨j, kj, fj, hj, rfl, H⟩ := hrel
    by_cases hlt : j < 3
    · have jI : (j : Int) < 3 := by omega
      have jw : IntKind.i64.wrap ((j : Int) + 1) = (j : Int) + 1 := by rw [IntKind.wrap_i64]; omega
      have hD := (unhide H).1.keepN (grown_drew' (World.grownBy.refl wr none))
      have hnu := hD.rdg.num
      have HD := hide hD
      clear hD
      go_wp2_with fail
      refine wp_region_held_drew (S := fun W => True) (by kernel_rfl) trivial (fun hHeld => ?_)
      refine wpAnyH_take (i := 0) (v := ?_) rfl (by as_aux_lemma => kernel_rfl) (by as_aux_lemma => kernel_rfl) (by as_aux_lemma => kernel_rfl) (fun _ _ _ h => h) (Or.inl ⟨by rfl, ?_⟩) (by assumption) ?_
      rotate_left
      · intro wH hSw
        try dsimp only at hSw
        go_simp
        try with_reducible rfl
      try simp only [Act.put, List.setIfInBounds_toArray, List.set_cons_zero, List.set_cons_succ]
      refine wpAnyH_take (i := 1) (v := ?_) rfl (by as_aux_lemma => kernel_rfl) (by as_aux_lemma => kernel_rfl) (by as_aux_lemma => kernel_rfl) (fun _ _ _ h => h) (Or.inl ⟨by rfl, ?_⟩) (by assumption) ?_
      rotate_left
      · intro wH hSw
        try dsimp only at hSw
        go_simp
        try with_reducible rfl
      try simp only [Act.put, List.setIfInBounds_toArray, List.set_cons_zero, List.set_cons_succ]
      refine wpAnyH_take (i := 2) (v := ?_) rfl (by as_aux_lemma => kernel_rfl) (by as_aux_lemma => kernel_rfl) (by as_aux_lemma => kernel_rfl) (fun _ _ _ h => h) (Or.inl ⟨by rfl, ?_⟩) (by assumption) ?_
      rotate_left
      · intro wH hSw
        try dsimp only at hSw
        go_simp
        try with_reducible rfl
      try simp only [Act.put, List.setIfInBounds_toArray, List.set_cons_zero, List.set_cons_succ]
      refine wpAnyH_take (i := 4) (v := ?_) rfl (by as_aux_lemma => kernel_rfl) (by as_aux_lemma => kernel_rfl) (by as_aux_lemma => kernel_rfl) (fun _ _ _ h => h) (Or.inl ⟨by rfl, ?_⟩) (by assumption) ?_
      rotate_left
      · intro wH hSw
        try dsimp only at hSw
        go_simp
        try with_reducible rfl
      try simp only [Act.put, List.setIfInBounds_toArray, List.set_cons_zero, List.set_cons_succ]
      refine wpAnyH_take (i := 5) (v := ?_) rfl (by as_aux_lemma => kernel_rfl) (by as_aux_lemma => kernel_rfl) (by as_aux_lemma => kernel_rfl) (fun _ _ _ h => h) (Or.inl ⟨by rfl, ?_⟩) (by assumption) ?_
      rotate_left
      · intro wH hSw
        try dsimp only at hSw
        go_simp
        try with_reducible rfl
      try simp only [Act.put, List.setIfInBounds_toArray, List.set_cons_zero, List.set_cons_succ]
      refine wpAnyH_ready (rs := [3]) (by as_aux_lemma => kernel_rfl) (by simp) ?_
      refine AllReadyH.cons rfl (fun KH hKH => ?_) AllReadyH.nil
      go_simp
      refine hnu.mono ?_
      rintro e W1 (⟨v, l1, hn, rfl, v0, v1, hl1, R1, g1⟩ | ⟨hn, ⟨pv, rfl⟩, hb1, hg⟩)
      case inr =>
        exact ⟨rfl, .inr ⟨40, by rw [(unhide H).2, contC_none hlt hn], ⟨_, rfl⟩, hb1, grown_add (unhide HD).gr hg (fun k e => by cases e; exact .inr rfl)⟩⟩
      have P1 := (unhide HD).step R1 g1
      refine hKH.out _ _ trivial (fun hH2 => ?_)
      clear hKH KH
      try simp only [Act.put, List.setIfInBounds_toArray, List.set_cons_zero, List.set_cons_succ]
      obtain ⟨q1, q2, q3⟩ := setCn_rest fj j v
      have P3 := P1.set (f' := setCn fj j v) (14 + j) (.int .i64 v) (setCn_cs fj d r j v hlt) (by rw [q1]; exact P1.own) (by rw [q2]; exact P1.runs) (by rw [q3]; exact P1.off) (by rw [q2]; exact P1.lar)
      obtain ⟨cv, zc⟩ : ∃ cv : Int, W1.cell? ⟨b, 14 + j, none⟩ = some (.int .i64 cv) := by
        rcases (by omega : j = 0 ∨ j = 1 ∨ j = 2) with rfl | rfl | rfl
        · exact ⟨_, P1.blk.cell 14 _ rfl⟩
        · exact ⟨_, P1.blk.cell 15 _ rfl⟩
        · exact ⟨_, P1.blk.cell 16 _ rfl⟩
      have th := P1.blk.thaws
      have E : Hid (PI w0 (W1.setCell ⟨b, 14 + j, none⟩ (.int .i64 v)) g b a l c (l.length - l1.length) y (setCn fj j v) d r ∧ readP 10 f (l.drop k) = contC (j + 1) (setCn fj j v) (l.drop (l.length - l1.length))) := ⟨P3, by rw [(unhide H).2, contC_some hlt hn, ← hl1]⟩
      have HLT := hide hlt
      clear P1 P3 R1 g1 hnu q1 q2 q3 H HD hl1 hn
      refine wpAnyH_take (i := 6) (v := ?_) rfl (by as_aux_lemma => kernel_rfl) (by as_aux_lemma => kernel_rfl) (by as_aux_lemma => kernel_rfl) (fun _ _ _ h => h) (Or.inl ⟨by rfl, ?_⟩) (by assumption) ?_
      rotate_left
      · intro wH hSw
        try dsimp only at hSw
        go_simp
        try with_reducible rfl
      try simp only [Act.put, List.setIfInBounds_toArray, List.set_cons_zero, List.set_cons_succ]
      refine wpAnyH_ready (rs := [7]) (by as_aux_lemma => kernel_rfl) (by simp) ?_
      refine AllReadyH.cons rfl (fun KH hKH => ?_) AllReadyH.nil
      go_simp
      refine hKH.out _ _ trivial (fun hH4 => ?_)
      clear hKH KH
      refine wpAnyH_done (by as_aux_lemma => kernel_rfl) ?_ _
      go_wp2_with fail
      exact ⟨⟨j + 1, _, _, unhide HLT, by go_num, unhide E⟩, by simp [intOf]; have := unhide HLT; omega⟩
    · obtain rfl : j = 3 := by omega
      have jI : ¬ ((3 : Nat) : Int) < 3 := by omega
      go_wp2_with fail
      go_end0
      exact .inl ⟨fj, l.drop kj, d, r, (unhide H).2, rfl, (unhide H).1.same.1, (unhide H).1.same.2⟩
end
end Go.Proofs.Ytggjeamondampaa
