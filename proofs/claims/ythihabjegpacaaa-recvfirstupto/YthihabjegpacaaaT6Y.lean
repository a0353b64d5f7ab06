/- recv: runs.Of of one run; drop; Reset. -/
import Derived.Test.YthihabjegpacaaaT6X
namespace Go.Proofs.Ythihabjegpacaaa
open Go.RowKit
set_option linter.unusedVariables false
set_option linter.unusedSimpArgs false
set_option maxHeartbeats 4000000
set_option maxRecDepth 100000

theorem len64_1 (w : World) : Calls Try.prog 64 #[.int .u64 1] w fun e w' => e = .returned (.int .i64 1) ∧ w.grownBy w' none := by
  go_enter Try.func64, Try.ntmps64
  go_wp2
  all_goals go_ret
  all_goals exact ⟨by kernel_rfl, grown_self _ _⟩
theorem len_1 (w : World) : Calls Try.prog 40 #[.int .u64 1] w fun e w' => e = .returned (.int .i64 1) ∧ w.grownBy w' none := by
  have h := len64_1 w
  go_enter Try.func40, Try.ntmps40
  go_wp2_with fail
  refine h.mono ?_
  rintro e w' ⟨rfl, hg⟩
  clear h
  go_wp2_with fail
  go_ret
  exact ⟨rfl, hg⟩
theorem ins_1 (a : Option Addr) (c : Nat) (v : Value) (w : World) : Calls Try.prog 55 #[.slice a 1 c, .int .i64 0, .int .i64 1, v] w fun e w' => e = .returned (.tuple #[]) ∧ w.grownBy w' none := by
  go_enter Try.func55, Try.ntmps55
  go_wp2
  go_loopw [8] (fun i wr => i = .int .i64 1 ∧ wr = w) (fun i _ => 0)
  case atStart => exact ⟨rfl, rfl⟩
  case round =>
    obtain ⟨rfl, rfl⟩ := hrel
    go_wp2
    refine bodyPost_end (results_none rfl _ _ _) rfl ?_
    exact ⟨rfl, grown_self _ _⟩
theorem pdq_1 (a : Option Addr) (c : Nat) (v : Value) (w : World) : Calls Try.prog 39 #[.slice a 1 c, .int .i64 0, .int .i64 1, .int .i64 1, v] w fun e w' => e = .returned (.tuple #[]) ∧ w.grownBy w' none := by
  have h := fun W => ins_1 a c v W
  go_enter Try.func39, Try.ntmps39
  go_wp2_with fail
  go_loopw [1, 2, 3] (fun i j l wr => i = .int .i64 0 ∧ j = .int .i64 1 ∧ wr = w) (fun i _ _ _ => 0)
  case atStart => exact ⟨rfl, rfl, rfl⟩
  case round =>
    obtain ⟨rfl, rfl, rfl⟩ := hrel
    go_wp2_with fail
    refine (h _).mono ?_
    rintro e w' ⟨rfl, hg⟩
    clear h
    go_wp2_with fail
    refine bodyPost_ret (results_none rfl _ _ _) rfl ?_
    exact ⟨rfl, hg⟩
theorem sort_1 (a : Option Addr) (c : Nat) (v : Value) (w : World) : Calls Try.prog 25 #[.slice a 1 c, v] w fun e w' => e = .returned (.tuple #[]) ∧ w.grownBy w' none := by
  have h := len_1 w
  have h2 := fun W => pdq_1 a c v W
  go_enter Try.func25, Try.ntmps25
  go_wp2_with fail
  refine h.mono ?_
  rintro e w' ⟨rfl, hg⟩
  clear h
  go_wp2_with fail
  refine (h2 _).mono ?_
  rintro e w2 ⟨rfl, hg2⟩
  clear h2
  go_wp2_with fail
  refine bodyPost_end (results_none rfl _ _ _) rfl ?_
  exact ⟨rfl, grown_trans hg hg2⟩


/-- Of of one run. -/
theorem of_one (lo hi : Int) (g : Nat) (w : World) (hb : Blk w g #[.int .i64 lo, .int .i64 hi] 47) (hlo : -9223372036854775808 ≤ lo) (hhi : hi ≤ 9223372036854775807) :
    Calls Try.prog 14 #[.slice (some ⟨g, 0, none⟩) 1 1] w fun e w' => ∃ b va, e = .returned (ptr b) ∧ SetAt w' b 0 va (addS 0 lo hi []) ∧ w.heap.size ≤ b ∧ (∀ k, va.ownBlock = some k → w.heap.size ≤ k) ∧ w.grownBy w' none := by
  have h1 := clone_part g 0 1 1 [(lo, hi)] w rfl (fun j u hj => by
    rw [Addr.add_lit, Nat.zero_add]
    match j, hj with
    | 0, hj => cases hj; exact hb.cell 0 _ rfl
    | 1, hj => cases hj; exact hb.cell 1 _ rfl) (by decide)
  have h2 := fun a c W => sort_1 a c (.func (.func 26) #[] #[]) W
  clear hb
  go_enter Try.func14, Try.ntmps14
  go_wp2_with fail
  refine h1.mono ?_
  rintro e w1 ⟨v1, rfl, r1, f1, g1⟩
  obtain ⟨a, c, ev, hc, -, -⟩ := r1.shape
  obtain ⟨gg, ea, hcell⟩ := hc.resolve_left (by simp)
  subst ev ea
  simp only [List.length_singleton] at *
  have x0 := (hcell 0 (by decide)).1
  have x1 := (hcell 0 (by decide)).2
  simp at x0 x1
  have G1 := hide g1
  clear h1 r1 f1 g1 hc hcell
  go_wp2_with fail
  refine (h2 _ _ _).mono ?_
  rintro e w2 ⟨rfl, g2⟩
  have y0 := cell_grown x0 g2
  have y1 := cell_grown x1 g2
  have G2 := hide (grown_trans (unhide G1) g2)
  clear h2 g2 x0 x1
  have s0 : SetAt (w2.alloc (.cells #[.int .i64 0, .slice none 0 0] 68)) w2.heap.size 0 (.slice none 0 0) [] := ⟨heap_alloc_new w2 _, row_nil _⟩
  obtain ⟨w3, hw3⟩ : ∃ w3, w3 = w2.alloc (.cells #[.int .i64 0, .slice none 0 0] 68) := ⟨_, rfl⟩
  rw [← hw3] at s0
  have g3 : w2.grownBy w3 none := by rw [hw3]; exact grown_alloc _ _
  have z0 := cell_grown y0 g3
  have z1 := cell_grown y1 g3
  obtain ⟨w4, hw4⟩ : ∃ w4, w4 = w3.alloc (.cells #[.int .i64 lo, .int .i64 hi] 47) := ⟨_, rfl⟩
  have g4 : w3.grownBy w4 none := by rw [hw4]; exact grown_alloc _ _
  have b4 : Blk w4 w3.heap.size #[.int .i64 lo, .int .i64 hi] 47 := by rw [hw4]; exact Blk.new _ _ _
  have q0 := b4.cell 0 (.int .i64 lo) rfl
  have q1 := b4.cell 1 (.int .i64 hi) rfl
  have hadd := add_post (s0.keep g4) ⟨trivial, by decide⟩ lo hi hlo hhi
  obtain ⟨bb, hbb⟩ : ∃ bb, bb = w2.heap.size := ⟨_, rfl⟩
  rw [← hbb] at hadd
  have FIN : Hid (∀ w5 va', SetAt w5 bb 0 va' (addS 0 lo hi []) → (va'.ownBlock = (Value.slice none 0 0).ownBlock ∨ Fresh w4 va') → Touch w4 w5 bb (.slice none 0 0) → ∃ b va, Ending.returned (ptr bb) = .returned (ptr b) ∧ SetAt w5 b 0 va (addS 0 lo hi []) ∧ w.heap.size ≤ b ∧ (∀ k, va.ownBlock = some k → w.heap.size ≤ k) ∧ w.grownBy w5 none) := fun w5 va' s5 ho t => by
    have s2 := (unhide G2).size
    have s3 := g3.size
    have s4 := g4.size
    refine ⟨bb, va', rfl, s5, by omega, fun k e => ?_, ?_⟩
    · rcases ho with ho | ho
      · rw [ho] at e; cases e
      · have := ho k e; omega
    · have gg := grown_trans (unhide G2) (grown_trans g3 g4)
      exact ⟨t.os.trans gg.os, t.tape.trans gg.tape, t.output.trans gg.output, Nat.le_trans gg.size t.size, fun k hk _ => (t.block k (Nat.lt_of_lt_of_le hk gg.size) (by omega) (fun e => by cases e)).trans (gg.block k hk (by simp))⟩
  rw [hw4] at q0 q1
  have HB := hide hbb
  clear s0 g3 g4 b4 y0 y1
  go_wp2_with fail
  rw [← hw3, ← hbb]
  replace hw3 := hide hw3
  clear hbb
  go_loopw [15] (fun i wr => (i = .int .i64 0 ∧ wr = w3) ∨ (i = .int .i64 1 ∧ Hid (∃ b va, Ending.returned (ptr bb) = .returned (ptr b) ∧ SetAt wr b 0 va (addS 0 lo hi []) ∧ w.heap.size ≤ b ∧ (∀ k, va.ownBlock = some k → w.heap.size ≤ k) ∧ w.grownBy wr none))) (fun i _ => 1 - (intOf i).toNat)
  case atStart => exact .inl ⟨rfl, rfl⟩
  case round =>
    rcases hrel with ⟨rfl, hw⟩ | ⟨rfl, F⟩
    · subst hw
      go_wp2_with fail
      rw [← hw4]
      refine hadd.mono ?_
      rintro e w5 ⟨rfl, ⟨va', s5, ho⟩, t⟩
      have F := hide (unhide FIN w5 va' s5 ho t)
      clear hadd FIN q0 q1 z0 z1 s5 ho t hw4
      go_wp2_with fail
      all_goals exact ⟨.inr ⟨rfl, F⟩, by simp [intOf]⟩
    · clear hadd FIN q0 q1 z0 z1
      go_wp2_with fail
      all_goals go_ret
      all_goals exact unhide F

section
variable {w W : World} {M : Nat → Prop} {b bk : Nat} {vh : Value} {E : List He} {S : Rv}
theorem drop_at (h : RA w M b bk vh E W S) (r0 : 0 ≤ S.read ∧ S.read ≤ 4611686018427387903) : Calls Try.prog 23 #[ptr b] W fun e W' => e = .returned (.tuple #[]) ∧ ∃ bk', RA w M b bk' (.slice none 0 0) [] W' { S with K := addS 0 0 (S.read - 1) [] } := by
  obtain ⟨-, c1, -, -, c4, c5, -, -⟩ := h.cells
  have t5 := h.blk.thaw 5
  have h1 := h.setE (E' := []) (vh' := .slice none 0 0) h.kp (fun _ _ => rfl) (Pq.row_nil _) (fun e he => (by cases he)) (fun g e => (by cases e))
  obtain ⟨W1, hW1⟩ : ∃ W1, W1 = W.setCell ⟨b, 5, none⟩ (.slice none 0 0) := ⟨_, rfl⟩
  rw [← hW1] at h1
  obtain ⟨-, e1, -, -, e4, -, -, -⟩ := h1.cells
  have t4 := h1.blk.thaw 4
  have w1 : IntKind.i64.wrap (S.read - 1) = S.read - 1 := by rw [IntKind.wrap_i64]; omega
  obtain ⟨W2, hW2⟩ : ∃ W2, W2 = W1.alloc (.cells #[.int .i64 0, .int .i64 (S.read - 1)] 47) := ⟨_, rfl⟩
  have g2 : W1.grownBy W2 none := by rw [hW2]; exact grown_alloc _ _
  have b2 : Blk W2 W1.heap.size #[.int .i64 0, .int .i64 (S.read - 1)] 47 := by rw [hW2]; exact Blk.new _ _ _
  have hof := of_one 0 (S.read - 1) W1.heap.size W2 b2 (by decide) (by omega)
  have H1 := hide (And.intro h1 g2)
  obtain ⟨va, vn, vc, evh⟩ : ∃ (a : Option Addr) (n c : Nat), vh = .slice a n c := by
    rcases h.held2 with ⟨q, _⟩ | ⟨g, q0, c, q, _⟩
    · exact ⟨none, 0, 0, q⟩
    · exact ⟨_, _, _, q⟩
  subst evh
  clear h h1 g2 b2 c4 e1 e4
  go_enter Try.func23, Try.ntmps23
  go_upto_region 1 with fail
  rw [← hW1]
  replace hW1 := hide hW1
  obtain ⟨-, e1, -, -, e4, -, -, -⟩ := (unhide H1).1.cells
  clear c1 c5 t5
  go_wp2_with fail
  rw [← hW2]
  replace hW2 := hide hW2
  refine hof.mono ?_
  rintro e W3 ⟨bk', va', rfl, s3, hbk, hva, g3⟩
  have h3 := (unhide H1).1.grown (grown_trans (unhide H1).2 g3)
  obtain ⟨-, -, -, -, e4', -, -, -⟩ := h3.cells
  have t4' := h3.blk.thaw 4
  have FIN : Hid (RA w M b bk' (.slice none 0 0) [] (W3.setCell ⟨b, 4, none⟩ (ptr bk')) { S with K := addS 0 0 (S.read - 1) [] }) := by
    have kz := Nat.le_trans h3.kp.size (Nat.le_refl _)
    have sz := (unhide H1).1.kp.size
    have sz2 := (unhide H1).2.size
    have nb : bk' ≠ b := heap_ne s3.blk h3.blk (by decide)
    have o : ∀ {k : Nat}, k ≠ b → (W3.setCell ⟨b, 4, none⟩ (ptr bk')).heap[k]? = W3.heap[k]? := fun hk => set_heap _ _ _ _ _ hk
    refine ⟨h3.kp.set b 4 _ (or_lt h3.mb), ?_, ⟨va', setAt_kept s3 (o nb) (fun g e => o (fun q => s3.row.ne_of h3.blk (by decide) (q ▸ e))), fun g e => .inr (by have := hva g e; omega)⟩, Pq.row_nil _, fun e he => (by cases he), h3.mb, .inr (by omega), fun g e => (by cases e)⟩
    have := h3.blk.setC 4 (ptr bk')
    exact this
  clear hof s3 hbk hva g3 h3 e1 e4 t4
  go_wp2_with fail
  all_goals refine bodyPost_end (results_none rfl _ _ _) rfl ?_
  all_goals exact ⟨rfl, bk', unhide FIN⟩
end
end Go.Proofs.Ythihabjegpacaaa
