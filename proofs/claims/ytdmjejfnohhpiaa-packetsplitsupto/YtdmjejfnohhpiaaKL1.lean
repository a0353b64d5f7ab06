/- Copied of packets. -/
import Derived.Test.YtdmjejfnohhpiaaKC2
import Derived.Test.YtdmjejfnohhpiaaKG
namespace Go.Proofs.Ytdmjejfnohhpiaa
open Go.RowKit
set_option linter.unusedVariables false
set_option maxRecDepth 100000
set_option maxHeartbeats 2000000

theorem copied_sh (a : Option Addr) (c : Nat) (l : List Int) (w : World) (h : InB w (.slice a l.length c) l) (hb : l.length ≤ 140737488355327) :
    Calls Try.prog 35 #[.slice a l.length c] w fun e w' => ∃ a' c', e = .returned (.slice a' l.length c') ∧ OwnB w.heap.size w' (.slice a' l.length c') l ∧ w.grownBy w' none :=
  (copied_any _ l w h hb).mono fun e w' ⟨v, he, ho, g⟩ => by
    obtain ⟨a', c', e2⟩ := ho.shape
    exact ⟨a', c', by rw [he, e2], by rw [← e2]; exact ho, g⟩

/-- What Copied leaves. -/
def CopPost (w : World) (p : Pk) (e : Ending) (w' : World) : Prop :=
  ∃ a1 c1 a2 c2 a3 c3, e = .returned (p.val (.slice a1 p.dst.length c1) (.slice a2 p.src.length c2) (.slice a3 p.payload.length c3)) ∧ OwnB w.heap.size w' (.slice a1 p.dst.length c1) p.dst ∧ OwnB w.heap.size w' (.slice a2 p.src.length c2) p.src ∧ OwnB w.heap.size w' (.slice a3 p.payload.length c3) p.payload ∧ w.grownBy w' none

/-- What Copied has under way: what came in, the result, the copy. -/
structure C3 (w W : World) (cs q : Array Value) : Prop where
  b0 : Blk W w.heap.size cs 24
  bR : Blk W (w.heap.size + 1) (pcs 0 nilV nilV 0 0 nilV) 24
  bq : Blk W (w.heap.size + 1 + 1) q 24
  gr : w.grownBy W none
theorem C3.start (w : World) (cs : Array Value) : C3 w (((w.alloc (.cells cs 24)).alloc (.cells (pcs 0 nilV nilV 0 0 nilV) 24)).alloc (.cells cs 24)) cs cs := by
  obtain ⟨b0, bR, g1⟩ := Blk.two w cs (pcs 0 nilV nilV 0 0 nilV) 24 24
  have e : ((w.alloc (.cells cs 24)).alloc (.cells (pcs 0 nilV nilV 0 0 nilV) 24)).heap.size = w.heap.size + 1 + 1 := by rw [alloc_size, alloc_size]
  refine ⟨b0.alloc _, bR.alloc _, ?_, g1.trans (World.grownBy_alloc _ _ none)⟩
  rw [← e]; exact Blk.new _ _ _
theorem C3.step {w W W' : World} {cs q : Array Value} (h : C3 w W cs q) (g : W.grownBy W' none) (j : Nat) (v : Value) : C3 w (W'.setCell ⟨w.heap.size + 1 + 1, j, none⟩ v) cs (q.setIfInBounds j v) :=
  ⟨(h.b0.grown g).setO _ j v (by omega), (h.bR.grown g).setO _ j v (by omega), (h.bq.grown g).setC j v, grown_set (h.gr.trans g) _ j v (by omega)⟩

theorem copied05 (p : Pk) (d s y : Value) (w : World) (hd : InB w d p.dst) (hs : InB w s p.src) (hy : InB w y p.payload) (l1 : p.dst.length ≤ 140737488351232) (l2 : p.src.length ≤ 140737488351232) (l3 : p.payload.length ≤ 140737488351232) :
    Calls Try.prog 19 #[p.val d s y] w (CopPost w p) := by
  obtain ⟨a1, c1, rfl, -⟩ := id hd
  obtain ⟨a2, c2, rfl, -⟩ := id hs
  obtain ⟨a3, c3, rfl, -⟩ := id hy
  have S0 := C3.start w (p.cs (.slice a1 p.dst.length c1) (.slice a2 p.src.length c2) (.slice a3 p.payload.length c3))
  go_enter Try.func19, Try.ntmps19
  go_wp2_with fail
  have hB : w.heap.size + 1 + 1 < (((w.alloc (.cells (p.cs (.slice a1 p.dst.length c1) (.slice a2 p.src.length c2) (.slice a3 p.payload.length c3)) 24)).alloc (.cells (pcs 0 nilV nilV 0 0 nilV) 24)).alloc (.cells (p.cs (.slice a1 p.dst.length c1) (.slice a2 p.src.length c2) (.slice a3 p.payload.length c3)) 24)).heap.size := S0.bq.lt
  generalize (((w.alloc (.cells (p.cs (.slice a1 p.dst.length c1) (.slice a2 p.src.length c2) (.slice a3 p.payload.length c3)) 24)).alloc (.cells (pcs 0 nilV nilV 0 0 nilV) 24)).alloc (.cells (p.cs (.slice a1 p.dst.length c1) (.slice a2 p.src.length c2) (.slice a3 p.payload.length c3)) 24)) = W0 at *
  refine (copied_sh a1 c1 p.dst W0 (hd.grown S0.gr) (by omega)).mono ?_
  rintro e W1 ⟨e1, f1, rfl, o1, g1⟩
  have S1 := S0.step g1 1 (.slice e1 p.dst.length f1)
  have gs1 := grown_at (World.grownBy.refl W1 (some (w.heap.size + 1 + 1))) 1 (.slice e1 p.dst.length f1)
  have o1 := o1.far gs1 (fun q e => by cases e; omega)
  have k1 := (S0.bq.grown g1).cell 1 _ rfl
  have t1 := (S0.bq.grown g1).thaws
  have x2 := S1.b0.cell 2 (.slice a2 p.src.length c2) rfl
  have hB1 : w.heap.size + 1 + 1 < (W1.setCell ⟨w.heap.size + 1 + 1, 1, none⟩ (.slice e1 p.dst.length f1)).heap.size := S1.bq.lt
  have HS0 := S0.gr.size
  have hB01 : W0.heap.size ≤ (W1.setCell ⟨w.heap.size + 1 + 1, 1, none⟩ (.slice e1 p.dst.length f1)).heap.size := Nat.le_trans g1.size gs1.size
  clear gs1
  go_wp2_with fail
  generalize W1.setCell ⟨w.heap.size + 1 + 1, 1, none⟩ (.slice e1 p.dst.length f1) = V1 at *
  refine (copied_sh a2 c2 p.src V1 (hs.grown S1.gr) (by omega)).mono ?_
  rintro e W2 ⟨e2, f2, rfl, o2, g2⟩
  have S2 := S1.step g2 2 (.slice e2 p.src.length f2)
  have gs2 := grown_at (World.grownBy.refl W2 (some (w.heap.size + 1 + 1))) 2 (.slice e2 p.src.length f2)
  have o2 := o2.far gs2 (fun q e => by cases e; omega)
  have o1 := (o1.far g2 (fun q e => by cases e)).far gs2 (fun q e => by cases e; omega)
  have k2 := (S1.bq.grown g2).cell 2 (.slice a2 p.src.length c2) rfl
  have t2 := (S1.bq.grown g2).thaws
  have x5 := S2.b0.cell 5 (.slice a3 p.payload.length c3) rfl
  have hB2 : w.heap.size + 1 + 1 < (W2.setCell ⟨w.heap.size + 1 + 1, 2, none⟩ (.slice e2 p.src.length f2)).heap.size := S2.bq.lt
  have hB12 : V1.heap.size ≤ (W2.setCell ⟨w.heap.size + 1 + 1, 2, none⟩ (.slice e2 p.src.length f2)).heap.size := Nat.le_trans g2.size gs2.size
  clear gs2 k1 t1 x2
  go_wp2_with fail
  generalize W2.setCell ⟨w.heap.size + 1 + 1, 2, none⟩ (.slice e2 p.src.length f2) = V2 at *
  refine (copied_sh a3 c3 p.payload V2 (hy.grown S2.gr) (by omega)).mono ?_
  rintro e W3 ⟨e3, f3, rfl, o3, g3⟩
  have S3 := S2.step g3 5 (.slice e3 p.payload.length f3)
  have gs3 := grown_at (World.grownBy.refl W3 (some (w.heap.size + 1 + 1))) 5 (.slice e3 p.payload.length f3)
  have o3 := o3.far gs3 (fun q e => by cases e; omega)
  have o2 := (o2.far g3 (fun q e => by cases e)).far gs3 (fun q e => by cases e; omega)
  have o1 := (o1.far g3 (fun q e => by cases e)).far gs3 (fun q e => by cases e; omega)
  have k5 := (S2.bq.grown g3).cell 5 (.slice a3 p.payload.length c3) rfl
  have t5 := (S2.bq.grown g3).thaws
  clear gs3 k2 t2 x5
  have GG := hide S3.gr
  have r0 := S3.bq.cell 0 (.int .i64 p.space) rfl
  have r1 := S3.bq.cell 1 (.slice e1 p.dst.length f1) rfl
  have r2 := S3.bq.cell 2 (.slice e2 p.src.length f2) rfl
  have r3 := S3.bq.cell 3 (.int .i64 p.number) rfl
  have r4 := S3.bq.cell 4 (.int .i64 p.width) rfl
  have r5 := S3.bq.cell 5 (.slice e3 p.payload.length f3) rfl
  have z0 := S3.bR.cell 0 (.int .i64 0) rfl
  have z1 := S3.bR.cell 1 nilV rfl
  have z2 := S3.bR.cell 2 nilV rfl
  have z3 := S3.bR.cell 3 (.int .i64 0) rfl
  have z4 := S3.bR.cell 4 (.int .i64 0) rfl
  have z5 := S3.bR.cell 5 nilV rfl
  have tR := S3.bR.thaws
  have BR := hide (S3.bR.set6 (v0 := .int .i64 p.space) (v1 := .slice e1 p.dst.length f1) (v2 := .slice e2 p.src.length f2) (v3 := .int .i64 p.number) (v4 := .int .i64 p.width) (v5 := .slice e3 p.payload.length f3))
  have gg := grown_at (grown_at (grown_at (grown_at (grown_at (grown_at (World.grownBy.refl (W3.setCell ⟨w.heap.size + 1 + 1, 5, none⟩ (.slice e3 p.payload.length f3)) (some (w.heap.size + 1))) 0 (.int .i64 p.space)) 1 (.slice e1 p.dst.length f1)) 2 (.slice e2 p.src.length f2)) 3 (.int .i64 p.number)) 4 (.int .i64 p.width)) 5 (.slice e3 p.payload.length f3)
  have ho : ∀ B, W0.heap.size ≤ B → ∀ q, some (w.heap.size + 1) = some q → q < B := fun B hB q e => by cases e; omega
  have F := hide (And.intro ((o1.far gg (ho _ (Nat.le_refl _))).mono (base' := w.heap.size) HS0) (And.intro ((o2.far gg (ho _ hB01)).mono (base' := w.heap.size) (by omega)) (And.intro ((o3.far gg (ho _ (by omega))).mono (base' := w.heap.size) (by omega)) (grown_over S3.gr gg (Nat.le_succ _)))))
  clear gg ho o1 o2 o3 S0 S1 S2 S3 g1 g2 g3 hd hs hy
  go_wp2_with fail
  refine bodyPost_ret (results_cell_row rfl _ _ (w.heap.size + 1) 24 _ (0, 0) _ rfl (unhide BR) Try.underlying24 rfl Try.sizeP) rfl ?_
  exact ⟨_, _, _, _, _, _, rfl, (unhide F).1, (unhide F).2.1, (unhide F).2.2.1, (unhide F).2.2.2⟩
end Go.Proofs.Ytdmjejfnohhpiaa
