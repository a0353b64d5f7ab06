/- View, where the fin is under way. -/
import Derived.Test.YtdalekjpjnhboaaS5V0
namespace Go.Proofs.Ytdalekjpjnhboaa
open Go.RowKit
set_option linter.unusedVariables false
set_option maxHeartbeats 2000000
set_option maxRecDepth 100000

section
variable {w W : World} {M : Nat → Prop} {b ba bl : Nat} {vh : Value} {S : Sd}

theorem enters_runs15 : Enters Try.prog 43 := Go.Proofs.enters_of Try.func43 (by kernel_rfl) rfl
theorem enters_done15 : Enters Try.prog 44 := Go.Proofs.enters_of Try.func44 (by kernel_rfl) rfl

theorem view_one (hf1 : S.fin = 1) (h : At w M b ba bl vh W S) (hok : SdOk S) (hbig : wr S ≤ 1152921504606846976) :
    Calls Try.prog 18 #[ptr b] W fun e W' => ∃ va vl, e = .returned (.agg (viewC S va vl)) ∧ Row W' va S.A ∧ Row W' vl S.L ∧ Fresh W va ∧ Fresh W vl ∧ (∀ g, va.ownBlock = some g → vl.ownBlock ≠ some g) ∧ W.grownBy W' none := by
  have hb := h.blk.alloc (.cells view0 36)
  have g1 : W.grownBy (W.alloc (.cells view0 36)) none := grown_alloc _ _
  have h1 := h.grown g1
  have br : Blk (W.alloc (.cells view0 36)) W.heap.size view0 36 := Blk.new _ _ _
  have hsz : (W.alloc (.cells view0 36)).heap.size = W.heap.size + 1 := alloc_size _ _
  have okA := hok.okA hbig
  have okL := hok.okL hbig
  obtain ⟨W1, hW1⟩ : ∃ W1, W1 = W.alloc (.cells view0 36) := ⟨_, rfl⟩
  rw [← hW1] at h1 br g1 hsz
  have hA : ∀ X, W1.grownBy X none → Calls Try.prog 43 #[ptr ba] X (fun e X' => ∃ v, e = .returned v ∧ Row X' v S.A ∧ Fresh W1 v ∧ W1.grownBy X' none) := fun X g => (runsA_at (h1.grown g) okA).mono (by rintro e X' ⟨v, he, hr, hf, hg⟩; exact ⟨v, he, hr, fun k e => Nat.le_trans g.size (hf k e), grown_trans g hg⟩)
  have hL : ∀ X, W1.grownBy X none → Calls Try.prog 43 #[ptr bl] X (fun e X' => ∃ v, e = .returned v ∧ Row X' v S.L ∧ Fresh X v ∧ X.grownBy X' none) := fun X g => runsL_at (h1.grown g) okL
  have hD : ∀ X, W1.grownBy X none → Calls Try.prog 44 #[ptr b] X (fun e X' => e = .returned (.bool (doneB S)) ∧ X.grownBy X' none) := fun X g => (done_at (h1.grown g)).mono (by rintro e X' ⟨he, q, rfl⟩; exact ⟨he, grown_drewN X q⟩)
  have HK : ∀ X, W1.grownBy X none → X.cell? ⟨b, 2, none⟩ = some (.int .i64 (wr S)) ∧ X.cell? ⟨b, 3, none⟩ = some (.int .i64 S.sent) ∧ X.cell? ⟨b, 4, none⟩ = some (.int .i64 S.base) ∧ X.cell? ⟨b, 5, none⟩ = some (ptr ba) ∧ X.cell? ⟨b, 6, none⟩ = some (ptr bl) ∧ X.cell? ⟨b, 7, none⟩ = some (.bool S.ended) ∧ X.cell? ⟨b, 8, none⟩ = some (.int .i64 S.fin) ∧ X.cell? ⟨b, 9, none⟩ = some (.bool S.stopped) := fun X g => by
    obtain ⟨c0, c1, c2, c3, c4, c5, c6, c7, c8, c9⟩ := (h1.grown g).cells
    exact ⟨c2, c3, c4, c5, c6, c7, c8, c9⟩
  have BR : Hid (∀ X, W1.grownBy X none → Blk X W.heap.size view0 36) := fun X g => br.grown g
  obtain ⟨r, hr⟩ : ∃ r, r = W.heap.size := ⟨_, rfl⟩
  have hbr : b ≠ r := by have := h.blk.lt; omega
  have hrb : r ≠ b := hbr.symm
  have G1 := hide g1
  have HSZ := hide hsz
  rw [← hr] at BR
  have HV : Hid (viewC S = fun va vl => #[.int .i64 (wr S), .int .i64 S.sent, .int .i64 S.base, va, vl, .bool S.ended, .bool (decide (S.fin = 1) || decide (S.fin = 3)), .bool (decide (S.fin = 3)), .bool S.stopped, .bool (doneB S)]) := rfl
  obtain ⟨x2, x3, x4, x5, x6, x7, x8, x9⟩ := HK W1 (grown_self _ _)
  clear h hok hb h1 br g1 okA okL hsz
  generalize doneB S = dn at *
  generalize S.stopped = st at *
  generalize S.ended = en at *
  rw [hf1] at HK x8 HV
  clear hf1
  generalize S.base = bs at *
  generalize S.sent = sn at *
  generalize wr S = t at *
  have HR := hide hr
  go_enter Try.func18, Try.ntmps18
  go_wp2_with fail
  rw [show (W.alloc (.cells #[.int .i64 0, .int .i64 0, .int .i64 0, .slice none 0 0, .slice none 0 0, .bool false, .bool false, .bool false, .bool false, .bool false] 36)) = W1 from hW1.symm]
  rw [← hr]
  clear hW1 hr
  refine wp_region_held_drew (S := fun X => X.cell? ⟨b, 2, none⟩ = some (.int .i64 t) ∧ X.cell? ⟨b, 3, none⟩ = some (.int .i64 sn) ∧ X.cell? ⟨b, 4, none⟩ = some (.int .i64 bs) ∧ X.cell? ⟨b, 5, none⟩ = some (ptr ba) ∧ X.cell? ⟨b, 6, none⟩ = some (ptr bl) ∧ X.cell? ⟨b, 7, none⟩ = some (.bool en) ∧ X.cell? ⟨b, 8, none⟩ = some (.int .i64 1) ∧ X.cell? ⟨b, 9, none⟩ = some (.bool st)) (by kernel_rfl) ?_ (fun hHeld => ?_)
  · exact HK _ (grown_drew' (grown_self _ _))
  refine wpAnyH_take (i := 0) (oi := { dst := some 3, op := Op.move (Operand.tmp 0), type := 24, pos := "send.go:125", after := #[], guard := none }) (v := ptr b) rfl (by kernel_rfl) (by kernel_rfl) (by kernel_rfl) (fun _ _ _ h => h) (Or.inl ⟨by rfl, ?_⟩) hHeld ?_
  · intro w' hSw
    obtain ⟨y2, y3, y4, y5, y6, y7, y8, y9⟩ := hSw
    go_simp
  simp only [Act.put, List.setIfInBounds_toArray, List.set_cons_zero, List.set_cons_succ]
  refine wpAnyH_take (i := 1) (oi := { dst := some 4, op := Op.nilCheck (Operand.tmp 3), type := 0, pos := "send.go:125", after := #[{ on := 0, ground := Ground.data }], guard := none }) (v := .pointer (some ⟨b, 0, none⟩)) rfl (by kernel_rfl) (by kernel_rfl) (by kernel_rfl) (fun _ _ _ h => h) (Or.inl ⟨by rfl, ?_⟩) hHeld ?_
  · intro w' hSw
    obtain ⟨y2, y3, y4, y5, y6, y7, y8, y9⟩ := hSw
    go_simp
  simp only [Act.put, List.setIfInBounds_toArray, List.set_cons_zero, List.set_cons_succ]
  refine wpAnyH_take (i := 2) (oi := { dst := some 5, op := Op.fieldAddr 72 (Operand.tmp 4) 2, type := 0, pos := "send.go:125", after := #[{ on := 1, ground := Ground.data }], guard := none }) (v := .pointer (some ⟨b, 2, none⟩)) rfl (by kernel_rfl) (by kernel_rfl) (by kernel_rfl) (fun _ _ _ h => h) (Or.inl ⟨by rfl, ?_⟩) hHeld ?_
  · intro w' hSw
    obtain ⟨y2, y3, y4, y5, y6, y7, y8, y9⟩ := hSw
    go_simp
  simp only [Act.put, List.setIfInBounds_toArray, List.set_cons_zero, List.set_cons_succ]
  refine wpAnyH_take (i := 3) (oi := { dst := some 6, op := Op.load 2 (Operand.tmp 5), type := 2, pos := "send.go:125", after := #[{ on := 2, ground := Ground.data }], guard := none }) (v := .int .i64 t) rfl (by kernel_rfl) (by kernel_rfl) (by kernel_rfl) (fun _ _ _ h => h) (Or.inl ⟨by rfl, ?_⟩) hHeld ?_
  · intro w' hSw
    obtain ⟨y2, y3, y4, y5, y6, y7, y8, y9⟩ := hSw
    go_simp
  simp only [Act.put, List.setIfInBounds_toArray, List.set_cons_zero, List.set_cons_succ]
  refine wpAnyH_take (i := 4) (oi := { dst := some 7, op := Op.move (Operand.tmp 0), type := 24, pos := "send.go:125", after := #[], guard := none }) (v := ptr b) rfl (by kernel_rfl) (by kernel_rfl) (by kernel_rfl) (fun _ _ _ h => h) (Or.inl ⟨by rfl, ?_⟩) hHeld ?_
  · intro w' hSw
    obtain ⟨y2, y3, y4, y5, y6, y7, y8, y9⟩ := hSw
    go_simp
  simp only [Act.put, List.setIfInBounds_toArray, List.set_cons_zero, List.set_cons_succ]
  refine wpAnyH_take (i := 5) (oi := { dst := some 8, op := Op.nilCheck (Operand.tmp 7), type := 0, pos := "send.go:125", after := #[{ on := 4, ground := Ground.data }], guard := none }) (v := .pointer (some ⟨b, 0, none⟩)) rfl (by kernel_rfl) (by kernel_rfl) (by kernel_rfl) (fun _ _ _ h => h) (Or.inl ⟨by rfl, ?_⟩) hHeld ?_
  · intro w' hSw
    obtain ⟨y2, y3, y4, y5, y6, y7, y8, y9⟩ := hSw
    go_simp
  simp only [Act.put, List.setIfInBounds_toArray, List.set_cons_zero, List.set_cons_succ]
  refine wpAnyH_take (i := 6) (oi := { dst := some 9, op := Op.fieldAddr 72 (Operand.tmp 8) 3, type := 0, pos := "send.go:125", after := #[{ on := 5, ground := Ground.data }], guard := none }) (v := .pointer (some ⟨b, 3, none⟩)) rfl (by kernel_rfl) (by kernel_rfl) (by kernel_rfl) (fun _ _ _ h => h) (Or.inl ⟨by rfl, ?_⟩) hHeld ?_
  · intro w' hSw
    obtain ⟨y2, y3, y4, y5, y6, y7, y8, y9⟩ := hSw
    go_simp
  simp only [Act.put, List.setIfInBounds_toArray, List.set_cons_zero, List.set_cons_succ]
  refine wpAnyH_take (i := 7) (oi := { dst := some 10, op := Op.load 2 (Operand.tmp 9), type := 2, pos := "send.go:125", after := #[{ on := 6, ground := Ground.data }], guard := none }) (v := .int .i64 sn) rfl (by kernel_rfl) (by kernel_rfl) (by kernel_rfl) (fun _ _ _ h => h) (Or.inl ⟨by rfl, ?_⟩) hHeld ?_
  · intro w' hSw
    obtain ⟨y2, y3, y4, y5, y6, y7, y8, y9⟩ := hSw
    go_simp
  simp only [Act.put, List.setIfInBounds_toArray, List.set_cons_zero, List.set_cons_succ]
  refine wpAnyH_take (i := 8) (oi := { dst := some 11, op := Op.move (Operand.tmp 0), type := 24, pos := "send.go:125", after := #[], guard := none }) (v := ptr b) rfl (by kernel_rfl) (by kernel_rfl) (by kernel_rfl) (fun _ _ _ h => h) (Or.inl ⟨by rfl, ?_⟩) hHeld ?_
  · intro w' hSw
    obtain ⟨y2, y3, y4, y5, y6, y7, y8, y9⟩ := hSw
    go_simp
  simp only [Act.put, List.setIfInBounds_toArray, List.set_cons_zero, List.set_cons_succ]
  refine wpAnyH_take (i := 9) (oi := { dst := some 12, op := Op.nilCheck (Operand.tmp 11), type := 0, pos := "send.go:125", after := #[{ on := 8, ground := Ground.data }], guard := none }) (v := .pointer (some ⟨b, 0, none⟩)) rfl (by kernel_rfl) (by kernel_rfl) (by kernel_rfl) (fun _ _ _ h => h) (Or.inl ⟨by rfl, ?_⟩) hHeld ?_
  · intro w' hSw
    obtain ⟨y2, y3, y4, y5, y6, y7, y8, y9⟩ := hSw
    go_simp
  simp only [Act.put, List.setIfInBounds_toArray, List.set_cons_zero, List.set_cons_succ]
  refine wpAnyH_take (i := 10) (oi := { dst := some 13, op := Op.fieldAddr 72 (Operand.tmp 12) 4, type := 0, pos := "send.go:125", after := #[{ on := 9, ground := Ground.data }], guard := none }) (v := .pointer (some ⟨b, 4, none⟩)) rfl (by kernel_rfl) (by kernel_rfl) (by kernel_rfl) (fun _ _ _ h => h) (Or.inl ⟨by rfl, ?_⟩) hHeld ?_
  · intro w' hSw
    obtain ⟨y2, y3, y4, y5, y6, y7, y8, y9⟩ := hSw
    go_simp
  simp only [Act.put, List.setIfInBounds_toArray, List.set_cons_zero, List.set_cons_succ]
  refine wpAnyH_take (i := 11) (oi := { dst := some 14, op := Op.load 2 (Operand.tmp 13), type := 2, pos := "send.go:125", after := #[{ on := 10, ground := Ground.data }], guard := none }) (v := .int .i64 bs) rfl (by kernel_rfl) (by kernel_rfl) (by kernel_rfl) (fun _ _ _ h => h) (Or.inl ⟨by rfl, ?_⟩) hHeld ?_
  · intro w' hSw
    obtain ⟨y2, y3, y4, y5, y6, y7, y8, y9⟩ := hSw
    go_simp
  simp only [Act.put, List.setIfInBounds_toArray, List.set_cons_zero, List.set_cons_succ]
  refine wpAnyH_take (i := 12) (oi := { dst := some 15, op := Op.move (Operand.tmp 0), type := 24, pos := "send.go:125", after := #[], guard := none }) (v := ptr b) rfl (by kernel_rfl) (by kernel_rfl) (by kernel_rfl) (fun _ _ _ h => h) (Or.inl ⟨by rfl, ?_⟩) hHeld ?_
  · intro w' hSw
    obtain ⟨y2, y3, y4, y5, y6, y7, y8, y9⟩ := hSw
    go_simp
  simp only [Act.put, List.setIfInBounds_toArray, List.set_cons_zero, List.set_cons_succ]
  refine wpAnyH_take (i := 13) (oi := { dst := some 16, op := Op.nilCheck (Operand.tmp 15), type := 0, pos := "send.go:125", after := #[{ on := 12, ground := Ground.data }], guard := none }) (v := .pointer (some ⟨b, 0, none⟩)) rfl (by kernel_rfl) (by kernel_rfl) (by kernel_rfl) (fun _ _ _ h => h) (Or.inl ⟨by rfl, ?_⟩) hHeld ?_
  · intro w' hSw
    obtain ⟨y2, y3, y4, y5, y6, y7, y8, y9⟩ := hSw
    go_simp
  simp only [Act.put, List.setIfInBounds_toArray, List.set_cons_zero, List.set_cons_succ]
  refine wpAnyH_take (i := 14) (oi := { dst := some 17, op := Op.fieldAddr 72 (Operand.tmp 16) 5, type := 0, pos := "send.go:125", after := #[{ on := 13, ground := Ground.data }], guard := none }) (v := .pointer (some ⟨b, 5, none⟩)) rfl (by kernel_rfl) (by kernel_rfl) (by kernel_rfl) (fun _ _ _ h => h) (Or.inl ⟨by rfl, ?_⟩) hHeld ?_
  · intro w' hSw
    obtain ⟨y2, y3, y4, y5, y6, y7, y8, y9⟩ := hSw
    go_simp
  simp only [Act.put, List.setIfInBounds_toArray, List.set_cons_zero, List.set_cons_succ]
  refine wpAnyH_take (i := 15) (oi := { dst := some 18, op := Op.load 69 (Operand.tmp 17), type := 69, pos := "send.go:125", after := #[{ on := 14, ground := Ground.data }], guard := none }) (v := ptr ba) rfl (by kernel_rfl) (by kernel_rfl) (by kernel_rfl) (fun _ _ _ h => h) (Or.inl ⟨by rfl, ?_⟩) hHeld ?_
  · intro w' hSw
    obtain ⟨y2, y3, y4, y5, y6, y7, y8, y9⟩ := hSw
    go_simp
  simp only [Act.put, List.setIfInBounds_toArray, List.set_cons_zero, List.set_cons_succ]
  refine wpAnyH_take (i := 17) (oi := { dst := some 20, op := Op.move (Operand.tmp 0), type := 24, pos := "send.go:125", after := #[], guard := none }) (v := ptr b) rfl (by kernel_rfl) (by kernel_rfl) (by kernel_rfl) (fun _ _ _ h => h) (Or.inl ⟨by rfl, ?_⟩) hHeld ?_
  · intro w' hSw
    obtain ⟨y2, y3, y4, y5, y6, y7, y8, y9⟩ := hSw
    go_simp
  simp only [Act.put, List.setIfInBounds_toArray, List.set_cons_zero, List.set_cons_succ]
  refine wpAnyH_take (i := 18) (oi := { dst := some 21, op := Op.nilCheck (Operand.tmp 20), type := 0, pos := "send.go:125", after := #[{ on := 17, ground := Ground.data }], guard := none }) (v := .pointer (some ⟨b, 0, none⟩)) rfl (by kernel_rfl) (by kernel_rfl) (by kernel_rfl) (fun _ _ _ h => h) (Or.inl ⟨by rfl, ?_⟩) hHeld ?_
  · intro w' hSw
    obtain ⟨y2, y3, y4, y5, y6, y7, y8, y9⟩ := hSw
    go_simp
  simp only [Act.put, List.setIfInBounds_toArray, List.set_cons_zero, List.set_cons_succ]
  refine wpAnyH_take (i := 19) (oi := { dst := some 22, op := Op.fieldAddr 72 (Operand.tmp 21) 6, type := 0, pos := "send.go:125", after := #[{ on := 18, ground := Ground.data }], guard := none }) (v := .pointer (some ⟨b, 6, none⟩)) rfl (by kernel_rfl) (by kernel_rfl) (by kernel_rfl) (fun _ _ _ h => h) (Or.inl ⟨by rfl, ?_⟩) hHeld ?_
  · intro w' hSw
    obtain ⟨y2, y3, y4, y5, y6, y7, y8, y9⟩ := hSw
    go_simp
  simp only [Act.put, List.setIfInBounds_toArray, List.set_cons_zero, List.set_cons_succ]
  refine wpAnyH_take (i := 20) (oi := { dst := some 23, op := Op.load 69 (Operand.tmp 22), type := 69, pos := "send.go:125", after := #[{ on := 19, ground := Ground.data }], guard := none }) (v := ptr bl) rfl (by kernel_rfl) (by kernel_rfl) (by kernel_rfl) (fun _ _ _ h => h) (Or.inl ⟨by rfl, ?_⟩) hHeld ?_
  · intro w' hSw
    obtain ⟨y2, y3, y4, y5, y6, y7, y8, y9⟩ := hSw
    go_simp
  simp only [Act.put, List.setIfInBounds_toArray, List.set_cons_zero, List.set_cons_succ]
  refine wpAnyH_take (i := 22) (oi := { dst := some 25, op := Op.move (Operand.tmp 0), type := 24, pos := "send.go:125", after := #[], guard := none }) (v := ptr b) rfl (by kernel_rfl) (by kernel_rfl) (by kernel_rfl) (fun _ _ _ h => h) (Or.inl ⟨by rfl, ?_⟩) hHeld ?_
  · intro w' hSw
    obtain ⟨y2, y3, y4, y5, y6, y7, y8, y9⟩ := hSw
    go_simp
  simp only [Act.put, List.setIfInBounds_toArray, List.set_cons_zero, List.set_cons_succ]
  refine wpAnyH_take (i := 23) (oi := { dst := some 26, op := Op.nilCheck (Operand.tmp 25), type := 0, pos := "send.go:125", after := #[{ on := 22, ground := Ground.data }], guard := none }) (v := .pointer (some ⟨b, 0, none⟩)) rfl (by kernel_rfl) (by kernel_rfl) (by kernel_rfl) (fun _ _ _ h => h) (Or.inl ⟨by rfl, ?_⟩) hHeld ?_
  · intro w' hSw
    obtain ⟨y2, y3, y4, y5, y6, y7, y8, y9⟩ := hSw
    go_simp
  simp only [Act.put, List.setIfInBounds_toArray, List.set_cons_zero, List.set_cons_succ]
  refine wpAnyH_take (i := 24) (oi := { dst := some 27, op := Op.fieldAddr 72 (Operand.tmp 26) 7, type := 0, pos := "send.go:125", after := #[{ on := 23, ground := Ground.data }], guard := none }) (v := .pointer (some ⟨b, 7, none⟩)) rfl (by kernel_rfl) (by kernel_rfl) (by kernel_rfl) (fun _ _ _ h => h) (Or.inl ⟨by rfl, ?_⟩) hHeld ?_
  · intro w' hSw
    obtain ⟨y2, y3, y4, y5, y6, y7, y8, y9⟩ := hSw
    go_simp
  simp only [Act.put, List.setIfInBounds_toArray, List.set_cons_zero, List.set_cons_succ]
  refine wpAnyH_take (i := 25) (oi := { dst := some 28, op := Op.load 4 (Operand.tmp 27), type := 4, pos := "send.go:125", after := #[{ on := 24, ground := Ground.data }], guard := none }) (v := .bool en) rfl (by kernel_rfl) (by kernel_rfl) (by kernel_rfl) (fun _ _ _ h => h) (Or.inl ⟨by rfl, ?_⟩) hHeld ?_
  · intro w' hSw
    obtain ⟨y2, y3, y4, y5, y6, y7, y8, y9⟩ := hSw
    go_simp
  simp only [Act.put, List.setIfInBounds_toArray, List.set_cons_zero, List.set_cons_succ]
  refine wpAnyH_take (i := 26) (oi := { dst := some 29, op := Op.move (Operand.tmp 0), type := 24, pos := "send.go:125", after := #[], guard := none }) (v := ptr b) rfl (by kernel_rfl) (by kernel_rfl) (by kernel_rfl) (fun _ _ _ h => h) (Or.inl ⟨by rfl, ?_⟩) hHeld ?_
  · intro w' hSw
    obtain ⟨y2, y3, y4, y5, y6, y7, y8, y9⟩ := hSw
    go_simp
  simp only [Act.put, List.setIfInBounds_toArray, List.set_cons_zero, List.set_cons_succ]
  refine wpAnyH_take (i := 27) (oi := { dst := some 30, op := Op.nilCheck (Operand.tmp 29), type := 0, pos := "send.go:125", after := #[{ on := 26, ground := Ground.data }], guard := none }) (v := .pointer (some ⟨b, 0, none⟩)) rfl (by kernel_rfl) (by kernel_rfl) (by kernel_rfl) (fun _ _ _ h => h) (Or.inl ⟨by rfl, ?_⟩) hHeld ?_
  · intro w' hSw
    obtain ⟨y2, y3, y4, y5, y6, y7, y8, y9⟩ := hSw
    go_simp
  simp only [Act.put, List.setIfInBounds_toArray, List.set_cons_zero, List.set_cons_succ]
  refine wpAnyH_take (i := 28) (oi := { dst := some 31, op := Op.fieldAddr 72 (Operand.tmp 30) 8, type := 0, pos := "send.go:125", after := #[{ on := 27, ground := Ground.data }], guard := none }) (v := .pointer (some ⟨b, 8, none⟩)) rfl (by kernel_rfl) (by kernel_rfl) (by kernel_rfl) (fun _ _ _ h => h) (Or.inl ⟨by rfl, ?_⟩) hHeld ?_
  · intro w' hSw
    obtain ⟨y2, y3, y4, y5, y6, y7, y8, y9⟩ := hSw
    go_simp
  simp only [Act.put, List.setIfInBounds_toArray, List.set_cons_zero, List.set_cons_succ]
  refine wpAnyH_take (i := 29) (oi := { dst := some 32, op := Op.load 3 (Operand.tmp 31), type := 3, pos := "send.go:125", after := #[{ on := 28, ground := Ground.data }], guard := none }) (v := .int .i64 1) rfl (by kernel_rfl) (by kernel_rfl) (by kernel_rfl) (fun _ _ _ h => h) (Or.inl ⟨by rfl, ?_⟩) hHeld ?_
  · intro w' hSw
    obtain ⟨y2, y3, y4, y5, y6, y7, y8, y9⟩ := hSw
    go_simp
  simp only [Act.put, List.setIfInBounds_toArray, List.set_cons_zero, List.set_cons_succ]
  refine wpAnyH_take (i := 30) (oi := { dst := some 33, op := Op.binOp BinOp.eql 3 (Operand.tmp 32) (Operand.const (Value.int IntKind.i64 1)) 3, type := 4, pos := "send.go:125", after := #[{ on := 29, ground := Ground.data }], guard := none }) (v := .bool true) rfl (by kernel_rfl) (by kernel_rfl) (by kernel_rfl) (fun _ _ _ h => h) (Or.inl ⟨by rfl, ?_⟩) hHeld ?_
  · intro w' hSw
    obtain ⟨y2, y3, y4, y5, y6, y7, y8, y9⟩ := hSw
    go_simp
  simp only [Act.put, List.setIfInBounds_toArray, List.set_cons_zero, List.set_cons_succ]
  refine wpAnyH_take (i := 38) (oi := { dst := some 41, op := Op.move (Operand.tmp 0), type := 24, pos := "send.go:125", after := #[], guard := none }) (v := ptr b) rfl (by kernel_rfl) (by kernel_rfl) (by kernel_rfl) (fun _ _ _ h => h) (Or.inl ⟨by rfl, ?_⟩) hHeld ?_
  · intro w' hSw
    obtain ⟨y2, y3, y4, y5, y6, y7, y8, y9⟩ := hSw
    go_simp
  simp only [Act.put, List.setIfInBounds_toArray, List.set_cons_zero, List.set_cons_succ]
  refine wpAnyH_take (i := 39) (oi := { dst := some 42, op := Op.nilCheck (Operand.tmp 41), type := 0, pos := "send.go:125", after := #[{ on := 38, ground := Ground.data }], guard := none }) (v := .pointer (some ⟨b, 0, none⟩)) rfl (by kernel_rfl) (by kernel_rfl) (by kernel_rfl) (fun _ _ _ h => h) (Or.inl ⟨by rfl, ?_⟩) hHeld ?_
  · intro w' hSw
    obtain ⟨y2, y3, y4, y5, y6, y7, y8, y9⟩ := hSw
    go_simp
  simp only [Act.put, List.setIfInBounds_toArray, List.set_cons_zero, List.set_cons_succ]
  refine wpAnyH_take (i := 40) (oi := { dst := some 43, op := Op.fieldAddr 72 (Operand.tmp 42) 8, type := 0, pos := "send.go:125", after := #[{ on := 39, ground := Ground.data }], guard := none }) (v := .pointer (some ⟨b, 8, none⟩)) rfl (by kernel_rfl) (by kernel_rfl) (by kernel_rfl) (fun _ _ _ h => h) (Or.inl ⟨by rfl, ?_⟩) hHeld ?_
  · intro w' hSw
    obtain ⟨y2, y3, y4, y5, y6, y7, y8, y9⟩ := hSw
    go_simp
  simp only [Act.put, List.setIfInBounds_toArray, List.set_cons_zero, List.set_cons_succ]
  refine wpAnyH_take (i := 41) (oi := { dst := some 44, op := Op.load 3 (Operand.tmp 43), type := 3, pos := "send.go:125", after := #[{ on := 40, ground := Ground.data }], guard := none }) (v := .int .i64 1) rfl (by kernel_rfl) (by kernel_rfl) (by kernel_rfl) (fun _ _ _ h => h) (Or.inl ⟨by rfl, ?_⟩) hHeld ?_
  · intro w' hSw
    obtain ⟨y2, y3, y4, y5, y6, y7, y8, y9⟩ := hSw
    go_simp
  simp only [Act.put, List.setIfInBounds_toArray, List.set_cons_zero, List.set_cons_succ]
  refine wpAnyH_take (i := 42) (oi := { dst := some 45, op := Op.binOp BinOp.eql 3 (Operand.tmp 44) (Operand.const (Value.int IntKind.i64 3)) 3, type := 4, pos := "send.go:125", after := #[{ on := 41, ground := Ground.data }], guard := none }) (v := .bool false) rfl (by kernel_rfl) (by kernel_rfl) (by kernel_rfl) (fun _ _ _ h => h) (Or.inl ⟨by rfl, ?_⟩) hHeld ?_
  · intro w' hSw
    obtain ⟨y2, y3, y4, y5, y6, y7, y8, y9⟩ := hSw
    go_simp
  simp only [Act.put, List.setIfInBounds_toArray, List.set_cons_zero, List.set_cons_succ]
  refine wpAnyH_take (i := 43) (oi := { dst := some 46, op := Op.move (Operand.tmp 0), type := 24, pos := "send.go:125", after := #[], guard := none }) (v := ptr b) rfl (by kernel_rfl) (by kernel_rfl) (by kernel_rfl) (fun _ _ _ h => h) (Or.inl ⟨by rfl, ?_⟩) hHeld ?_
  · intro w' hSw
    obtain ⟨y2, y3, y4, y5, y6, y7, y8, y9⟩ := hSw
    go_simp
  simp only [Act.put, List.setIfInBounds_toArray, List.set_cons_zero, List.set_cons_succ]
  refine wpAnyH_take (i := 44) (oi := { dst := some 47, op := Op.nilCheck (Operand.tmp 46), type := 0, pos := "send.go:125", after := #[{ on := 43, ground := Ground.data }], guard := none }) (v := .pointer (some ⟨b, 0, none⟩)) rfl (by kernel_rfl) (by kernel_rfl) (by kernel_rfl) (fun _ _ _ h => h) (Or.inl ⟨by rfl, ?_⟩) hHeld ?_
  · intro w' hSw
    obtain ⟨y2, y3, y4, y5, y6, y7, y8, y9⟩ := hSw
    go_simp
  simp only [Act.put, List.setIfInBounds_toArray, List.set_cons_zero, List.set_cons_succ]
  refine wpAnyH_take (i := 45) (oi := { dst := some 48, op := Op.fieldAddr 72 (Operand.tmp 47) 9, type := 0, pos := "send.go:125", after := #[{ on := 44, ground := Ground.data }], guard := none }) (v := .pointer (some ⟨b, 9, none⟩)) rfl (by kernel_rfl) (by kernel_rfl) (by kernel_rfl) (fun _ _ _ h => h) (Or.inl ⟨by rfl, ?_⟩) hHeld ?_
  · intro w' hSw
    obtain ⟨y2, y3, y4, y5, y6, y7, y8, y9⟩ := hSw
    go_simp
  simp only [Act.put, List.setIfInBounds_toArray, List.set_cons_zero, List.set_cons_succ]
  refine wpAnyH_take (i := 46) (oi := { dst := some 49, op := Op.load 4 (Operand.tmp 48), type := 4, pos := "send.go:125", after := #[{ on := 45, ground := Ground.data }], guard := none }) (v := .bool st) rfl (by kernel_rfl) (by kernel_rfl) (by kernel_rfl) (fun _ _ _ h => h) (Or.inl ⟨by rfl, ?_⟩) hHeld ?_
  · intro w' hSw
    obtain ⟨y2, y3, y4, y5, y6, y7, y8, y9⟩ := hSw
    go_simp
  simp only [Act.put, List.setIfInBounds_toArray, List.set_cons_zero, List.set_cons_succ]
  refine wpAnyH_take (i := 47) (oi := { dst := some 50, op := Op.move (Operand.tmp 0), type := 24, pos := "send.go:125", after := #[], guard := none }) (v := ptr b) rfl (by kernel_rfl) (by kernel_rfl) (by kernel_rfl) (fun _ _ _ h => h) (Or.inl ⟨by rfl, ?_⟩) hHeld ?_
  · intro w' hSw
    obtain ⟨y2, y3, y4, y5, y6, y7, y8, y9⟩ := hSw
    go_simp
  simp only [Act.put, List.setIfInBounds_toArray, List.set_cons_zero, List.set_cons_succ]
  refine wpAnyH_ready (rs := [16]) (by kernel_rfl) (by simp) ?_
  refine AllReadyH.cons (o := { dst := some 19, op := Op.call { callee := Callee.value (Operand.func 43), args := #[Operand.tmp 18], argTypes := #[69] }, type := 34, pos := "send.go:129", after := #[{ on := 15, ground := Ground.data }], guard := none }) rfl (fun K hK => ?_) AllReadyH.nil
  refine step_call rfl 43 #[ptr ba] enters_runs15 #[.tmp 18] #[69] rfl (by simp [Act.eval]) (hA _ (grown_drew' (grown_self _ _))) ?_
  rintro e X1 ⟨va, rfl, r1, f1, G2⟩
  refine ⟨_, rfl, ?_⟩
  obtain ⟨a1, c1, rfl, -⟩ := r1.shape
  have HS := HK X1 G2
  refine hK.out _ _ ?_ (fun hHeld => ?_)
  · exact HS
  clear hK K HS
  simp only [Act.put, List.setIfInBounds_toArray, List.set_cons_zero, List.set_cons_succ]
  refine wpAnyH_ready (rs := [21]) (by kernel_rfl) (by simp) ?_
  refine AllReadyH.cons (o := { dst := some 24, op := Op.call { callee := Callee.value (Operand.func 43), args := #[Operand.tmp 23], argTypes := #[69] }, type := 34, pos := "send.go:130", after := #[{ on := 20, ground := Ground.data }, { on := 16, ground := Ground.chain }], guard := none }) rfl (fun K hK => ?_) AllReadyH.nil
  refine step_call rfl 43 #[ptr bl] enters_runs15 #[.tmp 23] #[69] rfl (by simp [Act.eval]) (hL _ G2) ?_
  rintro e X2 ⟨vl, rfl, r2, f2, k2⟩
  refine ⟨_, rfl, ?_⟩
  obtain ⟨a2, c2, rfl, -⟩ := r2.shape
  have G3 : W1.grownBy X2 none := grown_trans G2 k2
  have HS := HK X2 G3
  refine hK.out _ _ ?_ (fun hHeld => ?_)
  · exact HS
  clear hK K HS
  simp only [Act.put, List.setIfInBounds_toArray, List.set_cons_zero, List.set_cons_succ]
  refine wpAnyH_take (i := 31) (oi := { dst := some 34, op := Op.move (Operand.tmp 33), type := 4, pos := "send.go:125", after := #[{ on := 30, ground := Ground.data }, { on := 21, ground := Ground.chain }], guard := none }) (v := .bool true) rfl (by kernel_rfl) (by kernel_rfl) (by kernel_rfl) (fun _ _ _ h => h) (Or.inl ⟨by rfl, ?_⟩) hHeld ?_
  · intro w' hSw
    obtain ⟨y2, y3, y4, y5, y6, y7, y8, y9⟩ := hSw
    go_simp
  simp only [Act.put, List.setIfInBounds_toArray, List.set_cons_zero, List.set_cons_succ]
  refine wpAnyH_take (i := 32) (oi := { dst := some 35, op := Op.move (Operand.tmp 0), type := 24, pos := "send.go:125", after := #[{ on := 31, ground := Ground.guard }], guard := some (31, false) }) (v := undef) rfl (by kernel_rfl) (by kernel_rfl) (by kernel_rfl) (fun _ _ _ h => h) (Or.inr ⟨by rfl, rfl⟩) hHeld ?_
  simp only [Act.put, List.setIfInBounds_toArray, List.set_cons_zero, List.set_cons_succ]
  refine wpAnyH_take (i := 33) (oi := { dst := some 36, op := Op.nilCheck (Operand.tmp 35), type := 0, pos := "send.go:125", after := #[{ on := 32, ground := Ground.data }, { on := 31, ground := Ground.guard }], guard := some (31, false) }) (v := undef) rfl (by kernel_rfl) (by kernel_rfl) (by kernel_rfl) (fun _ _ _ h => h) (Or.inr ⟨by rfl, rfl⟩) hHeld ?_
  simp only [Act.put, List.setIfInBounds_toArray, List.set_cons_zero, List.set_cons_succ]
  refine wpAnyH_take (i := 34) (oi := { dst := some 37, op := Op.fieldAddr 72 (Operand.tmp 36) 8, type := 0, pos := "send.go:125", after := #[{ on := 33, ground := Ground.data }, { on := 31, ground := Ground.guard }], guard := some (31, false) }) (v := undef) rfl (by kernel_rfl) (by kernel_rfl) (by kernel_rfl) (fun _ _ _ h => h) (Or.inr ⟨by rfl, rfl⟩) hHeld ?_
  simp only [Act.put, List.setIfInBounds_toArray, List.set_cons_zero, List.set_cons_succ]
  refine wpAnyH_take (i := 35) (oi := { dst := some 38, op := Op.load 3 (Operand.tmp 37), type := 3, pos := "send.go:125", after := #[{ on := 34, ground := Ground.data }, { on := 31, ground := Ground.guard }], guard := some (31, false) }) (v := undef) rfl (by kernel_rfl) (by kernel_rfl) (by kernel_rfl) (fun _ _ _ h => h) (Or.inr ⟨by rfl, rfl⟩) hHeld ?_
  simp only [Act.put, List.setIfInBounds_toArray, List.set_cons_zero, List.set_cons_succ]
  refine wpAnyH_take (i := 36) (oi := { dst := some 39, op := Op.binOp BinOp.eql 3 (Operand.tmp 38) (Operand.const (Value.int IntKind.i64 3)) 3, type := 4, pos := "send.go:125", after := #[{ on := 35, ground := Ground.data }, { on := 31, ground := Ground.guard }], guard := some (31, false) }) (v := undef) rfl (by kernel_rfl) (by kernel_rfl) (by kernel_rfl) (fun _ _ _ h => h) (Or.inr ⟨by rfl, rfl⟩) hHeld ?_
  simp only [Act.put, List.setIfInBounds_toArray, List.set_cons_zero, List.set_cons_succ]
  refine wpAnyH_take (i := 37) (oi := { dst := some 40, op := Op.pick (Operand.tmp 34) (Operand.const (Value.bool true)) (Operand.tmp 39), type := 4, pos := "send.go:125", after := #[{ on := 31, ground := Ground.data }, { on := 36, ground := Ground.data }], guard := none }) (v := .bool true) rfl (by kernel_rfl) (by kernel_rfl) (by kernel_rfl) (fun _ _ _ h => h) (Or.inl ⟨by rfl, ?_⟩) hHeld ?_
  · intro w' hSw
    obtain ⟨y2, y3, y4, y5, y6, y7, y8, y9⟩ := hSw
    go_simp
  simp only [Act.put, List.setIfInBounds_toArray, List.set_cons_zero, List.set_cons_succ]
  refine wpAnyH_ready (rs := [48]) (by kernel_rfl) (by simp) ?_
  refine AllReadyH.cons (o := { dst := some 51, op := Op.call { callee := Callee.value (Operand.func 44), args := #[Operand.tmp 50], argTypes := #[24] }, type := 4, pos := "send.go:135", after := #[{ on := 47, ground := Ground.data }, { on := 31, ground := Ground.chain }], guard := none }) rfl (fun K hK => ?_) AllReadyH.nil
  refine step_call rfl 44 #[ptr b] enters_done15 #[.tmp 50] #[24] rfl (by simp [Act.eval]) (hD _ G3) ?_
  rintro e X3 ⟨rfl, k3⟩
  refine ⟨_, rfl, ?_⟩
  have G4 : W1.grownBy X3 none := grown_trans G3 k3
  have HS := HK X3 G4
  have b4 := unhide BR X3 G4
  refine hK.out _ _ ?_ (fun hHeld => ?_)
  · exact HS
  clear hK K HS
  simp only [Act.put, List.setIfInBounds_toArray, List.set_cons_zero, List.set_cons_succ]
  refine wpAnyH_take (i := 49) (oi := { dst := some 52, op := Op.build 36 #[(0, Operand.tmp 6), (1, Operand.tmp 10), (2, Operand.tmp 14), (3, Operand.tmp 19), (4, Operand.tmp 24), (5, Operand.tmp 28), (6, Operand.tmp 40), (7, Operand.tmp 45), (8, Operand.tmp 49), (9, Operand.tmp 51)], type := 36, pos := "send.go:125", after := #[{ on := 3, ground := Ground.data }, { on := 7, ground := Ground.data }, { on := 11, ground := Ground.data }, { on := 16, ground := Ground.data }, { on := 21, ground := Ground.data }, { on := 25, ground := Ground.data }, { on := 37, ground := Ground.data }, { on := 42, ground := Ground.data }, { on := 46, ground := Ground.data }, { on := 48, ground := Ground.data }], guard := none }) (v := .agg #[.int .i64 t, .int .i64 sn, .int .i64 bs, .slice a1 S.A.length c1, .slice a2 S.L.length c2, .bool en, .bool true, .bool false, .bool st, .bool dn]) rfl (by kernel_rfl) (by kernel_rfl) (by kernel_rfl) (fun _ _ _ h => h) (Or.inl ⟨by rfl, ?_⟩) hHeld ?_
  · intro w' hSw
    obtain ⟨y2, y3, y4, y5, y6, y7, y8, y9⟩ := hSw
    go_simp
  simp only [Act.put, List.setIfInBounds_toArray, List.set_cons_zero, List.set_cons_succ]
  refine wpAnyH_ready (rs := [50]) (by kernel_rfl) (by simp) ?_
  refine AllReadyH.cons (o := { dst := none, op := Op.store 36 (Operand.tmp 2) (Operand.tmp 52), type := 0, pos := "send.go:125", after := #[{ on := 49, ground := Ground.data }, { on := 48, ground := Ground.chain }, { on := 0, ground := Ground.phase }, { on := 1, ground := Ground.phase }, { on := 2, ground := Ground.phase }, { on := 3, ground := Ground.phase }, { on := 4, ground := Ground.phase }, { on := 5, ground := Ground.phase }, { on := 6, ground := Ground.phase }, { on := 7, ground := Ground.phase }, { on := 8, ground := Ground.phase }, { on := 9, ground := Ground.phase }, { on := 10, ground := Ground.phase }, { on := 11, ground := Ground.phase }, { on := 12, ground := Ground.phase }, { on := 13, ground := Ground.phase }, { on := 14, ground := Ground.phase }, { on := 15, ground := Ground.phase }, { on := 16, ground := Ground.phase }, { on := 17, ground := Ground.phase }, { on := 18, ground := Ground.phase }, { on := 19, ground := Ground.phase }, { on := 20, ground := Ground.phase }, { on := 21, ground := Ground.phase }, { on := 22, ground := Ground.phase }, { on := 23, ground := Ground.phase }, { on := 24, ground := Ground.phase }, { on := 25, ground := Ground.phase }, { on := 26, ground := Ground.phase }, { on := 27, ground := Ground.phase }, { on := 28, ground := Ground.phase }, { on := 29, ground := Ground.phase }, { on := 30, ground := Ground.phase }, { on := 31, ground := Ground.phase }, { on := 32, ground := Ground.phase }, { on := 33, ground := Ground.phase }, { on := 34, ground := Ground.phase }, { on := 35, ground := Ground.phase }, { on := 36, ground := Ground.phase }, { on := 37, ground := Ground.phase }, { on := 38, ground := Ground.phase }, { on := 39, ground := Ground.phase }, { on := 40, ground := Ground.phase }, { on := 41, ground := Ground.phase }, { on := 42, ground := Ground.phase }, { on := 43, ground := Ground.phase }, { on := 44, ground := Ground.phase }, { on := 45, ground := Ground.phase }, { on := 46, ground := Ground.phase }, { on := 47, ground := Ground.phase }, { on := 48, ground := Ground.phase }, { on := 49, ground := Ground.phase }], guard := none }) rfl (fun K hK => ?_) AllReadyH.nil
  refine step_store_row rfl _ _ _ rfl r #[.int .i64 t, .int .i64 sn, .int .i64 bs, .slice a1 S.A.length c1, .slice a2 S.L.length c2, .bool en, .bool true, .bool false, .bool st, .bool dn] view0 rfl rfl 36 b4 Try.sizeV rfl (by simp [Value.oneCell']) ?_
  refine hK.out _ _ ?_ (fun hHeld => ?_)
  · have far : ∀ j, (X3.setRow r #[.int .i64 t, .int .i64 sn, .int .i64 bs, .slice a1 S.A.length c1, .slice a2 S.L.length c2, .bool en, .bool true, .bool false, .bool st, .bool dn]).cell? ⟨b, j, none⟩ = X3.cell? ⟨b, j, none⟩ := fun j => World.cell?_of_block (w := X3) (setRow_other X3 _ b _ hbr)
    obtain ⟨y2, y3, y4, y5, y6, y7, y8, y9⟩ := HK X3 G4
    exact ⟨(far 2).trans y2, (far 3).trans y3, (far 4).trans y4, (far 5).trans y5, (far 6).trans y6, (far 7).trans y7, (far 8).trans y8, (far 9).trans y9⟩
  clear hK K
  simp only [Act.put]
  refine wpAnyH_done (by kernel_rfl) ?_ _
  have FF1 := b4.row #[.int .i64 t, .int .i64 sn, .int .i64 bs, .slice a1 S.A.length c1, .slice a2 S.L.length c2, .bool en, .bool true, .bool false, .bool st, .bool dn]
  have FF2 := grown_setRow X3 r #[.int .i64 t, .int .i64 sn, .int .i64 bs, .slice a1 S.A.length c1, .slice a2 S.L.length c2, .bool en, .bool true, .bool false, .bool st, .bool dn]
  have gX : X1.grownBy X3 none := grown_trans k2 k3
  clear hHeld x2 x3 x4 x5 x6 x7 x8 x9
  go_wp2_with fail
  refine bodyPost_ret (results_cell_row rfl _ _ r 36 _ (0, 0) _ rfl FF1 Try.underlying36 rfl Try.sizeV) rfl ?_
  exact ⟨_, _, by rw [unhide HV]; simp, (r1.keep gX).keepBut FF2 (ne_r f1 (unhide HSZ) (unhide HR)), (r2.keep k3).keepBut FF2 (ne_r (fun k e => Nat.le_trans G2.size (f2 k e)) (unhide HSZ) (unhide HR)), fun k e => Nat.le_trans (unhide G1).size (f1 k e), fun k e => Nat.le_trans (unhide G1).size (Nat.le_trans G2.size (f2 k e)), fun g e e' => by have := row_lt r1 g e; have := f2 g e'; omega, gr_new (unhide G1) G4 FF2 (unhide HR)⟩
end
end Go.Proofs.Ytdalekjpjnhboaa
