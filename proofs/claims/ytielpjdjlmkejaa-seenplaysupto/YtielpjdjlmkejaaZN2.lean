/- Ack of something, an exp 0 to 20. -/
import Derived.Test.YtielpjdjlmkejaaZN1
namespace Go.Proofs.Ytielpjdjlmkejaa
open Go.RowKit Go.Shelf
set_option linter.unusedVariables false
set_option maxHeartbeats 4000000
set_option maxRecDepth 100000

theorem ack_2 (b bs : Nat) (v : Value) (s : Sn) (now ex : Int) (h1 : 0 ≤ ex) (h2 : ex ≤ 20) (w : World) (h : SN w b bs v s) (hL : s.L ≠ []) (hok : Ok s.L) (hcm : 0 ≤ s.came ∧ s.came ≤ (goF now s).clock ∧ (goF now s).clock ≤ 1125899906842624) :
    Calls Try.prog 14 #[ptr b, .int .i64 now, .int .i64 ex] w fun e w' => ∃ a c, e = .returned (.tuple #[.agg (frA (.slice a s.L.length c) (dlyF ((goF now s).clock - s.came) ex) (mrkF s.c0 s.c2) s.c0 s.c2), .bool true]) ∧ Row w' (.slice a s.L.length c) s.L.reverse ∧ Fresh w (.slice a s.L.length c) ∧ To b bs v w (ackS now s) w' := by
  obtain ⟨W1, hW1⟩ : ∃ W1, W1 = w.alloc (.cells fr0 48) := ⟨_, rfl⟩
  have g1 : w.grownBy W1 none := by rw [hW1]; exact grown_alloc _ _
  have b1 : Blk W1 w.heap.size fr0 48 := by rw [hW1]; exact Blk.new _ _ _
  have hne : w.heap.size ≠ b := by have := h.lt; omega
  have hgo := goOn_any b bs v s now W1 (h.grown g1)
  have G1 := hide g1; have B1 := hide b1
  have ML := hide h.mine_lt
  have S1 := hide b1.lt
  have HL := hide hL; have HOK := hide hok
  clear h hL g1 b1 hok
  unfold fr0 at hW1
  go_enter Try.func14, Try.ntmps14
  go_wp2_with fail
  rw [← hW1]
  clear hW1
  refine hgo.mono ?_
  rintro e W2 ⟨rfl, h2, k2⟩
  have c3 := h2.cells.2.2.2.1
  have hl := len_set bs v s.L W2 h2.set
  have hre := rest_any b bs v (goF now s) W2 h2
  have b2 : Hid (Blk W2 w.heap.size fr0 48) := (k2.block _ (unhide B1).lt hne).trans (unhide B1)
  have K2 := hide k2
  have hq0 : ((s.L.length : Int) == 0) = false := by
    have := List.length_pos_iff.2 (unhide HL)
    rw [beq_eq_false_iff_ne]; omega
  have LEN := hide (unhide HOK).size
  clear hgo h2 k2 B1
  generalize hq : s.L.length = q at *
  have HQ := hide hq
  clear hq
  go_wp2_with fail
  refine hl.mono ?_
  rintro e W3 ⟨rfl, rfl⟩
  clear hl
  go_wp2_with fail
  refine hre.mono ?_
  rintro e W4 ⟨rfl, h4, k4⟩
  have b4 : Hid (Blk W4 w.heap.size fr0 48) := (k4.block _ (unhide b2).lt hne).trans (unhide b2)
  have z2 := h4.cells.2.2.1
  have z3 := h4.cells.2.2.2.1
  have z6 := h4.cells.2.2.2.2.2.2.1
  have z7 := h4.cells.2.2.2.2.2.2.2.1
  have z8 := h4.cells.2.2.2.2.2.2.2.2.1
  have z9 := h4.cells.2.2.2.2.2.2.2.2.2.1
  have T := hide (And.intro h4 ((unhide K2).trans k4))
  have CA : Hid (∀ X j, W4.grownBy X none → X.cell? ⟨j, 0, none⟩ = some (ptr bs) → Calls Try.prog 38 #[.func (.func 54) #[] #[.pointer (some ⟨j, 0, none⟩)]] X fun e W' => ∃ a c, e = .returned (.slice a q c) ∧ CollPost X s.L a c W') := by
    intro X j hg hB
    have := coll_at W4 X bs j v s.L h4.set hg hB (unhide HOK).size
    rw [unhide HQ] at this
    exact this
  have hsub : IntKind.i64.wrap ((goF now s).clock - s.came) = (goF now s).clock - s.came := by rw [IntKind.wrap_i64]; omega
  have ec : (restF0 (goF now s)).clock = (goF now s).clock := rfl
  have em : (restF0 (goF now s)).came = s.came := rfl
  have e0 : (restF0 (goF now s)).c0 = s.c0 := rfl
  have e2 : (restF0 (goF now s)).c2 = s.c2 := rfl
  rw [ec] at z2; rw [em] at z6; rw [e0] at z7; rw [e2] at z9
  have x0 : (0 : Int) ≤ (goF now s).clock - s.came := by omega
  clear hre h4 k4 b2 K2 ec em e0 e2 hq0 c3
  generalize eck : (goF now s).clock = ck at *
  have Eck := hide eck
  clear eck
  generalize ecm : s.came = cm at *
  have Ecm := hide ecm
  clear ecm
  generalize ec0 : s.c0 = c0 at *
  have Ec0 := hide ec0
  clear ec0
  generalize ec2 : s.c2 = c2 at *
  have Ec2 := hide ec2
  clear ec2
  have heq := fun W => eq3 c0 c2 W
  have MK : Hid ((!decide (c0 = 0 ∧ c2 = 0)) = mrkF c0 c2) := rfl
  generalize decide (c0 = 0 ∧ c2 = 0) = mk at *
  go_wp2_with fail
  refine wp_region_noPanic ?_
  refine wp_region_held_drew (S := fun W => W.cell? ⟨b, 2, none⟩ = some (.int .i64 ck) ∧ W.cell? ⟨b, 3, none⟩ = some (ptr bs) ∧ W.cell? ⟨b, 6, none⟩ = some (.int .i64 cm) ∧ W.cell? ⟨b, 7, none⟩ = some (.int .i64 c0) ∧ W.cell? ⟨b, 8, none⟩ = some (.int .i64 0) ∧ W.cell? ⟨b, 9, none⟩ = some (.int .i64 c2)) (by kernel_rfl) ?_ (fun hHeld => ?_)
  · exact ⟨z2, z3, z6, z7, z8, z9⟩
  refine wpAnyH_take (i := 0) (oi := { dst := some 20, op := Op.move (Operand.tmp 0), type := 24, pos := "seen.go:71", after := #[], guard := none }) (v := .pointer (some ⟨b, 0, none⟩)) rfl (by kernel_rfl) (by kernel_rfl) (by kernel_rfl) (fun _ _ _ h => h) (Or.inl ⟨by rfl, ?_⟩) hHeld ?_
  · intro w' hSw
    obtain ⟨y2, y3, y6, y7, y8, y9⟩ := hSw
    go_simp
  simp only [Act.put, List.setIfInBounds_toArray, List.set_cons_zero, List.set_cons_succ]
  refine wpAnyH_take (i := 1) (oi := { dst := some 21, op := Op.nilCheck (Operand.tmp 20), type := 0, pos := "seen.go:71", after := #[{ on := 0, ground := Ground.data }], guard := none }) (v := .pointer (some ⟨b, 0, none⟩)) rfl (by kernel_rfl) (by kernel_rfl) (by kernel_rfl) (fun _ _ _ h => h) (Or.inl ⟨by rfl, ?_⟩) hHeld ?_
  · intro w' hSw
    obtain ⟨y2, y3, y6, y7, y8, y9⟩ := hSw
    go_simp
  simp only [Act.put, List.setIfInBounds_toArray, List.set_cons_zero, List.set_cons_succ]
  refine wpAnyH_take (i := 2) (oi := { dst := some 22, op := Op.fieldAddr 63 (Operand.tmp 21) 3, type := 0, pos := "seen.go:71", after := #[{ on := 1, ground := Ground.data }], guard := none }) (v := .pointer (some ⟨b, 3, none⟩)) rfl (by kernel_rfl) (by kernel_rfl) (by kernel_rfl) (fun _ _ _ h => h) (Or.inl ⟨by rfl, ?_⟩) hHeld ?_
  · intro w' hSw
    obtain ⟨y2, y3, y6, y7, y8, y9⟩ := hSw
    go_simp
  simp only [Act.put, List.setIfInBounds_toArray, List.set_cons_zero, List.set_cons_succ]
  refine wpAnyH_take (i := 3) (oi := { dst := some 23, op := Op.load 60 (Operand.tmp 22), type := 60, pos := "seen.go:71", after := #[{ on := 2, ground := Ground.data }], guard := none }) (v := ptr bs) rfl (by kernel_rfl) (by kernel_rfl) (by kernel_rfl) (fun _ _ _ h => h) (Or.inl ⟨by rfl, ?_⟩) hHeld ?_
  · intro w' hSw
    obtain ⟨y2, y3, y6, y7, y8, y9⟩ := hSw
    go_simp
  simp only [Act.put, List.setIfInBounds_toArray, List.set_cons_zero, List.set_cons_succ]
  refine wpAnyH_take (i := 6) (oi := { dst := some 26, op := Op.move (Operand.tmp 0), type := 24, pos := "seen.go:71", after := #[], guard := none }) (v := .pointer (some ⟨b, 0, none⟩)) rfl (by kernel_rfl) (by kernel_rfl) (by kernel_rfl) (fun _ _ _ h => h) (Or.inl ⟨by rfl, ?_⟩) hHeld ?_
  · intro w' hSw
    obtain ⟨y2, y3, y6, y7, y8, y9⟩ := hSw
    go_simp
  simp only [Act.put, List.setIfInBounds_toArray, List.set_cons_zero, List.set_cons_succ]
  refine wpAnyH_take (i := 7) (oi := { dst := some 27, op := Op.nilCheck (Operand.tmp 26), type := 0, pos := "seen.go:71", after := #[{ on := 6, ground := Ground.data }], guard := none }) (v := .pointer (some ⟨b, 0, none⟩)) rfl (by kernel_rfl) (by kernel_rfl) (by kernel_rfl) (fun _ _ _ h => h) (Or.inl ⟨by rfl, ?_⟩) hHeld ?_
  · intro w' hSw
    obtain ⟨y2, y3, y6, y7, y8, y9⟩ := hSw
    go_simp
  simp only [Act.put, List.setIfInBounds_toArray, List.set_cons_zero, List.set_cons_succ]
  refine wpAnyH_take (i := 8) (oi := { dst := some 28, op := Op.fieldAddr 63 (Operand.tmp 27) 2, type := 0, pos := "seen.go:71", after := #[{ on := 7, ground := Ground.data }], guard := none }) (v := .pointer (some ⟨b, 2, none⟩)) rfl (by kernel_rfl) (by kernel_rfl) (by kernel_rfl) (fun _ _ _ h => h) (Or.inl ⟨by rfl, ?_⟩) hHeld ?_
  · intro w' hSw
    obtain ⟨y2, y3, y6, y7, y8, y9⟩ := hSw
    go_simp
  simp only [Act.put, List.setIfInBounds_toArray, List.set_cons_zero, List.set_cons_succ]
  refine wpAnyH_take (i := 9) (oi := { dst := some 29, op := Op.load 2 (Operand.tmp 28), type := 2, pos := "seen.go:71", after := #[{ on := 8, ground := Ground.data }], guard := none }) (v := .int .i64 ck) rfl (by kernel_rfl) (by kernel_rfl) (by kernel_rfl) (fun _ _ _ h => h) (Or.inl ⟨by rfl, ?_⟩) hHeld ?_
  · intro w' hSw
    obtain ⟨y2, y3, y6, y7, y8, y9⟩ := hSw
    go_simp
  simp only [Act.put, List.setIfInBounds_toArray, List.set_cons_zero, List.set_cons_succ]
  refine wpAnyH_take (i := 10) (oi := { dst := some 30, op := Op.move (Operand.tmp 0), type := 24, pos := "seen.go:71", after := #[], guard := none }) (v := .pointer (some ⟨b, 0, none⟩)) rfl (by kernel_rfl) (by kernel_rfl) (by kernel_rfl) (fun _ _ _ h => h) (Or.inl ⟨by rfl, ?_⟩) hHeld ?_
  · intro w' hSw
    obtain ⟨y2, y3, y6, y7, y8, y9⟩ := hSw
    go_simp
  simp only [Act.put, List.setIfInBounds_toArray, List.set_cons_zero, List.set_cons_succ]
  refine wpAnyH_take (i := 11) (oi := { dst := some 31, op := Op.nilCheck (Operand.tmp 30), type := 0, pos := "seen.go:71", after := #[{ on := 10, ground := Ground.data }], guard := none }) (v := .pointer (some ⟨b, 0, none⟩)) rfl (by kernel_rfl) (by kernel_rfl) (by kernel_rfl) (fun _ _ _ h => h) (Or.inl ⟨by rfl, ?_⟩) hHeld ?_
  · intro w' hSw
    obtain ⟨y2, y3, y6, y7, y8, y9⟩ := hSw
    go_simp
  simp only [Act.put, List.setIfInBounds_toArray, List.set_cons_zero, List.set_cons_succ]
  refine wpAnyH_take (i := 12) (oi := { dst := some 32, op := Op.fieldAddr 63 (Operand.tmp 31) 6, type := 0, pos := "seen.go:71", after := #[{ on := 11, ground := Ground.data }], guard := none }) (v := .pointer (some ⟨b, 6, none⟩)) rfl (by kernel_rfl) (by kernel_rfl) (by kernel_rfl) (fun _ _ _ h => h) (Or.inl ⟨by rfl, ?_⟩) hHeld ?_
  · intro w' hSw
    obtain ⟨y2, y3, y6, y7, y8, y9⟩ := hSw
    go_simp
  simp only [Act.put, List.setIfInBounds_toArray, List.set_cons_zero, List.set_cons_succ]
  refine wpAnyH_take (i := 13) (oi := { dst := some 33, op := Op.load 2 (Operand.tmp 32), type := 2, pos := "seen.go:71", after := #[{ on := 12, ground := Ground.data }], guard := none }) (v := .int .i64 cm) rfl (by kernel_rfl) (by kernel_rfl) (by kernel_rfl) (fun _ _ _ h => h) (Or.inl ⟨by rfl, ?_⟩) hHeld ?_
  · intro w' hSw
    obtain ⟨y2, y3, y6, y7, y8, y9⟩ := hSw
    go_simp
  simp only [Act.put, List.setIfInBounds_toArray, List.set_cons_zero, List.set_cons_succ]
  refine wpAnyH_take (i := 14) (oi := { dst := some 34, op := Op.binOp BinOp.sub 2 (Operand.tmp 29) (Operand.tmp 33) 2, type := 2, pos := "seen.go:71", after := #[{ on := 9, ground := Ground.data }, { on := 13, ground := Ground.data }], guard := none }) (v := .int .i64 (ck - cm)) rfl (by kernel_rfl) (by kernel_rfl) (by kernel_rfl) (fun _ _ _ h => h) (Or.inl ⟨by rfl, ?_⟩) hHeld ?_
  · intro w' hSw
    obtain ⟨y2, y3, y6, y7, y8, y9⟩ := hSw
    go_simp
  simp only [Act.put, List.setIfInBounds_toArray, List.set_cons_zero, List.set_cons_succ]
  refine wpAnyH_take (i := 15) (oi := { dst := some 35, op := Op.move (Operand.tmp 2), type := 3, pos := "seen.go:71", after := #[], guard := none }) (v := .int .i64 ex) rfl (by kernel_rfl) (by kernel_rfl) (by kernel_rfl) (fun _ _ _ h => h) (Or.inl ⟨by rfl, ?_⟩) hHeld ?_
  · intro w' hSw
    obtain ⟨y2, y3, y6, y7, y8, y9⟩ := hSw
    go_simp
  simp only [Act.put, List.setIfInBounds_toArray, List.set_cons_zero, List.set_cons_succ]
  refine wpAnyH_take (i := 16) (oi := { dst := some 36, op := Op.call { callee := Callee.builtin Builtin.max, args := #[Operand.tmp 35, Operand.const (Value.int IntKind.i64 0)], argTypes := #[3, 3] }, type := 3, pos := "seen.go:71", after := #[{ on := 15, ground := Ground.data }], guard := none }) (v := .int .i64 ex) rfl (by kernel_rfl) (by kernel_rfl) (by kernel_rfl) (fun _ _ _ h => h) (Or.inl ⟨by rfl, ?_⟩) hHeld ?_
  · intro w' hSw
    obtain ⟨y2, y3, y6, y7, y8, y9⟩ := hSw
    go_simp
    all_goals omega
  simp only [Act.put, List.setIfInBounds_toArray, List.set_cons_zero, List.set_cons_succ]
  refine wpAnyH_take (i := 17) (oi := { dst := some 37, op := Op.call { callee := Callee.builtin Builtin.min, args := #[Operand.tmp 36, Operand.const (Value.int IntKind.i64 20)], argTypes := #[3, 3] }, type := 3, pos := "seen.go:71", after := #[{ on := 16, ground := Ground.data }], guard := none }) (v := .int .i64 ex) rfl (by kernel_rfl) (by kernel_rfl) (by kernel_rfl) (fun _ _ _ h => h) (Or.inl ⟨by rfl, ?_⟩) hHeld ?_
  · intro w' hSw
    obtain ⟨y2, y3, y6, y7, y8, y9⟩ := hSw
    go_simp
    all_goals omega
  simp only [Act.put, List.setIfInBounds_toArray, List.set_cons_zero, List.set_cons_succ]
  refine wpAnyH_take (i := 18) (oi := { dst := some 38, op := Op.binOp BinOp.shr 2 (Operand.tmp 34) (Operand.tmp 37) 3, type := 2, pos := "seen.go:71", after := #[{ on := 14, ground := Ground.data }, { on := 17, ground := Ground.data }], guard := none }) (v := .int .i64 ((ck - cm) / 2 ^ ex.toNat)) rfl (by kernel_rfl) (by kernel_rfl) (by kernel_rfl) (fun _ _ _ h => h) (Or.inl ⟨by rfl, ?_⟩) hHeld ?_
  · intro w' hSw
    obtain ⟨y2, y3, y6, y7, y8, y9⟩ := hSw
    go_simp
  simp only [Act.put, List.setIfInBounds_toArray, List.set_cons_zero, List.set_cons_succ]
  refine wpAnyH_take (i := 19) (oi := { dst := some 39, op := Op.move (Operand.tmp 0), type := 24, pos := "seen.go:71", after := #[], guard := none }) (v := .pointer (some ⟨b, 0, none⟩)) rfl (by kernel_rfl) (by kernel_rfl) (by kernel_rfl) (fun _ _ _ h => h) (Or.inl ⟨by rfl, ?_⟩) hHeld ?_
  · intro w' hSw
    obtain ⟨y2, y3, y6, y7, y8, y9⟩ := hSw
    go_simp
  simp only [Act.put, List.setIfInBounds_toArray, List.set_cons_zero, List.set_cons_succ]
  refine wpAnyH_take (i := 20) (oi := { dst := some 40, op := Op.nilCheck (Operand.tmp 39), type := 0, pos := "seen.go:71", after := #[{ on := 19, ground := Ground.data }], guard := none }) (v := .pointer (some ⟨b, 0, none⟩)) rfl (by kernel_rfl) (by kernel_rfl) (by kernel_rfl) (fun _ _ _ h => h) (Or.inl ⟨by rfl, ?_⟩) hHeld ?_
  · intro w' hSw
    obtain ⟨y2, y3, y6, y7, y8, y9⟩ := hSw
    go_simp
  simp only [Act.put, List.setIfInBounds_toArray, List.set_cons_zero, List.set_cons_succ]
  refine wpAnyH_take (i := 21) (oi := { dst := some 41, op := Op.fieldAddr 63 (Operand.tmp 40) 7, type := 0, pos := "seen.go:71", after := #[{ on := 20, ground := Ground.data }], guard := none }) (v := .pointer (some ⟨b, 7, none⟩)) rfl (by kernel_rfl) (by kernel_rfl) (by kernel_rfl) (fun _ _ _ h => h) (Or.inl ⟨by rfl, ?_⟩) hHeld ?_
  · intro w' hSw
    obtain ⟨y2, y3, y6, y7, y8, y9⟩ := hSw
    go_simp
  simp only [Act.put, List.setIfInBounds_toArray, List.set_cons_zero, List.set_cons_succ]
  refine wpAnyH_take (i := 22) (oi := { dst := some 42, op := Op.load 46 (Operand.tmp 41), type := 46, pos := "seen.go:71", after := #[{ on := 21, ground := Ground.data }], guard := none }) (v := .agg #[.int .i64 c0, .int .i64 0, .int .i64 c2]) rfl (by kernel_rfl) (by kernel_rfl) (by kernel_rfl) (fun _ _ _ h => h) (Or.inl ⟨by rfl, ?_⟩) hHeld ?_
  · intro w' hSw
    obtain ⟨y2, y3, y6, y7, y8, y9⟩ := hSw
    go_simp
  simp only [Act.put, List.setIfInBounds_toArray, List.set_cons_zero, List.set_cons_succ]
  refine wpAnyH_take (i := 23) (oi := { dst := some 43, op := Op.build 46 #[], type := 46, pos := "seen.go:71", after := #[], guard := none }) (v := .agg #[.int .i64 0, .int .i64 0, .int .i64 0]) rfl (by kernel_rfl) (by kernel_rfl) (by kernel_rfl) (fun _ _ _ h => h) (Or.inl ⟨by rfl, ?_⟩) hHeld ?_
  · intro w' hSw
    obtain ⟨y2, y3, y6, y7, y8, y9⟩ := hSw
    go_simp
  simp only [Act.put, List.setIfInBounds_toArray, List.set_cons_zero, List.set_cons_succ]
  refine wpAnyH_take (i := 24) (oi := { dst := some 44, op := Op.binOp BinOp.neq 46 (Operand.tmp 42) (Operand.tmp 43) 46, type := 4, pos := "seen.go:71", after := #[{ on := 22, ground := Ground.data }, { on := 23, ground := Ground.data }], guard := none }) (v := .bool (!mk)) rfl (by kernel_rfl) (by kernel_rfl) (by kernel_rfl) (fun _ _ _ h => h) (Or.inl ⟨by rfl, ?_⟩) hHeld ?_
  · intro w' hSw
    obtain ⟨y2, y3, y6, y7, y8, y9⟩ := hSw
    go_simp
  simp only [Act.put, List.setIfInBounds_toArray, List.set_cons_zero, List.set_cons_succ]
  refine wpAnyH_take (i := 25) (oi := { dst := some 45, op := Op.move (Operand.tmp 0), type := 24, pos := "seen.go:71", after := #[], guard := none }) (v := .pointer (some ⟨b, 0, none⟩)) rfl (by kernel_rfl) (by kernel_rfl) (by kernel_rfl) (fun _ _ _ h => h) (Or.inl ⟨by rfl, ?_⟩) hHeld ?_
  · intro w' hSw
    obtain ⟨y2, y3, y6, y7, y8, y9⟩ := hSw
    go_simp
  simp only [Act.put, List.setIfInBounds_toArray, List.set_cons_zero, List.set_cons_succ]
  refine wpAnyH_take (i := 26) (oi := { dst := some 46, op := Op.nilCheck (Operand.tmp 45), type := 0, pos := "seen.go:71", after := #[{ on := 25, ground := Ground.data }], guard := none }) (v := .pointer (some ⟨b, 0, none⟩)) rfl (by kernel_rfl) (by kernel_rfl) (by kernel_rfl) (fun _ _ _ h => h) (Or.inl ⟨by rfl, ?_⟩) hHeld ?_
  · intro w' hSw
    obtain ⟨y2, y3, y6, y7, y8, y9⟩ := hSw
    go_simp
  simp only [Act.put, List.setIfInBounds_toArray, List.set_cons_zero, List.set_cons_succ]
  refine wpAnyH_take (i := 27) (oi := { dst := some 47, op := Op.fieldAddr 63 (Operand.tmp 46) 7, type := 0, pos := "seen.go:71", after := #[{ on := 26, ground := Ground.data }], guard := none }) (v := .pointer (some ⟨b, 7, none⟩)) rfl (by kernel_rfl) (by kernel_rfl) (by kernel_rfl) (fun _ _ _ h => h) (Or.inl ⟨by rfl, ?_⟩) hHeld ?_
  · intro w' hSw
    obtain ⟨y2, y3, y6, y7, y8, y9⟩ := hSw
    go_simp
  simp only [Act.put, List.setIfInBounds_toArray, List.set_cons_zero, List.set_cons_succ]
  refine wpAnyH_take (i := 28) (oi := { dst := some 48, op := Op.load 46 (Operand.tmp 47), type := 46, pos := "seen.go:71", after := #[{ on := 27, ground := Ground.data }], guard := none }) (v := .agg #[.int .i64 c0, .int .i64 0, .int .i64 c2]) rfl (by kernel_rfl) (by kernel_rfl) (by kernel_rfl) (fun _ _ _ h => h) (Or.inl ⟨by rfl, ?_⟩) hHeld ?_
  · intro w' hSw
    obtain ⟨y2, y3, y6, y7, y8, y9⟩ := hSw
    go_simp
  simp only [Act.put, List.setIfInBounds_toArray, List.set_cons_zero, List.set_cons_succ]
  refine wpAnyH_ready (rs := [4]) (by kernel_rfl) (by simp) ?_
  refine AllReadyH.cons (o := { dst := some 24, op := Op.call { callee := Callee.value (Operand.func 39), args := #[Operand.tmp 23], argTypes := #[60] }, type := 76, pos := "seen.go:73", after := #[{ on := 3, ground := Ground.data }], guard := none }) rfl (fun K hK => ?_) AllReadyH.nil
  refine step_call rfl 39 #[ptr bs] enters_down #[.tmp 23] #[60] rfl (by simp [Act.eval]) (down_any (some ⟨bs, 0, none⟩) _) ?_
  rintro e Wd ⟨rfl, hWd⟩
  refine ⟨_, rfl, ?_⟩
  have gd : W4.grownBy Wd none := by rw [hWd]; exact grown_trans (grown_drewN _ 1) (grown_alloc _ _)
  have bd : Wd.cell? ⟨W4.heap.size, 0, none⟩ = some (ptr bs) := by rw [hWd]; exact (Blk.new (W4.drewN 1) #[ptr bs] 60).cell 0 _ rfl
  refine hK.out _ _ ?_ (fun hHeld => ?_)
  · exact ⟨cell_grown_none gd z2, cell_grown_none gd z3, cell_grown_none gd z6, cell_grown_none gd z7, cell_grown_none gd z8, cell_grown_none gd z9⟩
  clear hK K hWd
  simp only [Act.put, List.setIfInBounds_toArray, List.set_cons_zero, List.set_cons_succ]
  refine wpAnyH_ready (rs := [5]) (by kernel_rfl) (by simp) ?_
  refine AllReadyH.cons (o := { dst := some 25, op := Op.call { callee := Callee.value (Operand.func 38), args := #[Operand.tmp 24], argTypes := #[76] }, type := 33, pos := "seen.go:73", after := #[{ on := 4, ground := Ground.data }, { on := 4, ground := Ground.chain }], guard := none }) rfl (fun K hK => ?_) AllReadyH.nil
  refine step_call rfl 38 #[.func (.func 54) #[] #[.pointer (some ⟨W4.heap.size, 0, none⟩)]] enters_collect #[.tmp 24] #[76] rfl (by simp [Act.eval]) (unhide CA Wd _ gd bd) ?_
  rintro e Wc ⟨a, c, rfl, hpo⟩
  refine ⟨_, rfl, ?_⟩
  have gc : W4.grownBy Wc none := grown_trans gd hpo.2.2
  have bc := (unhide b4).grown gc
  refine hK.out _ _ ?_ (fun hHeld => ?_)
  · exact ⟨cell_grown_none gc z2, cell_grown_none gc z3, cell_grown_none gc z6, cell_grown_none gc z7, cell_grown_none gc z8, cell_grown_none gc z9⟩
  clear hK K
  simp only [Act.put, List.setIfInBounds_toArray, List.set_cons_zero, List.set_cons_succ]
  refine wpAnyH_take (i := 29) (oi := { dst := some 49, op := Op.build 48 #[(0, Operand.const (Value.int IntKind.i64 2)), (12, Operand.tmp 25), (11, Operand.tmp 38), (13, Operand.tmp 44), (14, Operand.tmp 48)], type := 48, pos := "seen.go:71", after := #[{ on := 5, ground := Ground.data }, { on := 18, ground := Ground.data }, { on := 24, ground := Ground.data }, { on := 28, ground := Ground.data }], guard := none }) (v := .agg (frA (.slice a q c) ((ck - cm) / 2 ^ ex.toNat) (!mk) c0 c2)) rfl (by kernel_rfl) (by kernel_rfl) (by kernel_rfl) (fun _ _ _ h => h) (Or.inl ⟨by rfl, ?_⟩) hHeld ?_
  · intro w' hSw
    obtain ⟨y2, y3, y6, y7, y8, y9⟩ := hSw
    unfold frA
    go_simp
  simp only [Act.put, List.setIfInBounds_toArray, List.set_cons_zero, List.set_cons_succ]
  refine wpAnyH_ready (rs := [30]) (by kernel_rfl) (by simp) ?_
  refine AllReadyH.cons (o := { dst := none, op := Op.store 48 (Operand.tmp 6) (Operand.tmp 49), type := 0, pos := "seen.go:71", after := #[{ on := 29, ground := Ground.data }, { on := 5, ground := Ground.chain }, { on := 0, ground := Ground.phase }, { on := 1, ground := Ground.phase }, { on := 2, ground := Ground.phase }, { on := 3, ground := Ground.phase }, { on := 4, ground := Ground.phase }, { on := 5, ground := Ground.phase }, { on := 6, ground := Ground.phase }, { on := 7, ground := Ground.phase }, { on := 8, ground := Ground.phase }, { on := 9, ground := Ground.phase }, { on := 10, ground := Ground.phase }, { on := 11, ground := Ground.phase }, { on := 12, ground := Ground.phase }, { on := 13, ground := Ground.phase }, { on := 14, ground := Ground.phase }, { on := 15, ground := Ground.phase }, { on := 16, ground := Ground.phase }, { on := 17, ground := Ground.phase }, { on := 18, ground := Ground.phase }, { on := 19, ground := Ground.phase }, { on := 20, ground := Ground.phase }, { on := 21, ground := Ground.phase }, { on := 22, ground := Ground.phase }, { on := 23, ground := Ground.phase }, { on := 24, ground := Ground.phase }, { on := 25, ground := Ground.phase }, { on := 26, ground := Ground.phase }, { on := 27, ground := Ground.phase }, { on := 28, ground := Ground.phase }, { on := 29, ground := Ground.phase }], guard := none }) rfl (fun K hK => ?_) AllReadyH.nil
  refine step_store_row rfl _ _ _ rfl w.heap.size (frA (.slice a q c) ((ck - cm) / 2 ^ ex.toNat) (!mk) c0 c2) fr0 rfl rfl 48 bc Try.sizeFr rfl (by simp [frA, Value.oneCell']) ?_
  refine hK.out _ _ ?_ (fun hHeld => ?_)
  · have far : ∀ j, (Wc.setRow w.heap.size (frA (.slice a q c) ((ck - cm) / 2 ^ ex.toNat) (!mk) c0 c2)).cell? ⟨b, j, none⟩ = Wc.cell? ⟨b, j, none⟩ := fun j => World.cell?_of_block (w := Wc) (setRow_other Wc _ b _ hne.symm)
    exact ⟨(far 2).trans (cell_grown_none gc z2), (far 3).trans (cell_grown_none gc z3), (far 6).trans (cell_grown_none gc z6), (far 7).trans (cell_grown_none gc z7), (far 8).trans (cell_grown_none gc z8), (far 9).trans (cell_grown_none gc z9)⟩
  clear hK K
  simp only [Act.put]
  refine wpAnyH_take (i := 31) (oi := { dst := some 7, op := Op.assign (Operand.const (Value.bool true)), type := 4, pos := "seen.go:71", after := #[{ on := 30, ground := Ground.chain }, { on := 0, ground := Ground.phase }, { on := 1, ground := Ground.phase }, { on := 2, ground := Ground.phase }, { on := 3, ground := Ground.phase }, { on := 4, ground := Ground.phase }, { on := 5, ground := Ground.phase }, { on := 6, ground := Ground.phase }, { on := 7, ground := Ground.phase }, { on := 8, ground := Ground.phase }, { on := 9, ground := Ground.phase }, { on := 10, ground := Ground.phase }, { on := 11, ground := Ground.phase }, { on := 12, ground := Ground.phase }, { on := 13, ground := Ground.phase }, { on := 14, ground := Ground.phase }, { on := 15, ground := Ground.phase }, { on := 16, ground := Ground.phase }, { on := 17, ground := Ground.phase }, { on := 18, ground := Ground.phase }, { on := 19, ground := Ground.phase }, { on := 20, ground := Ground.phase }, { on := 21, ground := Ground.phase }, { on := 22, ground := Ground.phase }, { on := 23, ground := Ground.phase }, { on := 24, ground := Ground.phase }, { on := 25, ground := Ground.phase }, { on := 26, ground := Ground.phase }, { on := 27, ground := Ground.phase }, { on := 28, ground := Ground.phase }, { on := 29, ground := Ground.phase }, { on := 30, ground := Ground.phase }], guard := none }) (v := .bool true) rfl (by kernel_rfl) (by kernel_rfl) (by kernel_rfl) (fun _ _ _ h => h) (Or.inl ⟨by rfl, ?_⟩) hHeld ?_
  · intro w' hSw
    obtain ⟨y2, y3, y6, y7, y8, y9⟩ := hSw
    go_simp
  simp only [Act.put, List.setIfInBounds_toArray, List.set_cons_zero, List.set_cons_succ]
  refine wpAnyH_done (by kernel_rfl) ?_ _
  refine NoPanic.normal ?_
  have HF := hide (ack_fin (s' := ackS now s) (.slice a q c) s.L.reverse (frA (.slice a q c) ((ck - cm) / 2 ^ ex.toNat) (!mk) c0 c2) bc ((unhide T).1.grown gc) (unhide ML) (((Kp.grown (unhide G1) _).trans (unhide T).2).trans (Kp.grown gc _)) (by have := hpo.1; rw [unhide HQ] at this; exact this) (fun g e => by have := hpo.2.1 g (by rw [unhide HQ]; exact e); have := unhide S1; have := (unhide T).2.size; have := gd.size; omega))
  have HD : Hid (((ck - cm) / 2 ^ ex.toNat) = dlyF (ck - cm) ex) := dly_mid (ck - cm) ex h1 h2
  clear hpo gc bc gd bd z2 z3 z6 z7 z8 z9 hHeld
  go_wp2_with fail
  refine bodyPost_ret (results_ct rfl _ _ w.heap.size (frA (.slice a q c) ((ck - cm) / 2 ^ ex.toNat) (!mk) c0 c2) _ rfl (unhide HF).1 Try.underlying48 rfl Try.sizeFr) rfl ?_
  rw [unhide HQ, unhide Eck, unhide Ecm, unhide Ec0, unhide Ec2]
  refine ⟨a, c, ?_, (unhide HF).2⟩
  rw [← unhide HD, ← unhide MK]
  rfl
end Go.Proofs.Ytielpjdjlmkejaa
