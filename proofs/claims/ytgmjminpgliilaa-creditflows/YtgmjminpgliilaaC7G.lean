/- Both Outs, step by step. -/
import Derived.Test.YtgmjminpgliilaaC7F
import Derived.BigQuiet
namespace Go.Proofs.Ytgmjminpgliilaa
open Go.RowKit
set_option linter.unusedVariables false
set_option maxRecDepth 100000
set_option maxHeartbeats 4000000

/-- What two calls leave. -/
structure G2 (w w' : World) (a r : Nat) : Prop where
  os : w'.os = w.os
  tape : w'.tape = w.tape
  output : w'.output = w.output
  size : w.heap.size ≤ w'.heap.size
  block : ∀ i, i < w.heap.size → i ≠ a → i ≠ r → w'.heap[i]? = w.heap[i]?
theorem G2.of {w w' : World} (g : w.grownBy w' none) (a r : Nat) : G2 w w' a r := ⟨g.os, g.tape, g.output, g.size, fun i hi _ _ => g.block i hi (by simp)⟩
theorem G2.a {w w' w'' : World} {a r : Nat} (h : G2 w w' a r) (g : w'.grownBy w'' (some a)) : G2 w w'' a r := ⟨g.os.trans h.os, g.tape.trans h.tape, g.output.trans h.output, Nat.le_trans h.size g.size, fun i hi n1 n2 => (g.block i (Nat.lt_of_lt_of_le hi h.size) (by intro e; cases e; exact n1 rfl)).trans (h.block i hi n1 n2)⟩
theorem G2.r {w w' w'' : World} {a r : Nat} (h : G2 w w' a r) (g : w'.grownBy w'' (some r)) : G2 w w'' a r := ⟨g.os.trans h.os, g.tape.trans h.tape, g.output.trans h.output, Nat.le_trans h.size g.size, fun i hi n1 n2 => (g.block i (Nat.lt_of_lt_of_le hi h.size) (by intro e; cases e; exact n2 rfl)).trans (h.block i hi n1 n2)⟩
theorem G2.n {w w' w'' : World} {a r : Nat} (h : G2 w w' a r) (g : w'.grownBy w'' none) : G2 w w'' a r := ⟨g.os.trans h.os, g.tape.trans h.tape, g.output.trans h.output, Nat.le_trans h.size g.size, fun i hi n1 n2 => (g.block i (Nat.lt_of_lt_of_le hi h.size) (by simp)).trans (h.block i hi n1 n2)⟩
theorem G2.grown {w w' w'' : World} {a r : Nat} (h : w.grownBy w' none) (g : G2 w' w'' a r) (ha : w.heap.size ≤ a) (hr : w.heap.size ≤ r) : w.grownBy w'' none := ⟨g.os.trans h.os, g.tape.trans h.tape, g.output.trans h.output, Nat.le_trans h.size g.size, fun i hi _ => (g.block i (Nat.lt_of_lt_of_le hi h.size) (by omega) (by omega)).trans (h.block i hi (by simp))⟩
theorem G2.blk {w w' : World} {a r b : Nat} {cs : Array Value} {t : TypeId} (g : G2 w w' a r) (h : Blk w b cs t) (na : b ≠ a) (nr : b ≠ r) : Blk w' b cs t := (g.block b h.lt na nr).trans h
/-- Both, beside the step's copy. -/
structure SO (w W : World) (a r o : Nat) (cs : Array Value) (s u : Ou) : Prop where
  c : OB 58 W a s
  d : OB 60 W r u
  so : s.Ok
  uo : u.Ok
  b : Blk W o cs 32
  g : G2 w W a r
theorem SO.toA {w W W' : World} {a r o : Nat} {cs : Array Value} {s u s' : Ou} (h : SO w W a r o cs s u) (c : OB 58 W' a s') (ok : s'.Ok) (g : W.grownBy W' (some a)) : SO w W' a r o cs s' u :=
  ⟨c, Blk.far h.d g (Blk.neT h.d h.c (by decide)), ok, h.uo, Blk.far h.b g (Blk.neT h.b h.c (by decide)), h.g.a g⟩
theorem SO.toR {w W W' : World} {a r o : Nat} {cs : Array Value} {s u u' : Ou} (h : SO w W a r o cs s u) (d : OB 60 W' r u') (ok : u'.Ok) (g : W.grownBy W' (some r)) : SO w W' a r o cs s u' :=
  ⟨Blk.far h.c g (Blk.neT h.c h.d (by decide)), d, h.so, ok, Blk.far h.b g (Blk.neT h.b h.d (by decide)), h.g.r g⟩
theorem SO.keep {w W W' : World} {a r o : Nat} {cs : Array Value} {s u : Ou} (h : SO w W a r o cs s u) (g : W.grownBy W' none) : SO w W' a r o cs s u := ⟨h.c.grown g, h.d.grown g, h.so, h.uo, Blk.grown h.b g, h.g.n g⟩
def StepO (w : World) (a r : Nat) (e : Ending) (w' : World) : Prop := e = .returned (.bool true) ∧ ∃ s, OB 58 w' a s ∧ OB 60 w' r s ∧ s.Ok ∧ G2 w w' a r
theorem SO.fin {w W : World} {a r o : Nat} {cs : Array Value} {s : Ou} (h : SO w W a r o cs s s) : ∃ s, OB 58 W a s ∧ OB 60 W r s ∧ s.Ok ∧ G2 w W a r := ⟨s, h.c, h.d, h.so, h.g⟩
theorem so_use {w W : World} {a r o : Nat} {cs : Array Value} {s u : Ou} (h : SO w W a r o cs s u) (n : Int) : Calls Try.prog 15 #[ptr a, .int .i64 n] W fun e w' => e = .returned (.int .i64 (useE n s)) ∧ SO w w' a r o cs (useF n s) u :=
  (use_any a s n W h.c h.so).mono fun e w' ⟨he, c, g⟩ => ⟨he, h.toA c (use_ok h.so n) g⟩
theorem so_ruse {w W : World} {a r o : Nat} {cs : Array Value} {s u : Ou} (h : SO w W a r o cs s u) (n : Int) : Calls Try.prog 24 #[ptr r, .int .i64 n] W fun e w' => e = .returned (.int .i64 (useE n u)) ∧ SO w w' a r o cs s (useF n u) :=
  (ruse_any r u n W h.d h.uo).mono fun e w' ⟨he, c, g⟩ => ⟨he, h.toR c (use_ok h.uo n) g⟩
theorem so_raise {w W : World} {a r o : Nat} {cs : Array Value} {s u : Ou} (h : SO w W a r o cs s u) (n : Int) : Calls Try.prog 19 #[ptr a, .int .i64 n] W fun e w' => e = .returned (.bool (raiseB n s)) ∧ SO w w' a r o cs (raiseF n s) u :=
  (raise_any a s n W h.c h.so).mono fun e w' ⟨he, c, g⟩ => ⟨he, h.toA c (raise_ok h.so n) g⟩
theorem so_rraise {w W : World} {a r o : Nat} {cs : Array Value} {s u : Ou} (h : SO w W a r o cs s u) (n : Int) : Calls Try.prog 25 #[ptr r, .int .i64 n] W fun e w' => e = .returned (.bool (raiseB n u)) ∧ SO w w' a r o cs s (raiseF n u) :=
  (rraise_any r u n W h.d h.uo).mono fun e w' ⟨he, c, g⟩ => ⟨he, h.toR c (raise_ok h.uo n) g⟩
theorem so_blk {w W : World} {a r o : Nat} {cs : Array Value} {s u : Ou} (h : SO w W a r o cs s u) : Calls Try.prog 22 #[ptr a] W fun e w' => e = .returned (.tuple #[.int .i64 (blkN s), .bool (wantB s)]) ∧ SO w w' a r o cs (blkF s) u :=
  (blk_any a s W h.c h.so).mono fun e w' ⟨he, c, g⟩ => ⟨he, h.toA c (blk_ok h.so) g⟩
theorem so_rblk {w W : World} {a r o : Nat} {cs : Array Value} {s u : Ou} (h : SO w W a r o cs s u) : Calls Try.prog 26 #[ptr r] W fun e w' => e = .returned (.tuple #[.int .i64 (blkN u), .bool (wantB u)]) ∧ SO w w' a r o cs s (blkF u) :=
  (rblk_any r u W h.d h.uo).mono fun e w' ⟨he, c, g⟩ => ⟨he, h.toR c (blk_ok h.uo) g⟩
theorem so_again {w W : World} {a r o : Nat} {cs : Array Value} {s u : Ou} (h : SO w W a r o cs s u) (n : Int) : Calls Try.prog 27 #[ptr a, .int .i64 n] W fun e w' => e = .returned (.tuple #[]) ∧ SO w w' a r o cs (agF n s) u :=
  (again_any a s n W h.c).mono fun e w' ⟨he, c, g⟩ => ⟨he, h.toA c (ag_ok h.so n) g⟩
theorem so_ragain {w W : World} {a r o : Nat} {cs : Array Value} {s u : Ou} (h : SO w W a r o cs s u) (n : Int) : Calls Try.prog 28 #[ptr r, .int .i64 n] W fun e w' => e = .returned (.tuple #[]) ∧ SO w w' a r o cs s (agF n u) :=
  (ragain_any r u n W h.d).mono fun e w' ⟨he, c, g⟩ => ⟨he, h.toR c (ag_ok h.uo n) g⟩
theorem so_wants {w W : World} {a r o : Nat} {cs : Array Value} {s u : Ou} (h : SO w W a r o cs s u) : Calls Try.prog 29 #[ptr a] W fun e w' => e = .returned (.bool (wantB s)) ∧ SO w w' a r o cs s u :=
  (wants_any a s W h.c h.so).mono fun e w' ⟨he, q, hq⟩ => ⟨he, hq ▸ h.keep (drew_gr _ q)⟩
theorem so_rwants {w W : World} {a r o : Nat} {cs : Array Value} {s u : Ou} (h : SO w W a r o cs s u) : Calls Try.prog 30 #[ptr r] W fun e w' => e = .returned (.bool (wantB u)) ∧ SO w w' a r o cs s u :=
  (rwants_any r u W h.d h.uo).mono fun e w' ⟨he, q, hq⟩ => ⟨he, hq ▸ h.keep (drew_gr _ q)⟩
theorem so_room {w W : World} {a r o : Nat} {cs : Array Value} {s u : Ou} (h : SO w W a r o cs s u) : Calls Try.prog 13 #[ptr a] W fun e w' => e = .returned (.int .i64 (s.limit - s.used)) ∧ SO w w' a r o cs s u :=
  (room_any a s W h.c h.so).mono fun e w' ⟨he, q, hq⟩ => ⟨he, hq ▸ h.keep (drew_gr _ q)⟩
theorem so_view {w W : World} {a r o : Nat} {cs : Array Value} {s u : Ou} (h : SO w W a r o cs s u) : Calls Try.prog 31 #[ptr a] W fun e w' => e = .returned (.agg (oc s)) ∧ SO w w' a r o cs s u :=
  (oview_any a s W h.c).mono fun e w' ⟨he, g⟩ => ⟨he, h.keep g⟩

theorem outStep_any (a r : Nat) (kind : Int) (oth : Bool) (n : Int) (s : Ou) (w : World) (hk : i64B kind) (hc : OB 58 w a s) (hd : OB 60 w r s) (ok : s.Ok) :
    Calls Try.prog 9 #[ptr a, ptr r, .agg #[.int .i64 kind, .bool oth, .int .i64 n]] w (StepO w a r) := by
  have PK := fun W => pick6 kind W hk
  have ga := World.grownBy_alloc w (.cells #[.int .i64 kind, .bool oth, .int .i64 n] 32) none
  have S0 : Hid (SO w (w.alloc (.cells #[.int .i64 kind, .bool oth, .int .i64 n] 32)) a r w.heap.size #[.int .i64 kind, .bool oth, .int .i64 n] s s) := ⟨hc.grown ga, hd.grown ga, ok, ok, Blk.new _ _ _, G2.of ga _ _⟩
  clear hc hd ok ga
  obtain z0 : _ := (unhide S0).b.cell 0 _ rfl
  go_enter Try.func9, Try.ntmps9
  go_wp2_with fail
  generalize w.heap.size = o at *
  generalize w.alloc _ = W0 at *
  refine (PK _).mono ?_
  rintro e W ⟨k, rfl, k6, hW⟩
  replace hW := hW.symm
  subst hW
  clear PK z0
  generalize hcs : (#[.int .i64 kind, .bool oth, .int .i64 n] : Array Value) = cs at *
  have z2f : Hid (∀ X, Blk X o cs 32 → X.cell? ⟨o, 2, none⟩ = some (.int .i64 n)) := by rw [← hcs]; exact fun X h => h.cell 2 _ rfl
  clear hcs
  rcases (by omega : k = 0 ∨ k = 1 ∨ k = 2 ∨ k = 3 ∨ k = 4 ∨ k = 5) with rfl | rfl | rfl | rfl | rfl | rfl
  · have z2 := unhide z2f _ (unhide S0).b
    have C0 := so_use (unhide S0) n
    go_wp2_with fail
    refine C0.mono ?_
    rintro e W0 ⟨rfl, S1⟩
    replace S1 := hide S1
    clear C0 S0 z2
    have z2 := unhide z2f _ (unhide S1).b
    have C1 := so_ruse (unhide S1) n
    go_wp2_with fail
    refine C1.mono ?_
    rintro e W1 ⟨rfl, S2⟩
    replace S2 := hide S2
    clear C1 S1 z2
    have FN := hide (unhide S2).fin
    clear S2 z2f
    generalize useE n s = E at *
    go_wp2
    go_ret
    exact ⟨by simp, unhide FN⟩
  · have z2 := unhide z2f _ (unhide S0).b
    have C0 := so_raise (unhide S0) n
    go_wp2_with fail
    refine C0.mono ?_
    rintro e W0 ⟨rfl, S1⟩
    replace S1 := hide S1
    clear C0 S0 z2
    have z2 := unhide z2f _ (unhide S1).b
    have C1 := so_rraise (unhide S1) n
    go_wp2_with fail
    refine C1.mono ?_
    rintro e W1 ⟨rfl, S2⟩
    replace S2 := hide S2
    clear C1 S1 z2
    have FN := hide (unhide S2).fin
    clear S2 z2f
    generalize raiseB n s = E at *
    go_wp2
    go_ret
    exact ⟨by simp, unhide FN⟩
  · have C0 := so_blk (unhide S0)
    go_wp2_with fail
    refine C0.mono ?_
    rintro e W0 ⟨rfl, S1⟩
    replace S1 := hide S1
    clear C0 S0
    have C1 := so_rblk (unhide S1)
    go_wp2_with fail
    refine C1.mono ?_
    rintro e W1 ⟨rfl, S2⟩
    replace S2 := hide S2
    clear C1 S1
    have FN := hide (unhide S2).fin
    clear S2 z2f
    generalize blkN s = E at *
    generalize wantB s = E2 at *
    go_wp2
    go_ret
    exact ⟨by simp, unhide FN⟩
  · have z2 := unhide z2f _ (unhide S0).b
    have C0 := so_again (unhide S0) n
    go_wp2_with fail
    refine C0.mono ?_
    rintro e W0' ⟨rfl, S1⟩
    replace S1 := hide S1
    clear C0 S0 z2
    have z2 := unhide z2f _ (unhide S1).b
    have C1 := so_ragain (unhide S1) n
    go_wp2_with fail
    refine C1.mono ?_
    rintro e W1 ⟨rfl, S2⟩
    replace S2 := hide S2
    clear C1 S1 z2
    have FN := hide (unhide S2).fin
    clear S2 z2f
    go_wp2
    go_ret
    exact ⟨by simp, unhide FN⟩
  · have C0 := so_wants (unhide S0)
    go_wp2_with fail
    refine C0.mono ?_
    rintro e W0 ⟨rfl, S1⟩
    replace S1 := hide S1
    clear C0 S0
    have C1 := so_rwants (unhide S1)
    go_wp2_with fail
    refine C1.mono ?_
    rintro e W1 ⟨rfl, S2⟩
    replace S2 := hide S2
    clear C1 S1
    have C2 := so_room (unhide S2)
    go_wp2_with fail
    refine C2.mono ?_
    rintro e W2 ⟨rfl, S3⟩
    replace S3 := hide S3
    clear C2 S2
    have lo := (unhide S3).so.l
    have uo := (unhide S3).so.u
    have i1 : IntKind.i64.wrap (s.limit - s.used) = s.limit - s.used := by rw [IntKind.wrap_i64]; omega
    have FN := hide (fun q => ((unhide S3).keep (drew_gr W2 q)).fin)
    obtain ⟨t1, y0, y1, y2⟩ := (unhide S3).d.full
    clear S3 lo uo z2f
    generalize wantB s = E at *
    have eb : (E == E) = true := by simp
    generalize s.limit = L at *
    generalize s.used = U at *
    have ed : (L - U == L - U) = true := by simp
    go_wp2_with fail
    go_quiet (fail)
    go_wp2
    go_ret
    exact ⟨rfl, unhide FN _⟩
  · have C0 := so_view (unhide S0)
    unfold oc at C0
    go_wp2_with fail
    refine C0.mono ?_
    rintro e W0 ⟨rfl, S1⟩
    replace S1 := hide S1
    clear C0 S0
    have ga := World.grownBy_alloc W0 (.cells #[.int .i64 s.limit, .int .i64 s.used, .int .i64 s.told] 61) none
    have S2 := hide ((unhide S1).keep ga)
    have D := Blk.new W0 #[.int .i64 s.limit, .int .i64 s.used, .int .i64 s.told] 61
    obtain ⟨t1, y0, y1, y2⟩ := (unhide S2).d.full
    have v0 := D.cell 0 _ rfl
    have v1 := D.cell 1 _ rfl
    have v2 := D.cell 2 _ rfl
    have FN := hide (fun q => ((unhide S2).keep (drew_gr _ q)).fin)
    clear S1 S2 ga D z2f
    go_wp2_with fail
    generalize W0.heap.size = v at *
    generalize W0.alloc _ = W2 at *
    generalize s.limit = X0 at *
    generalize s.used = X1 at *
    generalize s.told = X2 at *
    go_quiet (fail)
    go_wp2
    go_ret
    exact ⟨by simp, unhide FN _⟩
end Go.Proofs.Ytgmjminpgliilaa
