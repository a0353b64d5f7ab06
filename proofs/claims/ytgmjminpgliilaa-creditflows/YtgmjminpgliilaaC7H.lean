/- Both Ins, step by step. -/
import Derived.Test.YtgmjminpgliilaaC7G
import Derived.BigQuiet
namespace Go.Proofs.Ytgmjminpgliilaa
open Go.RowKit
set_option linter.unusedVariables false
set_option maxRecDepth 100000
set_option maxHeartbeats 4000000

/-- Both, beside the step's copy. -/
structure SI (w W : World) (a r o : Nat) (cs : Array Value) (s u : Ind) : Prop where
  c : IB 64 W a s
  d : IB 66 W r u
  so : s.Ok
  uo : u.Ok
  b : Blk W o cs 32
  g : G2 w W a r
theorem SI.toA {w W W' : World} {a r o : Nat} {cs : Array Value} {s u s' : Ind} (h : SI w W a r o cs s u) (c : IB 64 W' a s') (ok : s'.Ok) (g : W.grownBy W' (some a)) : SI w W' a r o cs s' u :=
  ⟨c, Blk.far h.d g (Blk.neT h.d h.c (by decide)), ok, h.uo, Blk.far h.b g (Blk.neT h.b h.c (by decide)), h.g.a g⟩
theorem SI.toR {w W W' : World} {a r o : Nat} {cs : Array Value} {s u u' : Ind} (h : SI w W a r o cs s u) (d : IB 66 W' r u') (ok : u'.Ok) (g : W.grownBy W' (some r)) : SI w W' a r o cs s u' :=
  ⟨Blk.far h.c g (Blk.neT h.c h.d (by decide)), d, h.so, ok, Blk.far h.b g (Blk.neT h.b h.d (by decide)), h.g.r g⟩
theorem SI.keep {w W W' : World} {a r o : Nat} {cs : Array Value} {s u : Ind} (h : SI w W a r o cs s u) (g : W.grownBy W' none) : SI w W' a r o cs s u := ⟨h.c.grown g, h.d.grown g, h.so, h.uo, Blk.grown h.b g, h.g.n g⟩
def StepI (w : World) (a r : Nat) (e : Ending) (w' : World) : Prop := e = .returned (.bool true) ∧ ∃ s, IB 64 w' a s ∧ IB 66 w' r s ∧ s.Ok ∧ G2 w w' a r
theorem SI.fin {w W : World} {a r o : Nat} {cs : Array Value} {s : Ind} (h : SI w W a r o cs s s) : ∃ s, IB 64 W a s ∧ IB 66 W r s ∧ s.Ok ∧ G2 w W a r := ⟨s, h.c, h.d, h.so, h.g⟩
theorem si_take {w W : World} {a r o : Nat} {cs : Array Value} {s u : Ind} (h : SI w W a r o cs s u) (n : Int) : Calls Try.prog 16 #[ptr a, .int .i64 n] W fun e w' => e = .returned (.int .i64 (takeE n s)) ∧ SI w w' a r o cs (takeF n s) u :=
  (take_any a s n W h.c h.so).mono fun e w' ⟨he, c, g⟩ => ⟨he, h.toA c (take_ok h.so n) g⟩
theorem si_rtake {w W : World} {a r o : Nat} {cs : Array Value} {s u : Ind} (h : SI w W a r o cs s u) (n : Int) : Calls Try.prog 32 #[ptr r, .int .i64 n] W fun e w' => e = .returned (.int .i64 (takeE n u)) ∧ SI w w' a r o cs s (takeF n u) :=
  (rtake_any r u n W h.d h.uo).mono fun e w' ⟨he, c, g⟩ => ⟨he, h.toR c (take_ok h.uo n) g⟩
theorem si_cons {w W : World} {a r o : Nat} {cs : Array Value} {s u : Ind} (h : SI w W a r o cs s u) (n : Int) : Calls Try.prog 17 #[ptr a, .int .i64 n] W fun e w' => e = .returned (.int .i64 (consE n s)) ∧ SI w w' a r o cs (consF n s) u :=
  (cons_any a s n W h.c h.so).mono fun e w' ⟨he, c, g⟩ => ⟨he, h.toA c (cons_ok h.so n) g⟩
theorem si_rcons {w W : World} {a r o : Nat} {cs : Array Value} {s u : Ind} (h : SI w W a r o cs s u) (n : Int) : Calls Try.prog 33 #[ptr r, .int .i64 n] W fun e w' => e = .returned (.int .i64 (consE n u)) ∧ SI w w' a r o cs s (consF n u) :=
  (rcons_any r u n W h.d h.uo).mono fun e w' ⟨he, c, g⟩ => ⟨he, h.toR c (cons_ok h.uo n) g⟩
theorem si_upd {w W : World} {a r o : Nat} {cs : Array Value} {s u : Ind} (h : SI w W a r o cs s u) : Calls Try.prog 18 #[ptr a] W fun e w' => e = .returned (.tuple #[.int .i64 (updN s), .bool (wantI s)]) ∧ SI w w' a r o cs (updF s) u :=
  (upd_any a s W h.c h.so).mono fun e w' ⟨he, c, g⟩ => ⟨he, h.toA c (upd_ok h.so) g⟩
theorem si_rupd {w W : World} {a r o : Nat} {cs : Array Value} {s u : Ind} (h : SI w W a r o cs s u) : Calls Try.prog 34 #[ptr r] W fun e w' => e = .returned (.tuple #[.int .i64 (updN u), .bool (wantI u)]) ∧ SI w w' a r o cs s (updF u) :=
  (rupd_any r u W h.d h.uo).mono fun e w' ⟨he, c, g⟩ => ⟨he, h.toR c (upd_ok h.uo) g⟩
theorem si_agi {w W : World} {a r o : Nat} {cs : Array Value} {s u : Ind} (h : SI w W a r o cs s u) (n : Int) : Calls Try.prog 20 #[ptr a, .int .i64 n] W fun e w' => e = .returned (.tuple #[]) ∧ SI w w' a r o cs (agI n s) u :=
  (agi_any a s n W h.c h.so).mono fun e w' ⟨he, c, g⟩ => ⟨he, h.toA c (agI_ok h.so n) g⟩
theorem si_ragi {w W : World} {a r o : Nat} {cs : Array Value} {s u : Ind} (h : SI w W a r o cs s u) (n : Int) : Calls Try.prog 35 #[ptr r, .int .i64 n] W fun e w' => e = .returned (.tuple #[]) ∧ SI w w' a r o cs s (agI n u) :=
  (ragi_any r u n W h.d h.uo).mono fun e w' ⟨he, c, g⟩ => ⟨he, h.toR c (agI_ok h.uo n) g⟩
theorem si_wants {w W : World} {a r o : Nat} {cs : Array Value} {s u : Ind} (h : SI w W a r o cs s u) : Calls Try.prog 36 #[ptr a] W fun e w' => e = .returned (.bool (wantI s)) ∧ SI w w' a r o cs s u :=
  (wanti_any a s W h.c h.so).mono fun e w' ⟨he, q, hq⟩ => ⟨he, hq ▸ h.keep (drew_gr _ q)⟩
theorem si_rwants {w W : World} {a r o : Nat} {cs : Array Value} {s u : Ind} (h : SI w W a r o cs s u) : Calls Try.prog 37 #[ptr r] W fun e w' => e = .returned (.bool (wantI u)) ∧ SI w w' a r o cs s u :=
  (rwanti_any r u W h.d h.uo).mono fun e w' ⟨he, q, hq⟩ => ⟨he, hq ▸ h.keep (drew_gr _ q)⟩
theorem si_view {w W : World} {a r o : Nat} {cs : Array Value} {s u : Ind} (h : SI w W a r o cs s u) : Calls Try.prog 21 #[ptr a] W fun e w' => e = .returned (.agg (ivc s)) ∧ SI w w' a r o cs s u :=
  (iview_any a s W h.c).mono fun e w' ⟨he, g⟩ => ⟨he, h.keep g⟩

theorem inStep_any (a r : Nat) (kind : Int) (oth : Bool) (n : Int) (s : Ind) (w : World) (hk : i64B kind) (hc : IB 64 w a s) (hd : IB 66 w r s) (ok : s.Ok) :
    Calls Try.prog 12 #[ptr a, ptr r, .agg #[.int .i64 kind, .bool oth, .int .i64 n]] w (StepI w a r) := by
  have PK := fun W => pick6 kind W hk
  have ga := World.grownBy_alloc w (.cells #[.int .i64 kind, .bool oth, .int .i64 n] 32) none
  have S0 : Hid (SI w (w.alloc (.cells #[.int .i64 kind, .bool oth, .int .i64 n] 32)) a r w.heap.size #[.int .i64 kind, .bool oth, .int .i64 n] s s) := ⟨hc.grown ga, hd.grown ga, ok, ok, Blk.new _ _ _, G2.of ga _ _⟩
  clear hc hd ok ga
  obtain z0 : _ := (unhide S0).b.cell 0 _ rfl
  go_enter Try.func12, Try.ntmps12
  go_wp2_with fail
  generalize w.heap.size = o at *
  generalize w.alloc _ = W0 at *
  refine (PK _).mono ?_
  rintro e W ⟨k, rfl, k6, hW⟩
  replace hW := hW.symm
  subst hW
  clear PK z0
  generalize hcs : (#[.int .i64 kind, .bool oth, .int .i64 n] : Array Value) = cs at *
  have z2f : Hid (∀ X, Blk X o cs 32 → X.cell? ⟨o, 2, none⟩ = some (.int .i64 n)) := by rw [← hcs]; exact fun X h => h.cell 2 _ rfl
  clear hcs
  rcases (by omega : k = 0 ∨ k = 1 ∨ k = 2 ∨ k = 3 ∨ k = 4 ∨ k = 5) with rfl | rfl | rfl | rfl | rfl | rfl
  · have z2 := unhide z2f _ (unhide S0).b
    have C0 := si_take (unhide S0) n
    go_wp2_with fail
    refine C0.mono ?_
    rintro e W0 ⟨rfl, S1⟩
    replace S1 := hide S1
    clear C0 S0 z2
    have z2 := unhide z2f _ (unhide S1).b
    have C1 := si_rtake (unhide S1) n
    go_wp2_with fail
    refine C1.mono ?_
    rintro e W1 ⟨rfl, S2⟩
    replace S2 := hide S2
    clear C1 S1 z2
    have FN := hide (unhide S2).fin
    clear S2 z2f
    generalize takeE n s = E at *
    go_wp2
    go_ret
    exact ⟨by simp, unhide FN⟩
  · have z2 := unhide z2f _ (unhide S0).b
    have C0 := si_cons (unhide S0) n
    go_wp2_with fail
    refine C0.mono ?_
    rintro e W0 ⟨rfl, S1⟩
    replace S1 := hide S1
    clear C0 S0 z2
    have z2 := unhide z2f _ (unhide S1).b
    have C1 := si_rcons (unhide S1) n
    go_wp2_with fail
    refine C1.mono ?_
    rintro e W1 ⟨rfl, S2⟩
    replace S2 := hide S2
    clear C1 S1 z2
    have FN := hide (unhide S2).fin
    clear S2 z2f
    generalize consE n s = E at *
    go_wp2
    go_ret
    exact ⟨by simp, unhide FN⟩
  · have C0 := si_upd (unhide S0)
    go_wp2_with fail
    refine C0.mono ?_
    rintro e W0 ⟨rfl, S1⟩
    replace S1 := hide S1
    clear C0 S0
    have C1 := si_rupd (unhide S1)
    go_wp2_with fail
    refine C1.mono ?_
    rintro e W1 ⟨rfl, S2⟩
    replace S2 := hide S2
    clear C1 S1
    have FN := hide (unhide S2).fin
    clear S2 z2f
    generalize updN s = E at *
    generalize wantI s = E2 at *
    go_wp2
    go_ret
    exact ⟨by simp, unhide FN⟩
  · have z2 := unhide z2f _ (unhide S0).b
    have C0 := si_agi (unhide S0) n
    go_wp2_with fail
    refine C0.mono ?_
    rintro e W0' ⟨rfl, S1⟩
    replace S1 := hide S1
    clear C0 S0 z2
    have z2 := unhide z2f _ (unhide S1).b
    have C1 := si_ragi (unhide S1) n
    go_wp2_with fail
    refine C1.mono ?_
    rintro e W1 ⟨rfl, S2⟩
    replace S2 := hide S2
    clear C1 S1 z2
    have FN := hide (unhide S2).fin
    clear S2 z2f
    go_wp2
    go_ret
    exact ⟨by simp, unhide FN⟩
  · have C0 := si_wants (unhide S0)
    go_wp2_with fail
    refine C0.mono ?_
    rintro e W0 ⟨rfl, S1⟩
    replace S1 := hide S1
    clear C0 S0
    have C1 := si_rwants (unhide S1)
    go_wp2_with fail
    refine C1.mono ?_
    rintro e W1 ⟨rfl, S2⟩
    replace S2 := hide S2
    clear C1 S1
    have FN := hide (unhide S2).fin
    clear S2 z2f
    generalize wantI s = E at *
    go_wp2
    go_ret
    exact ⟨by simp, unhide FN⟩
  · have C0 := si_view (unhide S0)
    unfold ivc at C0
    go_wp2_with fail
    refine C0.mono ?_
    rintro e W0 ⟨rfl, S1⟩
    replace S1 := hide S1
    clear C0 S0
    have ga := World.grownBy_alloc W0 (.cells #[.int .i64 s.limit, .int .i64 s.taken, .int .i64 s.consumed, .int .i64 s.window] 54) none
    have S2 := hide ((unhide S1).keep ga)
    have D := Blk.new W0 #[.int .i64 s.limit, .int .i64 s.taken, .int .i64 s.consumed, .int .i64 s.window] 54
    obtain ⟨t1, y0, y1, y2, y3, y4⟩ := (unhide S2).d.full
    have v0 := D.cell 0 _ rfl
    have v1 := D.cell 1 _ rfl
    have v2 := D.cell 2 _ rfl
    have v3 := D.cell 3 _ rfl
    have FN := hide (fun q => ((unhide S2).keep (drew_gr _ q)).fin)
    clear S1 S2 ga D z2f
    go_wp2_with fail
    generalize W0.heap.size = v at *
    generalize W0.alloc _ = W2 at *
    generalize s.limit = X0 at *
    generalize s.taken = X1 at *
    generalize s.consumed = X2 at *
    generalize s.window = X3 at *
    go_quiet (fail)
    go_wp2
    go_ret
    exact ⟨by simp, unhide FN _⟩
end Go.Proofs.Ytgmjminpgliilaa
