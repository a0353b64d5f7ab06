/- pick; an Out beside an In; the document's example. -/
import Derived.Test.YtgmjminpgliilaaC7E
import Derived.Test.YtgmjminpgliilaaC7D
import Derived.BigQuiet
namespace Go.Proofs.Ytgmjminpgliilaa
open Go.RowKit
set_option linter.unusedVariables false
set_option maxRecDepth 100000
set_option maxHeartbeats 4000000

abbrev i64B (x : Int) : Prop := -9223372036854775808 ≤ x ∧ x ≤ 9223372036854775807
def PickP (n : Nat) (w : World) (e : Ending) (w' : World) : Prop := ∃ k : Nat, e = .returned (.int .i64 k) ∧ k < n ∧ w' = w
theorem pick5 (c : Int) (w : World) (hc : i64B c) : Calls Try.prog 14 #[.int .i64 c, .int .i64 5] w (PickP 5 w) := by
  obtain ⟨hc1, hc2⟩ := hc
  by_cases h : c < 0
  · have d : decide (c < 0) = true := decide_eq_true h
    have w1 : IntKind.i64.wrap (c + 1) = c + 1 := by rw [IntKind.wrap_i64]; omega
    have w2 : IntKind.i64.wrap (-(c + 1)) = -(c + 1) := by rw [IntKind.wrap_i64]; omega
    obtain ⟨m, hm⟩ : ∃ m : Nat, -(c + 1) = (m : Int) := ⟨(-(c + 1)).toNat, by omega⟩
    have ht : Int.tmod (-(c + 1)) 5 = ((m % 5 : Nat) : Int) := by rw [hm, show (5 : Int) = ((5 : Nat) : Int) from rfl, ← Int.ofNat_tmod]
    have HM := hide hm
    clear hm
    have hk : m % 5 < 5 := Nat.mod_lt _ (by omega)
    generalize m % 5 = k at *
    go_enter Try.func14, Try.ntmps14
    go_wp2
    all_goals go_ret
    all_goals exact ⟨k, by simp [*], hk, rfl⟩
  · have d : decide (c < 0) = false := decide_eq_false h
    obtain ⟨m, hm⟩ : ∃ m : Nat, c = (m : Int) := ⟨c.toNat, by omega⟩
    have ht : Int.tmod c 5 = ((m % 5 : Nat) : Int) := by rw [hm, show (5 : Int) = ((5 : Nat) : Int) from rfl, ← Int.ofNat_tmod]
    have HM := hide hm
    clear hm
    have hk : m % 5 < 5 := Nat.mod_lt _ (by omega)
    generalize m % 5 = k at *
    go_enter Try.func14, Try.ntmps14
    go_wp2
    all_goals go_ret
    all_goals exact ⟨k, by simp [*], hk, rfl⟩
theorem pick6 (c : Int) (w : World) (hc : i64B c) : Calls Try.prog 14 #[.int .i64 c, .int .i64 6] w (PickP 6 w) := by
  obtain ⟨hc1, hc2⟩ := hc
  by_cases h : c < 0
  · have d : decide (c < 0) = true := decide_eq_true h
    have w1 : IntKind.i64.wrap (c + 1) = c + 1 := by rw [IntKind.wrap_i64]; omega
    have w2 : IntKind.i64.wrap (-(c + 1)) = -(c + 1) := by rw [IntKind.wrap_i64]; omega
    obtain ⟨m, hm⟩ : ∃ m : Nat, -(c + 1) = (m : Int) := ⟨(-(c + 1)).toNat, by omega⟩
    have ht : Int.tmod (-(c + 1)) 6 = ((m % 6 : Nat) : Int) := by rw [hm, show (6 : Int) = ((6 : Nat) : Int) from rfl, ← Int.ofNat_tmod]
    have HM := hide hm
    clear hm
    have hk : m % 6 < 6 := Nat.mod_lt _ (by omega)
    generalize m % 6 = k at *
    go_enter Try.func14, Try.ntmps14
    go_wp2
    all_goals go_ret
    all_goals exact ⟨k, by simp [*], hk, rfl⟩
  · have d : decide (c < 0) = false := decide_eq_false h
    obtain ⟨m, hm⟩ : ∃ m : Nat, c = (m : Int) := ⟨c.toNat, by omega⟩
    have ht : Int.tmod c 6 = ((m % 6 : Nat) : Int) := by rw [hm, show (6 : Int) = ((6 : Nat) : Int) from rfl, ← Int.ofNat_tmod]
    have HM := hide hm
    clear hm
    have hk : m % 6 < 6 := Nat.mod_lt _ (by omega)
    generalize m % 6 = k at *
    go_enter Try.func14, Try.ntmps14
    go_wp2
    all_goals go_ret
    all_goals exact ⟨k, by simp [*], hk, rfl⟩
theorem Blk.neT {w : World} {g g' : Nat} {cs cs' : Array Value} {t t' : TypeId} (h : Blk w g cs t) (h' : Blk w g' cs' t') (ht : t ≠ t') : g ≠ g' := by
  rintro rfl
  have := (show w.heap[g]? = _ from h).symm.trans (show w.heap[g]? = _ from h')
  simp at this
  exact ht this.2
theorem grown_new {w wr wr' : World} {b : Nat} (h : w.grownBy wr none) (g : wr.grownBy wr' (some b)) (hb : w.heap.size ≤ b) : w.grownBy wr' none :=
  ⟨g.os.trans h.os, g.tape.trans h.tape, g.output.trans h.output, Nat.le_trans h.size g.size, fun i hi _ => (g.block i (Nat.lt_of_lt_of_le hi h.size) (by intro e; cases e; omega)).trans (h.block i hi (by simp))⟩

/-- An Out and an In that were made since w. -/
structure OI (w wr : World) (a b : Nat) (s : Ou) (t : Ind) : Prop where
  c : OB 58 wr a s
  d : IB 64 wr b t
  so : s.Ok
  to : t.Ok
  na : w.heap.size ≤ a
  nb : w.heap.size ≤ b
  g : w.grownBy wr none
theorem OI.ne {w wr : World} {a b : Nat} {s : Ou} {t : Ind} (h : OI w wr a b s t) : a ≠ b := Blk.neT h.c h.d (by decide)
theorem OI.toA {w wr wr' : World} {a b : Nat} {s s' : Ou} {t : Ind} (h : OI w wr a b s t) (c : OB 58 wr' a s') (ok : s'.Ok) (g : wr.grownBy wr' (some a)) : OI w wr' a b s' t := ⟨c, Blk.far h.d g h.ne.symm, ok, h.to, h.na, h.nb, grown_new h.g g h.na⟩
theorem OI.toB {w wr wr' : World} {a b : Nat} {s : Ou} {t t' : Ind} (h : OI w wr a b s t) (d : IB 64 wr' b t') (ok : t'.Ok) (g : wr.grownBy wr' (some b)) : OI w wr' a b s t' := ⟨Blk.far h.c g h.ne, d, h.so, ok, h.na, h.nb, grown_new h.g g h.nb⟩
theorem OI.keep {w wr wr' : World} {a b : Nat} {s : Ou} {t : Ind} (h : OI w wr a b s t) (g : wr.grownBy wr' none) : OI w wr' a b s t := ⟨h.c.grown g, h.d.grown g, h.so, h.to, h.na, h.nb, gtrans h.g g⟩
theorem drew_gr (w : World) (q : Nat) : w.grownBy (w.drewN q) none := grown_drewN (World.grownBy.refl w none)
theorem oi_use {w wr : World} {a b : Nat} {s : Ou} {t : Ind} (h : OI w wr a b s t) (n : Int) : Calls Try.prog 15 #[ptr a, .int .i64 n] wr fun e w' => e = .returned (.int .i64 (useE n s)) ∧ OI w w' a b (useF n s) t :=
  (use_any a s n wr h.c h.so).mono fun e w' ⟨he, c, g⟩ => ⟨he, h.toA c (use_ok h.so n) g⟩
theorem oi_raise {w wr : World} {a b : Nat} {s : Ou} {t : Ind} (h : OI w wr a b s t) (n : Int) : Calls Try.prog 19 #[ptr a, .int .i64 n] wr fun e w' => e = .returned (.bool (raiseB n s)) ∧ OI w w' a b (raiseF n s) t :=
  (raise_any a s n wr h.c h.so).mono fun e w' ⟨he, c, g⟩ => ⟨he, h.toA c (raise_ok h.so n) g⟩
theorem oi_blk {w wr : World} {a b : Nat} {s : Ou} {t : Ind} (h : OI w wr a b s t) : Calls Try.prog 22 #[ptr a] wr fun e w' => e = .returned (.tuple #[.int .i64 (blkN s), .bool (wantB s)]) ∧ OI w w' a b (blkF s) t :=
  (blk_any a s wr h.c h.so).mono fun e w' ⟨he, c, g⟩ => ⟨he, h.toA c (blk_ok h.so) g⟩
theorem oi_room {w wr : World} {a b : Nat} {s : Ou} {t : Ind} (h : OI w wr a b s t) : Calls Try.prog 13 #[ptr a] wr fun e w' => e = .returned (.int .i64 (s.limit - s.used)) ∧ OI w w' a b s t :=
  (room_any a s wr h.c h.so).mono fun e w' ⟨he, q, hq⟩ => ⟨he, hq ▸ h.keep (drew_gr _ q)⟩
theorem oi_take {w wr : World} {a b : Nat} {s : Ou} {t : Ind} (h : OI w wr a b s t) (n : Int) : Calls Try.prog 16 #[ptr b, .int .i64 n] wr fun e w' => e = .returned (.int .i64 (takeE n t)) ∧ OI w w' a b s (takeF n t) :=
  (take_any b t n wr h.d h.to).mono fun e w' ⟨he, c, g⟩ => ⟨he, h.toB c (take_ok h.to n) g⟩
theorem oi_cons {w wr : World} {a b : Nat} {s : Ou} {t : Ind} (h : OI w wr a b s t) (n : Int) : Calls Try.prog 17 #[ptr b, .int .i64 n] wr fun e w' => e = .returned (.int .i64 (consE n t)) ∧ OI w w' a b s (consF n t) :=
  (cons_any b t n wr h.d h.to).mono fun e w' ⟨he, c, g⟩ => ⟨he, h.toB c (cons_ok h.to n) g⟩
theorem oi_upd {w wr : World} {a b : Nat} {s : Ou} {t : Ind} (h : OI w wr a b s t) : Calls Try.prog 18 #[ptr b] wr fun e w' => e = .returned (.tuple #[.int .i64 (updN t), .bool (wantI t)]) ∧ OI w w' a b s (updF t) :=
  (upd_any b t wr h.d h.to).mono fun e w' ⟨he, c, g⟩ => ⟨he, h.toB c (upd_ok h.to) g⟩
theorem oi_agi {w wr : World} {a b : Nat} {s : Ou} {t : Ind} (h : OI w wr a b s t) (n : Int) : Calls Try.prog 20 #[ptr b, .int .i64 n] wr fun e w' => e = .returned (.tuple #[]) ∧ OI w w' a b s (agI n t) :=
  (agi_any b t n wr h.d h.to).mono fun e w' ⟨he, c, g⟩ => ⟨he, h.toB c (agI_ok h.to n) g⟩
theorem oi_view {w wr : World} {a b : Nat} {s : Ou} {t : Ind} (h : OI w wr a b s t) : Calls Try.prog 21 #[ptr b] wr fun e w' => e = .returned (.agg (ivc t)) ∧ OI w w' a b s t :=
  (iview_any b t wr h.d).mono fun e w' ⟨he, g⟩ => ⟨he, h.keep g⟩
theorem o0_ok {n : Int} (h : fitsF n) : Ou.Ok ⟨n, 0, -1⟩ := ⟨h, ⟨Int.le_refl _, h.1⟩, by show (-1 : Int) ≤ -1 ∧ (-1 : Int) ≤ 4611686018427387903; omega⟩
theorem i0_ok {n : Int} (h : fitsF n) : Ind.Ok ⟨n, n, 0, 0, false⟩ := ⟨h, ⟨Int.le_refl _, h.2⟩, by show n ≤ 0 + n; omega, h.1, by show (0 : Int) ≤ 0 ∧ (0 : Int) ≤ 0; omega⟩
/-- Both are made. -/
theorem oi_start {w wr : World} (g : w.grownBy wr none) {n m : Int} (hn : fitsF n) (hm : fitsF m) : OI w ((wr.alloc (.cells (oc ⟨n, 0, -1⟩) 58)).alloc (.cells (ic ⟨m, m, 0, 0, false⟩) 64)) wr.heap.size (wr.heap.size + 1) ⟨n, 0, -1⟩ ⟨m, m, 0, 0, false⟩ := by
  obtain ⟨h1, h2, h3⟩ := Blk.two wr (oc ⟨n, 0, -1⟩) (ic ⟨m, m, 0, 0, false⟩) 58 64
  exact ⟨h1, h2, o0_ok hn, i0_ok hm, g.size, Nat.le_succ_of_le g.size, gtrans g h3⟩

theorem shown_any (w : World) : Calls Try.prog 6 #[] w fun e w' => e = .returned (.bool true) ∧ w.grownBy w' none := by
  have f10 : fitsF 10 := ⟨by decide, by decide⟩
  have N1 := onew_ok 10 f10 w
  have N2 := inew_ok 10 f10 (w.alloc (.cells (oc ⟨10, 0, -1⟩) 58))
  have S0 := hide (oi_start (World.grownBy.refl w none) f10 f10)
  rw [alloc_size] at N2
  go_enter Try.func6, Try.ntmps6
  go_wp2_with fail
  refine N1.mono ?_
  rintro e W ⟨rfl, hW⟩
  replace hW := hW.symm
  subst hW
  go_wp2_with fail
  refine N2.mono ?_
  rintro e W ⟨rfl, hW⟩
  replace hW := hide hW
  have S1 : Hid (OI w W w.heap.size (w.heap.size + 1) ⟨10, 0, -1⟩ ⟨10, 10, 0, 0, false⟩) := by show OI _ _ _ _ _ _; rw [unhide hW]; exact unhide S0
  clear hW S0 N1 N2
  generalize w.heap.size = a at *
  generalize a + 1 = b at *
  have C1 := oi_use (unhide S1) 11
  rw [(show useE 11 ⟨10, 0, -1⟩ = 170 from rfl), (show useF 11 ⟨10, 0, -1⟩ = ⟨10, 0, -1⟩ from rfl)] at C1
  clear S1
  go_wp2_with fail
  refine C1.mono ?_
  rintro e W1 ⟨rfl, S2⟩
  clear C1
  replace S2 := hide S2
  have C2 := oi_use (unhide S2) 10
  rw [(show useE 10 ⟨10, 0, -1⟩ = 0 from rfl), (show useF 10 ⟨10, 0, -1⟩ = ⟨10, 10, -1⟩ from rfl)] at C2
  clear S2
  go_wp2_with fail
  refine C2.mono ?_
  rintro e W2 ⟨rfl, S3⟩
  clear C2
  replace S3 := hide S3
  have C3 := oi_blk (unhide S3)
  rw [(show blkN ⟨10, 10, -1⟩ = 10 from rfl), (show wantB ⟨10, 10, -1⟩ = true from rfl), (show blkF ⟨10, 10, -1⟩ = ⟨10, 10, 10⟩ from rfl)] at C3
  clear S3
  go_wp2_with fail
  refine C3.mono ?_
  rintro e W3 ⟨rfl, S4⟩
  clear C3
  replace S4 := hide S4
  have C4 := oi_blk (unhide S4)
  rw [(show blkN ⟨10, 10, 10⟩ = 0 from rfl), (show wantB ⟨10, 10, 10⟩ = false from rfl), (show blkF ⟨10, 10, 10⟩ = ⟨10, 10, 10⟩ from rfl)] at C4
  clear S4
  go_wp2_with fail
  refine C4.mono ?_
  rintro e W4 ⟨rfl, S5⟩
  clear C4
  replace S5 := hide S5
  have C5 := oi_take (unhide S5) 10
  rw [(show takeE 10 ⟨10, 10, 0, 0, false⟩ = 0 from rfl), (show takeF 10 ⟨10, 10, 0, 0, false⟩ = ⟨10, 10, 10, 0, false⟩ from rfl)] at C5
  clear S5
  go_wp2_with fail
  refine C5.mono ?_
  rintro e W5 ⟨rfl, S6⟩
  clear C5
  replace S6 := hide S6
  have C6 := oi_cons (unhide S6) 4
  rw [(show consE 4 ⟨10, 10, 10, 0, false⟩ = 0 from rfl), (show consF 4 ⟨10, 10, 10, 0, false⟩ = ⟨10, 10, 10, 4, false⟩ from rfl)] at C6
  clear S6
  go_wp2_with fail
  refine C6.mono ?_
  rintro e W6 ⟨rfl, S7⟩
  clear C6
  replace S7 := hide S7
  have C7 := oi_upd (unhide S7)
  rw [(show updN ⟨10, 10, 10, 4, false⟩ = 0 from rfl), (show wantI ⟨10, 10, 10, 4, false⟩ = false from rfl), (show updF ⟨10, 10, 10, 4, false⟩ = ⟨10, 10, 10, 4, false⟩ from rfl)] at C7
  clear S7
  go_wp2_with fail
  refine C7.mono ?_
  rintro e W7 ⟨rfl, S8⟩
  clear C7
  replace S8 := hide S8
  have C8 := oi_cons (unhide S8) 1
  rw [(show consE 1 ⟨10, 10, 10, 4, false⟩ = 0 from rfl), (show consF 1 ⟨10, 10, 10, 4, false⟩ = ⟨10, 10, 10, 5, false⟩ from rfl)] at C8
  clear S8
  go_wp2_with fail
  refine C8.mono ?_
  rintro e W8 ⟨rfl, S9⟩
  clear C8
  replace S9 := hide S9
  have C9 := oi_upd (unhide S9)
  rw [(show updN ⟨10, 10, 10, 5, false⟩ = 15 from rfl), (show wantI ⟨10, 10, 10, 5, false⟩ = true from rfl), (show updF ⟨10, 10, 10, 5, false⟩ = ⟨10, 15, 10, 5, false⟩ from rfl)] at C9
  clear S9
  go_wp2_with fail
  refine C9.mono ?_
  rintro e W9 ⟨rfl, S10⟩
  clear C9
  replace S10 := hide S10
  go_wp2_with fail
  go_ret
  exact ⟨rfl, (unhide S10).g⟩
end Go.Proofs.Ytgmjminpgliilaa
