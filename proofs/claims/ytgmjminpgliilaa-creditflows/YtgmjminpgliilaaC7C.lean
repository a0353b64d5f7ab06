/- In: the program's and the document's. -/
import Derived.Test.YtgmjminpgliilaaC7B
import Derived.BigQuiet
namespace Go.Proofs.Ytgmjminpgliilaa
open Go.RowKit
set_option linter.unusedVariables false
set_option maxRecDepth 100000
set_option maxHeartbeats 1000000

theorem take_any (b : Nat) (s : Ind) (n : Int) (w : World) (h : IB 64 w b s) (ok : s.Ok) : Calls Try.prog 16 #[ptr b, .int .i64 n] w fun e w' => e = .returned (.int .i64 (takeE n s)) ∧ IB 64 w' b (takeF n s) ∧ w.grownBy w' (some b) := by
  obtain ⟨t, c0, c1, c2, c3, c4⟩ := h.full
  have l := ok.l
  have u := ok.t
  have v := ok.c
  have i1 : IntKind.i64.wrap (s.limit - s.taken) = s.limit - s.taken := by rw [IntKind.wrap_i64]; omega
  by_cases d : n < 0
  · have E : Hid (takeE n s = 1) := by show _ = _; unfold takeE; rw [if_pos d]
    have F : Hid (IB 64 w b (takeF n s) ∧ w.grownBy w (some b)) := by unfold takeF; rw [if_pos (Or.inl d)]; exact ⟨h, World.grownBy.refl _ _⟩
    clear h ok
    go_enter Try.func16, Try.ntmps16
    go_wp2
    go_ret
    exact ⟨ret_eq E, unhide F⟩
  · by_cases d' : s.limit - s.taken < n
    · have E : Hid (takeE n s = 170) := by show _ = _; unfold takeE; rw [if_neg d, if_pos d']
      have F : Hid (∀ q : Nat, IB 64 (w.drewN q) b (takeF n s) ∧ w.grownBy (w.drewN q) (some b)) := by unfold takeF; rw [if_pos (Or.inr d')]; exact fun q => ⟨h, drewSN (World.grownBy.refl _ _) q⟩
      clear h ok
      go_enter Try.func16, Try.ntmps16
      go_wp2
      go_quiet (fail)
      go_wp2
      go_ret
      exact ⟨ret_eq E, unhide F _⟩
    · have E : Hid (takeE n s = 0) := by show _ = _; unfold takeE; rw [if_neg d, if_neg d']
      have F : Hid (∀ q : Nat, IB 64 ((w.drewN q).setCell ⟨b, 2, none⟩ (.int .i64 (s.taken + n))) b (takeF n s) ∧ w.grownBy ((w.drewN q).setCell ⟨b, 2, none⟩ (.int .i64 (s.taken + n))) (some b)) := by unfold takeF; rw [if_neg (by omega)]; exact fun q => ⟨Blk.setC (show Blk (w.drewN q) b (ic s) _ from h) 2 _, grown_at (drewSN (World.grownBy.refl _ _) q) 2 _⟩
      have i2 : IntKind.i64.wrap (s.taken + n) = s.taken + n := by rw [IntKind.wrap_i64]; omega
      clear h ok
      go_enter Try.func16, Try.ntmps16
      go_wp2
      go_quiet (fail)
      go_wp2
      go_ret
      exact ⟨ret_eq E, unhide F _⟩

theorem cons_any (b : Nat) (s : Ind) (n : Int) (w : World) (h : IB 64 w b s) (ok : s.Ok) : Calls Try.prog 17 #[ptr b, .int .i64 n] w fun e w' => e = .returned (.int .i64 (consE n s)) ∧ IB 64 w' b (consF n s) ∧ w.grownBy w' (some b) := by
  obtain ⟨t, c0, c1, c2, c3, c4⟩ := h.full
  have l := ok.l
  have u := ok.t
  have v := ok.c
  have i1 : IntKind.i64.wrap (s.taken - s.consumed) = s.taken - s.consumed := by rw [IntKind.wrap_i64]; omega
  by_cases d : n < 0
  · have E : Hid (consE n s = 1) := by show _ = _; unfold consE; rw [if_pos (Or.inl d)]
    have F : Hid (∀ q : Nat, IB 64 (w.drewN q) b (consF n s) ∧ w.grownBy (w.drewN q) (some b)) := by unfold consF; rw [if_pos (Or.inl d)]; exact fun q => ⟨h, drewSN (World.grownBy.refl _ _) q⟩
    have d1 : decide (n < 0) = true := decide_eq_true d
    clear h ok
    go_enter Try.func17, Try.ntmps17
    go_wp2
    go_quiet (fail)
    go_wp2
    go_ret
    exact ⟨ret_eq E, unhide F _⟩
  · have d1 : decide (n < 0) = false := decide_eq_false d
    by_cases d' : s.taken - s.consumed < n
    · have E : Hid (consE n s = 1) := by show _ = _; unfold consE; rw [if_pos (Or.inr d')]
      have F : Hid (∀ q : Nat, IB 64 (w.drewN q) b (consF n s) ∧ w.grownBy (w.drewN q) (some b)) := by unfold consF; rw [if_pos (Or.inr d')]; exact fun q => ⟨h, drewSN (World.grownBy.refl _ _) q⟩
      have d2 : decide (s.taken - s.consumed < n) = true := decide_eq_true d'
      clear h ok
      go_enter Try.func17, Try.ntmps17
      go_wp2
      go_quiet (fail)
      go_wp2
      go_ret
      exact ⟨ret_eq E, unhide F _⟩
    · have E : Hid (consE n s = 0) := by show _ = _; unfold consE; rw [if_neg (by omega)]
      have F : Hid (∀ q : Nat, IB 64 ((w.drewN q).setCell ⟨b, 3, none⟩ (.int .i64 (s.consumed + n))) b (consF n s) ∧ w.grownBy ((w.drewN q).setCell ⟨b, 3, none⟩ (.int .i64 (s.consumed + n))) (some b)) := by unfold consF; rw [if_neg (by omega)]; exact fun q => ⟨Blk.setC (show Blk (w.drewN q) b (ic s) _ from h) 3 _, grown_at (drewSN (World.grownBy.refl _ _) q) 3 _⟩
      have i2 : IntKind.i64.wrap (s.consumed + n) = s.consumed + n := by rw [IntKind.wrap_i64]; omega
      have d2 : decide (s.taken - s.consumed < n) = false := decide_eq_false d'
      clear h ok
      go_enter Try.func17, Try.ntmps17
      go_wp2
      go_quiet (fail)
      go_wp2
      go_ret
      exact ⟨ret_eq E, unhide F _⟩

theorem next_any (b : Nat) (s : Ind) (w : World) (h : IB 64 w b s) (ok : s.Ok) : Calls Try.prog 38 #[ptr b] w fun e w' => e = .returned (.int .i64 (nextF s)) ∧ ∃ q, w' = w.drewN q := by
  obtain ⟨t, c0, c1, c2, c3, c4⟩ := h.full
  have l := ok.w
  have u := ok.l
  have v := ok.c
  have v2 := ok.t
  have i1 : IntKind.i64.wrap (s.consumed + s.window) = s.consumed + s.window := by rw [IntKind.wrap_i64]; omega
  have E : Hid (∀ y, y = min (s.consumed + s.window) 4611686018427387903 → nextF s = y) := by rintro y rfl; rfl
  clear h ok
  generalize s.consumed = C at *
  generalize s.window = D at *
  go_enter Try.func38, Try.ntmps38
  go_wp2
  go_quiet (fail)
  all_goals go_wp2
  all_goals go_ret
  all_goals exact ⟨ret_eq (E _ (by omega)), _, rfl⟩

theorem agi_any (b : Nat) (s : Ind) (n : Int) (w : World) (h : IB 64 w b s) (ok : s.Ok) : Calls Try.prog 20 #[ptr b, .int .i64 n] w fun e w' => e = .returned (.tuple #[]) ∧ IB 64 w' b (agI n s) ∧ w.grownBy w' (some b) := by
  obtain ⟨t, c0, c1, c2, c3, c4⟩ := h.full
  have l := ok.l
  by_cases d : n = s.limit
  · have d1 : (n == s.limit) = true := by simpa using d
    by_cases d' : n = s.window
    · have F : Hid (IB 64 w b (agI n s) ∧ w.grownBy w (some b)) := by unfold agI; rw [if_neg (fun c => c.2 d')]; exact ⟨h, World.grownBy.refl _ _⟩
      have d2 : (n != s.window) = false := by simp [d']
      have d3 : (n == s.window) = true := by simpa using d'
      clear h ok d d' l
      go_enter Try.func20, Try.ntmps20
      go_wp2
      refine bodyPost_end (results_none rfl _ _ _) rfl ?_
      exact ⟨rfl, unhide F⟩
    · have F : Hid (IB 64 (w.setCell ⟨b, 4, none⟩ (.bool true)) b (agI n s) ∧ w.grownBy (w.setCell ⟨b, 4, none⟩ (.bool true)) (some b)) := by unfold agI; rw [if_pos ⟨d, d'⟩]; exact ⟨Blk.setC (show Blk w b (ic s) _ from h) 4 _, grown_at (World.grownBy.refl _ _) 4 _⟩
      have d2 : (n != s.window) = true := by simpa using d'
      have d3 : (n == s.window) = false := by simpa using d'
      clear h ok d d' l
      go_enter Try.func20, Try.ntmps20
      go_wp2
      refine bodyPost_end (results_none rfl _ _ _) rfl ?_
      exact ⟨rfl, unhide F⟩
  · have F : Hid (IB 64 w b (agI n s) ∧ w.grownBy w (some b)) := by unfold agI; rw [if_neg (fun c => d c.1)]; exact ⟨h, World.grownBy.refl _ _⟩
    have d1 : (n == s.limit) = false := by simpa using d
    clear h ok d
    go_enter Try.func20, Try.ntmps20
    go_wp2
    refine bodyPost_end (results_none rfl _ _ _) rfl ?_
    exact ⟨rfl, unhide F⟩

theorem Try.sizeIV : (Try.prog.info? 54).map (·.size) = some 4 := by kernel_rfl
def ivc (s : Ind) : Array Value := #[.int .i64 s.limit, .int .i64 s.taken, .int .i64 s.consumed, .int .i64 s.window]
theorem iview_any (b : Nat) (s : Ind) (w : World) (h : IB 64 w b s) : Calls Try.prog 21 #[ptr b] w fun e w' => e = .returned (.agg (ivc s)) ∧ w.grownBy w' none := by
  have h0 : IB 64 (w.alloc (.cells #[.int .i64 0, .int .i64 0, .int .i64 0, .int .i64 0] 54)) b s := h.alloc _
  obtain ⟨t, c0, c1, c2, c3, c4⟩ := h0.full
  have F := hide (And.intro (Blk.new w (ivc s) 54) (World.grownBy_alloc w (.cells (ivc s) 54) none))
  clear h h0
  unfold ivc at *
  generalize s.limit = l at *
  generalize s.taken = m at *
  generalize s.consumed = v at *
  generalize s.window = u at *
  go_enter Try.func21, Try.ntmps21
  go_wp2
  go_region
  all_goals go_wp2
  all_goals refine bodyPost_ret (results_cell_row rfl _ _ w.heap.size 54 _ (0, 0) _ rfl (unhide F).1 Try.underlying54 rfl Try.sizeIV) rfl ?_
  all_goals exact ⟨rfl, grown_drew' (unhide F).2⟩

theorem rtake_any (b : Nat) (s : Ind) (n : Int) (w : World) (h : IB 66 w b s) (ok : s.Ok) : Calls Try.prog 32 #[ptr b, .int .i64 n] w fun e w' => e = .returned (.int .i64 (takeE n s)) ∧ IB 66 w' b (takeF n s) ∧ w.grownBy w' (some b) := by
  obtain ⟨t, c0, c1, c2, c3, c4⟩ := h.full
  have l := ok.l
  have u := ok.t
  have v := ok.c
  have i1 : IntKind.i64.wrap (s.limit - s.taken) = s.limit - s.taken := by rw [IntKind.wrap_i64]; omega
  by_cases d : n < 0
  · have E : Hid (takeE n s = 1) := by show _ = _; unfold takeE; rw [if_pos d]
    have F : Hid (IB 66 w b (takeF n s) ∧ w.grownBy w (some b)) := by unfold takeF; rw [if_pos (Or.inl d)]; exact ⟨h, World.grownBy.refl _ _⟩
    clear h ok
    go_enter Try.func32, Try.ntmps32
    go_wp2
    go_ret
    exact ⟨ret_eq E, unhide F⟩
  · by_cases d' : s.limit - s.taken < n
    · have E : Hid (takeE n s = 170) := by show _ = _; unfold takeE; rw [if_neg d, if_pos d']
      have F : Hid (∀ q : Nat, IB 66 (w.drewN q) b (takeF n s) ∧ w.grownBy (w.drewN q) (some b)) := by unfold takeF; rw [if_pos (Or.inr d')]; exact fun q => ⟨h, drewSN (World.grownBy.refl _ _) q⟩
      clear h ok
      go_enter Try.func32, Try.ntmps32
      go_wp2
      go_quiet (fail)
      go_wp2
      go_ret
      exact ⟨ret_eq E, unhide F _⟩
    · have E : Hid (takeE n s = 0) := by show _ = _; unfold takeE; rw [if_neg d, if_neg d']
      have F : Hid (∀ q : Nat, IB 66 ((w.drewN q).setCell ⟨b, 2, none⟩ (.int .i64 (s.taken + n))) b (takeF n s) ∧ w.grownBy ((w.drewN q).setCell ⟨b, 2, none⟩ (.int .i64 (s.taken + n))) (some b)) := by unfold takeF; rw [if_neg (by omega)]; exact fun q => ⟨Blk.setC (show Blk (w.drewN q) b (ic s) _ from h) 2 _, grown_at (drewSN (World.grownBy.refl _ _) q) 2 _⟩
      have i2 : IntKind.i64.wrap (s.taken + n) = s.taken + n := by rw [IntKind.wrap_i64]; omega
      clear h ok
      go_enter Try.func32, Try.ntmps32
      go_wp2
      go_quiet (fail)
      go_wp2
      go_ret
      exact ⟨ret_eq E, unhide F _⟩

theorem rcons_any (b : Nat) (s : Ind) (n : Int) (w : World) (h : IB 66 w b s) (ok : s.Ok) : Calls Try.prog 33 #[ptr b, .int .i64 n] w fun e w' => e = .returned (.int .i64 (consE n s)) ∧ IB 66 w' b (consF n s) ∧ w.grownBy w' (some b) := by
  obtain ⟨t, c0, c1, c2, c3, c4⟩ := h.full
  have l := ok.l
  have u := ok.t
  have v := ok.c
  have i1 : IntKind.i64.wrap (s.taken - s.consumed) = s.taken - s.consumed := by rw [IntKind.wrap_i64]; omega
  by_cases d : n < 0
  · have E : Hid (consE n s = 1) := by show _ = _; unfold consE; rw [if_pos (Or.inl d)]
    have F : Hid (∀ q : Nat, IB 66 (w.drewN q) b (consF n s) ∧ w.grownBy (w.drewN q) (some b)) := by unfold consF; rw [if_pos (Or.inl d)]; exact fun q => ⟨h, drewSN (World.grownBy.refl _ _) q⟩
    have d1 : decide (n < 0) = true := decide_eq_true d
    clear h ok
    go_enter Try.func33, Try.ntmps33
    go_wp2
    go_quiet (fail)
    go_wp2
    go_ret
    exact ⟨ret_eq E, unhide F _⟩
  · have d1 : decide (n < 0) = false := decide_eq_false d
    by_cases d' : s.taken - s.consumed < n
    · have E : Hid (consE n s = 1) := by show _ = _; unfold consE; rw [if_pos (Or.inr d')]
      have F : Hid (∀ q : Nat, IB 66 (w.drewN q) b (consF n s) ∧ w.grownBy (w.drewN q) (some b)) := by unfold consF; rw [if_pos (Or.inr d')]; exact fun q => ⟨h, drewSN (World.grownBy.refl _ _) q⟩
      have d2 : decide (s.taken - s.consumed < n) = true := decide_eq_true d'
      clear h ok
      go_enter Try.func33, Try.ntmps33
      go_wp2
      go_quiet (fail)
      go_wp2
      go_ret
      exact ⟨ret_eq E, unhide F _⟩
    · have E : Hid (consE n s = 0) := by show _ = _; unfold consE; rw [if_neg (by omega)]
      have F : Hid (∀ q : Nat, IB 66 ((w.drewN q).setCell ⟨b, 3, none⟩ (.int .i64 (s.consumed + n))) b (consF n s) ∧ w.grownBy ((w.drewN q).setCell ⟨b, 3, none⟩ (.int .i64 (s.consumed + n))) (some b)) := by unfold consF; rw [if_neg (by omega)]; exact fun q => ⟨Blk.setC (show Blk (w.drewN q) b (ic s) _ from h) 3 _, grown_at (drewSN (World.grownBy.refl _ _) q) 3 _⟩
      have i2 : IntKind.i64.wrap (s.consumed + n) = s.consumed + n := by rw [IntKind.wrap_i64]; omega
      have d2 : decide (s.taken - s.consumed < n) = false := decide_eq_false d'
      clear h ok
      go_enter Try.func33, Try.ntmps33
      go_wp2
      go_quiet (fail)
      go_wp2
      go_ret
      exact ⟨ret_eq E, unhide F _⟩

theorem rnext_any (b : Nat) (s : Ind) (w : World) (h : IB 66 w b s) (ok : s.Ok) : Calls Try.prog 39 #[ptr b] w fun e w' => e = .returned (.int .i64 (nextF s)) ∧ ∃ q, w' = w.drewN q := by
  obtain ⟨t, c0, c1, c2, c3, c4⟩ := h.full
  have l := ok.w
  have u := ok.l
  have v := ok.c
  have v2 := ok.t
  have i1 : IntKind.i64.wrap (s.consumed + s.window) = s.consumed + s.window := by rw [IntKind.wrap_i64]; omega
  have i2 : IntKind.i64.wrap (4611686018427387903 - s.window) = 4611686018427387903 - s.window := by rw [IntKind.wrap_i64]; omega
  have E : Hid (∀ y, y = min (s.consumed + s.window) 4611686018427387903 → nextF s = y) := by rintro y rfl; rfl
  clear h ok
  generalize s.consumed = C at *
  generalize s.window = D at *
  by_cases d : 4611686018427387903 - D < C
  · go_enter Try.func39, Try.ntmps39
    go_wp2
    go_quiet (fail)
    go_wp2
    go_ret
    exact ⟨ret_eq (E _ (by omega)), _, rfl⟩
  · go_enter Try.func39, Try.ntmps39
    go_wp2
    go_quiet (fail)
    go_wp2
    go_quiet (fail)
    go_wp2
    go_ret
    exact ⟨ret_eq (E _ (by omega)), _, by first | rfl | (rw [World.drewN_drewN])⟩

theorem ragi_any (b : Nat) (s : Ind) (n : Int) (w : World) (h : IB 66 w b s) (ok : s.Ok) : Calls Try.prog 35 #[ptr b, .int .i64 n] w fun e w' => e = .returned (.tuple #[]) ∧ IB 66 w' b (agI n s) ∧ w.grownBy w' (some b) := by
  obtain ⟨t, c0, c1, c2, c3, c4⟩ := h.full
  have l := ok.l
  by_cases d : n = s.limit
  · have d1 : (n == s.limit) = true := by simpa using d
    by_cases d' : n = s.window
    · have F : Hid (IB 66 w b (agI n s) ∧ w.grownBy w (some b)) := by unfold agI; rw [if_neg (fun c => c.2 d')]; exact ⟨h, World.grownBy.refl _ _⟩
      have d2 : decide (s.window < n) = false := decide_eq_false (by omega)
      have d3 : ¬ s.window < n := by omega
      clear h ok d d' l
      go_enter Try.func35, Try.ntmps35
      go_wp2
      refine bodyPost_end (results_none rfl _ _ _) rfl ?_
      exact ⟨rfl, unhide F⟩
    · have F : Hid (IB 66 (w.setCell ⟨b, 4, none⟩ (.bool true)) b (agI n s) ∧ w.grownBy (w.setCell ⟨b, 4, none⟩ (.bool true)) (some b)) := by unfold agI; rw [if_pos ⟨d, d'⟩]; exact ⟨Blk.setC (show Blk w b (ic s) _ from h) 4 _, grown_at (World.grownBy.refl _ _) 4 _⟩
      have d2 : decide (s.window < n) = true := decide_eq_true (by omega)
      have d3 : s.window < n := by omega
      clear h ok d d' l
      go_enter Try.func35, Try.ntmps35
      go_wp2
      refine bodyPost_end (results_none rfl _ _ _) rfl ?_
      exact ⟨rfl, unhide F⟩
  · have F : Hid (IB 66 w b (agI n s) ∧ w.grownBy w (some b)) := by unfold agI; rw [if_neg (fun c => d c.1)]; exact ⟨h, World.grownBy.refl _ _⟩
    have d1 : (n == s.limit) = false := by simpa using d
    clear h ok d
    go_enter Try.func35, Try.ntmps35
    go_wp2
    refine bodyPost_end (results_none rfl _ _ _) rfl ?_
    exact ⟨rfl, unhide F⟩

end Go.Proofs.Ytgmjminpgliilaa
