/- Out: the program's and the document's. -/
import Derived.Test.YtgmjminpgliilaaC7A
namespace Go.Proofs.Ytgmjminpgliilaa
open Go.RowKit
set_option linter.unusedVariables false
set_option maxRecDepth 100000
set_option maxHeartbeats 1000000

theorem room_any (b : Nat) (s : Ou) (w : World) (h : OB 58 w b s) (ok : s.Ok) : Calls Try.prog 13 #[ptr b] w fun e w' => e = .returned (.int .i64 (s.limit - s.used)) ∧ ∃ q, w' = w.drewN q := by
  obtain ⟨t, c0, c1, c2⟩ := h.full
  have l := ok.l
  have u := ok.u
  have i1 : IntKind.i64.wrap (s.limit - s.used) = s.limit - s.used := by rw [IntKind.wrap_i64]; omega
  clear h ok
  go_enter Try.func13, Try.ntmps13
  go_wp2
  go_quiet (fail)
  go_wp2
  go_ret
  exact ⟨rfl, _, rfl⟩

theorem use_any (b : Nat) (s : Ou) (n : Int) (w : World) (h : OB 58 w b s) (ok : s.Ok) : Calls Try.prog 15 #[ptr b, .int .i64 n] w fun e w' => e = .returned (.int .i64 (useE n s)) ∧ OB 58 w' b (useF n s) ∧ w.grownBy w' (some b) := by
  have hr := room_any b s w h ok
  obtain ⟨t, c0, c1, c2⟩ := h.full
  have l := ok.l
  have u := ok.u
  have i1 : IntKind.i64.wrap (s.limit - s.used) = s.limit - s.used := by rw [IntKind.wrap_i64]; omega
  by_cases d : n < 0
  · have E : Hid (useE n s = 1) := by show _ = _; unfold useE; rw [if_pos d]
    have F : Hid (OB 58 w b (useF n s) ∧ w.grownBy w (some b)) := by unfold useF; rw [if_pos (Or.inl d)]; exact ⟨h, World.grownBy.refl _ _⟩
    clear h ok
    go_enter Try.func15, Try.ntmps15
    go_wp2
    go_ret
    exact ⟨ret_eq E, unhide F⟩
  · by_cases d' : s.limit - s.used < n
    · have E : Hid (useE n s = 170) := by show _ = _; unfold useE; rw [if_neg d, if_pos d']
      have F : Hid (∀ q : Nat, OB 58 (w.drewN q) b (useF n s) ∧ w.grownBy (w.drewN q) (some b)) := by unfold useF; rw [if_pos (Or.inr d')]; exact fun q => ⟨h, drewSN (World.grownBy.refl _ _) q⟩
      clear h ok
      go_enter Try.func15, Try.ntmps15
      go_wp2_with fail
      refine hr.mono ?_
      rintro e W ⟨rfl, q, rfl⟩
      go_wp2
      go_ret
      exact ⟨ret_eq E, unhide F _⟩
    · have E : Hid (useE n s = 0) := by show _ = _; unfold useE; rw [if_neg d, if_neg d']
      have F : Hid (∀ q : Nat, OB 58 ((w.drewN q).setCell ⟨b, 1, none⟩ (.int .i64 (s.used + n))) b (useF n s) ∧ w.grownBy ((w.drewN q).setCell ⟨b, 1, none⟩ (.int .i64 (s.used + n))) (some b)) := by unfold useF; rw [if_neg (by omega)]; exact fun q => ⟨Blk.setC (show Blk (w.drewN q) b (oc s) _ from h) 1 _, grown_at (drewSN (World.grownBy.refl _ _) q) 1 _⟩
      have i2 : IntKind.i64.wrap (s.used + n) = s.used + n := by rw [IntKind.wrap_i64]; omega
      clear h ok
      go_enter Try.func15, Try.ntmps15
      go_wp2_with fail
      refine hr.mono ?_
      rintro e W ⟨rfl, q, rfl⟩
      go_wp2
      go_ret
      exact ⟨ret_eq E, unhide F _⟩

theorem raise_any (b : Nat) (s : Ou) (n : Int) (w : World) (h : OB 58 w b s) (ok : s.Ok) : Calls Try.prog 19 #[ptr b, .int .i64 n] w fun e w' => e = .returned (.bool (raiseB n s)) ∧ OB 58 w' b (raiseF n s) ∧ w.grownBy w' (some b) := by
  obtain ⟨t, c0, c1, c2⟩ := h.full
  have l := ok.l
  have FM : Hid (∀ m, m = min n 4611686018427387903 → s.limit < m → (raiseB n s = true) ∧ OB 58 (w.setCell ⟨b, 0, none⟩ (.int .i64 m)) b (raiseF n s) ∧ w.grownBy (w.setCell ⟨b, 0, none⟩ (.int .i64 m)) (some b)) := by
    rintro m rfl hm
    unfold raiseB raiseF
    rw [if_pos hm, decide_eq_true hm]
    exact ⟨rfl, Blk.setC (show Blk w b (oc s) _ from h) 0 _, grown_at (World.grownBy.refl _ _) 0 _⟩
  have FN : Hid (∀ m, m = min n 4611686018427387903 → ¬ s.limit < m → (raiseB n s = false) ∧ OB 58 w b (raiseF n s) ∧ w.grownBy w (some b)) := by
    rintro m rfl hm
    unfold raiseB raiseF
    rw [if_neg hm, decide_eq_false hm]
    exact ⟨rfl, h, World.grownBy.refl _ _⟩
  clear h ok
  by_cases d : n ≤ 4611686018427387903
  · have d1 : ¬ (4611686018427387903 : Int) < n := by omega
    have em : n = min n 4611686018427387903 := by omega
    by_cases d' : s.limit < n
    · obtain ⟨k1, k2⟩ := unhide FM n em d'
      replace k1 := hide k1
      replace k2 := hide k2
      have d2 : ¬ n ≤ s.limit := by omega
      clear FM FN em
      go_enter Try.func19, Try.ntmps19
      go_wp2
      go_ret
      exact ⟨ret_beq' k1, unhide k2⟩
    · obtain ⟨k1, k2⟩ := unhide FN n em d'
      replace k1 := hide k1
      replace k2 := hide k2
      have d2 : n ≤ s.limit := by omega
      clear FM FN em
      go_enter Try.func19, Try.ntmps19
      go_wp2
      go_ret
      exact ⟨ret_beq' k1, unhide k2⟩
  · have d1 : (4611686018427387903 : Int) < n := by omega
    have em : 4611686018427387903 = min n 4611686018427387903 := by omega
    by_cases d' : s.limit < 4611686018427387903
    · obtain ⟨k1, k2⟩ := unhide FM _ em d'
      replace k1 := hide k1
      replace k2 := hide k2
      have d2 : ¬ 4611686018427387903 ≤ s.limit := by omega
      clear FM FN em
      go_enter Try.func19, Try.ntmps19
      go_wp2
      go_ret
      exact ⟨ret_beq' k1, unhide k2⟩
    · obtain ⟨k1, k2⟩ := unhide FN _ em d'
      replace k1 := hide k1
      replace k2 := hide k2
      have d2 : 4611686018427387903 ≤ s.limit := by omega
      clear FM FN em
      go_enter Try.func19, Try.ntmps19
      go_wp2
      go_ret
      exact ⟨ret_beq' k1, unhide k2⟩

theorem again_any (b : Nat) (s : Ou) (n : Int) (w : World) (h : OB 58 w b s) : Calls Try.prog 27 #[ptr b, .int .i64 n] w fun e w' => e = .returned (.tuple #[]) ∧ OB 58 w' b (agF n s) ∧ w.grownBy w' (some b) := by
  obtain ⟨t, c0, c1, c2⟩ := h.full
  by_cases d : n = s.told
  · have F : Hid (OB 58 (w.setCell ⟨b, 2, none⟩ (.int .i64 (-1))) b (agF n s) ∧ w.grownBy (w.setCell ⟨b, 2, none⟩ (.int .i64 (-1))) (some b)) := by unfold agF; rw [if_pos d]; exact ⟨Blk.setC (show Blk w b (oc s) _ from h) 2 _, grown_at (World.grownBy.refl _ _) 2 _⟩
    have d1 : (n == s.told) = true := by simpa using d
    clear h d
    go_enter Try.func27, Try.ntmps27
    go_wp2
    refine bodyPost_end (results_none rfl _ _ _) rfl ?_
    exact ⟨rfl, unhide F⟩
  · have F : Hid (OB 58 w b (agF n s) ∧ w.grownBy w (some b)) := by unfold agF; rw [if_neg d]; exact ⟨h, World.grownBy.refl _ _⟩
    have d1 : (n == s.told) = false := by simpa using d
    clear h d
    go_enter Try.func27, Try.ntmps27
    go_wp2
    refine bodyPost_end (results_none rfl _ _ _) rfl ?_
    exact ⟨rfl, unhide F⟩

theorem Try.sizeOV : (Try.prog.info? 61).map (·.size) = some 3 := by kernel_rfl
theorem oview_any (b : Nat) (s : Ou) (w : World) (h : OB 58 w b s) : Calls Try.prog 31 #[ptr b] w fun e w' => e = .returned (.agg (oc s)) ∧ w.grownBy w' none := by
  have h0 : OB 58 (w.alloc (.cells #[.int .i64 0, .int .i64 0, .int .i64 0] 61)) b s := h.alloc _
  obtain ⟨t, c0, c1, c2⟩ := h0.full
  have F := hide (And.intro (Blk.new w (oc s) 61) (World.grownBy_alloc w (.cells (oc s) 61) none))
  clear h h0
  unfold oc at *
  generalize s.limit = l at *
  generalize s.used = m at *
  generalize s.told = v at *
  go_enter Try.func31, Try.ntmps31
  go_wp2
  go_region
  all_goals go_wp2
  all_goals refine bodyPost_ret (results_cell_row rfl _ _ w.heap.size 61 _ (0, 0) _ rfl (unhide F).1 Try.underlying61 rfl Try.sizeOV) rfl ?_
  all_goals exact ⟨rfl, grown_drew' (unhide F).2⟩

abbrev fitsF (n : Int) : Prop := 0 ≤ n ∧ n ≤ 4611686018427387903
theorem may_any (n : Int) (w : World) : Calls Try.prog 23 #[.int .i64 n] w fun e w' => e = .returned (.bool (decide (fitsF n))) ∧ w' = w := by
  by_cases d : 0 ≤ n
  · by_cases d' : n ≤ 4611686018427387903
    · rw [decide_eq_true (show fitsF n from ⟨d, d'⟩)]
      go_enter Try.func23, Try.ntmps23
      go_wp2
      go_ret
      exact ⟨rfl, rfl⟩
    · rw [decide_eq_false (show ¬ fitsF n from fun c => d' c.2)]
      go_enter Try.func23, Try.ntmps23
      go_wp2
      go_ret
      exact ⟨rfl, rfl⟩
  · rw [decide_eq_false (show ¬ fitsF n from fun c => d c.1)]
    go_enter Try.func23, Try.ntmps23
    go_wp2
    go_ret
    exact ⟨rfl, rfl⟩
theorem onew_ok (n : Int) (h : fitsF n) (w : World) : Calls Try.prog 7 #[.int .i64 n] w fun e w' => e = .returned (.tuple #[ptr w.heap.size, .int .i64 0]) ∧ w' = w.alloc (.cells (oc ⟨n, 0, -1⟩) 58) := by
  have hm := may_any n w
  rw [decide_eq_true h] at hm
  clear h
  go_enter Try.func7, Try.ntmps7
  go_wp2_with fail
  refine hm.mono ?_
  rintro e W ⟨rfl, hW⟩
  replace hW := hW.symm
  subst hW
  go_wp2
  go_ret2
  exact ⟨rfl, rfl⟩
theorem onew_no (n : Int) (h : ¬ fitsF n) (w : World) : Calls Try.prog 7 #[.int .i64 n] w fun e w' => e = .returned (.tuple #[.pointer none, .int .i64 1]) ∧ w' = w := by
  have hm := may_any n w
  rw [decide_eq_false h] at hm
  clear h
  go_enter Try.func7, Try.ntmps7
  go_wp2_with fail
  refine hm.mono ?_
  rintro e W ⟨rfl, hW⟩
  replace hW := hW.symm
  subst hW
  go_wp2
  go_ret2
  exact ⟨rfl, rfl⟩
theorem inew_ok (n : Int) (h : fitsF n) (w : World) : Calls Try.prog 10 #[.int .i64 n] w fun e w' => e = .returned (.tuple #[ptr w.heap.size, .int .i64 0]) ∧ w' = w.alloc (.cells (ic ⟨n, n, 0, 0, false⟩) 64) := by
  have hm := may_any n w
  rw [decide_eq_true h] at hm
  clear h
  go_enter Try.func10, Try.ntmps10
  go_wp2_with fail
  refine hm.mono ?_
  rintro e W ⟨rfl, hW⟩
  replace hW := hW.symm
  subst hW
  go_wp2
  go_ret2
  exact ⟨rfl, rfl⟩
theorem inew_no (n : Int) (h : ¬ fitsF n) (w : World) : Calls Try.prog 10 #[.int .i64 n] w fun e w' => e = .returned (.tuple #[.pointer none, .int .i64 1]) ∧ w' = w := by
  have hm := may_any n w
  rw [decide_eq_false h] at hm
  clear h
  go_enter Try.func10, Try.ntmps10
  go_wp2_with fail
  refine hm.mono ?_
  rintro e W ⟨rfl, hW⟩
  replace hW := hW.symm
  subst hW
  go_wp2
  go_ret2
  exact ⟨rfl, rfl⟩
theorem ruse_any (b : Nat) (s : Ou) (n : Int) (w : World) (h : OB 60 w b s) (ok : s.Ok) : Calls Try.prog 24 #[ptr b, .int .i64 n] w fun e w' => e = .returned (.int .i64 (useE n s)) ∧ OB 60 w' b (useF n s) ∧ w.grownBy w' (some b) := by
  obtain ⟨t, c0, c1, c2⟩ := h.full
  have l := ok.l
  have u := ok.u
  have i1 : IntKind.i64.wrap (s.limit - s.used) = s.limit - s.used := by rw [IntKind.wrap_i64]; omega
  by_cases d : n < 0
  · have E : Hid (useE n s = 1) := by show _ = _; unfold useE; rw [if_pos d]
    have F : Hid (OB 60 w b (useF n s) ∧ w.grownBy w (some b)) := by unfold useF; rw [if_pos (Or.inl d)]; exact ⟨h, World.grownBy.refl _ _⟩
    clear h ok
    go_enter Try.func24, Try.ntmps24
    go_wp2
    go_ret
    exact ⟨ret_eq E, unhide F⟩
  · by_cases d' : s.limit - s.used < n
    · have E : Hid (useE n s = 170) := by show _ = _; unfold useE; rw [if_neg d, if_pos d']
      have F : Hid (∀ q : Nat, OB 60 (w.drewN q) b (useF n s) ∧ w.grownBy (w.drewN q) (some b)) := by unfold useF; rw [if_pos (Or.inr d')]; exact fun q => ⟨h, drewSN (World.grownBy.refl _ _) q⟩
      clear h ok
      go_enter Try.func24, Try.ntmps24
      go_wp2
      go_quiet (fail)
      go_wp2
      go_ret
      exact ⟨ret_eq E, unhide F _⟩
    · have E : Hid (useE n s = 0) := by show _ = _; unfold useE; rw [if_neg d, if_neg d']
      have F : Hid (∀ q : Nat, OB 60 ((w.drewN q).setCell ⟨b, 1, none⟩ (.int .i64 (s.used + n))) b (useF n s) ∧ w.grownBy ((w.drewN q).setCell ⟨b, 1, none⟩ (.int .i64 (s.used + n))) (some b)) := by unfold useF; rw [if_neg (by omega)]; exact fun q => ⟨Blk.setC (show Blk (w.drewN q) b (oc s) _ from h) 1 _, grown_at (drewSN (World.grownBy.refl _ _) q) 1 _⟩
      have i2 : IntKind.i64.wrap (s.used + n) = s.used + n := by rw [IntKind.wrap_i64]; omega
      clear h ok
      go_enter Try.func24, Try.ntmps24
      go_wp2
      go_quiet (fail)
      go_wp2
      go_ret
      exact ⟨ret_eq E, unhide F _⟩

theorem rraise_any (b : Nat) (s : Ou) (n : Int) (w : World) (h : OB 60 w b s) (ok : s.Ok) : Calls Try.prog 25 #[ptr b, .int .i64 n] w fun e w' => e = .returned (.bool (raiseB n s)) ∧ OB 60 w' b (raiseF n s) ∧ w.grownBy w' (some b) := by
  obtain ⟨t, c0, c1, c2⟩ := h.full
  have l := ok.l
  have FM : Hid (∀ m, m = min n 4611686018427387903 → s.limit < m → (raiseB n s = true) ∧ OB 60 (w.setCell ⟨b, 0, none⟩ (.int .i64 m)) b (raiseF n s) ∧ w.grownBy (w.setCell ⟨b, 0, none⟩ (.int .i64 m)) (some b)) := by
    rintro m rfl hm
    unfold raiseB raiseF
    rw [if_pos hm, decide_eq_true hm]
    exact ⟨rfl, Blk.setC (show Blk w b (oc s) _ from h) 0 _, grown_at (World.grownBy.refl _ _) 0 _⟩
  have FN : Hid (∀ m, m = min n 4611686018427387903 → ¬ s.limit < m → (raiseB n s = false) ∧ OB 60 w b (raiseF n s) ∧ w.grownBy w (some b)) := by
    rintro m rfl hm
    unfold raiseB raiseF
    rw [if_neg hm, decide_eq_false hm]
    exact ⟨rfl, h, World.grownBy.refl _ _⟩
  clear h ok
  by_cases d : n ≤ 4611686018427387903
  · have d1 : ¬ (4611686018427387903 : Int) < n := by omega
    have em : n = min n 4611686018427387903 := by omega
    by_cases d' : s.limit < n
    · obtain ⟨k1, k2⟩ := unhide FM n em d'
      replace k1 := hide k1
      replace k2 := hide k2
      have d2 : ¬ n ≤ s.limit := by omega
      clear FM FN em
      go_enter Try.func25, Try.ntmps25
      go_wp2
      go_ret
      exact ⟨ret_beq' k1, unhide k2⟩
    · obtain ⟨k1, k2⟩ := unhide FN n em d'
      replace k1 := hide k1
      replace k2 := hide k2
      have d2 : n ≤ s.limit := by omega
      clear FM FN em
      go_enter Try.func25, Try.ntmps25
      go_wp2
      go_ret
      exact ⟨ret_beq' k1, unhide k2⟩
  · have d1 : (4611686018427387903 : Int) < n := by omega
    have em : 4611686018427387903 = min n 4611686018427387903 := by omega
    by_cases d' : s.limit < 4611686018427387903
    · obtain ⟨k1, k2⟩ := unhide FM _ em d'
      replace k1 := hide k1
      replace k2 := hide k2
      have d2 : ¬ 4611686018427387903 ≤ s.limit := by omega
      clear FM FN em
      go_enter Try.func25, Try.ntmps25
      go_wp2
      go_ret
      exact ⟨ret_beq' k1, unhide k2⟩
    · obtain ⟨k1, k2⟩ := unhide FN _ em d'
      replace k1 := hide k1
      replace k2 := hide k2
      have d2 : 4611686018427387903 ≤ s.limit := by omega
      clear FM FN em
      go_enter Try.func25, Try.ntmps25
      go_wp2
      go_ret
      exact ⟨ret_beq' k1, unhide k2⟩

theorem ragain_any (b : Nat) (s : Ou) (n : Int) (w : World) (h : OB 60 w b s) : Calls Try.prog 28 #[ptr b, .int .i64 n] w fun e w' => e = .returned (.tuple #[]) ∧ OB 60 w' b (agF n s) ∧ w.grownBy w' (some b) := by
  obtain ⟨t, c0, c1, c2⟩ := h.full
  by_cases d : n = s.told
  · have F : Hid (OB 60 (w.setCell ⟨b, 2, none⟩ (.int .i64 (-1))) b (agF n s) ∧ w.grownBy (w.setCell ⟨b, 2, none⟩ (.int .i64 (-1))) (some b)) := by unfold agF; rw [if_pos d]; exact ⟨Blk.setC (show Blk w b (oc s) _ from h) 2 _, grown_at (World.grownBy.refl _ _) 2 _⟩
    have d1 : (n == s.told) = true := by simpa using d
    clear h d
    go_enter Try.func28, Try.ntmps28
    go_wp2
    refine bodyPost_end (results_none rfl _ _ _) rfl ?_
    exact ⟨rfl, unhide F⟩
  · have F : Hid (OB 60 w b (agF n s) ∧ w.grownBy w (some b)) := by unfold agF; rw [if_neg d]; exact ⟨h, World.grownBy.refl _ _⟩
    have d1 : (n == s.told) = false := by simpa using d
    clear h d
    go_enter Try.func28, Try.ntmps28
    go_wp2
    refine bodyPost_end (results_none rfl _ _ _) rfl ?_
    exact ⟨rfl, unhide F⟩

theorem ronew_ok (n : Int) (h : fitsF n) (w : World) : Calls Try.prog 8 #[.int .i64 n] w fun e w' => e = .returned (.tuple #[ptr w.heap.size, .int .i64 0]) ∧ w' = w.alloc (.cells (oc ⟨n, 0, -1⟩) 60) := by
  obtain ⟨h1, h2⟩ := h
  have n1 : ¬ n < 0 := by omega
  have n2 : ¬ (4611686018427387903 : Int) < n := by omega
  go_enter Try.func8, Try.ntmps8
  go_wp2
  go_ret2
  exact ⟨rfl, rfl⟩
theorem ronew_no (n : Int) (h : ¬ fitsF n) (w : World) : Calls Try.prog 8 #[.int .i64 n] w fun e w' => e = .returned (.tuple #[.pointer none, .int .i64 1]) ∧ w' = w := by
  by_cases n1 : n < 0
  · clear h
    go_enter Try.func8, Try.ntmps8
    go_wp2
    go_ret2
    exact ⟨rfl, rfl⟩
  · have n2 : (4611686018427387903 : Int) < n := by unfold fitsF at h; omega
    clear h
    go_enter Try.func8, Try.ntmps8
    go_wp2
    go_ret2
    exact ⟨rfl, rfl⟩
theorem rinew_ok (n : Int) (h : fitsF n) (w : World) : Calls Try.prog 11 #[.int .i64 n] w fun e w' => e = .returned (.tuple #[ptr w.heap.size, .int .i64 0]) ∧ w' = w.alloc (.cells (ic ⟨n, n, 0, 0, false⟩) 66) := by
  obtain ⟨h1, h2⟩ := h
  have n1 : ¬ n < 0 := by omega
  have n2 : ¬ (4611686018427387903 : Int) < n := by omega
  go_enter Try.func11, Try.ntmps11
  go_wp2
  go_ret2
  exact ⟨rfl, rfl⟩
theorem rinew_no (n : Int) (h : ¬ fitsF n) (w : World) : Calls Try.prog 11 #[.int .i64 n] w fun e w' => e = .returned (.tuple #[.pointer none, .int .i64 1]) ∧ w' = w := by
  by_cases n1 : n < 0
  · clear h
    go_enter Try.func11, Try.ntmps11
    go_wp2
    go_ret2
    exact ⟨rfl, rfl⟩
  · have n2 : (4611686018427387903 : Int) < n := by unfold fitsF at h; omega
    clear h
    go_enter Try.func11, Try.ntmps11
    go_wp2
    go_ret2
    exact ⟨rfl, rfl⟩
end Go.Proofs.Ytgmjminpgliilaa
