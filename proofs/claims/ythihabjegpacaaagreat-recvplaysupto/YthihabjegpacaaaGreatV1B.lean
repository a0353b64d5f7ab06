/- The document's Recv: New, rise, Raise, Break. -/
import Derived.Test.YthihabjegpacaaaGreatV1A
import Derived.BigQuiet
namespace Go.Proofs.YthihabjegpacaaaGreat
open Go.RowKit
set_option linter.unusedVariables false
set_option maxRecDepth 100000
set_option maxHeartbeats 4000000

theorem grown_atS {w : World} (r j : Nat) (x : Value) : w.grownBy (w.setCell ⟨r, j, none⟩ x) (some r) := by
  refine ⟨rfl, rfl, rfl, by rw [set_size]; exact Nat.le_refl _, fun i hi hn => set_heap w r j x i (fun e => hn (by rw [e]))⟩
theorem grown_trS {a b c : World} {r : Nat} (h : a.grownBy b (some r)) (k : b.grownBy c (some r)) : a.grownBy c (some r) := gr_far h k
theorem grown_wkS {a b : World} {r : Nat} (h : a.grownBy b none) : a.grownBy b (some r) := ⟨h.os, h.tape, h.output, h.size, fun i hi _ => h.block i hi (by simp)⟩

theorem rnew_ok (limit : Int) (w : World) (hc : 0 ≤ limit ∧ limit ≤ 4611686018427387903) : Calls Tryz.prog 6 #[.int .i64 limit] w fun e W' => e = .returned (.tuple #[ptr w.heap.size, .int .i64 0]) ∧ DR W' w.heap.size none 0 (newRv limit) [] ∧ w.grownBy W' none := by
  have n1 : ¬ limit < 0 := by omega
  have n2 : ¬ (4611686018427387903 : Int) < limit := by omega
  have F : Hid (DR (w.alloc (.cells #[.int .i64 limit, .int .i64 0, .int .i64 0, .int .i64 (-1), .slice none 0 0, .bool false, .bool false] 56)) w.heap.size none 0 (newRv limit) [] ∧ w.grownBy (w.alloc (.cells #[.int .i64 limit, .int .i64 0, .int .i64 0, .int .i64 (-1), .slice none 0 0, .bool false, .bool false] 56)) none) := ⟨⟨Blk.new _ _ _, rdh_nil _, ⟨List.Pairwise.nil, fun x h => (by cases h), fun x y _ h => (by cases h)⟩⟩, grown_alloc _ _⟩
  clear hc
  go_enter Tryz.func6, Tryz.ntmps6
  go_wp2
  go_ret2
  exact ⟨rfl, unhide F⟩
theorem rnew_no (limit : Int) (w : World) (hc : ¬ (0 ≤ limit ∧ limit ≤ 4611686018427387903)) : Calls Tryz.prog 6 #[.int .i64 limit] w fun e W' => e = .returned (.tuple #[.pointer none, .int .i64 1]) ∧ W' = w := by
  by_cases n1 : limit < 0
  · clear hc
    go_enter Tryz.func6, Tryz.ntmps6
    go_wp2
    go_ret2
    exact ⟨rfl, rfl⟩
  · have n2 : (4611686018427387903 : Int) < limit := by omega
    clear hc
    go_enter Tryz.func6, Tryz.ntmps6
    go_wp2
    go_ret2
    exact ⟨rfl, rfl⟩

section
variable {W : World} {r : Nat} {a : Option Addr} {c : Nat} {S : Rv} {H : List Hd}
theorem rrise_any (h : DR W r a c S H) (t : Int) (hh : 0 ≤ S.high ∧ S.high ≤ 4611686018427387903) (ht : 0 ≤ t ∧ t ≤ 4611686018427387903) :
    Calls Tryz.prog 38 #[ptr r, .int .i64 t] W fun e W' => e = .returned (.int .i64 (riseN S t)) ∧ DR W' r a c { S with high := max S.high t } H ∧ W.grownBy W' (some r) := by
  obtain ⟨th, c0, c1, c2, c3, c4, c5, c6⟩ := h.cells
  by_cases d : t ≤ S.high
  · have E : Hid (riseN S t = 0) := by show _ = _; unfold riseN; omega
    have F : Hid (DR W r a c { S with high := max S.high t } H ∧ W.grownBy W (some r)) := ⟨by rw [show max S.high t = S.high by omega]; exact h, World.grownBy.refl _ _⟩
    clear h
    go_enter Tryz.func38, Tryz.ntmps38
    go_wp2
    go_ret
    exact ⟨by rw [unhide E]; rfl, unhide F⟩
  · have E : Hid (riseN S t = t - S.high) := by show _ = _; unfold riseN; omega
    have F : Hid (DR (W.setCell ⟨r, 2, none⟩ (.int .i64 t)) r a c { S with high := max S.high t } H ∧ W.grownBy (W.setCell ⟨r, 2, none⟩ (.int .i64 t)) (some r)) := ⟨h.put 2 _ (by rw [show max S.high t = t by omega]; rfl) (h.ish.same rfl rfl), grown_atS _ _ _⟩
    have i1 : IntKind.i64.wrap (t - S.high) = t - S.high := by rw [IntKind.wrap_i64]; omega
    clear h
    go_enter Tryz.func38, Tryz.ntmps38
    go_wp2
    go_ret
    exact ⟨by rw [unhide E]; rfl, unhide F⟩
theorem rraise_any (h : DR W r a c S H) (l : Int) (hl : S.limit ≤ 4611686018427387903) :
    Calls Tryz.prog 19 #[ptr r, .int .i64 l] W fun e W' => e = .returned (.tuple #[]) ∧ DR W' r a c (raiseS S l) H ∧ W.grownBy W' (some r) := by
  obtain ⟨th, c0, c1, c2, c3, c4, c5, c6⟩ := h.cells
  have FM : Hid (∀ m, m = min l 4611686018427387903 → S.limit < m → DR (W.setCell ⟨r, 0, none⟩ (.int .i64 m)) r a c (raiseS S l) H ∧ W.grownBy (W.setCell ⟨r, 0, none⟩ (.int .i64 m)) (some r)) := fun m hm hs => ⟨h.put 0 _ (by unfold raiseS; rw [show max S.limit (min l 4611686018427387903) = m by omega]; rfl) (h.ish.same rfl rfl), grown_atS _ _ _⟩
  have FN : Hid (∀ m, m = min l 4611686018427387903 → ¬ S.limit < m → DR W r a c (raiseS S l) H ∧ W.grownBy W (some r)) := fun m hm hs => ⟨by unfold raiseS; rw [show max S.limit (min l 4611686018427387903) = S.limit by omega]; exact h, World.grownBy.refl _ _⟩
  clear h
  by_cases d : (4611686018427387903 : Int) < l
  · have em : 4611686018427387903 = min l 4611686018427387903 := by omega
    by_cases d' : S.limit < 4611686018427387903
    · have K := hide (unhide FM _ em d')
      clear FM FN em
      go_enter Tryz.func19, Tryz.ntmps19
      go_wp2
      refine bodyPost_end (results_none rfl _ _ _) rfl ?_
      exact ⟨rfl, unhide K⟩
    · have K := hide (unhide FN _ em d')
      clear FM FN em
      go_enter Tryz.func19, Tryz.ntmps19
      go_wp2
      refine bodyPost_end (results_none rfl _ _ _) rfl ?_
      exact ⟨rfl, unhide K⟩
  · have em : l = min l 4611686018427387903 := by omega
    by_cases d' : S.limit < l
    · have K := hide (unhide FM _ em d')
      clear FM FN em
      go_enter Tryz.func19, Tryz.ntmps19
      go_wp2
      refine bodyPost_end (results_none rfl _ _ _) rfl ?_
      exact ⟨rfl, unhide K⟩
    · have K := hide (unhide FN _ em d')
      clear FM FN em
      go_enter Tryz.func19, Tryz.ntmps19
      go_wp2
      refine bodyPost_end (results_none rfl _ _ _) rfl ?_
      exact ⟨rfl, unhide K⟩

/-- What is held, once it is broken off. -/
theorem ish_drop {S : Rv} : IsH { (dropS S) with high := S.high } [] := ⟨List.Pairwise.nil, fun x h => (by cases h), fun x y hx h => by
  have h2 : (if x < S.read then S.T x else none) = some y := h
  rw [if_neg (by have : S.read ≤ x := hx; omega)] at h2
  cases h2⟩
theorem rbreak_any (h : DR W r a c S H) (hok : RvOk S) (f : Int) :
    Calls Tryz.prog 21 #[ptr r, .int .i64 f] W fun e W' => e = .returned (.tuple #[.int .i64 (resetN S f), .int .i64 (resetE S f)]) ∧ ∃ a' c' H', DR W' r a' c' (resetS S f) H' ∧ W.grownBy W' (some r) ∧ H'.length ≤ H.length ∧ NwH W a H a' H' := by
  obtain ⟨th, c0, c1, c2, c3, c4, c5, c6⟩ := h.cells
  have hf := hok.fin; have hhl := hok.hl; have hlm := hok.lm; have hr0 := hok.r0; have hrh := hok.rh
  have no : ∀ k, resetE S f = k → k ≠ 0 → Hid ((resetN S f = 0 ∧ resetE S f = k) ∧ ∃ a' c' H', DR W r a' c' (resetS S f) H' ∧ W.grownBy W (some r) ∧ H'.length ≤ H.length ∧ NwH W a H a' H') := fun k e hk => ⟨⟨by unfold resetN; rw [if_neg (by rw [e]; exact hk)], e⟩, a, c, H, by unfold resetS; rw [if_neg (by rw [e]; exact hk)]; exact h, World.grownBy.refl _ _, Nat.le_refl _, nwh_refl _ _ _⟩
  by_cases d1 : f < 0
  · have K := no 1 (by unfold resetE; rw [if_pos (Or.inl d1)]) (by decide)
    clear no h
    go_enter Tryz.func21, Tryz.ntmps21
    go_wp2
    go_ret2
    exact ⟨by rw [(unhide K).1.1, (unhide K).1.2]; rfl, (unhide K).2⟩
  · by_cases d2 : (4611686018427387903 : Int) < f
    · have K := no 1 (by unfold resetE; rw [if_pos (Or.inr d2)]) (by decide)
      clear no h
      go_enter Tryz.func21, Tryz.ntmps21
      go_wp2
      go_ret2
      exact ⟨by rw [(unhide K).1.1, (unhide K).1.2]; rfl, (unhide K).2⟩
    · by_cases d3 : S.limit < f
      · have K := no 160 (by unfold resetE; rw [if_neg (by omega), if_pos d3]) (by decide)
        clear no h
        go_enter Tryz.func21, Tryz.ntmps21
        go_wp2
        go_ret2
        exact ⟨by rw [(unhide K).1.1, (unhide K).1.2]; rfl, (unhide K).2⟩
      · have hE : Hid (resetE S f = if againstB S f true = true then 161 else 0) := by show _ = _; unfold resetE; rw [if_neg (by omega), if_neg d3]
        by_cases d4 : 0 ≤ S.final ∧ S.final ≠ f
        · have d5 : decide (0 ≤ S.final) = true := decide_eq_true d4.1
          have d6 : (S.final != f) = true := by simpa using d4.2
          have K := no 161 (by
            rw [unhide hE, if_pos]
            unfold againstB
            simp only [Bool.or_eq_true, Bool.and_eq_true, decide_eq_true_eq]
            have := d4.2
            by_cases q : S.final < f
            · exact .inl ⟨d4.1, q⟩
            · exact .inr ⟨trivial, by omega⟩) (by decide)
          have d7 := d4.1
          clear no h d4
          go_enter Tryz.func21, Tryz.ntmps21
          go_wp2
          go_ret2
          exact ⟨by rw [(unhide K).1.1, (unhide K).1.2]; rfl, (unhide K).2⟩
        · by_cases d5 : f < S.high
          · have K := no 161 (by
              rw [unhide hE, if_pos]
              unfold againstB
              simp only [Bool.or_eq_true, Bool.and_eq_true, decide_eq_true_eq]
              exact .inr ⟨trivial, d5⟩) (by decide)
            clear no h
            by_cases d6 : 0 ≤ S.final
            · have d7 : (S.final != f) = false := by simp; omega
              clear d4
              go_enter Tryz.func21, Tryz.ntmps21
              go_wp2
              go_ret2
              exact ⟨by rw [(unhide K).1.1, (unhide K).1.2]; rfl, (unhide K).2⟩
            · clear d4
              go_enter Tryz.func21, Tryz.ntmps21
              go_wp2
              go_ret2
              exact ⟨by rw [(unhide K).1.1, (unhide K).1.2]; rfl, (unhide K).2⟩
          · have hE0 : resetE S f = 0 := by
              rw [unhide hE, if_neg]
              unfold againstB
              simp only [Bool.or_eq_true, Bool.and_eq_true, decide_eq_true_eq, not_or, not_and]
              exact ⟨fun q => by have : ¬ S.final ≠ f := fun e => d4 ⟨q, e⟩; omega, fun _ => by omega⟩
            have eN : Hid (resetN S f = riseN S f ∧ resetE S f = 0) := ⟨by unfold resetN; rw [if_pos hE0], hE0⟩
            have eS : Hid (resetS S f = resetG S f) := by show _ = _; unfold resetS; rw [if_pos hE0]
            have hrise := rrise_any h f ⟨by omega, by omega⟩ ⟨by omega, by omega⟩
            have HI := hide h.ish
            clear no h hE0
            have tail : Hid (∀ X, DR X r a c { S with high := max S.high f } H → X.frozen? ⟨r, 3, none⟩ = false ∧ X.frozen? ⟨r, 6, none⟩ = false ∧ X.frozen? ⟨r, 4, none⟩ = false ∧ DR (X.setCell ⟨r, 3, none⟩ (.int .i64 f)) r a c { S with high := max S.high f, final := f } H) := fun X hX => ⟨hX.blk.thaw 3, hX.blk.thaw 6, hX.blk.thaw 4, hX.put 3 _ rfl (hX.ish.same rfl rfl)⟩
            cases he : S.ended with
            | true =>
              have eG : Hid (resetG S f = { S with high := max S.high f, final := f }) := by show _ = _; unfold resetG; rw [if_pos he]
              by_cases d6 : 0 ≤ S.final
              · have d7 : (S.final != f) = false := by simp; omega
                clear d4
                go_enter Tryz.func21, Tryz.ntmps21
                go_wp2_with fail
                refine hrise.mono ?_
                rintro e X ⟨rfl, hX, gX⟩
                obtain ⟨t3, -, -, hY⟩ := unhide tail X hX
                obtain ⟨-, -, -, -, x3, -, x5, -⟩ := hX.cells
                have y5 : (X.setCell ⟨r, 3, none⟩ (.int .i64 f)).cell? ⟨r, 5, none⟩ = some (.bool true) := by rw [← he]; exact hY.cells.2.2.2.2.2.2.1
                have Q := hide (And.intro hY (grown_trS gX (grown_atS r 3 (.int .i64 f))))
                clear hX gX hY hrise tail
                generalize riseN S f = RN at *
                go_wp2_with fail
                go_ret2
                exact ⟨by rw [(unhide eN).1, (unhide eN).2]; rfl, a, c, H, by rw [unhide eS, unhide eG]; exact (unhide Q).1, (unhide Q).2, Nat.le_refl _, nwh_refl _ _ _⟩
              · clear d4
                go_enter Tryz.func21, Tryz.ntmps21
                go_wp2_with fail
                refine hrise.mono ?_
                rintro e X ⟨rfl, hX, gX⟩
                obtain ⟨t3, -, -, hY⟩ := unhide tail X hX
                obtain ⟨-, -, -, -, x3, -, x5, -⟩ := hX.cells
                have y5 : (X.setCell ⟨r, 3, none⟩ (.int .i64 f)).cell? ⟨r, 5, none⟩ = some (.bool true) := by rw [← he]; exact hY.cells.2.2.2.2.2.2.1
                have Q := hide (And.intro hY (grown_trS gX (grown_atS r 3 (.int .i64 f))))
                clear hX gX hY hrise tail
                generalize riseN S f = RN at *
                go_wp2_with fail
                go_ret2
                exact ⟨by rw [(unhide eN).1, (unhide eN).2]; rfl, a, c, H, by rw [unhide eS, unhide eG]; exact (unhide Q).1, (unhide Q).2, Nat.le_refl _, nwh_refl _ _ _⟩
            | false =>
              have eG : Hid (resetG S f = { dropS S with high := max S.high f, final := f }) := by show _ = _; unfold resetG; rw [he]; rfl
              have fin : Hid (∀ Y, DR Y r a c { S with high := max S.high f, final := f } H → DR ((Y.setCell ⟨r, 6, none⟩ (.bool true)).setCell ⟨r, 4, none⟩ (.slice none 0 0)) r none 0 { dropS S with high := max S.high f, final := f } [] ∧ Y.grownBy ((Y.setCell ⟨r, 6, none⟩ (.bool true)).setCell ⟨r, 4, none⟩ (.slice none 0 0)) (some r) ∧ Y.cell? ⟨r, 6, none⟩ = some (.bool S.reset) ∧ (Y.setCell ⟨r, 6, none⟩ (.bool true)).cell? ⟨r, 4, none⟩ = some (.slice a H.length c) ∧ Y.frozen? ⟨r, 6, none⟩ = false ∧ (Y.setCell ⟨r, 6, none⟩ (.bool true)).frozen? ⟨r, 4, none⟩ = false) := fun Y hY => by
                have b1 := hY.blk.setC 6 (.bool true)
                have b2 := b1.setC 4 (.slice none 0 0)
                refine ⟨⟨b2, rdh_nil _, ⟨List.Pairwise.nil, fun x h => (by cases h), fun x y hx h => ?_⟩⟩, grown_trS (grown_atS _ _ _) (grown_atS _ _ _), hY.cells.2.2.2.2.2.2.2, b1.cell 4 _ rfl, hY.blk.thaw 6, b1.thaw 4⟩
                have h2 : (if x < S.read then S.T x else none) = some y := h
                rw [if_neg (by have : S.read ≤ x := hx; omega)] at h2
                cases h2
              by_cases d6 : 0 ≤ S.final
              · have d7 : (S.final != f) = false := by simp; omega
                clear d4
                go_enter Tryz.func21, Tryz.ntmps21
                go_wp2_with fail
                refine hrise.mono ?_
                rintro e X ⟨rfl, hX, gX⟩
                obtain ⟨t3, -, -, hY⟩ := unhide tail X hX
                obtain ⟨-, -, -, -, x3, -, x5, -⟩ := hX.cells
                have y5 : (X.setCell ⟨r, 3, none⟩ (.int .i64 f)).cell? ⟨r, 5, none⟩ = some (.bool false) := by rw [← he]; exact hY.cells.2.2.2.2.2.2.1
                obtain ⟨q1, q2, q3, q4, q5, q6⟩ := unhide fin _ hY
                have Q := hide (And.intro q1 (grown_trS gX (grown_trS (grown_atS r 3 (.int .i64 f)) q2)))
                clear hX gX hY hrise tail fin q1 q2
                generalize riseN S f = RN at *
                go_wp2_with fail
                go_ret2
                exact ⟨by rw [(unhide eN).1, (unhide eN).2]; rfl, none, 0, [], by rw [unhide eS, unhide eG]; exact (unhide Q).1, (unhide Q).2, Nat.zero_le _, nwh_nil _ _ _ _⟩
              · clear d4
                go_enter Tryz.func21, Tryz.ntmps21
                go_wp2_with fail
                refine hrise.mono ?_
                rintro e X ⟨rfl, hX, gX⟩
                obtain ⟨t3, -, -, hY⟩ := unhide tail X hX
                obtain ⟨-, -, -, -, x3, -, x5, -⟩ := hX.cells
                have y5 : (X.setCell ⟨r, 3, none⟩ (.int .i64 f)).cell? ⟨r, 5, none⟩ = some (.bool false) := by rw [← he]; exact hY.cells.2.2.2.2.2.2.1
                obtain ⟨q1, q2, q3, q4, q5, q6⟩ := unhide fin _ hY
                have Q := hide (And.intro q1 (grown_trS gX (grown_trS (grown_atS r 3 (.int .i64 f)) q2)))
                clear hX gX hY hrise tail fin q1 q2
                generalize riseN S f = RN at *
                go_wp2_with fail
                go_ret2
                exact ⟨by rw [(unhide eN).1, (unhide eN).2]; rfl, none, 0, [], by rw [unhide eS, unhide eG]; exact (unhide Q).1, (unhide Q).2, Nat.zero_le _, nwh_nil _ _ _ _⟩
end
end Go.Proofs.YthihabjegpacaaaGreat
