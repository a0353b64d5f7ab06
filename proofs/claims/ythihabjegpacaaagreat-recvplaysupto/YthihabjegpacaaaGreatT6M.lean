/- recv: own, end, against, rise, Raise, place, New. -/
import Derived.Test.YthihabjegpacaaaGreatT6L
import Derived.Laws.IdiomCopy
import Derived.BigQuiet
namespace Go.Proofs.YthihabjegpacaaaGreat
open Go.RowKit
set_option linter.unusedVariables false
set_option linter.unusedSimpArgs false
set_option maxHeartbeats 1000000
set_option maxRecDepth 100000

/-- Bytes into memory that is just as long. -/
theorem own_any (X : World) (ad : Addr) (n c : Nat) (p : List Int) (hp : ∀ j x, p[j]? = some x → X.cell? (ad.add j) = some (.int .u8 x)) (hn : p.length = n) (hb : n ≤ 281474976710656) (hlt : ∀ j, j < n → ad.block < X.heap.size) :
    Calls Tryz.prog 48 #[.slice (some ad) n c] X fun e Y => e = .returned (.slice (some ⟨X.heap.size, 0, none⟩) n n) ∧ Blk Y X.heap.size (by8 p) 5 ∧ X.grownBy Y none := by
  have hmk := mk_zeros n hb X
  obtain ⟨W1, hW1⟩ : ∃ W1, W1 = X.alloc (.cells (by8 (List.replicate n 0)) 5) := ⟨_, rfl⟩
  rw [← hW1] at hmk
  have hB1 : Blk W1 X.heap.size (by8 ([] ++ (List.replicate n 0 ++ []))) 5 := by rw [hW1]; simp only [List.nil_append, List.append_nil]; exact Blk.new _ _ _
  have hg1 : X.grownBy W1 none := by rw [hW1]; exact grown_alloc _ _
  have hcp := fun ty => run_copy8 W1 ty X.heap.size 0 n n ad n c [] (List.replicate n 0) [] p hB1 rfl (by simp [hn]) (by rw [hn]; exact (Nat.min_self n).symm) (fun j x hj => cell_grown (hp j x hj) hg1)
  have hB2 : Blk (W1.setRow X.heap.size (by8 ([] ++ (p ++ [])))) X.heap.size (by8 p) 5 := by have := hB1.row (by8 ([] ++ (p ++ []))); simpa using this
  have hg2 : X.grownBy (W1.setRow X.heap.size (by8 ([] ++ (p ++ [])))) none := grown_row hg1 _ _ (Nat.le_refl _)
  have FF : Hid (Blk (W1.setRow X.heap.size (by8 ([] ++ (p ++ [])))) X.heap.size (by8 p) 5 ∧ X.grownBy (W1.setRow X.heap.size (by8 ([] ++ (p ++ [])))) none) := ⟨hB2, hg2⟩
  obtain ⟨W2, hW2⟩ : ∃ W2, W2 = W1.setRow X.heap.size (by8 ([] ++ (p ++ []))) := ⟨_, rfl⟩
  simp only [← hW2] at hcp
  rw [← hW2] at FF
  clear hB1 hg1 hB2 hg2 hW1 hW2 hp hlt hn
  go_enter Tryz.func48, Tryz.ntmps48
  go_wp2_with (first | refine wpList_make_run _ rfl 36 _ _ rfl _ _ rfl rfl hmk ?_ | (at_builtin; refine wpList_copy_run _ rfl _ _ 36 36 rfl _ _ rfl rfl (hcp _) ?_))
  all_goals go_ret
  all_goals exact ⟨rfl, unhide FF⟩

theorem end_any (off : Int) (a : Option Addr) (n c : Nat) (X : World) (h : -9223372036854775808 ≤ off + n ∧ off + n ≤ 9223372036854775807) :
    Calls Tryz.prog 52 #[.agg #[.int .i64 off, .slice a n c]] X fun e Y => e = .returned (.int .i64 (off + n)) ∧ X.grownBy Y none := by
  have w1 : IntKind.i64.wrap (off + n) = off + n := by rw [IntKind.wrap_i64]; omega
  have G := hide (grown_alloc X (.cells #[.int .i64 off, .slice a n c] 88))
  go_enter Tryz.func52, Tryz.ntmps52
  go_wp2
  all_goals go_ret
  all_goals exact ⟨rfl, unhide G⟩

section
variable {w W : World} {M : Nat → Prop} {b bk : Nat} {vh : Value} {E : List He} {S : Rv}

theorem against_at (h : RA w M b bk vh E W S) (t : Int) (fin : Bool) : Calls Tryz.prog 27 #[ptr b, .int .i64 t, .bool fin] W fun e W' => e = .returned (.bool (againstB S t fin)) ∧ W' = W := by
  obtain ⟨-, -, c2, c3, -⟩ := h.cells
  obtain ⟨r, hr⟩ : ∃ r, r = againstB S t fin := ⟨_, rfl⟩
  rw [← hr]
  unfold againstB at hr
  clear h
  cases d1 : decide (0 ≤ S.final) <;> cases d2 : decide (S.final < t) <;> cases fin <;> cases d3 : decide (t < S.high) <;> rw [d1, d2, d3] at hr <;> simp only [Bool.and_true, Bool.and_false, Bool.or_true, Bool.or_false, Bool.false_and, Bool.true_and, Bool.true_or, Bool.false_or] at hr <;> subst hr <;>
  · simp only [decide_eq_true_eq, decide_eq_false_iff_not] at d1 d2 d3
    go_enter Tryz.func27, Tryz.ntmps27
    go_wp2
    all_goals go_ret
    all_goals exact ⟨rfl, rfl⟩

theorem rise_at (h : RA w M b bk vh E W S) (hh : 0 ≤ S.high ∧ S.high ≤ 4611686018427387903) (t : Int) (ht : 0 ≤ t ∧ t ≤ 4611686018427387903) :
    Calls Tryz.prog 29 #[ptr b, .int .i64 t] W fun e W' => e = .returned (.int .i64 (riseN S t)) ∧ RA w M b bk vh E W' { S with high := max S.high t } := by
  obtain ⟨-, -, c2, -⟩ := h.cells
  have t2 := h.blk.thaw 2
  have w1 : IntKind.i64.wrap (t - S.high) = t - S.high := by rw [IntKind.wrap_i64]; omega
  have w2 : IntKind.i64.wrap (S.high + (t - S.high)) = S.high + (t - S.high) := by rw [IntKind.wrap_i64]; omega
  have w3 : IntKind.i64.wrap (S.high + 0) = S.high := by rw [IntKind.wrap_i64]; omega
  have w4 : wrap64 S.high = S.high := by unfold wrap64; omega
  have w5 : wrap64 t = t := by unfold wrap64; omega
  have H := hide h
  have FIN : Hid (∀ z, z = max S.high t → RA w M b bk vh E (W.setCell ⟨b, 2, none⟩ (.int .i64 z)) { S with high := max S.high t }) := fun z e => by
    rw [e]
    exact (unhide H).put (S' := { S with high := max S.high t }) 2 (.int .i64 (max S.high t)) rfl rfl
  have HH := hide hh
  have HT := hide ht
  clear h hh ht H
  by_cases c : t - S.high ≤ 0
  · have R : Hid (riseN S t = 0 ∧ S.high = max S.high t) := by unfold riseN; exact ⟨by omega, by omega⟩
    by_cases c2 : 0 ≤ t - S.high
    · have e0 : t - S.high = 0 := by omega
      rw [e0] at w1 w2
      go_enter Tryz.func29, Tryz.ntmps29
      go_wp2
      all_goals go_ret
      all_goals refine ⟨by rw [(unhide R).1]; rfl, unhide FIN _ ?_⟩
      all_goals first | exact (unhide R).2 | (have := (unhide R).2; omega)
    · go_enter Tryz.func29, Tryz.ntmps29
      go_wp2
      all_goals go_ret
      all_goals refine ⟨by rw [(unhide R).1]; rfl, unhide FIN _ ?_⟩
      all_goals first | exact (unhide R).2 | (have := (unhide R).2; omega)
  · have R : Hid (riseN S t = t - S.high ∧ S.high + (t - S.high) = max S.high t) := by unfold riseN; exact ⟨by omega, by omega⟩
    go_enter Tryz.func29, Tryz.ntmps29
    go_wp2
    all_goals go_ret
    all_goals refine ⟨by rw [(unhide R).1]; rfl, unhide FIN _ ?_⟩
    all_goals first | exact (unhide R).2 | (have := (unhide R).2; omega)

theorem raise_at (h : RA w M b bk vh E W S) (l : Int) : Calls Tryz.prog 18 #[ptr b, .int .i64 l] W fun e W' => e = .returned (.tuple #[]) ∧ RA w M b bk vh E W' (raiseS S l) := by
  obtain ⟨c0, -⟩ := h.cells
  have t0 := h.blk.thaw 0
  have H := hide h
  have FIN : Hid (∀ z, z = max S.limit (min l 4611686018427387903) → RA w M b bk vh E (W.setCell ⟨b, 0, none⟩ (.int .i64 z)) (raiseS S l)) := fun z e => by
    rw [e]
    exact (unhide H).put (S' := raiseS S l) 0 (.int .i64 (max S.limit (min l 4611686018427387903))) rfl rfl
  clear h H
  by_cases q1 : l ≤ 4611686018427387903
  · by_cases q2 : S.limit ≤ l
    · go_enter Tryz.func18, Tryz.ntmps18
      go_wp2
      all_goals refine bodyPost_end (results_none rfl _ _ _) rfl ?_
      all_goals exact ⟨rfl, unhide FIN _ (by omega)⟩
    · go_enter Tryz.func18, Tryz.ntmps18
      go_wp2
      all_goals refine bodyPost_end (results_none rfl _ _ _) rfl ?_
      all_goals exact ⟨rfl, unhide FIN _ (by omega)⟩
  · by_cases q2 : S.limit ≤ 4611686018427387903
    · go_enter Tryz.func18, Tryz.ntmps18
      go_wp2
      all_goals refine bodyPost_end (results_none rfl _ _ _) rfl ?_
      all_goals exact ⟨rfl, unhide FIN _ (by omega)⟩
    · go_enter Tryz.func18, Tryz.ntmps18
      go_wp2
      all_goals refine bodyPost_end (results_none rfl _ _ _) rfl ?_
      all_goals exact ⟨rfl, unhide FIN _ (by omega)⟩
end

theorem new_at (limit : Int) (w : World) (hc : 0 ≤ limit ∧ limit ≤ 4611686018427387903) : Calls Tryz.prog 5 #[.int .i64 limit] w fun e W' => ∃ b bk, e = .returned (.tuple #[ptr b, .int .i64 0]) ∧ RA w (fun _ => False) b bk (.slice none 0 0) [] W' (newRv limit) := by
  have ho := fun W => of_nil W
  obtain ⟨q1, q2⟩ := hc
  have d1 : ¬ limit < 0 := by omega
  have d2 : ¬ 4611686018427387903 < limit := by omega
  go_enter Tryz.func5, Tryz.ntmps5
  go_wp2_with fail
  refine (ho _).mono ?_
  rintro e W2 ⟨bk, rfl, s, hbk, g⟩
  have S1 := hide (And.intro s (And.intro hbk g))
  clear ho s hbk g
  go_wp2_with fail
  all_goals go_ret2
  all_goals
    obtain ⟨s, hbk, g⟩ := unhide S1
    have g3 := grown_alloc W2 (.cells (rvc bk (.slice none 0 0) (newRv limit)) 53)
    exact ⟨_, bk, rfl, Kp.grown (grown_trans g g3) _, Blk.new _ _ _, ⟨.slice none 0 0, s.keep g3, fun g e => by cases e⟩, Pq.row_nil _, fun e he => (by cases he), .inr g.size, .inr hbk, fun g e => (by cases e)⟩
theorem new_bad (limit : Int) (w : World) (hc : ¬ (0 ≤ limit ∧ limit ≤ 4611686018427387903)) : Calls Tryz.prog 5 #[.int .i64 limit] w fun e W' => e = .returned (.tuple #[.pointer none, .int .i64 1]) ∧ W' = w := by
  by_cases h : limit < 0
  · go_enter Tryz.func5, Tryz.ntmps5
    go_wp2
    all_goals go_ret2
    all_goals exact ⟨rfl, rfl⟩
  · have h2 : 4611686018427387903 < limit := by omega
    go_enter Tryz.func5, Tryz.ntmps5
    go_wp2
    all_goals go_ret2
    all_goals exact ⟨rfl, rfl⟩
end Go.Proofs.YthihabjegpacaaaGreat
