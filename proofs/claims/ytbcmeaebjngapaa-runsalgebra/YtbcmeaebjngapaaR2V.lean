/- RunsAlgebra: the calls of sets that the call has made, told shortly. -/
import Derived.Test.YtbcmeaebjngapaaR2E
import Derived.Test.YtbcmeaebjngapaaR2N
import Derived.Test.YtbcmeaebjngapaaR2M1
import Derived.Test.YtbcmeaebjngapaaR2M2
namespace Go.Proofs.Ytbcmeaebjngapaa
open Go.RowKit Go.Shelf
set_option linter.unusedVariables false
set_option maxHeartbeats 400000
set_option maxRecDepth 100000

/-- A set without a bound lies at b. -/
def SS (W : World) (b : Nat) (L : List Sp) : Prop := ∃ v, SetAt W b 0 v L
abbrev GD (L : List Sp) : Prop := Good (-9223372036854775808) 9223372036854775807 L
theorem SS.keep {W W' : World} {b : Nat} {L : List Sp} (h : SS W b L) (g : W.grownBy W' none) : SS W' b L := by
  obtain ⟨v, s⟩ := h
  exact ⟨v, s.keep g⟩
theorem ss_ls {w W : World} {b : Nat} {L : List Sp} (h : LS w W b 0 L) : SS W b L := by
  obtain ⟨v, s, -⟩ := h.at_
  exact ⟨v, s⟩
theorem has_s {W : World} {b : Nat} {L : List Sp} (h : SS W b L) (g : GD L) (hl : L.length ≤ 100000000) (x : Int) :
    Calls Try.prog 11 #[.pointer (some ⟨b, 0, none⟩), .int .i64 x] W fun e w' => e = .returned (.bool (memB x L)) ∧ W.grownBy w' none := by
  obtain ⟨v, s⟩ := h
  exact has_any b 0 x v L W s ⟨g, by omega⟩
theorem runs_s {W : World} {b : Nat} {L : List Sp} (h : SS W b L) (hl : L.length ≤ 100000000) :
    Calls Try.prog 7 #[.pointer (some ⟨b, 0, none⟩)] W fun e w' => ∃ v', e = .returned v' ∧ Row w' v' L ∧ W.grownBy w' none := by
  obtain ⟨v, s⟩ := h
  exact (runs_any b 0 v L W s (by omega)).mono fun e w' ⟨v', he, hr, _, hg⟩ => ⟨v', he, hr, hg⟩
theorem len_s {W : World} {b : Nat} {L : List Sp} (h : SS W b L) :
    Calls Try.prog 13 #[.pointer (some ⟨b, 0, none⟩)] W fun e w' => e = .returned (.int .i64 L.length) ∧ w' = W := by
  obtain ⟨v, s⟩ := h
  exact len_ls b 0 v L W s
theorem hasRuns_s {W : World} {b : Nat} {L : List Sp} (h : SS W b L) (hl : L.length ≤ 100000000) : HasRuns W (.pointer (some ⟨b, 0, none⟩)) L := fun X hX => by
  obtain ⟨v, s⟩ := h
  exact runs_any b 0 v L X (s.keep ⟨hX.os, hX.tape, hX.output, hX.size, fun k hk _ => hX.block k hk⟩) (by omega)
theorem runsAt_s {W : World} {b : Nat} {L : List Sp} (h : SS W b L) (hl : L.length ≤ 100000000) : RunsAt W (.pointer (some ⟨b, 0, none⟩)) L := fun X g => by
  obtain ⟨v, s⟩ := h
  exact runs_any b 0 v L X (s.keep g) (by omega)

theorem join_s {W : World} {a b : Nat} {La Lb : List Sp} (ha : SS W a La) (hb : SS W b Lb) (gA : GD La) (gB : GD Lb) (la : La.length ≤ 100000000) (lb : Lb.length ≤ 100000000) :
    Calls Try.prog 8 #[.pointer (some ⟨a, 0, none⟩), .pointer (some ⟨b, 0, none⟩)] W fun e w' => ∃ b', e = .returned (.pointer (some ⟨b', 0, none⟩)) ∧ SS w' b' (joinL La Lb) ∧ W.grownBy w' none :=
  (join_any (hasRuns_s ha la) (hasRuns_s hb lb) gA gB (by omega)).mono fun e w' ⟨b', he, hl⟩ => ⟨b', he, ss_ls hl, hl.grown⟩
theorem join_sn {W : World} {a : Nat} {La : List Sp} (ha : SS W a La) (gA : GD La) (la : La.length ≤ 100000000) :
    Calls Try.prog 8 #[.pointer (some ⟨a, 0, none⟩), .pointer none] W fun e w' => ∃ b', e = .returned (.pointer (some ⟨b', 0, none⟩)) ∧ SS w' b' La ∧ W.grownBy w' none :=
  (join_any (hasRuns_s ha la) (hasRuns_nil W) gA trivial (by simp; omega)).mono fun e w' ⟨b', he, hl⟩ => ⟨b', he, by rw [← join_nil gA]; exact ss_ls hl, hl.grown⟩

theorem inG_len (Lb : List Sp) (r : Sp) : (inG Lb r).length ≤ Lb.length := withinF_length _ _ _
theorem outG_len (Lb : List Sp) (r : Sp) : (outG Lb r).length ≤ Lb.length + 1 := Nat.le_trans (holesGo_length _ _ _) (Nat.add_le_add_right (withinF_length _ _ _) 1)
theorem pre_flat {G : Sp → List Sp} {m n : Nat} {La : List Sp} (h : ∀ r, (G r).length ≤ m) (hn : La.length ≤ n) : ∀ pre, pre <+: La → (pre.flatMap G).length ≤ n * m := fun pre hp => by
  have h1 := flat_length pre (fun r _ => h r)
  have := hp.length_le
  exact Nat.le_trans h1 (Nat.mul_le_mul_right m (by omega))

theorem meet_s {W : World} {a b : Nat} {La Lb : List Sp} (ha : SS W a La) (hb : SS W b Lb) (gA : GD La) (gB : GD Lb) (la : La.length ≤ 2000) (lb : Lb.length ≤ 2000) :
    Calls Try.prog 9 #[.pointer (some ⟨a, 0, none⟩), .pointer (some ⟨b, 0, none⟩)] W fun e w' => ∃ b', e = .returned (.pointer (some ⟨b', 0, none⟩)) ∧ SS w' b' (meetL La Lb) ∧ W.grownBy w' none := by
  obtain ⟨v, s⟩ := hb
  refine (callsIn_wide.1 (meet_in (some ⟨a, 0, none⟩) (some ⟨b, 0, none⟩) La (inG Lb) W (runsAt_s ha (by omega)) (fun r hr X g => ?_) (by omega) (fun pre hp => Nat.le_trans (pre_flat (inG_len Lb) la pre hp) (Nat.le_trans (Nat.mul_le_mul_left 2000 lb) (by omega))))).mono fun e w' ⟨b', he, hl⟩ => ⟨b', he, ss_ls hl, hl.grown⟩
  exact within_any b 0 r.1 r.2 v Lb X (s.keep g) ⟨gB, by omega⟩ (gA.mem hr).2.1
theorem less_s {W : World} {a b : Nat} {La Lb : List Sp} (ha : SS W a La) (hb : SS W b Lb) (gA : GD La) (gB : GD Lb) (la : La.length ≤ 2000) (lb : Lb.length ≤ 2000) :
    Calls Try.prog 10 #[.pointer (some ⟨a, 0, none⟩), .pointer (some ⟨b, 0, none⟩)] W fun e w' => ∃ b', e = .returned (.pointer (some ⟨b', 0, none⟩)) ∧ SS w' b' (lessL La Lb) ∧ W.grownBy w' none := by
  obtain ⟨v, s⟩ := hb
  refine (callsIn_wide.1 (less_in (some ⟨a, 0, none⟩) (some ⟨b, 0, none⟩) La (outG Lb) W (runsAt_s ha (by omega)) (fun r hr X g => ?_) (by omega) (fun pre hp => Nat.le_trans (pre_flat (outG_len Lb) la pre hp) (Nat.le_trans (Nat.mul_le_mul_left 2000 (Nat.add_le_add_right lb 1)) (by omega))))).mono fun e w' ⟨b', he, hl⟩ => ⟨b', he, ss_ls hl, hl.grown⟩
  have := gA.mem hr
  exact holes_any b 0 r.1 r.2 v Lb X (s.keep g) ⟨gB, by omega⟩ (by omega) (by omega) (by omega)
theorem less_sn {W : World} {a : Nat} {La : List Sp} (ha : SS W a La) (gA : GD La) (la : La.length ≤ 2000) :
    Calls Try.prog 10 #[.pointer (some ⟨a, 0, none⟩), .pointer none] W fun e w' => ∃ b', e = .returned (.pointer (some ⟨b', 0, none⟩)) ∧ SS w' b' La ∧ W.grownBy w' none := by
  refine (callsIn_wide.1 (less_in (some ⟨a, 0, none⟩) none La (fun r => [(r.1, r.2)]) W (runsAt_s ha (by omega)) (fun r hr X g => ?_) (by omega) (fun pre hp => Nat.le_trans (pre_flat (m := 1) (fun r => by simp) la pre hp) (by omega)))).mono fun e w' ⟨b', he, hl⟩ => ⟨b', he, by rw [less_nil] at hl; exact ss_ls hl, hl.grown⟩
  have := gA.mem hr
  exact holes_nil r.1 r.2 X (by omega) (by omega) (by omega)
theorem meet_sn {W : World} {b : Nat} :
    Calls Try.prog 9 #[.pointer none, .pointer (some ⟨b, 0, none⟩)] W fun e w' => ∃ b', e = .returned (.pointer (some ⟨b', 0, none⟩)) ∧ SS w' b' [] ∧ W.grownBy w' none :=
  (callsIn_wide.1 (meet_in none (some ⟨b, 0, none⟩) [] (fun _ => []) W (fun X g => runs_nil X) (fun r hr => by cases hr) (by simp) (fun pre hp => by simp [List.prefix_nil.1 hp]))).mono fun e w' ⟨b', he, hl⟩ => ⟨b', he, ss_ls hl, hl.grown⟩

theorem meet_len {La Lb : List Sp} (la : La.length ≤ 2000) (lb : Lb.length ≤ 2000) : (meetL La Lb).length ≤ 5000000 := Nat.le_trans (pre_flat (inG_len Lb) la La (List.prefix_refl _)) (Nat.le_trans (Nat.mul_le_mul_left 2000 lb) (by omega))
theorem less_len {La Lb : List Sp} (la : La.length ≤ 2000) (lb : Lb.length ≤ 2000) : (lessL La Lb).length ≤ 5000000 := Nat.le_trans (pre_flat (outG_len Lb) la La (List.prefix_refl _)) (Nat.le_trans (Nat.mul_le_mul_left 2000 (Nat.add_le_add_right lb 1)) (by omega))
end Go.Proofs.Ytbcmeaebjngapaa
