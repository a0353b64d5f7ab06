/- Decode of what came in, at whatever place. -/
import Derived.Test.YtggjeamondampabFZ3
import Derived.Test.YtggjeamondampabF1F
namespace Go.Proofs.Ytggjeamondampab
open Go.RowKit
set_option linter.unusedVariables false
set_option linter.unusedSimpArgs false
set_option maxRecDepth 100000
set_option maxHeartbeats 1000000

theorem frame_empty {w : World} {g : Nat} {a : Option Addr} {c : Nat} (hb : Blk w g (rdr (.slice a 0 c) 0 0) 66) (hc : c ≤ maxLen) :
    Calls Try.prog 28 #[.pointer (some ⟨g, 0, none⟩)] w fun e w' => (∃ v : Int, e = .panicked [{ v := .iface 28 (.int .i64 v), recovered := false }]) ∧ (∃ at_ : Int, Blk w' g (rdr (.slice a 0 c) at_ 40) 66) ∧ w.grownBy w' (some g) := by
  have gA := World.grownBy_alloc w (.cells #[.int .i64 0, .int .i64 0, .int .i64 0, .slice none 0 0, .int .i64 0, .bool false, .bool false, .int .i64 0, .bool false, .int .i64 0, .bool false, .int .i64 0, .slice none 0 0, .bool false, .int .i64 0, .int .i64 0, .int .i64 0] 26) none
  have hnu := number_no g a [] c 0 0 _ (hb.alloc (.cells #[.int .i64 0, .int .i64 0, .int .i64 0, .slice none 0 0, .int .i64 0, .bool false, .bool false, .int .i64 0, .bool false, .int .i64 0, .bool false, .int .i64 0, .slice none 0 0, .bool false, .int .i64 0, .int .i64 0, .int .i64 0] 26)) ⟨by simp, fun h => absurd rfl h⟩ (Nat.zero_le _) hc (Nat.le_refl _) rfl
  have k1 : (w.alloc (.cells #[.int .i64 0, .int .i64 0, .int .i64 0, .slice none 0 0, .int .i64 0, .bool false, .bool false, .int .i64 0, .bool false, .int .i64 0, .bool false, .int .i64 0, .slice none 0 0, .bool false, .int .i64 0, .int .i64 0, .int .i64 0] 26)).cell? ⟨g, 1, none⟩ = some (.int .i64 0) := (hb.alloc _).cell 1 _ rfl
  have HA := hide gA
  clear gA hb
  go_enter Try.func28, Try.ntmps28
  go_wp2_with fail
  refine hnu.mono ?_
  rintro e W1 ⟨⟨pv, rfl⟩, hb1, hg⟩
  go_wp2_with fail
  exact ⟨rfl, ⟨_, rfl⟩, ⟨_, hb1⟩, grown_add (grown_some (unhide HA) g) hg (fun k e => by cases e; exact .inr rfl)⟩

theorem decode_in {w : World} {v : Value} {l : List Int} {k : Nat} (h : InS w v l) (hk : k ≤ l.length) (hl : l.length ≤ 4000000000000) :
    Calls Try.prog 11 #[v, .int .i64 (k : Int)] w (DecPost w l k) := by
  obtain ⟨a, c, rfl, h1, h2, h3, h4⟩ := h.ex
  by_cases he : l = []
  · subst he
    obtain rfl : k = 0 := by simpa using hk
    refine decode_of (l := []) (k := 0) (Nat.le_refl _) (by simp) fun W g hg hgg hb => ?_
    refine (frame_empty hb h3).mono ?_
    rintro e w' ⟨he, hb, hg⟩
    exact .inr ⟨40, rfl, he, hb, hg⟩
  · have hc : c ≠ 0 := by have := List.length_pos_iff.2 he; omega
    exact decode_any hk ⟨h1, h2, h3, fun x hx => (h4 x hx hc).1, fun x hx => (h4 x hx hc).2, hl⟩

theorem arg_blks (w : World) : Blk (((w.alloc (.cells (Fr.zero.cs nilS nilS) 26)).alloc (.cells #[.int .i64 0] 3)).alloc (.cells #[.int .i64 1] 28)) w.heap.size (Fr.zero.cs nilS nilS) 26 ∧
    Blk (((w.alloc (.cells (Fr.zero.cs nilS nilS) 26)).alloc (.cells #[.int .i64 0] 3)).alloc (.cells #[.int .i64 1] 28)) (w.heap.size + 1) #[.int .i64 0] 3 ∧
    Blk (((w.alloc (.cells (Fr.zero.cs nilS nilS) 26)).alloc (.cells #[.int .i64 0] 3)).alloc (.cells #[.int .i64 1] 28)) (w.heap.size + 1 + 1) #[.int .i64 1] 28 ∧
    w.grownBy (((w.alloc (.cells (Fr.zero.cs nilS nilS) 26)).alloc (.cells #[.int .i64 0] 3)).alloc (.cells #[.int .i64 1] 28)) none := by
  obtain ⟨b1, b2, g⟩ := Blk.two w (Fr.zero.cs nilS nilS) #[.int .i64 0] 26 3
  refine ⟨b1.alloc _, b2.alloc _, ?_, g.trans (World.grownBy_alloc _ _ none)⟩
  have h := Blk.new ((w.alloc (.cells (Fr.zero.cs nilS nilS) 26)).alloc (.cells #[.int .i64 0] 3)) #[.int .i64 1] 28
  have e : ((w.alloc (.cells (Fr.zero.cs nilS nilS) 26)).alloc (.cells #[.int .i64 0] 3)).heap.size = w.heap.size + 1 + 1 := by
    show ((w.heap.push _).push _).size = _
    simp
  rw [e] at h
  exact h
/-- A place outside. -/
theorem decode_arg (a : Option Addr) (n c : Nat) (i : Int) (w : World) (h : i < 0 ∨ (n : Int) < i) (hn : n ≤ maxLen) :
    Calls Try.prog 11 #[.slice a n c, .int .i64 i] w fun e w' => e = .returned (.tuple #[Fr.zero.val nilS nilS, .int .i64 0, .int .i64 1]) ∧ w.grownBy w' none := by
  rcases (by omega : i < 0 ∨ (¬ i < 0 ∧ (n : Int) < i)) with hh | ⟨h0, hh⟩
  · have k1 : decide (i < 0) = true := decide_eq_true hh
    go_enter_defers Try.func11, Try.ntmps11
    go_wp2_with fail
    exact ⟨_, results_cvv (p := 4) (q := 5) (u := 6) (tp := 26) (tq := 3) (tu := 28) Try.results11 _ _ w.heap.size (w.heap.size + 1) (w.heap.size + 1 + 1) (Fr.zero.cs nilS nilS) _ (.int .i64 0) (.int .i64 1) rfl rfl rfl (arg_blks w).1 Try.underlying26 rfl Try.size26 (load3 ((arg_blks w).2.1.cell 0 _ rfl)) (loadE ((arg_blks w).2.2.1.cell 0 _ rfl)), rfl, (arg_blks w).2.2.2⟩
  · have k1 : decide (i < 0) = false := decide_eq_false h0
    have k3 : decide ((n : Int) < i) = true := decide_eq_true hh
    go_enter_defers Try.func11, Try.ntmps11
    go_wp2_with fail
    exact ⟨_, results_cvv (p := 4) (q := 5) (u := 6) (tp := 26) (tq := 3) (tu := 28) Try.results11 _ _ w.heap.size (w.heap.size + 1) (w.heap.size + 1 + 1) (Fr.zero.cs nilS nilS) _ (.int .i64 0) (.int .i64 1) rfl rfl rfl (arg_blks w).1 Try.underlying26 rfl Try.size26 (load3 ((arg_blks w).2.1.cell 0 _ rfl)) (loadE ((arg_blks w).2.2.1.cell 0 _ rfl)), rfl, (arg_blks w).2.2.2⟩
end Go.Proofs.Ytggjeamondampab
