/- The document's controller, at place o of two. -/
import Derived.Test.YthpnbajhogoinaaIT
namespace Go.Proofs.Ythpnbajhogoinaa
open Go.RowKit Fl
set_option linter.unusedVariables false
set_option maxRecDepth 100000
set_option maxHeartbeats 4000000
attribute [local go_sem] run_store_float

abbrev Sep (o p : Nat) : Prop := (o + 12 ≤ p ∨ p + 12 ≤ o) ∧ o + 12 ≤ 24
/-- Two of the document's controllers, side by side in memory: R at place o, S at place p. -/
def RB (w : World) (b o p : Nat) (R S : Cs) : Prop := ∃ cs : Array Value, Blk w b cs 38 ∧ cs.size = 24 ∧ (∀ j v, j < 12 → (rcc R)[j]? = some v → cs[o + j]? = some v) ∧ (∀ j v, j < 12 → (rcc S)[j]? = some v → cs[p + j]? = some v)
abbrev ptrO (g o : Nat) : Value := .pointer (some ⟨g, o, none⟩)
theorem RB.cell {w : World} {b o p : Nat} {R S : Cs} (h : RB w b o p R S) (j : Nat) (v : Value) (hj : j < 12) (hv : (rcc R)[j]? = some v) : w.cell? ⟨b, o + j, none⟩ = some v := by
  obtain ⟨cs, h1, -, h3, -⟩ := h
  exact h1.cell _ _ (h3 j v hj hv)
theorem RB.thaw {w : World} {b o p : Nat} {R S : Cs} (h : RB w b o p R S) (j : Nat) : w.frozen? ⟨b, j, none⟩ = false := by
  obtain ⟨cs, h1, -⟩ := h
  exact h1.thaw j
theorem RB.full {w : World} {b o p : Nat} {s S : Cs} (h : RB w b o p s S) : (∀ j, w.frozen? ⟨b, j, none⟩ = false) ∧ w.cell? ⟨b, o, none⟩ = some (.int .i64 s.mtu) ∧ w.cell? ⟨b, o + 1, none⟩ = some (.int .i64 s.clock) ∧ w.cell? ⟨b, o + 8, none⟩ = some (.int .i64 s.size) ∧ w.cell? ⟨b, o + 9, none⟩ = some (.int .i64 s.thr) ∧ w.cell? ⟨b, o + 10, none⟩ = some (.int .i64 s.flight) ∧ w.cell? ⟨b, o + 11, none⟩ = some (.int .i64 s.began) :=
  ⟨h.thaw, h.cell 0 _ (by decide) rfl, h.cell 1 _ (by decide) rfl, h.cell 8 _ (by decide) rfl, h.cell 9 _ (by decide) rfl, h.cell 10 _ (by decide) rfl, h.cell 11 _ (by decide) rfl⟩
theorem RB.more {w : World} {b o p : Nat} {s S : Cs} (h : RB w b o p s S) : w.cell? ⟨b, o + 2, none⟩ = some (.int .i64 s.ep) ∧ w.cell? ⟨b, o + 3, none⟩ = some (.int .i64 s.wt) ∧ w.cell? ⟨b, o + 4, none⟩ = some (fv s.pk) ∧ w.cell? ⟨b, o + 5, none⟩ = some (fv s.og) ∧ w.cell? ⟨b, o + 6, none⟩ = some (fv s.pl) ∧ w.cell? ⟨b, o + 7, none⟩ = some (fv s.pt) :=
  ⟨h.cell 2 _ (by decide) rfl, h.cell 3 _ (by decide) rfl, h.cell 4 _ (by decide) rfl, h.cell 5 _ (by decide) rfl, h.cell 6 _ (by decide) rfl, h.cell 7 _ (by decide) rfl⟩
theorem RB.grown {w W : World} {b o p : Nat} {s S : Cs} (h : RB w b o p s S) (g : w.grownBy W none) : RB W b o p s S := by
  obtain ⟨cs, h1, h2, h3, h4⟩ := h
  exact ⟨cs, h1.grown g, h2, h3, h4⟩
theorem RB.far {w W : World} {b c o p : Nat} {s S : Cs} (h : RB w b o p s S) (g : w.grownBy W (some c)) (hn : b ≠ c) : RB W b o p s S := by
  obtain ⟨cs, h1, h2, h3, h4⟩ := h
  exact ⟨cs, Blk.far h1 g hn, h2, h3, h4⟩
theorem RB.swap {w : World} {b o p : Nat} {s S : Cs} (h : RB w b o p s S) : RB w b p o S s := by
  obtain ⟨cs, h1, h2, h3, h4⟩ := h
  exact ⟨cs, h1, h2, h4, h3⟩
theorem RB.drewN {w : World} {b o p : Nat} {s S : Cs} (h : RB w b o p s S) (q : Nat) : RB (w.drewN q) b o p s S := h
theorem RB.drew {w : World} {b o p : Nat} {s S : Cs} (h : RB w b o p s S) : RB w.drew b o p s S := h
theorem RB.lt {w : World} {b o p : Nat} {s S : Cs} (h : RB w b o p s S) : b < w.heap.size := by
  obtain ⟨cs, h1, -⟩ := h
  exact h1.lt
theorem rcc_size (s : Cs) : (rcc s).size = 12 := rfl
/-- One cell is written. -/
theorem RB.set {w : World} {b o p : Nat} {s S : Cs} (h : RB w b o p s S) (hs : Sep o p) (j : Nat) (hj : j < 12) (v : Value) (s' : Cs) (e : rcc s' = (rcc s).setIfInBounds j v) : RB (w.setCell ⟨b, o + j, none⟩ v) b o p s' S := by
  obtain ⟨cs, h1, h2, h3, h4⟩ := h
  refine ⟨cs.setIfInBounds (o + j) v, Blk.setC h1 (o + j) v, by rw [Array.size_setIfInBounds]; exact h2, fun k u hk hu => ?_, fun k u hk hu => ?_⟩
  · rw [e] at hu
    rw [Array.getElem?_setIfInBounds] at hu ⊢
    by_cases c : j = k
    · subst c
      rw [if_pos rfl] at hu ⊢
      rw [if_pos (by rw [rcc_size]; exact hj)] at hu
      rw [if_pos (by rw [h2]; have := hs.2; omega)]
      exact hu
    · rw [if_neg c] at hu
      rw [if_neg (by omega)]
      exact h3 k u hk hu
  · rw [Array.getElem?_setIfInBounds, if_neg (by have := hs.1; omega)]
    exact h4 k u hk hu

theorem rsent_any (b o p : Nat) (s S : Cs) (x : Int) (w : World) (h : RB w b o p s S) (hs : Sep o p) (hf : 0 ≤ s.flight ∧ s.flight ≤ 1000000000000) : Calls Try.prog 32 #[ptrO b o, .int .i64 x] w fun e w' => e = .returned (.tuple #[]) ∧ RB w' b o p (sentF x s) S ∧ w.grownBy w' (some b) := by
  have hm := size_any x
  obtain ⟨z1, z2⟩ := szb x
  obtain ⟨f1, f2⟩ := hf
  obtain ⟨t, -, -, -, -, c5, -⟩ := h.full
  have F := hide (And.intro (show RB ((w.setCell ⟨b, o + 10, none⟩ (.int .i64 (s.flight + szz x))).drew) b o p (sentF x s) S from (h.set hs 10 (by decide) _ (sentF x s) rfl).drew) (drewS (grown_at (World.grownBy.refl w (some b)) (o + 10) (.int .i64 (s.flight + szz x)))))
  clear h
  generalize sentF x s = s' at *
  generalize szz x = T at *
  generalize s.flight = c at *
  have hw : IntKind.i64.wrap (c + T) = c + T := by rw [IntKind.wrap_i64]; omega
  go_enter Try.func32, Try.ntmps32
  go_wp2_with fail
  go_region_with (go_at_call 20; refine (hm _).mono ?_; rintro e W ⟨rfl, rfl⟩)
  all_goals go_wp2_with fail
  all_goals refine bodyPost_end (results_none rfl _ _ _) rfl ?_
  all_goals exact ⟨rfl, (unhide F).1, (unhide F).2⟩
end Go.Proofs.Ythpnbajhogoinaa
