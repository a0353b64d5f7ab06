import Derived.Test.YtmfbbamaleagiaaDoorXQ
namespace Go.Proofs.YtmfbbamaleagiaaDoor
open Go.RowKit
set_option linter.unusedVariables false
set_option maxRecDepth 100000

def vad : Value → Option Addr | .slice a _ _ => a | _ => none
def vns : Value → Nat | .slice _ n _ => n | _ => 0
def vcp : Value → Nat | .slice _ _ c => c | _ => 0

/-- The lists of a literal. -/
def heldOf (vs : List Value) : Held := ⟨vs.length, fun j => vad (vs.getD j (.slice none 0 0)), fun j => vns (vs.getD j (.slice none 0 0)), fun j => vcp (vs.getD j (.slice none 0 0)), vs.toArray⟩

theorem ownsRow_shape {w : World} {base : Nat} {e : TypeId} {v : Value} {n : Nat} {xs : List Value} (h : w.ownsRow base e 1 v n xs) : v = .slice (vad v) (vns v) (vcp v) ∧ vns v = n := by
  rcases h.2 with ⟨rfl, rfl⟩ | ⟨g, cap, cur, rfl, _⟩ <;> exact ⟨rfl, rfl⟩

theorem apart_list (vs : List Value) (w0 wr : World) (B b c : Nat) (hB : B ≤ b) (hb : wr.heap[b]? = some (.cells vs.toArray 31 (0, 0))) (hown : ∀ v ∈ vs, ∃ n xs, wr.ownsRow B 5 1 v n xs ∧ n ≤ 140737488350000)
    (hsep : vs.Pairwise fun u v => u.ownBlock = none ∨ u.ownBlock ≠ v.ownBlock) (few : vs.length ≤ 1000000) (bel : Below B w0 wr) :
    Calls Tryd.prog 18 #[.slice (some ⟨b, 0, none⟩) vs.length c] wr fun e w' => e = .returned (.bool true) ∧ Below B w0 w' := by
  have get : ∀ j, j < vs.length → vs[j]? = some (vs.getD j (.slice none 0 0)) := fun j hj => by simp [List.getD, hj]
  have mem : ∀ j, j < vs.length → vs.getD j (.slice none 0 0) ∈ vs := fun j hj => List.mem_of_getElem? (get j hj)
  have hv : ∀ j, j < vs.length → (heldOf vs).v j = vs.getD j (.slice none 0 0) := fun j hj => by
    obtain ⟨n, xs, ho, _⟩ := hown _ (mem j hj)
    exact (ownsRow_shape ho).1.symm
  have fit : (heldOf vs).Fit := by
    refine ⟨fun j hj => ?_, fun i j hi hj hne => ?_, fun j hj => ?_, few⟩
    · rw [hv j hj]; simpa [heldOf] using get j hj
    · rw [hv i hi, hv j hj]
      rw [List.pairwise_iff_getElem] at hsep
      have hi' : i < vs.length := hi
      have hj' : j < vs.length := hj
      have e1 : vs.getD i (.slice none 0 0) = vs[i] := by simp [List.getD, hi']
      have e2 : vs.getD j (.slice none 0 0) = vs[j] := by simp [List.getD, hj']
      rw [e1, e2]
      rcases Nat.lt_or_gt_of_ne hne with h | h
      · exact hsep i j hi' hj' h
      · rcases hsep j i hj' hi' h with h1 | h1
        · rw [h1]; cases vs[i].ownBlock <;> simp
        · exact .inr (Ne.symm h1)
    · obtain ⟨n, xs, ho, hn⟩ := hown _ (mem j hj)
      show vns _ ≤ _
      rw [(ownsRow_shape ho).2]; exact hn
  exact apart_any (heldOf vs) w0 wr B b c fit ⟨hb, fun j hj => by
    obtain ⟨n, xs, ho, _⟩ := hown _ (mem j hj)
    refine ⟨xs, ?_, fun q _ h => by omega⟩
    rw [hv j hj]
    show wr.ownsRow B 5 1 _ (vns _) xs
    rw [(ownsRow_shape ho).2]; exact ho, bel, hB⟩

theorem bts_own {w : World} {g : Nat} {l : List Int} (base : Nat) (h : w.heap[g]? = some (bts l)) (hb : base ≤ g) (hl : l.length ≤ maxLen) : w.ownsRow base 5 1 (.slice (some ⟨g, 0, none⟩) l.length l.length) l.length (vals l) :=
  ⟨by simp [vals], .inr ⟨g, l.length, _, rfl, hb, h, Nat.le_refl _, hl, by simp, by rw [Nat.mul_one, List.take_of_length_le (by simp)]; rfl⟩⟩

theorem own_rd {w : World} {base : Nat} {s : Value} {n : Nat} {l : List Int} (h : w.ownsRow base 5 1 s n (vals l)) (hl : ∀ x ∈ l, IsB x) : l.length = n ∧ ∃ a c, s = .slice a n c ∧ Rd w a l := by
  have hn : l.length = n := by have := h.1; simpa [vals] using this
  refine ⟨hn, ?_⟩
  by_cases h0 : n = 0
  · obtain ⟨e1, e2⟩ := ownsRow_shape h
    refine ⟨vad s, vcp s, by rw [e2] at e1; exact e1, hl, fun hne => absurd (List.eq_nil_of_length_eq_zero (by omega)) hne⟩
  · obtain ⟨g, c, rfl, _⟩ := ownsRow_open h h0
    refine ⟨_, _, rfl, hl, fun _ => ⟨g, 0, rfl, fun i hi => ?_⟩⟩
    rw [Nat.zero_add, h.cellAt i (by omega), vals_get l i hi]
end Go.Proofs.YtmfbbamaleagiaaDoor
