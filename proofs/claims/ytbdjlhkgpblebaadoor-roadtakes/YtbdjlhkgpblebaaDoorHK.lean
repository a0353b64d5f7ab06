/- empty: the nodes of a ring's slots up to one. -/
import Derived.Test.YtbdjlhkgpblebaaDoorHJ
import Derived.WalkMore
namespace Go.Proofs.YtbdjlhkgpblebaaDoor
open Go.RowKit Go.Shelf
set_option linter.unusedVariables false
set_option maxRecDepth 100000
set_option maxHeartbeats 1000000

theorem WB.W_pos {w : World} {W mb c : Nat} {fl : Nat → Nat} {sl : Nat → Nat → List Nd} (h : WB w W mb c fl sl) (ht : Tb w) : 0 ≠ W := by
  intro e
  obtain ⟨cs, hb, h0, -⟩ := h.ex
  obtain ⟨t, f, h1⟩ := ht
  rw [← e, Blk, h1] at hb
  simp only [Option.some.injEq, Obj.cells.injEq] at hb
  rw [← hb.1] at h0
  revert h0
  decide
theorem Tb.kp {w w' : World} {S : Nat → Prop} (h : Tb w) (k : Kp S w w') (hS : ¬ S 0) : Tb w' := h.kept (k.block 0 h.lt hS)

/-- The nodes of ring i in slots below k; and all others. -/
def inR (c i k : Nat) (n : Nd) : Bool := decide ((pl c n.at_).1 = i ∧ (pl c n.at_).2 < k)
abbrev tookR (c i k : Nat) (L : List Nd) : List Nd := L.filter (inR c i k)
abbrev leftR (c i k : Nat) (L : List Nd) : List Nd := L.filter (fun n => !inR c i k n)

/-- What empty holds between two rounds. -/
structure EI (w : World) (W mb c i : Nat) (L : List Nd) (k : Nat) (wr : World) (v : Value) (fl : Nat → Nat) (sl : Nat → Nat → List Nd) : Prop where
  sw : SW wr W mb c fl sl (leftR c i k L)
  row : wr.ownsRow w.heap.size 67 1 v (tookR c i k L).length (ptrs (tookR c i k L))
  kp : Kp (fun g => g = W) w wr

/-- Slots that have nothing are passed. -/
theorem EI.skip {w : World} {W mb c i : Nat} {L : List Nd} {k : Nat} {wr : World} {v : Value} {fl : Nat → Nat} {sl : Nat → Nat → List Nd} (h : EI w W mb c i L k wr v fl sl) (hi : i < 11) {j : Nat} (hj : Low (fl i) j) {t : Nat} (h1 : k ≤ t) (h2 : t ≤ j) (h3 : t ≤ 64) : EI w W mb c i L t wr v fl sl := by
  have none : ∀ n ∈ L, inR c i t n = inR c i k n := by
    intro n hn
    unfold inR
    by_cases c1 : (pl c n.at_).1 = i ∧ (pl c n.at_).2 < k
    · rw [decide_eq_true c1, decide_eq_true ⟨c1.1, by omega⟩]
    · rw [decide_eq_false c1, decide_eq_false]
      rintro ⟨e1, e2⟩
      have hin : n ∈ leftR c i k L := by
        rw [List.mem_filter]
        refine ⟨hn, ?_⟩
        unfold inR
        rw [decide_eq_false c1]; rfl
      obtain ⟨s1, s2, s3⟩ := h.sw.in_slot hin
      rw [e1] at s3
      have b := h.sw.wb.bit i (pl c n.at_).2 hi s2
      have : (fl i).testBit (pl c n.at_).2 = false := by
        rcases hj with ⟨hj, -⟩ | ⟨-, -, hj⟩
        · rw [hj, Nat.zero_testBit]
        · exact hj _ (by omega)
      rw [this] at b
      have : sl i (pl c n.at_).2 = [] := by simpa using b.symm
      rw [this] at s3
      cases s3
  have e1 : tookR c i t L = tookR c i k L := List.filter_congr none
  have e2 : leftR c i t L = leftR c i k L := List.filter_congr (fun n hn => by rw [none n hn])
  exact ⟨by rw [e2]; exact h.sw, by rw [e1]; exact h.row, h.kp⟩

/-- One slot more. -/
theorem took_step (c i j : Nat) (L : List Nd) (hs : Srt L) (hL : ∀ n ∈ L, n.at_ < 2 ^ 62) (hc : c < 2 ^ 62) : tookR c i j L ++ L.filter (fun n => pl c n.at_ = (i, j)) = tookR c i (j + 1) L := by
  unfold tookR
  rw [filter_two L hs]
  · apply List.filter_congr
    intro n hn
    unfold inR
    obtain ⟨a, b⟩ := pl c n.at_
    simp only [Prod.mk.injEq]
    by_cases c1 : a = i <;> by_cases c2 : b < j <;> by_cases c3 : b = j <;> simp [c1, c2, c3] <;> omega
  · intro x y hx hy px qy
    unfold inR at px
    simp only [decide_eq_true_eq] at px qy
    have := pl_mono (hL x hx) (hL y hy) hc (.inr ⟨by rw [qy]; exact px.1, by rw [qy]; exact px.2⟩)
    unfold lt2; omega
  · intro x px qx
    unfold inR at px
    simp only [decide_eq_true_eq] at px qx
    rw [qx] at px
    simp at px
theorem left_slot (c i j : Nat) (L : List Nd) : (leftR c i j L).filter (fun n => pl c n.at_ = (i, j)) = L.filter (fun n => pl c n.at_ = (i, j)) := by
  rw [List.filter_filter]
  apply List.filter_congr
  intro n hn
  unfold inR
  by_cases h : pl c n.at_ = (i, j)
  · rw [h]; simp
  · simp [h]

/-- A slot emptied. -/
theorem SW.clear {w : World} {W mb c : Nat} {fl : Nat → Nat} {sl : Nat → Nat → List Nd} {L : List Nd} (i j : Nat) (hi : i < 11) (hj : j < 64) (h : SW w W mb c fl sl (leftR c i j L)) (y : Nat) (y2 : y < 2 ^ 64) (y3 : ∀ t, t < 64 → y.testBit t = if t = j then false else (fl i).testBit t) :
    SW ((w.setCell ⟨W, 2 + i * 65 + 1 + j, none⟩ nilp).setCell ⟨W, 2 + i * 65, none⟩ (.int .u64 (y : Int))) W mb c (upf fl i y) (up sl i j []) (leftR c i (j + 1) L) := by
  have wb := h.wb.set i j hi hj [] y y2 (fun t ht => by rw [y3 t ht]; simp)
  have sub : ∀ n, n ∈ leftR c i (j + 1) L → n ∈ leftR c i j L := fun n hn => by
    rw [List.mem_filter] at hn ⊢
    refine ⟨hn.1, ?_⟩
    have := hn.2
    unfold inR at this ⊢
    simp only [Bool.not_eq_eq_eq_not, Bool.not_true, decide_eq_false_iff_not] at this ⊢
    omega
  have e : leftR c i (j + 1) L = (leftR c i j L).filter (fun n => !decide (pl c n.at_ = (i, j))) := by
    unfold leftR
    rw [List.filter_filter]
    apply List.filter_congr
    intro n hn
    unfold inR
    obtain ⟨a, b⟩ := pl c n.at_
    simp only [Prod.mk.injEq]
    by_cases c1 : a = i <;> by_cases c2 : b < j <;> by_cases c3 : b = j <;> simp [c1, c2, c3] <;> omega
  refine ⟨wb, fun a t ha ht => ?_, fun a t ha ht => ?_, ?_, fun n hn => h.nW n (sub n hn), fun n hn => h.lt n (sub n hn), h.c50⟩
  · by_cases c1 : a = i ∧ t = j
    · obtain ⟨rfl, rfl⟩ := c1
      rw [up_same]; trivial
    · rw [up_other _ _ _ _ c1]
      have hne : ∀ m ∈ sl a t, m.g ≠ W := fun m hm => h.nW m (h.of_slot ha ht hm).1
      exact ((h.seg a t ha ht).set _ _ _ hne).set _ _ _ hne
  · rw [e, List.filter_filter]
    by_cases c1 : a = i ∧ t = j
    · obtain ⟨rfl, rfl⟩ := c1
      rw [up_same, List.filter_eq_nil_iff.2]
      intro n _
      by_cases h : pl c n.at_ = (a, t) <;> simp [h]
    · rw [up_other _ _ _ _ c1]
      refine (h.mem a t ha ht).trans (List.Perm.of_eq (List.filter_congr (fun n _ => ?_)))
      by_cases h : pl c n.at_ = (a, t)
      · rw [h]
        simp only [Prod.mk.injEq, c1, decide_true, decide_false, Bool.not_false, Bool.and_self]
      · simp [h]
  · rw [e]
    exact List.Nodup.sublist ((List.filter_sublist).map Nd.g) h.gs
end Go.Proofs.YtbdjlhkgpblebaaDoor
