/- RunsBound: the parts. -/
import Derived.Test.YthhnemnnfbbamaaTK
import Derived.Test.YthhnemnnfbbamaaTS
import Derived.Test.YthhnemnnfbbamaaTE
namespace Go.Proofs.Ythhnemnnfbbamaa
open Go.RowKit Go.Shelf
set_option linter.unusedVariables false
set_option maxHeartbeats 400000
set_option maxRecDepth 100000

theorem good_pairwise {mn mx : Int} {L : List Sp} (h : Good mn mx L) : L.Pairwise (fun a b => a.1 ≤ b.1) := by
  induction L generalizing mn with
  | nil => exact .nil
  | cons s L ih =>
    refine .cons (fun t ht => ?_) (ih h.2.2.2)
    have := (h.2.2.2).mem ht
    have := h.2.1
    omega

theorem good_inj {mn mx : Int} {L : List Sp} (h : Good mn mx L) {s t : Sp} (hs : s ∈ L) (ht : t ∈ L) (e : s.1 = t.1) : s = t := by
  induction L generalizing mn with
  | nil => cases hs
  | cons u L ih =>
    rcases List.mem_cons.1 hs with rfl | hs' <;> rcases List.mem_cons.1 ht with rfl | ht'
    · rfl
    · have := (h.2.2.2).mem ht'; have := h.2.1; omega
    · have := (h.2.2.2).mem hs'; have := h.2.1; omega
    · exact ih h.2.2.2 hs' ht'

theorem sorted_self {mn mx : Int} {P L : List Sp} (h : Good mn mx L) (hp : P.Perm L) (hs : P.Pairwise (fun a b => a.1 ≤ b.1)) : P = L :=
  List.Perm.eq_of_pairwise (fun a b ha hb h1 h2 => good_inj h (hp.mem_iff.1 ha) hb (Int.le_antisymm h1 h2)) hs (good_pairwise h) hp

theorem good_inB {L : List Sp} (h : Good (-9223372036854775808) 9223372036854775807 L) : InB L := fun s hs => by have := h.mem hs; omega

/-- Join with no set: the set again, without a bound. -/
theorem join_self {w0 w : World} {b : Nat} {most : Int} {L : List Sp} (h : LS w0 w b most L) (hL : Good (-9223372036854775808) 9223372036854775807 L) (hlen : L.length ≤ 6000000000000) :
    Calls Try.prog 35 #[.pointer (some ⟨b, 0, none⟩), .pointer none] w fun e w' => ∃ b', e = .returned (.pointer (some ⟨b', 0, none⟩)) ∧ LS w w' b' 0 L :=
  (callsIn_wide.1 (join_in sort_ok (some ⟨b, 0, none⟩) none L [] w (hasRuns_ls h (by omega)) (hasRuns_nil w) (good_inB hL) (fun s hs => by cases hs) (by simp; omega))).mono fun e w' ⟨b', P, he, hp, hs, hl⟩ => by
    rw [List.append_nil] at hp
    obtain rfl := sorted_self hL hp hs
    rw [putL_self (A := []) (B := P) (by simpa using hL)] at hl
    exact ⟨b', he, hl⟩

theorem rdS_row {w : World} {a : Option Addr} {n c : Nat} {L : List Sp} (h : Row w (.slice a n c) L) : RdS w a L := by
  intro hne
  rcases Row.at h with ⟨e1, e2⟩ | ⟨g, c', sp, e1, e2⟩
  · exact absurd e2 hne
  · simp only [Value.slice.injEq] at e1
    obtain ⟨rfl, -, rfl⟩ := e1
    exact ⟨g, 0, rfl, fun i hi => ⟨by rw [Nat.zero_add]; exact e2.cell _ _ (cl_lo L i hi), by rw [Nat.zero_add]; exact e2.cell _ _ (cl_hi L i hi)⟩⟩

theorem rdS_drop {w : World} {g : Nat} {n c : Nat} {L : List Sp} (h : Row w (.slice (some ⟨g, 0, none⟩) n c) L) (d : Nat) : RdS w (some ⟨g, d * 2, none⟩) (L.drop d) := by
  intro hne
  have hd : d < L.length := by
    rcases Nat.lt_or_ge d L.length with h | h
    · exact h
    · rw [List.drop_of_length_le h] at hne; exact absurd rfl hne
  obtain ⟨b, off, e, hc⟩ := rdS_row h (fun e => by rw [e] at hd; simp at hd)
  simp only [Option.some.injEq, Addr.mk.injEq] at e
  obtain ⟨rfl, rfl, -⟩ := e
  refine ⟨g, d * 2, rfl, fun i hi => ?_⟩
  have hi2 : d + i < L.length := by simp at hi; omega
  have h1 := hc (d + i) hi2
  rw [Nat.zero_add, show (d + i) * 2 = d * 2 + i * 2 by omega] at h1
  have e : (L.drop d).getD i (0, 0) = L.getD (d + i) (0, 0) := by simp [List.getD]
  rw [e]
  exact h1

theorem RdS.grown {w w' : World} {a : Option Addr} {L : List Sp} (h : RdS w a L) (hg : w.grownBy w' none) : RdS w' a L := fun hne => by
  obtain ⟨b, off, e, hc⟩ := h hne
  exact ⟨b, off, e, fun i hi => ⟨cell_grown_none hg (hc i hi).1, cell_grown_none hg (hc i hi).2⟩⟩

/-- Runs of a set, all else as it was. -/
theorem runs_g {w0 w : World} {b : Nat} {most : Int} {L : List Sp} (h : LS w0 w b most L) (hlen : L.length ≤ 8000000000000) :
    Calls Try.prog 31 #[.pointer (some ⟨b, 0, none⟩)] w fun e w' => ∃ a c, e = .returned (.slice a L.length c) ∧ RdS w' a L ∧ Row w' (.slice a L.length c) L ∧ L.length ≤ c ∧ c ≤ 9223372036854775807 ∧ w.grownBy w' none := by
  obtain ⟨v, hv, hf⟩ := h.at_
  refine (runs_any b most v L w hv (by omega)).mono ?_
  rintro e w' ⟨v', rfl, hr, hf', hg⟩
  obtain ⟨a, c, rfl, -, h1, h2⟩ := hr.shape
  unfold maxLen at h1
  exact ⟨a, c, rfl, rdS_row hr, hr, h2, by omega, hg⟩

/-- What a bound leaves. -/
theorem bound_add {M lo hi : Int} {L : List Sp} (hM : 0 < M) (hl : (L.length : Int) ≤ M) (hL : Good (-9223372036854775808) 9223372036854775807 L) (hlo : -9223372036854775808 ≤ lo) (hhi : hi ≤ 9223372036854775807) :
    addS M lo hi L = (if M < (addS 0 lo hi L).length then (addS 0 lo hi L).drop ((addS 0 lo hi L).length - M.toNat) else addS 0 lo hi L) ∧ (addS 0 lo hi L).length ≤ L.length + 1 ∧ ((addS M lo hi L).length : Int) ≤ M ∧ Good (-9223372036854775808) 9223372036854775807 (addS 0 lo hi L) ∧ Good (-9223372036854775808) 9223372036854775807 (addS M lo hi L) := by
  have h1 := addS_good (most := 0) hL hlo hhi
  have h2 := addS_good (most := M) hL hlo hhi
  refine ⟨?_, h1.2, ?_, h1.1, h2.1⟩
  · unfold addS
    split
    · rw [if_neg (by omega)]
    · rw [boundF_zero]; unfold boundF; simp [hM]
  · unfold addS
    split
    · exact hl
    · unfold boundF; split <;> (try simp only [List.length_drop]) <;> omega

theorem bound_cut {M lo hi : Int} {L : List Sp} (hM : 0 < M) (hl : (L.length : Int) ≤ M) (hL : Good (-9223372036854775808) 9223372036854775807 L) :
    cutS M lo hi L = (if M < (cutS 0 lo hi L).length then (cutS 0 lo hi L).drop ((cutS 0 lo hi L).length - M.toNat) else cutS 0 lo hi L) ∧ (cutS 0 lo hi L).length ≤ L.length + 1 ∧ ((cutS M lo hi L).length : Int) ≤ M ∧ Good (-9223372036854775808) 9223372036854775807 (cutS 0 lo hi L) ∧ Good (-9223372036854775808) 9223372036854775807 (cutS M lo hi L) := by
  have h1 := cutS_good (lo := lo) (hi := hi) (most := 0) hL
  have h2 := cutS_good (lo := lo) (hi := hi) (most := M) hL
  refine ⟨?_, h1.2, ?_, h1.1, h2.1⟩
  · unfold cutS
    split
    · rw [if_neg (by omega)]
    · rw [boundF_zero]; unfold boundF; simp [hM]
  · unfold cutS
    split
    · exact hl
    · unfold boundF; split <;> (try simp only [List.length_drop]) <;> omega
end Go.Proofs.Ythhnemnnfbbamaa
