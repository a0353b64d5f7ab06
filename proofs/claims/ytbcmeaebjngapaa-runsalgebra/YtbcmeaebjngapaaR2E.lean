/- RunsAlgebra: lists held against one another; Join of two sets; Len. -/
import Derived.Test.YtbcmeaebjngapaaOA
import Derived.Test.YtbcmeaebjngapaaTS
import Derived.Test.YtbcmeaebjngapaaJK
import Derived.Test.YtbcmeaebjngapaaSH
import Derived.Test.YtbcmeaebjngapaaR2P
import Derived.Laws.StructEq
import Derived.BigQuiet
import Derived.Deep.RegionHeld3
namespace Go.Proofs.Ytbcmeaebjngapaa
open Go.RowKit Go.Shelf
set_option linter.unusedVariables false
set_option maxHeartbeats 400000
set_option maxRecDepth 100000

/-- Spans that a slice reads as. -/
def RdS (w : World) (a : Option Addr) (L : List Sp) : Prop := L ≠ [] → ∃ b off, a = some ⟨b, off, none⟩ ∧ ∀ i, i < L.length → w.cell? ⟨b, off + i * 2, none⟩ = some (.int .i64 (L.getD i (0, 0)).1) ∧ w.cell? ⟨b, off + i * 2 + 1, none⟩ = some (.int .i64 (L.getD i (0, 0)).2)

theorem alike_true (a a' : Option Addr) (n c c' : Nat) (L : List Sp) (w : World) (hn : L.length = n) (h1 : RdS w a L) (h2 : RdS w a' L) (hlen : n ≤ 4611686018427387904) (hc : n ≤ c ∧ c ≤ 9223372036854775807) (hc' : n ≤ c' ∧ c' ≤ 9223372036854775807) :
    Calls Try.prog 12 #[.slice a n c, .slice a' n c'] w fun e w' => e = .returned (.bool true) ∧ ∃ q, w' = w.drewN q := by
  have H1 := hide h1; have H2 := hide h2; have HN := hide hn
  clear h1 h2 hn
  go_enter Try.func12, Try.ntmps12
  go_wp2
  go_loopw [5, 6] (fun ok i wr => ∃ k q : Nat, k ≤ n ∧ ok = .bool true ∧ i = .int .i64 k ∧ wr = w.drewN q) (fun _ i _ => n - (intOf i).toNat)
  case atStart => exact ⟨0, 0, Nat.zero_le _, rfl, rfl, rfl⟩
  case round =>
    obtain ⟨k, q, hk, rfl, rfl, rfl⟩ := hrel
    by_cases hlt : k < n
    · have hkL : k < L.length := by rw [unhide HN]; exact hlt
      have hne : L ≠ [] := fun e => by rw [e] at hkL; simp at hkL
      obtain ⟨g, off, rfl, hx⟩ := unhide H1 hne
      obtain ⟨g', off', rfl, hx'⟩ := unhide H2 hne
      have c0 := (hx k hkL).1
      have c1 := (hx k hkL).2
      have d0 := (hx' k hkL).1
      have d1 := (hx' k hkL).2
      generalize (L.getD k (0, 0)).1 = x at *
      generalize (L.getD k (0, 0)).2 = y at *
      have hkn : (k : Int) < (n : Int) := by omega
      have hkd : decide ((k : Int) < (n : Int)) = true := decide_eq_true hkn
      have HL := hide hlt
      clear hx hx' hkL hne hlt hk
      go_wp2
      go_quiet (fail)
      go_wp2
      exact ⟨⟨k + 1, _, unhide HL, rfl, by go_num, rfl⟩, by simp [intOf]; have := unhide HL; omega⟩
    · obtain rfl : k = n := by omega
      have hno : ¬ (k : Int) < (k : Int) := by omega
      have hnd : decide ((k : Int) < (k : Int)) = false := decide_eq_false hno
      go_wp2
      go_ret
      exact ⟨rfl, q, rfl⟩
theorem good_pairwise {mn mx : Int} {L : List Sp} (h : Good mn mx L) : L.Pairwise (fun a b => a.1 ≤ b.1) := by
  induction L generalizing mn with
  | nil => exact .nil
  | cons s L ih =>
    refine .cons (fun t ht => ?_) (ih h.2.2.2)
    have := (h.2.2.2).mem ht
    have := h.2.1
    omega

theorem good_inj {mn mx : Int} {L : List Sp} (h : Good mn mx L) {s t : Sp} (hs : s ∈ L) (ht : t ∈ L) (e : s.1 = t.1) : s = t := by
  induction L generalizing mn with
  | nil => cases hs
  | cons u L ih =>
    rcases List.mem_cons.1 hs with rfl | hs' <;> rcases List.mem_cons.1 ht with rfl | ht'
    · rfl
    · have := (h.2.2.2).mem ht'; have := h.2.1; omega
    · have := (h.2.2.2).mem hs'; have := h.2.1; omega
    · exact ih h.2.2.2 hs' ht'

theorem sorted_self {mn mx : Int} {P L : List Sp} (h : Good mn mx L) (hp : P.Perm L) (hs : P.Pairwise (fun a b => a.1 ≤ b.1)) : P = L :=
  List.Perm.eq_of_pairwise (fun a b ha hb h1 h2 => good_inj h (hp.mem_iff.1 ha) hb (Int.le_antisymm h1 h2)) hs (good_pairwise h) hp

theorem good_inB {L : List Sp} (h : Good (-9223372036854775808) 9223372036854775807 L) : InB L := fun s hs => by have := h.mem hs; omega

theorem rdS_row {w : World} {a : Option Addr} {n c : Nat} {L : List Sp} (h : Row w (.slice a n c) L) : RdS w a L := by
  intro hne
  rcases Row.at h with ⟨e1, e2⟩ | ⟨g, c', sp, e1, e2⟩
  · exact absurd e2 hne
  · simp only [Value.slice.injEq] at e1
    obtain ⟨rfl, -, rfl⟩ := e1
    exact ⟨g, 0, rfl, fun i hi => ⟨by rw [Nat.zero_add]; exact e2.cell _ _ (cl_lo L i hi), by rw [Nat.zero_add]; exact e2.cell _ _ (cl_hi L i hi)⟩⟩

theorem RdS.grown {w w' : World} {a : Option Addr} {L : List Sp} (h : RdS w a L) (hg : w.grownBy w' none) : RdS w' a L := fun hne => by
  obtain ⟨b, off, e, hc⟩ := h hne
  exact ⟨b, off, e, fun i hi => ⟨cell_grown_none hg (hc i hi).1, cell_grown_none hg (hc i hi).2⟩⟩


/-- Two lists that read the same. -/
theorem alike_rows {w : World} {v u : Value} {L : List Sp} (h1 : Row w v L) (h2 : Row w u L) (hlen : L.length ≤ 8000000000000) :
    Calls Try.prog 12 #[v, u] w fun e w' => e = .returned (.bool true) ∧ ∃ q, w' = w.drewN q := by
  obtain ⟨a, c, rfl, -, k1, k2⟩ := h1.shape
  obtain ⟨a', c', rfl, -, k3, k4⟩ := h2.shape
  unfold maxLen at k1 k3
  exact alike_true a a' L.length c c' L w rfl (rdS_row h1) (rdS_row h2) (by omega) ⟨k2, by omega⟩ ⟨k4, by omega⟩

theorem len_ls (b : Nat) (most : Int) (v : Value) (L : List Sp) (w : World) (h0 : SetAt w b most v L) :
    Calls Try.prog 13 #[.pointer (some ⟨b, 0, none⟩)] w fun e w' => e = .returned (.int .i64 L.length) ∧ w' = w := by
  have hl := list_any b most v L w h0
  obtain ⟨a, c, rfl, -, -, -⟩ := h0.row.shape
  clear h0
  generalize L.length = n at *
  go_enter Try.func13, Try.ntmps13
  go_wp2_with (refine hl.mono ?_; rintro e w' ⟨rfl, hw'⟩; subst w')
  all_goals go_ret
  all_goals exact ⟨rfl, rfl⟩

/-- What is in one or the other. -/
def joinL (La Lb : List Sp) : List Sp := putL [] (La ++ Lb)
theorem joinL_good {La Lb : List Sp} (ha : Good (-9223372036854775808) 9223372036854775807 La) (hb : Good (-9223372036854775808) 9223372036854775807 Lb) : Good (-9223372036854775808) 9223372036854775807 (joinL La Lb) ∧ (joinL La Lb).length ≤ La.length + Lb.length := by
  have h : InB (La ++ Lb) := fun s hs => by rcases List.mem_append.1 hs with h | h; exact good_inB ha s h; exact good_inB hb s h
  have := putL_good (L := []) trivial h
  exact ⟨this.1, by have h2 := this.2; simp only [List.length_nil, List.length_append, Nat.zero_add] at h2; exact h2⟩
theorem joinL_mem {La Lb : List Sp} (ha : Good (-9223372036854775808) 9223372036854775807 La) (hb : Good (-9223372036854775808) 9223372036854775807 Lb) (x : Int) : memB x (joinL La Lb) = (memB x La || memB x Lb) := by
  have h : InB (La ++ Lb) := fun s hs => by rcases List.mem_append.1 hs with h | h; exact good_inB ha s h; exact good_inB hb s h
  have := memB_putL (L := []) trivial h x
  rw [memB_app] at this
  have e : memB x [] = false := rfl
  rw [e] at this
  unfold joinL
  rw [Bool.eq_iff_iff, this]
  simp

/-- Join, whatever the two are. -/
theorem join_any {w : World} {pa pb : Option Addr} {La Lb : List Sp} (ha : HasRuns w (.pointer pa) La) (hb : HasRuns w (.pointer pb) Lb) (gA : Good (-9223372036854775808) 9223372036854775807 La) (gB : Good (-9223372036854775808) 9223372036854775807 Lb) (hlen : La.length + Lb.length ≤ 6000000000000) :
    Calls Try.prog 8 #[.pointer pa, .pointer pb] w fun e w' => ∃ b', e = .returned (.pointer (some ⟨b', 0, none⟩)) ∧ LS w w' b' 0 (joinL La Lb) :=
  (callsIn_wide.1 (join_in sort_ok pa pb La Lb w ha hb (good_inB gA) (good_inB gB) (by omega))).mono fun e w' ⟨b', P, he, hp, hs, hl⟩ => by
    have h : InB (La ++ Lb) := fun s hs => by rcases List.mem_append.1 hs with h | h; exact good_inB gA s h; exact good_inB gB s h
    rw [putL_eq (fun s hs => h s (hp.mem_iff.1 hs)) h (fun s => hp.mem_iff)] at hl
    exact ⟨b', he, hl⟩

/-- Sets that hold the same numbers have the same runs. -/
theorem good_same {A B : List Sp} (hA : Good (-9223372036854775808) 9223372036854775807 A) (hB : Good (-9223372036854775808) 9223372036854775807 B) (h : ∀ x, memB x A = memB x B) : A = B := good_ext hA hB (fun x => by rw [h x])

theorem join_back {La Lb : List Sp} (ha : Good (-9223372036854775808) 9223372036854775807 La) (hb : Good (-9223372036854775808) 9223372036854775807 Lb) : joinL (meetL La Lb) (lessL La Lb) = La :=
  good_same (joinL_good (meet_good ha hb) (less_good ha hb)).1 ha (fun x => by rw [joinL_mem (meet_good ha hb) (less_good ha hb), meet_mem ha hb, less_mem ha hb]; cases memB x La <;> cases memB x Lb <;> rfl)
theorem join_turn {La Lb : List Sp} (ha : Good (-9223372036854775808) 9223372036854775807 La) (hb : Good (-9223372036854775808) 9223372036854775807 Lb) : joinL Lb La = joinL La Lb :=
  good_same (joinL_good hb ha).1 (joinL_good ha hb).1 (fun x => by rw [joinL_mem hb ha, joinL_mem ha hb, Bool.or_comm])
theorem meet_turn {La Lb : List Sp} (ha : Good (-9223372036854775808) 9223372036854775807 La) (hb : Good (-9223372036854775808) 9223372036854775807 Lb) : meetL Lb La = meetL La Lb :=
  good_same (meet_good hb ha) (meet_good ha hb) (fun x => by rw [meet_mem hb ha, meet_mem ha hb, Bool.and_comm])
theorem join_nil {La : List Sp} (ha : Good (-9223372036854775808) 9223372036854775807 La) : joinL La [] = La := by
  have h0 : Good (-9223372036854775808) 9223372036854775807 [] := by unfold Good; trivial
  exact good_same (joinL_good ha h0).1 ha (fun x => by rw [joinL_mem ha h0]; simp [memB])
theorem less_nil (La : List Sp) : La.flatMap (fun r => [(r.1, r.2)]) = La := by
  induction La with
  | nil => rfl
  | cons s La ih => rw [List.flatMap_cons, ih]; rfl
end Go.Proofs.Ytbcmeaebjngapaa
