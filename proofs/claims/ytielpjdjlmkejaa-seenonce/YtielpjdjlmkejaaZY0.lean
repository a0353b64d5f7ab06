/- in: is a number in runs? Which numbers an acknowledgement tells. -/
import Derived.Test.YtielpjdjlmkejaaZX
import Derived.BigQuiet
namespace Go.Proofs.Ytielpjdjlmkejaa
open Go.RowKit
set_option linter.unusedVariables false
set_option maxRecDepth 100000
set_option maxHeartbeats 1000000

theorem in_any (a : Option Addr) (c : Nat) (L : List Sp) (x : Int) (w : World) (h : Row w (.slice a L.length c) L) :
    Calls Try.prog 17 #[.slice a L.length c, .int .i64 x] w fun e w' => e = .returned (.bool (memB x L)) ∧ w' = w := by
  obtain ⟨a', c', e0, -, hcm, hnc⟩ := h.shape
  cases e0
  unfold maxLen at hcm
  have HR := hide h
  clear h
  obtain ⟨m, hm⟩ : ∃ m, m = memB x L := ⟨_, rfl⟩
  rw [← hm]
  have HM := hide hm
  clear hm
  generalize hN : L.length = N at *
  have HN := hide hN
  clear hN
  go_enter Try.func17, Try.ntmps17
  go_wp2_with fail
  go_loopw [5] (fun i wr => ∃ k : Nat, k ≤ N ∧ i = .int .i64 k ∧ wr = w ∧ Hid (∀ s ∈ L.take k, s.2 < x ∨ x < s.1)) (fun i _ => N - (intOf i).toNat)
  case atStart => exact ⟨0, Nat.zero_le _, rfl, rfl, fun s hs => by simp at hs⟩
  case round =>
    obtain ⟨k, hk, rfl, rfl, H⟩ := hrel
    by_cases hlt : k < N
    · have hkL : k < L.length := by rw [unhide HN]; exact hlt
      obtain ⟨g, rfl, sp, hR⟩ : ∃ g, a = some ⟨g, 0, none⟩ ∧ ∃ sp, RowAt wr g c L sp := by
        rcases Row.at (unhide HR) with ⟨e1, e2⟩ | ⟨g, c', sp, e1, e2⟩
        · rw [e2] at hkL; simp at hkL
        · simp only [Value.slice.injEq] at e1
          obtain ⟨rfl, -, rfl⟩ := e1
          exact ⟨g, rfl, sp, e2⟩
      have c0 := hR.cell (k * 2) _ (cl_lo L k hkL)
      have c1 := hR.cell (k * 2 + 1) _ (cl_hi L k hkL)
      have hmem : L.getD k (0, 0) ∈ L := by rw [List.getD_eq_getElem?_getD, List.getElem?_eq_getElem hkL]; simp
      have hst : L.take (k + 1) = L.take k ++ [L.getD k (0, 0)] := by rw [List.take_add_one]; simp [List.getD, hkL]
      generalize L.getD k (0, 0) = y at *
      have kn : (k : Int) < (N : Int) := by omega
      have HLT := hide hlt
      clear hR hlt hkL hk
      by_cases h1 : y.1 ≤ x
      · have d1 : decide (y.1 ≤ x) = true := decide_eq_true h1
        by_cases h2 : x ≤ y.2
        · have d2 : decide (x ≤ y.2) = true := decide_eq_true h2
          have E : Hid (m = true) := (unhide HM).trans (memB_iff.2 ⟨y, hmem, h1, h2⟩)
          clear H hst hmem
          go_wp2_with fail
          go_ret
          exact ⟨by rw [unhide E]; rfl, rfl⟩
        · have d2 : decide (x ≤ y.2) = false := decide_eq_false h2
          have E : Hid (∀ s ∈ L.take (k + 1), s.2 < x ∨ x < s.1) := by
            intro s hs
            rw [hst] at hs
            rcases List.mem_append.1 hs with hs | hs
            · exact unhide H s hs
            · rw [List.mem_singleton] at hs; subst hs; exact .inl (by omega)
          clear H hst hmem h2
          go_wp2_with fail
          go_roundw
          case rel => exact ⟨k + 1, unhide HLT, by go_num, trivial, E⟩
          case measure => have := unhide HLT; simp [intOf]; omega
      · have d1 : decide (y.1 ≤ x) = false := decide_eq_false h1
        have E : Hid (∀ s ∈ L.take (k + 1), s.2 < x ∨ x < s.1) := by
          intro s hs
          rw [hst] at hs
          rcases List.mem_append.1 hs with hs | hs
          · exact unhide H s hs
          · rw [List.mem_singleton] at hs; subst hs; exact .inr (by omega)
        clear H hst hmem h1
        go_wp2_with fail
        go_roundw
        case rel => exact ⟨k + 1, unhide HLT, by go_num, trivial, E⟩
        case measure => have := unhide HLT; simp [intOf]; omega
    · obtain rfl : k = N := by omega
      have E : Hid (m = false) := by
        refine (unhide HM).trans (memB_false ?_)
        have := unhide H
        rw [← unhide HN, List.take_length] at this
        exact this
      have kn : ¬ (k : Int) < (k : Int) := by omega
      clear H
      go_wp2_with fail
      go_ret
      exact ⟨by rw [unhide E]; rfl, rfl⟩

/-- The runs that an acknowledgement tells. -/
theorem ack_row {s : Sn} {now ex : Int} {wr wr' : World} {cs : Array Value} (h : AckF s now ex wr wr' cs) : ∃ ra rc, cs[12]? = some (.slice ra s.L.length rc) ∧ Row wr' (.slice ra s.L.length rc) s.L.reverse := by
  rcases h with ⟨h1, rfl⟩ | ⟨-, a, c, rfl, h2, -⟩
  · rw [h1]
    exact ⟨none, 0, rfl, row_nil _⟩
  · exact ⟨a, c, rfl, h2⟩

theorem cnt_take {mn mx : Int} {L : List Sp} (h : Good mn mx L) (h0 : 0 ≤ mn) (hx : mx ≤ 4611686018427387903) (k : Nat) : 0 ≤ cnt (L.take k) ∧ cnt (L.take k) ≤ 4611686018427387904 := by
  have : ∀ (L : List Sp) (mn : Int), 0 ≤ mn → Good mn mx L → 0 ≤ cnt L ∧ (L = [] ∨ cnt L ≤ mx - mn + 1) := by
    intro L
    induction L with
    | nil => intro mn h0 hg; exact ⟨by simp [cnt], .inl rfl⟩
    | cons s L ih =>
      intro mn h0 hg
      have h1 := hg.1; have h2 := hg.2.1; have h3 := hg.2.2.1
      obtain ⟨i1, i2⟩ := ih (s.2 + 2) (by omega) hg.2.2.2
      refine ⟨by simp only [cnt]; omega, .inr ?_⟩
      simp only [cnt]
      rcases i2 with rfl | i2
      · simp only [cnt]; omega
      · omega
  have hg : Good mn mx (L.take k) := by
    have e := List.take_append_drop k L
    rw [← e] at h
    exact h.left
  obtain ⟨i1, i2⟩ := this _ mn h0 hg
  refine ⟨i1, ?_⟩
  rcases i2 with i2 | i2
  · rw [i2]; simp [cnt]
  · omega
theorem cnt_step (L : List Sp) (k : Nat) (hk : k < L.length) : cnt (L.take (k + 1)) = cnt (L.take k) + ((L.getD k (0, 0)).2 - (L.getD k (0, 0)).1) + 1 := by
  have hst : L.take (k + 1) = L.take k ++ [L.getD k (0, 0)] := by rw [List.take_add_one]; simp [List.getD, hk]
  have ap : ∀ A B : List Sp, cnt (A ++ B) = cnt A + cnt B := by
    intro A B
    induction A with
    | nil => simp [cnt]
    | cons a A ih => simp only [List.cons_append, cnt, ih]; omega
  rw [hst, ap]
  simp only [cnt]
  omega
theorem rev_at (L : List Sp) (k : Nat) (hk : k < L.length) : L.reverse.getD (L.length - 1 - k) (0, 0) = L.getD k (0, 0) := by
  rw [List.getD_eq_getElem?_getD, List.getElem?_reverse (by omega), List.getD_eq_getElem?_getD]
  congr 2
  omega
theorem pair_at {mn mx : Int} {L : List Sp} (h : Good mn mx L) (k : Nat) (hk : k + 1 < L.length) : (L.getD k (0, 0)).2 + 1 < (L.getD (k + 1) (0, 0)).1 := by
  have e := List.take_append_drop (k + 1) L
  have h' := h
  rw [← e] at h'
  refine h'.mid ?_ ?_
  · rw [List.getD_eq_getElem?_getD, List.getElem?_eq_getElem (by omega), Option.getD_some]
    exact List.mem_take_iff_getElem.2 ⟨k, by omega, rfl⟩
  · rw [List.getD_eq_getElem?_getD, List.getElem?_eq_getElem (by omega), Option.getD_some]
    exact List.mem_drop_iff_getElem.2 ⟨0, by omega, by simp⟩
end Go.Proofs.Ytielpjdjlmkejaa
