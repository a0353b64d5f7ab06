/- RV and RW, one text. -/
import Derived.Test.YtcojhjnledeciaaRQr
import Derived.Test.YtcojhjnledeciaaSAu
import Derived.Test.YtcojhjnledeciaaOA
import Derived.BigQuiet
import Derived.Deep.RegionHeld3
namespace Go.Proofs.Ytcojhjnledeciaa.Kr
open Go.RowKit
set_option linter.unusedVariables false
set_option maxHeartbeats 400000
set_option maxRecDepth 100000

theorem sum_any (a b : Int) (w : World) (ha : 0 ≤ a ∧ a ≤ 18446744073709551615) (hb : 0 ≤ b ∧ b ≤ 18446744073709551615) :
    Calls Try.prog 62 #[.int .u64 a, .int .u64 b] w fun e w' => e = .returned (.int .u64 (min (a + b) 18446744073709551615)) ∧ w' = w := by
  by_cases h : 18446744073709551615 < a + b
  · rw [show min (a + b) 18446744073709551615 = 18446744073709551615 by omega]
    have hw : IntKind.u64.wrap (18446744073709551615 - b) = 18446744073709551615 - b := by rw [IntKind.wrap_u64]; omega
    have h1 : 18446744073709551615 - b < a := by omega
    go_enter Try.func62, Try.ntmps62
    go_wp2
    go_ret
    exact ⟨rfl, rfl⟩
  · rw [show min (a + b) 18446744073709551615 = a + b by omega]
    have hw : IntKind.u64.wrap (18446744073709551615 - b) = 18446744073709551615 - b := by rw [IntKind.wrap_u64]; omega
    have hw2 : IntKind.u64.wrap (a + b) = a + b := by rw [IntKind.wrap_u64]; omega
    have h1 : ¬ 18446744073709551615 - b < a := by omega
    go_enter Try.func62, Try.ntmps62
    go_wp2
    go_ret
    exact ⟨rfl, rfl⟩

/-- Spans that a slice reads as. -/
def RdR (w : World) (a : Option Addr) (L : List Sp) : Prop := L ≠ [] → ∃ b off, a = some ⟨b, off, none⟩ ∧ ∀ i, i < L.length → w.cell? ⟨b, off + i * 2, none⟩ = some (.int .u64 (L.getD i (0, 0)).1) ∧ w.cell? ⟨b, off + i * 2 + 1, none⟩ = some (.int .u64 (L.getD i (0, 0)).2)
theorem RdR.grown {w w' : World} {a : Option Addr} {L : List Sp} (h : RdR w a L) (hg : w.grownBy w' none) : RdR w' a L := fun hne => by
  obtain ⟨b, off, e, hc⟩ := h hne
  exact ⟨b, off, e, fun i hi => ⟨cell_grown_none hg (hc i hi).1, cell_grown_none hg (hc i hi).2⟩⟩
theorem rdR_row {w : World} {a : Option Addr} {n c : Nat} {L : List Sp} (h : Row w (.slice a n c) L) : RdR w a L := by
  intro hne
  rcases Row.at h with ⟨e1, e2⟩ | ⟨g, c', sp, e1, e2⟩
  · exact absurd e2 hne
  · simp only [Value.slice.injEq] at e1
    obtain ⟨rfl, -, rfl⟩ := e1
    exact ⟨g, 0, rfl, fun i hi => ⟨by rw [Nat.zero_add]; exact e2.cell _ _ (cl_lo L i hi), by rw [Nat.zero_add]; exact e2.cell _ _ (cl_hi L i hi)⟩⟩

/-- Spans of uint64. -/
def VB (L : List Sp) : Prop := ∀ s ∈ L, 0 ≤ s.1 ∧ s.1 ≤ s.2 ∧ s.2 ≤ 18446744073709551615
theorem good_vb {L : List Sp} (h : Good 0 18446744073709551615 L) : VB L := fun s hs => h.mem hs

theorem cnt_take_nonneg {L : List Sp} (h : VB L) (k : Nat) : 0 ≤ cnt (L.take k) := by
  induction L generalizing k with
  | nil => simp [cnt]
  | cons s L ih =>
    cases k with
    | zero => simp [cnt]
    | succ k =>
      have h1 := h s (by simp)
      have h2 := ih (fun t ht => h t (by simp [ht])) k
      simp only [List.take_succ_cons, cnt]
      omega

theorem many_any (a : Option Addr) (n c : Nat) (L : List Sp) (w : World) (hn : L.length = n) (hrd : RdR w a L) (hv : VB L) (hc : n ≤ c ∧ c ≤ 9223372036854775807) :
    Calls Try.prog 28 #[.slice a n c] w fun e w' => e = .returned (.int .u64 (Ku.toldF L)) ∧ w.grownBy w' none := by
  have HRD := hide hrd; have HN := hide hn; have HV := hide hv
  clear hrd hn hv
  go_enter Try.func28, Try.ntmps28
  go_wp2
  go_loopw [3, 4] (fun u i wr => ∃ k : Nat, k ≤ n ∧ i = .int .i64 k ∧ u = .int .u64 (Ku.toldF (L.take k)) ∧ w.grownBy wr none) (fun _ i _ => n - (intOf i).toNat)
  case atStart => exact ⟨0, Nat.zero_le _, rfl, rfl, grown_self _ _⟩
  case round =>
    obtain ⟨k, hk, rfl, rfl, hgw⟩ := hrel
    by_cases hlt : k < n
    · have hkL : k < L.length := by rw [unhide HN]; exact hlt
      obtain ⟨g, off, rfl, hcs⟩ := unhide HRD (fun e => by rw [e] at hkL; simp at hkL)
      have c0 := cell_grown_none hgw (hcs k hkL).1
      have c1 := cell_grown_none hgw (hcs k hkL).2
      have hvb := unhide HV (L.getD k (0, 0)) (by simp [List.getD, hkL])
      have hst : cnt (L.take (k + 1)) = cnt (L.take k) + ((L.getD k (0, 0)).2 - (L.getD k (0, 0)).1 + 1) := Ku.cnt_take_succ L k hkL
      have h0 := cnt_take_nonneg (unhide HV) k
      have hT : Hid (Ku.toldF (L.take (k + 1)) = min (Ku.toldF (L.take k) + min ((L.getD k (0, 0)).2 - (L.getD k (0, 0)).1 + 1) 18446744073709551615) 18446744073709551615) := by
        show _ = _
        unfold Ku.toldF
        rw [hst]
        omega
      have ht0 : 0 ≤ Ku.toldF (L.take k) ∧ Ku.toldF (L.take k) ≤ 18446744073709551615 := by unfold Ku.toldF; omega
      generalize Ku.toldF (L.take k) = t at *
      generalize (L.getD k (0, 0)).1 = lo at *
      generalize (L.getD k (0, 0)).2 = hi at *
      have hw : IntKind.u64.wrap (hi - lo) = hi - lo := by rw [IntKind.wrap_u64]; omega
      have hb1 : 0 ≤ hi - lo ∧ hi - lo ≤ 18446744073709551615 := by omega
      have hb2 : 0 ≤ (1 : Int) ∧ (1 : Int) ≤ 18446744073709551615 := by omega
      have hb4 : 0 ≤ min (hi - lo + 1) 18446744073709551615 ∧ min (hi - lo + 1) 18446744073709551615 ≤ 18446744073709551615 := by omega
      have hkn : (k : Int) < (n : Int) := by omega
      have HLT := hide hlt; have HG := hide hgw
      clear hgw hcs hst h0 hkL hk hvb
      go_wp2
      go_quiet (first | (go_at_call 62; exact Calls.quiet_of_same (sum_any _ _ _ (by assumption) (by assumption))))
      go_wp2
      exact ⟨⟨k + 1, unhide HLT, by go_num, by rw [unhide hT], grown_trans (unhide HG) (grown_drewN _ _)⟩, by simp [intOf]; have := unhide HLT; omega⟩
    · obtain rfl : k = n := by omega
      have e : L.take k = L := by rw [← unhide HN]; simp
      rw [e]
      have hno : ¬ (k : Int) < (k : Int) := by omega
      go_wp2
      go_ret
      exact ⟨rfl, hgw⟩
end Go.Proofs.Ytcojhjnledeciaa.Kr

namespace Go.Proofs.Ytcojhjnledeciaa.Kr
open Go.RowKit
set_option linter.unusedVariables false
set_option maxHeartbeats 800000
set_option maxRecDepth 100000

/-- Within, as the document has it. -/
def withinR (lo hi : Int) : List Sp → List Sp
  | [] => []
  | s :: L => if max lo s.1 ≤ min hi s.2 then (max lo s.1, min hi s.2) :: withinR lo hi L else withinR lo hi L

theorem withinR_append (lo hi : Int) (A B : List Sp) : withinR lo hi (A ++ B) = withinR lo hi A ++ withinR lo hi B := by
  induction A with
  | nil => rfl
  | cons s A ih => simp only [List.cons_append, withinR]; split <;> simp [ih]

theorem withinR_length (lo hi : Int) (L : List Sp) : (withinR lo hi L).length ≤ L.length := by
  induction L with
  | nil => simp [withinR]
  | cons s L ih => simp only [withinR]; split <;> simp <;> omega

theorem withinR_eq {lo hi : Int} {L : List Sp} (h : ∀ s ∈ L, s.1 ≤ s.2) (hlh : lo ≤ hi) : withinR lo hi L = withinF lo hi L := by
  induction L with
  | nil => rfl
  | cons s L ih =>
    have h1 := h s (by simp)
    simp only [withinR, withinF, ih (fun t ht => h t (by simp [ht]))]
    by_cases hc : s.1 ≤ hi ∧ lo ≤ s.2
    · rw [if_pos (by omega), if_pos hc]
      unfold clip
      rw [Int.max_comm, Int.min_comm]
    · rw [if_neg (by omega), if_neg hc]

theorem within_ref (a : Option Addr) (n c : Nat) (L : List Sp) (lo hi : Int) (w : World) (hn : L.length = n) (hrd : RdR w a L) (hv : VB L) (hc : n ≤ c ∧ c ≤ 9223372036854775807) (hb : n ≤ 8000000000000) (hlo : 0 ≤ lo ∧ lo ≤ 18446744073709551615) (hhi : 0 ≤ hi ∧ hi ≤ 18446744073709551615) :
    Calls Try.prog 22 #[.slice a n c, .int .u64 lo, .int .u64 hi] w fun e w' => ∃ v', e = .returned v' ∧ Row w' v' (withinR lo hi L) ∧ Fresh w v' ∧ w.grownBy w' none := by
  have HRD := hide hrd; have HN := hide hn; have HV := hide hv
  clear hrd hn hv
  go_enter Try.func22, Try.ntmps22
  go_wp2
  go_loopw [7, 8] (fun o i wr => ∃ k : Nat, k ≤ n ∧ i = .int .i64 k ∧ Row wr o (withinR lo hi (L.take k)) ∧ Fresh w o ∧ w.grownBy wr none) (fun _ i _ => n - (intOf i).toNat)
  case atStart => exact ⟨0, Nat.zero_le _, rfl, row_nil _, fresh_nil _, grown_self _ _⟩
  case round =>
    obtain ⟨k, hk, rfl, hrow, hfr, hgw⟩ := hrel
    by_cases hlt : k < n
    · have hkL : k < L.length := by rw [unhide HN]; exact hlt
      obtain ⟨g, off, rfl, hcs⟩ := unhide HRD (fun e => by rw [e] at hkL; simp at hkL)
      have c0 := cell_grown_none hgw (hcs k hkL).1
      have c1 := cell_grown_none hgw (hcs k hkL).2
      have hvb := unhide HV (L.getD k (0, 0)) (by simp [List.getD, hkL])
      have hst : L.take (k + 1) = L.take k ++ [L.getD k (0, 0)] := by rw [List.take_add_one]; simp [List.getD, hkL]
      have hwi : withinR lo hi (L.take (k + 1)) = withinR lo hi (L.take k) ++ (if max lo (L.getD k (0, 0)).1 ≤ min hi (L.getD k (0, 0)).2 then [(max lo (L.getD k (0, 0)).1, min hi (L.getD k (0, 0)).2)] else []) := by
        rw [hst, withinR_append]
        simp only [withinR]
      have hXl : (withinR lo hi (L.take k)).length ≤ 8000000000000 := by have := withinR_length lo hi (L.take k); have := List.length_take_le k L; omega
      generalize (L.getD k (0, 0)).1 = s1 at *
      generalize (L.getD k (0, 0)).2 = s2 at *
      generalize withinR lo hi (L.take k) = X at *
      have hkn : (k : Int) < (n : Int) := by omega
      have HLT := hide hlt; have HG := hide hgw; have HF := hide hfr
      clear hcs hst hkL hk hlt
      obtain ⟨A, B, hAB⟩ : ∃ A B : Int, (max lo s1 = A ∧ min hi s2 = B) := ⟨_, _, rfl, rfl⟩
      obtain ⟨hA, hB⟩ := hAB
      rw [hA, hB] at hwi
      by_cases hcond : A ≤ B
      · rw [if_pos hcond] at hwi
        obtain ⟨v', w', hr, hro, hmo, hnn⟩ := app_one wr u7 X A B 26 hrow (by omega)
        obtain ⟨hg', hf'⟩ := hmo.fresh (grown_trans hgw (grown_alloc _ _)) hfr
        rw [← hwi] at hro
        have F := hide (And.intro hro (And.intro hf' hg'))
        obtain ⟨ao, co, rfl, -, -, -⟩ := hrow.shape
        clear hro hmo hnn hg' hf' hrow hfr hgw hwi hXl
        generalize X.length = xl at *
        rcases (show (lo < s1 ∧ A = s1) ∨ (s1 ≤ lo ∧ A = lo) by omega) with ⟨p1, e1⟩ | ⟨p1, e1⟩ <;> rcases (show (s2 < hi ∧ B = s2) ∨ (hi ≤ s2 ∧ B = hi) by omega) with ⟨p2, e2⟩ | ⟨p2, e2⟩
        all_goals
          subst e1 e2
          clear hA hB
          go_wp2_with (at_builtin; refine wpList_append_run _ rfl _ _ 26 26 rfl _ _ rfl rfl hr ?_)
          exact ⟨⟨k + 1, unhide HLT, by go_num, unhide F⟩, by simp [intOf]; have := unhide HLT; omega⟩
      · rw [if_neg hcond, List.append_nil] at hwi
        rw [← hwi] at hrow
        have F := hide hrow
        obtain ⟨ao, co, rfl, -, -, -⟩ := hrow.shape
        clear hrow hfr hgw hwi hXl
        rcases (show (lo < s1 ∧ A = s1) ∨ (s1 ≤ lo ∧ A = lo) by omega) with ⟨p1, e1⟩ | ⟨p1, e1⟩ <;> rcases (show (s2 < hi ∧ B = s2) ∨ (hi ≤ s2 ∧ B = hi) by omega) with ⟨p2, e2⟩ | ⟨p2, e2⟩
        · omega
        all_goals
          subst e1 e2
          clear hA hB
          go_wp2_with fail
          exact ⟨⟨k + 1, unhide HLT, by go_num, unhide F, unhide HF, unhide HG⟩, by simp [intOf]; have := unhide HLT; omega⟩
    · obtain rfl : k = n := by omega
      have e : L.take k = L := by rw [← unhide HN]; simp
      rw [e] at hrow
      have hno : ¬ (k : Int) < (k : Int) := by omega
      have F := hide (And.intro hrow (And.intro hfr hgw))
      obtain ⟨ao, co, rfl, -, -, -⟩ := hrow.shape
      clear hrow hfr hgw
      generalize (withinR lo hi L).length = xl at *
      go_wp2
      go_ret
      exact ⟨_, rfl, unhide F⟩
end Go.Proofs.Ytcojhjnledeciaa.Kr
