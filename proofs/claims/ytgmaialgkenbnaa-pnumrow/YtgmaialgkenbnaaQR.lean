/- Layer 3: PnumRow. -/
import Derived.Test.YtgmaialgkenbnaaQY
import Derived.Test.YtgmaialgkenbnaaOS
namespace Go.Proofs.Ytgmaialgkenbnaa
open Go.RowKit
set_option linter.unusedVariables false
set_option maxRecDepth 100000

theorem cell_lt {w : World} {a : Addr} {v : Value} (h : w.cell? a = some v) : a.block < w.heap.size := by
  unfold World.cell? at h
  split at h
  · rename_i e; exact (Array.getElem?_eq_some_iff.1 e).1
  · cases h

/-- What the sender's and the receiver's numbers keep. -/
def RowOk (N A L : Int) : Prop := -1 ≤ A ∧ A ≤ L ∧ L ≤ 4611686018427387903 ∧ -9223372036854775808 ≤ N ∧ N ≤ 9223372036854775807 ∧ ((L = -1 ∧ A = -1) ∨ (L < N ∧ N ≤ 4611686018427387904))

theorem rowOk_gap {N A L g : Int} (h : RowOk N A L) (h0 : 0 ≤ g) (h1 : g < 4294967296) : ∃ N', IntKind.i64.wrap (N + g) = N' ∧ -9223372036854775808 ≤ N' ∧ N' ≤ 9223372036854775807 ∧ ((L = -1 ∧ A = -1) ∨ L < N') := by
  unfold RowOk at h
  refine ⟨_, rfl, ?_⟩
  rw [IntKind.wrap_i64]
  omega

set_option maxHeartbeats 3200000 in
theorem row_walk (first : Int) (a : Option Addr) (len cap : Nat) (w : World) (hf : -9223372036854775808 ≤ first ∧ first ≤ 9223372036854775807) (hs : IsSteps w a len cap) :
    Calls Try.prog 8 #[.int .i64 first, .slice a len cap] w fun e w' => e = .returned (.bool true) ∧ Below w.heap.size w w' := by
  obtain ⟨hlc, hcm, hcs⟩ := hs
  unfold maxLen at hcm
  have HC := hide hcs
  clear hcs
  have HF := hide hf
  clear hf
  go_enter Try.func8, Try.ntmps8
  go_wp2_with fail
  refine (awake_any _).mono ?_
  rintro e w1 ⟨rfl, bel⟩
  have HB1 := hide bel
  clear bel
  go_wp2_with fail
  go_loopw [6, 7, 8, 9] (fun n ac la i wr => ∃ (k : Nat) (N A L : Int), k ≤ len ∧ i = .int .i64 k ∧ n = .int .i64 N ∧ ac = .int .i64 A ∧ la = .int .i64 L ∧ RowOk N A L ∧ Below w.heap.size w wr) (fun _ _ _ i _ => len - (intOf i).toNat)
  case atStart => exact ⟨0, first, -1, -1, Nat.zero_le _, rfl, rfl, rfl, rfl, by have := unhide HF; unfold RowOk; omega, unhide HB1⟩
  case round =>
    obtain ⟨k, N, A, L, hk, rfl, rfl, rfl, rfl, hR, bel⟩ := hrel
    have HB := hide bel
    clear HB1 HF
    by_cases hlt : k < len
    · obtain ⟨b, off, rfl, hcs⟩ : ∃ b off, a = some ⟨b, off, none⟩ ∧ _ := (unhide HC).resolve_left (by omega)
      obtain ⟨g, c, kk, c0, c1, c2, g0, g1⟩ := hcs k hlt
      have y0 := (bel.cell (p := ⟨b, off + k * 3, none⟩) (cell_lt c0)).trans c0
      have y1 := (bel.cell (p := ⟨b, off + k * 3 + 1, none⟩) (cell_lt c1)).trans c1
      have z2 : ∀ W, Below w.heap.size w W → W.cell? ⟨b, off + k * 3 + 2, none⟩ = some (.bool kk) := fun W hW => (hW.cell (p := ⟨b, off + k * 3 + 2, none⟩) (cell_lt c2)).trans c2
      clear c0 c1 c2 hcs bel
      obtain ⟨N', hw, n0, n1, hd⟩ := rowOk_gap hR g0 g1
      obtain ⟨q1, q2, hq⟩ : ∃ q1 q2, (q1, q2) = widthF N' A := ⟨_, _, rfl⟩
      have cw := fun W => width_any N' A W (q1, q2) hq
      simp only at cw
      have hkl : (k : Int) < (len : Int) := by omega
      have HR := hide hR
      clear hR
      by_cases h0 : q2 = 0
      · subst h0
        obtain ⟨w1, w2, a1, a2, a3, a4⟩ := width_ok N' A q1 hq
        have cc := fun W => cut_good N' q1 W (by omega) a3 ⟨w1, w2⟩
        have hR := unhide HR
        unfold RowOk at hR
        have hL : L < N' := by omega
        have hp := st_pos q1
        have cx := fun W => whole_good L (N' % st q1) q1 W (by omega) (by omega) ⟨w1, w2⟩ (low_lt N' q1) N' (whole_back N' L q1 (by omega) (by omega) (by omega) (by omega) (by omega)).symm
        have HR1 : Hid (RowOk (N' + 1) A L ∧ RowOk (N' + 1) N' N' ∧ RowOk (N' + 1) A N') := by
          refine ⟨?_, ?_, ?_⟩ <;> (unfold RowOk; omega)
        have hlow := low_lt N' q1
        generalize N' % st q1 = low at *
        generalize st q1 = s at *
        clear hq HR hR hL a4 hd
        have HL := hide hlt
        cases c
        · go_wp2_with (first | (go_at_call 10; refine (cw _).mono ?_; rintro e w' ⟨rfl, hw'⟩; subst w') | (go_at_call 13; refine (cc _).mono ?_; rintro e w' ⟨rfl, hw'⟩; subst w'))
          exact ⟨⟨k + 1, N' + 1, A, L, unhide HL, by go_num, rfl, rfl, rfl, (unhide HR1).1, unhide HB⟩, by simp [intOf]; have := unhide HL; omega⟩
        · cases kk
          · go_wp2_with (first | (go_at_call 10; refine (cw _).mono ?_; rintro e w' ⟨rfl, hw'⟩; subst w') | (go_at_call 13; refine (cc _).mono ?_; rintro e w' ⟨rfl, hw'⟩; subst w') | (go_at_call 15; refine (cx _).mono ?_; rintro e w2 ⟨rfl, bel2⟩; have HB2 := hide ((unhide HB).trans (bel2.mono (unhide HB).size)); have y2 := z2 w2 (unhide HB2); clear bel2))
            exact ⟨⟨k + 1, N' + 1, A, N', unhide HL, by go_num, rfl, rfl, rfl, (unhide HR1).2.2, unhide HB2⟩, by simp [intOf]; have := unhide HL; omega⟩
          · go_wp2_with (first | (go_at_call 10; refine (cw _).mono ?_; rintro e w' ⟨rfl, hw'⟩; subst w') | (go_at_call 13; refine (cc _).mono ?_; rintro e w' ⟨rfl, hw'⟩; subst w') | (go_at_call 15; refine (cx _).mono ?_; rintro e w2 ⟨rfl, bel2⟩; have HB2 := hide ((unhide HB).trans (bel2.mono (unhide HB).size)); have y2 := z2 w2 (unhide HB2); clear bel2))
            exact ⟨⟨k + 1, N' + 1, N', N', unhide HL, by go_num, rfl, rfl, rfl, (unhide HR1).2.1, unhide HB2⟩, by simp [intOf]; have := unhide HL; omega⟩
      · clear hq hd
        go_wp2_with (first | (go_at_call 10; refine (cw _).mono ?_; rintro e w' ⟨rfl, hw'⟩; subst w'))
        go_ret
        exact ⟨rfl, unhide HB⟩
    · obtain rfl : k = len := by omega
      go_wp2_with fail
      go_ret
      exact ⟨rfl, unhide HB⟩
end Go.Proofs.Ytgmaialgkenbnaa
