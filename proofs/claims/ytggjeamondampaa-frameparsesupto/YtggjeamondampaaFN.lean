/- areRuns. -/
import Derived.Test.YtggjeamondampaaFE
import Derived.BigQuiet
namespace Go.Proofs.Ytggjeamondampaa
open Go.RowKit
set_option linter.unusedVariables false
set_option maxRecDepth 100000
set_option maxHeartbeats 2000000

/-- Runs in memory, read. -/
def RdR (w : World) (a : Option Addr) (L : List (Int × Int)) : Prop := L ≠ [] → ∃ b off, a = some ⟨b, off, none⟩ ∧ ∀ i, i < L.length → w.cell? ⟨b, off + i * 2, none⟩ = some (.int .i64 (L.getD i (0, 0)).1) ∧ w.cell? ⟨b, off + i * 2 + 1, none⟩ = some (.int .i64 (L.getD i (0, 0)).2)

theorem cell_grown {w W : World} {a : Addr} {v : Value} (h : w.cell? a = some v) (g : w.grownBy W none) : W.cell? a = some v := g.cell h (by simp)

theorem areRuns_any (a : Option Addr) (L : List (Int × Int)) (n c : Nat) (w : World) (hn : L.length = n) (hr : RdR w a L) (hc : n ≤ c ∧ c ≤ 9223372036854775807) (hi64 : ∀ s ∈ L, -9223372036854775808 ≤ s.1 ∧ s.1 ≤ 9223372036854775807) :
    Calls Try.prog 95 #[.slice a n c] w fun e w' => e = .returned (.bool (areF L)) ∧ w.grownBy w' none := by
  have HN := hide hn; have HR := hide hr
  clear hr hi64
  go_enter Try.func95, Try.ntmps95
  go_wp2
  go_loopw [7] (fun i wr => ∃ (k : Nat) (b : Int), k ≤ n ∧ i = .int .i64 k ∧ fallF MAXN L = fallF b (L.drop k) ∧ b ≤ MAXN ∧ (0 < k → b = (L.getD (k - 1) (0, 0)).1 - 2 ∧ -2 ≤ b) ∧ (k = 0 → b = MAXN) ∧ w.grownBy wr none) (fun i _ => n - (intOf i).toNat)
  case atStart => exact ⟨0, MAXN, Nat.zero_le _, rfl, rfl, Int.le_refl _, fun h => absurd h (by omega), fun _ => rfl, World.grownBy.refl w none⟩
  case round =>
    obtain ⟨k, b, hk, rfl, hf, hb, hb1, hb0, gw⟩ := hrel
    by_cases hlt : k < n
    · have hkL : k < L.length := by rw [hn]; exact hlt
      obtain ⟨bk, off, rfl, hcs⟩ := unhide HR (fun e => by rw [e] at hkL; simp at hkL)
      have c0 := cell_grown (hcs k hkL).1 gw
      have c1 := cell_grown (hcs k hkL).2 gw
      have hst : L.drop k = L.getD k (0, 0) :: L.drop (k + 1) := by rw [List.drop_eq_getElem_cons hkL]; simp [List.getD, hkL]
      rw [hst] at hf
      simp only [fallF] at hf
      have hpv : 0 < k → wr.cell? ⟨bk, off + (k - 1) * 2, none⟩ = some (.int .i64 (L.getD (k - 1) (0, 0)).1) := fun h => cell_grown (hcs (k - 1) (by omega)).1 gw
      have hnx : ∀ p, p = (L.getD k (0, 0)).1 → p = (L.getD (k + 1 - 1) (0, 0)).1 := fun p h => by rw [h, Nat.add_sub_cancel]
      generalize (L.getD k (0, 0)).1 = x at *
      generalize (L.getD k (0, 0)).2 = y at *
      have hkn : (k : Int) < (n : Int) := by omega
      have HLT := hide hlt
      have hga := gw.trans (World.grownBy_alloc wr (.cells #[.int .i64 x, .int .i64 y] 81) none)
      have HG := hide hga
      have bad : Hid (¬ (0 ≤ x ∧ x ≤ y ∧ y ≤ b) → areF L = false) := fun h => by
        unfold areF
        rw [hf]
        by_cases h1 : 0 ≤ x
        · by_cases h2 : x ≤ y
          · have h3 : ¬ y ≤ b := fun h3 => h ⟨h1, h2, h3⟩
            simp [h3]
          · simp [h2]
        · simp [h1]
      have good : Hid (0 ≤ x ∧ x ≤ y ∧ y ≤ b → fallF MAXN L = fallF (x - 2) (L.drop (k + 1))) := fun ⟨h1, h2, h3⟩ => by
        rw [hf]; simp [h1, h2, h3]
      have HX := hide hnx
      clear hst hcs hkL hf gw hga hlt hk hnx
      unfold MAXN at hb hb0
      rcases (by omega : x < 0 ∨ (0 ≤ x ∧ y < x) ∨ (0 ≤ x ∧ x ≤ y ∧ 4611686018427387903 < y) ∨ (0 ≤ x ∧ x ≤ y ∧ y ≤ 4611686018427387903)) with q | ⟨q, q2⟩ | ⟨q, q2, q3⟩ | ⟨q, q2, q3⟩
      · have E := hide (unhide bad (by omega))
        have t1 : decide (x < 0) = true := decide_eq_true q
        clear bad good hb hb0 hb1 hpv HX
        go_wp2
        go_ret
        exact ⟨by rw [unhide E]; rfl, unhide HG⟩
      · have E := hide (unhide bad (by omega))
        have t0 : ¬ x < 0 := by omega
        have t1 : decide (x < 0) = false := decide_eq_false t0
        have t2 : decide (y < x) = true := decide_eq_true q2
        clear bad good hb hb0 hb1 hpv HX
        go_wp2
        go_ret
        exact ⟨by rw [unhide E]; rfl, unhide HG⟩
      · have E := hide (unhide bad (by omega))
        have t0 : ¬ x < 0 := by omega
        have t1 : decide (x < 0) = false := decide_eq_false t0
        have t3 : ¬ y < x := by omega
        have t2 : decide (y < x) = false := decide_eq_false t3
        have t4 : decide (4611686018427387903 < y) = true := decide_eq_true q3
        clear bad good hb hb0 hb1 hpv HX
        go_wp2
        go_ret
        exact ⟨by rw [unhide E]; rfl, unhide HG⟩
      · have t0 : ¬ x < 0 := by omega
        have t1 : decide (x < 0) = false := decide_eq_false t0
        have t3 : ¬ y < x := by omega
        have t2 : decide (y < x) = false := decide_eq_false t3
        have t5 : ¬ 4611686018427387903 < y := by omega
        have t4 : decide (4611686018427387903 < y) = false := decide_eq_false t5
        rcases Nat.eq_zero_or_pos k with hk0 | hk0
        · have G2 := hide (unhide good ⟨q, q2, by have := hb0 hk0; omega⟩)
          have B2 := hide (show x - 2 ≤ MAXN by unfold MAXN; omega)
          have B3 := hide (show -2 ≤ x - 2 by omega)
          have s1 : ¬ 0 < k := by omega
          have s2 : decide (0 < k) = false := decide_eq_false s1
          have s3 : ¬ (0 : Int) < (k : Int) := by omega
          have s4 : decide ((0 : Int) < (k : Int)) = false := decide_eq_false s3
          clear bad good hb hb0 hb1 hpv hk0
          go_wp2
          go_quiet (fail)
          go_wp2
          exact ⟨⟨k + 1, x - 2, unhide HLT, by go_num, unhide G2, unhide B2, fun _ => ⟨by rw [unhide HX x rfl], unhide B3⟩, fun h => by omega, grown_drewN' (unhide HG)⟩, by simp [intOf]; have := unhide HLT; omega⟩
        · obtain ⟨hbe, hb2⟩ := hb1 hk0
          have cp := hpv hk0
          obtain ⟨k', rfl⟩ : ∃ k', k = k' + 1 := ⟨k - 1, by omega⟩
          rw [Nat.add_sub_cancel] at cp hbe
          generalize (L.getD k' (0, 0)).1 = p at *
          have hw : IntKind.i64.wrap (p - 2) = p - 2 := by rw [IntKind.wrap_i64]; omega
          have s1 : decide (0 < k' + 1) = true := decide_eq_true (by omega)
          have s3 : (0 : Int) < ((k' : Int) + 1) := by omega
          have s4 : decide ((0 : Int) < ((k' : Int) + 1)) = true := decide_eq_true s3
          have cpA := cell_grown cp (World.grownBy_alloc wr (.cells #[.int .i64 x, .int .i64 y] 81) none)
          have hkb : (k' : Int) < (n : Int) := by have := unhide HLT; omega
          have hkb2 : k' < n := by omega
          have hkb3 : decide (k' < n) = true := decide_eq_true hkb2
          have hkb4 : (k' : Int) + 1 - 1 = (k' : Int) := by omega
          have hwk : IntKind.i64.wrap (k' : Int) = (k' : Int) := by rw [IntKind.wrap_i64]; omega
          rcases (by omega : y ≤ p - 2 ∨ p - 2 < y) with z | z
          · have G2 := hide (unhide good ⟨q, q2, by omega⟩)
            have B2 := hide (show x - 2 ≤ MAXN by unfold MAXN; omega)
            have B3 := hide (show -2 ≤ x - 2 by omega)
            have z1 : ¬ p - 2 < y := by omega
            have z2 : decide (p - 2 < y) = false := decide_eq_false z1
            clear bad good hb hb0 hb1 hpv hk0 hbe hb2
            go_wp2
            go_quiet (fail)
            go_wp2
            exact ⟨⟨k' + 1 + 1, x - 2, unhide HLT, by go_num, unhide G2, unhide B2, fun _ => ⟨by rw [unhide HX x rfl], unhide B3⟩, fun h => by omega, grown_drewN' (unhide HG)⟩, by simp [intOf]; have := unhide HLT; omega⟩
          · have E := hide (unhide bad (by omega))
            have z2 : decide (p - 2 < y) = true := decide_eq_true z
            clear bad good hb hb0 hb1 hpv hk0 hbe hb2
            go_wp2
            go_quiet (fail)
            go_wp2
            go_ret
            exact ⟨by rw [unhide E]; rfl, grown_drewN' (unhide HG)⟩
    · obtain rfl : k = n := by omega
      have e : fallF MAXN L = true := by rw [hf, List.drop_of_length_le (by omega)]; rfl
      have hno : ¬ (k : Int) < (k : Int) := by omega
      have ea : areF L = decide (0 < k) := by
        unfold areF
        rw [e, Bool.true_and]
        cases L with
        | nil => simp at hn; subst hn; rfl
        | cons s L => simp at hn; have hp : 0 < k := by omega
                      rw [decide_eq_true hp]; rfl
      have E := hide ea
      clear ea e hf hb1 hb0 hb HN HR
      go_wp2
      go_ret
      exact ⟨by rw [unhide E]; rfl, gw⟩

end Go.Proofs.Ytggjeamondampaa
