/- set: a set by steps. -/
import Derived.Test.YtbcmeaebjngapaaSC
import Derived.Test.YtbcmeaebjngapaaOP
import Derived.Deep.RegionHeld3
namespace Go.Proofs.Ytbcmeaebjngapaa
open Go.RowKit
set_option linter.unusedVariables false
set_option maxRecDepth 100000
set_option maxHeartbeats 400000

/-- A list of steps, by functions. -/
def OpsF (w : World) (a : Option Addr) (len cap : Nat) (K LO HI : Nat → Int) : Prop :=
  len ≤ cap ∧ cap ≤ maxLen ∧ (len = 0 ∨ ∃ b off, a = some ⟨b, off, none⟩ ∧ ∀ i, i < len → w.cell? ⟨b, off + i * 4, none⟩ = some (.int .i64 (K i)) ∧ w.cell? ⟨b, off + i * 4 + 2, none⟩ = some (.int .i64 (LO i)) ∧ w.cell? ⟨b, off + i * 4 + 3, none⟩ = some (.int .i64 (HI i)) ∧ -9223372036854775808 ≤ LO i ∧ LO i ≤ 9223372036854775807 ∧ -9223372036854775808 ≤ HI i ∧ HI i ≤ 9223372036854775807)

theorem IsOps.fn {w : World} {a : Option Addr} {len cap : Nat} (h : IsOps w a len cap) : ∃ K LO HI, OpsF w a len cap K LO HI := by
  obtain ⟨h1, h2, h3⟩ := h
  rcases h3 with h3 | ⟨b, off, rfl, h3⟩
  · exact ⟨fun _ => 0, fun _ => 0, fun _ => 0, h1, h2, .inl h3⟩
  · have : ∀ i, ∃ t : Int × Int × Int, i < len → w.cell? ⟨b, off + i * 4, none⟩ = some (.int .i64 t.1) ∧ w.cell? ⟨b, off + i * 4 + 2, none⟩ = some (.int .i64 t.2.1) ∧ w.cell? ⟨b, off + i * 4 + 3, none⟩ = some (.int .i64 t.2.2) ∧ -9223372036854775808 ≤ t.2.1 ∧ t.2.1 ≤ 9223372036854775807 ∧ -9223372036854775808 ≤ t.2.2 ∧ t.2.2 ≤ 9223372036854775807 := fun i => by
      by_cases hi : i < len
      · obtain ⟨k, _, lo, hi', c0, _, c2, c3, r⟩ := h3 i hi
        exact ⟨(k, lo, hi'), fun _ => ⟨c0, c2, c3, r⟩⟩
      · exact ⟨(0, 0, 0), fun h => absurd h hi⟩
    obtain ⟨f, hf⟩ := Classical.axiomOfChoice this
    exact ⟨fun i => (f i).1, fun i => (f i).2.1, fun i => (f i).2.2, h1, h2, .inr ⟨b, off, rfl, hf⟩⟩

theorem OpsF.keep {w w' : World} {a : Option Addr} {len cap : Nat} {K LO HI : Nat → Int} (h : OpsF w a len cap K LO HI) (hg : w.grownBy w' none) : OpsF w' a len cap K LO HI := by
  obtain ⟨h1, h2, h3⟩ := h
  refine ⟨h1, h2, h3.imp id fun ⟨b, off, e, hc⟩ => ⟨b, off, e, fun i hi => ?_⟩⟩
  obtain ⟨c0, c2, c3, r⟩ := hc i hi
  exact ⟨cell_grown_none hg c0, cell_grown_none hg c2, cell_grown_none hg c3, r⟩

/-- The runs behind the first steps. -/
def runL (K LO HI : Nat → Int) : Nat → List Sp
  | 0 => []
  | n + 1 => if K n = 2 then cutS 0 (LO n) (HI n) (runL K LO HI n) else addS 0 (LO n) (HI n) (runL K LO HI n)

theorem addS_good {L : List Sp} {lo hi most : Int} (h : Good (-9223372036854775808) 9223372036854775807 L) (hlo : -9223372036854775808 ≤ lo) (hhi : hi ≤ 9223372036854775807) : Good (-9223372036854775808) 9223372036854775807 (addS most lo hi L) ∧ (addS most lo hi L).length ≤ L.length + 1 := by
  unfold addS
  by_cases hlh : hi < lo
  · rw [if_pos hlh]; exact ⟨h, by omega⟩
  · rw [if_neg hlh]
    have hg := addF_good h (by omega) hlo hhi
    have hb := boundF_good (most := most) hg.1
    exact ⟨hb.1, by omega⟩
theorem cutS_good {L : List Sp} {lo hi most : Int} (h : Good (-9223372036854775808) 9223372036854775807 L) : Good (-9223372036854775808) 9223372036854775807 (cutS most lo hi L) ∧ (cutS most lo hi L).length ≤ L.length + 1 := by
  unfold cutS
  by_cases hlh : hi < lo
  · rw [if_pos hlh]; exact ⟨h, by omega⟩
  · rw [if_neg hlh]
    have hg := cutF_good h (show lo ≤ hi by omega)
    have hb := boundF_good (most := most) hg.1
    exact ⟨hb.1, by omega⟩

theorem runL_good {K LO HI : Nat → Int} (n : Nat) (h : ∀ i, i < n → -9223372036854775808 ≤ LO i ∧ HI i ≤ 9223372036854775807) : Good (-9223372036854775808) 9223372036854775807 (runL K LO HI n) ∧ (runL K LO HI n).length ≤ n := by
  induction n with
  | zero => exact ⟨trivial, Nat.le_refl _⟩
  | succ n ih =>
    have := ih fun i hi => h i (by omega)
    have hn := h n (by omega)
    simp only [runL]
    split
    · have hc := cutS_good (lo := LO n) (hi := HI n) (most := 0) this.1
      exact ⟨hc.1, by omega⟩
    · have hc := addS_good (lo := LO n) (hi := HI n) (most := 0) this.1 hn.1 hn.2
      exact ⟨hc.1, by omega⟩

set_option maxRecDepth 100000 in
theorem set_ok (a : Option Addr) (len cap : Nat) (K LO HI : Nat → Int) (w0 w : World) (hg0 : w0.grownBy w none) (hops : OpsF w0 a len cap K LO HI) :
    Calls Try.prog 6 #[.slice a len cap] w fun e w' => e = .returned (.pointer (some ⟨w.heap.size, 0, none⟩)) ∧ LS w0 w' w.heap.size 0 (runL K LO HI (min len 2000)) := by
  have hnew := new_ls w0 w 0 (by decide) hg0
  obtain ⟨h1, h2, hcells⟩ := hops
  unfold maxLen at h2
  have HC := hide hcells
  clear hcells
  generalize w.heap.size = b at *
  go_enter Try.func6, Try.ntmps6
  go_wp2_with fail
  refine hnew.mono ?_
  rintro e W1 ⟨rfl, l0⟩
  have L0 := hide l0
  clear l0 hnew
  go_wp2
  go_loopw [5] (fun i wr => ∃ (k : Nat), k ≤ len ∧ k ≤ 2000 ∧ i = .int .i64 k ∧ LS w0 wr b 0 (runL K LO HI k)) (fun i _ => len - (intOf i).toNat)
  case atStart => exact ⟨0, Nat.zero_le _, by omega, rfl, unhide L0⟩
  case round =>
    obtain ⟨k, hk, hk2, rfl, hls⟩ := hrel
    by_cases hlt : k < len
    · by_cases hlt2 : k < 2000
      · obtain ⟨bo, off, rfl, hcs⟩ := (unhide HC).resolve_left (by omega)
        have hgl := runL_good (K := K) (LO := LO) (HI := HI) k fun i hi => ⟨(hcs i (by omega)).2.2.2.1, (hcs i (by omega)).2.2.2.2.2.2⟩
        obtain ⟨c0, c2, c3, r1, r2, r3, r4⟩ := hcs k hlt
        have d0 := cell_grown_none hls.grown c0
        have d2 := cell_grown_none hls.grown c2
        have d3 := cell_grown_none hls.grown c3
        have hokL : Ok (runL K LO HI k) := ⟨hgl.1, by omega⟩
        have hrl : runL K LO HI (k + 1) = if K k = 2 then cutS 0 (LO k) (HI k) (runL K LO HI k) else addS 0 (LO k) (HI k) (runL K LO HI k) := rfl
        generalize LO k = lo at *
        generalize HI k = hi at *
        have hA := fun w2 (h : LS w0 w2 b 0 (runL K LO HI k)) => add_ls h hokL lo hi r1 r4
        have hC := fun w2 (h : LS w0 w2 b 0 (runL K LO HI k)) => cut_ls h hokL lo hi r1 r4
        have hkn : (k : Int) < (len : Int) := by omega
        have hkd : decide ((k : Int) < (len : Int)) = true := decide_eq_true hkn
        have hk3 : (k : Int) < 2000 := by omega
        have hls' := hide hls
        by_cases hq : K k = 2
        · rw [if_pos hq] at hrl
          rw [hq] at d0
          rw [← hrl] at hC
          have HR := hide hrl
          clear hls hgl hokL hA r1 r2 r3 r4 hcs hrl hq c0
          go_wp2
          go_region_held3 (fun W => W.cell? ⟨bo, off + k * 4 + 2, none⟩ = some (.int .i64 lo) ∧ W.cell? ⟨bo, off + k * 4 + 3, none⟩ = some (.int .i64 hi)) (go_keep) (first | (go_at_call 16; refine (hC _ ((unhide hls').keep (grown_drewN _ 1))).mono ?_; rintro e w' ⟨rfl, l2⟩; have y2 := cell_grown_none l2.grown c2; have y3 := cell_grown_none l2.grown c3))
          go_wp2
          exact ⟨⟨k + 1, by omega, by omega, by go_num, l2⟩, by simp [intOf]; omega⟩
        · rw [if_neg hq] at hrl
          rw [← hrl] at hA
          have HR := hide hrl
          generalize K k = kd at *
          clear hls hgl hokL hC r1 r2 r3 r4 hcs hrl c0
          go_wp2
          go_region_held3 (fun W => W.cell? ⟨bo, off + k * 4 + 2, none⟩ = some (.int .i64 lo) ∧ W.cell? ⟨bo, off + k * 4 + 3, none⟩ = some (.int .i64 hi)) (go_keep) (first | (go_at_call 17; refine (hA _ ((unhide hls').keep (grown_drewN _ 1))).mono ?_; rintro e w' ⟨rfl, l2⟩; have y2 := cell_grown_none l2.grown c2; have y3 := cell_grown_none l2.grown c3))
          go_wp2
          exact ⟨⟨k + 1, by omega, by omega, by go_num, l2⟩, by simp [intOf]; omega⟩
      · have hkd : decide ((k : Int) < (len : Int)) = true := decide_eq_true (by omega)
        have hkd2 : decide ((k : Int) < 2000) = false := decide_eq_false (by omega)
        have hmin : min len 2000 = k := by omega
        have F := hide hls
        clear hls
        go_wp2
        all_goals go_ret
        all_goals exact ⟨rfl, by rw [hmin]; exact unhide F⟩
    · have hkd : decide ((k : Int) < (len : Int)) = false := decide_eq_false (by omega)
      have hmin : min len 2000 = k := by omega
      have F := hide hls
      clear hls
      go_wp2
      all_goals go_ret
      all_goals exact ⟨rfl, by rw [hmin]; exact unhide F⟩
end Go.Proofs.Ytbcmeaebjngapaa
