/- RunsWide: the calls, of the two sets side by side. -/
import Derived.Test.YtcojhjnledeciaaRG
namespace Go.Proofs.Ytcojhjnledeciaa.Kr
open Go.RowKit
set_option linter.unusedVariables false
set_option maxHeartbeats 400000
set_option maxRecDepth 100000

theorem PW.runs {w0 w : World} {bs br : Nat} {most : Int} {L L' : List Sp} (h : PW w0 w bs br most L L') (hL : Ku.Ok L) :
    Calls Try.prog 20 #[.pointer (some ⟨bs, 0, none⟩)] w fun e w' => ∃ a c, e = .returned (.slice a L.length c) ∧ RdR w' a L ∧ (L.length ≤ c ∧ c ≤ 9223372036854775807) ∧ w.grownBy w' none := by
  obtain ⟨v, u, hv, hu, fv, fu⟩ := h.ex
  refine (Ku.runs_any bs most v L w hv (by have := hL.size; omega)).mono ?_
  rintro e w' ⟨v', rfl, hr, hf, hg⟩
  obtain ⟨a, c, rfl, rd, k1, k2⟩ := Ku_rd hr
  exact ⟨a, c, rfl, rd, ⟨k1, k2⟩, hg⟩

theorem PW.within {w0 w : World} {bs br : Nat} {most : Int} {L L' : List Sp} (h : PW w0 w bs br most L L') (hL : Ku.Ok L) (lo hi : Int) :
    Calls Try.prog 21 #[.pointer (some ⟨bs, 0, none⟩), .int .u64 lo, .int .u64 hi] w fun e w' => ∃ a c, e = .returned (.slice a (withinR lo hi L).length c) ∧ RdR w' a (withinR lo hi L) ∧ ((withinR lo hi L).length ≤ c ∧ c ≤ 9223372036854775807) ∧ w.grownBy w' none := by
  obtain ⟨v, u, hv, hu, fv, fu⟩ := h.ex
  by_cases hlh : hi < lo
  · have e0 : withinR lo hi L = [] := by
      clear h hL hv hu
      induction L with
      | nil => rfl
      | cons s L ih => simp only [withinR]; rw [if_neg (by omega)]; exact ih
    rw [e0]
    refine (Ku.within_gt bs lo hi w hlh).mono ?_
    rintro e w' ⟨rfl, hw⟩
    subst hw
    exact ⟨none, 0, rfl, fun e => absurd rfl e, ⟨Nat.zero_le _, by omega⟩, grown_self _ _⟩
  · rw [withinR_eq (fun s hs => (hL.good.mem hs).2.1) (by omega)]
    refine (Ku.within_any bs most lo hi v L w hv hL (by omega)).mono ?_
    rintro e w' ⟨v', rfl, hr, hf, hg⟩
    obtain ⟨a, c, rfl, rd, k1, k2⟩ := Ku_rd hr
    exact ⟨a, c, rfl, rd, ⟨k1, k2⟩, hg⟩

theorem PW.holes {w0 w : World} {bs br : Nat} {most : Int} {L L' : List Sp} (h : PW w0 w bs br most L L') (hL : Ku.Ok L) (lo hi : Int) (hlo : 0 ≤ lo) (hhi : hi ≤ 18446744073709551615) :
    Calls Try.prog 23 #[.pointer (some ⟨bs, 0, none⟩), .int .u64 lo, .int .u64 hi] w fun e w' => ∃ a c, e = .returned (.slice a (if hi < lo then [] else holesF lo hi L).length c) ∧ RdR w' a (if hi < lo then [] else holesF lo hi L) ∧ ((if hi < lo then [] else holesF lo hi L).length ≤ c ∧ c ≤ 9223372036854775807) ∧ w.grownBy w' none := by
  obtain ⟨v, u, hv, hu, fv, fu⟩ := h.ex
  by_cases hlh : hi < lo
  · rw [if_pos hlh]
    refine (Ku.holes_gt bs lo hi w hlh).mono ?_
    rintro e w' ⟨rfl, hw⟩
    subst hw
    exact ⟨none, 0, rfl, fun e => absurd rfl e, ⟨Nat.zero_le _, by omega⟩, grown_self _ _⟩
  · rw [if_neg hlh]
    refine (Ku.holes_any bs most lo hi v L w hv hL (by omega) hlo hhi).mono ?_
    rintro e w' ⟨v', rfl, hr, hf, hg⟩
    obtain ⟨a, c, rfl, rd, k1, k2⟩ := Ku_rd hr
    exact ⟨a, c, rfl, rd, ⟨k1, k2⟩, hg⟩

theorem PW.count {w0 w : World} {bs br : Nat} {most : Int} {L L' : List Sp} (h : PW w0 w bs br most L L') (hL : Ku.Ok L) :
    Calls Try.prog 27 #[.pointer (some ⟨bs, 0, none⟩)] w fun e w' => e = .returned (.int .u64 (Ku.toldF L)) ∧ w.grownBy w' none := by
  obtain ⟨v, u, hv, hu, fv, fu⟩ := h.ex
  exact Ku.count_any bs most v L w hv hL

theorem PW.has {w0 w : World} {bs br : Nat} {most : Int} {L L' : List Sp} (h : PW w0 w bs br most L L') (hL : Ku.Ok L) (x : Int) :
    Calls Try.prog 25 #[.pointer (some ⟨bs, 0, none⟩), .int .u64 x] w fun e w' => e = .returned (.bool (memB x L)) ∧ w.grownBy w' none := by
  obtain ⟨v, u, hv, hu, fv, fu⟩ := h.ex
  exact Ku.has_any bs most x v L w hv hL

theorem PW.len {w0 w : World} {bs br : Nat} {most : Int} {L L' : List Sp} (h : PW w0 w bs br most L L') :
    Calls Try.prog 29 #[.pointer (some ⟨bs, 0, none⟩)] w fun e w' => e = .returned (.int .i64 (L.length : Nat)) ∧ w.grownBy w' none := by
  obtain ⟨v, u, hv, hu, fv, fu⟩ := h.ex
  have hl := Ku.list_any bs most v L w hv
  obtain ⟨a, c, rfl, rd, k1, k2⟩ := Ku_rd hv.row
  clear rd hu fu fv hv h
  generalize L.length = n at *
  go_enter Try.func29, Try.ntmps29
  go_wp2_with (first | (go_at_call 61; refine hl.mono ?_; rintro e W1 ⟨rfl, hw⟩; subst hw))
  go_ret
  exact ⟨rfl, grown_self _ _⟩

theorem PW.rd {w0 w : World} {bs br : Nat} {most : Int} {L L' : List Sp} (h : PW w0 w bs br most L L') : ∃ a c, w.cell? ⟨br, 0, none⟩ = some (.slice a L'.length c) ∧ RdR w a L' ∧ (L'.length ≤ c ∧ c ≤ 9223372036854775807) := by
  obtain ⟨v, u, hv, hu, fv, fu⟩ := h.ex
  obtain ⟨a, c, rfl, rd, k1, k2⟩ := hu.row.rd
  exact ⟨a, c, by simp [World.cell?, hu.blk], rd, k1, k2⟩

theorem PW.make {w0 w : World} {b : Nat} {most : Int} (h : Ku.LS w0 w b most []) : PW w0 (w.alloc (.cells #[.slice none 0 0, .int .i64 most] 28)) b w.heap.size most [] [] := by
  obtain ⟨v, hv, hf⟩ := h.at_
  refine ⟨⟨v, .slice none 0 0, hv.keep (grown_alloc _ _), ⟨?_, row_nil _⟩, hf, fresh_nil _⟩, h.new, h.grown.size, grown_trans h.grown (grown_alloc _ _)⟩
  show (w.heap.push _)[w.heap.size]? = _
  simp

theorem wide_sizes {most lo hi : Int} {L : List Sp} (hg : Good 0 18446744073709551615 L) (hlo : 0 ≤ lo) (hhi : hi ≤ 18446744073709551615) :
    (Good 0 18446744073709551615 (Ku.addS most lo hi L) ∧ (Ku.addS most lo hi L).length ≤ L.length + 1) ∧ (Good 0 18446744073709551615 (Ku.cutS most lo hi L) ∧ (Ku.cutS most lo hi L).length ≤ L.length + 1) := by
  unfold Ku.addS Ku.cutS
  by_cases h : hi < lo
  · rw [if_pos h, if_pos h]; exact ⟨⟨hg, by omega⟩, hg, by omega⟩
  · rw [if_neg h, if_neg h]
    obtain ⟨a1, -, a3⟩ := Ku.addF_good hg (by omega) hlo hhi
    obtain ⟨c1, -, c3⟩ := Ku.cutF_good (lo := lo) (hi := hi) hg (by omega)
    obtain ⟨b1, b2⟩ := Ku.boundF_good (most := most) a1
    obtain ⟨d1, d2⟩ := Ku.boundF_good (most := most) c1
    exact ⟨⟨b1, by omega⟩, d1, by omega⟩
end Go.Proofs.Ytcojhjnledeciaa.Kr
