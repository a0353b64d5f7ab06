/- RunsOrder: the calls. -/
import Derived.Test.YthhnemnnfbbamaaOM
import Derived.Test.YthhnemnnfbbamaaSH
namespace Go.Proofs.Ythhnemnnfbbamaa
open Go.RowKit Go.Shelf
set_option linter.unusedVariables false
set_option maxHeartbeats 400000
set_option maxRecDepth 100000

/-- Of, whatever the order, however often. -/
theorem of_set (v : Value) (L' L : List Sp) (w : World) (hB' : InB L') (hB : InB L) (hm : ∀ s, s ∈ L' ↔ s ∈ L) (hlen : L'.length * 16 ≤ 100000000000000)
    (hC : Calls Try.prog 63 #[v] w fun e w' => ∃ v', e = .returned v' ∧ Row w' v' L' ∧ Fresh w v' ∧ w.grownBy w' none) :
    Calls Try.prog 43 #[v] w fun e w' => ∃ b, e = .returned (.pointer (some ⟨b, 0, none⟩)) ∧ LS w w' b 0 (putL [] L) :=
  (of_any0 sort_ok v L' w hB' hlen hC).mono fun e w' ⟨b, P, he, hp, _, hl⟩ => by
    rw [putL_eq (fun s hs => hB' s (hp.mem_iff.1 hs)) hB (fun s => hp.mem_iff.trans (hm s))] at hl
    exact ⟨b, he, hl⟩

theorem holes_g {w0 w : World} {b : Nat} {most : Int} {L : List Sp} (h : LS w0 w b most L) (hL : Ok L) (lo hi : Int) (hlo : -9223372036854775808 ≤ lo) (hhi : hi ≤ 9223372036854775807) (hin : ∀ x, lo ≤ x → x ≤ hi → memB x L = true) :
    Calls Try.prog 34 #[.pointer (some ⟨b, 0, none⟩), .int .i64 lo, .int .i64 hi] w fun e w' => ∃ a c, e = .returned (.slice a 0 c) ∧ w.grownBy w' none := by
  obtain ⟨v, hv, hf⟩ := h.at_
  by_cases hlh : hi < lo
  · refine (holes_gt b lo hi w hlh).mono ?_
    rintro e w' ⟨rfl, rfl⟩
    exact ⟨_, _, rfl, grown_self _ _⟩
  · refine (holes_any b most lo hi v L w hv hL (by omega) hlo hhi).mono ?_
    rintro e w' ⟨v', rfl, hr, _, hg⟩
    rw [holes_none hL.good (by omega) hin] at hr
    obtain ⟨a, c, rfl, -, -, -⟩ := hr.shape
    exact ⟨a, c, rfl, hg⟩

theorem count_g {w0 w : World} {b : Nat} {most : Int} {L : List Sp} (h : LS w0 w b most L) (hL : Ok L) :
    Calls Try.prog 44 #[.pointer (some ⟨b, 0, none⟩)] w fun e w' => e = .returned (.int .u64 (toldF L)) ∧ w.grownBy w' none := by
  obtain ⟨v, hv, hf⟩ := h.at_
  exact count_any b most v L w hv hL

theorem app_nil (w : World) (a : Option Addr) (c : Nat) (ty : TypeId) : (Builtin.append_ #[61, 61] ty #[.slice none 0 0, .slice a 0 c]).run Try.prog w = .ok (.slice none 0 0) w := by
  obtain ⟨inf, hi0, hz0, hz1, hz2⟩ := info_parts Try.infoS
  cases a <;> simp [Builtin.append_, run_underlying Try.underlying61, sizeOf, typeInfo, hi0, Builtin.lenOf, Builtin.firstCells, loadCells, loadCellsFrom]

theorem app_all {W w : World} {v : Value} {X L : List Sp} {a : Option Addr} {n c : Nat} (hrow : Row w v X) (hf : Fresh W v) (hg : W.grownBy w none) (h0 : X = [] → v = .slice none 0 0) (hXn : n = 0 → X = []) (hL : L.length = n) (hrd : RdS w a L) (hlen : (X.length + n) * 16 ≤ 140737488355328) :
    ∃ v' w', (∀ ty, (Builtin.append_ #[61, 61] ty #[v, .slice a n c]).run Try.prog w = .ok v' w') ∧ Row w' v' (X ++ L) ∧ Fresh W v' ∧ W.grownBy w' none := by
  by_cases hn : n = 0
  · subst hn
    obtain rfl := hXn rfl
    obtain rfl := h0 rfl
    obtain rfl := List.length_eq_zero_iff.1 hL
    exact ⟨_, _, fun ty => app_nil w a c ty, row_nil _, fresh_nil _, hg⟩
  · obtain ⟨b, off, rfl, hc⟩ := hrd (fun e => by rw [e] at hL; simp at hL; omega)
    obtain ⟨v', w', hr, hro, hmo, _⟩ := app2 w v X L 0 hrow ⟨b, off, none⟩ c (fun j u hj => by
        have hlt : j < L.length * 2 := by have := (List.getElem?_eq_some_iff.1 hj).1; rw [cl_length] at this; exact this
        rw [Addr.add_lit]
        rcases Nat.mod_two_eq_zero_or_one j with h | h
        · have h1 := (hc (j / 2) (by omega)).1
          have h2 := cl_lo L (j / 2) (by omega)
          rw [show j / 2 * 2 = j by omega] at h1 h2
          rw [h2] at hj
          rw [h1, ← hj]
        · have h1 := (hc (j / 2) (by omega)).2
          have h2 := cl_hi L (j / 2) (by omega)
          rw [show off + j / 2 * 2 + 1 = off + j by omega] at h1
          rw [show j / 2 * 2 + 1 = j by omega] at h2
          rw [h2] at hj
          rw [h1, ← hj]) (fun e => by rw [e] at hL; simp at hL; omega) (by rw [hL]; exact hlen)
    obtain ⟨g', f'⟩ := hmo.fresh hg hf
    rw [hL] at hr
    exact ⟨v', w', fun ty => hr, hro, f', g'⟩
end Go.Proofs.Ythhnemnnfbbamaa
