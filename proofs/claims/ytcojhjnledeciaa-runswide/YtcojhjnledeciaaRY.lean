/- The document's functions (portageref02): without, with. -/
import Derived.Test.YtcojhjnledeciaaRX
namespace Go.Proofs.Ytcojhjnledeciaa.Kr
open Go.RowKit
set_option linter.unusedVariables false
set_option maxHeartbeats 800000
set_option maxRecDepth 100000

theorem app_zero {w : World} {g c xl : Nat} {L : List Sp} {sp : List Value} (h : RowAt w g c L sp) (hl : L.length = xl) (a : Option Addr) (k : Nat) (ty : TypeId) : (Builtin.append_ #[26, 26] ty #[.slice (some ⟨g, 0, none⟩) xl c, .slice a 0 k]).run Try.prog w = .ok (.slice (some ⟨g, 0, none⟩) xl c) w := by
  obtain ⟨inf, hi0, hz0, hz1, hz2⟩ := info_parts Try.infoS
  have hle : xl ≤ c := by have := h.2.1; omega
  cases a <;> simp [Builtin.append_, run_underlying Try.underlying26, sizeOf, typeInfo, hi0, Builtin.lenOf, Builtin.firstCells, loadCells, loadCellsFrom, storeCells, hle]

theorem app_all {W w : World} {v : Value} {X L : List Sp} {a : Option Addr} {n c : Nat} (hrow : Row w v X) (hf : Fresh W v) (hg : W.grownBy w none) (hL : L.length = n) (hrd : RdR w a L) (hlen : (X.length + n) * 16 ≤ 140737488355328) :
    ∃ v' w', (∀ ty, (Builtin.append_ #[26, 26] ty #[v, .slice a n c]).run Try.prog w = .ok v' w') ∧ Row w' v' (X ++ L) ∧ Fresh W v' ∧ W.grownBy w' none := by
  by_cases hn : n = 0
  · subst hn
    obtain rfl := List.length_eq_zero_iff.1 hL
    rw [List.append_nil]
    rcases Row.at hrow with ⟨rfl, rfl⟩ | ⟨g, c', sp, rfl, hR⟩
    · exact ⟨_, _, fun ty => app_nil w a c ty, hrow, hf, hg⟩
    · exact ⟨_, _, fun ty => app_zero hR rfl a c ty, hrow, hf, hg⟩
  · obtain ⟨b, off, rfl, hc⟩ := hrd (fun e => by rw [e] at hL; simp at hL; omega)
    obtain ⟨v', w', hr, hro, hmo, _⟩ := app2 w v X L 0 hrow ⟨b, off, none⟩ c (fun j u hj => by
        have hlt : j < L.length * 2 := by have := (List.getElem?_eq_some_iff.1 hj).1; rw [cl_length] at this; exact this
        rw [Addr.add_lit]
        rcases Nat.mod_two_eq_zero_or_one j with h | h
        · have h1 := (hc (j / 2) (by omega)).1
          have h2 := cl_lo L (j / 2) (by omega)
          rw [show j / 2 * 2 = j by omega] at h1 h2
          rw [h2] at hj
          rw [h1, ← hj]
        · have h1 := (hc (j / 2) (by omega)).2
          have h2 := cl_hi L (j / 2) (by omega)
          rw [show off + j / 2 * 2 + 1 = off + j by omega] at h1
          rw [show j / 2 * 2 + 1 = j by omega] at h2
          rw [h2] at hj
          rw [h1, ← hj]) (fun e => by rw [e] at hL; simp at hL; omega) (by rw [hL]; exact hlen)
    obtain ⟨g', f'⟩ := hmo.fresh hg hf
    rw [hL] at hr
    exact ⟨v', w', fun ty => hr, hro, f', g'⟩

theorem Row.rd {w : World} {v : Value} {L : List Sp} (h : Row w v L) : ∃ a c, v = .slice a L.length c ∧ RdR w a L ∧ L.length ≤ c ∧ c ≤ 9223372036854775807 := by
  obtain ⟨a, c, rfl, -, k1, k2⟩ := h.shape
  unfold maxLen at k1
  exact ⟨a, c, rfl, rdR_row h, k2, by omega⟩

def withoutR (lo hi : Int) (L : List Sp) : List Sp :=
  (if 0 < lo then withinR 0 (lo - 1) L else []) ++ (if hi < 18446744073709551615 then withinR (hi + 1) 18446744073709551615 L else [])

theorem withoutR_length (lo hi : Int) (L : List Sp) : (withoutR lo hi L).length ≤ 2 * L.length := by
  unfold withoutR
  have h1 := withinR_length 0 (lo - 1) L
  have h2 := withinR_length (hi + 1) 18446744073709551615 L
  rw [List.length_append]
  split <;> split <;> simp <;> omega

theorem without_ref (a : Option Addr) (n c : Nat) (L : List Sp) (lo hi : Int) (w : World) (hn : L.length = n) (hrd : RdR w a L) (hv : VB L) (hc : n ≤ c ∧ c ≤ 9223372036854775807) (hb : n ≤ 2000000000000) (hlo : 0 ≤ lo ∧ lo ≤ 18446744073709551615) (hhi : 0 ≤ hi ∧ hi ≤ 18446744073709551615) :
    Calls Try.prog 53 #[.slice a n c, .int .u64 lo, .int .u64 hi] w fun e w' => ∃ v', e = .returned v' ∧ Row w' v' (withoutR lo hi L) ∧ Fresh w v' ∧ w.grownBy w' none := by
  have hl1 := withinR_length 0 (lo - 1) L
  have hl2 := withinR_length (hi + 1) 18446744073709551615 L
  unfold withoutR
  have hw1 : 0 < lo → IntKind.u64.wrap (lo - 1) = lo - 1 := fun h => by rw [IntKind.wrap_u64]; omega
  have hw2 : hi < 18446744073709551615 → IntKind.u64.wrap (hi + 1) = hi + 1 := fun h => by rw [IntKind.wrap_u64]; omega
  have c1 : 0 < lo → Calls Try.prog 22 #[.slice a n c, .int .u64 0, .int .u64 (lo - 1)] w fun e w' => ∃ v', e = .returned v' ∧ Row w' v' (withinR 0 (lo - 1) L) ∧ Fresh w v' ∧ w.grownBy w' none :=
    fun h => within_ref a n c L 0 (lo - 1) w hn hrd hv hc (by omega) (by omega) (by omega)
  have c2 : hi < 18446744073709551615 → ∀ W, w.grownBy W none → Calls Try.prog 22 #[.slice a n c, .int .u64 (hi + 1), .int .u64 18446744073709551615] W fun e w' => ∃ v', e = .returned v' ∧ Row w' v' (withinR (hi + 1) 18446744073709551615 L) ∧ Fresh W v' ∧ W.grownBy w' none :=
    fun h W g => within_ref a n c L (hi + 1) 18446744073709551615 W hn (hrd.grown g) hv hc (by omega) (by omega) (by omega)
  clear hrd hv
  generalize withinR 0 (lo - 1) L = X1 at *
  generalize withinR (hi + 1) 18446744073709551615 L = X2 at *
  have HX1 := hide (fun (l : List Sp) (e : l = X1) => (show l.length ≤ 2000000000000 by rw [e]; omega))
  by_cases h1 : 0 < lo
  · rw [if_pos h1]
    have k1 := c1 h1
    have e1 := hw1 h1
    clear c1 hw1
    by_cases h2 : hi < 18446744073709551615
    · rw [if_pos h2]
      have k2 := c2 h2
      have e2 := hw2 h2
      clear c2 hw2
      go_enter Try.func53, Try.ntmps53
      go_wp2_with fail
      refine k1.mono ?_
      rintro e W1 ⟨v1, rfl, r1, f1, g1⟩
      obtain ⟨a1, d1, rfl, rd1, -, -⟩ := r1.rd
      obtain ⟨v2, W2, hr, r2, f2, g2⟩ := app_all (W := w) (c := d1) (row_nil W1) (fresh_nil w) g1 rfl rd1 (by simp; omega)
      rw [List.nil_append] at r2
      have k2' := k2 W2 g2
      obtain ⟨a2, d2, rfl, rd2, -, -⟩ := r2.rd
      have F := hide (And.intro r2 (And.intro f2 g2))
      clear k1 k2 r1 f1 rd1 r2 f2 rd2
      generalize X1.length = x1 at *
      go_wp2_with (at_builtin; refine wpList_append_run _ rfl _ _ 26 26 rfl _ _ rfl rfl (hr _) ?_)
      refine k2'.mono ?_
      rintro e W3 ⟨v3, rfl, r3, f3, g3⟩
      obtain ⟨a3, d3, rfl, rd3, -, -⟩ := r3.rd
      obtain ⟨q1, q2, q3⟩ := unhide F
      obtain ⟨v4, W4, hr4, r4, f4, g4⟩ := app_all (W := w) (c := d3) (q1.keep g3) q2 (grown_trans q3 g3) rfl rd3 (by have := unhide HX1 _ rfl; omega)
      have F4 := hide (And.intro r4 (And.intro f4 g4))
      obtain ⟨a4, d4, rfl, -, -, -⟩ := r4.rd
      clear hr k2' r3 f3 rd3 r4 f4 q1 q2 q3
      generalize (X1 ++ X2).length = x4 at *
      generalize X2.length = x2 at *
      go_wp2_with (at_builtin; refine wpList_append_run _ rfl _ _ 26 26 rfl _ _ rfl rfl (hr4 _) ?_)
      go_ret
      exact ⟨_, rfl, unhide F4⟩
    · rw [if_neg h2, List.append_nil]
      clear c2 hw2
      go_enter Try.func53, Try.ntmps53
      go_wp2_with fail
      refine k1.mono ?_
      rintro e W1 ⟨v1, rfl, r1, f1, g1⟩
      obtain ⟨a1, d1, rfl, rd1, -, -⟩ := r1.rd
      obtain ⟨v2, W2, hr, r2, f2, g2⟩ := app_all (W := w) (c := d1) (row_nil W1) (fresh_nil w) g1 rfl rd1 (by simp; omega)
      rw [List.nil_append] at r2
      obtain ⟨a2, d2, rfl, rd2, -, -⟩ := r2.rd
      have F := hide (And.intro r2 (And.intro f2 g2))
      clear k1 r1 f1 rd1 r2 f2 rd2
      generalize X1.length = x1 at *
      go_wp2_with (at_builtin; refine wpList_append_run _ rfl _ _ 26 26 rfl _ _ rfl rfl (hr _) ?_)
      go_ret
      exact ⟨_, rfl, unhide F⟩
  · rw [if_neg h1, List.nil_append]
    clear c1 hw1
    by_cases h2 : hi < 18446744073709551615
    · rw [if_pos h2]
      have k2 := c2 h2 w (grown_self _ _)
      have e2 := hw2 h2
      clear c2 hw2
      go_enter Try.func53, Try.ntmps53
      go_wp2_with fail
      refine k2.mono ?_
      rintro e W1 ⟨v1, rfl, r1, f1, g1⟩
      obtain ⟨a1, d1, rfl, rd1, -, -⟩ := r1.rd
      obtain ⟨v2, W2, hr, r2, f2, g2⟩ := app_all (W := w) (c := d1) (row_nil W1) (fresh_nil w) g1 rfl rd1 (by simp; omega)
      rw [List.nil_append] at r2
      obtain ⟨a2, d2, rfl, rd2, -, -⟩ := r2.rd
      have F := hide (And.intro r2 (And.intro f2 g2))
      clear k2 r1 f1 rd1 r2 f2 rd2
      generalize X2.length = x1 at *
      go_wp2_with (at_builtin; refine wpList_append_run _ rfl _ _ 26 26 rfl _ _ rfl rfl (hr _) ?_)
      go_ret
      exact ⟨_, rfl, unhide F⟩
    · rw [if_neg h2]
      clear c2 hw2
      go_enter Try.func53, Try.ntmps53
      go_wp2_with fail
      go_ret
      exact ⟨_, rfl, row_nil _, fresh_nil _, grown_self _ _⟩
end Go.Proofs.Ytcojhjnledeciaa.Kr
