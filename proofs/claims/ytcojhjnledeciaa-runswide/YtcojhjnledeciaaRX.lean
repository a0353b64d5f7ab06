/- The document's functions (portageref02): Holes, without. -/
import Derived.Test.YtcojhjnledeciaaRW
namespace Go.Proofs.Ytcojhjnledeciaa.Kr
open Go.RowKit
set_option linter.unusedVariables false
set_option maxHeartbeats 800000
set_option maxRecDepth 100000

theorem drop_cons {L : List Sp} {k : Nat} (h : k < L.length) : L.drop k = L.getD k (0, 0) :: L.drop (k + 1) := by
  rw [List.drop_eq_getElem_cons h]
  simp [List.getD, h]

theorem holes_ref (a : Option Addr) (n c : Nat) (L : List Sp) (lo hi : Int) (w : World) (hn : L.length = n) (hrd : RdR w a L) (hL : Good 0 18446744073709551615 L) (hc : n ≤ c ∧ c ≤ 9223372036854775807) (hb : n ≤ 8000000000000) (hlo : 0 ≤ lo ∧ lo ≤ 18446744073709551615) (hhi : 0 ≤ hi ∧ hi ≤ 18446744073709551615) :
    Calls Try.prog 24 #[.slice a n c, .int .u64 lo, .int .u64 hi] w fun e w' => ∃ v', e = .returned v' ∧ Row w' v' (if hi < lo then [] else holesF lo hi L) ∧ Fresh w v' ∧ w.grownBy w' none := by
  by_cases hlh : hi < lo
  · rw [if_pos hlh]
    have hd : decide (hi < lo) = true := decide_eq_true hlh
    clear hrd hL
    go_enter Try.func24, Try.ntmps24
    go_wp2
    go_ret
    exact ⟨_, rfl, row_nil _, fresh_nil _, grown_self _ _⟩
  rw [if_neg hlh]
  have hle : lo ≤ hi := by omega
  have hwi := within_ref a n c L lo hi w hn hrd (good_vb hL) hc hb hlo hhi
  rw [withinR_eq (fun s hs => (hL.mem hs).2.1) hle] at hwi
  have hRg : Good lo hi (withinF lo hi L) := by
    have := within_good hL hle
    rw [Int.max_eq_right hlo.1, Int.min_eq_right hhi.2] at this
    exact this
  have hRl : (withinF lo hi L).length ≤ 8000000000000 := by
    have := withinR_length lo hi L
    rw [withinR_eq (fun s hs => (hL.mem hs).2.1) hle] at this
    omega
  unfold holesF
  clear hrd hL hn hb
  generalize withinF lo hi L = R at *
  have HRG := hide hRg
  go_enter Try.func24, Try.ntmps24
  go_wp2_with fail
  refine hwi.mono ?_
  rintro e W1 ⟨v8, rfl, hr8, hf8, hg8⟩
  clear hwi
  have rd8 : ∃ a8 c8, v8 = .slice a8 R.length c8 ∧ RdR W1 a8 R ∧ R.length ≤ c8 ∧ c8 ≤ 9223372036854775807 := by
    obtain ⟨a8, c8, rfl, -, k1, k2⟩ := hr8.shape
    unfold maxLen at k1
    exact ⟨a8, c8, rfl, rdR_row hr8, k2, by omega⟩
  obtain ⟨a8, c8, rfl, rd8, hc8, hc9⟩ := rd8
  have RD := hide rd8; have HG8 := hide hg8
  clear rd8 hr8 hf8 hg8 hRg
  generalize hm : R.length = m at *
  have HM := hide hm
  clear hm
  go_wp2
  go_loopw [1, 7, 9] (fun l o i wr => ∃ (k : Nat) (nx : Int) (H : List Sp), k ≤ m ∧ i = .int .i64 k ∧ l = .int .u64 nx ∧ Row wr o H ∧ Fresh W1 o ∧ W1.grownBy wr none ∧ H.length ≤ k ∧ holesGo hi lo R = H ++ holesGo hi nx (R.drop k) ∧ Good nx hi (R.drop k) ∧ 0 ≤ nx ∧ nx ≤ hi) (fun _ _ i _ => m - (intOf i).toNat)
  case atStart => exact ⟨0, lo, [], Nat.zero_le _, rfl, rfl, row_nil _, fresh_nil _, grown_self _ _, by simp, rfl, unhide HRG, hlo.1, hle⟩
  case round =>
    obtain ⟨k, nx, H, hk, rfl, rfl, hrow, hfr, hgw, hHl, heq, hgd, hnx0, hnx⟩ := hrel
    by_cases hlt : k < m
    · have hkL : k < R.length := by rw [unhide HM]; exact hlt
      obtain ⟨g, off, rfl, hcs⟩ := unhide RD (fun e => by rw [e] at hkL; simp at hkL)
      have c0 := cell_grown_none hgw (hcs k hkL).1
      have c1 := cell_grown_none hgw (hcs k hkL).2
      have Z0 := fun W (q : W1.grownBy W none) => cell_grown_none q (hcs k hkL).1
      have Z1 := fun W (q : W1.grownBy W none) => cell_grown_none q (hcs k hkL).2
      rw [drop_cons hkL] at heq hgd
      simp only [holesGo] at heq
      obtain ⟨g1, g2, g3, g4⟩ := hgd
      generalize (R.getD k (0, 0)).1 = r1 at *
      generalize (R.getD k (0, 0)).2 = r2 at *
      have hkn : (k : Int) < (m : Int) := by omega
      have hw1 : nx < r1 → IntKind.u64.wrap (r1 - 1) = r1 - 1 := fun h => by rw [IntKind.wrap_u64]; omega
      have hw2 : ¬ r2 = hi → IntKind.u64.wrap (r2 + 1) = r2 + 1 := fun h => by rw [IntKind.wrap_u64]; omega
      have HLT := hide hlt; have HG := hide hgw; have HF := hide hfr
      have hgW := grown_trans (unhide HG8) hgw
      by_cases h1 : nx < r1
      · rw [if_pos h1] at heq
        obtain ⟨v', w', hr, hro, hmo, hnn⟩ := app_one wr u7 H nx (r1 - 1) 26 hrow (by omega)
        obtain ⟨hg1, hf1⟩ := hmo.fresh (grown_trans hgw (grown_alloc _ _)) hfr
        have Y0 := Z0 w' hg1
        have Y1 := Z1 w' hg1
        obtain ⟨a', c', rfl, -, -, -⟩ := hro.shape
        obtain ⟨ao, co, rfl, -, -, -⟩ := hrow.shape
        have F := hide (And.intro hro (And.intro hf1 hg1))
        have hw := hw1 h1
        have HH := hide (fun (l : List Sp) (e : l = H ++ [(nx, r1 - 1)]) => (show l.length ≤ k + 1 by rw [e]; simp; omega))
        clear hro hmo hnn hf1 hg1 hrow hfr hgw hcs hgW hkL hHl hw1 Z0 Z1
        generalize (H ++ [(nx, r1 - 1)]).length = yl at *
        generalize H.length = xl at *
        by_cases h2 : r2 = hi
        · rw [if_pos h2, List.append_nil] at heq
          have HE := hide heq
          clear heq hw2
          go_wp2_with (at_builtin; refine wpList_append_run _ rfl _ _ 26 26 rfl _ _ rfl rfl hr ?_)
          go_ret
          exact ⟨_, rfl, by rw [unhide HE]; exact (unhide F).1, fun q hq => Nat.le_trans (unhide HG8).size ((unhide F).2.1 q hq), grown_trans (unhide HG8) (unhide F).2.2⟩
        · rw [if_neg h2] at heq
          have HE := hide heq
          have hw3 := hw2 h2
          clear heq hw2
          go_wp2_with (at_builtin; refine wpList_append_run _ rfl _ _ 26 26 rfl _ _ rfl rfl hr ?_)
          exact ⟨⟨k + 1, r2 + 1, H ++ [(nx, r1 - 1)], unhide HLT, by go_num, rfl, (unhide F).1, (unhide F).2.1, (unhide F).2.2, unhide HH _ rfl, by rw [unhide HE, List.append_assoc], g4.mono (by omega), by omega, by omega⟩, by simp [intOf]; have := unhide HLT; omega⟩
      · rw [if_neg h1, List.nil_append] at heq
        obtain ⟨ao, co, rfl, -, -, -⟩ := hrow.shape
        have F := hide (And.intro hrow (And.intro hfr hgw))
        have HH := hide (fun (l : List Sp) (e : l = H) => (show l.length ≤ k + 1 by rw [e]; omega))
        clear hrow hfr hgw hcs hgW hkL hHl hw1 Z0 Z1
        generalize H.length = xl at *
        by_cases h2 : r2 = hi
        · rw [if_pos h2, List.append_nil] at heq
          have HE := hide heq
          clear heq hw2
          go_wp2_with fail
          go_ret
          exact ⟨_, rfl, by rw [unhide HE]; exact (unhide F).1, fun q hq => Nat.le_trans (unhide HG8).size ((unhide F).2.1 q hq), grown_trans (unhide HG8) (unhide F).2.2⟩
        · rw [if_neg h2] at heq
          have HE := hide heq
          have hw3 := hw2 h2
          clear heq hw2
          go_wp2_with fail
          exact ⟨⟨k + 1, r2 + 1, H, unhide HLT, by go_num, rfl, (unhide F).1, (unhide F).2.1, (unhide F).2.2, unhide HH _ rfl, unhide HE, g4.mono (by omega), by omega, by omega⟩, by simp [intOf]; have := unhide HLT; omega⟩
    · obtain rfl : k = m := by omega
      have e : R.drop k = [] := List.drop_of_length_le (by have := unhide HM; omega)
      rw [e] at heq
      simp only [holesGo] at heq
      have hno : ¬ (k : Int) < (k : Int) := by omega
      obtain ⟨v', w', hr, hro, hmo, hnn⟩ := app_one wr u7 H nx hi 26 hrow (by omega)
      obtain ⟨hg1, hf1⟩ := hmo.fresh (grown_trans hgw (grown_alloc _ _)) hfr
      rw [← heq] at hro
      obtain ⟨ao, co, rfl, -, -, -⟩ := hrow.shape
      have F := hide (And.intro hro (And.intro hf1 hg1))
      have HE := hide heq
      clear heq hro hmo hnn hf1 hg1 hrow hfr hgw e hgd
      generalize H.length = xl at *
      go_wp2_with (at_builtin; refine wpList_append_run _ rfl _ _ 26 26 rfl _ _ rfl rfl hr ?_)
      go_ret
      exact ⟨_, rfl, (unhide F).1, fun q hq => Nat.le_trans (unhide HG8).size ((unhide F).2.1 q hq), grown_trans (unhide HG8) (unhide F).2.2⟩

theorem app_nil (w : World) (a : Option Addr) (c : Nat) (ty : TypeId) : (Builtin.append_ #[26, 26] ty #[.slice none 0 0, .slice a 0 c]).run Try.prog w = .ok (.slice none 0 0) w := by
  obtain ⟨inf, hi0, hz0, hz1, hz2⟩ := info_parts Try.infoS
  cases a <;> simp [Builtin.append_, run_underlying Try.underlying26, sizeOf, typeInfo, hi0, Builtin.lenOf, Builtin.firstCells, loadCells, loadCellsFrom]
end Go.Proofs.Ytcojhjnledeciaa.Kr
