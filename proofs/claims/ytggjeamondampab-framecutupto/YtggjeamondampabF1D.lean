/- Size; an append of runs that can be read. -/
import Derived.Test.YtggjeamondampabFX6
import Derived.Test.YtggjeamondampabF1A
namespace Go.Proofs.Ytggjeamondampab
open Go.RowKit
set_option linter.unusedVariables false
set_option maxRecDepth 100000
set_option maxHeartbeats 4000000

theorem OwnR.ownN {base : Nat} {w : World} {v : Value} {T : List (Int × Int)} (h : OwnR base w v T) : ∀ k, v.ownBlock = some k → base ≤ k := fun k hk => by
  rcases h.2 with ⟨rfl, -⟩ | ⟨b, c, cur, rfl, q1, -⟩
  · cases hk
  · injection hk with hk; exact hk ▸ q1
/-- More runs, whatever can be read. -/
theorem app_rdR {w0 W : World} {v : Value} {T e : List (Int × Int)} {a : Option Addr} (c : Nat) (h : OwnR w0.heap.size W v T) (hg : w0.grownBy W none) (hr : RdR W a e) (hb : (T.length + e.length) * 16 ≤ 140737488355328) :
    ∃ a' c' W', (∀ ty, (Builtin.append_ #[23, 23] ty #[v, .slice a e.length c]).run Try.prog W = .ok (.slice a' (T.length + e.length) c') W') ∧ OwnR w0.heap.size W' (.slice a' (T.length + e.length) c') (T ++ e) ∧ w0.grownBy W' none := by
  obtain ⟨inf, hi0, hz0, hz1, hz2⟩ := info_parts Try.info57
  by_cases he : e = []
  · subst he
    rcases h.2 with ⟨h1, h2⟩ | ⟨g, cap, cur, e1, -, -, hc, hx, -⟩
    · have h0 : T = [] := List.length_eq_zero_iff.1 h2
      subst h0 h1
      refine ⟨none, 0, W, fun ty => ?_, by simpa using h, hg⟩
      cases a <;> simp [Builtin.append_, run_underlying Try.underlying23, sizeOf, typeInfo, hi0, Builtin.lenOf, Builtin.firstCells, loadCells, loadCellsFrom]
    · subst e1
      refine ⟨_, cap, W, fun ty => ?_, by simpa using h, hg⟩
      cases a <;> simp [Builtin.append_, run_underlying Try.underlying23, sizeOf, typeInfo, hi0, Builtin.lenOf, Builtin.firstCells, loadCells, loadCellsFrom, hc, storeCells]
  · obtain ⟨b, off, rfl, hc⟩ := hr he
    obtain ⟨v', W', hrn, ho, hgr, hnil⟩ := run_append_own (P := Try.prog) W w0.heap.size 23 23 57 inf (.agg #[.int .i64 0, .int .i64 0]) 2 16 Try.underlying23 hi0 hz0 hz1 hz2 rfl (by decide) v T.length (clR T) h ⟨b, off, none⟩ e.length c (clR e) (clR_length e) (fun j u hj => by
      have hjl : j < e.length * 2 := by have := (List.getElem?_eq_some_iff.1 hj).1; rw [clR_length] at this; exact this
      have hadd : (⟨b, off, none⟩ : Addr).add j = ⟨b, off + j, none⟩ := by simp [Addr.add]
      rw [hadd]
      obtain ⟨g0, g1⟩ := clR_get e (j / 2) (by omega)
      obtain ⟨x0, x1⟩ := hc (j / 2) (by omega)
      rcases (by omega : j = j / 2 * 2 ∨ j = j / 2 * 2 + 1) with hh | hh
      · rw [hh, g0] at hj; injection hj with hj; rw [hh, ← hj]; exact x0
      · rw [hh, g1] at hj; injection hj with hj; rw [hh, ← hj, ← Nat.add_assoc]; exact x1) (fun u hu => by
      simp only [clR, List.mem_flatMap] at hu
      obtain ⟨s, -, hs⟩ := hu
      rcases List.mem_cons.1 hs with rfl | hs
      · rfl
      · obtain rfl := List.mem_singleton.1 hs; rfl) (by unfold maxLen; omega) (by omega) hg.size
    have e2 : (T ++ e).length = T.length + e.length := by simp
    have e3 : clR (T ++ e) = clR T ++ clR e := by simp [clR]
    have ho' : OwnR w0.heap.size W' v' (T ++ e) := by unfold OwnR; rw [e2, e3]; exact ho
    obtain ⟨a', c', rfl⟩ : ∃ a' c', v' = .slice a' (T.length + e.length) c' := by
      rcases ho.2 with ⟨e1, e2⟩ | ⟨g', c', cur, e1, -⟩
      · have := List.length_pos_iff.2 he; omega
      · exact ⟨_, _, e1⟩
    exact ⟨a', c', W', fun _ => hrn, ho', grown_own hg hgr h.ownN⟩

/-- What Size answers. -/
theorem sizeFr_any (f : Fr) (d r : Value) (w : World) (hF : FrIn w f d r) (hD : TS w d f.data) (hk : -9223372036854775808 ≤ f.kind ∧ f.kind ≤ 9223372036854775807) (hrl : f.runs.length * 16 ≤ 140737488351232) (hdl : f.data.length ≤ 140737488351232) :
    Calls Try.prog 10 #[f.val d r] w fun e w' => e = .returned (.tuple #[.int .i64 ((encF f).1.length : Int), .int .i64 (encF f).2]) ∧ w.grownBy w' none := by
  have hml : (f.runs.length : Int) ≤ MAXN := by unfold MAXN; omega
  have htl := hide (fun W (g : w.grownBy W none) => tell_any f d r W (hF.keep g) (hD.keep g) hk hrl)
  obtain ⟨C, hC⟩ : ∃ C, C = f.cs d r := ⟨_, rfl⟩
  have C17 : C.size = 17 := by rw [hC]; rfl
  have iC : (Try.prog.info? 26).map (·.size) = some C.size := by rw [C17]; exact Try.size26
  have e1 : f.val d r = .agg C := by rw [hC]
  rw [e1] at htl ⊢
  have B0 := Blk.new w C 26
  have g0 := World.grownBy_alloc w (.cells C 26) none
  have HB := hide B0
  have hte := unhide htl _ g0
  unfold TellPost at hte
  clear hF hD hk htl C17 e1 hC B0
  cases ht : tellF f with
  | inr x =>
    have hE : encF f = ([], x) := by unfold encF; rw [ht]
    rw [ht] at hte
    simp only at hte
    rw [hE]
    have hx := tell_err ht
    clear ht hE
    rcases hx with rfl | rfl
    all_goals
      go_enter Try.func10, Try.ntmps10
      go_wp2_with (first | (refine wpList_load_row rfl _ _ rfl w.heap.size rfl 26 C (0, 0) _ (unhide HB) Try.underlying26 rfl iC ?_) | (go_at_call 24; refine hte.mono ?_; rintro e W1 ⟨rfl, g1⟩))
      go_ret2
      exact ⟨rfl, g0.trans g1⟩
  | inl nr =>
    obtain ⟨n, rs⟩ := nr
    have hE : encF f = (encL n ++ rs, 0) := by unfold encF; rw [ht]
    rw [ht] at hte
    simp only at hte
    obtain ⟨rng, nlen, rsl, one⟩ := tell_ok ht hml
    have tot : (encL n).length + rs.length ≤ 140737488355328 ∧ n.length ≤ 100000000000000000 ∧ (encL n).length ≤ 140737488355328 := by
      have := encL_le n
      rcases one with e | e
      · rw [e] at nlen; simp at nlen
        rcases rsl with e2 | ⟨e2, -⟩
        · rw [e2]; omega
        · omega
      · rcases rsl with e2 | ⟨e2, e3⟩
        · rw [e2, e]; simp; omega
        · rw [e3] at nlen; simp at nlen; omega
    rw [hE]
    have e9 : ((encL n ++ rs).length : Int) = ((encL n).length : Int) + (rs.length : Int) := by simp
    simp only [e9]
    have HR := hide rng
    have HT := hide tot
    clear ht hE rng nlen rsl one tot hml hrl hdl e9
    go_enter Try.func10, Try.ntmps10
    go_upto_region 4 with (first | (refine wpList_load_row rfl _ _ rfl w.heap.size rfl 26 C (0, 0) _ (unhide HB) Try.underlying26 rfl iC ?_) | (go_at_call 24; refine hte.mono ?_; rintro e W1 ⟨v1, s1, rfl, o1, t1, g1⟩; obtain ⟨va, vc, rfl, vl1, vl2, vrd⟩ := o1.at; obtain ⟨sa, sc, rfl, srd, sl1, sl2⟩ := t1.ex))
    have hlen := length_any va sa n n.length vc rs.length sc W1 rfl vrd (unhide HR) ⟨vl1, vl2⟩ (unhide HT).2.1 (by have := (unhide HT).1; omega)
    have HG := hide (g0.trans g1)
    clear hte HB o1 t1 g0 g1 srd vrd
    go_wp2_with (first | (go_at_call 25; refine hlen.mono ?_; rintro e W9 ⟨rfl, hw⟩; replace hw := hw.symm; subst hw))
    go_ret2
    exact ⟨by simp, unhide HG⟩
end Go.Proofs.Ytggjeamondampab
