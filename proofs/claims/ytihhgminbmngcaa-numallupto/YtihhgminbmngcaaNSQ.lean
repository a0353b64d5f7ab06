/- NumAll: what All hands back, as an iterator that may stand within a round. -/
import Derived.Test.YtihhgminbmngcaaNRA
import Derived.Test.YtihhgminbmngcaaT2L
namespace Go.Proofs.Ytihhgminbmngcaa
open Go.RowKit Go.Shelf
set_option linter.unusedVariables false
set_option maxRecDepth 100000
attribute [local go_sem] Oper.semAt_some

set_option maxRecDepth 100000 in
set_option maxHeartbeats 2000000 in
theorem all1_kx (n : Nat) (hn : 1 ≤ n) (l Ba Bb n₀ cap : Nat) (a : Option Addr) (L : List Int) (i0 : Int) (hm : L.length ≤ cap) (hm2 : cap ≤ maxLen) (J Jx : List Pair → World → Prop)
    (hY : ∀ pre x W, J pre W → pre ++ [x] <+: allG L i0 → YieldAt Fence.wide (n - 1) Try.prog l (encP x) W fun e W' =>
      (e = .returned (.bool true) ∧ J (pre ++ [x]) W' ∧ Below n₀ W W') ∨ (e = .returned (.bool false) ∧ Jx (pre ++ [x]) W'))
    (hJd : ∀ pre W q, J pre W → J pre (W.drewN q))
    (W : World) (hBa : W.cell? ⟨Ba, 0, none⟩ = some (.int .i64 i0)) (hBb : W.cell? ⟨Bb, 0, none⟩ = some (.slice a L.length cap)) (hb0 : Bb < n₀) (hr : RdB n₀ W a L) (h0 : J [] W) :
    CallsIn Fence.wide n Try.prog 14 #[.func (.yield l) #[] #[], .pointer (some ⟨Ba, 0, none⟩), .pointer (some ⟨Bb, 0, none⟩)] W fun e W' => (∃ v, e = .returned v) ∧
      ((∃ ys, ys = allG L i0 ∧ J ys W') ∨ (∃ pre, pre <+: allG L i0 ∧ Jx pre W')) := by
  have hwide : ∀ f, Fence.wide.fn f := fun _ => trivial
  refine callsIn_of_wp Try.func14 rfl trivial ?_ rfl
  simp only [Try.ntmps14, List.size_toArray, List.length_cons, List.length_nil, Nat.reduceAdd, Nat.reduceSub, Array.replicate_succ, Array.replicate_zero, List.push_toArray, List.append_toArray, List.nil_append, List.cons_append]
  gi_wp2
  gi_loopw [4] (fun i wr => ∃ (pre : List Pair) (p : Int), i = .int .i64 p ∧ pre ++ allG L p = allG L i0 ∧ J pre wr ∧ Below n₀ W wr) (fun i _ => ((L.length : Int) + 1 - intOf i).toNat)
  case atStart => exact ⟨[], i0, rfl, rfl, h0, Below.refl _ _⟩
  case round =>
    obtain ⟨pre, p, rfl, hpre, hJs, hnx⟩ := hrel
    have hbb := (hnx.cell (p := ⟨Bb, 0, none⟩) hb0).trans hBb
    have HRD := hide (hr.below hnx)
    have HPRE := hide hpre
    have HJ := hide hJs; have HN := hide hnx; have HY := hide hY; have HJd := hide hJd
    clear hpre hJs hnx hY hJd
    by_cases hok : (getF L p).2.2 = 0
    · have hg := allG_ok L p hok
      have hk := getF_ok L p hok
      have hpre2 : (pre ++ [(p, (getF L p).1)]) ++ allG L (getF L p).2.1 = allG L i0 := by rw [List.append_assoc, List.singleton_append, ← hg]; exact unhide HPRE
      have hlen : pre.length < (allG L i0).length := by rw [← hpre2]; simp
      have HP2 := hide hpre2; have HK := hide hk; have HOK := hide hok
      clear hg hpre2 hk
      gi_wp2_with (gi_at_call 13; refine (callsIn_wide.2 (get_any a L cap p wr (unhide HRD).rd hm hm2)).mono ?_; rintro e w' ⟨rfl, q, rfl⟩; have HJ2 := hide (unhide HJd _ _ q (unhide HJ)); have HN2 := hide (bel_drewN (unhide HN) q); generalize wr.drewN q = W2 at HJ2 HN2 ⊢; obtain ⟨fn, tmps, assign, body, hy, hR⟩ := (unhide HY) pre (p, (getF L p).1) W2 (unhide HJ2) ⟨_, unhide HP2⟩; have HRR := hide hR; clear hR)
      refine (unhide HRR).mono ?_
      rintro e W3 (⟨rfl, hJ3, hk3⟩ | ⟨rfl, hJx3⟩)
      · have HB3 := hide ((unhide HN2).trans hk3)
        clear hk3
        gi_wp2
        go_roundw
        case rel => exact ⟨_, (getF L p).2.1, rfl, unhide HP2, hJ3, unhide HB3⟩
        case measure => have := unhide HK; simp [intOf]; omega
      · gi_wp2
        refine bodyPost_ret (results_none rfl _ _ _) rfl ?_
        exact ⟨⟨_, rfl⟩, .inr ⟨_, ⟨_, unhide HP2⟩, hJx3⟩⟩
    · have hne : ((getF L p).2.2 != 0) = true := by rw [bne_iff_ne]; exact hok
      have hp : pre = allG L i0 := by have := unhide HPRE; rw [allG_end L p hok, List.append_nil] at this; exact this
      have HPP := hide hp
      clear hp hok
      gi_wp2_with (gi_at_call 13; refine (callsIn_wide.2 (get_any a L cap p wr (unhide HRD).rd hm hm2)).mono ?_; rintro e w' ⟨rfl, q, rfl⟩; have HJ2 := hide (unhide HJd _ _ q (unhide HJ)); have HN2 := hide (bel_drewN (unhide HN) q); generalize wr.drewN q = W2 at HJ2 HN2 ⊢)
      refine bodyPost_ret (results_none rfl _ _ _) rfl ?_
      exact ⟨⟨_, rfl⟩, .inl ⟨pre, unhide HPP, unhide HJ2⟩⟩


theorem all_seq (Ba Bb n₀ cap : Nat) (a : Option Addr) (L : List Int) (i0 : Int) (hm : L.length ≤ cap) (hm2 : cap ≤ maxLen) (w : World) (hBa : Ba < w.heap.size) (hBb : Bb < n₀) (hn₀ : n₀ ≤ w.heap.size)
    (ha : w.cell? ⟨Ba, 0, none⟩ = some (.int .i64 i0)) (hb : w.cell? ⟨Bb, 0, none⟩ = some (.slice a L.length cap)) (hr : RdB n₀ w a L) :
    SeqO 14 #[.pointer (some ⟨Ba, 0, none⟩), .pointer (some ⟨Bb, 0, none⟩)] encP (Below n₀) (fun ys => ys = allG L i0) (fun pre => pre <+: allG L i0) w := fun l J Jx X hX hJ hJx hY hJ0 => by
  refine ((callsIn_wide (n := 2)).1 (all1_kx 2 (by decide) l Ba Bb n₀ cap a L i0 hm hm2 J Jx ?_ (fun pre W q h => hJ pre W _ none h (grown_drewN W q) (fun r e => by cases e)) X ((hX.cell (p := ⟨Ba, 0, none⟩) hBa).trans ha) ((hX.cell (p := ⟨Bb, 0, none⟩) (by show Bb < _; omega)).trans hb) hBb (hr.below (hX.mono hn₀)) hJ0)).mono ?_
  · intro pre x Y hj hp
    refine (hY 1 pre x Y hj hp).mono ?_
    rintro e Y' (⟨h1, h2, h3, -⟩ | ⟨h1, h2, -⟩)
    · exact .inl ⟨h1, h2, h3⟩
    · exact .inr ⟨h1, h2⟩
  · exact fun e W' h => h
end Go.Proofs.Ytihhgminbmngcaa
