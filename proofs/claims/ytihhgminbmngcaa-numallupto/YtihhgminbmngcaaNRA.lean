/- NumAll: the document's All. -/
import Derived.Test.YtihhgminbmngcaaNVD
import Derived.Test.YtihhgminbmngcaaNWD
namespace Go.Proofs.Ytihhgminbmngcaa
open Go.RowKit Go.Shelf
set_option linter.unusedVariables false
set_option maxRecDepth 100000
set_option maxHeartbeats 2000000
attribute [local go_sem] Oper.semAt_some

theorem allF_len (L : List Int) : ∀ (f : Nat) (i : Int), ((allF L f i).length : Int) ≤ max ((L.length : Int) - i) 0
  | 0, i => by simp only [allF, List.length_nil]; omega
  | f + 1, i => by
    simp only [allF]
    split
    · rename_i h
      have := getF_ok L i h
      have := allF_len L f (getF L i).2.1
      simp only [List.length_cons]
      omega
    · simp only [List.length_nil]; omega
theorem allF_neg (L : List Int) (f : Nat) (i : Int) (h : i < 0) : allF L f i = [] := by
  cases f with
  | zero => rfl
  | succ f =>
    rw [allF, if_neg]
    intro q
    have := getF_ok L i q
    omega
theorem allG_len (L : List Int) (i : Int) : (allG L i).length ≤ L.length := by
  unfold allG
  by_cases h : i < 0
  · rw [allF_neg L _ i h]; simp
  · have := allF_len L ((L.length : Int) + 1 - i).toNat i
    omega
theorem Rd.bel {w w' : World} {a : Option Addr} {l : List Int} (h : Rd w a l) (hb : Below w.heap.size w w') : Rd w' a l := ⟨h.1, fun hne => by
  obtain ⟨b, off, e, hc⟩ := h.2 hne
  exact ⟨b, off, e, fun i hi => (hb.cell (p := ⟨b, off + i, none⟩) (World.block_lt_of_cell? w _ (hc i hi))).trans (hc i hi)⟩⟩
/-- The two rows that All collects. -/
structure AR (w : World) (W : World) (pv mv : Value) (lp lm : List Int) : Prop where
  rp : IRow W w.heap.size 3 .i64 pv lp
  rm : IRow W w.heap.size 35 .u64 mv lm
  bel : Below w.heap.size w W
section
variable {w W W1 : World} {pv mv pv' mv' : Value} {lp lm lp' lm' : List Int}
theorem AR.below (h : AR w W pv mv lp lm) (hb : Below W.heap.size W W1) : AR w W1 pv mv lp lm := ⟨h.rp.below hb, h.rm.below hb, h.bel.trans (hb.mono h.bel.size)⟩
theorem AR.alloc (h : AR w W pv mv lp lm) (o : Obj) : AR w (W.alloc o) pv mv lp lm := ⟨h.rp.alloc o, h.rm.alloc o, h.bel.alloc h.bel.size o⟩
theorem AR.app_p (h : AR w W pv mv lp lm) (o : Obj) (hm : Moved (W.alloc o) W1 pv pv') (hr : IRow W1 w.heap.size 3 .i64 pv' lp') : AR w W1 pv' mv lp' lm := by
  have h' := h.alloc o
  exact ⟨hr, h'.rm.moved hm h'.rp (by decide), h'.rp.bel hm h'.bel h'.bel.size⟩
theorem AR.app_m (h : AR w W pv mv lp lm) (o : Obj) (hm : Moved (W.alloc o) W1 mv mv') (hr : IRow W1 w.heap.size 35 .u64 mv' lm') : AR w W1 pv mv' lp lm' := by
  have h' := h.alloc o
  exact ⟨h'.rp.moved hm h'.rm (by decide), hr, h'.rm.bel hm h'.bel h'.bel.size⟩
end

theorem rall_in (a : Option Addr) (L : List Int) (cap : Nat) (i0 : Int) (w : World) (hr : Rd w a L) (hm : L.length ≤ 1048576) :
    CallsIn Fence.wide 4 Try.prog 8 #[.slice a L.length cap, .int .i64 i0] w fun e W => ∃ pv mv, e = .returned (.tuple #[pv, mv]) ∧ AR w W pv mv ((allG L i0).map Prod.fst) ((allG L i0).map Prod.snd) := by
  have hwide : ∀ f, Fence.wide.fn f := fun _ => trivial
  have hall := allG_len L i0
  refine callsIn_of_wp Try.func8 rfl trivial ?_ rfl
  simp only [Try.ntmps8, List.size_toArray, List.length_cons, List.length_nil, Nat.reduceAdd, Nat.reduceSub, Array.replicate_succ, Array.replicate_zero, List.push_toArray, List.append_toArray, List.nil_append, List.cons_append]
  gi_wp2
  gi_loopw [1, 6, 7] (fun i pv mv wr => ∃ (pre : List Pair) (p : Int) (pa ma : Option Addr) (pc mc : Nat), i = .int .i64 p ∧ pv = .slice pa pre.length pc ∧ mv = .slice ma pre.length mc ∧ pre ++ allG L p = allG L i0 ∧ Hid (AR w wr (.slice pa pre.length pc) (.slice ma pre.length mc) (pre.map Prod.fst) (pre.map Prod.snd))) (fun i _ _ _ => ((L.length : Int) + 1 - intOf i).toNat)
  case atStart => exact ⟨[], i0, none, none, 0, 0, rfl, rfl, rfl, rfl, ⟨World.ownsRow_nil _ _ _ _, World.ownsRow_nil _ _ _ _, Below.refl _ _⟩⟩
  case round =>
    obtain ⟨pre, p, pa, ma, pc, mc, rfl, rfl, rfl, hpre, H⟩ := hrel
    have hrd := hr.bel (unhide H).bel
    have hget := rget_any a L cap p wr hrd (by unfold maxLen; omega)
    unfold tup3 at hget
    have HPRE := hide hpre
    clear hpre hrd
    by_cases hok : (getF L p).2.2 = 0
    · have hg := allG_ok L p hok
      have hk := getF_ok L p hok
      have hpre2 : (pre ++ [(p, (getF L p).1)]) ++ allG L (getF L p).2.1 = allG L i0 := by rw [List.append_assoc, List.singleton_append, ← hg]; exact unhide HPRE
      have hlen : pre.length < (allG L i0).length := by rw [← hpre2]; simp
      have HP2 := hide hpre2; have HK := hide hk
      have lp : (pre.map Prod.fst).length = pre.length := List.length_map _
      have lm : (pre.map Prod.snd).length = pre.length := List.length_map _
      clear hg hpre2 hk HPRE
      generalize getF L p = G at *
      obtain ⟨g1, g2, g3⟩ := G
      simp only at hok hget HP2 HK
      subst hok
      gi_wp2_with (first
        | (gi_at_call 15; refine (callsIn_wide.2 hget).mono ?_; rintro e w' ⟨rfl, hb⟩; have H1 := hide ((unhide H).below hb); clear hb hget H)
        | (gi_at_builtin; refine wpListIn_appI _ rfl (.tmp 22) (.tmp 24) 30 3 .i64 8 rfl Try.underlying30 Try.info3 w.heap.size _ _ (unhide H1).rp rfl p _ rfl (by simp) (by omega) (by unfold maxLen; omega) (unhide H1).bel.size ?_; intro pv' W3 hr3 hm3; obtain ⟨pa', pc', ep, -⟩ := hr3.shape; have H2 := hide ((unhide H1).app_p _ hm3 hr3); clear hr3 hm3 H1)
        | (gi_at_builtin; refine wpListIn_appI _ rfl (.tmp 26) (.tmp 28) 31 35 .u64 8 rfl Try.underlying31 Try.infoU64 w.heap.size _ _ (unhide H2).rm rfl g1 _ rfl (by simp) (by omega) (by unfold maxLen; omega) (unhide H2).bel.size ?_; intro mv' W4 hr4 hm4; obtain ⟨ma', mc', em, -⟩ := hr4.shape; have H3 := hide ((unhide H2).app_m _ hm4 hr4); clear hr4 hm4 H2)
        | fail)
      go_roundw
      case rel =>
        have e1 : (pre.map Prod.fst ++ [p]).length = (pre ++ [(p, g1)]).length := by simp
        have e2 : (pre.map Prod.snd ++ [g1]).length = (pre ++ [(p, g1)]).length := by simp
        rw [e1] at ep
        rw [e2] at em
        subst ep em
        refine ⟨pre ++ [(p, g1)], g2, pa', ma', pc', mc', rfl, by simp, by simp, unhide HP2, ?_⟩
        rw [List.map_append, List.map_append]
        exact H3
      case measure => have := unhide HK; simp [intOf]; omega
    · have hne : ((getF L p).2.2 != 0) = true := by rw [bne_iff_ne]; exact hok
      have hp : pre = allG L i0 := by have := unhide HPRE; rw [allG_end L p hok, List.append_nil] at this; exact this
      have HPP := hide hp
      clear hp hok HPRE
      gi_wp2_with (gi_at_call 15; refine (callsIn_wide.2 hget).mono ?_; rintro e w' ⟨rfl, hb⟩; have H1 := hide ((unhide H).below hb); clear hb hget H)
      go_ret2
      exact ⟨_, _, rfl, by rw [← unhide HPP]; exact unhide H1⟩
theorem rall_any (a : Option Addr) (L : List Int) (cap : Nat) (i0 : Int) (w : World) (hr : Rd w a L) (hm : L.length ≤ 1048576) :
    Calls Try.prog 8 #[.slice a L.length cap, .int .i64 i0] w fun e W => ∃ pv mv, e = .returned (.tuple #[pv, mv]) ∧ AR w W pv mv ((allG L i0).map Prod.fst) ((allG L i0).map Prod.snd) := callsIn_wide.1 (rall_in a L cap i0 w hr hm)
end Go.Proofs.Ytihhgminbmngcaa
