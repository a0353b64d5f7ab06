/- Ledger: copied, a packet to its depth in new memory. -/
import Derived.Test.YtnflbefbgcbdfaaL3C
import Derived.Deep.RegionHeld3
namespace Go.Proofs.Ytnflbefbgcbdfaa
open Go.RowKit
set_option linter.unusedVariables false
set_option maxRecDepth 100000
set_option maxHeartbeats 4000000

theorem Try.sizeSent : (Try.prog.info? 36).map (·.size) = some 8 := by kernel_rfl
/-- While the frames are copied: the first i are. -/
structure CI (X : World) (n0 g : Nat) (css : List (List Value)) (fs : List Fr) (i : Nat) (W : World) : Prop where
  gr : X.grownBy W none
  blk : Blk W g css.flatten.toArray 83
  len : css.length = fs.length
  new : ∀ (j : Nat) c f, j < i → css[j]? = some c → fs[j]? = some f → FrAt (fun b => n0 ≤ b ∧ b ≠ g) W c f
  old : ∀ (j : Nat) c f, i ≤ j → css[j]? = some c → fs[j]? = some f → FrAt (fun b => b < n0) W c f
  hg : n0 ≤ g
  nX : X.heap.size ≤ n0
section
variable {X W W' : World} {n0 g i : Nat} {css : List (List Value)} {fs : List Fr}
theorem CI.l17 (h : CI X n0 g css fs i W) : ∀ c ∈ css, c.length = 17 := fun c hc => by
  obtain ⟨j, hj⟩ := List.getElem?_of_mem hc
  have hl := (List.getElem?_eq_some_iff.1 hj).1
  have hf : fs[j]? = some (fs[j]'(by rw [← h.len]; exact hl)) := List.getElem?_eq_getElem _
  by_cases q : j < i
  · exact (h.new j c _ q hj hf).len
  · exact (h.old j c _ (by omega) hj hf).len
theorem CI.grown (h : CI X n0 g css fs i W) (k : W.grownBy W' none) : CI X n0 g css fs i W' :=
  ⟨grown_trans h.gr k, h.blk.grown k, h.len, fun j c f hj hc hf => (h.new j c f hj hc hf).grown k, fun j c f hj hc hf => (h.old j c f hj hc hf).grown k, h.hg, h.nX⟩
/-- What the frame at i holds. -/
theorem CI.look (h : CI X n0 g css fs i W) (hi : i < fs.length) : ∃ c f dv rv, css[i]? = some c ∧ fs[i]? = some f ∧ f.Wf ∧ c = f.cs dv rv ∧ Li (fun b => b < n0) W 1 dv f.d ∧ Li (fun b => b < n0) W 2 rv f.r ∧ W.cell? ⟨g, i * 17 + 3, none⟩ = some dv ∧ W.cell? ⟨g, i * 17 + 12, none⟩ = some rv := by
  have hc : css[i]? = some (css[i]'(by rw [h.len]; exact hi)) := List.getElem?_eq_getElem _
  have hf : fs[i]? = some (fs[i]'hi) := List.getElem?_eq_getElem _
  generalize css[i]'(by rw [h.len]; exact hi) = c at hc
  generalize fs[i]'hi = f at hf
  obtain ⟨wf, dv, rv, e, l1, l2⟩ := h.old i c f (Nat.le_refl _) hc hf
  refine ⟨c, f, dv, rv, hc, hf, wf, e, l1, l2, h.blk.cell _ _ ?_, h.blk.cell _ _ ?_⟩
  · rw [List.getElem?_toArray, flat_get 17 css i 3 h.l17 (by omega), hc, Option.bind_some, e, Fr.at3 wf]
  · rw [List.getElem?_toArray, flat_get 17 css i 12 h.l17 (by omega), hc, Option.bind_some, e, Fr.at12 wf]
/-- Two stores: the frame at i is a copy now. -/
theorem CI.step (h : CI X n0 g css fs i W) {c : List Value} {f : Fr} {dv rv dv' rv' : Value} (hc : css[i]? = some c) (hf : fs[i]? = some f) (wf : f.Wf) (e : c = f.cs dv rv) (l1 : Li (fun b => n0 ≤ b ∧ b ≠ g) W 1 dv' f.d) (l2 : Li (fun b => n0 ≤ b ∧ b ≠ g) W 2 rv' f.r) :
    CI X n0 g (css.set i (f.cs dv' rv')) fs (i + 1) ((W.setCell ⟨g, i * 17 + 3, none⟩ dv').setCell ⟨g, i * 17 + 12, none⟩ rv') := by
  have l17 := h.l17
  have hil := (List.getElem?_eq_some_iff.1 hc).1
  have hk : ∀ b, b ≠ g → ((W.setCell ⟨g, i * 17 + 3, none⟩ dv').setCell ⟨g, i * 17 + 12, none⟩ rv').heap[b]? = W.heap[b]? := fun b hb => by rw [set_heap _ _ _ _ _ hb, set_heap _ _ _ _ _ hb]
  have hg := h.hg
  have nX := h.nX
  refine ⟨grown_set (grown_set h.gr _ _ _ (by omega)) _ _ _ (by omega), ?_, by rw [List.length_set]; exact h.len, fun j c2 f2 hj hc2 hf2 => ?_, fun j c2 f2 hj hc2 hf2 => ?_, hg, nX⟩
  · have b1 := (h.blk.setC (i * 17 + 3) dv').setC (i * 17 + 12) rv'
    have e1 : (css.flatten.toArray.setIfInBounds (i * 17 + 3) dv').setIfInBounds (i * 17 + 12) rv' = (css.set i (f.cs dv' rv')).flatten.toArray := by
      rw [List.setIfInBounds_toArray, List.setIfInBounds_toArray, flat_set 17 dv' css i 3 c l17 (by omega) hc, e, Fr.set3 wf]
      have h17 : ∀ d ∈ css.set i (f.cs dv' rv), d.length = 17 := fun d hd => by
        rcases List.mem_or_eq_of_mem_set hd with q | q
        · exact l17 d q
        · rw [q]; exact Fr.len wf _ _
      rw [flat_set 17 rv' _ i 12 (f.cs dv' rv) h17 (by omega) (by rw [List.getElem?_set_self hil]), List.set_set, Fr.set12 wf]
    rw [← e1]
    exact b1
  · by_cases q : j = i
    · subst q
      rw [List.getElem?_set_self hil] at hc2
      cases hc2
      rw [hf] at hf2
      cases hf2
      exact ⟨wf, dv', rv', rfl, l1.kept fun b hb => hk b hb.2, l2.kept fun b hb => hk b hb.2⟩
    · rw [List.getElem?_set_ne (by omega)] at hc2
      exact (h.new j c2 f2 (by omega) hc2 hf2).kept fun b hb => hk b hb.2
  · rw [List.getElem?_set_ne (by omega)] at hc2
    exact (h.old j c2 f2 (by omega) hc2 hf2).kept fun b hb => hk b (by omega)
/-- All are copies. -/
theorem CI.fv (h : CI X n0 g css fs fs.length W) (hn : fs.length ≤ 100000000) (c : Nat) : FvAt (fun b => n0 ≤ b) W (.slice (some ⟨g, 0, none⟩) fs.length c) fs := by
  refine ⟨hn, _, c, css, rfl, ⟨h.len, fun i cc f hc hf => (h.new i cc f (List.getElem?_eq_some_iff.1 hf).1 hc hf).mono fun b hb => hb.1⟩, rdv_blk h.blk, fun _ b off e => ?_⟩
  cases e
  exact h.hg
end
end Go.Proofs.Ytnflbefbgcbdfaa
