/- Next. -/
import Derived.Test.YtbdjlhkgpblebaaDoorHW
namespace Go.Proofs.YtbdjlhkgpblebaaDoor
open Go.RowKit Go.Shelf
set_option linter.unusedVariables false
set_option maxHeartbeats 1000000
set_option maxRecDepth 100000
attribute [local go_sem] Oper.semAt_some

theorem slots_any (W : Nat) (w : World) :
    Calls Tryd.prog 39 #[ptr W] w fun e w' => e = .returned (.func (.func 50) #[] #[.pointer (some ⟨w.heap.size, 0, none⟩)]) ∧ w' = w.alloc (.cells #[ptr W] 45) := by
  go_enter Tryd.func39, Tryd.ntmps39
  go_wp2
  go_ret
  exact ⟨rfl, rfl⟩

theorem slots_stops (n : Nat) (hn : 1 ≤ n) (Bw n₀ W mb c : Nat) (fl : Nat → Nat) (sl : Nat → Nat → List Nd) (w : World) (hBw : w.cell? ⟨Bw, 0, none⟩ = some (ptr W)) (hB : Bw < n₀) (wb : WB w W mb c fl sl) (hW : W < n₀) (ht : Tb w) (h00 : 0 < n₀) (h0 : n₀ ≤ w.heap.size) :
    SeqStopsK Fence.wide n Tryd.prog 50 #[.pointer (some ⟨Bw, 0, none⟩)] (encP (sl := sl)) (Below n₀) Whole Upto 705 w := fun l J Jx X hX hJ _ hY hJ0 =>
  slots1_in n hn l Bw n₀ W mb c fl sl J Jx hY (fun pre X q h => hJ pre X (X.drewN q) none h ⟨rfl, rfl, rfl, Nat.le_refl _, fun _ _ _ => rfl⟩ (fun r e => by cases e)) X ((hX.cell (p := ⟨Bw, 0, none⟩) (Nat.lt_of_lt_of_le hB h0)).trans hBw) hB (wb.kept (hX.block W (Nat.lt_of_lt_of_le hW h0))) hW (ht.kept (hX.block 0 (Nat.lt_of_lt_of_le h00 h0))) h00 hJ0

/-- The time of the first one. -/
def nextA : List Nd → Nat
  | [] => 4611686018427387904
  | n :: _ => n.at_

def firstOk (sl : Nat → Nat → List Nd) (pre : List (SlIn sl)) (a : Nat) : Prop := ∃ x : SlIn sl, pre = [x] ∧ (∃ n ∈ sl x.1.1 x.1.2, n.at_ = a) ∧ ∀ n ∈ sl x.1.1 x.1.2, a ≤ n.at_

theorem next_whole {w : World} {W mb c : Nat} {fl : Nat → Nat} {sl : Nat → Nat → List Nd} {L : List Nd} (h : SW w W mb c fl sl L) (hw : Whole (sl := sl) []) : L = [] := by
  cases L with
  | nil => rfl
  | cons n t =>
    obtain ⟨h1, h2, h3⟩ := h.in_slot (n := n) (by simp)
    have := hw.2 ⟨pl c n.at_, h1, h2, fun e => by rw [e] at h3; cases h3⟩
    cases this
theorem next_first {w : World} {W mb c : Nat} {fl : Nat → Nat} {sl : Nat → Nat → List Nd} {L : List Nd} (h : SW w W mb c fl sl L) (hs : Srt L) {pre : List (SlIn sl)} (hu : Upto pre) {a : Nat} (ho : firstOk sl pre a) : nextA L = a := by
  obtain ⟨x, rfl, ⟨m, hm, rfl⟩, hall⟩ := ho
  obtain ⟨mL, mp⟩ := h.of_slot x.2.1 x.2.2.1 hm
  have hc := h.c50
  cases L with
  | nil => cases mL
  | cons n t =>
    show n.at_ = m.at_
    have nlow : ∀ k ∈ n :: t, n.at_ ≤ k.at_ := fun k hk => by
      rcases List.mem_cons.1 hk with rfl | hk
      · exact Nat.le_refl _
      · have := (List.pairwise_cons.1 hs).1 k hk
        unfold lt2 at this; omega
    obtain ⟨h1, h2, h3⟩ := h.in_slot (n := n) (by simp)
    have := hu.2 ⟨pl c n.at_, h1, h2, fun e => by rw [e] at h3; cases h3⟩
    rcases this with e | e
    · simp only [List.mem_singleton] at e
      have e2 : pl c n.at_ = x.1 := congrArg Subtype.val e
      rw [e2] at h3
      have := hall n h3
      have := nlow m mL
      omega
    · have e2 := e x (by simp)
      simp only at e2
      have := pl_mono (h.lt m mL) (h.lt n (by simp)) (c := c) (by omega) (by rw [mp]; unfold lexP at e2; simp only; omega)
      have := nlow m mL
      omega

theorem next_any (W mb c : Nat) (L : List Nd) (w : World) (h : WI w W mb c L) (ht : Tb w) :
    Calls Tryd.prog 27 #[ptr W] w fun e W' => e = .returned (.int .i64 (nextA L : Nat)) ∧ Below w.heap.size w W' := by
  refine (callsIn_wide (n := 6)).1 ?_
  obtain ⟨fl, sl, sw⟩ := h.sw
  have srt := h.srt
  have hW := sw.wb.W_lt
  have ha := fun X => slots_any W X
  refine callsIn_of_wp_marks Tryd.func27 rfl trivial ?_ rfl
  simp only [Tryd.ntmps27, List.size_toArray, List.length_cons, List.length_nil, Nat.reduceAdd, Nat.reduceSub, Array.replicate_succ, Array.replicate_zero, List.push_toArray, List.append_toArray, List.nil_append, List.cons_append]
  gi_wp2_with fail
  refine ⟨trivial, ?_⟩
  refine (callsIn_wide.2 (ha _)).mono ?_
  rintro e w' ⟨rfl, rfl⟩
  gi_wp2_with fail
  have bO := Boxed.new w 2 (.int .i64 0)
  have bN := Boxed.new (w.alloc (.cells #[.int .i64 0] 2)) 45 (ptr W)
  rw [World.size_alloc] at bN
  have hB0 : Below w.heap.size w ((w.alloc (.cells #[.int .i64 0] 2)).alloc (.cells #[ptr W] 45)) := ((Below.refl _ w).alloc (Nat.le_refl _) _).alloc (by simp) _
  have hpos := ht.lt
  refine wpIn_rangeFunc_ownG (F := Fence.wide) rfl (by decide) (gf := 50) (lb := #[.pointer (some ⟨w.heap.size + 1, 0, none⟩)]) rfl trivial (enters_of Tryd.func50 (by kernel_rfl) rfl)
    (slots_stops 5 (by decide) (w.heap.size + 1) (w.heap.size + 2) W mb c fl sl _ bN.cell (by omega) (sw.wb.kept (hB0.block W hW)) (by omega) (ht.kept (hB0.block 0 hpos)) (by omega) (by simp)) belowK_t (belowK_b (by simp)) (Below.refl _ _) (fun _ => rfl)
    (fun (pre : List (SlIn sl)) X => (pre = [] ∧ Boxed X w.heap.size 2 (.int .i64 0)) ∧ Below w.heap.size w X)
    (fun k (pre : List (SlIn sl)) X => ((k = .ret) ∧ ∃ a : Nat, firstOk sl pre a ∧ X.cell? ⟨w.heap.size, 0, none⟩ = some (.int .i64 (a : Int))) ∧ Below w.heap.size w X)
    (OwnFrom.and (OwnFrom.and (ownFrom_pure _ _) (Own.from (boxed_own _ _ _) _)) (ownFrom_below (Nat.le_refl _) (by simp; omega)))
    (fun k => OwnFrom.and (Own.from (fun s A B row hs hg hr => ⟨hs.1, by obtain ⟨-, a, h1, h2⟩ := hs; exact ⟨a, h1, cell_kept h2 hg hr⟩⟩) _) (ownFrom_below (Nat.le_refl _) (by simp; omega)))
    ⟨⟨rfl, bO.alloc _⟩, hB0⟩
    (fun (x : SlIn sl) => { tmps := #[ptr W, undef, .pointer (some ⟨w.heap.size, 0, none⟩), hdp nilp (sl x.1.1 x.1.2), ptr W, .func (.func 50) #[] #[.pointer (some ⟨w.heap.size + 1, 0, none⟩)], hdp nilp (sl x.1.1 x.1.2), undef, undef], defers := [] }) ?assign ?body ?done ?stop
  case assign =>
    intro l x X K hK
    gi_wp2
    exact hK
  case body =>
    rintro l pre x X ⟨⟨rfl, hv⟩, hB⟩ _
    obtain ⟨m, T, hS⟩ : ∃ m T, sl x.1.1 x.1.2 = m :: T := by
      cases e : sl x.1.1 x.1.2 with
      | nil => exact absurd e x.2.2.2
      | cons m T => exact ⟨m, T, rfl⟩
    have seg := sw.seg x.1.1 x.1.2 x.2.1 x.2.2.1
    have nd : ((sl x.1.1 x.1.2).map Nd.g).Nodup := ((sw.mem _ _ x.2.1 x.2.2.1).map Nd.g).nodup_iff.2 (List.Nodup.sublist ((List.filter_sublist).map Nd.g) sw.gs)
    have ea := earliest_any (sl x.1.1 x.1.2) m T hS nd X (seg.kept (fun n hn => hB.block n.g (by obtain ⟨b, f, hb⟩ := seg.node n hn; exact hb.lt)))
    have hd : hdp nilp (sl x.1.1 x.1.2) = ptr m.g := by rw [hS]; rfl
    rw [hd]
    have hc := hv.cell
    have hf := hv.frozen
    have hvb := hv.lt
    gi_wp2_with fail
    refine ⟨trivial, ?_⟩
    refine (CallsIn.inRound l (callsIn_wide.2 ea)).mono ?_
    rintro e X2 ⟨a, rfl, h1, h2, hb2⟩
    have hv2 : Boxed X2 w.heap.size 2 (.int .i64 0) := (hb2.block _ hvb).trans hv
    have hc2 := hv2.cell
    have hf2 := hv2.frozen
    have ko : KeepsOthers X X2 := ⟨hb2.size, fun k o hk _ => (hb2.block k (Array.getElem?_eq_some_iff.1 hk).1).trans hk⟩
    have hB2 : Below w.heap.size w X2 := hB.trans (hb2.mono hB.size)
    clear hc hf ea seg nd hb2
    gi_wp2_with fail
    refine ⟨(ko.trans (KeepsOthers.setCell _ _ _)).from _, ⟨rfl, a, ⟨x, rfl, h1, h2⟩, ?_⟩, hB2.setCell (p := ⟨w.heap.size, 0, none⟩) (by simp) _⟩
    exact World.cell?_setCell_same' _ _ _ (by rw [hc2]; rfl)
  case done =>
    rintro D ys X hD hys ⟨⟨rfl, hv⟩, hB⟩ hK
    have hL := next_whole sw hys
    have hcr := hv.cell
    have hfr := hv.frozen
    gi_wp2
    have hK' := (KeepsOthers.setCell X ⟨w.heap.size, 0, none⟩ (.int .i64 4611686018427387904)).same D _ hK rfl
    refine ⟨by simp, .inl ⟨_, _, rfl, run_takeDeferred hK', ?_⟩⟩
    have hc5 := cell_kept (World.cell?_setCell_same' X ⟨w.heap.size, 0, none⟩ (.int .i64 4611686018427387904) (by rw [hcr]; rfl)) (grownBy_putObj' _ D (.deferred none)) (fun r e => by cases e; exact ⟨_, hK', rfl⟩)
    refine ⟨.int .i64 4611686018427387904, ?_, by rw [hL]; rfl, (hB.setCell (p := ⟨w.heap.size, 0, none⟩) (by simp) _).trans (belowK_b (w := w) (Nat.le_refl _) _ D _ _ (by simp at hD; omega) hK' rfl rfl)⟩
    simp [results, Tryd.f27, go_sem, hc5]
  case stop =>
    rintro D k pre X hD hpre ⟨⟨rfl, a, ho, hcr⟩, hB⟩ hK
    have hL := next_first sw srt hpre ho
    gi_wp2
    refine ⟨by simp, .inl ⟨_, _, rfl, run_takeDeferred hK, ?_⟩⟩
    have hc5 := cell_kept hcr (grownBy_putObj' _ D (.deferred none)) (fun r e => by cases e; exact ⟨_, hK, rfl⟩)
    refine ⟨.int .i64 (a : Int), ?_, by rw [hL], hB.trans (belowK_b (w := w) (Nat.le_refl _) X D _ _ (by simp at hD; omega) hK rfl rfl)⟩
    simp [results, Tryd.f27, go_sem, hc5]
end Go.Proofs.YtbdjlhkgpblebaaDoor
