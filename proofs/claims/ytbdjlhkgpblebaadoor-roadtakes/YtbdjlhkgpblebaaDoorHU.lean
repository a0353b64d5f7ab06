/- earliest. -/
import Derived.Test.YtbdjlhkgpblebaaDoorHT
import Derived.Shelf.RegionOpen
namespace Go.Proofs.YtbdjlhkgpblebaaDoor
open Go.RowKit Go.Shelf
set_option linter.unusedVariables false
set_option maxHeartbeats 400000
set_option maxRecDepth 100000
attribute [local go_sem] Oper.semAt_some

def mn {S : List Nd} (a0 : Nat) (pre : List (NdIn S)) : Nat := pre.foldl (fun a x => min a x.1.at_) a0
theorem mn_snoc {S : List Nd} (a0 : Nat) (pre : List (NdIn S)) (x : NdIn S) : mn a0 (pre ++ [x]) = min (mn a0 pre) x.1.at_ := by simp [mn, List.foldl_append]
theorem mn_le {S : List Nd} (pre : List (NdIn S)) : ∀ a0, mn a0 pre ≤ a0 ∧ (∀ x ∈ pre, mn a0 pre ≤ x.1.at_) ∧ (mn a0 pre = a0 ∨ ∃ x ∈ pre, mn a0 pre = x.1.at_) := by
  induction pre with
  | nil => intro a0; exact ⟨Nat.le_refl _, by simp, .inl rfl⟩
  | cons y t ih =>
    intro a0
    obtain ⟨h1, h2, h3⟩ := ih (min a0 y.1.at_)
    have e : mn a0 (y :: t) = mn (min a0 y.1.at_) t := rfl
    rw [e]
    refine ⟨by omega, fun x hx => ?_, ?_⟩
    · rcases List.mem_cons.1 hx with rfl | hx
      · omega
      · exact h2 x hx
    · rcases h3 with h3 | ⟨x, hx, h3⟩
      · rw [h3]
        by_cases c : a0 ≤ y.1.at_
        · exact .inl (by omega)
        · exact .inr ⟨y, by simp, by omega⟩
      · exact .inr ⟨x, by simp [hx], h3⟩
theorem min_nat (a c : Nat) : min (a : Int) (c : Int) = ((min a c : Nat) : Int) := by omega

theorem earliest_any (S : List Nd) (m : Nd) (T : List Nd) (hS : S = m :: T) (hnd : (S.map Nd.g).Nodup) (w : World) (hL : Seg w nilp nilp S) :
    Calls Tryd.prog 40 #[ptr m.g] w fun e W' => ∃ a : Nat, e = .returned (.int .i64 a) ∧ (∃ n ∈ S, n.at_ = a) ∧ (∀ n ∈ S, a ≤ n.at_) ∧ Below w.heap.size w W' := by
  refine (callsIn_wide (n := 4)).1 ?_
  have hlt : ∀ n ∈ S, n.g < w.heap.size := fun n hn => by
    obtain ⟨b, h, hB⟩ := hL.node n hn
    exact hB.lt
  have hm1 : w.cell? ⟨m.g, 1, none⟩ = some (.int .i64 m.at_) := by
    subst hS
    exact hL.1.cell 1 _ rfl
  have hd : hdp nilp S = ptr m.g := by rw [hS]; rfl
  have ha := fun W => along_any (ptr m.g) _ rfl W
  refine callsIn_of_wp_marks Tryd.func40 rfl trivial ?_ rfl
  simp only [Tryd.ntmps40, List.size_toArray, List.length_cons, List.length_nil, Nat.reduceAdd, Nat.reduceSub, Array.replicate_succ, Array.replicate_zero, List.push_toArray, List.append_toArray, List.nil_append, List.cons_append]
  gi_wp2_with fail
  refine ⟨trivial, ?_⟩
  refine (callsIn_wide.2 (ha _)).mono ?_
  rintro e w' ⟨rfl, rfl⟩
  gi_wp2_with fail
  have bO := Boxed.new w 2 (.int .i64 (m.at_ : Int))
  have bN := Boxed.new (w.alloc (.cells #[.int .i64 (m.at_ : Int)] 2)) 67 (ptr m.g)
  rw [World.size_alloc] at bN
  have hB0 : Below w.heap.size w ((w.alloc (.cells #[.int .i64 (m.at_ : Int)] 2)).alloc (.cells #[ptr m.g] 67)) := ((Below.refl _ w).alloc (Nat.le_refl _) _).alloc (by simp) _
  refine wpIn_rangeFunc_ownG (F := Fence.wide) rfl (by decide) (gf := 64) (lb := #[.pointer (some ⟨w.heap.size + 1, 0, none⟩)]) rfl trivial (enters_of Tryd.func64 (by kernel_rfl) rfl)
    (along_stops 3 (by decide) (w.heap.size + 1) w.heap.size S hnd _ (by rw [hd]; exact bN.cell) (hL.below hB0 hlt) hlt (by simp; omega)) belowK_t (belowK_b (by simp; omega)) (Below.refl _ _) (fun _ => rfl)
    (fun (pre : List (NdIn S)) W => Boxed W w.heap.size 2 (.int .i64 (mn m.at_ pre : Int)) ∧ Below w.heap.size w W)
    (fun _ _ _ => False)
    (OwnFrom.and (Own.from (boxed_own _ _ _) _) (ownFrom_below (Nat.le_refl _) (by simp; omega)))
    (fun _ _ _ _ _ hs _ _ => hs)
    ⟨bO.alloc _, hB0⟩
    (fun (x : NdIn S) => { tmps := #[ptr m.g, undef, .int .i64 0, .pointer (some ⟨w.heap.size, 0, none⟩), ptr x.1.g, ptr m.g, .pointer (some ⟨m.g, 0, none⟩), .pointer (some ⟨m.g, 0, none⟩), .pointer (some ⟨m.g, 1, none⟩), .int .i64 (m.at_ : Int), ptr m.g, .func (.func 64) #[] #[.pointer (some ⟨w.heap.size + 1, 0, none⟩)], ptr x.1.g, undef, undef, undef, undef, undef, undef, undef, undef], defers := [] }) ?assign ?body ?done ?stop
  case assign =>
    intro l x W K hK
    gi_wp2
    exact hK
  case body =>
    rintro l pre x W ⟨hv, hB⟩ hlt'
    have hc := hv.cell
    have hf := hv.frozen
    obtain ⟨b, f, hb⟩ := hL.node x.1 x.2
    have hx : W.cell? ⟨x.1.g, 1, none⟩ = some (.int .i64 (x.1.at_ : Int)) := (hB.cell (p := ⟨x.1.g, 1, none⟩) hb.lt).trans (hb.cell 1 _ rfl)
    have hmin := min_nat (mn m.at_ pre) x.1.at_
    have mixed : Tryd.prog.follows .mixedOrders = true := by kernel_rfl
    gi_wp2_with fail
    gi_region_with_o fail
    all_goals
      gi_wp2
      refine ⟨((KeepsOthers.setCell W ⟨w.heap.size, 0, none⟩ _).trans (KeepsOthers.drew _)).from _, ((Below.refl w.heap.size W).setCell (p := ⟨w.heap.size, 0, none⟩) (Nat.le_refl _) _).drew, ?_, (hB.setCell (p := ⟨w.heap.size, 0, none⟩) (Nat.le_refl _) _).drew⟩
      rw [mn_snoc]
      exact hv.set _
  case done =>
    rintro D ys W hD hys ⟨hv, hB⟩ hK
    have hc := hv.cell
    gi_wp2
    refine ⟨by simp, .inl ⟨_, _, rfl, run_takeDeferred hK, ?_⟩⟩
    refine ⟨_, results_tmp rfl _ _ _, mn m.at_ ys, rfl, ?_, ?_, hB.trans (belowK_b (w := w) (Nat.le_refl _) W D _ _ (by simp at hD; omega) hK rfl rfl)⟩
    · obtain ⟨h1, h2, h3⟩ := mn_le ys m.at_
      rcases h3 with h3 | ⟨x, hx, h3⟩
      · exact ⟨m, by rw [hS]; simp, h3.symm⟩
      · exact ⟨x.1, x.2, h3.symm⟩
    · obtain ⟨h1, h2, h3⟩ := mn_le ys m.at_
      intro n hn
      have : n ∈ ys.map Subtype.val := (congrArg (fun X => n ∈ X) hys).mpr hn
      obtain ⟨y, hy, rfl⟩ := List.mem_map.1 this
      exact h2 y hy
  case stop =>
    rintro D c pre W _ _ h _
    exact h.elim
end Go.Proofs.YtbdjlhkgpblebaaDoor
