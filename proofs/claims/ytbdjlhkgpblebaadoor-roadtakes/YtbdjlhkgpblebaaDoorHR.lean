/- Arm. -/
import Derived.Test.YtbdjlhkgpblebaaDoorHQ
namespace Go.Proofs.YtbdjlhkgpblebaaDoor
open Go.RowKit Go.Shelf Go.Maps
set_option linter.unusedVariables false
set_option maxRecDepth 100000
set_option maxHeartbeats 1000000

instance (a b : Nd) : Decidable (lt2 a b) := by unfold lt2; infer_instance
/-- A node laid into its place. -/
def insN (n : Nd) : List Nd → List Nd
  | [] => [n]
  | m :: t => if lt2 n m then n :: m :: t else m :: insN n t

theorem insN_perm (n : Nd) : ∀ L : List Nd, (insN n L).Perm (n :: L)
  | [] => List.Perm.refl _
  | m :: t => by
    unfold insN
    split
    · exact List.Perm.refl _
    · exact ((insN_perm n t).cons m).trans (List.Perm.swap n m t)
theorem insN_srt (n : Nd) : ∀ L : List Nd, Srt L → (∀ m ∈ L, m.id ≠ n.id) → Srt (insN n L)
  | [], _, _ => List.pairwise_singleton _ _
  | m :: t, hs, hne => by
    have hs' := hs
    rw [Srt, List.pairwise_cons] at hs'
    unfold insN
    split
    · rename_i c
      rw [Srt, List.pairwise_cons]
      refine ⟨fun k hk => ?_, hs⟩
      rcases List.mem_cons.1 hk with rfl | hk
      · exact c
      · have := hs'.1 k hk
        unfold lt2 at *; omega
    · rename_i c
      rw [Srt, List.pairwise_cons]
      refine ⟨fun k hk => ?_, insN_srt n t hs'.2 (fun k hk => hne k (by simp [hk]))⟩
      rcases List.mem_cons.1 ((insN_perm n t).mem_iff.1 hk) with rfl | hk
      · have := hne m (by simp)
        unfold lt2 at *; omega
      · exact hs'.1 k hk

/-- A node more. -/
theorem WI.add {w : World} {W mb c : Nat} {L : List Nd} {n : Nd} {fl : Nat → Nat} {sl : Nat → Nat → List Nd} (h : SW w W mb c fl sl (n :: L)) (mp : Mp w mb (n :: L)) (srt : Srt L) (ids : (L.map Nd.id).Nodup) (idl : ∀ m ∈ L, m.id < 4096) (hn : ∀ m ∈ L, m.id ≠ n.id) (hl : n.id < 4096) : WI w W mb c (insN n L) := by
  have p := (insN_perm n L).symm
  refine ⟨⟨fl, sl, h.perm p⟩, mp.perm p, insN_srt n L srt hn, (p.map Nd.id).nodup_iff.1 ?_, fun m hm => ?_⟩
  · rw [List.map_cons, List.nodup_cons]
    exact ⟨fun hm => by obtain ⟨m, h1, h2⟩ := List.mem_map.1 hm; exact hn m h1 h2, ids⟩
  · rcases List.mem_cons.1 (p.mem_iff.2 hm) with rfl | hm
    · exact hl
    · exact idl m hm

theorem arm_no (W : Nat) (w : World) (i at_ : Int) (h : i < 0 ∨ 4096 ≤ i ∨ at_ < 0 ∨ 4611686018427387904 ≤ at_) : Calls Tryd.prog 41 #[ptr W, .int .i64 i, .int .i64 at_] w fun e w' => e = .returned (.int .i64 1) ∧ w' = w := by
  by_cases h1 : i < 0
  · go_enter Tryd.func41, Tryd.ntmps41
    go_wp2_with fail
    go_ret
    exact ⟨rfl, rfl⟩
  · by_cases h2 : 4096 ≤ i
    · go_enter Tryd.func41, Tryd.ntmps41
      go_wp2_with fail
      go_ret
      exact ⟨rfl, rfl⟩
    · by_cases h3 : at_ < 0
      · go_enter Tryd.func41, Tryd.ntmps41
        go_wp2_with fail
        go_ret
        exact ⟨rfl, rfl⟩
      · have h4 : 4611686018427387904 ≤ at_ := by omega
        go_enter Tryd.func41, Tryd.ntmps41
        go_wp2_with fail
        go_ret
        exact ⟨rfl, rfl⟩

theorem arm_yes (W mb c : Nat) (L : List Nd) (w : World) (h : WI w W mb c L) (i at_ : Nat) (hi : i < 4096) (ha : at_ < 2 ^ 62) :
    Calls Tryd.prog 41 #[ptr W, .int .i64 i, .int .i64 at_] w fun e w' => e = .returned (.int .i64 0) ∧ ∃ g, w.heap.size ≤ g ∧ WI w' W mb c (insN ⟨g, i, at_⟩ (delN L i)) ∧ Kp (FP W mb L) w w' := by
  have hc := cancel_any W mb c L w h i (wfI_nat hi)
  have i1 : ¬ (i : Int) < 0 := by omega
  have i2 : ¬ (4096 : Int) ≤ (i : Int) := by omega
  have i3 : ¬ (at_ : Int) < 0 := by omega
  have i4 : ¬ (4611686018427387904 : Int) ≤ (at_ : Int) := by omega
  have HI := hide h
  clear h
  generalize (if L.any (fun n => decide ((n.id : Int) = i)) then (0 : Int) else 4) = r at *
  go_enter Tryd.func41, Tryd.ntmps41
  go_wp2_with fail
  refine hc.mono ?_
  rintro e W1 ⟨rfl, h1, k1⟩
  have hW2 : Blk (W1.alloc (.cells #[.int .i64 i, .int .i64 at_, .pointer none, .pointer none] 81)) W1.heap.size #[.int .i64 i, .int .i64 at_, .pointer none, .pointer none] 81 := Blk.new _ _ _
  have h2 := h1.grown (World.grownBy_alloc W1 (.cells #[.int .i64 i, .int .i64 at_, .pointer none, .pointer none] 81) none)
  have hsz := alloc_size W1 (.cells #[.int .i64 i, .int .i64 at_, .pointer none, .pointer none] 81)
  have gA := World.grownBy_alloc W1 (.cells #[.int .i64 i, .int .i64 at_, .pointer none, .pointer none] 81) none
  have hnew : ∀ m ∈ delN L i, m.id ≠ i := fun m hm => by
    have := (List.mem_filter.1 hm).2
    simp only [ne_eq, decide_not, Bool.not_eq_eq_eq_not, Bool.not_true, decide_eq_false_iff_not] at this
    omega
  have hlow : ∀ m ∈ delN L i, m.g ≠ W1.heap.size := fun m hm e => by
    have := h1.fp_lt (.inr (.inr ⟨m, hm, rfl⟩))
    omega
  have hWlow : W1.heap.size ≠ W := fun e => by
    have := h1.fp_lt (.inl rfl)
    omega
  obtain ⟨fl2, sl2, sw2⟩ := h2.sw
  have ck2 := sw2.wb.map
  have mp2 := h2.mp
  have len2 := h2.len
  have PUT : Hid (∀ W3, Mp W3 mb (⟨W1.heap.size, i, at_⟩ :: delN L i) → (W1.alloc (.cells #[.int .i64 i, .int .i64 at_, .pointer none, .pointer none] 81)).grownBy W3 (some mb) →
      Calls Tryd.prog 33 #[ptr W, ptr W1.heap.size] W3 fun e w' => e = .returned (.tuple #[]) ∧ ∃ g, w.heap.size ≤ g ∧ WI w' W mb c (insN ⟨g, i, at_⟩ (delN L i)) ∧ Kp (FP W mb L) w w') := by
    intro W3 mp3 g3
    have keep : ∀ g, g ≠ mb → g < W1.heap.size + 1 → W3.heap[g]? = (W1.alloc (.cells #[.int .i64 i, .int .i64 at_, .pointer none, .pointer none] 81)).heap[g]? := fun g hg hlt => g3.block g (by rw [hsz]; exact hlt) (fun e => hg (by cases e; rfl))
    have sw3 := sw2.kept (keep W h2.neW (by have := h1.fp_lt (.inl rfl); omega)) (fun m hm => keep m.g (h2.neN hm) (by have := h1.fp_lt (.inr (.inr ⟨m, hm, rfl⟩)); omega))
    have hgm : W1.heap.size ≠ mb := mp2.ne hW2
    have b3 : Blk W3 W1.heap.size (ndc ⟨W1.heap.size, i, at_⟩ (.pointer none) (.pointer none)) 81 := (keep W1.heap.size hgm (by omega)).trans hW2
    refine (put_any W mb c fl2 sl2 (delN L i) ⟨W1.heap.size, i, at_⟩ _ _ W3 sw3 b3 hWlow hlow ha).mono ?_
    rintro e W4 ⟨rfl, fl4, sl4, sw4, k4, -⟩
    have mp4 : Mp W4 mb (⟨W1.heap.size, i, at_⟩ :: delN L i) := mp3.kept (k4.block mb mp3.lt (by
      rintro (h | h | ⟨m, hm, h⟩)
      · exact h2.neW h.symm
      · exact hgm h.symm
      · exact h2.neN hm h))
    refine ⟨rfl, W1.heap.size, k1.size, WI.add sw4 mp4 h2.srt h2.ids h2.idl hnew hi, ?_⟩
    have k3 : Kp (FP W mb L) w W3 := (k1.trans (Kp.grown gA _)).trans (Kp.grownS g3 (.inr (.inl rfl)))
    refine ⟨k4.os.trans k3.os, k4.tape.trans k3.tape, k4.output.trans k3.output, Nat.le_trans k3.size k4.size, fun g hg hn => (k4.block g (Nat.lt_of_lt_of_le hg k3.size) ?_).trans (k3.block g hg hn)⟩
    rintro (h | h | ⟨m, hm, h⟩)
    · exact hn (.inl h)
    · have := k1.size; simp only at h; omega
    · exact hn (.inr (.inr ⟨m, (List.mem_filter.1 hm).1, h⟩))
  have LEN := hide len2
  have HN := hide hnew
  clear h1 k1 h2 sw2 hW2 hc gA hlow hWlow len2
  go_wp2_with (at_mapUpdate; refine wpList_putin _ rfl _ _ _ rfl mb (delN L i) mp2 (unhide LEN) ⟨W1.heap.size, i, at_⟩ (unhide HN) hi rfl rfl rfl ?_; intro W3 mp3 g3)
  refine (unhide PUT W3 mp3 g3).mono ?_
  rintro e W4 ⟨rfl, E⟩
  have HE := hide E
  clear E mp3 g3 PUT
  go_wp2_with fail
  go_ret
  exact ⟨rfl, unhide HE⟩
end Go.Proofs.YtbdjlhkgpblebaaDoor
