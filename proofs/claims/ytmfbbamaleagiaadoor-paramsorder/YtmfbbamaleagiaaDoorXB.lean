/- slices.Grow, slices.Concat of three; bytesOf. -/
import Derived.Test.YtmfbbamaleagiaaDoorXA
import Derived.Test.YtmfbbamaleagiaaDoorXT
import Derived.Lib.AppendZeros
import Derived.OwnWalk
namespace Go.Proofs.YtmfbbamaleagiaaDoor
open Go.RowKit
set_option linter.unusedVariables false
set_option maxRecDepth 100000
set_option maxHeartbeats 1000000

theorem bel_grown {w W : World} (h : Below w.heap.size w W) : w.grownBy W none := ⟨h.os, h.tape, h.output, h.size, fun i hi _ => h.block i hi⟩
theorem grown_bel {w W : World} (h : w.grownBy W none) : Below w.heap.size w W := ⟨h.os, h.tape, h.output, h.size, fun i hi => h.block i hi (by simp)⟩

/-- Grow of nil: room. -/
theorem grow_nil (n : Nat) (h0 : 0 < n) (hn : n ≤ 1000000) (w : World) :
    Calls Tryd.prog 53 #[.slice none 0 0, .int .i64 n] w fun e w' => ∃ v, e = .returned v ∧ OwnB w.heap.size w' v [] ∧ w.grownBy w' none := by
  obtain ⟨inf, hi0, hz0, hz1, hz2⟩ := info_parts Tryd.info5
  have hr := fun ty => Lib.run_append_nil_zeros (P := Tryd.prog) w 31 3 ty 5 inf (.int .u8 0) .i64 .i64 Tryd.underlying31 Tryd.underlying3 hi0 hz0 n h0 (by rw [hz1]; decide) (by omega) (by rw [hz2]; omega)
  have hcap : n ≤ grownCap w n 0 5 := grownCap_ge _ _ _ _
  have hmax : grownCap w n 0 5 ≤ maxLen := grownCap_le_maxLen _ _ _ _ (by unfold maxLen; omega)
  generalize grownCap w n 0 5 = c at *
  generalize hW : w.drew.alloc (.cells (Builtin.zeroCells (Value.int .u8 0).cells n ++ Builtin.zeroCells (Value.int .u8 0).cells (c - n)) 5) = W at *
  have F : Hid (∃ v, Ending.returned (.slice (some ⟨w.heap.size, 0, none⟩) 0 c) = .returned v ∧ OwnB w.heap.size W v [] ∧ w.grownBy W none) := by
    refine ⟨_, rfl, ⟨by simp, .inr ⟨w.heap.size, c, _, rfl, Nat.le_refl _, by rw [← hW]; exact heap_alloc_new w.drew _, Nat.zero_le _, hmax, ?_, by simp⟩⟩, ?_⟩
    · simp [Builtin.zeroCells, Value.cells]; omega
    · rw [← hW]; exact (grown_drew_alloc w _).1
  clear hW hi0 hz0 hz1 hz2
  have h1 : (0 : Int) < n := by omega
  go_enter Tryd.func53, Tryd.ntmps53
  go_wp2_with (at_builtin; refine Lib.wpList_append_run _ rfl _ _ _ _ rfl _ _ rfl rfl _ _ (hr _) ?_)
  go_ret
  exact unhide F

/-- append of what may be nothing, onto what was made since w0. -/
theorem app_grown (w0 w : World) (v : Value) (d e : List Int) (a : Option Addr) (c : Nat) (ho : OwnB w0.heap.size w v d) (hg : w0.grownBy w none) (hr : Rd w a e) (hm : d.length + e.length ≤ 140737488355328) :
    ∃ v' w', (∀ ty, (Builtin.append_ #[31, 31] ty #[v, .slice a e.length c]).run Tryd.prog w = .ok v' w') ∧ OwnB w0.heap.size w' v' (d ++ e) ∧ w0.grownBy w' none := by
  obtain ⟨inf, hi0, hz0, hz1, hz2⟩ := info_parts Tryd.info5
  by_cases he : e = []
  · subst he
    refine ⟨v, w, fun ty => ?_, by simpa using ho, hg⟩
    obtain ⟨x, q, rfl⟩ := ho.shape
    rcases ho.2 with ⟨h1, h2⟩ | ⟨g, cap, cur, e1, -, -, hc, hx, -⟩
    · injection h1 with h3 h4 h5; subst h3 h5
      rw [h2]
      cases a <;> simp [Builtin.append_, run_underlying Tryd.underlying31, sizeOf, typeInfo, hi0, Builtin.lenOf, Builtin.firstCells, loadCells, loadCellsFrom]
    · injection e1 with h3 h4 h5; subst h3 h5
      cases a <;> simp [Builtin.append_, run_underlying Tryd.underlying31, sizeOf, typeInfo, hi0, Builtin.lenOf, Builtin.firstCells, loadCells, loadCellsFrom, hc, storeCells]
  · have hp : 0 < e.length := List.length_pos_iff.2 he
    obtain ⟨b, off, rfl, hc⟩ := hr.2 he
    have key := fun ty => app_keep (P := Tryd.prog) w w0.heap.size 31 ty 5 inf (.int .u8 0) 1 Tryd.underlying31 hi0 hz0 hz1 hz2 rfl v d.length (d.map (Value.int .u8)) ho ⟨b, off, none⟩ e.length c (e.map (Value.int .u8)) (by simp)
      (fun j u hu => by
        have hj : j < e.length := by
          by_cases c : j < e.length
          · exact c
          · simp [c] at hu
        have := hc j (by omega)
        simp [hj] at hu
        have hadd : (⟨b, off, none⟩ : Addr).add j = ⟨b, off + j, none⟩ := by simp [Addr.add]
        rw [hadd, this, ← hu]
        simp [List.getD, hj])
      (fun u hu => by simp at hu; obtain ⟨x, -, rfl⟩ := hu; rfl) hp (by unfold maxLen; omega) (by omega) hg.size
    obtain ⟨v', w', hr', ho', hmv, -⟩ := key 0
    refine ⟨v', w', fun ty => ?_, ?_, ?_⟩
    · have : (Builtin.append_ #[31, 31] ty #[v, .slice (some ⟨b, off, none⟩) e.length c]).run Tryd.prog w = (Builtin.append_ #[31, 31] 0 #[v, .slice (some ⟨b, off, none⟩) e.length c]).run Tryd.prog w := rfl
      rw [this]; exact hr'
    · unfold OwnB; simpa using ho'
    · refine bel_grown (hmv.below (grown_bel hg) hg.size (fun k hk => ?_))
      rcases ho.2 with ⟨h1, h2⟩ | ⟨g, cap, cur, e1, hbg, -⟩
      · subst h1; cases hk
      · subst e1; simp [Value.ownBlock] at hk; omega

/-- The first k lists, one behind the other. -/
def catK (L : Nat → List Int) : Nat → List Int
  | 0 => []
  | k + 1 => catK L k ++ L k

/-- k of the lists that lie side by side in a block. -/
structure Lists (w : World) (g : Nat) (A : Nat → Option Addr) (C : Nat → Nat) (L : Nat → List Int) : Prop where
  cell : ∀ k, k < 3 → w.cell? ⟨g, k, none⟩ = some (.slice (A k) (L k).length (C k))
  rd : ∀ k, k < 3 → Rd w (A k) (L k)
theorem Lists.grown {w W : World} {g : Nat} {A : Nat → Option Addr} {C : Nat → Nat} {L : Nat → List Int} (h : Lists w g A C L) (hg : w.grownBy W none) : Lists W g A C L :=
  ⟨fun k hk => hg.cell (h.cell k hk) (by simp), fun k hk => rd_below (h.rd k hk) (grown_bel hg)⟩

theorem concat3 (g : Nat) (A : Nat → Option Addr) (C : Nat → Nat) (L : Nat → List Int) (w : World) (h : Lists w g A C L) (hl : ∀ k, k < 3 → 0 < (L k).length ∧ (L k).length ≤ 1000) :
    Calls Tryd.prog 45 #[.slice (some ⟨g, 0, none⟩) 3 3] w fun e w' => ∃ v, e = .returned v ∧ OwnB w.heap.size w' v (catK L 3) ∧ w.grownBy w' none := by
  have len : ∀ k, k ≤ 3 → k ≤ (catK L k).length ∧ (catK L k).length ≤ k * 1000 := by
    intro k
    induction k with
    | zero => intro _; simp [catK]
    | succ k ih => intro hk; have := ih (by omega); have := hl k (by omega); simp [catK]; omega
  go_enter Tryd.func45, Tryd.ntmps45
  go_wp2_with fail
  go_loopw [11, 3] (fun i s wr => ∃ k : Nat, k ≤ 3 ∧ i = .int .i64 k ∧ s = .int .i64 (catK L k).length ∧ w = wr) (fun i _ _ => 3 - (intOf i).toNat)
  case atStart => exact ⟨0, by omega, rfl, rfl, rfl⟩
  case round =>
    obtain ⟨k, hk, rfl, rfl, rfl⟩ := hrel
    by_cases hk3 : k = 3
    · subst hk3
      obtain ⟨l1, l2⟩ := len 3 (by omega)
      have hgr := grow_nil (catK L 3).length (by omega) (by omega) w
      have HL := hide hl; have HN := hide len
      clear hl len
      generalize hN : (catK L 3).length = N at *
      go_wp2_with (go_at_call 53; refine hgr.mono ?_; rintro e W1 ⟨v1, rfl, ho1, g1⟩)
      have HO := hide ho1; have HG := hide g1
      clear hgr ho1 g1
      go_loopw [27, 6] (fun i s wr' => ∃ k : Nat, k ≤ 3 ∧ i = .int .i64 k ∧ OwnB w.heap.size wr' s (catK L k) ∧ w.grownBy wr' none) (fun i _ _ => 3 - (intOf i).toNat)
      case atStart => exact ⟨0, by omega, rfl, unhide HO, unhide HG⟩
      case round =>
        obtain ⟨k, hk, rfl, ho, hg⟩ := hrel
        clear HO HG
        by_cases hk3 : k = 3
        · subst hk3
          have F := hide (And.intro ho hg)
          clear ho hg
          go_wp2_with fail
          go_ret
          exact ⟨_, rfl, (unhide F).1, (unhide F).2⟩
        · have hlt : (k : Int) < 3 := by omega
          obtain ⟨m1, m2⟩ := unhide HN k (by omega)
          have h' := h.grown hg
          have c1 := h'.cell k (by omega)
          obtain ⟨l3, l4⟩ := unhide HL k (by omega)
          obtain ⟨v', w', hr, ho', hg'⟩ := app_grown w _ _ _ (L k) (A k) (C k) ho hg (h'.rd k (by omega)) (by omega)
          have F := hide (And.intro ho' hg')
          clear ho hg ho' hg' m1 m2 l1 l2 HN hN
          generalize (L k).length = M at *
          go_wp2_with (at_builtin; refine Lib.wpList_append_run _ rfl _ _ _ _ rfl _ _ rfl rfl _ _ (hr _) ?_)
          exact ⟨⟨k + 1, by omega, rfl, (unhide F).1, (unhide F).2⟩, by simp [intOf]; omega⟩
    · have hlt : (k : Int) < 3 := by omega
      obtain ⟨l1, l2⟩ := len k (by omega)
      have c1 := h.cell k (by omega)
      obtain ⟨l3, l4⟩ := hl k (by omega)
      have E : (catK L (k + 1)).length = (catK L k).length + (L k).length := by simp [catK]
      have HE := hide E
      clear hl len E
      generalize (catK L k).length = N at *
      generalize (L k).length = M at *
      go_wp2_with fail
      exact ⟨⟨k + 1, by omega, rfl, by rw [unhide HE]; simp, trivial⟩, by simp [intOf]; omega⟩
end Go.Proofs.YtmfbbamaleagiaaDoor
