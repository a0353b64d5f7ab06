/- Decode. -/
import Derived.Test.YtmfbbamaleagiaaDoorXW
namespace Go.Proofs.YtmfbbamaleagiaaDoor
open Go.RowKit Go.Maps
set_option linter.unusedVariables false
set_option maxRecDepth 100000
set_option maxHeartbeats 1000000

theorem stepP_lt (l : List Int) (hb : ∀ x ∈ l, IsB x) (s s' : St) (h : stepP l s = .ok s') : s.k < s'.k ∧ s'.k ≤ l.length := by
  unfold stepP at h
  split at h
  · cases h
  · rename_i h1
    have g1 := getF_good l hb s.k (by omega)
    split at h
    · cases h
    · split at h
      · cases h
      · rename_i h3
        have g2 := getF_good l hb (getF l s.k).2.1 (by omega)
        split at h
        · cases h
        · split at h
          · injection h with h; subst h; simp only; omega
          · split at h
            · cases h
            · injection h with h; subst h; simp only; omega

def zeroP : Ps := ⟨0, 0, 0, 0, 0, 0, 0, 0, 0⟩
/-- Decode, as the document has it. -/
def decF (l : List Int) : Nat → St → Ps × Int
  | 0, s => (zeroP, -1)
  | f + 1, s => if s.k = l.length then (s.vs, 0) else match stepP l s with
    | .error e => (zeroP, e)
    | .ok s' => decF l f s'
def dec (l : List Int) : Ps × Int := decF l (l.length + 1) ⟨0, [], dflt⟩

theorem newReader_any (a : Option Addr) (n c : Nat) (w : World) : Calls Tryd.prog 38 #[.slice a n c] w fun e w' => e = .returned (.pointer (some ⟨w.heap.size + 1, 0, none⟩)) ∧
    w' = (w.alloc (.map #[] 0)).alloc (.cells #[.slice a n c, .int .i64 0, .map (some w.heap.size)] 85) := by
  have hmm := @run_makeMap Tryd.prog
  go_enter Tryd.func38, Tryd.ntmps38
  go_wp2
  go_ret
  exact ⟨rfl, rfl⟩

theorem decode_any (a : Option Addr) (l : List Int) (c : Nat) (w : World) (hT : Tb w) (hr : Rd w a l) (h1 : l.length ≤ c) (h2 : c ≤ maxLen) (hpl : ∀ x, a = some x → 0 < c → ∃ b o, x = ⟨b, o, none⟩) :
    Calls Tryd.prog 22 #[.slice a l.length c] w fun e w' => e = .returned (.tuple #[.agg (dec l).1.cs, .int .i64 (dec l).2]) ∧ w.grownBy w' none := by
  have hb := hr.1
  have hT0 := hT.alloc (.cells zeroP.cs 23)
  have G0 := World.grownBy_alloc w (.cells zeroP.cs 23) none
  have B0 := Blk.new w zeroP.cs 23
  have r0 := rd_below hr (grown_bel G0)
  have s0 : (w.alloc (.cells zeroP.cs 23)).heap.size = w.heap.size + 1 := size_alloc' _ _
  have e0 : (.cells #[.int .i64 0, .int .i64 0, .int .i64 0, .int .i64 0, .int .i64 0, .int .i64 0, .int .i64 0, .int .i64 0, .int .i64 0] 23 : Obj) = .cells zeroP.cs 23 := rfl
  go_enter Tryd.func22, Tryd.ntmps22
  go_wp2_with (first | (go_at_call 28; generalize hW0 : w.alloc (.cells zeroP.cs 23) = W0 at *; refine (defaults_any _ hT0).mono ?_; rintro e W1 ⟨rfl, g1⟩) | (refine wpList_store_row rfl _ _ _ rfl W1.heap.size dflt.cs rfl rfl 56 _ (Blk.new W1 zero9 56) Tryd.sizeV rfl (Ps.one _) ?_; rw [World.setRow_alloc_new]) | (go_at_call 38; refine (newReader_any _ _ _ _).mono ?_; rintro e W3 ⟨rfl, rfl⟩))
  have D0 : DI W0 (((W1.alloc (.cells dflt.cs 56)).alloc (.map #[] 0)).alloc (.cells #[.slice a l.length c, .int .i64 0, .map (some (W1.heap.size + 1))] 85)) (W1.heap.size + 1 + 1) (W1.heap.size + 1) W1.heap.size a l c 0 [] dflt := by
    have z1 := size_alloc' W1 (.cells dflt.cs 56)
    have z2 := size_alloc' (W1.alloc (.cells dflt.cs 56)) (.map #[] 0)
    have q1 := g1.size
    refine ⟨?_, ((Blk.new W1 dflt.cs 56).alloc _).alloc _, ?_, r0, h1, h2, Nat.zero_le _, by omega, by omega, ((g1.trans (World.grownBy_alloc _ _ none)).trans (World.grownBy_alloc _ _ none)).trans (World.grownBy_alloc _ _ none), Nat.le_refl _, hpl⟩
    · have := Blk.new ((W1.alloc (.cells dflt.cs 56)).alloc (.map #[] 0)) #[.slice a l.length c, .int .i64 0, .map (some (W1.heap.size + 1))] 85
      rw [z2, z1] at this
      exact this
    · have := World.ownsMap_made (H := Unit) (W1.alloc (.cells dflt.cs 56)) Tryd.prog 52 unitElem
      rw [z1] at this
      exact this.alloc _
  have HD0 := hide D0
  clear D0 g1
  generalize ((W1.alloc (.cells dflt.cs 56)).alloc (.map #[] 0)).alloc (.cells #[.slice a l.length c, .int .i64 0, .map (some (W1.heap.size + 1))] 85) = W4 at *
  generalize W1.heap.size = lv at *
  go_loopw [6] (fun _ wr => ∃ (f : Nat) (s : St), DI W0 wr (lv + 1 + 1) (lv + 1) lv a l c s.k s.cm s.vs ∧ dec l = decF l f s ∧ l.length - s.k < f) (fun _ wr => l.length - (intOf ((wr.cell? ⟨lv + 1 + 1, 1, none⟩).getD undef)).toNat)
  case atStart => exact ⟨l.length + 1, ⟨0, [], dflt⟩, unhide HD0, rfl, by simp⟩
  case round =>
    obtain ⟨f, s, D, hd, hf⟩ := hrel
    obtain ⟨f, rfl⟩ : ∃ f', f = f' + 1 := ⟨f - 1, by omega⟩
    unfold decF at hd
    have dn := D.done
    clear HD0
    by_cases hk : s.k = l.length
    · rw [if_pos hk] at hd
      rw [decide_eq_true hk] at dn
      have K : Hid (∀ W, wr.grownBy W none → Blk W lv s.vs.cs 56 ∧ Blk W w.heap.size zeroP.cs 23 ∧ w.grownBy W none) := fun W gW => ⟨D.vals.grown gW, B0.grown (D.gr.trans gW), G0.trans (D.gr.trans gW)⟩
      have HDD := hide hd
      clear D hd hT hr hpl hT0 G0 B0 r0 s0
      go_wp2_with (first | (go_at_call 39; refine dn.mono ?_; rintro e W5 ⟨rfl, q, rfl⟩; have K2 := unhide K _ (grown_drewN (q := q) (World.grownBy.refl wr none)); replace K2 := hide K2; clear dn) | (refine wpList_load_row rfl _ _ rfl lv rfl 56 s.vs.cs (0, 0) _ (unhide K2).1 Tryd.underlying56 rfl Tryd.sizeV ?_) | (go_at_call 27; refine (paramsOf_any s.vs _).mono ?_; rintro e W6 ⟨rfl, g6⟩; have K3 := hide (unhide K _ ((grown_drewN (q := q) (World.grownBy.refl wr none)).trans g6)); clear K2 K g6) | (refine wpList_store_row rfl _ _ _ rfl w.heap.size s.vs.cs rfl rfl 23 _ (unhide K3).2.1 Tryd.sizePs rfl (Ps.one _) ?_))
      refine bodyPost_ret (results_ct rfl _ _ w.heap.size s.vs.cs _ rfl ((unhide K3).2.1.row _) Tryd.underlying23 rfl Tryd.sizePs) rfl ?_
      rw [unhide HDD]
      exact ⟨rfl, grown_row (unhide K3).2.2 _ _ (Nat.le_refl _)⟩
    · rw [if_neg hk] at hd
      rw [decide_eq_false hk] at dn
      have PA := fun q => (D.drewN q).parameter (s := s) hT0
      have ck := D.blk.cell 1 (.int .i64 s.k) rfl
      cases hs : stepP l s with
      | error x =>
        rw [hs] at hd PA
        simp only at hd
        have HDD := hide hd
        have K : Hid (∀ W, W0.grownBy W none → Blk W w.heap.size zeroP.cs 23 ∧ w.grownBy W none) := fun W gW => ⟨B0.grown gW, G0.trans gW⟩
        clear D hd hT hr hpl hT0 G0 B0 r0 s0 hs
        go_wp2_with (first | (go_at_call 39; refine dn.mono ?_; rintro e W5 ⟨rfl, q, rfl⟩; clear dn) | (go_at_call 40; refine (PA q).mono ?_; rintro e W6 ⟨rfl, hx, g6⟩; have K3 := hide (unhide K _ g6); have hd : (x != 0) = true := (by simp; omega); clear K g6 PA) | (refine wpList_store_row rfl _ _ _ rfl w.heap.size zeroP.cs rfl rfl 23 _ (unhide K3).1 Tryd.sizePs rfl (Ps.one _) ?_))
        refine bodyPost_ret (results_ct rfl _ _ w.heap.size zeroP.cs _ rfl ((unhide K3).1.row _) Tryd.underlying23 rfl Tryd.sizePs) rfl ?_
        rw [unhide HDD]
        exact ⟨rfl, grown_row (unhide K3).2 _ _ (Nat.le_refl _)⟩
      | ok s' =>
        rw [hs] at hd PA
        simp only at hd
        have lt := stepP_lt l hb s s' hs
        have HDD := hide hd
        clear D hd hT hr hpl hT0 G0 B0 r0 s0 hs
        go_wp2_with (first | (go_at_call 39; refine dn.mono ?_; rintro e W5 ⟨rfl, q, rfl⟩; clear dn) | (go_at_call 40; refine (PA q).mono ?_; rintro e W6 ⟨rfl, D6⟩; have ck6 := D6.blk.cell 1 (.int .i64 s'.k) rfl; have HD6 := hide D6; clear D6 PA))
        refine ⟨⟨f, s', unhide HD6, unhide HDD, by omega⟩, ?_⟩
        rw [ck, ck6]
        simp [intOf]; omega
end Go.Proofs.YtmfbbamaleagiaaDoor
