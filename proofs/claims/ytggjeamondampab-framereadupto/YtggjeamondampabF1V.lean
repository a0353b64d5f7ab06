/- FrameRead. -/
import Derived.Test.YtggjeamondampabF1K
namespace Go.Proofs.Ytggjeamondampab
open Go.RowKit
set_option linter.unusedVariables false
set_option linter.unusedSimpArgs false
set_option maxRecDepth 100000
set_option maxHeartbeats 4000000

theorem bne_int {x : Int} (h : x = 1 ∨ x = 40 ∨ x = 41 ∨ x = 42) : (x != 0) = true := by rcases h with rfl | rfl | rfl | rfl <;> rfl

/-- Where nothing is read. -/
theorem read_no (v : Value) (i x : Int) (w : World) (hx : x = 1 ∨ x = 40 ∨ x = 41 ∨ x = 42)
    (hd : ∀ W, w.grownBy W none → Calls Try.prog 11 #[v, .int .i64 i] W fun e w' => e = .returned (.tuple #[Fr.zero.val nilS nilS, .int .i64 0, .int .i64 x]) ∧ W.grownBy w' none) :
    Calls Try.prog 4 #[v, .int .i64 i] w fun e w' => e = .returned (.bool true) ∧ w.grownBy w' none := by
  have AW := awake_any w
  have nx := bne_int hx
  have HD := hide hd
  have ez : Fr.zero.val nilS nilS = .agg Z17 := rfl
  clear hd hx
  go_enter Try.func4, Try.ntmps4
  go_upto_region 2 with (go_at_call 8; refine AW.mono ?_; rintro e W1 ⟨rfl, g1⟩)
  have de := unhide HD W1 g1
  rw [ez] at de
  clear HD AW
  go_upto_region 3 with (first | (go_at_call 11; refine de.mono ?_; rintro e W2 ⟨rfl, g2⟩) | (refine wpList_store_new _ Z17 Z17 W2.heap.size rfl _ _ _ rfl rfl rfl rfl Try.size26 rfl (one17 Fr.zero nilS nilS rfl rfl) ?_))
  have B := Blk.new W2 Z17 26
  have g3 := World.grownBy_alloc W2 (.cells Z17 26) none
  have G3 := hide ((g1.trans g2).trans g3)
  generalize W2.alloc (.cells Z17 26) = W3 at *
  have sm : Calls Try.prog 13 #[.agg Z17, .agg Z17] W3 fun e w' => e = .returned (.bool true) ∧ W3.grownBy w' none := same_fr Fr.zero nilS nilS nilS nilS W3 (FrR.zero W3) (FrR.zero W3)
  clear g1 g2 g3 de
  generalize W2.heap.size = b at *
  go_wp2_with (first | (refine wpList_load_row rfl _ _ rfl b rfl 26 Z17 (0, 0) _ B Try.underlying26 rfl Try.size26 ?_) | (go_at_call 13; refine sm.mono ?_; rintro e W4 ⟨rfl, g4⟩))
  go_ret
  exact ⟨rfl, (unhide G3).trans g4⟩

theorem read_yes (v : Value) (l l1 : List Int) (f : Fr) (k : Nat) (w : World) (h : InS w v l) (hk : k ≤ l.length) (hl : l.length ≤ 1048576) (hd : decF (l.drop k) = .inl (f, l1)) :
    Calls Try.prog 4 #[v, .int .i64 (k : Int)] w fun e w' => e = .returned (.bool true) ∧ w.grownBy w' none := by
  obtain ⟨a0, c0, rfl, hb0, -⟩ := h.ex
  obtain ⟨n, rs, ht, q1, q2, q3, q4⟩ := read_pure (l := l.drop k) (fun x hx => hb0.1 x (List.mem_of_mem_drop hx)) hd
  obtain ⟨q5, q6⟩ := tell_runs ht
  have hrl : (f.runs.length : Int) ≤ MAXN := by rw [List.length_drop] at q3; unfold MAXN; omega
  obtain ⟨t1, t2, t3, t4⟩ := tell_ok ht hrl
  have eE : encF f = (encL n ++ rs, 0) := by unfold encF; rw [ht]
  have bk := back_pure ht hrl [] (fun _ => rfl) (fun _ => by simp)
  rw [List.append_nil] at bk
  have bs : Bs (encL n ++ rs) := by
    refine (encL_bytes t1).app ?_
    rcases t3 with e | ⟨e, -⟩
    · rw [e]; exact q4
    · unfold tellF at ht
      by_cases hkk : isKindF f.kind = true
      · obtain ⟨bare, p, hs⟩ := type_some hkk
        rw [if_pos hkk, hs] at ht
        simp only at ht
        split at ht
        · simp only [Sum.inl.injEq, Prod.mk.injEq] at ht
          rw [← ht.2]
          unfold restF
          split
          · intro x hx; rw [List.mem_replicate] at hx; rw [hx.2]; exact ⟨by omega, by omega⟩
          · exact q4
        · cases ht
      · rw [if_neg hkk] at ht; cases ht
  have dl : f.data.length ≤ 1048576 + 1048576 := by
    rcases t3 with e | ⟨e, e2⟩
    · rw [e, List.length_drop] at q1; omega
    · rcases t4 with e3 | e3
      · unfold tellF at ht
        by_cases hkk : isKindF f.kind = true
        · obtain ⟨bare, p, hs⟩ := type_some hkk
          rw [if_pos hkk, hs] at ht
          simp only at ht
          split at ht
          · simp only [Sum.inl.injEq, Prod.mk.injEq] at ht
            rename_i hmay
            have hr2 := ht.2
            unfold restF at hr2
            split at hr2
            · rename_i e14
              have p14 : p = (14, 0, 0, 0) := by
                rcases shape_parts hs with e | e | e | e | e | e | e | e | e | e | e | e | e | e | e | e | e <;> (rw [e] at e14 ⊢ <;> (revert e14; decide))
              obtain ⟨-, fl⟩ := may_fields hmay
              rw [p14] at fl
              have := fl.1
              simp [takeF, setF] at this
              rw [this]; simp
            · rw [← hr2, List.length_drop] at q1; omega
          · cases ht
        · rw [if_neg hkk] at ht; cases ht
      · rw [e3]; simp
  have rl : f.runs.length * 16 ≤ 140737488351232 := by rw [List.length_drop] at q3; omega
  have tl : (encL n ++ rs).length ≤ l.length - l1.length - k ∧ 1 ≤ (encL n ++ rs).length ∧ l1.length + (encL n ++ rs).length ≤ l.length - k := by
    rw [List.length_append]; rw [List.length_drop] at q1; omega
  generalize encL n ++ rs = E at *
  have DE := hide (fun W (g : w.grownBy W none) => decode_folded (h.keep g) hk (by omega : l.length ≤ 4000000000000))
  have AW := awake_any w
  have HP := hide (And.intro hd (And.intro q4 (And.intro q5 (And.intro q6 (And.intro dl (And.intro rl (And.intro eE (And.intro bk bs))))))))
  obtain ⟨m, hm⟩ : ∃ m, m = l.length - l1.length := ⟨_, rfl⟩
  obtain ⟨ne, hne⟩ : ∃ ne, ne = E.length := ⟨_, rfl⟩
  have HM := hide hm
  have HN := hide hne
  have i1 : ¬ (k : Int) < 0 := by omega
  have i2 : ¬ (m : Int) ≤ (k : Int) := by omega
  have i3 : ¬ (l.length : Int) < (m : Int) := by omega
  have i4 : ¬ ((m : Int) - (k : Int)) < (ne : Int) := by omega
  have i5 : ¬ (ne : Int) = 0 := by omega
  have j1 : decide ((k : Int) < 0) = false := decide_eq_false i1
  have j2 : decide ((m : Int) ≤ (k : Int)) = false := decide_eq_false i2
  have j3 : decide ((l.length : Int) < (m : Int)) = false := decide_eq_false i3
  have j4 : decide (((m : Int) - (k : Int)) < (ne : Int)) = false := decide_eq_false i4
  have j5 : ((ne : Int) == 0) = false := by simpa using i5
  have jw : IntKind.i64.wrap ((m : Int) - (k : Int)) = (m : Int) - (k : Int) := by rw [IntKind.wrap_i64]; omega
  have nl : ne ≤ 1048576 := by omega
  have HNL := hide nl
  have i2n : ¬ m ≤ k := by omega
  have j2n : decide (m ≤ k) = false := decide_eq_false i2n
  have i3n : ¬ l.length < m := by omega
  have j3n : decide (l.length < m) = false := decide_eq_false i3n
  have i5n : ¬ ne = 0 := by omega
  have j5n : (ne == 0) = false := by simpa using i5n
  clear h hk hl hd q1 q2 q3 q4 q5 q6 hrl t1 t2 t3 t4 eE bk bs dl rl tl hm hne hb0 ht nl
  generalize hL : l.length = L at *
  replace hL := hide hL.symm
  go_enter Try.func4, Try.ntmps4
  go_upto_region 2 with (go_at_call 8; refine AW.mono ?_; rintro e W1 ⟨rfl, g1⟩)
  have de := unhide DE W1 g1
  clear DE AW
  go_upto_region 3 with (first | (go_at_call 11; refine de.mono ?_; rintro e W2 (⟨C, m', rfl, s2, o2, g2, H2⟩ | ⟨e', hx, -⟩); rotate_left; (rw [(unhide HP).1] at hx; cases hx); have iC : (Try.prog.info? 26).map (·.size) = some C.size := (by rw [s2]; exact Try.size26)) | (refine wpList_store_new _ Z17 C W2.heap.size rfl _ _ _ rfl rfl rfl rfl iC (by rw [s2]; rfl) o2 ?_))
  obtain ⟨f', l1', d', r', hx, hm', hC, oB, oR⟩ := unhide H2
  rw [(unhide HP).1] at hx
  cases hx
  obtain rfl : m' = m := by rw [hm', unhide HM, unhide hL]
  obtain ⟨-, p4, p5, p6, pdl, prl, peE, pbk, pbs⟩ := unhide HP
  have B := Blk.new W2 C 26
  have g3 := World.grownBy_alloc W2 (.cells C 26) none
  have oB3 := oB.keepN g3
  have oR3 := oR.keepN g3
  obtain ⟨fi, ts⟩ := own_in oB3 oR3 p4 p5
  have en := encode_any f d' r' _ fi ts p6 prl (by omega)
  have ev : f.val d' r' = .agg C := by rw [hC]
  rw [ev, peE] at en
  have G3 := hide ((g1.trans g2).trans g3)
  have R3 := hide (FrR.own oB3 oR3 p4)
  have HC := hide hC
  clear de H2 g1 g2 g3 oB oR oB3 oR3 fi ts hm' HM hL hC pdl prl peE p6 p5 ev
  generalize W2.alloc (.cells C 26) = W3 at *
  generalize W2.heap.size = b at *
  go_upto_region 10 with fail
  go_upto_region 11 with (first | (refine wpList_load_row rfl _ _ rfl b rfl 26 C (0, 0) _ B Try.underlying26 rfl iC ?_) | (go_at_call 9; refine en.mono ?_; rintro e W4 ⟨v4, rfl, o4, g4⟩))
  have is4 := o4.inS pbs
  obtain ⟨a4, c4', ev4, -⟩ := o4.rd pbs
  subst ev4
  have en4 : E.length = ne := (unhide HN).symm
  have de2 := decode_folded (k := 0) is4 (Nat.zero_le _) (by rw [en4]; have := unhide HNL; omega)
  rw [en4] at de2 ⊢
  have B4 := B.grown g4
  have G4 := hide ((unhide G3).trans g4)
  have R4 := hide ((unhide R3).keep g4)
  have PB := hide (And.intro pbk (And.intro p4 en4))
  clear en is4 o4 G3 R3 B g4 en4 pbk p4 HP HN pbs
  go_upto_region 13 with fail
  go_upto_region 14 with (first | (go_at_call 11; refine de2.mono ?_; rintro e W5 (⟨C5, m5, rfl, s5, o5, g5, H5⟩ | ⟨e', hx, -⟩); rotate_left; (rw [List.drop_zero, (unhide PB).1] at hx; cases hx); have iC5 : (Try.prog.info? 26).map (·.size) = some C5.size := (by rw [s5]; exact Try.size26)) | (refine wpList_store_new _ Z17 C5 W5.heap.size rfl _ _ _ rfl rfl rfl rfl iC5 (by rw [s5]; rfl) o5 ?_))
  obtain ⟨f5, l5, d5, r5, hx, hm5, hC5, oB5, oR5⟩ := unhide H5
  rw [List.drop_zero, (unhide PB).1] at hx
  cases hx
  obtain rfl : m5 = ne := by rw [hm5, (unhide PB).2.2]; rfl
  have B5 := Blk.new W5 C5 26
  have g6 := World.grownBy_alloc W5 (.cells C5 26) none
  have B46 := (B4.grown g5).grown g6
  have sm := same_fr f d5 r5 d' r' _ (FrR.own (oB5.keepN g6) (oR5.keepN g6) (unhide PB).2.1) ((unhide R4).keep (g5.trans g6))
  have ev5 : f.val d5 r5 = .agg C5 := by rw [hC5]
  have ev : f.val d' r' = .agg C := by rw [unhide HC]
  rw [ev5, ev] at sm
  have G6 := hide ((unhide G4).trans (g5.trans g6))
  clear de2 H5 oB5 oR5 g5 g6 hC5 ev5 ev HC R4 G4 B4 hm5 PB
  generalize W5.alloc (.cells C5 26) = W6 at *
  generalize W5.heap.size = b5 at *
  go_upto_region 15 with (first | (refine wpList_load_row rfl _ _ rfl b5 rfl 26 C5 (0, 0) _ B5 Try.underlying26 rfl iC5 ?_) | (refine wpList_load_row rfl _ _ rfl b rfl 26 C (0, 0) _ B46 Try.underlying26 rfl iC ?_) | (go_at_call 13; refine sm.mono ?_; rintro e W7 ⟨rfl, g7⟩))
  go_wp2
  go_ret
  exact ⟨rfl, (unhide G6).trans g7⟩

theorem read_walk (v : Value) (l : List Int) (i : Int) (w : World) (h : InS w v l) (hl : l.length ≤ 1048576) :
    Calls Try.prog 4 #[v, .int .i64 i] w fun e w' => e = .returned (.bool true) ∧ w.grownBy w' none := by
  by_cases hi : i < 0 ∨ (l.length : Int) < i
  · obtain ⟨a0, c0, rfl, -⟩ := h.ex
    exact read_no _ i 1 w (.inl rfl) fun W g => decode_arg a0 l.length c0 i W hi (by unfold maxLen; omega)
  · obtain ⟨k, rfl⟩ := Int.eq_ofNat_of_zero_le (show 0 ≤ i by omega)
    have hk : k ≤ l.length := by omega
    cases hd : decF (l.drop k) with
    | inr x =>
      refine read_no v k x w (by have := decF_err hd; omega) fun W g => ?_
      refine (decode_in (h.keep g) hk (by omega)).mono ?_
      rintro e w' (⟨f', l1, d', r', h1, -⟩ | ⟨e', h1, rfl, g⟩)
      · rw [hd] at h1; cases h1
      · rw [hd] at h1; cases h1; exact ⟨rfl, g⟩
    | inl fl => exact read_yes v l fl.2 fl.1 k w h hk hl hd
end Go.Proofs.Ytggjeamondampab
