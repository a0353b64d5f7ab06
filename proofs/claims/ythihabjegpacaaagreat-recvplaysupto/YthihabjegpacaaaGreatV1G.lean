/- The document's Recv: hold, the walk. -/
import Derived.Test.YthihabjegpacaaaGreatV1C
namespace Go.Proofs.YthihabjegpacaaaGreat
open Go.RowKit
set_option linter.unusedVariables false
set_option maxRecDepth 100000
set_option maxHeartbeats 1000000

section
variable {W : World} {r : Nat} {a : Option Addr} {c : Nat} {S : Rv} {H : List Hd}
theorem hold_any (h : DR W r a c S H) (hn : H.length ≤ 100000000) (off b : Int) (h0 : 0 ≤ off) (hlow : off < S.read → (S.T off).isSome = true) :
    Calls Tryz.prog 39 #[ptr r, .int .i64 off, .int .u8 b] W fun e W' => e = .returned (.tuple #[]) ∧ ∃ a' c' H', DR W' r a' c' { S with T := putT S.T off [b] } H' ∧ W.grownBy W' (some r) ∧ H'.length ≤ H.length + 1 ∧ NwH W a H a' H' := by
  obtain ⟨th, -, c1, -, -, c4, -, -⟩ := h.cells
  by_cases d : off < S.read
  · have F : Hid (∃ a' c' H', DR W r a' c' { S with T := putT S.T off [b] } H' ∧ W.grownBy W (some r) ∧ H'.length ≤ H.length + 1 ∧ NwH W a H a' H') := ⟨a, c, H, by rw [putT1_same (hlow d)]; exact h, World.grownBy.refl _ _, by omega, nwh_refl _ _ _⟩
    clear h hlow c4
    go_enter Tryz.func39, Tryz.ntmps39
    go_wp2
    refine bodyPost_ret (results_none rfl _ _ _) rfl ?_
    exact ⟨rfl, unhide F⟩
  · have IN := hide (fun k hk hI => hold_apps h hn k hk off b hI)
    have HI := hide h.ish
    have RD := hide h.rd
    have HS : Hid (DR W r a c S H) := h
    have hlen : ¬ (9223372036854775807 : Int) < (H.length : Int) := by omega
    clear h hlow
    have out : Hid (∀ k : Nat, k ≤ H.length → (∀ i x, i < k → H[i]? = some x → x.1 < off) → (∀ i x, k ≤ i → H[i]? = some x → off < x.1) → IsH { S with T := putT S.T off [b] } ((H.take k ++ [(off, b)]) ++ H.drop k)) := fun k hk hl hg => by
      refine ish_put (unhide HI) (by omega) ?_ hk hl hg
      cases hT : S.T off with
      | none => rfl
      | some z =>
        obtain ⟨i, hi⟩ := List.getElem?_of_mem ((unhide HI).all off z (by omega) hT)
        by_cases q : i < k
        · have := hl i _ q hi; simp at this
        · have := hg i _ (by omega) hi; simp at this
    go_enter Tryz.func39, Tryz.ntmps39
    go_wp2_with fail
    go_loopw [6] (fun iv wr => ∃ k : Nat, k ≤ H.length ∧ iv = .int .i64 k ∧ wr = W ∧ Hid (∀ i x, i < k → H[i]? = some x → x.1 < off)) (fun iv _ => H.length - (intOf iv).toNat)
    case atStart => exact ⟨0, Nat.zero_le _, rfl, rfl, fun i x hi => by omega⟩
    case round =>
      obtain ⟨k, hk, rfl, hwr, lo⟩ := hrel
      subst hwr
      by_cases hlt : k < H.length
      · have hx : H[k]? = some H[k] := List.getElem?_eq_getElem hlt
        generalize H[k] = x at *
        have hkI : (k : Int) < (H.length : Int) := by omega
        obtain ⟨g, o, ha⟩ : ∃ g o, a = some ⟨g, o, none⟩ := by
          rcases (unhide RD).sh with ⟨-, e, -⟩ | e
          · omega
          · exact e
        subst ha
        obtain ⟨x1, x2⟩ := (unhide RD).cells hx
        have HX := hide hx
        have srt := hide (unhide HI).srt
        clear hx x2
        by_cases d2 : x.1 < off
        · have d3 : decide (x.1 < off) = true := decide_eq_true d2
          have HLT := hide hlt
          have NX : Hid (∀ i y, i < k + 1 → H[i]? = some y → y.1 < off) := fun i y hi hy => by
            by_cases q : i = k
            · subst q; rw [unhide HX] at hy; cases hy; exact d2
            · exact unhide lo i y (by omega) hy
          clear hlt hk
          go_wp2_with fail
          go_roundw
          case rel => exact ⟨k + 1, unhide HLT, by go_num, by first | rfl | trivial, NX⟩
          case measure => have := unhide HLT; simp [intOf]; omega
        · have d3 : decide (x.1 < off) = false := decide_eq_false d2
          by_cases d4 : x.1 = off
          · have d5 : (x.1 == off) = true := by simpa using d4
            have F : Hid (∃ a' c' H', DR wr r a' c' { S with T := putT S.T off [b] } H' ∧ wr.grownBy wr (some r) ∧ H'.length ≤ H.length + 1 ∧ NwH wr (some ⟨g, o, none⟩) H a' H') := by
              refine ⟨some ⟨g, o, none⟩, c, H, ?_, World.grownBy.refl _ _, by omega, nwh_refl _ _ _⟩
              rw [putT1_same]
              · exact unhide HS
              · have := ((unhide HI).is x (List.mem_of_getElem? (unhide HX))).2
                rw [d4] at this; rw [this]; rfl
            clear d4 hlt hk IN out lo
            go_wp2_with fail
            refine bodyPost_ret (results_none rfl _ _ _) rfl ?_
            exact ⟨rfl, unhide F⟩
          · have d5 : (x.1 == off) = false := by simpa using d4
            have hge : ∀ i y, k ≤ i → H[i]? = some y → off < y.1 := fun i y hi hy => by
              by_cases q : i = k
              · subst q; rw [unhide HX] at hy; cases hy; omega
              · have hi1 := (List.getElem?_eq_some_iff.1 hy)
                have hk1 := (List.getElem?_eq_some_iff.1 (unhide HX))
                have := List.pairwise_iff_getElem.1 (unhide srt) k i hk1.1 hi1.1 (by omega)
                rw [hk1.2, hi1.2] at this
                omega
            obtain ⟨a1, s1, a3, c3, W1, p1, a4, c4', W2, p2, q4, a2, s2, a5, c5, W3, p3, q5, q6, dr, gr, nw⟩ := unhide IN k hk (unhide out k hk (unhide lo) hge)
            have S1 := hide (s1 wr)
            have P1 := hide p1
            have P2 := hide p2
            have S2 := hide (s2 W2)
            have P3 := hide p3
            have F := hide (And.intro dr (And.intro gr nw))
            have LL : Hid (((H.take k ++ [(off, b)]) ++ H.drop k).length ≤ H.length + 1) := by show _ ≤ _; simp; omega
            clear s1 p1 p2 s2 p3 dr gr nw IN out hge lo d4 hlt hk srt HX
            go_upto_region 7 with (first | (refine wpList_sliceH_run _ rfl 54 (Operand.tmp 58) (Operand.tmp 59) rfl (.slice (some ⟨g, o, none⟩) H.length c) (.int .i64 (k : Int)) rfl rfl (unhide S1) ?_) | (at_builtin; refine wpList_append_run _ rfl (Operand.tmp 54) (Operand.tmp 60) 54 54 rfl (.slice none 0 0) (.slice a1 k c) rfl rfl (unhide P1) ?_))
            clear S1 P1
            go_upto_region 8 with (at_builtin; refine wpList_append_run _ rfl (Operand.tmp 62) (Operand.tmp 66) 54 54 rfl (.slice a3 k c3) (.slice (some ⟨W1.heap.size, 0, none⟩) 1 1) rfl rfl (unhide P2) ?_)
            clear P2
            go_wp2_with (first | (refine wpList_sliceL_run _ rfl 54 (Operand.tmp 73) (Operand.tmp 74) rfl (.slice (some ⟨g, o, none⟩) H.length c) (.int .i64 (k : Int)) rfl rfl (unhide S2) ?_) | (at_builtin; refine wpList_append_run _ rfl (Operand.tmp 69) (Operand.tmp 75) 54 54 rfl (.slice a4 (k + 1) c4') (.slice a2 (H.length - k) (c - k)) rfl rfl (unhide P3) ?_))
            refine bodyPost_end (results_none rfl _ _ _) rfl ?_
            exact ⟨rfl, a5, c5, _, (unhide F).1, (unhide F).2.1, unhide LL, (unhide F).2.2⟩
      · have hkI : ¬ (k : Int) < (H.length : Int) := by omega
        have hge : ∀ i y, k ≤ i → H[i]? = some y → off < y.1 := fun i y hi hy => by
          have := (List.getElem?_eq_some_iff.1 hy).1; omega
        obtain ⟨a1, s1, a3, c3, W1, p1, a4, c4', W2, p2, q4, a2, s2, a5, c5, W3, p3, q5, q6, dr, gr, nw⟩ := unhide IN k hk (unhide out k hk (unhide lo) hge)
        have S1 := hide (s1 wr)
        have P1 := hide p1
        have P2 := hide p2
        have S2 := hide (s2 W2)
        have P3 := hide p3
        have F := hide (And.intro dr (And.intro gr nw))
        have LL : Hid (((H.take k ++ [(off, b)]) ++ H.drop k).length ≤ H.length + 1) := by show _ ≤ _; simp; omega
        clear s1 p1 p2 s2 p3 dr gr nw IN out hge lo hlt hk
        go_upto_region 6 with fail
        clear hlen hn h0 d HI RD HS th c1 hkI
        go_upto_region 7 with (first | (refine wpList_sliceH_run _ rfl 54 (Operand.tmp 58) (Operand.tmp 59) rfl (.slice a H.length c) (.int .i64 (k : Int)) rfl rfl (unhide S1) ?_) | (at_builtin; refine wpList_append_run _ rfl (Operand.tmp 54) (Operand.tmp 60) 54 54 rfl (.slice none 0 0) (.slice a1 k c) rfl rfl (unhide P1) ?_))
        clear S1 P1
        go_upto_region 8 with (at_builtin; refine wpList_append_run _ rfl (Operand.tmp 62) (Operand.tmp 66) 54 54 rfl (.slice a3 k c3) (.slice (some ⟨W1.heap.size, 0, none⟩) 1 1) rfl rfl (unhide P2) ?_)
        clear P2
        go_wp2_with (first | (refine wpList_sliceL_run _ rfl 54 (Operand.tmp 73) (Operand.tmp 74) rfl (.slice a H.length c) (.int .i64 (k : Int)) rfl rfl (unhide S2) ?_) | (at_builtin; refine wpList_append_run _ rfl (Operand.tmp 69) (Operand.tmp 75) 54 54 rfl (.slice a4 (k + 1) c4') (.slice a2 (H.length - k) (c - k)) rfl rfl (unhide P3) ?_))
        refine bodyPost_end (results_none rfl _ _ _) rfl ?_
        exact ⟨rfl, a5, c5, _, (unhide F).1, (unhide F).2.1, unhide LL, (unhide F).2.2⟩
end
end Go.Proofs.YthihabjegpacaaaGreat
