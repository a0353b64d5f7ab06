/- The reader's part, where no order is drawn. -/
import Derived.Test.YtggjeamondampaaFY1
namespace Go.Proofs.Ytggjeamondampaa
open Go.RowKit
set_option linter.unusedVariables false
set_option maxRecDepth 100000
set_option maxHeartbeats 4000000
theorem numF_isB {l l1 : List Int} {v : Int} (hb : ∀ x ∈ l, IsB x) (h : numF l = some (v, l1)) : 0 ≤ v ∧ ∀ x ∈ l1, IsB x := by
  obtain ⟨n, e, -, -, v0, -⟩ := numF_some hb h
  exact ⟨v0, fun x hx => hb x (by rw [e] at hx; exact List.mem_of_mem_drop hx)⟩
theorem runF_max {hi : Int} {l l1 : List Int} {r : Int × Int} (hb : ∀ x ∈ l, IsB x) (h : runF hi l = .inl (r, l1)) : r.2 = hi ∧ r.1 ≤ hi ∧ ∀ x ∈ l1, IsB x := by
  unfold runF at h
  split at h
  · simp at h
  · split at h
    · simp at h
    · rename_i less l9 e9
      split at h
      · simp at h
      · simp only [Sum.inl.injEq, Prod.mk.injEq] at h
        obtain ⟨v0, hb2⟩ := numF_isB hb e9
        rw [← h.1, ← h.2]
        exact ⟨rfl, by simp only; omega, hb2⟩
theorem moreF_max : ∀ (n : Nat) (lo : Int) (l l1 : List Int) (L : List (Int × Int)), lo ≤ MAXN → (∀ x ∈ l, IsB x) → moreF n lo l = .inl (L, l1) → ∀ s ∈ L, s.2 ≤ MAXN
  | 0, lo, l, l1, L, _, _, h => by
    simp only [moreF, Sum.inl.injEq, Prod.mk.injEq] at h
    rw [← h.1]; intro s hs; cases hs
  | n + 1, lo, l, l1, L, hlo, hb, h => by
    simp only [moreF] at h
    split at h
    · simp at h
    · rename_i gap l2 e2
      obtain ⟨g0, hb2⟩ := numF_isB hb e2
      split at h
      · simp at h
      · rename_i r l3 e3
        obtain ⟨r2, r1, hb3⟩ := runF_max hb2 e3
        split at h
        · simp at h
        · rename_i rs l4 e4
          simp only [Sum.inl.injEq, Prod.mk.injEq] at h
          rw [← h.1]
          intro s hs
          rcases List.mem_cons.1 hs with rfl | hs
          · omega
          · exact moreF_max n r.1 l3 l4 rs (by omega) hb3 e4 s hs
theorem runsF_max {hi : Int} {l l1 : List Int} {L : List (Int × Int)} (hb : ∀ x ∈ l, IsB x) (hh : hi ≤ MAXN) (h : runsF hi l = .inl (L, l1)) : ∀ s ∈ L, s.2 ≤ MAXN := by
  unfold runsF at h
  split at h
  · simp at h
  · rename_i n l2 e2
    obtain ⟨g0, hb2⟩ := numF_isB hb e2
    split at h
    · simp at h
    · rename_i r l3 e3
      obtain ⟨r2, r1, hb3⟩ := runF_max hb2 e3
      split at h
      · simp at h
      · rename_i rs l4 e4
        simp only [Sum.inl.injEq, Prod.mk.injEq] at h
        rw [← h.1]
        intro s hs
        rcases List.mem_cons.1 hs with rfl | hs
        · omega
        · exact moreF_max n.toNat r.1 l3 l4 rs (by omega) hb3 e4 s hs
section
variable {w0 w : World} {g b : Nat} {a : Option Addr} {l : List Int} {c k : Nat} {y : Int} {f : Fr} {d r : Value}

theorem PI.same (h : PI w0 w g b a l c k y f d r) : l.drop k = l.drop (l.length - (l.drop k).length) ∧ PI w0 w g b a l c (l.length - (l.drop k).length) y f d r := by
  have e : l.length - (l.drop k).length = k := by rw [List.length_drop]; have := h.at_; omega
  rw [e]
  exact ⟨rfl, h⟩
theorem part_0 (h : PI w0 w g b a l c k y f d r) : Calls Try.prog 82 #[.pointer (some ⟨g, 0, none⟩), .pointer (some ⟨b, 0, none⟩), .int .i64 0] w (PartPost w0 g b a l c k y f 0) := by
  have H := hide h
  clear h
  go_enter Try.func82, Try.ntmps82
  go_wp2_with fail
  go_end0
  exact .inl ⟨f, l.drop k, d, r, rfl, rfl, (unhide H).same.1, (unhide H).same.2⟩
theorem part_1 (h : PI w0 w g b a l c k y f d r) : Calls Try.prog 82 #[.pointer (some ⟨g, 0, none⟩), .pointer (some ⟨b, 0, none⟩), .int .i64 1] w (PartPost w0 g b a l c k y f 1) := by
  have hnu := h.rdg.num
  have e0 : readP 1 f (l.drop k) = (match numF (l.drop k) with | none => .inr 40 | some (v, l1) => if v > 4611686018427387903 then .inr 42 else .inl (setF f 1 v, l1)) := rfl
  have hmo : ∀ W, Calls Try.prog 93 #[.int .i64 1] W fun e w' => e = .returned (.int .i64 4611686018427387903) ∧ w' = W := fun W => most_any 1 W
  have hfi : ∀ W, Calls Try.prog 70 #[.pointer (some ⟨b, 0, none⟩), .int .i64 1] W fun e w' => e = .returned (.pointer (some ⟨b, 1, none⟩)) ∧ w' = W := fun W => field_any b 1 W (by omega)
  have H := hide h
  have HE := hide e0
  clear h e0
  go_enter Try.func82, Try.ntmps82
  go_wp2_with fail
  refine hnu.mono ?_
  rintro e W1 (⟨v, l1, hn, rfl, v0, v1, hl1, R1, g1⟩ | ⟨hn, ⟨pv, rfl⟩, hb1, hg⟩)
  case inr =>
    go_wp2_with fail
    exact ⟨rfl, .inr ⟨40, by rw [unhide HE, hn], ⟨_, rfl⟩, hb1, grown_add (unhide H).gr hg (fun k e => by cases e; exact .inr rfl)⟩⟩
  have P1 := (unhide H).step R1 g1
  have hup := P1.rdg.up 42
  obtain ⟨z0, z1, z2, z3, z4, z5, z6, z7, z8, z9, z10, z11, z12, z13, z14, z15, z16⟩ := P1.blk.cells
  have th := P1.blk.thaws
  have HP := hide P1
  have HL := hide hl1
  have HNN := hide hn
  have HV := hide (And.intro v0 v1)
  clear P1 hnu R1 g1 hl1 hn v0 v1
  by_cases hm : 4611686018427387903 < v
  · go_wp2_with (first | (go_at_call 93; refine (hmo _).mono ?_; rintro e W3 ⟨rfl, hw⟩; replace hw := hw.symm; subst hw) | (go_at_call 81; refine hup.mono ?_; rintro e W2 ⟨⟨pv, rfl⟩, hb2, hg2⟩))
    exact ⟨rfl, .inr ⟨42, by rw [unhide HE, unhide HNN]; exact if_pos hm, ⟨_, rfl⟩, hb2, grown_add (unhide HP).gr hg2 (fun k e => by cases e; exact .inr rfl)⟩⟩
  · go_wp2_with (first | (go_at_call 93; refine (hmo _).mono ?_; rintro e W3 ⟨rfl, hw⟩; replace hw := hw.symm; subst hw) | (go_at_call 70; refine (hfi _).mono ?_; rintro e W3 ⟨rfl, hw⟩; replace hw := hw.symm; subst hw))
    go_end0
    exact .inl ⟨setF f 1 v, l1, d, r, by rw [unhide HE, unhide HNN]; exact if_neg (by omega), rfl, unhide HL, (unhide HP).set 1 (.int .i64 v) rfl (unhide HP).own (unhide HP).runs (unhide HP).off (unhide HP).lar⟩
theorem part_2 (h : PI w0 w g b a l c k y f d r) : Calls Try.prog 82 #[.pointer (some ⟨g, 0, none⟩), .pointer (some ⟨b, 0, none⟩), .int .i64 2] w (PartPost w0 g b a l c k y f 2) := by
  have hnu := h.rdg.num
  have e0 : readP 2 f (l.drop k) = (match numF (l.drop k) with | none => .inr 40 | some (v, l1) => if v > 4611686018427387903 then .inr 42 else .inl (setF f 2 v, l1)) := rfl
  have hmo : ∀ W, Calls Try.prog 93 #[.int .i64 2] W fun e w' => e = .returned (.int .i64 4611686018427387903) ∧ w' = W := fun W => most_any 2 W
  have hfi : ∀ W, Calls Try.prog 70 #[.pointer (some ⟨b, 0, none⟩), .int .i64 2] W fun e w' => e = .returned (.pointer (some ⟨b, 2, none⟩)) ∧ w' = W := fun W => field_any b 2 W (by omega)
  have H := hide h
  have HE := hide e0
  clear h e0
  go_enter Try.func82, Try.ntmps82
  go_wp2_with fail
  refine hnu.mono ?_
  rintro e W1 (⟨v, l1, hn, rfl, v0, v1, hl1, R1, g1⟩ | ⟨hn, ⟨pv, rfl⟩, hb1, hg⟩)
  case inr =>
    go_wp2_with fail
    exact ⟨rfl, .inr ⟨40, by rw [unhide HE, hn], ⟨_, rfl⟩, hb1, grown_add (unhide H).gr hg (fun k e => by cases e; exact .inr rfl)⟩⟩
  have P1 := (unhide H).step R1 g1
  have hup := P1.rdg.up 42
  obtain ⟨z0, z1, z2, z3, z4, z5, z6, z7, z8, z9, z10, z11, z12, z13, z14, z15, z16⟩ := P1.blk.cells
  have th := P1.blk.thaws
  have HP := hide P1
  have HL := hide hl1
  have HNN := hide hn
  have HV := hide (And.intro v0 v1)
  clear P1 hnu R1 g1 hl1 hn v0 v1
  by_cases hm : 4611686018427387903 < v
  · go_wp2_with (first | (go_at_call 93; refine (hmo _).mono ?_; rintro e W3 ⟨rfl, hw⟩; replace hw := hw.symm; subst hw) | (go_at_call 81; refine hup.mono ?_; rintro e W2 ⟨⟨pv, rfl⟩, hb2, hg2⟩))
    exact ⟨rfl, .inr ⟨42, by rw [unhide HE, unhide HNN]; exact if_pos hm, ⟨_, rfl⟩, hb2, grown_add (unhide HP).gr hg2 (fun k e => by cases e; exact .inr rfl)⟩⟩
  · go_wp2_with (first | (go_at_call 93; refine (hmo _).mono ?_; rintro e W3 ⟨rfl, hw⟩; replace hw := hw.symm; subst hw) | (go_at_call 70; refine (hfi _).mono ?_; rintro e W3 ⟨rfl, hw⟩; replace hw := hw.symm; subst hw))
    go_end0
    exact .inl ⟨setF f 2 v, l1, d, r, by rw [unhide HE, unhide HNN]; exact if_neg (by omega), rfl, unhide HL, (unhide HP).set 2 (.int .i64 v) rfl (unhide HP).own (unhide HP).runs (unhide HV) (unhide HP).lar⟩
theorem part_3 (h : PI w0 w g b a l c k y f d r) : Calls Try.prog 82 #[.pointer (some ⟨g, 0, none⟩), .pointer (some ⟨b, 0, none⟩), .int .i64 3] w (PartPost w0 g b a l c k y f 3) := by
  have hnu := h.rdg.num
  have e0 : readP 3 f (l.drop k) = (match numF (l.drop k) with | none => .inr 40 | some (v, l1) => if v > 4611686018427387903 then .inr 42 else .inl (setF f 3 v, l1)) := rfl
  have hmo : ∀ W, Calls Try.prog 93 #[.int .i64 3] W fun e w' => e = .returned (.int .i64 4611686018427387903) ∧ w' = W := fun W => most_any 3 W
  have hfi : ∀ W, Calls Try.prog 70 #[.pointer (some ⟨b, 0, none⟩), .int .i64 3] W fun e w' => e = .returned (.pointer (some ⟨b, 7, none⟩)) ∧ w' = W := fun W => field_any b 3 W (by omega)
  have H := hide h
  have HE := hide e0
  clear h e0
  go_enter Try.func82, Try.ntmps82
  go_wp2_with fail
  refine hnu.mono ?_
  rintro e W1 (⟨v, l1, hn, rfl, v0, v1, hl1, R1, g1⟩ | ⟨hn, ⟨pv, rfl⟩, hb1, hg⟩)
  case inr =>
    go_wp2_with fail
    exact ⟨rfl, .inr ⟨40, by rw [unhide HE, hn], ⟨_, rfl⟩, hb1, grown_add (unhide H).gr hg (fun k e => by cases e; exact .inr rfl)⟩⟩
  have P1 := (unhide H).step R1 g1
  have hup := P1.rdg.up 42
  obtain ⟨z0, z1, z2, z3, z4, z5, z6, z7, z8, z9, z10, z11, z12, z13, z14, z15, z16⟩ := P1.blk.cells
  have th := P1.blk.thaws
  have HP := hide P1
  have HL := hide hl1
  have HNN := hide hn
  have HV := hide (And.intro v0 v1)
  clear P1 hnu R1 g1 hl1 hn v0 v1
  by_cases hm : 4611686018427387903 < v
  · go_wp2_with (first | (go_at_call 93; refine (hmo _).mono ?_; rintro e W3 ⟨rfl, hw⟩; replace hw := hw.symm; subst hw) | (go_at_call 81; refine hup.mono ?_; rintro e W2 ⟨⟨pv, rfl⟩, hb2, hg2⟩))
    exact ⟨rfl, .inr ⟨42, by rw [unhide HE, unhide HNN]; exact if_pos hm, ⟨_, rfl⟩, hb2, grown_add (unhide HP).gr hg2 (fun k e => by cases e; exact .inr rfl)⟩⟩
  · go_wp2_with (first | (go_at_call 93; refine (hmo _).mono ?_; rintro e W3 ⟨rfl, hw⟩; replace hw := hw.symm; subst hw) | (go_at_call 70; refine (hfi _).mono ?_; rintro e W3 ⟨rfl, hw⟩; replace hw := hw.symm; subst hw))
    go_end0
    exact .inl ⟨setF f 3 v, l1, d, r, by rw [unhide HE, unhide HNN]; exact if_neg (by omega), rfl, unhide HL, (unhide HP).set 7 (.int .i64 v) rfl (unhide HP).own (unhide HP).runs (unhide HP).off (unhide HP).lar⟩
theorem part_4 (h : PI w0 w g b a l c k y f d r) : Calls Try.prog 82 #[.pointer (some ⟨g, 0, none⟩), .pointer (some ⟨b, 0, none⟩), .int .i64 4] w (PartPost w0 g b a l c k y f 4) := by
  have hnu := h.rdg.num
  have e0 : readP 4 f (l.drop k) = (match numF (l.drop k) with | none => .inr 40 | some (v, l1) => if v > 1152921504606846976 then .inr 42 else .inl (setF f 4 v, l1)) := rfl
  have hmo : ∀ W, Calls Try.prog 93 #[.int .i64 4] W fun e w' => e = .returned (.int .i64 1152921504606846976) ∧ w' = W := fun W => most_any 4 W
  have hfi : ∀ W, Calls Try.prog 70 #[.pointer (some ⟨b, 0, none⟩), .int .i64 4] W fun e w' => e = .returned (.pointer (some ⟨b, 7, none⟩)) ∧ w' = W := fun W => field_any b 4 W (by omega)
  have H := hide h
  have HE := hide e0
  clear h e0
  go_enter Try.func82, Try.ntmps82
  go_wp2_with fail
  refine hnu.mono ?_
  rintro e W1 (⟨v, l1, hn, rfl, v0, v1, hl1, R1, g1⟩ | ⟨hn, ⟨pv, rfl⟩, hb1, hg⟩)
  case inr =>
    go_wp2_with fail
    exact ⟨rfl, .inr ⟨40, by rw [unhide HE, hn], ⟨_, rfl⟩, hb1, grown_add (unhide H).gr hg (fun k e => by cases e; exact .inr rfl)⟩⟩
  have P1 := (unhide H).step R1 g1
  have hup := P1.rdg.up 42
  obtain ⟨z0, z1, z2, z3, z4, z5, z6, z7, z8, z9, z10, z11, z12, z13, z14, z15, z16⟩ := P1.blk.cells
  have th := P1.blk.thaws
  have HP := hide P1
  have HL := hide hl1
  have HNN := hide hn
  have HV := hide (And.intro v0 v1)
  clear P1 hnu R1 g1 hl1 hn v0 v1
  by_cases hm : 1152921504606846976 < v
  · go_wp2_with (first | (go_at_call 93; refine (hmo _).mono ?_; rintro e W3 ⟨rfl, hw⟩; replace hw := hw.symm; subst hw) | (go_at_call 81; refine hup.mono ?_; rintro e W2 ⟨⟨pv, rfl⟩, hb2, hg2⟩))
    exact ⟨rfl, .inr ⟨42, by rw [unhide HE, unhide HNN]; exact if_pos hm, ⟨_, rfl⟩, hb2, grown_add (unhide HP).gr hg2 (fun k e => by cases e; exact .inr rfl)⟩⟩
  · go_wp2_with (first | (go_at_call 93; refine (hmo _).mono ?_; rintro e W3 ⟨rfl, hw⟩; replace hw := hw.symm; subst hw) | (go_at_call 70; refine (hfi _).mono ?_; rintro e W3 ⟨rfl, hw⟩; replace hw := hw.symm; subst hw))
    go_end0
    exact .inl ⟨setF f 4 v, l1, d, r, by rw [unhide HE, unhide HNN]; exact if_neg (by omega), rfl, unhide HL, (unhide HP).set 7 (.int .i64 v) rfl (unhide HP).own (unhide HP).runs (unhide HP).off (unhide HP).lar⟩
theorem part_5 (h : PI w0 w g b a l c k y f d r) : Calls Try.prog 82 #[.pointer (some ⟨g, 0, none⟩), .pointer (some ⟨b, 0, none⟩), .int .i64 5] w (PartPost w0 g b a l c k y f 5) := by
  have hnu := h.rdg.num
  have e0 : readP 5 f (l.drop k) = (match numF (l.drop k) with | none => .inr 40 | some (v, l1) => if v > 4611686018427387903 then .inr 42 else .inl (setF f 5 v, l1)) := rfl
  have hmo : ∀ W, Calls Try.prog 93 #[.int .i64 5] W fun e w' => e = .returned (.int .i64 4611686018427387903) ∧ w' = W := fun W => most_any 5 W
  have hfi : ∀ W, Calls Try.prog 70 #[.pointer (some ⟨b, 0, none⟩), .int .i64 5] W fun e w' => e = .returned (.pointer (some ⟨b, 9, none⟩)) ∧ w' = W := fun W => field_any b 5 W (by omega)
  have H := hide h
  have HE := hide e0
  clear h e0
  go_enter Try.func82, Try.ntmps82
  go_wp2_with fail
  refine hnu.mono ?_
  rintro e W1 (⟨v, l1, hn, rfl, v0, v1, hl1, R1, g1⟩ | ⟨hn, ⟨pv, rfl⟩, hb1, hg⟩)
  case inr =>
    go_wp2_with fail
    exact ⟨rfl, .inr ⟨40, by rw [unhide HE, hn], ⟨_, rfl⟩, hb1, grown_add (unhide H).gr hg (fun k e => by cases e; exact .inr rfl)⟩⟩
  have P1 := (unhide H).step R1 g1
  have hup := P1.rdg.up 42
  obtain ⟨z0, z1, z2, z3, z4, z5, z6, z7, z8, z9, z10, z11, z12, z13, z14, z15, z16⟩ := P1.blk.cells
  have th := P1.blk.thaws
  have HP := hide P1
  have HL := hide hl1
  have HNN := hide hn
  have HV := hide (And.intro v0 v1)
  clear P1 hnu R1 g1 hl1 hn v0 v1
  by_cases hm : 4611686018427387903 < v
  · go_wp2_with (first | (go_at_call 93; refine (hmo _).mono ?_; rintro e W3 ⟨rfl, hw⟩; replace hw := hw.symm; subst hw) | (go_at_call 81; refine hup.mono ?_; rintro e W2 ⟨⟨pv, rfl⟩, hb2, hg2⟩))
    exact ⟨rfl, .inr ⟨42, by rw [unhide HE, unhide HNN]; exact if_pos hm, ⟨_, rfl⟩, hb2, grown_add (unhide HP).gr hg2 (fun k e => by cases e; exact .inr rfl)⟩⟩
  · go_wp2_with (first | (go_at_call 93; refine (hmo _).mono ?_; rintro e W3 ⟨rfl, hw⟩; replace hw := hw.symm; subst hw) | (go_at_call 70; refine (hfi _).mono ?_; rintro e W3 ⟨rfl, hw⟩; replace hw := hw.symm; subst hw))
    go_end0
    exact .inl ⟨setF f 5 v, l1, d, r, by rw [unhide HE, unhide HNN]; exact if_neg (by omega), rfl, unhide HL, (unhide HP).set 9 (.int .i64 v) rfl (unhide HP).own (unhide HP).runs (unhide HP).off (unhide HP).lar⟩
theorem part_6 (h : PI w0 w g b a l c k y f d r) : Calls Try.prog 82 #[.pointer (some ⟨g, 0, none⟩), .pointer (some ⟨b, 0, none⟩), .int .i64 6] w (PartPost w0 g b a l c k y f 6) := by
  have hnu := h.rdg.num
  have e0 : readP 6 f (l.drop k) = (match numF (l.drop k) with | none => .inr 40 | some (v, l1) => if v > 4611686018427387903 then .inr 42 else .inl (setF f 6 v, l1)) := rfl
  have hmo : ∀ W, Calls Try.prog 93 #[.int .i64 6] W fun e w' => e = .returned (.int .i64 4611686018427387903) ∧ w' = W := fun W => most_any 6 W
  have hfi : ∀ W, Calls Try.prog 70 #[.pointer (some ⟨b, 0, none⟩), .int .i64 6] W fun e w' => e = .returned (.pointer (some ⟨b, 4, none⟩)) ∧ w' = W := fun W => field_any b 6 W (by omega)
  have H := hide h
  have HE := hide e0
  clear h e0
  go_enter Try.func82, Try.ntmps82
  go_wp2_with fail
  refine hnu.mono ?_
  rintro e W1 (⟨v, l1, hn, rfl, v0, v1, hl1, R1, g1⟩ | ⟨hn, ⟨pv, rfl⟩, hb1, hg⟩)
  case inr =>
    go_wp2_with fail
    exact ⟨rfl, .inr ⟨40, by rw [unhide HE, hn], ⟨_, rfl⟩, hb1, grown_add (unhide H).gr hg (fun k e => by cases e; exact .inr rfl)⟩⟩
  have P1 := (unhide H).step R1 g1
  have hup := P1.rdg.up 42
  obtain ⟨z0, z1, z2, z3, z4, z5, z6, z7, z8, z9, z10, z11, z12, z13, z14, z15, z16⟩ := P1.blk.cells
  have th := P1.blk.thaws
  have HP := hide P1
  have HL := hide hl1
  have HNN := hide hn
  have HV := hide (And.intro v0 v1)
  clear P1 hnu R1 g1 hl1 hn v0 v1
  by_cases hm : 4611686018427387903 < v
  · go_wp2_with (first | (go_at_call 93; refine (hmo _).mono ?_; rintro e W3 ⟨rfl, hw⟩; replace hw := hw.symm; subst hw) | (go_at_call 81; refine hup.mono ?_; rintro e W2 ⟨⟨pv, rfl⟩, hb2, hg2⟩))
    exact ⟨rfl, .inr ⟨42, by rw [unhide HE, unhide HNN]; exact if_pos hm, ⟨_, rfl⟩, hb2, grown_add (unhide HP).gr hg2 (fun k e => by cases e; exact .inr rfl)⟩⟩
  · go_wp2_with (first | (go_at_call 93; refine (hmo _).mono ?_; rintro e W3 ⟨rfl, hw⟩; replace hw := hw.symm; subst hw) | (go_at_call 70; refine (hfi _).mono ?_; rintro e W3 ⟨rfl, hw⟩; replace hw := hw.symm; subst hw))
    go_end0
    exact .inl ⟨setF f 6 v, l1, d, r, by rw [unhide HE, unhide HNN]; exact if_neg (by omega), rfl, unhide HL, (unhide HP).set 4 (.int .i64 v) rfl (unhide HP).own (unhide HP).runs (unhide HP).off (unhide HP).lar⟩
theorem part_7 (h : PI w0 w g b a l c k y f d r) : Calls Try.prog 82 #[.pointer (some ⟨g, 0, none⟩), .pointer (some ⟨b, 0, none⟩), .int .i64 7] w (PartPost w0 g b a l c k y f 7) := by
  have hnu := h.rdg.num
  have e0 : readP 7 f (l.drop k) = (match numF (l.drop k) with | none => .inr 40 | some (v, l1) => if v > 4611686018427387903 then .inr 42 else .inl (setF f 7 v, l1)) := rfl
  have hmo : ∀ W, Calls Try.prog 93 #[.int .i64 7] W fun e w' => e = .returned (.int .i64 4611686018427387903) ∧ w' = W := fun W => most_any 7 W
  have hfi : ∀ W, Calls Try.prog 70 #[.pointer (some ⟨b, 0, none⟩), .int .i64 7] W fun e w' => e = .returned (.pointer (some ⟨b, 11, none⟩)) ∧ w' = W := fun W => field_any b 7 W (by omega)
  have H := hide h
  have HE := hide e0
  clear h e0
  go_enter Try.func82, Try.ntmps82
  go_wp2_with fail
  refine hnu.mono ?_
  rintro e W1 (⟨v, l1, hn, rfl, v0, v1, hl1, R1, g1⟩ | ⟨hn, ⟨pv, rfl⟩, hb1, hg⟩)
  case inr =>
    go_wp2_with fail
    exact ⟨rfl, .inr ⟨40, by rw [unhide HE, hn], ⟨_, rfl⟩, hb1, grown_add (unhide H).gr hg (fun k e => by cases e; exact .inr rfl)⟩⟩
  have P1 := (unhide H).step R1 g1
  have hup := P1.rdg.up 42
  obtain ⟨z0, z1, z2, z3, z4, z5, z6, z7, z8, z9, z10, z11, z12, z13, z14, z15, z16⟩ := P1.blk.cells
  have th := P1.blk.thaws
  have HP := hide P1
  have HL := hide hl1
  have HNN := hide hn
  have HV := hide (And.intro v0 v1)
  clear P1 hnu R1 g1 hl1 hn v0 v1
  by_cases hm : 4611686018427387903 < v
  · go_wp2_with (first | (go_at_call 93; refine (hmo _).mono ?_; rintro e W3 ⟨rfl, hw⟩; replace hw := hw.symm; subst hw) | (go_at_call 81; refine hup.mono ?_; rintro e W2 ⟨⟨pv, rfl⟩, hb2, hg2⟩))
    exact ⟨rfl, .inr ⟨42, by rw [unhide HE, unhide HNN]; exact if_pos hm, ⟨_, rfl⟩, hb2, grown_add (unhide HP).gr hg2 (fun k e => by cases e; exact .inr rfl)⟩⟩
  · go_wp2_with (first | (go_at_call 93; refine (hmo _).mono ?_; rintro e W3 ⟨rfl, hw⟩; replace hw := hw.symm; subst hw) | (go_at_call 70; refine (hfi _).mono ?_; rintro e W3 ⟨rfl, hw⟩; replace hw := hw.symm; subst hw))
    go_end0
    exact .inl ⟨setF f 7 v, l1, d, r, by rw [unhide HE, unhide HNN]; exact if_neg (by omega), rfl, unhide HL, (unhide HP).set 11 (.int .i64 v) rfl (unhide HP).own (unhide HP).runs (unhide HP).off (unhide HP).lar⟩
theorem part_14 (h : PI w0 w g b a l c k y f d r) : Calls Try.prog 82 #[.pointer (some ⟨g, 0, none⟩), .pointer (some ⟨b, 0, none⟩), .int .i64 14] w (PartPost w0 g b a l c k y f 14) := by
  have hze := h.rdg.zeros
  have H := hide h
  clear h
  go_enter Try.func82, Try.ntmps82
  go_wp2_with fail
  refine hze.mono ?_
  rintro e W1 ⟨rfl, R1, g1⟩
  have P1 := (unhide H).step R1 g1
  obtain ⟨z0, z1, z2, z3, z4, z5, z6, z7, z8, z9, z10, z11, z12, z13, z14, z15, z16⟩ := P1.blk.cells
  have th := P1.blk.thaws
  have HP := hide P1
  clear P1 hze R1 g1
  go_wp2_with fail
  go_end0
  have el : (l.drop k).drop (zrs 65534 (l.drop k)) = l.drop (k + zrs 65534 (l.drop k)) := by rw [List.drop_drop]
  have ee : l.length - (l.drop (k + zrs 65534 (l.drop k))).length = k + zrs 65534 (l.drop k) := by rw [List.length_drop]; have := (unhide HP).at_; omega
  refine .inl ⟨{ f with size := (zrs 65534 (l.drop k) : Int) + 1 }, l.drop (k + zrs 65534 (l.drop k)), d, r, by rw [← el]; rfl, rfl, by rw [ee], ?_⟩
  rw [ee]
  exact (unhide HP).set 4 _ rfl (unhide HP).own (unhide HP).runs (unhide HP).off (unhide HP).lar
theorem part_8 (h : PI w0 w g b a l c k y f d r) : Calls Try.prog 82 #[.pointer (some ⟨g, 0, none⟩), .pointer (some ⟨b, 0, none⟩), .int .i64 8] w (PartPost w0 g b a l c k y f 8) := by
  have hnu := h.rdg.num
  have e0 : readP 8 f (l.drop k) = (match numF (l.drop k) with | none => .inr 40 | some (v, l1) => .inl ({ f with runs := [(0, v)] }, l1)) := rfl
  have H := hide h
  have HE := hide e0
  clear h e0
  go_enter Try.func82, Try.ntmps82
  go_wp2_with fail
  refine hnu.mono ?_
  rintro e W1 (⟨v, l1, hn, rfl, v0, v1, hl1, R1, g1⟩ | ⟨hn, ⟨pv, rfl⟩, hb1, hg⟩)
  case inr =>
    go_wp2_with fail
    exact ⟨rfl, .inr ⟨40, by rw [unhide HE, hn], ⟨_, rfl⟩, hb1, grown_add (unhide H).gr hg (fun k e => by cases e; exact .inr rfl)⟩⟩
  have P1 := (unhide H).step R1 g1
  have P2 := P1.alloc (.cells #[.int .i64 0, .int .i64 v] 81)
  obtain ⟨z0, z1, z2, z3, z4, z5, z6, z7, z8, z9, z10, z11, z12, z13, z14, z15, z16⟩ := P2.blk.cells
  have th := P2.blk.thaws
  have o2 := OwnR.first W1 w0.heap.size 0 v P1.gr.size
  have HP := hide (And.intro P2 o2)
  have HL := hide hl1
  have HNN := hide hn
  have HV := hide v1
  clear P1 P2 hnu R1 g1 hl1 hn v0 v1 o2
  go_wp2_with fail
  go_end0
  exact .inl ⟨{ f with runs := [(0, v)] }, l1, d, _, by rw [unhide HE, unhide HNN], rfl, unhide HL, (unhide HP).1.set 12 _ rfl (unhide HP).1.own (unhide HP).2 (unhide HP).1.off (fun s hs => by obtain rfl := List.mem_singleton.1 hs; exact unhide HV)⟩
theorem part_13 (h : PI w0 w g b a l c k y f d r) : Calls Try.prog 82 #[.pointer (some ⟨g, 0, none⟩), .pointer (some ⟨b, 0, none⟩), .int .i64 13] w (PartPost w0 g b a l c k y f 13) := by
  have hby := h.rdg.bytes (by have := h.st.len; omega) 0 8 ⟨by omega, by decide⟩ ⟨by omega, by decide⟩
  have e0 : readP 13 f (l.drop k) = (match bytesF 0 8 (l.drop k) with | .inr e => .inr e | .inl (d, l2) => .inl ({ f with data := d }, l2)) := rfl
  have H := hide h
  have HE := hide e0
  clear h e0
  go_enter Try.func82, Try.ntmps82
  go_wp2_with fail
  refine hby.mono ?_
  rintro e W1 (⟨dd, l1, v', hn, rfl, o1, hl1, R1, g1⟩ | ⟨e', hn, ⟨pv, rfl⟩, hb1, hg⟩)
  case inr =>
    go_wp2_with fail
    exact ⟨rfl, .inr ⟨e', by rw [unhide HE, hn], ⟨_, rfl⟩, hb1, grown_add (unhide H).gr hg (fun k e => by cases e; exact .inr rfl)⟩⟩
  have P1 := (unhide H).step R1 g1
  obtain ⟨z0, z1, z2, z3, z4, z5, z6, z7, z8, z9, z10, z11, z12, z13, z14, z15, z16⟩ := P1.blk.cells
  have th := P1.blk.thaws
  obtain ⟨da, dc, rfl⟩ := o1.shape
  have HP := hide (And.intro P1 (o1.mono (unhide H).gr.size))
  have HL := hide hl1
  have HNN := hide hn
  clear P1 hby R1 g1 hl1 hn o1
  go_wp2_with fail
  go_end0
  exact .inl ⟨{ f with data := dd }, l1, _, r, by rw [unhide HE, unhide HNN], rfl, unhide HL, (unhide HP).1.set 3 _ rfl (unhide HP).2 (unhide HP).1.runs (unhide HP).1.off (unhide HP).1.lar⟩
theorem part_9 (h : PI w0 w g b a l c k y f d r) (hne : f.runs ≠ []) : Calls Try.prog 82 #[.pointer (some ⟨g, 0, none⟩), .pointer (some ⟨b, 0, none⟩), .int .i64 9] w (PartPost w0 g b a l c k y f 9) := by
  obtain ⟨hh, cp, er, c1⟩ : ∃ hh cp, r = .slice (some ⟨hh, 0, none⟩) f.runs.length cp ∧ w.cell? ⟨hh, 1, none⟩ = some (.int .i64 (f.runs.headD (0, 0)).2) := by
    rcases h.runs.2 with ⟨-, e2⟩ | ⟨h', cp, cur, e1, q1, q2, q3, q4, q5, q6⟩
    · exact absurd (List.length_eq_zero_iff.1 e2) hne
    · refine ⟨h', cp, e1, ?_⟩
      have h1 : (cur.toList.take (f.runs.length * 2))[1]? = (clR f.runs)[1]? := by rw [q6]
      have hp : 0 < f.runs.length := List.length_pos_iff.2 hne
      rw [List.getElem?_take, if_pos (by omega), Array.getElem?_toList] at h1
      unfold World.cell?
      rw [q2]
      simp only
      rw [h1]
      cases hr : f.runs with
      | nil => exact absurd hr hne
      | cons s t => rfl
  have hhi : (f.runs.headD (0, 0)).2 ≤ MAXN := by
    cases hr : f.runs with
    | nil => exact absurd hr hne
    | cons s t => exact h.lar s (by rw [hr]; simp)
  have hru := h.rdg.runs h.st.len (f.runs.headD (0, 0)).2 hhi
  have e0 : readP 9 f (l.drop k) = (match runsF (f.runs.headD (0, 0)).2 (l.drop k) with | .inr e => .inr e | .inl (rs, l1) => .inl ({ f with runs := rs }, l1)) := rfl
  have hp : 0 < f.runs.length := List.length_pos_iff.2 hne
  obtain ⟨z0, z1, z2, z3, z4, z5, z6, z7, z8, z9, z10, z11, z12, z13, z14, z15, z16⟩ := h.blk.cells
  rw [er] at z12
  have H := hide h
  have HE := hide e0
  generalize (f.runs.headD (0, 0)).2 = x at *
  obtain ⟨n, hn0⟩ : ∃ n, n = f.runs.length := ⟨_, rfl⟩
  rw [← hn0] at z12 hp
  have n0 : (0 : Int) < (n : Int) := by omega
  clear h e0 hn0 er hne
  go_enter Try.func82, Try.ntmps82
  go_wp2_with fail
  refine hru.mono ?_
  rintro e W1 (⟨L, l1, v', hn, rfl, o1, hl1, R1, g1⟩ | ⟨e', hn, ⟨pv, rfl⟩, hb1, hg⟩)
  case inr =>
    go_wp2_with fail
    exact ⟨rfl, .inr ⟨e', by rw [unhide HE, hn], ⟨_, rfl⟩, hb1, grown_add (unhide H).gr hg (fun k e => by cases e; exact .inr rfl)⟩⟩
  have P1 := (unhide H).step R1 g1
  clear z0 z1 z2 z3 z4 z5 z6 z7 z8 z9 z10 z11 z12 z13 z14 z15 z16 c1
  obtain ⟨z0, z1, z2, z3, z4, z5, z6, z7, z8, z9, z10, z11, z12, z13, z14, z15, z16⟩ := P1.blk.cells
  have th := P1.blk.thaws
  obtain ⟨ra, rn, rc, rfl⟩ : ∃ a n c, v' = .slice a n c := by
    rcases o1.2 with ⟨e, -⟩ | ⟨_, _, _, e, -⟩
    · exact ⟨_, _, _, e⟩
    · exact ⟨_, _, _, e⟩
  have HP := hide (And.intro P1 (o1.mono (unhide H).gr.size))
  have HL := hide hl1
  have HNN := hide hn
  have HX := hide hhi
  clear P1 hru R1 g1 hl1 hn o1 hhi
  go_wp2_with fail
  go_end0
  exact .inl ⟨{ f with runs := L }, l1, d, _, by rw [unhide HE, unhide HNN], rfl, unhide HL, (unhide HP).1.set 12 _ rfl (unhide HP).1.own (unhide HP).2 (unhide HP).1.off (runsF_max (fun x hx => (unhide H).st.rd0.1 x (List.mem_of_mem_drop hx)) (unhide HX) (unhide HNN))⟩
end
end Go.Proofs.Ytggjeamondampaa
