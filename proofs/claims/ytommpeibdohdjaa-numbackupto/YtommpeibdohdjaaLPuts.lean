import Derived.Test.YtommpeibdohdjaaWT
namespace Go.Proofs.Ytommpeibdohdjaa
open Go.RowKit
set_option linter.unusedVariables false

/-- A row of bytes that is kept. -/
def Row (B : Nat) (W : World) (s : Value) (l : List Int) : Prop := W.ownsRow B 5 1 s l.length (vals l)
theorem Row.below {B : Nat} {W W' : World} {s : Value} {l : List Int} (h : Row B W s l) (hb : Below W.heap.size W W') : Row B W' s l := by
  have gr : W.grownBy W' none := ⟨hb.os, hb.tape, hb.output, hb.size, fun k hk _ => hb.block k hk⟩
  exact World.ownsRow.kept h gr (by cases s.ownBlock <;> simp)
theorem Own.row {w0 w w' : World} {s : Value} {l : List Int} (h : Own w w' s l) (hb : w0.heap.size ≤ w.heap.size) : Row w0.heap.size w' s l := by
  refine ⟨h.1.1, ?_⟩
  rcases h.1.2 with h2 | ⟨g, cap, cur, hv, hg, r⟩
  · exact .inl h2
  · exact .inr ⟨g, cap, cur, hv, by omega, r⟩
theorem Row.sep {B : Nat} {w w' : World} {s t : Value} {l m : List Int} (h : Row B w s l) (h2 : Own w w' t m) : s.ownBlock = none ∨ s.ownBlock ≠ t.ownBlock := by
  cases hs : s.ownBlock with
  | none => exact .inl rfl
  | some g =>
    right
    intro e
    have h3 := (World.ownsRow.lt h g hs).2
    have h4 := (h2.1.lt g e.symm).1
    omega

theorem putF_byte (v : Int) (v0 : 0 ≤ v) : (∀ x ∈ (putF v).1, IsB x) ∧ (putF v).1.length ≤ 8 := by
  unfold putF
  split
  · refine ⟨layF_byte v _ v0 (fits_size v ‹_›), ?_⟩
    rw [layF_length]; have := fits_size v ‹_›; unfold Fits at this; omega
  · simp
theorem putAsF_byte (v n : Int) (v0 : 0 ≤ v) : (∀ x ∈ (putAsF v n).1, IsB x) ∧ (putAsF v n).1.length ≤ 8 := by
  unfold putAsF
  split
  · rename_i hs
    split
    · rename_i h
      have hf := fits_of v n hs h.2 h.1
      refine ⟨layF_byte v _ v0 hf, ?_⟩
      rw [layF_length]; unfold Fits at hf; omega
    · simp
  · simp

set_option maxHeartbeats 6400000 in
theorem puts_walk (v n : Int) (w : World) (v0 : 0 ≤ v) (v1 : v < 18446744073709551616) :
    Calls Try.prog 3 #[.int .u64 v, .int .i64 n] w fun e w' => e = .returned (.bool true) ∧ Below w.heap.size w w' := by
  obtain ⟨pb, pl⟩ := putF_byte v v0
  obtain ⟨qb, ql⟩ := putAsF_byte v n v0
  have PB := hide pb; have QB := hide qb
  clear pb qb
  go_enter Try.func3, Try.ntmps3
  go_wp2_with fail
  refine (awake_any _).mono ?_
  rintro e W1 ⟨rfl, b1⟩
  go_wp2_with fail
  refine (size_any v _ v0 v1).mono ?_
  rintro e w' ⟨rfl, hw⟩; subst w'
  go_wp2_with fail
  refine (put_own v _ v0 v1).mono ?_
  rintro e W2 ⟨s, rfl, ho⟩
  have b2 := b1.trans (ho.2.mono b1.size)
  obtain ⟨-, aa, ac, rfl, -⟩ := own_rd ho.1 (unhide PB)
  have Ka := hide (ho.row b1.size)
  clear ho b1
  go_wp2_with fail
  refine (put_own v _ v0 v1).mono ?_
  rintro e W3 ⟨s, rfl, ho⟩
  have b3 := b2.trans (ho.2.mono b2.size)
  obtain ⟨-, ba, bc, rfl, -⟩ := own_rd ho.1 (unhide PB)
  have Kb := hide (ho.row b2.size)
  have Sab := hide ((unhide Ka).sep ho)
  have Ka' := hide ((unhide Ka).below ho.2)
  clear Ka
  have Ka := Ka'
  clear Ka'
  clear ho b2
  go_wp2_with fail
  refine (putAs_own v n _ v0 v1).mono ?_
  rintro e W4 ⟨s, rfl, ho⟩
  have b4 := b3.trans (ho.2.mono b3.size)
  obtain ⟨-, ca, cc, rfl, -⟩ := own_rd ho.1 (unhide QB)
  have Kc := hide (ho.row b3.size)
  have Sac := hide ((unhide Ka).sep ho)
  have Sbc := hide ((unhide Kb).sep ho)
  have Ka' := hide ((unhide Ka).below ho.2)
  clear Ka
  have Ka := Ka'
  clear Ka'
  have Kb' := hide ((unhide Kb).below ho.2)
  clear Kb
  have Kb := Kb'
  clear Kb'
  clear ho b3
  go_wp2_with fail
  refine (putAs_own v n _ v0 v1).mono ?_
  rintro e W5 ⟨s, rfl, ho⟩
  have b5 := b4.trans (ho.2.mono b4.size)
  obtain ⟨-, da, dc, rfl, -⟩ := own_rd ho.1 (unhide QB)
  have Kd := hide (ho.row b4.size)
  have Sad := hide ((unhide Ka).sep ho)
  have Sbd := hide ((unhide Kb).sep ho)
  have Scd := hide ((unhide Kc).sep ho)
  have Ka' := hide ((unhide Ka).below ho.2)
  clear Ka
  have Ka := Ka'
  clear Ka'
  have Kb' := hide ((unhide Kb).below ho.2)
  clear Kb
  have Kb := Kb'
  clear Kb'
  have Kc' := hide ((unhide Kc).below ho.2)
  clear Kc
  have Kc := Kc'
  clear Kc'
  clear ho b4
  go_wp2_with fail
  refine (rput_own v _ v0 v1).mono ?_
  rintro e W6 ⟨s, rfl, ho⟩
  have b6 := b5.trans (ho.2.mono b5.size)
  obtain ⟨-, pa, pc, rfl, -⟩ := own_rd ho.1 (unhide PB)
  have Kp := hide (ho.row b5.size)
  have Ka' := hide ((unhide Ka).below ho.2)
  clear Ka
  have Ka := Ka'
  clear Ka'
  have Kb' := hide ((unhide Kb).below ho.2)
  clear Kb
  have Kb := Kb'
  clear Kb'
  have Kc' := hide ((unhide Kc).below ho.2)
  clear Kc
  have Kc := Kc'
  clear Kc'
  have Kd' := hide ((unhide Kd).below ho.2)
  clear Kd
  have Kd := Kd'
  clear Kd'
  clear ho b5
  go_wp2_with fail
  refine (rputAs_own v n _ v0 v1).mono ?_
  rintro e W7 ⟨s, rfl, ho⟩
  have b7 := b6.trans (ho.2.mono b6.size)
  obtain ⟨-, qa, qc, rfl, -⟩ := own_rd ho.1 (unhide QB)
  have Kq := hide (ho.row b6.size)
  have Ka' := hide ((unhide Ka).below ho.2)
  clear Ka
  have Ka := Ka'
  clear Ka'
  have Kb' := hide ((unhide Kb).below ho.2)
  clear Kb
  have Kb := Kb'
  clear Kb'
  have Kc' := hide ((unhide Kc).below ho.2)
  clear Kc
  have Kc := Kc'
  clear Kc'
  have Kd' := hide ((unhide Kd).below ho.2)
  clear Kd
  have Kd := Kd'
  clear Kd'
  have Kp' := hide ((unhide Kp).below ho.2)
  clear Kp
  have Kp := Kp'
  clear Kp'
  clear ho b6
  go_wp2_with fail
  obtain ⟨-, x1, x2, e1, r1⟩ := own_rd (unhide Ka) (unhide PB)
  obtain ⟨-, y1, y2, e2, r2⟩ := own_rd (unhide Kp) (unhide PB)
  simp only [Value.slice.injEq] at e1 e2
  obtain ⟨rfl, -, rfl⟩ := e1
  obtain ⟨rfl, -, rfl⟩ := e2
  refine (same_ok _ _ (putF v).1 _ _ W7 r1 r2 (by unfold maxLen; omega)).mono ?_
  rintro e w' ⟨rfl, r, rfl⟩
  have b8 := bel_drewN b7 r
  have Ka' : Hid (Row w.heap.size (W7.drewN r) _ (putF v).1) := Ka
  clear Ka
  have Ka := Ka'
  clear Ka'
  have Kb' : Hid (Row w.heap.size (W7.drewN r) _ (putF v).1) := Kb
  clear Kb
  have Kb := Kb'
  clear Kb'
  have Kc' : Hid (Row w.heap.size (W7.drewN r) _ (putAsF v n).1) := Kc
  clear Kc
  have Kc := Kc'
  clear Kc'
  have Kd' : Hid (Row w.heap.size (W7.drewN r) _ (putAsF v n).1) := Kd
  clear Kd
  have Kd := Kd'
  clear Kd'
  have Kp' : Hid (Row w.heap.size (W7.drewN r) _ (putF v).1) := Kp
  clear Kp
  have Kp := Kp'
  clear Kp'
  have Kq' : Hid (Row w.heap.size (W7.drewN r) _ (putAsF v n).1) := Kq
  clear Kq
  have Kq := Kq'
  clear Kq'
  clear b7 r1 r2
  generalize W7.drewN r = W8 at b8 Ka Kb Kc Kd Kp Kq ⊢
  go_wp2_with fail
  obtain ⟨-, x1, x2, e1, r1⟩ := own_rd (unhide Kb) (unhide PB)
  obtain ⟨-, y1, y2, e2, r2⟩ := own_rd (unhide Kp) (unhide PB)
  simp only [Value.slice.injEq] at e1 e2
  obtain ⟨rfl, -, rfl⟩ := e1
  obtain ⟨rfl, -, rfl⟩ := e2
  refine (same_ok _ _ (putF v).1 _ _ W8 r1 r2 (by unfold maxLen; omega)).mono ?_
  rintro e w' ⟨rfl, r, rfl⟩
  have b9 := bel_drewN b8 r
  have Ka' : Hid (Row w.heap.size (W8.drewN r) _ (putF v).1) := Ka
  clear Ka
  have Ka := Ka'
  clear Ka'
  have Kb' : Hid (Row w.heap.size (W8.drewN r) _ (putF v).1) := Kb
  clear Kb
  have Kb := Kb'
  clear Kb'
  have Kc' : Hid (Row w.heap.size (W8.drewN r) _ (putAsF v n).1) := Kc
  clear Kc
  have Kc := Kc'
  clear Kc'
  have Kd' : Hid (Row w.heap.size (W8.drewN r) _ (putAsF v n).1) := Kd
  clear Kd
  have Kd := Kd'
  clear Kd'
  have Kp' : Hid (Row w.heap.size (W8.drewN r) _ (putF v).1) := Kp
  clear Kp
  have Kp := Kp'
  clear Kp'
  have Kq' : Hid (Row w.heap.size (W8.drewN r) _ (putAsF v n).1) := Kq
  clear Kq
  have Kq := Kq'
  clear Kq'
  clear b8 r1 r2
  generalize W8.drewN r = W9 at b9 Ka Kb Kc Kd Kp Kq ⊢
  go_wp2_with fail
  obtain ⟨-, x1, x2, e1, r1⟩ := own_rd (unhide Kc) (unhide QB)
  obtain ⟨-, y1, y2, e2, r2⟩ := own_rd (unhide Kq) (unhide QB)
  simp only [Value.slice.injEq] at e1 e2
  obtain ⟨rfl, -, rfl⟩ := e1
  obtain ⟨rfl, -, rfl⟩ := e2
  refine (same_ok _ _ (putAsF v n).1 _ _ W9 r1 r2 (by unfold maxLen; omega)).mono ?_
  rintro e w' ⟨rfl, r, rfl⟩
  have b10 := bel_drewN b9 r
  have Ka' : Hid (Row w.heap.size (W9.drewN r) _ (putF v).1) := Ka
  clear Ka
  have Ka := Ka'
  clear Ka'
  have Kb' : Hid (Row w.heap.size (W9.drewN r) _ (putF v).1) := Kb
  clear Kb
  have Kb := Kb'
  clear Kb'
  have Kc' : Hid (Row w.heap.size (W9.drewN r) _ (putAsF v n).1) := Kc
  clear Kc
  have Kc := Kc'
  clear Kc'
  have Kd' : Hid (Row w.heap.size (W9.drewN r) _ (putAsF v n).1) := Kd
  clear Kd
  have Kd := Kd'
  clear Kd'
  have Kp' : Hid (Row w.heap.size (W9.drewN r) _ (putF v).1) := Kp
  clear Kp
  have Kp := Kp'
  clear Kp'
  have Kq' : Hid (Row w.heap.size (W9.drewN r) _ (putAsF v n).1) := Kq
  clear Kq
  have Kq := Kq'
  clear Kq'
  clear b9 r1 r2
  generalize W9.drewN r = W10 at b10 Ka Kb Kc Kd Kp Kq ⊢
  go_wp2_with fail
  obtain ⟨-, x1, x2, e1, r1⟩ := own_rd (unhide Kd) (unhide QB)
  obtain ⟨-, y1, y2, e2, r2⟩ := own_rd (unhide Kq) (unhide QB)
  simp only [Value.slice.injEq] at e1 e2
  obtain ⟨rfl, -, rfl⟩ := e1
  obtain ⟨rfl, -, rfl⟩ := e2
  refine (same_ok _ _ (putAsF v n).1 _ _ W10 r1 r2 (by unfold maxLen; omega)).mono ?_
  rintro e w' ⟨rfl, r, rfl⟩
  have b11 := bel_drewN b10 r
  have Ka' : Hid (Row w.heap.size (W10.drewN r) _ (putF v).1) := Ka
  clear Ka
  have Ka := Ka'
  clear Ka'
  have Kb' : Hid (Row w.heap.size (W10.drewN r) _ (putF v).1) := Kb
  clear Kb
  have Kb := Kb'
  clear Kb'
  have Kc' : Hid (Row w.heap.size (W10.drewN r) _ (putAsF v n).1) := Kc
  clear Kc
  have Kc := Kc'
  clear Kc'
  have Kd' : Hid (Row w.heap.size (W10.drewN r) _ (putAsF v n).1) := Kd
  clear Kd
  have Kd := Kd'
  clear Kd'
  have Kp' : Hid (Row w.heap.size (W10.drewN r) _ (putF v).1) := Kp
  clear Kp
  have Kp := Kp'
  clear Kp'
  have Kq' : Hid (Row w.heap.size (W10.drewN r) _ (putAsF v n).1) := Kq
  clear Kq
  have Kq := Kq'
  clear Kq'
  clear b10 r1 r2
  generalize W10.drewN r = W11 at b11 Ka Kb Kc Kd Kp Kq ⊢
  go_wp2_with fail
  refine (rsize_any v _ v0 v1).mono ?_
  rintro e w' ⟨rfl, rfl⟩
  have bz := b11.alloc b11.size szs
  have Ka' := hide ((unhide Ka).below ((Below.refl _ _).alloc (Nat.le_refl _) szs))
  clear Ka
  have Ka := Ka'
  clear Ka'
  have Kb' := hide ((unhide Kb).below ((Below.refl _ _).alloc (Nat.le_refl _) szs))
  clear Kb
  have Kb := Kb'
  clear Kb'
  have Kc' := hide ((unhide Kc).below ((Below.refl _ _).alloc (Nat.le_refl _) szs))
  clear Kc
  have Kc := Kc'
  clear Kc'
  have Kd' := hide ((unhide Kd).below ((Below.refl _ _).alloc (Nat.le_refl _) szs))
  clear Kd
  have Kd := Kd'
  clear Kd'
  clear b11 Kp Kq
  generalize W11.alloc szs = WZ at bz Ka Kb Kc Kd ⊢
  go_wp2_with (go_at_call 17; refine (code_any _ _).mono ?_; rintro e w' ⟨rfl, hw⟩; subst w')
  refine (apart_list [.slice aa (putF v).1.length ac, .slice ba (putF v).1.length bc, .slice ca (putAsF v n).1.length cc, .slice da (putAsF v n).1.length dc] w _ w.heap.size WZ.heap.size 4 bz.size (heap_alloc_new WZ _) (by
    intro v hv
    simp only [List.mem_cons, List.not_mem_nil, or_false] at hv
    rcases hv with rfl | rfl | rfl | rfl
    · exact ⟨_, _, (unhide Ka).alloc _, by omega⟩
    · exact ⟨_, _, (unhide Kb).alloc _, by omega⟩
    · exact ⟨_, _, (unhide Kc).alloc _, by omega⟩
    · exact ⟨_, _, (unhide Kd).alloc _, by omega⟩) (by
    have s1 := unhide Sab; have s2 := unhide Sac; have s3 := unhide Sad; have s4 := unhide Sbc; have s5 := unhide Sbd; have s6 := unhide Scd
    simp only [List.pairwise_cons, List.mem_cons, List.not_mem_nil, or_false]
    refine ⟨?_, ?_, ?_, ?_, List.Pairwise.nil⟩
    · rintro u (rfl | rfl | rfl); exact s1; exact s2; exact s3
    · rintro u (rfl | rfl); exact s4; exact s5
    · rintro u rfl; exact s6
    · intro u hu; exact hu.elim) (by simp) (bz.alloc bz.size _)).mono ?_
  rintro e w4 ⟨rfl, b99⟩
  clear bz
  go_wp2
  go_ret
  exact ⟨rfl, b99⟩
end Go.Proofs.Ytommpeibdohdjaa
