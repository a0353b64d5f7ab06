/- WheelRearms. -/
import Derived.Test.YtpkkgmcfificiaaDoorH4
namespace Go.Proofs.YtpkkgmcfificiaaDoor
open Go.RowKit Go.Shelf Go.Maps
set_option linter.unusedVariables false
set_option maxRecDepth 100000
set_option maxHeartbeats 1000000

theorem del_ins (x : Tm) (T : List Tm) (i : Int) (hx : (x.1 : Int) = i) : delT (insT x T) i = delT T i := by
  induction T with
  | nil => unfold insT delT; simp [hx]
  | cons m t ih =>
    unfold insT
    by_cases c : ltT x m
    · rw [if_pos c]
      unfold delT
      rw [List.filter_cons, if_neg (by simp [hx])]
    · rw [if_neg c]
      unfold delT at ih ⊢
      rw [List.filter_cons, List.filter_cons, ih]
theorem del_del (T : List Tm) (i : Int) : delT (delT T i) i = delT T i := by
  unfold delT
  rw [List.filter_filter]
  apply List.filter_congr
  intro p _
  simp
theorem arm_arm (T : List Tm) (i f s : Int) (hs : armOk i s) : armT (armT T i f) i s = armT T i s := by
  unfold armT
  rw [if_pos hs, if_pos hs]
  by_cases hf : armOk i f
  · rw [if_pos hf, del_ins _ _ _ (by unfold armOk at hf; simp only; omega), del_del]
  · rw [if_neg hf]
theorem arm_any (T : List Tm) (i s : Int) (hs : armOk i s) : (armT T i s).any (fun p => decide ((p.1 : Int) = i)) = true := by
  unfold armT
  rw [if_pos hs]
  have : ∀ (x : Tm) (U : List Tm), x ∈ insT x U := by
    intro x U
    induction U with
    | nil => simp [insT]
    | cons m t ih =>
      unfold insT
      split
      · simp
      · simp [ih]
  rw [List.any_eq_true]
  exact ⟨_, this _ _, by unfold armOk at hs; simp; omega⟩
theorem arm_del (T : List Tm) (i s : Int) (hs : armOk i s) : delT (armT T i s) i = delT T i := by
  unfold armT
  rw [if_pos hs, del_ins _ _ _ (by unfold armOk at hs; simp only; omega), del_del]

/-- From the two next ones on. -/
def REnd (w0 w : World) (W V : Nat) : Prop := ∃ S1 S2 c T, DQ w0 w S1 W c T S2 V c T

theorem rearm_chain {w0 w5 : World} {S1 S2 : Nat → Prop} {W V c : Nat} {T : List Tm} (h : DQ w0 w5 S1 W c T S2 V c T) (h0 : 0 < w0.heap.size) (X i s : Int) (hw : wfI i) (hs : armOk i s) :
    Calls Tryd.prog 13 #[ptr W, .int .i64 X] w5 fun e w6 => ∃ a1 m1 c1, e = .returned (.slice a1 m1 c1) ∧ Hid (Calls Tryd.prog 13 #[ptr V, .int .i64 X] w6 fun e w7 => ∃ a2 m2 c2, e = .returned (.slice a2 m2 c2) ∧
      Hid (Calls Tryd.prog 15 #[.slice a1 m1 c1, .slice a2 m2 c2] w7 fun e w8 => e = .returned (.bool true) ∧ Hid (Calls Tryd.prog 21 #[ptr W, .int .i64 i, .int .i64 s] w8 fun e w9 => e = .returned (.int .i64 0) ∧
        Hid (Calls Tryd.prog 22 #[ptr W, .int .i64 i] w9 fun e w10 => e = .returned (.int .i64 0) ∧ Hid (Calls Tryd.prog 22 #[ptr V, .int .i64 i] w10 fun e w11 => ∃ r : Int, e = .returned (.int .i64 r) ∧ (r = 0 ∨ r = 4) ∧ REnd w0 w11 W V))))) := by
  refine (dq_adv h h0 X).mono ?_
  rintro e w6 ⟨a1, m1, c1, rfl, r1, d6, k6⟩
  refine ⟨a1, m1, c1, rfl, ?_⟩
  refine (dq_adv d6.swap h0 X).mono ?_
  rintro e w7 ⟨a2, m2, c2, rfl, r2, d7, k7⟩
  refine ⟨a2, m2, c2, rfl, ?_⟩
  have s2lt : ∀ g, S2 g → g < w5.heap.size := fun g hg => (h.b.lt g hg).2
  have r1' : w7.ownsRow w5.heap.size 3 1 (.slice a1 m1 c1) m1 (intsV (idI (dueT T (adv c X)))) := row_kpt r1 (fun g g1 g2 _ => k7.block g g2 (fun hs => by have := s2lt g hs; omega))
  obtain ⟨p1, p2, p3⟩ := rd_caps r1'
  obtain ⟨t1, t2, t3⟩ := rd_caps r2
  refine (same_any a1 a2 _ _ _ _ c1 c2 p2 t2 w7 p1 t1 p3 t3).mono ?_
  rintro e w8 ⟨rfl, g8⟩
  refine ⟨by rw [decide_eq_true rfl], ?_⟩
  have d8 := (d7.grown g8).swap
  refine (dq_arm d8 h0 i s).mono ?_
  rintro e w9 ⟨rfl, S1', d9⟩
  refine ⟨by rw [if_pos hs], ?_⟩
  refine (dq_cancel d9 h0 i hw).mono ?_
  rintro e w10 ⟨rfl, S1'', d10⟩
  refine ⟨by rw [arm_any _ _ _ hs]; rfl, ?_⟩
  rw [arm_del _ _ _ hs] at d10
  refine (dq_cancel d10.swap h0 i hw).mono ?_
  rintro e w11 ⟨rfl, S2', d11⟩
  refine ⟨_, rfl, ?_, _, _, _, _, d11.swap⟩
  split
  · exact .inl rfl
  · exact .inr rfl

theorem rearms_walk (now : Int) (a0 : Option Addr) (len cap : Nat) (ol : List OpD) (i f s t : Int) (w : World) (h : IsOps w a0 len cap ol) (ht : Tb w) (hw : wfI i) :
    Calls Tryd.prog 6 #[.int .i64 now, .slice a0 len cap, .int .i64 i, .int .i64 f, .int .i64 s, .int .i64 t] w fun e w' => e = .returned (.bool true) ∧ Below w.heap.size w w' := by
  have h0 := ht.lt
  have sh := shown_any w ht
  have HO := hide h; have HT := hide ht
  have hl := h.hlen
  clear h ht
  go_enter Tryd.func6, Tryd.ntmps6
  go_wp2_with fail
  refine sh.mono ?_
  rintro e w1 ⟨rfl, g1⟩
  have l1 := laid_any w.heap.size now a0 len cap ol w1 ((unhide HO).bel (grown_bel g1) (Nat.le_refl _)) ((unhide HT).grown g1) g1.size
  have G1 := hide g1
  clear sh g1
  go_wp2_with fail
  refine l1.mono ?_
  rintro e w2 ⟨W, rfl, li1⟩
  have bel2 : Below w.heap.size w w2 := (grown_bel (unhide G1)).trans (li1.bel.mono (unhide G1).size)
  have l2 := laid_any w.heap.size now a0 len cap ol w2 ((unhide HO).bel bel2 (Nat.le_refl _)) ((unhide HT).bel bel2 h0) bel2.size
  have LI1 := hide li1
  clear l1 li1 bel2
  go_wp2_with fail
  refine l2.mono ?_
  rintro e w3 ⟨V, rfl, li2⟩
  obtain ⟨S1, S2, dq⟩ := two_laid now a0 len cap ol w w1 w2 w3 h0 ((unhide HT).grown (unhide G1)) (unhide G1) W V hl (unhide LI1) li2
  clear l2 li2 LI1 G1
  generalize (laidF now ol).1 = c at *
  generalize (laidF now ol).2 = T at *
  have A1 := dq_arm dq h0 i f
  clear dq
  have NX : Hid (∀ S X, DQ w X S W c (armT T i f) S2 V c T → Calls Tryd.prog 21 #[ptr W, .int .i64 i, .int .i64 s] X fun e Y => e = .returned (.int .i64 (if armOk i s then 0 else 1)) ∧ Hid (Calls Tryd.prog 21 #[ptr V, .int .i64 i, .int .i64 s] Y fun e Z => e = .returned (.int .i64 (if armOk i s then 0 else 1)) ∧ ∃ S1 S2, DQ w Z S1 W c (armT (armT T i f) i s) S2 V c (armT T i s))) := by
    intro S X d
    refine (dq_arm d h0 i s).mono ?_
    rintro e Y ⟨rfl, S', d'⟩
    refine ⟨rfl, ?_⟩
    refine (dq_arm d'.swap h0 i s).mono ?_
    rintro e Z ⟨rfl, S'', d''⟩
    exact ⟨rfl, _, _, d''.swap⟩
  have HW := hide hw
  clear hw
  rcases (show i < 0 ∨ 4096 ≤ i ∨ (0 ≤ i ∧ i < 4096) by omega) with hi | hi | ⟨hi, hi'⟩
  · have e1 : (if armOk i f then (0 : Int) else 1) = 1 := if_neg (by unfold armOk; omega)
    have e2 : (if armOk i s then (0 : Int) else 1) = 1 := if_neg (by unfold armOk; omega)
    rw [e1] at A1
    rw [e2] at NX
    clear e1 e2
    go_wp2_with fail
    refine A1.mono ?_
    rintro e w4 ⟨rfl, S1', d4⟩
    have A2 := unhide NX _ _ d4
    clear A1 d4 NX
    go_wp2_with fail
    refine A2.mono ?_
    rintro e w5 ⟨rfl, A3⟩
    clear A2
    go_wp2_with fail
    refine (unhide A3).mono ?_
    rintro e w6 ⟨rfl, T1, T2, d6⟩
    clear A3
    have E := hide d6.bel
    clear d6
    go_wp2_with fail
    go_ret
    exact ⟨rfl, unhide E⟩
  · have e1 : (if armOk i f then (0 : Int) else 1) = 1 := if_neg (by unfold armOk; omega)
    have e2 : (if armOk i s then (0 : Int) else 1) = 1 := if_neg (by unfold armOk; omega)
    rw [e1] at A1
    rw [e2] at NX
    clear e1 e2
    go_wp2_with fail
    refine A1.mono ?_
    rintro e w4 ⟨rfl, S1', d4⟩
    have A2 := unhide NX _ _ d4
    clear A1 d4 NX
    go_wp2_with fail
    refine A2.mono ?_
    rintro e w5 ⟨rfl, A3⟩
    clear A2
    go_wp2_with fail
    refine (unhide A3).mono ?_
    rintro e w6 ⟨rfl, T1, T2, d6⟩
    clear A3
    have E := hide d6.bel
    clear d6
    go_wp2_with fail
    go_ret
    exact ⟨rfl, unhide E⟩
  · rcases (show s < 0 ∨ 4611686018427387904 ≤ s ∨ (0 ≤ s ∧ s < 4611686018427387904) by omega) with hs | hs | ⟨hs, hs'⟩
    · rcases (show f < 0 ∨ 4611686018427387904 ≤ f ∨ (0 ≤ f ∧ f < 4611686018427387904) by omega) with hf | hf | ⟨hf, hf'⟩
      · have e1 : (if armOk i f then (0 : Int) else 1) = 1 := if_neg (by unfold armOk; omega)
        have e2 : (if armOk i s then (0 : Int) else 1) = 1 := if_neg (by unfold armOk; omega)
        rw [e1] at A1
        rw [e2] at NX
        clear e1 e2
        go_wp2_with fail
        refine A1.mono ?_
        rintro e w4 ⟨rfl, S1', d4⟩
        have A2 := unhide NX _ _ d4
        clear A1 d4 NX
        go_wp2_with fail
        refine A2.mono ?_
        rintro e w5 ⟨rfl, A3⟩
        clear A2
        go_wp2_with fail
        refine (unhide A3).mono ?_
        rintro e w6 ⟨rfl, T1, T2, d6⟩
        clear A3
        have E := hide d6.bel
        clear d6
        go_wp2_with fail
        go_ret
        exact ⟨rfl, unhide E⟩
      · have qf : decide (f < 4611686018427387904) = false := decide_eq_false (by omega)
        have e1 : (if armOk i f then (0 : Int) else 1) = 1 := if_neg (by unfold armOk; omega)
        have e2 : (if armOk i s then (0 : Int) else 1) = 1 := if_neg (by unfold armOk; omega)
        rw [e1] at A1
        rw [e2] at NX
        clear e1 e2
        go_wp2_with fail
        refine A1.mono ?_
        rintro e w4 ⟨rfl, S1', d4⟩
        have A2 := unhide NX _ _ d4
        clear A1 d4 NX
        go_wp2_with fail
        refine A2.mono ?_
        rintro e w5 ⟨rfl, A3⟩
        clear A2
        go_wp2_with fail
        refine (unhide A3).mono ?_
        rintro e w6 ⟨rfl, T1, T2, d6⟩
        clear A3
        have E := hide d6.bel
        clear d6
        go_wp2_with fail
        go_ret
        exact ⟨rfl, unhide E⟩
      · have qf : decide (f < 4611686018427387904) = true := decide_eq_true (by omega)
        have e1 : (if armOk i f then (0 : Int) else 1) = 0 := if_pos (by unfold armOk; omega)
        have e2 : (if armOk i s then (0 : Int) else 1) = 1 := if_neg (by unfold armOk; omega)
        rw [e1] at A1
        rw [e2] at NX
        clear e1 e2
        go_wp2_with fail
        refine A1.mono ?_
        rintro e w4 ⟨rfl, S1', d4⟩
        have A2 := unhide NX _ _ d4
        clear A1 d4 NX
        go_wp2_with fail
        refine A2.mono ?_
        rintro e w5 ⟨rfl, A3⟩
        clear A2
        go_wp2_with fail
        refine (unhide A3).mono ?_
        rintro e w6 ⟨rfl, T1, T2, d6⟩
        clear A3
        have E := hide d6.bel
        clear d6
        go_wp2_with fail
        go_ret
        exact ⟨rfl, unhide E⟩
    · rcases (show f < 0 ∨ 4611686018427387904 ≤ f ∨ (0 ≤ f ∧ f < 4611686018427387904) by omega) with hf | hf | ⟨hf, hf'⟩
      · have qs : decide (s < 4611686018427387904) = false := decide_eq_false (by omega)
        have e1 : (if armOk i f then (0 : Int) else 1) = 1 := if_neg (by unfold armOk; omega)
        have e2 : (if armOk i s then (0 : Int) else 1) = 1 := if_neg (by unfold armOk; omega)
        rw [e1] at A1
        rw [e2] at NX
        clear e1 e2
        go_wp2_with fail
        refine A1.mono ?_
        rintro e w4 ⟨rfl, S1', d4⟩
        have A2 := unhide NX _ _ d4
        clear A1 d4 NX
        go_wp2_with fail
        refine A2.mono ?_
        rintro e w5 ⟨rfl, A3⟩
        clear A2
        go_wp2_with fail
        refine (unhide A3).mono ?_
        rintro e w6 ⟨rfl, T1, T2, d6⟩
        clear A3
        have E := hide d6.bel
        clear d6
        go_wp2_with fail
        go_ret
        exact ⟨rfl, unhide E⟩
      · have qs : decide (s < 4611686018427387904) = false := decide_eq_false (by omega)
        have qf : decide (f < 4611686018427387904) = false := decide_eq_false (by omega)
        have e1 : (if armOk i f then (0 : Int) else 1) = 1 := if_neg (by unfold armOk; omega)
        have e2 : (if armOk i s then (0 : Int) else 1) = 1 := if_neg (by unfold armOk; omega)
        rw [e1] at A1
        rw [e2] at NX
        clear e1 e2
        go_wp2_with fail
        refine A1.mono ?_
        rintro e w4 ⟨rfl, S1', d4⟩
        have A2 := unhide NX _ _ d4
        clear A1 d4 NX
        go_wp2_with fail
        refine A2.mono ?_
        rintro e w5 ⟨rfl, A3⟩
        clear A2
        go_wp2_with fail
        refine (unhide A3).mono ?_
        rintro e w6 ⟨rfl, T1, T2, d6⟩
        clear A3
        have E := hide d6.bel
        clear d6
        go_wp2_with fail
        go_ret
        exact ⟨rfl, unhide E⟩
      · have qs : decide (s < 4611686018427387904) = false := decide_eq_false (by omega)
        have qf : decide (f < 4611686018427387904) = true := decide_eq_true (by omega)
        have e1 : (if armOk i f then (0 : Int) else 1) = 0 := if_pos (by unfold armOk; omega)
        have e2 : (if armOk i s then (0 : Int) else 1) = 1 := if_neg (by unfold armOk; omega)
        rw [e1] at A1
        rw [e2] at NX
        clear e1 e2
        go_wp2_with fail
        refine A1.mono ?_
        rintro e w4 ⟨rfl, S1', d4⟩
        have A2 := unhide NX _ _ d4
        clear A1 d4 NX
        go_wp2_with fail
        refine A2.mono ?_
        rintro e w5 ⟨rfl, A3⟩
        clear A2
        go_wp2_with fail
        refine (unhide A3).mono ?_
        rintro e w6 ⟨rfl, T1, T2, d6⟩
        clear A3
        have E := hide d6.bel
        clear d6
        go_wp2_with fail
        go_ret
        exact ⟨rfl, unhide E⟩
    · rcases (show f < 0 ∨ 4611686018427387904 ≤ f ∨ (0 ≤ f ∧ f < 4611686018427387904) by omega) with hf | hf | ⟨hf, hf'⟩
      · have qs : decide (s < 4611686018427387904) = true := decide_eq_true (by omega)
        have e1 : (if armOk i f then (0 : Int) else 1) = 1 := if_neg (by unfold armOk; omega)
        have e2 : (if armOk i s then (0 : Int) else 1) = 0 := if_pos (by unfold armOk; omega)
        rw [e1] at A1
        rw [e2] at NX
        clear e1 e2
        go_wp2_with fail
        refine A1.mono ?_
        rintro e w4 ⟨rfl, S1', d4⟩
        have A2 := unhide NX _ _ d4
        clear A1 d4 NX
        go_wp2_with fail
        refine A2.mono ?_
        rintro e w5 ⟨rfl, A3⟩
        clear A2
        go_wp2_with fail
        refine (unhide A3).mono ?_
        rintro e w6 ⟨rfl, T1, T2, d6⟩
        clear A3
        rw [arm_arm T i f s (by unfold armOk; omega)] at d6
        generalize armT T i s = U at *
        have n1 := dq_next d6
        clear d6
        go_wp2_with fail
        refine n1.mono ?_
        rintro e w7 ⟨rfl, d7, -⟩
        have n2 := dq_next d7.swap
        clear n1 d7
        go_wp2_with fail
        refine n2.mono ?_
        rintro e w8 ⟨rfl, d8, -⟩
        have CC := rearm_chain d8.swap h0 t i s (unhide HW) (by unfold armOk; omega)
        have nn : ((nextT U : Int) == (nextT U : Int)) = true := by simp
        generalize nextT U = M at *
        clear n2 d8
        go_wp2_with fail
        refine CC.mono ?_
        clear CC
        rintro e w9 ⟨a1, m1, c1, rfl, C2⟩
        go_wp2_with fail
        refine (unhide C2).mono ?_
        clear C2
        rintro e w10 ⟨a2, m2, c2, rfl, C3⟩
        go_wp2_with fail
        refine (unhide C3).mono ?_
        clear C3
        rintro e w11 ⟨rfl, C4⟩
        go_wp2_with fail
        refine (unhide C4).mono ?_
        clear C4
        rintro e w12 ⟨rfl, C5⟩
        go_wp2_with fail
        refine (unhide C5).mono ?_
        clear C5
        rintro e w13 ⟨rfl, C6⟩
        go_wp2_with fail
        refine (unhide C6).mono ?_
        clear C6
        rintro e w14 ⟨r, rfl, hr, X1, X2, cX, TX, dX⟩
        have n3 := wl_len _ w14 X1 W cX TX dX.a
        have n4 := wl_len _ w14 X2 V cX TX dX.b
        have E := hide dX.bel
        have tt : ((TX.length : Int) == (TX.length : Int)) = true := by simp
        clear dX
        generalize TX.length = N at *
        go_wp2_with fail
        refine n3.mono ?_
        rintro e X ⟨rfl, hX⟩
        replace hX := hX.symm
        subst hX
        go_wp2_with fail
        refine n4.mono ?_
        rintro e X ⟨rfl, hX⟩
        replace hX := hX.symm
        subst hX
        rcases hr with rfl | rfl
        · go_wp2_with fail
          go_ret
          exact ⟨rfl, unhide E⟩
        · go_wp2_with fail
          go_ret
          exact ⟨rfl, unhide E⟩
      · have qf : decide (f < 4611686018427387904) = false := decide_eq_false (by omega)
        have qs : decide (s < 4611686018427387904) = true := decide_eq_true (by omega)
        have e1 : (if armOk i f then (0 : Int) else 1) = 1 := if_neg (by unfold armOk; omega)
        have e2 : (if armOk i s then (0 : Int) else 1) = 0 := if_pos (by unfold armOk; omega)
        rw [e1] at A1
        rw [e2] at NX
        clear e1 e2
        go_wp2_with fail
        refine A1.mono ?_
        rintro e w4 ⟨rfl, S1', d4⟩
        have A2 := unhide NX _ _ d4
        clear A1 d4 NX
        go_wp2_with fail
        refine A2.mono ?_
        rintro e w5 ⟨rfl, A3⟩
        clear A2
        go_wp2_with fail
        refine (unhide A3).mono ?_
        rintro e w6 ⟨rfl, T1, T2, d6⟩
        clear A3
        rw [arm_arm T i f s (by unfold armOk; omega)] at d6
        generalize armT T i s = U at *
        have n1 := dq_next d6
        clear d6
        go_wp2_with fail
        refine n1.mono ?_
        rintro e w7 ⟨rfl, d7, -⟩
        have n2 := dq_next d7.swap
        clear n1 d7
        go_wp2_with fail
        refine n2.mono ?_
        rintro e w8 ⟨rfl, d8, -⟩
        have CC := rearm_chain d8.swap h0 t i s (unhide HW) (by unfold armOk; omega)
        have nn : ((nextT U : Int) == (nextT U : Int)) = true := by simp
        generalize nextT U = M at *
        clear n2 d8
        go_wp2_with fail
        refine CC.mono ?_
        clear CC
        rintro e w9 ⟨a1, m1, c1, rfl, C2⟩
        go_wp2_with fail
        refine (unhide C2).mono ?_
        clear C2
        rintro e w10 ⟨a2, m2, c2, rfl, C3⟩
        go_wp2_with fail
        refine (unhide C3).mono ?_
        clear C3
        rintro e w11 ⟨rfl, C4⟩
        go_wp2_with fail
        refine (unhide C4).mono ?_
        clear C4
        rintro e w12 ⟨rfl, C5⟩
        go_wp2_with fail
        refine (unhide C5).mono ?_
        clear C5
        rintro e w13 ⟨rfl, C6⟩
        go_wp2_with fail
        refine (unhide C6).mono ?_
        clear C6
        rintro e w14 ⟨r, rfl, hr, X1, X2, cX, TX, dX⟩
        have n3 := wl_len _ w14 X1 W cX TX dX.a
        have n4 := wl_len _ w14 X2 V cX TX dX.b
        have E := hide dX.bel
        have tt : ((TX.length : Int) == (TX.length : Int)) = true := by simp
        clear dX
        generalize TX.length = N at *
        go_wp2_with fail
        refine n3.mono ?_
        rintro e X ⟨rfl, hX⟩
        replace hX := hX.symm
        subst hX
        go_wp2_with fail
        refine n4.mono ?_
        rintro e X ⟨rfl, hX⟩
        replace hX := hX.symm
        subst hX
        rcases hr with rfl | rfl
        · go_wp2_with fail
          go_ret
          exact ⟨rfl, unhide E⟩
        · go_wp2_with fail
          go_ret
          exact ⟨rfl, unhide E⟩
      · have qs : decide (s < 4611686018427387904) = true := decide_eq_true (by omega)
        have qf : decide (f < 4611686018427387904) = true := decide_eq_true (by omega)
        have e1 : (if armOk i f then (0 : Int) else 1) = 0 := if_pos (by unfold armOk; omega)
        have e2 : (if armOk i s then (0 : Int) else 1) = 0 := if_pos (by unfold armOk; omega)
        rw [e1] at A1
        rw [e2] at NX
        clear e1 e2
        go_wp2_with fail
        refine A1.mono ?_
        rintro e w4 ⟨rfl, S1', d4⟩
        have A2 := unhide NX _ _ d4
        clear A1 d4 NX
        go_wp2_with fail
        refine A2.mono ?_
        rintro e w5 ⟨rfl, A3⟩
        clear A2
        go_wp2_with fail
        refine (unhide A3).mono ?_
        rintro e w6 ⟨rfl, T1, T2, d6⟩
        clear A3
        rw [arm_arm T i f s (by unfold armOk; omega)] at d6
        generalize armT T i s = U at *
        have n1 := dq_next d6
        clear d6
        go_wp2_with fail
        refine n1.mono ?_
        rintro e w7 ⟨rfl, d7, -⟩
        have n2 := dq_next d7.swap
        clear n1 d7
        go_wp2_with fail
        refine n2.mono ?_
        rintro e w8 ⟨rfl, d8, -⟩
        have CC := rearm_chain d8.swap h0 t i s (unhide HW) (by unfold armOk; omega)
        have nn : ((nextT U : Int) == (nextT U : Int)) = true := by simp
        generalize nextT U = M at *
        clear n2 d8
        go_wp2_with fail
        refine CC.mono ?_
        clear CC
        rintro e w9 ⟨a1, m1, c1, rfl, C2⟩
        go_wp2_with fail
        refine (unhide C2).mono ?_
        clear C2
        rintro e w10 ⟨a2, m2, c2, rfl, C3⟩
        go_wp2_with fail
        refine (unhide C3).mono ?_
        clear C3
        rintro e w11 ⟨rfl, C4⟩
        go_wp2_with fail
        refine (unhide C4).mono ?_
        clear C4
        rintro e w12 ⟨rfl, C5⟩
        go_wp2_with fail
        refine (unhide C5).mono ?_
        clear C5
        rintro e w13 ⟨rfl, C6⟩
        go_wp2_with fail
        refine (unhide C6).mono ?_
        clear C6
        rintro e w14 ⟨r, rfl, hr, X1, X2, cX, TX, dX⟩
        have n3 := wl_len _ w14 X1 W cX TX dX.a
        have n4 := wl_len _ w14 X2 V cX TX dX.b
        have E := hide dX.bel
        have tt : ((TX.length : Int) == (TX.length : Int)) = true := by simp
        clear dX
        generalize TX.length = N at *
        go_wp2_with fail
        refine n3.mono ?_
        rintro e X ⟨rfl, hX⟩
        replace hX := hX.symm
        subst hX
        go_wp2_with fail
        refine n4.mono ?_
        rintro e X ⟨rfl, hX⟩
        replace hX := hX.symm
        subst hX
        rcases hr with rfl | rfl
        · go_wp2_with fail
          go_ret
          exact ⟨rfl, unhide E⟩
        · go_wp2_with fail
          go_ret
          exact ⟨rfl, unhide E⟩
end Go.Proofs.YtpkkgmcfificiaaDoor
