/- New, Next. -/
import Derived.Test.YtdalekjpjnhboaaS5K
import Derived.Test.YtdalekjpjnhboaaS5U
namespace Go.Proofs.Ytdalekjpjnhboaa
open Go.RowKit
set_option linter.unusedVariables false
set_option maxHeartbeats 1000000
set_option maxRecDepth 100000

theorem results_tmp4 {fn : Func} {t u v x : Tmp} (h : fn.results = #[.tmp t, .tmp u, .tmp v, .tmp x]) (tmps : Array Value) (P : Program) (w : World) :
    (results fn tmps).run P w = .ok (.tuple #[tmps.getD t undef, tmps.getD u undef, tmps.getD v undef, tmps.getD x undef]) w := by
  simp [results, h]

theorem new_at (cap : Int) (w : World) (hc : 1 ≤ cap ∧ cap ≤ 65536) : Calls Try.prog 7 #[.int .i64 cap] w fun e W' => ∃ b ba bl, e = .returned (.tuple #[ptr b, .int .i64 0]) ∧ At w (fun _ => False) b ba bl nilS W' (new0 cap) := by
  have d1 : decide (cap < 1) = false := decide_eq_false (by omega)
  have d2 : decide (65536 < cap) = false := decide_eq_false (by omega)
  have n1 : ¬ cap < 1 := by omega
  have n2 : ¬ 65536 < cap := by omega
  have h1 := of_nil w
  go_enter Try.func7, Try.ntmps7
  go_wp2_with fail
  refine h1.mono ?_
  rintro e W1 ⟨ba, rfl, s1, q1, g1⟩
  have h2 := of_nil W1
  have F1 := hide (And.intro s1 (And.intro q1 g1))
  clear h1 s1 q1 g1
  go_wp2_with fail
  refine h2.mono ?_
  rintro e W2 ⟨bl, rfl, s2, q2, g2⟩
  have F2 := hide (And.intro s2 (And.intro q2 g2))
  clear h2 s2 q2 g2
  go_wp2_with fail
  go_ret2
  obtain ⟨s1, q1, g1⟩ := unhide F1
  obtain ⟨s2, q2, g2⟩ := unhide F2
  have g3 := grown_alloc W2 (.cells (sdc ba bl nilS (new0 cap)) 72)
  have hlt := setAt_lt s1
  refine ⟨W2.heap.size, ba, bl, rfl, Kp.grown (grown_trans (grown_trans g1 g2) g3) _, Blk.new _ _ _, ⟨nilS, nilS, (s1.keep g2).keep g3, s2.keep g3, fun g e => by simp [Value.ownBlock] at e, fun g e => by simp [Value.ownBlock] at e, fun g e => by simp [Value.ownBlock] at e⟩, .inl ⟨rfl, .inl rfl⟩, by omega, .inr (Nat.le_trans g1.size g2.size), .inr q1, .inr (Nat.le_trans g1.size q2), fun g e => by simp [Value.ownBlock] at e, fun x hx => by simp [new0] at hx⟩
theorem new_bad (cap : Int) (w : World) (hc : ¬ (1 ≤ cap ∧ cap ≤ 65536)) : Calls Try.prog 7 #[.int .i64 cap] w fun e W' => e = .returned (.tuple #[.pointer none, .int .i64 1]) ∧ W' = w := by
  by_cases h1 : cap < 1
  · have d1 : decide (cap < 1) = true := decide_eq_true h1
    go_enter Try.func7, Try.ntmps7
    go_wp2
    all_goals go_ret2
    all_goals exact ⟨rfl, rfl⟩
  · have d1 : decide (cap < 1) = false := decide_eq_false h1
    have h2 : 65536 < cap := by omega
    have d2 : decide (65536 < cap) = true := decide_eq_true h2
    go_enter Try.func7, Try.ntmps7
    go_wp2
    all_goals go_ret2
    all_goals exact ⟨rfl, rfl⟩

section
variable {w W : World} {M : Nat → Prop} {b ba bl : Nat} {vh : Value} {S : Sd}

theorem piece_at (h : At w M b ba bl vh W S) (hok : SdOk S) (f t : Int) (hs : S.stopped = false) (h1 : S.base ≤ f) (h2 : f ≤ t) (h3 : t ≤ wr S) (hbig : wr S ≤ 1152921504606846976) :
    Calls Try.prog 49 #[ptr b, .int .i64 f, .int .i64 t] W fun e W' => ∃ v, e = .returned v ∧ BytesV W' v (pieceT S.T f t) ∧ Fresh W v ∧ W.grownBy W' none := by
  by_cases hft : f = t
  · subst hft
    refine (piece_nil b f W).mono ?_
    rintro e W' ⟨rfl, rfl⟩
    have e0 : pieceT S.T f f = [] := by unfold pieceT; rw [Int.sub_self]; simp
    rw [e0]
    exact ⟨_, rfl, ⟨none, 0, rfl, ⟨fun x hx => (by cases hx), fun hne => absurd rfl hne⟩, by simp, by simp⟩, fun k e => (by cases e), grown_self _ _⟩
  · exact piece_ring h hok f t hs h1 (by omega) h3 hbig

/-- What Next answers and leaves. -/
def NextPost (w : World) (M : Nat → Prop) (b ba bl : Nat) (vh : Value) (W : World) (S : Sd) (most limit : Int) (e : Ending) (W' : World) : Prop :=
  ∃ v, e = .returned (.tuple #[.int .i64 (dueS S most limit).1, v, .bool ((dueS S most limit).2.2 && endB S (dueS S most limit).2.1), .bool (dueS S most limit).2.2]) ∧ At w M b ba bl vh W' (nextS S most limit) ∧ BytesV W' v (if (dueS S most limit).2.2 = true then pieceT S.T (dueS S most limit).1 (dueS S most limit).2.1 else []) ∧ Fresh w v ∧ ∃ n, (∀ g, v.ownBlock = some g → n ≤ g) ∧ At W' (fun k => (M k ∨ w.heap.size ≤ k) ∧ k < n) b ba bl vh W' (nextS S most limit)

theorem due_no {S : Sd} {most limit : Int} (h : (dueS S most limit).2.2 = false) : (dueS S most limit).1 = 0 := by
  unfold dueS stretch at *
  split at h
  · rename_i q; rw [if_pos q]
  · rename_i q
    rw [if_neg q]
    split at h
    · split at h
      · cases h
      · rename_i q2; rw [if_neg q2]
    · split at h
      · split at h
        · cases h
        · rename_i q3 q2; rw [if_pos q3, if_neg q2]
      · split at h
        · cases h
        · rename_i q3 q2; rw [if_neg q3, if_neg q2]

theorem next_no (h : At w M b ba bl vh W S) (hok : SdOk S) (hbig : wr S ≤ 1152921504606846976) (most limit : Int) (hl : -9223372036854775808 ≤ limit ∧ limit ≤ 9223372036854775807) (hd : (dueS S most limit).2.2 = false) :
    Calls Try.prog 21 #[ptr b, .int .i64 most, .int .i64 limit] W (NextPost w M b ba bl vh W S most limit) := by
  have hdu := due_at h hok hbig most limit hl
  have hz := due_no hd
  unfold NextPost nextS
  rw [hd] at hdu ⊢
  rw [hz] at hdu ⊢
  simp only [Bool.false_and, Bool.false_eq_true, if_false] at *
  have H := hide h
  clear h hok hd hz
  generalize (dueS S most limit).2.1 = tt at *
  go_enter Try.func21, Try.ntmps21
  go_wp2_with fail
  refine hdu.mono ?_
  rintro e W' ⟨rfl, hg⟩
  have G := hide hg
  clear hdu hg
  go_wp2_with fail
  try simp only [Exit.inBlock, Exit.then]
  refine bodyPost_ret (results_tmp4 rfl _ _ _) rfl ?_
  exact ⟨_, rfl, (unhide H).grown (unhide G), ⟨none, 0, rfl, ⟨fun x hx => (by cases hx), fun hne => absurd rfl hne⟩, by simp, by simp⟩, fun k e => (by cases e), W'.heap.size, fun k e => (by cases e), ((unhide H).grown (unhide G)).rebase (grown_self _ _)⟩

theorem next_yes (h : At w M b ba bl vh W S) (hok : SdOk S) (hbig : wr S ≤ 1152921504606846976) (most limit f t : Int) (hl : -9223372036854775808 ≤ limit ∧ limit ≤ 9223372036854775807) (hd : dueS S most limit = (f, t, true)) :
    Calls Try.prog 21 #[ptr b, .int .i64 most, .int .i64 limit] W (NextPost w M b ba bl vh W S most limit) := by
  have hdu := due_at h hok hbig most limit hl
  have hdo := due_ok hok hd
  have hok2 := sdok_next hok hbig hdo
  have hokL := hok.okL hbig
  have hb0 := hok.b0; have hbs := hok.bs; have hsw := hok.sw
  have q1 := hdo.lo; have q2 := hdo.le; have q3 := hdo.hi; have q5 := hdo.run
  unfold NextPost nextS
  rw [hd] at hdu ⊢
  simp only [if_true, Bool.true_and] at *
  have w1 : IntKind.i64.wrap (t - 1) = t - 1 := by rw [IntKind.wrap_i64]; omega
  have H := hide h
  have HOK := hide hok2
  have HR := hide (And.intro q1 (And.intro q2 (And.intro q3 q5)))
  clear h hok hd hdo hok2 q5
  go_enter Try.func21, Try.ntmps21
  go_wp2_with fail
  refine hdu.mono ?_
  rintro e W1 ⟨rfl, hg⟩
  have h1 := (unhide H).grown hg
  have HG := hide hg.size
  obtain ⟨-, -, -, -, -, -, c6, -, -, -⟩ := h1.cells
  have hcut := cutL_at h1 hokL f (t - 1) (by omega) (by omega)
  clear hdu hg H h1
  go_wp2_with fail
  refine hcut.mono ?_
  rintro e W2 ⟨n2, rfl, h2⟩
  obtain ⟨c0, c1, c2, c3, c4, c5, c6, c7, c8, c9⟩ := h2.cells
  have t3 := h2.blk.thaw 3
  have t8' := h2.blk.thaw 8
  obtain ⟨mx, hmx⟩ : ∃ mx, mx = max S.sent t := ⟨_, rfl⟩
  have h3 := h2.put (S' := { S with L := cutS 0 f (t - 1) S.L, sent := mx }) 3 (.int .i64 mx) rfl rfl rfl (fun X hr => hr.to rfl rfl (Int.le_refl _) id) rfl
  obtain ⟨-, -, d2, -, -, -, -, d7, d8, -⟩ := h3.cells
  have t8 := h3.blk.thaw 8
  have ewr : wr { S with L := cutS 0 f (t - 1) S.L, sent := mx } = wr S := rfl
  rw [ewr] at d2
  simp only at c3 d7 d8
  have H3 := hide h3
  have h4 : Hid (∀ fv, At w M b ba bl vh ((W2.setCell ⟨b, 3, none⟩ (.int .i64 mx)).setCell ⟨b, 8, none⟩ (.int .i64 fv)) { S with L := cutS 0 f (t - 1) S.L, sent := mx, fin := fv }) := fun fv => h3.put (S' := { S with L := cutS 0 f (t - 1) S.L, sent := mx, fin := fv }) 8 (.int .i64 fv) rfl rfl rfl (fun X hr => hr.to rfl rfl (Int.le_refl _) id) rfl
  have nG : Hid (∀ fv, (if endB S t = true ∧ S.fin ≠ 3 then 1 else S.fin) = fv → nextG S f t = { S with L := cutS 0 f (t - 1) S.L, sent := mx, fin := fv }) := fun fv e => by unfold nextG; rw [e, hmx]
  have hmxI : Hid (mx = max S.sent t) := hmx
  rw [show wr { S with L := cutS 0 f (t - 1) S.L } = wr S from rfl] at c2
  simp only at c7 c8
  clear hcut h2 h3 q1 q2 q3 hb0 hbs hsw w1 hokL HG c0 c1 c4 c5 c6 c9 ewr
  have EB : Hid (endB S t = (S.ended && decide (t = wr S))) := rfl
  cases hen : S.ended with
  | false =>
    rw [hen] at d7 c7
    have eb : endB S t = false := by rw [unhide EB, hen]; rfl
    have eN := unhide nG S.fin (by rw [eb]; simp)
    have H5 : Hid (At w M b ba bl vh (W2.setCell ⟨b, 3, none⟩ (.int .i64 mx)) (nextG S f t)) := by rw [eN]; exact unhide H3
    have hp := piece_at (unhide H5) (unhide HOK) f t (unhide HR).2.2.2 (unhide HR).1 (unhide HR).2.1 (unhide HR).2.2.1 hbig
    have EBH := hide eb
    have ET : Hid (pieceT (nextG S f t).T f t = pieceT S.T f t) := rfl
    clear eb eN nG h4 EB hen H3 hmx
    by_cases hms : S.sent ≤ t
    · have em : t = mx := by rw [unhide hmxI]; omega
      subst em
      go_wp2_with fail
      all_goals try rw [show S.sent = t from by omega]
      all_goals refine hp.mono ?_
      all_goals
        rintro e W6 ⟨v, rfl, k1, k2, k3⟩
        have K := hide (And.intro k1 (And.intro k2 k3))
        obtain ⟨va, vc, rfl, -⟩ := k1.ex
        clear hp k1 k2 k3
        go_wp2_with fail
        try simp only [Exit.inBlock, Exit.then]
        refine bodyPost_ret (results_tmp4 rfl _ _ _) rfl ?_
        exact ⟨_, by rw [unhide EBH]; rfl, (unhide H5).grown (unhide K).2.2, by rw [← unhide ET]; exact (unhide K).1, fun k e => Nat.le_trans (unhide H5).kp.size ((unhide K).2.1 k e), _, (unhide K).2.1, (unhide H5).rebase (unhide K).2.2⟩
    · have em : mx = S.sent := by rw [unhide hmxI]; omega
      subst em
      go_wp2_with fail
      all_goals try rw [show S.sent = t from by omega]
      all_goals refine hp.mono ?_
      all_goals
        rintro e W6 ⟨v, rfl, k1, k2, k3⟩
        have K := hide (And.intro k1 (And.intro k2 k3))
        obtain ⟨va, vc, rfl, -⟩ := k1.ex
        clear hp k1 k2 k3
        go_wp2_with fail
        try simp only [Exit.inBlock, Exit.then]
        refine bodyPost_ret (results_tmp4 rfl _ _ _) rfl ?_
        exact ⟨_, by rw [unhide EBH]; rfl, (unhide H5).grown (unhide K).2.2, by rw [← unhide ET]; exact (unhide K).1, fun k e => Nat.le_trans (unhide H5).kp.size ((unhide K).2.1 k e), _, (unhide K).2.1, (unhide H5).rebase (unhide K).2.2⟩
  | true =>
    rw [hen] at d7 c7
    by_cases htw : t = wr S
    · have eb : endB S t = true := by rw [unhide EB, hen, htw]; simp
      have hqw := beq_yes htw
      have HTW := hide htw
      by_cases hf3 : S.fin = 3
      · have eN := unhide nG S.fin (by rw [eb, hf3]; simp)
        have H5 : Hid (At w M b ba bl vh (W2.setCell ⟨b, 3, none⟩ (.int .i64 mx)) (nextG S f t)) := by rw [eN]; exact unhide H3
        have hq3 := beq_yes hf3
        have hq3' : (S.fin != 3) = false := by simp [hf3]
        clear hf3 htw
        have hp := piece_at (unhide H5) (unhide HOK) f t (unhide HR).2.2.2 (unhide HR).1 (unhide HR).2.1 (unhide HR).2.2.1 hbig
        have EBH := hide eb
        have ET : Hid (pieceT (nextG S f t).T f t = pieceT S.T f t) := rfl
        clear eb eN nG h4 EB hen H3 hmx
        by_cases hms : S.sent ≤ t
        · have em : t = mx := by rw [unhide hmxI]; omega
          subst em
          go_wp2_with fail
          all_goals try rw [show S.sent = t from by omega]
          all_goals refine hp.mono ?_
          all_goals
            rintro e W6 ⟨v, rfl, k1, k2, k3⟩
            have K := hide (And.intro k1 (And.intro k2 k3))
            obtain ⟨va, vc, rfl, -⟩ := k1.ex
            clear hp k1 k2 k3
            go_wp2_with fail
            try simp only [Exit.inBlock, Exit.then]
            refine bodyPost_ret (results_tmp4 rfl _ _ _) rfl ?_
            exact ⟨_, by rw [unhide EBH]; rfl, (unhide H5).grown (unhide K).2.2, by rw [← unhide ET]; exact (unhide K).1, fun k e => Nat.le_trans (unhide H5).kp.size ((unhide K).2.1 k e), _, (unhide K).2.1, (unhide H5).rebase (unhide K).2.2⟩
        · have em : mx = S.sent := by rw [unhide hmxI]; omega
          subst em
          go_wp2_with fail
          all_goals try rw [show S.sent = t from by omega]
          all_goals refine hp.mono ?_
          all_goals
            rintro e W6 ⟨v, rfl, k1, k2, k3⟩
            have K := hide (And.intro k1 (And.intro k2 k3))
            obtain ⟨va, vc, rfl, -⟩ := k1.ex
            clear hp k1 k2 k3
            go_wp2_with fail
            try simp only [Exit.inBlock, Exit.then]
            refine bodyPost_ret (results_tmp4 rfl _ _ _) rfl ?_
            exact ⟨_, by rw [unhide EBH]; rfl, (unhide H5).grown (unhide K).2.2, by rw [← unhide ET]; exact (unhide K).1, fun k e => Nat.le_trans (unhide H5).kp.size ((unhide K).2.1 k e), _, (unhide K).2.1, (unhide H5).rebase (unhide K).2.2⟩
      · have eN := unhide nG 1 (by rw [eb]; simp [hf3])
        have H5 : Hid (At w M b ba bl vh ((W2.setCell ⟨b, 3, none⟩ (.int .i64 mx)).setCell ⟨b, 8, none⟩ (.int .i64 1)) (nextG S f t)) := by rw [eN]; exact unhide h4 1
        have hq3 := beq_no hf3
        have hq3' : (S.fin != 3) = true := by simp [hf3]
        clear htw
        have hp := piece_at (unhide H5) (unhide HOK) f t (unhide HR).2.2.2 (unhide HR).1 (unhide HR).2.1 (unhide HR).2.2.1 hbig
        have EBH := hide eb
        have ET : Hid (pieceT (nextG S f t).T f t = pieceT S.T f t) := rfl
        clear eb eN nG h4 EB hen H3 hmx
        by_cases hms : S.sent ≤ t
        · have em : t = mx := by rw [unhide hmxI]; omega
          subst em
          go_wp2_with fail
          all_goals try rw [show S.sent = t from by omega]
          all_goals refine hp.mono ?_
          all_goals
            rintro e W6 ⟨v, rfl, k1, k2, k3⟩
            have K := hide (And.intro k1 (And.intro k2 k3))
            obtain ⟨va, vc, rfl, -⟩ := k1.ex
            clear hp k1 k2 k3
            go_wp2_with fail
            try simp only [Exit.inBlock, Exit.then]
            refine bodyPost_ret (results_tmp4 rfl _ _ _) rfl ?_
            exact ⟨_, by rw [unhide EBH]; rfl, (unhide H5).grown (unhide K).2.2, by rw [← unhide ET]; exact (unhide K).1, fun k e => Nat.le_trans (unhide H5).kp.size ((unhide K).2.1 k e), _, (unhide K).2.1, (unhide H5).rebase (unhide K).2.2⟩
        · have em : mx = S.sent := by rw [unhide hmxI]; omega
          subst em
          go_wp2_with fail
          all_goals try rw [show S.sent = t from by omega]
          all_goals refine hp.mono ?_
          all_goals
            rintro e W6 ⟨v, rfl, k1, k2, k3⟩
            have K := hide (And.intro k1 (And.intro k2 k3))
            obtain ⟨va, vc, rfl, -⟩ := k1.ex
            clear hp k1 k2 k3
            go_wp2_with fail
            try simp only [Exit.inBlock, Exit.then]
            refine bodyPost_ret (results_tmp4 rfl _ _ _) rfl ?_
            exact ⟨_, by rw [unhide EBH]; rfl, (unhide H5).grown (unhide K).2.2, by rw [← unhide ET]; exact (unhide K).1, fun k e => Nat.le_trans (unhide H5).kp.size ((unhide K).2.1 k e), _, (unhide K).2.1, (unhide H5).rebase (unhide K).2.2⟩
    · have eb : endB S t = false := by rw [unhide EB, hen]; simp [htw]
      have eN := unhide nG S.fin (by rw [eb]; simp)
      have H5 : Hid (At w M b ba bl vh (W2.setCell ⟨b, 3, none⟩ (.int .i64 mx)) (nextG S f t)) := by rw [eN]; exact unhide H3
      have hqw := beq_no htw
      have hp := piece_at (unhide H5) (unhide HOK) f t (unhide HR).2.2.2 (unhide HR).1 (unhide HR).2.1 (unhide HR).2.2.1 hbig
      have EBH := hide eb
      have ET : Hid (pieceT (nextG S f t).T f t = pieceT S.T f t) := rfl
      clear eb eN nG h4 EB hen H3 hmx
      by_cases hms : S.sent ≤ t
      · have em : t = mx := by rw [unhide hmxI]; omega
        subst em
        go_wp2_with fail
        all_goals try rw [show S.sent = t from by omega]
        all_goals refine hp.mono ?_
        all_goals
          rintro e W6 ⟨v, rfl, k1, k2, k3⟩
          have K := hide (And.intro k1 (And.intro k2 k3))
          obtain ⟨va, vc, rfl, -⟩ := k1.ex
          clear hp k1 k2 k3
          go_wp2_with fail
          try simp only [Exit.inBlock, Exit.then]
          refine bodyPost_ret (results_tmp4 rfl _ _ _) rfl ?_
          exact ⟨_, by rw [unhide EBH]; rfl, (unhide H5).grown (unhide K).2.2, by rw [← unhide ET]; exact (unhide K).1, fun k e => Nat.le_trans (unhide H5).kp.size ((unhide K).2.1 k e), _, (unhide K).2.1, (unhide H5).rebase (unhide K).2.2⟩
      · have em : mx = S.sent := by rw [unhide hmxI]; omega
        subst em
        go_wp2_with fail
        all_goals try rw [show S.sent = t from by omega]
        all_goals refine hp.mono ?_
        all_goals
          rintro e W6 ⟨v, rfl, k1, k2, k3⟩
          have K := hide (And.intro k1 (And.intro k2 k3))
          obtain ⟨va, vc, rfl, -⟩ := k1.ex
          clear hp k1 k2 k3
          go_wp2_with fail
          try simp only [Exit.inBlock, Exit.then]
          refine bodyPost_ret (results_tmp4 rfl _ _ _) rfl ?_
          exact ⟨_, by rw [unhide EBH]; rfl, (unhide H5).grown (unhide K).2.2, by rw [← unhide ET]; exact (unhide K).1, fun k e => Nat.le_trans (unhide H5).kp.size ((unhide K).2.1 k e), _, (unhide K).2.1, (unhide H5).rebase (unhide K).2.2⟩
end
end Go.Proofs.Ytdalekjpjnhboaa
