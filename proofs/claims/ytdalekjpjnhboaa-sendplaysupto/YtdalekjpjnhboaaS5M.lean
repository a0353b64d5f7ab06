/- Another base; Acked, Lost. -/
import Derived.Test.YtdalekjpjnhboaaS5L
namespace Go.Proofs.Ytdalekjpjnhboaa
open Go.RowKit
set_option linter.unusedVariables false
set_option maxHeartbeats 1000000
set_option maxRecDepth 100000

section
variable {w W : World} {M : Nat → Prop} {b ba bl : Nat} {vh : Value} {S : Sd}

theorem next_any (h : At w M b ba bl vh W S) (hok : SdOk S) (hbig : wr S ≤ 1152921504606846976) (most limit : Int) (hl : -9223372036854775808 ≤ limit ∧ limit ≤ 9223372036854775807) :
    Calls Try.prog 21 #[ptr b, .int .i64 most, .int .i64 limit] W (NextPost w M b ba bl vh W S most limit) := by
  cases hd : (dueS S most limit).2.2 with
  | false => exact next_no h hok hbig most limit hl hd
  | true => exact next_yes h hok hbig most limit (dueS S most limit).1 (dueS S most limit).2.1 hl (by rw [← hd])

theorem acked_at (h : At w M b ba bl vh W S) (hok : SdOk S) (hbig : wr S ≤ 1152921504606846976) (off size : Int) (fin : Bool) (ho : -9223372036854775808 ≤ off ∧ off ≤ 9223372036854775807) (hz : -9223372036854775808 ≤ size ∧ size ≤ 9223372036854775807) :
    Calls Try.prog 22 #[ptr b, .int .i64 off, .int .i64 size, .bool fin] W fun e W' => e = .returned (.tuple #[]) ∧ ∃ vh', At w M b ba bl vh' W' (ackS S off size fin) := by
  obtain ⟨c0, c1, c2, c3, c4, c5, c6, c7, c8, c9⟩ := h.cells
  unfold ackS
  cases hs : S.stopped with
  | true =>
    rw [if_pos rfl]
    rw [hs] at c9
    have H := hide h
    clear h hok c0 c1 c2 c3 c4 c5 c6 c7 c8 hs
    go_enter Try.func22, Try.ntmps22
    go_wp2
    all_goals refine bodyPost_ret (results_none rfl _ _ _) rfl ?_
    all_goals exact ⟨rfl, _, unhide H⟩
  | false =>
    rw [if_neg (by simp)]
    rw [hs] at c9
    have hb0 := hok.b0; have hbs := hok.bs; have hsw := hok.sw
    have hof := ofSent_at h (by omega) off size ho hz
    have hin := ofS_in S off size (by omega)
    obtain ⟨p, hp⟩ : ∃ p, p = ofS S off size := ⟨_, rfl⟩
    rw [← hp] at hof hin ⊢
    have hpl : p.1 ≤ 9223372036854775807 := by omega
    have hack := sdok_ack hok hbig (p := p) ⟨hin.1, hin.2.1⟩ fin
    have okA := hok.okA hbig
    have okL := hok.okL hbig
    have okA2 : Ok (addS 0 p.1 p.2 S.A) := hack.1.okA hbig
    have H := hide h
    have HA := hide hack
    have hbw : S.base ≤ 9223372036854775807 := by omega
    clear h hok hack hp c0 c1 c2 c3 c4 c5 c6 c7 c8
    go_enter Try.func22, Try.ntmps22
    go_wp2_with fail
    refine hof.mono ?_
    rintro e W1 ⟨rfl, q, rfl⟩
    have h1 := (unhide H).grown (grown_drewN W q)
    generalize W.drewN q = W1 at *
    obtain ⟨-, -, -, -, -, c5, -, -, -, -⟩ := h1.cells
    have hadd := addA_at h1 okA p.1 p.2 (by omega) (by omega)
    clear hof H h1 c9
    go_wp2_with fail
    refine hadd.mono ?_
    rintro e W2 ⟨n2, rfl, h2⟩
    obtain ⟨-, -, -, -, -, -, c6, -, -, -⟩ := h2.cells
    have hcut := cutL_at h2 okL p.1 p.2 (by omega) (by omega)
    clear hadd h2 c5
    go_wp2_with fail
    refine hcut.mono ?_
    rintro e W3 ⟨n3, rfl, h3⟩
    obtain ⟨-, -, -, -, x4, x5, -, -, -, -⟩ := h3.cells
    simp only at x4
    have hh := fun q => hasA_at (h3.grown (grown_drewN W3 q)) okA2 S.base
    have HK : ∀ X, W3.grownBy X none → X.cell? ⟨b, 5, none⟩ = some (ptr ba) ∧ X.cell? ⟨b, 4, none⟩ = some (.int .i64 S.base) := fun X g => ⟨cell_grown x5 g, cell_grown x4 g⟩
    have H3 := hide h3
    clear hcut h3 c6
    simp only at hh
    go_wp2_with fail
    go_region_held3 (fun X => X.cell? ⟨b, 5, none⟩ = some (ptr ba) ∧ X.cell? ⟨b, 4, none⟩ = some (.int .i64 S.base)) (go_keep) (first | (go_at_call 50; refine (hh 1).mono ?_; rintro e W4 ⟨rfl, g4⟩; have hg4 := grown_trans (grown_drewN W3 1) g4; obtain ⟨y5, y4⟩ := HK W4 hg4))
    have h4 := (unhide H3).grown hg4
    clear H3 hh HK x4 x5 y5 y4 g4 hg4
    obtain ⟨B, hB⟩ : ∃ B, B = baseOf S.base (addS 0 p.1 p.2 S.A) := ⟨_, rfl⟩
    have GA : Hid (ackG S p fin = { S with A := addS 0 p.1 p.2 S.A, L := cutS 0 p.1 p.2 S.L, base := B, fin := if fin = true ∧ S.fin ≠ 0 then 3 else S.fin }) := by rw [hB]; rfl
    have HB1 : S.base ≤ B := by rw [hB]; exact (unhide HA).2
    have HB2 : B ≤ S.sent := by rw [hB]; exact (unhide HA).1.bs
    have HRB : Hid (∀ (f0 : Int) X, RingAt X vh { S with A := addS 0 p.1 p.2 S.A, L := cutS 0 p.1 p.2 S.L } → RingAt X vh { S with A := addS 0 p.1 p.2 S.A, L := cutS 0 p.1 p.2 S.L, base := B }) := fun _ X hr => hr.to rfl rfl HB1 (fun hg => by
      rcases hg with q | q | q
      · exact .inl q
      · exact .inr (.inl q)
      · refine .inr (.inr ⟨q.1, ?_⟩)
        have q2 : S.base = wr S := q.2
        show B = wr S
        omega)
    have hrun := runsA_at h4 okA2
    have hgA : Good 0 (S.sent - 1) (addS 0 p.1 p.2 S.A) := (unhide HA).1.gA
    simp only at hrun
    cases hmb : memB S.base (addS 0 p.1 p.2 S.A) with
    | true =>
      obtain ⟨s, R, hsR⟩ : ∃ s R, addS 0 p.1 p.2 S.A = s :: R := by
        cases hx : addS 0 p.1 p.2 S.A with
        | nil => rw [hx] at hmb; simp [memB] at hmb
        | cons s R => exact ⟨s, R, rfl⟩
      have eB : B = s.2 + 1 := by rw [hB]; unfold baseOf; rw [if_pos hmb, hsR]; rfl
      have hs2 : 0 ≤ s.1 ∧ s.1 ≤ s.2 ∧ s.2 ≤ S.sent - 1 := by rw [hsR] at hgA; exact ⟨hgA.1, hgA.2.1, hgA.2.2.1⟩
      have wz : IntKind.i64.wrap (s.2 + 1) = B := by rw [eB, IntKind.wrap_i64]; omega
      have hsh : ∀ X v, Row X v (addS 0 p.1 p.2 S.A) → ∃ g c n, v = .slice (some ⟨g, 0, none⟩) n c ∧ 0 < n ∧ X.cell? ⟨g, 1, none⟩ = some (.int .i64 s.2) := fun X v hr => by
        rw [hsR] at hr
        rcases Row.at hr with ⟨_, e⟩ | ⟨g, c, sp, e, hR⟩
        · cases e
        · exact ⟨g, c, _, e, by simp, hR.cell 1 _ rfl⟩
      obtain ⟨-, -, -, -, x4, x5, -, -, -, -⟩ := h4.cells
      have H4 := hide h4
      clear hmb hsR eB hs2 hgA h4 hB
      go_wp2_with fail
      refine hrun.mono ?_
      rintro e W5 ⟨v, rfl, k1, k2, k3⟩
      obtain ⟨gg, cc, nn, rfl, hnn, y1⟩ := hsh _ _ k1
      have h5 := (unhide H4).grown k3
      obtain ⟨-, -, -, -, z4, -, -, -, z8, -⟩ := h5.cells
      have t4 := h5.blk.thaw 4
      have t8 := h5.blk.thaw 8
      have h6 := h5.put (S' := { S with A := addS 0 p.1 p.2 S.A, L := cutS 0 p.1 p.2 S.L, base := B }) 4 (.int .i64 B) rfl rfl rfl (unhide HRB 0) rfl
      obtain ⟨-, -, -, -, -, -, -, -, v8, -⟩ := h6.cells
      simp only at z8 v8
      have u8 := h6.blk.thaw 8
      have H6 := hide h6
      have hnI : (0 : Int) < (nn : Int) := by omega
      clear hrun hsh k1 k2 k3 H4 h5 x4 x5 h6
      cases fin with
      | false =>
        have hr := release_at (unhide H6)
        have EG := hide (show ackG S p false = { S with A := addS 0 p.1 p.2 S.A, L := cutS 0 p.1 p.2 S.L, base := B } from by rw [unhide GA]; simp)
        clear GA HA HRB H6
        go_wp2_with fail
        all_goals refine hr.mono ?_
        all_goals rintro e W' ⟨rfl, vh', q⟩
        all_goals have Q := hide q
        all_goals clear hr q
        all_goals go_wp2_with fail
        all_goals refine bodyPost_end (results_none rfl _ _ _) rfl ?_
        all_goals exact ⟨rfl, _, by rw [unhide EG]; exact unhide Q⟩
      | true =>
        by_cases hf : S.fin = 0
        · have hr := release_at (unhide H6)
          have EG := hide (show ackG S p true = { S with A := addS 0 p.1 p.2 S.A, L := cutS 0 p.1 p.2 S.L, base := B } from by rw [unhide GA]; simp [hf])
          have hq := beq_yes hf
          have hq' : (S.fin != 0) = false := by simp [hf]
          clear GA HA HRB H6 hf
          go_wp2_with fail
          all_goals refine hr.mono ?_
          all_goals rintro e W' ⟨rfl, vh', q⟩
          all_goals have Q := hide q
          all_goals clear hr q
          all_goals go_wp2_with fail
          all_goals refine bodyPost_end (results_none rfl _ _ _) rfl ?_
          all_goals exact ⟨rfl, _, by rw [unhide EG]; exact unhide Q⟩
        · have h7 := (unhide H6).put (S' := { S with A := addS 0 p.1 p.2 S.A, L := cutS 0 p.1 p.2 S.L, base := B, fin := 3 }) 8 (.int .i64 3) rfl rfl rfl (fun X hr => hr.to rfl rfl (Int.le_refl _) id) rfl
          have hr := release_at h7
          have EG := hide (show ackG S p true = { S with A := addS 0 p.1 p.2 S.A, L := cutS 0 p.1 p.2 S.L, base := B, fin := 3 } from by rw [unhide GA]; simp [hf])
          have hq := beq_no hf
          have hq' : (S.fin != 0) = true := by simp [hf]
          clear GA HA HRB H6 h7
          go_wp2_with fail
          all_goals refine hr.mono ?_
          all_goals rintro e W' ⟨rfl, vh', q⟩
          all_goals have Q := hide q
          all_goals clear hr q
          all_goals go_wp2_with fail
          all_goals refine bodyPost_end (results_none rfl _ _ _) rfl ?_
          all_goals exact ⟨rfl, _, by rw [unhide EG]; exact unhide Q⟩
    | false =>
      have eB : B = S.base := by rw [hB]; unfold baseOf; rw [if_neg (by rw [hmb]; simp)]
      have H6 : Hid (At w M b ba bl vh W4 { S with A := addS 0 p.1 p.2 S.A, L := cutS 0 p.1 p.2 S.L, base := B }) := by rw [eB]; exact h4
      obtain ⟨-, -, -, -, -, -, -, -, z8, -⟩ := h4.cells
      have t8 := h4.blk.thaw 8
      simp only at z8
      clear hmb eB hgA h4 hrun hB
      cases fin with
      | false =>
        have hr := release_at (unhide H6)
        have EG := hide (show ackG S p false = { S with A := addS 0 p.1 p.2 S.A, L := cutS 0 p.1 p.2 S.L, base := B } from by rw [unhide GA]; simp)
        clear GA HA HRB H6
        go_wp2_with fail
        all_goals refine hr.mono ?_
        all_goals rintro e W' ⟨rfl, vh', q⟩
        all_goals have Q := hide q
        all_goals clear hr q
        all_goals go_wp2_with fail
        all_goals refine bodyPost_end (results_none rfl _ _ _) rfl ?_
        all_goals exact ⟨rfl, _, by rw [unhide EG]; exact unhide Q⟩
      | true =>
        by_cases hf : S.fin = 0
        · have hr := release_at (unhide H6)
          have EG := hide (show ackG S p true = { S with A := addS 0 p.1 p.2 S.A, L := cutS 0 p.1 p.2 S.L, base := B } from by rw [unhide GA]; simp [hf])
          have hq := beq_yes hf
          have hq' : (S.fin != 0) = false := by simp [hf]
          clear GA HA HRB H6 hf
          go_wp2_with fail
          all_goals refine hr.mono ?_
          all_goals rintro e W' ⟨rfl, vh', q⟩
          all_goals have Q := hide q
          all_goals clear hr q
          all_goals go_wp2_with fail
          all_goals refine bodyPost_end (results_none rfl _ _ _) rfl ?_
          all_goals exact ⟨rfl, _, by rw [unhide EG]; exact unhide Q⟩
        · have h7 := (unhide H6).put (S' := { S with A := addS 0 p.1 p.2 S.A, L := cutS 0 p.1 p.2 S.L, base := B, fin := 3 }) 8 (.int .i64 3) rfl rfl rfl (fun X hr => hr.to rfl rfl (Int.le_refl _) id) rfl
          have hr := release_at h7
          have EG := hide (show ackG S p true = { S with A := addS 0 p.1 p.2 S.A, L := cutS 0 p.1 p.2 S.L, base := B, fin := 3 } from by rw [unhide GA]; simp [hf])
          have hq := beq_no hf
          have hq' : (S.fin != 0) = true := by simp [hf]
          clear GA HA HRB H6 h7
          go_wp2_with fail
          all_goals refine hr.mono ?_
          all_goals rintro e W' ⟨rfl, vh', q⟩
          all_goals have Q := hide q
          all_goals clear hr q
          all_goals go_wp2_with fail
          all_goals refine bodyPost_end (results_none rfl _ _ _) rfl ?_
          all_goals exact ⟨rfl, _, by rw [unhide EG]; exact unhide Q⟩
end
end Go.Proofs.Ytdalekjpjnhboaa
