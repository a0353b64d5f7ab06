/- Waits, Next, Fin, Stop, New. -/
import Derived.Test.YtdalekjpjnhboaaS5G
namespace Go.Proofs.Ytdalekjpjnhboaa
open Go.RowKit
set_option linter.unusedVariables false
set_option maxHeartbeats 1000000
set_option maxRecDepth 100000

section
variable {w W : World} {M : Nat → Prop} {b ba bl : Nat} {vh : Value} {S : Sd}

theorem waits_at (h : At w M b ba bl vh W S) (hok : SdOk S) (hbig : wr S ≤ 1152921504606846976) (limit : Int) (hl : -9223372036854775808 ≤ limit ∧ limit ≤ 9223372036854775807) :
    Calls Try.prog 25 #[ptr b, .int .i64 limit] W fun e W' => e = .returned (.bool (dueS S 1 limit).2.2) ∧ W.grownBy W' none := by
  have hd := due_at h hok hbig 1 limit hl
  clear h hok
  generalize dueS S 1 limit = d at *
  go_enter Try.func25, Try.ntmps25
  go_wp2_with fail
  refine hd.mono ?_
  rintro e W' ⟨rfl, hg⟩
  have G := hide hg
  clear hd hg
  go_wp2_with fail
  go_ret
  exact ⟨rfl, unhide G⟩

theorem fin_at (h : At w M b ba bl vh W S) : Calls Try.prog 20 #[ptr b] W fun e W' => e = .returned (.int .i64 (if S.ended = true ∨ S.stopped = true then 150 else 0)) ∧ ∃ vh', At w M b ba bl vh' W' (if S.ended = true ∨ S.stopped = true then S else finG S) := by
  obtain ⟨c0, c1, c2, c3, c4, c5, c6, c7, c8, c9⟩ := h.cells
  cases he : S.ended with
  | true =>
    rw [if_pos (.inl rfl), if_pos (.inl rfl)]
    rw [he] at c7
    have H := hide h
    clear h c0 c1 c2 c3 c4 c5 c6 c8 he
    generalize S.stopped = st at *
    go_enter Try.func20, Try.ntmps20
    go_wp2
    all_goals go_ret
    all_goals exact ⟨rfl, _, unhide H⟩
  | false =>
    cases hs : S.stopped with
    | true =>
      rw [if_pos (.inr rfl), if_pos (.inr rfl)]
      rw [he] at c7
      rw [hs] at c9
      have H := hide h
      clear h c0 c1 c2 c3 c4 c5 c6 c8 he hs
      go_enter Try.func20, Try.ntmps20
      go_wp2
      all_goals go_ret
      all_goals exact ⟨rfl, _, unhide H⟩
    | false =>
      rw [if_neg (by simp), if_neg (by simp)]
      have h2 := h.put (S' := finG S) 7 (.bool true) rfl rfl rfl (fun X hr => hr.to rfl rfl (Int.le_refl _) (fun hg => by
        rcases hg with q | q | q
        · exact .inl q
        · exact .inr (.inl q)
        · exact .inr (.inr ⟨rfl, q.2⟩))) rfl
      have t7 := h.blk.thaw 7
      have hr := release_at h2
      rw [he] at c7
      rw [hs] at c9
      clear h h2 c0 c1 c2 c3 c4 c5 c6 c8 he hs
      go_enter Try.func20, Try.ntmps20
      go_wp2_with fail
      refine hr.mono ?_
      rintro e W' ⟨rfl, vh', q⟩
      have Q := hide q
      clear hr q
      go_wp2_with fail
      go_ret
      exact ⟨rfl, vh', unhide Q⟩

theorem stop_at (h : At w M b ba bl vh W S) : Calls Try.prog 23 #[ptr b] W fun e W' => e = .returned (.tuple #[]) ∧ ∃ bl' vh', At w M b ba bl' vh' W' (stopS S) := by
  have hd := done_at h
  unfold stopS
  cases hdn : doneB S with
  | true =>
    rw [if_pos rfl]
    rw [hdn] at hd
    have H := hide h
    clear h hdn
    go_enter Try.func23, Try.ntmps23
    go_wp2_with fail
    refine hd.mono ?_
    rintro e W' ⟨rfl, q, rfl⟩
    clear hd
    go_wp2_with fail
    refine bodyPost_ret (results_none rfl _ _ _) rfl ?_
    exact ⟨rfl, _, _, (unhide H).grown (grown_drewN _ _)⟩
  | false =>
    rw [if_neg (by simp)]
    rw [hdn] at hd
    have H := hide h
    clear h hdn
    go_enter Try.func23, Try.ntmps23
    go_wp2_with fail
    refine hd.mono ?_
    rintro e W0 ⟨rfl, q, rfl⟩
    have h0 := (unhide H).grown (grown_drewN W q)
    generalize W.drewN q = W0 at *
    obtain ⟨c0, c1, c2, c3, c4, c5, c6, c7, c8, c9⟩ := h0.cells
    have t9 := h0.blk.thaw 9
    have h1 := h0.put (S' := { S with stopped := true }) 9 (.bool true) rfl rfl rfl (fun X hr => hr.to rfl rfl (Int.le_refl _) (fun hg => .inr (.inl rfl))) rfl
    have hof := of_nil (W0.setCell ⟨b, 9, none⟩ (.bool true))
    have H1 := hide h1
    clear hd H h0 h1 c0 c1 c2 c3 c4 c5 c6 c7 c8
    go_wp2_with fail
    refine hof.mono ?_
    rintro e W1 ⟨bl', rfl, hs1, hn1, hg1⟩
    have h2 := (unhide H1).grown hg1
    have hne : ba ≠ bl' := fun e => by
      obtain ⟨va, vl, s1, -⟩ := (unhide H1).sets
      have := setAt_lt s1
      omega
    have h3 := h2.newL hs1 hne (.inr (Nat.le_trans (unhide H1).kp.size hn1))
    obtain ⟨c0, c1, c2, c3, c4, c5, c6, c7, c8, c9⟩ := h2.cells
    have t6 := h2.blk.thaw 6
    obtain ⟨d0, d1, d2, d3, d4, d5, d6, d7, d8, d9⟩ := h3.cells
    have t8 := h3.blk.thaw 8
    have H3 := hide h3
    clear hof H1 h2 hs1 hn1 hg1 hne c0 c1 c2 c3 c4 c5 c7 c8 c9 d0 d1 d2 d3 d4 d5 d6 d7 d9 h3 t9
    simp only at d8
    by_cases hf : S.fin = 2
    · have h4 := (unhide H3).put (S' := stopG S) 8 (.int .i64 1) (by unfold stopG; rw [if_pos hf]; rfl) rfl rfl (fun X hr => hr.to rfl rfl (Int.le_refl _) (fun hg => .inr (.inl rfl))) rfl
      have hr := release_at h4
      rw [hf] at d8
      clear H3 h4 hf
      go_wp2_with fail
      all_goals refine hr.mono ?_
      all_goals rintro e W' ⟨rfl, vh', q⟩
      all_goals have Q := hide q
      all_goals clear hr q
      all_goals go_wp2_with fail
      all_goals refine bodyPost_end (results_none rfl _ _ _) rfl ?_
      all_goals exact ⟨rfl, _, _, unhide Q⟩
    · have e4 : stopG S = { S with stopped := true, L := [] } := by unfold stopG; rw [if_neg hf]
      have hr := release_at (unhide H3)
      have hq := beq_no hf
      have E4 := hide e4
      clear H3 e4
      generalize S.fin = ff at *
      go_wp2_with fail
      all_goals refine hr.mono ?_
      all_goals rintro e W' ⟨rfl, vh', q⟩
      all_goals have Q := hide q
      all_goals clear hr q
      all_goals go_wp2_with fail
      all_goals refine bodyPost_end (results_none rfl _ _ _) rfl ?_
      all_goals exact ⟨rfl, _, _, by rw [unhide E4]; exact unhide Q⟩
end
end Go.Proofs.Ytdalekjpjnhboaa
