/- Less. -/
import Derived.Test.YtbcmeaebjngapaaR2M
namespace Go.Proofs.Ytbcmeaebjngapaa
open Go.RowKit Go.Shelf
set_option linter.unusedVariables false
set_option linter.unusedSimpArgs false
set_option maxHeartbeats 2000000
set_option maxRecDepth 100000
attribute [local go_sem] Oper.semAt_some

theorem less_in (pa pb : Option Addr) (La : List Sp) (G : Sp → List Sp) (w : World) (ha : RunsAt w (.pointer pa) La) (hb : Gives 23 w (.pointer pb) G La) (hlen : La.length ≤ 1000000) (hG : ∀ pre, pre <+: La → (pre.flatMap G).length ≤ 4000000000000) :
    CallsIn Fence.wide 12 Try.prog 10 #[.pointer pa, .pointer pb] w fun e w' => ∃ b, e = .returned (.pointer (some ⟨b, 0, none⟩)) ∧ LS w w' b 0 (La.flatMap G) := by
  have HA := hide ha; have HB := hide hb; have HG := hide hG
  clear ha hb hG
  refine callsIn_of_wp_marks Try.func10 rfl trivial ?_ rfl
  simp only [Try.ntmps10, List.size_toArray, List.length_cons, List.length_nil, Nat.reduceAdd, Nat.reduceSub, Array.replicate_succ, Array.replicate_zero, List.push_toArray, List.append_toArray, List.nil_append, List.cons_append]
  gi_wp2_with fail
  refine ⟨trivial, ?_⟩
  refine (callsIn_wide.2 (up_any pa _)).mono ?_
  rintro e W' ⟨rfl, rfl⟩
  obtain ⟨w1, hw1⟩ : ∃ w1, w1 = (((w.alloc (.cells #[.pointer pb] 24)).alloc (.cells #[.int .i64 0, .slice none 0 0] 50)).alloc (.cells #[.pointer (some ⟨w.heap.size + 1, 0, none⟩)] 24)).alloc (.cells #[.pointer pa] 24) := ⟨_, rfl⟩
  have z1 : w1.heap.size = w.heap.size + 4 := by rw [hw1]; simp
  have g1 : w.grownBy w1 none := by rw [hw1]; exact grown_trans (grown_trans (grown_trans (grown_alloc _ _) (grown_alloc _ _)) (grown_alloc _ _)) (grown_alloc _ _)
  have q3 : Boxed w1 w.heap.size 24 (.pointer pb) := by
    rw [hw1]; exact ((grown_trans (grown_trans (grown_alloc _ _) (grown_alloc _ _)) (grown_alloc _ _)).block _ (by simp) (by simp)).trans (heap_alloc_new w _)
  have qs : w1.heap[w.heap.size + 1]? = some (.cells #[.int .i64 0, .slice none 0 0] 50 (0, 0)) := by
    have := heap_alloc_new (w.alloc (.cells #[.pointer pb] 24)) (.cells #[.int .i64 0, .slice none 0 0] 50)
    rw [World.size_alloc] at this
    rw [hw1]; exact ((grown_trans (grown_alloc _ _) (grown_alloc _ _)).block _ (by simp) (by simp)).trans this
  have q5 : Boxed w1 (w.heap.size + 2) 24 (.pointer (some ⟨w.heap.size + 1, 0, none⟩)) := by
    have := heap_alloc_new ((w.alloc (.cells #[.pointer pb] 24)).alloc (.cells #[.int .i64 0, .slice none 0 0] 50)) (.cells #[.pointer (some ⟨w.heap.size + 1, 0, none⟩)] 24)
    rw [World.size_alloc, World.size_alloc] at this
    rw [hw1]; exact ((grown_alloc _ _).block _ (by simp) (by simp)).trans this
  have qu : Boxed w1 (w.heap.size + 3) 24 (.pointer pa) := by
    have := heap_alloc_new (((w.alloc (.cells #[.pointer pb] 24)).alloc (.cells #[.int .i64 0, .slice none 0 0] 50)).alloc (.cells #[.pointer (some ⟨w.heap.size + 1, 0, none⟩)] 24)) (.cells #[.pointer pa] 24)
    rw [World.size_alloc, World.size_alloc, World.size_alloc] at this
    rw [hw1]; exact this
  have mi : MI w pb [] w1 := ⟨g1, by omega, q3, q5, _, ⟨qs, row_nil _⟩, fun g e => by cases e⟩
  have SEQ := up_seq (w.heap.size + 3) (w.heap.size + 1) w1.heap.size pa La w1 qu.cell (fun W g => unhide HA W (grown_trans g1 g)) (Nat.le_refl _) mi.blt mi.hob hlen
  have HM := hide mi
  clear q3 qs q5 qu mi
  gi_wp2_with fail
  have e1 : w.heap.size + 1 + 1 + 1 = w.heap.size + 3 := by omega
  have e2 : w.heap.size + 1 + 1 = w.heap.size + 2 := by omega
  try rw [e1]
  try rw [e2]
  rw [← hw1]
  clear hw1
  refine rangeK 12 6 (w.heap.size + 1) (gf := 25) (lb := #[.pointer (some ⟨w.heap.size + 3, 0, none⟩)]) rfl (enters_of Try.func25 (by kernel_rfl) rfl) SEQ (by omega)
    (fun pre X => MI w pb (pre.flatMap G) X ∧ pre <+: La) (fun pre X Y row h g hr => ⟨h.1.own g hr (by omega), h.2⟩) ⟨unhide HM, List.nil_prefix⟩ ?assign ?body ?done
  case assign =>
    rintro l m pre x X K ⟨h, hpf⟩ hK
    have gA := World.grownBy_alloc X (.cells #[.int .i64 x.1, .int .i64 x.2] 31) none
    have hA := h.grown gA
    have hK2 := hK _ _ ((KeepsOthers.alloc X (.cells #[.int .i64 x.1, .int .i64 x.2] 31)).from _) (KS.grown h.blt gA) ⟨hA, hpf⟩ ⟨_, heap_alloc_new X _, (by obtain ⟨v, s, _⟩ := hA.st; exact ⟨_, _, s.blk⟩), (fun e => by rw [ownS_same (gA.block _ h.blt (by simp))] at e; have := h.hob _ e; omega), rfl⟩
    clear h hA SEQ HM
    gi_wp2
    exact hK2
  case body =>
    rintro l m pre x Bx X ⟨h, hpf⟩ hx hne hsp
    clear SEQ HM
    obtain ⟨v, s, f⟩ := h.st
    have hmem : x ∈ La := hsp.subset (by simp)
    have hgX : X.grownBy X.drew none := drew_grown X
    have hc := unhide HB x hmem X.drew (grown_trans h.gr hgX)
    have S0 := And.intro (h.grown hgX).b3.cell (And.intro (h.grown hgX).b5.cell (box2 ((hgX.block _ (Array.getElem?_eq_some_iff.1 hx).1 (by simp)).trans hx)))
    have cr := s.c1
    have hlen2 := unhide HG _ hsp
    rw [List.flatMap_append] at hlen2
    simp only [List.flatMap_cons, List.flatMap_nil, List.append_nil, List.length_append] at hlen2
    have AP := hide (fun X9 u (g9 : X.grownBy X9 none) (r9 : Row X9 u (G x)) => h.app (n := w1.heap.size) s f g9 r9 (by omega) hx (by rw [← s.ownS]; exact hne) (by omega))
    have crD : X.drew.cell? ⟨w.heap.size + 1, 1, none⟩ = some v := (s.keep hgX).c1
    obtain ⟨a0, n0, c0, rfl⟩ : ∃ a n c, v = .slice a n c := by obtain ⟨a0, c0, e, -, -, -⟩ := s.row.shape; exact ⟨a0, _, c0, e⟩
    have FLM : (pre ++ [x]).flatMap G = pre.flatMap G ++ G x := by simp
    have H := hide (And.intro h hsp)
    clear h s f hx hne hpf hmem hlen2 HA HB HG
    gi_wp2_with fail
    refine region_held_only (fun W => W.cell? ⟨w.heap.size, 0, none⟩ = some (.pointer pb) ∧ W.cell? ⟨w.heap.size + 2, 0, none⟩ = some (.pointer (some ⟨w.heap.size + 1, 0, none⟩)) ∧ W.cell? ⟨Bx, 0, none⟩ = some (.int .i64 x.1) ∧ W.cell? ⟨Bx, 1, none⟩ = some (.int .i64 x.2)) (by kernel_rfl) (by kernel_rfl) S0 (fun hHeld => ?_)
    refine wpAnyH_take (i := 0) (v := ?_) rfl (by kernel_rfl) (by kernel_rfl) (by kernel_rfl) (fun _ _ _ h => by cases h.1) (Or.inl ⟨by rfl, ?_⟩) (by assumption) ?_
    rotate_left
    · intro wH hSw
      try dsimp only at hSw
      go_simp
      try with_reducible rfl
    simp only [Act.put, List.setIfInBounds_toArray, List.set_cons_zero, List.set_cons_succ]
    refine wpAnyH_take (i := 1) (v := ?_) rfl (by kernel_rfl) (by kernel_rfl) (by kernel_rfl) (fun _ _ _ h => by cases h.1) (Or.inl ⟨by rfl, ?_⟩) (by assumption) ?_
    rotate_left
    · intro wH hSw
      try dsimp only at hSw
      go_simp
      try with_reducible rfl
    simp only [Act.put, List.setIfInBounds_toArray, List.set_cons_zero, List.set_cons_succ]
    refine wpAnyH_take (i := 2) (v := ?_) rfl (by kernel_rfl) (by kernel_rfl) (by kernel_rfl) (fun _ _ _ h => by cases h.1) (Or.inl ⟨by rfl, ?_⟩) (by assumption) ?_
    rotate_left
    · intro wH hSw
      try dsimp only at hSw
      go_simp
      try with_reducible rfl
    simp only [Act.put, List.setIfInBounds_toArray, List.set_cons_zero, List.set_cons_succ]
    refine wpAnyH_take (i := 3) (v := ?_) rfl (by kernel_rfl) (by kernel_rfl) (by kernel_rfl) (fun _ _ _ h => by cases h.1) (Or.inl ⟨by rfl, ?_⟩) (by assumption) ?_
    rotate_left
    · intro wH hSw
      try dsimp only at hSw
      go_simp
      try with_reducible rfl
    simp only [Act.put, List.setIfInBounds_toArray, List.set_cons_zero, List.set_cons_succ]
    refine wpAnyH_take (i := 5) (v := ?_) rfl (by kernel_rfl) (by kernel_rfl) (by kernel_rfl) (fun _ _ _ h => by cases h.1) (Or.inl ⟨by rfl, ?_⟩) (by assumption) ?_
    rotate_left
    · intro wH hSw
      try dsimp only at hSw
      go_simp
      try with_reducible rfl
    simp only [Act.put, List.setIfInBounds_toArray, List.set_cons_zero, List.set_cons_succ]
    refine wpAnyH_take (i := 6) (v := ?_) rfl (by kernel_rfl) (by kernel_rfl) (by kernel_rfl) (fun _ _ _ h => by cases h.1) (Or.inl ⟨by rfl, ?_⟩) (by assumption) ?_
    rotate_left
    · intro wH hSw
      try dsimp only at hSw
      go_simp
      try with_reducible rfl
    simp only [Act.put, List.setIfInBounds_toArray, List.set_cons_zero, List.set_cons_succ]
    refine wpAnyH_take (i := 7) (v := ?_) rfl (by kernel_rfl) (by kernel_rfl) (by kernel_rfl) (fun _ _ _ h => by cases h.1) (Or.inl ⟨by rfl, ?_⟩) (by assumption) ?_
    rotate_left
    · intro wH hSw
      try dsimp only at hSw
      go_simp
      try with_reducible rfl
    simp only [Act.put, List.setIfInBounds_toArray, List.set_cons_zero, List.set_cons_succ]
    refine wpAnyH_take (i := 8) (v := ?_) rfl (by kernel_rfl) (by kernel_rfl) (by kernel_rfl) (fun _ _ _ h => by cases h.1) (Or.inl ⟨by rfl, ?_⟩) (by assumption) ?_
    rotate_left
    · intro wH hSw
      try dsimp only at hSw
      go_simp
      try with_reducible rfl
    simp only [Act.put, List.setIfInBounds_toArray, List.set_cons_zero, List.set_cons_succ]
    refine wpAnyH_take (i := 9) (v := ?_) rfl (by kernel_rfl) (by kernel_rfl) (by kernel_rfl) (fun _ _ _ h => by cases h.1) (Or.inl ⟨by rfl, ?_⟩) (by assumption) ?_
    rotate_left
    · intro wH hSw
      try dsimp only at hSw
      go_simp
      try with_reducible rfl
    simp only [Act.put, List.setIfInBounds_toArray, List.set_cons_zero, List.set_cons_succ]
    refine wpAnyH_ready (rs := [4, 10]) (by kernel_rfl) (by simp) ?_
    refine AllReadyH.cons rfl (fun KH hKH => ?_) (AllReadyH.cons rfl (fun KH hKH => ?_) AllReadyH.nil)
    · go_simp
      refine hKH.out _ _ S0 (fun hH => ?_)
      clear hKH KH
      try simp only [Act.put, List.setIfInBounds_toArray, List.set_cons_zero, List.set_cons_succ]
      refine wpAnyH_ready (rs := [10]) (by kernel_rfl) (by simp) ?_
      refine AllReadyH.cons rfl (fun KH hKH => ?_) AllReadyH.nil
      go_simp
      refine hc.mono ?_
      rintro e X9 ⟨u, rfl, r9, f9, g9⟩
      refine hKH.out _ _ ⟨cell_grown_none g9 S0.1, cell_grown_none g9 S0.2.1, cell_grown_none g9 S0.2.2.1, cell_grown_none g9 S0.2.2.2⟩ (fun hH2 => ?_)
      clear hKH KH
      try simp only [Act.put, List.setIfInBounds_toArray, List.set_cons_zero, List.set_cons_succ]
      obtain ⟨v', w', hap, ⟨a2, n2, c2, rfl⟩, cc, fc, SA, SB, mi2, ks2, kf2⟩ := unhide AP X9 u (grown_trans hgX g9) r9
      rw [← FLM] at mi2
      have E := hide (And.intro kf2 (And.intro ks2 (And.intro mi2 (unhide H).2)))
      refine wpAnyH_ready (rs := [11]) (by kernel_rfl) (by simp) ?_
      refine AllReadyH.cons (o := { dst := some 23, op := Op.call { callee := Callee.builtin Builtin.append, args := #[Operand.tmp 16, Operand.tmp 22], argTypes := #[26, 26] }, type := 26, pos := "runs.go:184", after := #[{ on := 4, ground := Ground.data }, { on := 10, ground := Ground.data }, { on := 10, ground := Ground.chain }], guard := none }) rfl (fun KH hKH => ?_) AllReadyH.nil
      refine step_append_run rfl (Operand.tmp 16) (Operand.tmp 22) 26 26 rfl (.slice a0 n0 c0) u rfl rfl (hap 26) ?_
      refine hKH.out _ _ SA (fun hH3 => ?_)
      try simp only [Act.put, List.setIfInBounds_toArray, List.set_cons_zero, List.set_cons_succ]
      clear hKH KH
      refine wpAnyH_take (i := 12) (v := ?_) rfl (by kernel_rfl) (by kernel_rfl) (by kernel_rfl) (fun _ _ _ h => by cases h.1) (Or.inl ⟨by rfl, ?_⟩) (by assumption) ?_
      rotate_left
      · intro wH hSw
        try dsimp only at hSw
        go_simp
        try with_reducible rfl
      simp only [Act.put, List.setIfInBounds_toArray, List.set_cons_zero, List.set_cons_succ]
      refine wpAnyH_take (i := 13) (v := ?_) rfl (by kernel_rfl) (by kernel_rfl) (by kernel_rfl) (fun _ _ _ h => by cases h.1) (Or.inl ⟨by rfl, ?_⟩) (by assumption) ?_
      rotate_left
      · intro wH hSw
        try dsimp only at hSw
        go_simp
        try with_reducible rfl
      simp only [Act.put, List.setIfInBounds_toArray, List.set_cons_zero, List.set_cons_succ]
      refine wpAnyH_ready (rs := [14]) (by kernel_rfl) (by simp) ?_
      refine AllReadyH.cons rfl (fun KH hKH => ?_) AllReadyH.nil
      go_simp
      refine hKH.out _ _ SB (fun hH4 => ?_)
      clear hKH KH
      refine wpAnyH_done (by kernel_rfl) ⟨rfl, ?_⟩ _
      exact E
    · go_simp
      refine hc.mono ?_
      rintro e X9 ⟨u, rfl, r9, f9, g9⟩
      refine hKH.out _ _ ⟨cell_grown_none g9 S0.1, cell_grown_none g9 S0.2.1, cell_grown_none g9 S0.2.2.1, cell_grown_none g9 S0.2.2.2⟩ (fun hH2 => ?_)
      clear hKH KH
      try simp only [Act.put, List.setIfInBounds_toArray, List.set_cons_zero, List.set_cons_succ]
      have cr9 := cell_grown_none g9 crD
      refine wpAnyH_ready (rs := [4]) (by kernel_rfl) (by simp) ?_
      refine AllReadyH.cons rfl (fun KH hKH => ?_) AllReadyH.nil
      go_simp
      refine hKH.out _ _ hH2 (fun hH => ?_)
      clear hKH KH
      try simp only [Act.put, List.setIfInBounds_toArray, List.set_cons_zero, List.set_cons_succ]
      obtain ⟨v', w', hap, ⟨a2, n2, c2, rfl⟩, cc, fc, SA, SB, mi2, ks2, kf2⟩ := unhide AP X9 u (grown_trans hgX g9) r9
      rw [← FLM] at mi2
      have E := hide (And.intro kf2 (And.intro ks2 (And.intro mi2 (unhide H).2)))
      refine wpAnyH_ready (rs := [11]) (by kernel_rfl) (by simp) ?_
      refine AllReadyH.cons (o := { dst := some 23, op := Op.call { callee := Callee.builtin Builtin.append, args := #[Operand.tmp 16, Operand.tmp 22], argTypes := #[26, 26] }, type := 26, pos := "runs.go:184", after := #[{ on := 4, ground := Ground.data }, { on := 10, ground := Ground.data }, { on := 10, ground := Ground.chain }], guard := none }) rfl (fun KH hKH => ?_) AllReadyH.nil
      refine step_append_run rfl (Operand.tmp 16) (Operand.tmp 22) 26 26 rfl (.slice a0 n0 c0) u rfl rfl (hap 26) ?_
      refine hKH.out _ _ SA (fun hH3 => ?_)
      try simp only [Act.put, List.setIfInBounds_toArray, List.set_cons_zero, List.set_cons_succ]
      clear hKH KH
      refine wpAnyH_take (i := 12) (v := ?_) rfl (by kernel_rfl) (by kernel_rfl) (by kernel_rfl) (fun _ _ _ h => by cases h.1) (Or.inl ⟨by rfl, ?_⟩) (by assumption) ?_
      rotate_left
      · intro wH hSw
        try dsimp only at hSw
        go_simp
        try with_reducible rfl
      simp only [Act.put, List.setIfInBounds_toArray, List.set_cons_zero, List.set_cons_succ]
      refine wpAnyH_take (i := 13) (v := ?_) rfl (by kernel_rfl) (by kernel_rfl) (by kernel_rfl) (fun _ _ _ h => by cases h.1) (Or.inl ⟨by rfl, ?_⟩) (by assumption) ?_
      rotate_left
      · intro wH hSw
        try dsimp only at hSw
        go_simp
        try with_reducible rfl
      simp only [Act.put, List.setIfInBounds_toArray, List.set_cons_zero, List.set_cons_succ]
      refine wpAnyH_ready (rs := [14]) (by kernel_rfl) (by simp) ?_
      refine AllReadyH.cons rfl (fun KH hKH => ?_) AllReadyH.nil
      go_simp
      refine hKH.out _ _ SB (fun hH4 => ?_)
      clear hKH KH
      refine wpAnyH_done (by kernel_rfl) ⟨rfl, ?_⟩ _
      exact E
  case done =>
    rintro D xs W hD rfl ⟨h, hpf⟩ hd
    have c5 := h.b5.cell
    obtain ⟨v, s, f⟩ := h.st
    have ls : LS w W (w.heap.size + 1) 0 (xs.flatMap G) := ⟨⟨v, s, fun g e => by have := f g e; omega⟩, by omega, h.gr⟩
    have LSH := hide (ls.put (o' := .deferred none) hd rfl (by omega))
    have HD := hide hd
    clear h hpf SEQ HM s f ls hd HA HB HG
    gi_wp2_with fail
    refine ⟨by simp, .inl ⟨_, _, rfl, run_takeDeferred (unhide HD), ?_⟩⟩
    refine ⟨.pointer (some ⟨w.heap.size + 1, 0, none⟩), ?_, _, rfl, unhide LSH⟩
    simp [results, Try.results10, go_sem]
end Go.Proofs.Ytbcmeaebjngapaa
