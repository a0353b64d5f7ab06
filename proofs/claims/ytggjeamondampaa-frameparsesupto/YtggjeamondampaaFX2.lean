/- appendRuns. -/
import Derived.Test.YtggjeamondampaaFX1
import Derived.BigQuiet
namespace Go.Proofs.Ytggjeamondampaa
open Go.RowKit
set_option linter.unusedVariables false
set_option maxRecDepth 100000
set_option maxHeartbeats 4000000

theorem fall_mem {b : Int} {L : List (Int × Int)} (h : fallF b L = true) (hb : b ≤ MAXN) : ∀ s ∈ L, 0 ≤ s.1 ∧ s.1 ≤ s.2 ∧ s.2 ≤ MAXN := by
  induction L generalizing b with
  | nil => intro s hs; cases hs
  | cons r l ih =>
    simp only [fallF, Bool.and_eq_true, decide_eq_true_eq] at h
    obtain ⟨⟨⟨h1, h2⟩, h3⟩, h4⟩ := h
    intro s hs
    rcases List.mem_cons.1 hs with rfl | hs
    · exact ⟨h1, h2, by omega⟩
    · exact ih h4 (by omega) s hs
theorem are_mem {L : List (Int × Int)} (h : areF L = true) : L ≠ [] ∧ ∀ s ∈ L, 0 ≤ s.1 ∧ s.1 ≤ s.2 ∧ s.2 ≤ MAXN := by
  unfold areF at h
  simp only [Bool.and_eq_true] at h
  exact ⟨fun e => by rw [e] at h; simp at h, fall_mem h.1 (Int.le_refl _)⟩

theorem OwnI.lt {base : Nat} {w : World} {v : Value} {T : List Int} (h : OwnI base w v T) : ∀ k, v.ownBlock = some k → k < w.heap.size := fun k hk => by
  rcases h.2 with ⟨rfl, -⟩ | ⟨b, c, cur, rfl, q1, q2, -⟩
  · cases hk
  · injection hk with hk; exact hk ▸ (Array.getElem?_eq_some_iff.1 q2).1

theorem appendRuns_any {w0 w : World} {v : Value} {T : List Int} {L : List (Int × Int)} {a : Option Addr} {c : Nat} (h : OwnI w0.heap.size w v T) (hg : w0.grownBy w none) (hr : RdR w0 a L) (hL : areF L = true) (hc : L.length ≤ c ∧ c ≤ 9223372036854775807) (hb : (T.length + 1 + 2 * L.length) * 8 ≤ 140737488355328) :
    Calls Try.prog 69 #[v, .slice a L.length c] w fun e w' => ∃ v', e = .returned v' ∧ OwnI w0.heap.size w' v' (T ++ runsN L) ∧ w0.grownBy w' none ∧ KO w w' := by
  obtain ⟨hne, hmem⟩ := are_mem hL
  unfold MAXN at hmem
  obtain ⟨b, off, rfl, hcs⟩ := hr hne
  rw [runsN_gapK L hne]
  obtain ⟨n, hn⟩ : ∃ n, n = L.length := ⟨_, rfl⟩
  have hw1 : IntKind.i64.wrap ((n : Int) - 1) = (n : Int) - 1 := by rw [IntKind.wrap_i64]; omega
  obtain ⟨a1, c1, W1, hr1, o1, g1, gr1⟩ := app_int1 ((n : Int) - 1) h hg (by omega)
  have ko1 : KO w W1 := (KO.grown (World.grownBy_alloc w (.cells #[.int .i64 ((n : Int) - 1)] 2) none)).trans ((h.keep (World.grownBy_alloc w _ none)).ko gr1)
  obtain ⟨va, vc, rfl, -, -, -⟩ := h.at
  rw [← hn] at hc hb ⊢
  have HN := hide hn
  have HC := hide hcs
  have HM := hide hmem
  have S1 : Hid (OwnI w0.heap.size W1 (.slice a1 (T.length + 1) c1) (T ++ [(n : Int) - 1]) ∧ w0.grownBy W1 none ∧ KO w W1) := ⟨o1, g1, ko1⟩
  obtain ⟨m1, hm1⟩ : ∃ m, m = T.length + 1 := ⟨_, rfl⟩
  rw [← hm1] at hr1 S1 hb
  have HM1 := hide hm1
  clear hm1
  clear hn hcs hmem o1 g1 h hL hr hne gr1 ko1
  go_enter Try.func69, Try.ntmps69
  go_wp2_with (at_builtin; refine wpList_append_run _ rfl _ _ 87 87 rfl _ _ rfl rfl (hr1 _) ?_)
  go_loopw [0, 15] (fun vs i wr => ∃ k : Nat, k ≤ n ∧ i = .int .i64 k ∧ Hid (OwnI w0.heap.size wr vs (T ++ [(n : Int) - 1] ++ gapK (L.take k)) ∧ w0.grownBy wr none ∧ KO w wr)) (fun _ i _ => n - (intOf i).toNat)
  case atStart => exact ⟨0, Nat.zero_le _, rfl, by simpa [gapK] using (unhide S1).1, (unhide S1).2.1, (unhide S1).2.2⟩
  case round =>
    obtain ⟨k, hk, rfl, H⟩ := hrel
    clear S1 hr1
    by_cases hlt : k < n
    · have hkL : k < L.length := by rw [← unhide HN]; exact hlt
      have st := gapK_step L k hkL
      have tl := gapK_len L k (by omega)
      obtain ⟨o, g, ko⟩ := unhide H
      have c0 := cell_grown (unhide HC k hkL).1 g
      have c1 := cell_grown (unhide HC k hkL).2 g
      have hm := unhide HM (L.getD k (0, 0)) (by simp [List.getD, hkL])
      have kI : (k : Int) < (n : Int) := by omega
      generalize L.getD k (0, 0) = r at *
      obtain ⟨r1, r2⟩ := r
      dsimp only at c0 c1 hm st
      have w2 : IntKind.i64.wrap (r2 - r1) = r2 - r1 := by rw [IntKind.wrap_i64]; omega
      have gA := World.grownBy_alloc wr (.cells #[.int .i64 r1, .int .i64 r2] 81) none
      have bx := heap_alloc_new wr (.cells #[.int .i64 r1, .int .i64 r2] 81)
      have HL := hide hlt
      have ol := o.lt
      have tlen : (T ++ [(n : Int) - 1] ++ gapK (L.take k)).length ≤ m1 + 2 * k := by rw [List.length_append]; have := unhide HM1; simp only [List.length_append, List.length_cons, List.length_nil]; omega
      obtain ⟨T2, hT2⟩ : ∃ T2, T2 = T ++ [(n : Int) - 1] ++ gapK (L.take k) := ⟨_, rfl⟩
      rw [← hT2] at o tlen
      have ST := hide (show T ++ [(n : Int) - 1] ++ gapK (L.take (k + 1)) = T2 ++ ((if 0 < k then [(L.getD (k - 1) (0, 0)).1 - r2 - 2] else []) ++ [r2 - r1]) by rw [st, hT2]; simp only [List.append_assoc])
      obtain ⟨ua, uc, rfl, -, -, -⟩ := o.at
      obtain ⟨m2, hm2⟩ : ∃ m, m = T2.length := ⟨_, rfl⟩
      rw [← hm2] at o tlen ol ⊢
      clear hT2 tl
      by_cases h0 : 0 < k
      · obtain ⟨j, hj⟩ : ∃ j, k = j + 1 := ⟨k - 1, by omega⟩
        have jL : j < L.length := by omega
        have hq2 := unhide HM (L.getD j (0, 0)) (by simp [List.getD, jL])
        have d0 := cell_grown (unhide HC j jL).1 g
        have HQ := hide (unhide HC j jL).1
        rw [if_pos h0, show k - 1 = j by omega] at ST
        have jw : IntKind.i64.wrap ((k : Int) - 1) = (j : Int) := by rw [IntKind.wrap_i64]; omega
        have jI : (j : Int) < (n : Int) := by omega
        have k0 : (0 : Int) < (k : Int) := by omega
        generalize (L.getD j (0, 0)).1 = q at *
        have wa : IntKind.i64.wrap (q - r2) = q - r2 := by rw [IntKind.wrap_i64]; omega
        have wb : IntKind.i64.wrap (q - r2 - 2) = q - r2 - 2 := by rw [IntKind.wrap_i64]; omega
        have gB : wr.grownBy (wr.alloc (.cells #[.int .i64 r1, .int .i64 r2] 81)).drew none := gA.trans (grown_drew' (World.grownBy.refl _ _))
        obtain ⟨a2, c2, W2, hap1, o2, g2, gr2⟩ := app_int1 (W := (wr.alloc (.cells #[.int .i64 r1, .int .i64 r2] 81)).drew) (q - r2 - 2) (o.keep gB) (g.trans gB) (by rw [← hm2]; omega)
        obtain ⟨a3, c3, W3, hap2, o3, g3, gr3⟩ := app_int1 (r2 - r1) o2 g2 (by simp only [List.length_append, List.length_cons, List.length_nil]; omega)
        have e2 : (T2 ++ [q - r2 - 2]).length = m2 + 1 := by simp [hm2]
        rw [e2, ← hm2] at hap2
        rw [e2] at o3
        rw [← hm2, show (wr.alloc (.cells #[.int .i64 r1, .int .i64 r2] 81)).drew.heap.size = wr.heap.size + 1 by simp [World.drew]] at hap1
        rw [← hm2] at o2 gr3
        have bxD : ((wr.alloc (.cells #[.int .i64 r1, .int .i64 r2] 81)).drew.alloc (.cells #[.int .i64 (q - r2 - 2)] 2)).heap[wr.heap.size]? = some (.cells #[.int .i64 r1, .int .i64 r2] 81) := ((World.grownBy_alloc _ (.cells #[.int .i64 (q - r2 - 2)] 2) none).block _ (by simp) (by simp)).trans bx
        have bx2 : W2.heap[wr.heap.size]? = some (.cells #[.int .i64 r1, .int .i64 r2] 81) := (gr2.block _ (Array.getElem?_eq_some_iff.1 bxD).1 (fun e => by have := ol _ e.symm; omega)).trans bxD
        have y1 : (wr.alloc (.cells #[.int .i64 r1, .int .i64 r2] 81)).cell? ⟨wr.heap.size, 1, none⟩ = some (.int .i64 r2) := by simp only [World.cell?]; rw [bx]; rfl
        have z0 : W2.cell? ⟨wr.heap.size, 0, none⟩ = some (.int .i64 r1) := by simp only [World.cell?]; rw [bx2]; rfl
        have z1 : W2.cell? ⟨wr.heap.size, 1, none⟩ = some (.int .i64 r2) := by simp only [World.cell?]; rw [bx2]; rfl
        have d1 : (wr.alloc (.cells #[.int .i64 r1, .int .i64 r2] 81)).cell? ⟨b, off + j * 2, none⟩ = some (.int .i64 q) := cell_grown d0 gA
        have d2 : W2.cell? ⟨b, off + j * 2, none⟩ = some (.int .i64 q) := cell_grown (unhide HQ) g2
        have koE : KO w W3 := ((ko.trans (KO.grown gB)).trans ((KO.grown (World.grownBy_alloc _ _ none)).trans (((o.keep gB).keep (World.grownBy_alloc _ _ none)).ko gr2))).trans ((KO.grown (World.grownBy_alloc W2 _ none)).trans ((o2.keep (World.grownBy_alloc W2 _ none)).ko gr3))
        have E : Hid (OwnI w0.heap.size W3 (.slice a3 (m2 + 1 + 1) c3) (T ++ [(n : Int) - 1] ++ gapK (L.take (k + 1))) ∧ w0.grownBy W3 none ∧ KO w W3) := ⟨by rw [unhide ST]; have := o3; rw [List.append_assoc] at this; exact this, g3, koE⟩
        clear ko koE gr3 o o2 o3 g g2 g3 gr2 bx bxD bx2 hm hq2 ST H gA gB hlt hkL ol hm2 e2 tlen jL hj h0 hk HM HC st d0
        go_wp2_with fail
        go_region_held3 (fun W => W.cell? ⟨b, off + j * 2, none⟩ = some (.int .i64 q) ∧ W.cell? ⟨wr.heap.size, 1, none⟩ = some (.int .i64 r2)) (go_keep) (refine step_append_run rfl (Operand.tmp 22) (Operand.tmp 33) 87 87 rfl (.slice ua m2 uc) (.slice (some ⟨wr.heap.size + 1, 0, none⟩) 1 1) rfl rfl (hap1 87) ?_)
        go_wp2_with (at_builtin; refine wpList_append_run _ rfl (Operand.tmp 35) (Operand.tmp 41) 87 87 rfl (.slice a2 (m2 + 1) c2) (.slice (some ⟨W2.heap.size, 0, none⟩) 1 1) rfl rfl (hap2 87) ?_)
        exact ⟨⟨k + 1, unhide HL, by go_num, unhide E⟩, by simp [intOf]; have := unhide HL; omega⟩
      · rw [if_neg h0] at ST
        have k0 : ¬ (0 : Int) < (k : Int) := by omega
        obtain ⟨a3, c3, W3, hap2, o3, g3, gr3⟩ := app_int1 (r2 - r1) (o.keep gA) (g.trans gA) (by rw [← hm2]; omega)
        rw [← hm2, show (wr.alloc (.cells #[.int .i64 r1, .int .i64 r2] 81)).heap.size = wr.heap.size + 1 by simp] at hap2
        rw [← hm2] at o3
        have y0 : (wr.alloc (.cells #[.int .i64 r1, .int .i64 r2] 81)).cell? ⟨wr.heap.size, 0, none⟩ = some (.int .i64 r1) := by simp only [World.cell?]; rw [bx]; rfl
        have y1 : (wr.alloc (.cells #[.int .i64 r1, .int .i64 r2] 81)).cell? ⟨wr.heap.size, 1, none⟩ = some (.int .i64 r2) := by simp only [World.cell?]; rw [bx]; rfl
        have koE : KO w W3 := (ko.trans (KO.grown gA)).trans ((KO.grown (World.grownBy_alloc _ _ none)).trans (((o.keep gA).keep (World.grownBy_alloc _ _ none)).ko gr3))
        have E : Hid (OwnI w0.heap.size W3 (.slice a3 (m2 + 1) c3) (T ++ [(n : Int) - 1] ++ gapK (L.take (k + 1))) ∧ w0.grownBy W3 none ∧ KO w W3) := ⟨by rw [unhide ST]; exact o3, g3, koE⟩
        clear ko koE gr3 o o3 g g3 bx hm ST H gA hlt hkL ol hm2 tlen h0 hk HM HC st
        go_wp2_with (at_builtin; refine wpList_append_run _ rfl (Operand.tmp 35) (Operand.tmp 41) 87 87 rfl (.slice ua m2 uc) (.slice (some ⟨wr.heap.size + 1, 0, none⟩) 1 1) rfl rfl (hap2 87) ?_)
        exact ⟨⟨k + 1, unhide HL, by go_num, unhide E⟩, by simp [intOf]; have := unhide HL; omega⟩
    · obtain rfl : k = n := by omega
      have hno : ¬ (k : Int) < (k : Int) := by omega
      have e : L.take k = L := by rw [unhide HN]; simp
      rw [e] at H
      go_wp2_with fail
      go_ret
      exact ⟨_, rfl, by have := (unhide H).1; rw [List.append_assoc] at this; exact this, (unhide H).2.1, (unhide H).2.2⟩
end Go.Proofs.Ytggjeamondampaa
