/- RunsOrder. -/
import Derived.Test.YthhnemnnfbbamaaON
import Derived.Deep.RegionHeld3
import Derived.Deep.DeepCutAuto
import Derived.BigQuiet
namespace Go.Proofs.Ythhnemnnfbbamaa
open Go.RowKit Go.Shelf
set_option linter.unusedVariables false
set_option maxRecDepth 100000
set_option maxHeartbeats 1600000

theorem RowAt.froz {w : World} {g c : Nat} {L : List Sp} {sp : List Value} (h : RowAt w g c L sp) (k : Nat) : w.frozen? ⟨g, k, none⟩ = false := by
  unfold World.frozen?
  rw [h.1]
  simp

theorem RowAt.grown {w w' : World} {g c : Nat} {L : List Sp} {sp : List Value} (h : RowAt w g c L sp) (hg : w.grownBy w' none) : RowAt w' g c L sp :=
  ⟨(hg.block g h.lt (by simp)).trans h.1, h.2⟩

/-- What stands in the list that is handed on. -/
def inL (L : List Sp) (j : Nat) : List Sp := L ++ (List.replicate j (-3, 3) ++ List.replicate (8 - j) (0, 0))

theorem inL_length (L : List Sp) (j : Nat) (h : j ≤ 8) : (inL L j).length = L.length + 8 := by
  unfold inL; simp; omega
theorem inL_set (L : List Sp) (j : Nat) (h : j < 8) : (inL L j).set (L.length + j) (-3, 3) = inL L (j + 1) := by
  unfold inL
  rw [List.set_append_right _ _ (by omega), List.set_append_right _ _ (by simp)]
  congr 1
  rw [List.length_replicate, show L.length + j - L.length - j = 0 by omega, show 8 - j = (8 - (j + 1)) + 1 by omega, List.replicate_succ, List.set_cons_zero, List.replicate_succ']
  simp

set_option maxRecDepth 100000 in
theorem order_walk (turn : Int) (a : Option Addr) (n cap : Nat) (L : List Sp) (w : World) (ht : -9223372036854775808 ≤ turn ∧ turn ≤ 9223372036854775807) (hL : L.length = n) (hrd : RdS w a L) (hB : InB L) (hn : n ≤ 1048576) (hc : n ≤ cap) (hc2 : cap ≤ 9223372036854775807) :
    Calls Try.prog 8 #[.slice a n cap, .int .i64 turn] w fun e w' => e = .returned (.bool true) ∧ w.grownBy w' none := by
  have hsh := shown_ok w
  have HRD := hide hrd; have HL := hide hL; have HB := hide hB
  clear hrd hL hB
  go_enter Try.func8, Try.ntmps8
  go_upto_if 20 with (first | (go_at_call 9; refine hsh.mono ?_; rintro e W0 ⟨rfl, g0⟩; clear hsh))
  go_cut [1] (fun v wc => ∃ u : Int, v = .int .i64 u ∧ 0 ≤ u ∧ u ≤ 9223372036854775807 ∧ wc = W0)
  case first =>
    by_cases h : turn < 0
    · go_wp2
      go_meet
      case rel => exact ⟨_, rfl, by omega, by omega, rfl⟩
    · go_wp2
      go_meet
      case rel => exact ⟨_, rfl, by omega, by omega, rfl⟩
  case rest =>
  obtain ⟨u, rfl, hu0, hu1, rfl⟩ := hcut
  clear ht
  obtain ⟨W2, hcp, hro, hgr⟩ := copy_head (w := wc.alloc (.cells (cl (List.replicate (n + 8) (0, 0))).toArray 64)) (g := wc.heap.size) (m := n + 8) (n := n) (a := a) (c := cap) (L := L) (Y := List.replicate 8 (0, 0)) (by rw [List.replicate_append_replicate]; exact made_row (n + 8) (by omega) wc) (unhide HL) (by simp) ((unhide HRD).grown (grown_trans g0 (grown_alloc _ _)))
  have hg2 : w.grownBy W2 none := grown_fresh (grown_trans g0 (grown_alloc _ _)) hgr (fun k e => by cases e; exact g0.size)
  have hfr : w.heap.size ≤ wc.heap.size := g0.size
  have R2 := hide (show RowAt W2 wc.heap.size (n + 8) (inL L 0) [] from hro)
  have G2 := hide hg2
  clear hro hgr hg2 g0
  go_wp2_with (first | (at_make; refine wpList_mkS (n + 8) (by omega) _ rfl _ _ rfl rfl rfl ?_) | (at_builtin; refine wpList_copy_run _ rfl _ _ 61 61 rfl _ _ rfl rfl (hcp _) ?_))
  clear hcp
  generalize wc.heap.size = g at *
  go_loopw [8] (fun i wr => ∃ j : Nat, j ≤ 8 ∧ i = .int .i64 ((n + j : Nat) : Int) ∧ RowAt wr g (n + 8) (inL L j) [] ∧ w.grownBy wr none) (fun i _ => n + 8 - (intOf i).toNat)
  case atStart => exact ⟨0, by omega, rfl, unhide R2, unhide G2⟩
  case round =>
    clear R2 G2
    obtain ⟨j, hj, rfl, hR, hG⟩ := hrel
    by_cases hlt : j < 8
    · have f0 := hR.froz ((n + j) * 2)
      have f1 := hR.froz ((n + j) * 2 + 1)
      have hlen := inL_length L j hj
      rw [unhide HL] at hlen
      have c0 := hR.cell ((n + j) * 2) _ (cl_lo (inL L j) (n + j) (by omega))
      have c1 := hR.cell ((n + j) * 2 + 1) _ (cl_hi (inL L j) (n + j) (by omega))
      generalize ((inL L j).getD (n + j) (0, 0)).1 = x0 at *
      generalize ((inL L j).getD (n + j) (0, 0)).2 = x1 at *
      obtain ⟨r1, r2⟩ := hR.set (n + j) (-3) 3 (by omega)
      have hs := inL_set L j hlt
      rw [unhide HL] at hs
      rw [hs] at r1
      have F := hide (And.intro r1 (grown_fresh hG r2 (fun k e => by cases e; exact hfr)))
      have hjn : ((n + j : Nat) : Int) < ((n + 8 : Nat) : Int) := by omega
      have HJ := hide hlt
      clear hs r1 r2 hR hG hlen hj hlt
      generalize hm : n + j = m at *
      have HM := hide hm
      clear hm
      go_wp2
      exact ⟨⟨j + 1, unhide HJ, by rw [← Nat.add_assoc, unhide HM]; go_num, (unhide F).1, (unhide F).2⟩, by have := unhide HJ; have := unhide HM; simp [intOf]; omega⟩
    · obtain rfl : j = 8 := by omega
      have R3 := hide hR; have G3 := hide hG
      have hno : ¬ ((n + 8 : Nat) : Int) < ((n + 8 : Nat) : Int) := by omega
      clear hR hG hj hlt
      generalize wr = Wa at *
      go_wp2
      go_loopw [9, 10] (fun v i wr => ∃ (k : Nat) (X : List Sp), k ≤ n ∧ i = .int .i64 k ∧ Row wr v X ∧ X.length = k ∧ (∀ s ∈ X, s ∈ L) ∧ Fresh Wa v ∧ Wa.grownBy wr none ∧ (k = 0 → v = .slice none 0 0)) (fun _ i _ => n - (intOf i).toNat)
      case atStart => exact ⟨0, [], Nat.zero_le _, rfl, row_nil _, rfl, (fun s hs => by cases hs), fresh_nil _, grown_self _ _, fun _ => rfl⟩
      case round =>
        obtain ⟨k, X, hk, rfl, hrow, hXl, hXs, hfo, hgo, hnil⟩ := hrel
        by_cases hlt : k < n
        · have hn0 : (0 : Int) < (n : Int) := by omega
          have hnz : ¬ (n : Int) = 0 := by omega
          obtain ⟨T, hT, hT2, hT3⟩ : ∃ T : Int, u.tmod (n : Int) = T ∧ 0 ≤ T ∧ T < n := ⟨_, rfl, Int.tmod_nonneg _ hu0, Int.tmod_lt_of_pos _ hn0⟩
          obtain ⟨q, hq, hq2, hq3⟩ : ∃ q : Int, ((k : Int) + T).tmod (n : Int) = q ∧ 0 ≤ q ∧ q < n := ⟨_, rfl, Int.tmod_nonneg _ (by omega), Int.tmod_lt_of_pos _ hn0⟩
          have hTe : u % (n : Int) = T := by rw [← Int.tmod_eq_emod_of_nonneg hu0]; exact hT
          have hqe : ((k : Int) + T) % (n : Int) = q := by rw [← Int.tmod_eq_emod_of_nonneg (by omega)]; exact hq
          obtain ⟨x, hx⟩ : ∃ x : Nat, (n : Int) - 1 - q = (x : Int) := ⟨((n : Int) - 1 - q).toNat, by omega⟩
          have hxn : x < L.length := by have := unhide HL; omega
          obtain ⟨ba, off, rfl, hcs⟩ := (unhide HRD) (fun e => by rw [e] at hxn; simp at hxn)
          have hgw := grown_trans (unhide G3) hgo
          have c0 := cell_grown_none hgw (hcs x hxn).1
          have c1 := cell_grown_none hgw (hcs x hxn).2
          have hmem : L.getD x (0, 0) ∈ L := by simp [List.getD, hxn]
          obtain ⟨v', w', hr, hro, hmo, hnn⟩ := app_one wr u9 X (L.getD x (0, 0)).1 (L.getD x (0, 0)).2 61 hrow (by omega)
          obtain ⟨hg', hf'⟩ := hmo.fresh (grown_trans hgo (grown_alloc _ _)) hfo
          have F := hide (show Row w' v' (X ++ [L.getD x (0, 0)]) ∧ (X ++ [L.getD x (0, 0)]).length = k + 1 ∧ (∀ s ∈ X ++ [L.getD x (0, 0)], s ∈ L) ∧ Fresh Wa v' ∧ Wa.grownBy w' none ∧ (k + 1 = 0 → v' = .slice none 0 0) from
            ⟨hro, by simp [hXl], fun s hs => by rcases List.mem_append.1 hs with h | h; exact hXs s h; rw [List.mem_singleton] at h; rw [h]; exact hmem, hf', hg', fun e => by omega⟩)
          obtain ⟨ao, co, rfl, -, -, -⟩ := hrow.shape
          generalize (L.getD x (0, 0)).1 = lo at *
          generalize (L.getD x (0, 0)).2 = hi at *
          have hxi : (x : Int) < (n : Int) := by omega
          have hkn : (k : Int) < (n : Int) := by omega
          have HLT := hide hlt
          have hTk : (k : Int) + T ≤ 9223372036854775807 := by omega
          clear hro hmo hnn hg' hf' hnil hXs hfo hgo hgw hcs hmem hrow hlt hk
          generalize X.length = xl at *
          subst hXl
          go_wp2_with (at_builtin; refine wpList_append_run _ rfl _ _ 61 61 rfl _ _ rfl rfl hr ?_)
          exact ⟨⟨xl + 1, _, unhide HLT, by go_num, unhide F⟩, by have := unhide HLT; simp [intOf]; omega⟩
        · obtain rfl : k = n := by omega
          have hno : ¬ (k : Int) < (k : Int) := by omega
          have hgA := unhide G3
          obtain ⟨v2, Wb, hap, hr2, hf2, hg2⟩ := app_all (W := Wa) (c := cap) hrow hfo hgo (fun e => hnil (by rw [← hXl, e]; rfl)) (fun e => List.length_eq_zero_iff.1 (by omega)) (unhide HL) ((unhide HRD).grown (grown_trans hgA hgo)) (by omega)
          have hRb := (unhide R3).grown hg2
          have hwb := grown_trans hgA hg2
          have hLk := unhide HL
          have hZg := putL_good (L := []) (P := L) trivial (unhide HB)
          have hO1 := of_set (.slice (some ⟨g, 0, none⟩) k (k + 8)) L L Wb (unhide HB) (unhide HB) (fun s => Iff.rfl) (by omega)
            (clone_part g 0 k (k + 8) L Wb hLk (fun j u hj => by rw [Addr.add_lit, Nat.zero_add]; exact hRb.cell j u (by unfold inL; rw [cl_append]; rw [List.getElem?_append_left (List.getElem?_eq_some_iff.1 hj).1]; exact hj)) (by omega))
          have hO2 := fun W (h : Wb.grownBy W none) => of_set v2 (X ++ L) L W (fun s hs => unhide HB s (by rcases List.mem_append.1 hs with q | q; exact hXs s q; exact q)) (unhide HB) (fun s => by rw [List.mem_append]; exact ⟨fun q => q.elim (hXs s) id, .inr⟩) (by rw [List.length_append]; omega) (clone_row v2 (X ++ L) W (hr2.keep h) (by rw [List.length_append]; omega))
          have HRb := hide hRb; have HWB := hide hwb; have HZ := hide hZg
          obtain ⟨ao, co, rfl, -, -, -⟩ := hrow.shape
          obtain ⟨a2, c2, rfl, -, -, -⟩ := hr2.shape
          generalize (X ++ L).length = n2 at *
          generalize X.length = xl at *
          have hle : k ≤ k + 8 := by omega
          have hle2 : (k : Int) ≤ (k : Int) + 8 := by omega
          clear hrow hXs hfo hgo hnil hr2 hf2 hg2 hRb hwb R3 G3 hgA hXl hZg hk hlt
          go_wp2_with (at_builtin; refine wpList_append_run _ rfl _ _ 61 61 rfl _ _ rfl rfl (hap _) ?_)
          refine hO1.mono ?_
          rintro e Wc ⟨b1, rfl, l1⟩
          have hgc := l1.grown
          have hO2' := hO2 Wc hgc
          clear hO1 hO2
          go_wp2_with fail
          refine hO2'.mono ?_
          rintro e Wd ⟨b2, rfl, l2⟩
          clear hO2'
          have HIN := hide (fun s (hs : s ∈ L) x (h1 : s.1 ≤ x) (h2 : x ≤ s.2) => (memB_putL (L := []) trivial (unhide HB) x).2 (.inr (memB_true hs h1 h2)))
          have hZl : (putL [] L).length ≤ 1048576 := by have := (unhide HZ).2; simp only [List.length_nil] at this; omega
          have hZG := (unhide HZ).1
          generalize putL [] L = Z at *
          have hru := runs_g (l1.keep l2.grown) (by omega)
          go_wp2_with fail
          refine hru.mono ?_
          rintro e We ⟨a3, c3, rfl, rd3, row3, b3a, b3b, hge⟩
          clear hru
          have hO3 := of_set (.slice a3 Z.length c3) Z Z We (good_inB hZG) (good_inB hZG) (fun s => Iff.rfl) (by omega) (clone_row _ Z We row3 (by omega))
          rw [putL_self (A := []) (B := Z) (by simpa using hZG), List.nil_append] at hO3
          go_wp2_with fail
          refine hO3.mono ?_
          rintro e Wf ⟨b3, rfl, l3⟩
          clear hO3 row3 rd3
          have hgd : Wc.grownBy Wf none := grown_trans l2.grown (grown_trans hge l3.grown)
          have HR := hide (((unhide HRb).grown hgc).grown hgd)
          have HW := hide (grown_trans (unhide HWB) (grown_trans hgc hgd))
          have HL1 := hide (l1.keep hgd); have HL2 := hide (l2.keep (grown_trans hge l3.grown)); have HL3 := hide l3
          clear l1 l2 l3 hgc hgd hge HRb HWB hap
          generalize hz : Z.length = z at *
          have HZL := hide hz
          clear hz
          go_wp2_with fail
          go_loopw [14] (fun i wr => ∃ j q : Nat, j ≤ k + 8 ∧ i = .int .i64 j ∧ wr = Wf.drewN q) (fun i _ => k + 8 - (intOf i).toNat)
          case atStart => exact ⟨0, 0, by omega, rfl, rfl⟩
          case round =>
            obtain ⟨j, q, hj, rfl, rfl⟩ := hrel
            by_cases hlt : j < k + 8
            · have hjk : (j : Int) < ((k + 8 : Nat) : Int) := by omega
              have hlen := inL_length L 8 (by omega)
              have c0 := (unhide HR).cell (j * 2) _ (cl_lo (inL L 8) j (by omega))
              have c1 := (unhide HR).cell (j * 2 + 1) _ (cl_hi (inL L 8) j (by omega))
              have HLT := hide hlt
              by_cases hjn : j < k
              · obtain ⟨ba, off, rfl, hcs⟩ := (unhide HRD) (fun e => by rw [e] at hLk; simp at hLk; omega)
                have d0 := cell_grown_none (unhide HW) (hcs j (by omega)).1
                have d1 := cell_grown_none (unhide HW) (hcs j (by omega)).2
                have e : (inL L 8).getD j (0, 0) = L.getD j (0, 0) := by
                  unfold inL
                  simp only [List.getD]
                  rw [List.getElem?_append_left (by omega)]
                rw [e] at c0 c1
                generalize (L.getD j (0, 0)).1 = x at *
                generalize (L.getD j (0, 0)).2 = y at *
                have hk1 : (j : Int) < (k : Int) := by omega
                have hk2 : decide ((j : Int) < (k : Int)) = true := decide_eq_true hk1
                have hk3 : ¬ (k : Int) ≤ (j : Int) := by omega
                have hk4 : decide ((k : Int) ≤ (j : Int)) = false := decide_eq_false hk3
                have hk5 : decide (j < k) = true := decide_eq_true hjn
                have hk6 : ¬ k ≤ j := by omega
                have hk7 : decide (k ≤ j) = false := decide_eq_false hk6
                clear hcs e hlen hj
                go_wp2
                go_quiet (fail)
                go_wp2
                exact ⟨⟨j + 1, _, unhide HLT, by go_num, rfl⟩, by have := unhide HLT; simp [intOf]; omega⟩
              · have e : (inL L 8).getD j (0, 0) = (-3, 3) := by
                  unfold inL
                  simp only [List.getD]
                  rw [List.getElem?_append_right (by omega), List.getElem?_append_left (by simp; omega), List.getElem?_replicate, if_pos (by omega)]
                  rfl
                rw [e] at c0 c1
                have hk1 : ¬ (j : Int) < (k : Int) := by omega
                have hk2 : decide ((j : Int) < (k : Int)) = false := decide_eq_false hk1
                have hk3 : (k : Int) ≤ (j : Int) := by omega
                have hk4 : decide ((k : Int) ≤ (j : Int)) = true := decide_eq_true hk3
                have hk5 : decide (j < k) = false := decide_eq_false hjn
                have hk6 : k ≤ j := by omega
                have hk7 : decide (k ≤ j) = true := decide_eq_true hk6
                simp only at c0 c1
                clear e hlen hj
                go_wp2
                go_quiet (fail)
                go_wp2
                exact ⟨⟨j + 1, _, unhide HLT, by go_num, rfl⟩, by have := unhide HLT; simp [intOf]; omega⟩
            · obtain rfl : j = k + 8 := by omega
              have hno2 : ¬ ((k + 8 : Nat) : Int) < ((k + 8 : Nat) : Int) := by omega
              clear hlt hj
              have HG := hide (grown_drewN Wf q)
              generalize Wf.drewN q = W5 at *
              have hn8 : z ≤ 8000000000000 := by omega
              have hr1 := runs_g ((unhide HL1).keep (unhide HG)) (by have := unhide HZL; omega)
              rw [unhide HZL] at hr1
              go_wp2_with fail
              refine hr1.mono ?_
              rintro e W6 ⟨a6, c6, rfl, rd6, -, b6, b6', g6⟩
              clear hr1
              have hr2 := runs_g ((unhide HL2).keep (grown_trans (unhide HG) g6)) (by have := unhide HZL; omega)
              rw [unhide HZL] at hr2
              go_wp2_with fail
              refine hr2.mono ?_
              rintro e W7 ⟨a7, c7, rfl, rd7, -, b7, b7', g7⟩
              clear hr2
              have hal := alike_true a6 a7 z c6 c7 Z W7 (unhide HZL) (rd6.grown g7) rd7 (by omega) ⟨b6, b6'⟩ ⟨b7, b7'⟩
              go_wp2_with fail
              refine hal.mono ?_
              rintro e W8 ⟨rfl, q8, hq8⟩
              have g8 : W7.grownBy W8 none := by rw [hq8]; exact grown_drewN _ _
              have hG8 := grown_trans (unhide HG) (grown_trans g6 (grown_trans g7 g8))
              clear hq8 hal rd6 rd7 g6 g7 g8 b6 b6' b7 b7' HG
              have hr1 := runs_g ((unhide HL1).keep hG8) (by have := unhide HZL; omega)
              rw [unhide HZL] at hr1
              go_wp2_with fail
              refine hr1.mono ?_
              rintro e W9 ⟨a9, c9, rfl, rd9, -, b9, b9', g9⟩
              clear hr1
              have hr2 := runs_g ((unhide HL3).keep (grown_trans hG8 g9)) (by have := unhide HZL; omega)
              rw [unhide HZL] at hr2
              go_wp2_with fail
              refine hr2.mono ?_
              rintro e W10 ⟨a10, c10, rfl, rd10, -, b10, b10', g10⟩
              clear hr2
              have hal := alike_true a9 a10 z c9 c10 Z W10 (unhide HZL) (rd9.grown g10) rd10 (by omega) ⟨b9, b9'⟩ ⟨b10, b10'⟩
              go_wp2_with fail
              refine hal.mono ?_
              rintro e W11 ⟨rfl, q11, hq11⟩
              have g11 : W10.grownBy W11 none := by rw [hq11]; exact grown_drewN _ _
              have HG := hide (grown_trans hG8 (grown_trans g9 (grown_trans g10 g11)))
              clear hq11 hal rd9 rd10 g9 g10 g11 b9 b9' b10 b10' hG8
              go_wp2_with fail
              go_loopw [15, 16] (fun ok i wr => ∃ j : Nat, j ≤ k ∧ ok = .bool true ∧ i = .int .i64 j ∧ Wf.grownBy wr none) (fun _ i _ => k - (intOf i).toNat)
              case atStart => exact ⟨0, by omega, rfl, rfl, unhide HG⟩
              case round =>
                obtain ⟨j, hj, rfl, rfl, hgj⟩ := hrel
                by_cases hlt : j < k
                · have hjL : j < L.length := by omega
                  obtain ⟨ba, off, rfl, hcs⟩ := (unhide HRD) (fun e => by rw [e] at hjL; simp at hjL)
                  have Z0 := fun W (g : Wf.grownBy W none) => cell_grown_none g (cell_grown_none (unhide HW) (hcs j hjL).1)
                  have Z1 := fun W (g : Wf.grownBy W none) => cell_grown_none g (cell_grown_none (unhide HW) (hcs j hjL).2)
                  have d0 := Z0 _ hgj
                  have d1 := Z1 _ hgj
                  have hmem : L.getD j (0, 0) ∈ L := by simp [List.getD, hjL]
                  have hin := unhide HIN _ hmem
                  have hbd := unhide HB _ hmem
                  have hho := fun W (g : Wf.grownBy W none) => holes_g ((unhide HL1).keep g) ⟨hZG, by have := unhide HZL; omega⟩ (L.getD j (0, 0)).1 (L.getD j (0, 0)).2 hbd.1 hbd.2 hin
                  generalize (L.getD j (0, 0)).1 = lo at *
                  generalize (L.getD j (0, 0)).2 = hi at *
                  have HGJ := hide hgj
                  have HLT := hide hlt
                  have hk1 : (j : Int) < (k : Int) := by omega
                  have hk2 : decide ((j : Int) < (k : Int)) = true := decide_eq_true hk1
                  have hk5 : decide (j < k) = true := decide_eq_true hlt
                  clear hcs hmem hin hbd hgj hjL hj
                  go_wp2
                  go_region_held3 (fun W => W.cell? ⟨ba, off + j * 2, none⟩ = some (.int .i64 lo) ∧ W.cell? ⟨ba, off + j * 2 + 1, none⟩ = some (.int .i64 hi)) (go_keep) (first | (go_at_call 34; refine (hho _ (grown_trans (unhide HGJ) (grown_drewN _ 1))).mono ?_; rintro e w' ⟨av, cv, rfl, hgw⟩; have hgz := grown_trans (grown_trans (unhide HGJ) (grown_drewN _ 1)) hgw; have y2 := Z0 w' hgz; have y3 := Z1 w' hgz))
                  go_wp2
                  exact ⟨⟨j + 1, unhide HLT, rfl, by go_num, hgz⟩, by have := unhide HLT; simp [intOf]; omega⟩
                · obtain rfl : j = k := by omega
                  have hno3 : ¬ (j : Int) < (j : Int) := by omega
                  have hno4 : decide ((j : Int) < (j : Int)) = false := decide_eq_false hno3
                  have hc1 := count_g ((unhide HL1).keep hgj) ⟨hZG, by have := unhide HZL; omega⟩
                  have HGJ := hide hgj
                  clear hgj
                  go_wp2_with fail
                  refine hc1.mono ?_
                  rintro e Wx ⟨rfl, gx⟩
                  have hc2' := count_g ((unhide HL2).keep (grown_trans (unhide HGJ) gx)) ⟨hZG, by have := unhide HZL; omega⟩
                  go_wp2_with fail
                  refine hc2'.mono ?_
                  rintro e Wy ⟨rfl, gy⟩
                  go_wp2_with fail
                  go_ret
                  exact ⟨rfl, grown_trans (unhide HW) (grown_trans (unhide HGJ) (grown_trans gx gy))⟩
end Go.Proofs.Ythhnemnnfbbamaa
