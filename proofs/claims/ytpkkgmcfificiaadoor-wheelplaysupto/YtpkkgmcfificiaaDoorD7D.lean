/- The document's wheel: Arm. -/
import Derived.Test.YtpkkgmcfificiaaDoorD7C
import Derived.Deep.RegionHeld3
namespace Go.Proofs.YtpkkgmcfificiaaDoor
open Go.RowKit Go.Shelf Go.Maps
set_option linter.unusedVariables false
set_option maxRecDepth 100000
set_option maxHeartbeats 2000000

def stA (x : Tm) (s : List Tm × Bool) (y : Tm) : List Tm × Bool := if ltT x y ∧ s.2 = false then (s.1 ++ [x] ++ [y], true) else (s.1 ++ [y], s.2)
def accA (x : Tm) (L : List Tm) : List Tm × Bool := L.foldl (stA x) ([], false)
theorem accA_step (x : Tm) {L : List Tm} {j : Nat} {y : Tm} (hy : L[j]? = some y) : accA x (L.take (j + 1)) = stA x (accA x (L.take j)) y := by
  unfold accA
  rw [List.take_add_one, hy, List.foldl_append]; rfl
theorem accA_in (x : Tm) : ∀ (L l : List Tm), L.foldl (stA x) (l, true) = (l ++ L, true)
  | [], l => by simp
  | y :: L, l => by
    rw [List.foldl_cons]
    have : stA x (l, true) y = (l ++ [y], true) := by unfold stA; rw [if_neg (by simp)]
    rw [this, accA_in x L]; simp
theorem accA_fin (x : Tm) : ∀ (L l : List Tm), (if (L.foldl (stA x) (l, false)).2 = true then (L.foldl (stA x) (l, false)).1 else (L.foldl (stA x) (l, false)).1 ++ [x]) = l ++ insT x L
  | [], l => by simp [insT]
  | y :: L, l => by
    rw [List.foldl_cons]
    unfold insT
    by_cases c : ltT x y
    · have : stA x (l, false) y = (l ++ [x] ++ [y], true) := by unfold stA; rw [if_pos ⟨c, rfl⟩]
      rw [this, accA_in x L, if_pos rfl, if_pos c]; simp
    · have : stA x (l, false) y = (l ++ [y], false) := by unfold stA; rw [if_neg (fun h => c h.1)]
      rw [this, accA_fin x L, if_neg c]; simp
theorem accA_len (x : Tm) : ∀ (L : List Tm) (s : List Tm × Bool), (L.foldl (stA x) s).1.length ≤ s.1.length + 2 * L.length
  | [], s => by simp
  | y :: L, s => by
    rw [List.foldl_cons]
    have h := accA_len x L (stA x s y)
    have h2 : (stA x s y).1.length ≤ s.1.length + 2 := by unfold stA; split <;> simp
    simp only [List.length_cons]
    omega

theorem St.trans {w1 w2 w3 : World} {S1 S2 S3 : Nat → Prop} (h : St w1 w2 S1 S2) (k : St w2 w3 S2 S3) : St w1 w3 S1 S3 := by
  refine ⟨⟨k.kp.os.trans h.kp.os, k.kp.tape.trans h.kp.tape, k.kp.output.trans h.kp.output, Nat.le_trans h.kp.size k.kp.size, fun g hg hn => ?_⟩, fun g hg => k.up g (h.up g hg), fun g hg => ?_⟩
  · have hs := h.kp.size
    refine (k.kp.block g (by omega) (fun h2 => ?_)).trans (h.kp.block g hg hn)
    rcases h.dn g h2 with h3 | h3
    · exact hn h3
    · omega
  · have hs := h.kp.size
    rcases k.dn g hg with h2 | h2
    · exact h.dn g h2
    · exact .inr (by omega)
theorem St.grown {w w' : World} (g : w.grownBy w' none) (S : Nat → Prop) : St w w' S S := ⟨Kp.grown g _, fun _ h => h, fun _ h => .inl h⟩

theorem rarm_any {B : Nat} {w : World} {Q : Nat → Prop} {R c : Nat} {T : List Tm} (h : RW B w Q R c T) (hn : (T.map Prod.fst).Nodup) (hl : T.length ≤ 4096) (i a : Int) :
    Calls Tryd.prog 25 #[ptr R, .int .i64 i, .int .i64 a] w fun e w' => e = .returned (.int .i64 (if armOk i a then 0 else 1)) ∧ RSt B w Q R c (armT T i a) w' := by
  by_cases ok : armOk i a
  · rw [if_pos ok]
    have eA : armT T i a = insT (i.toNat, a.toNat) (delT T i) := by unfold armT; rw [if_pos ok]
    rw [eA]
    have hc := rcancel_any h hn hl i
    obtain ⟨i0, i1, a0, a1⟩ := ok
    obtain ⟨I, rfl⟩ := Int.eq_ofNat_of_zero_le i0
    obtain ⟨A, rfl⟩ := Int.eq_ofNat_of_zero_le a0
    have dl : (delT T (I : Int)).length ≤ 4096 := Nat.le_trans (List.length_filter_le _ _) hl
    have t1 : ¬ (4096 : Int) ≤ (I : Int) := by omega
    have t2 : ¬ (4611686018427387904 : Int) ≤ (A : Int) := by omega
    have t3 : ¬ (I : Int) < 0 := by omega
    have t4 : ¬ (A : Int) < 0 := by omega
    simp only [Int.toNat_natCast]
    generalize delT T (I : Int) = D at *
    clear eA h hn hl
    go_enter Tryd.func25, Tryd.ntmps25
    go_wp2_with fail
    refine hc.mono ?_
    rintro e w1 ⟨rfl, Q1, rw1, st1⟩
    have RW1 := hide rw1; have ST1 := hide st1
    clear hc rw1 st1
    generalize (if T.any (fun p => decide ((p.1 : Int) = (I : Int))) then (0 : Int) else 4) = code at *
    go_wp2_with fail
    have gA := World.grownBy_alloc w1 (.cells #[.int .i64 (I : Int), .int .i64 (A : Int)] 69) none
    have bT := Blk.new w1 #[.int .i64 (I : Int), .int .i64 (A : Int)] 69
    generalize w1.alloc (.cells #[.int .i64 (I : Int), .int .i64 (A : Int)] 69) = W2 at *
    generalize w1.heap.size = gt at *
    have rw2 := (unhide RW1).grown gA
    have ST2 := hide ((unhide ST1).trans (St.grown gA Q1))
    obtain ⟨al, cp, b, r⟩ := rw2.ex
    have cap := r.cap
    have Z0 := hide (bT.cell 0 (.int .i64 (I : Int)) rfl)
    have Z1 := hide (bT.cell 1 (.int .i64 (A : Int)) rfl)
    have Z2 := hide (b.cell 1 (.slice al D.length cp) rfl)
    have RR := hide r; have BB := hide b; have RW2 := hide rw2
    have lI : ¬ (9223372036854775807 : Int) < (D.length : Int) := by omega
    clear gA bT RW1 ST1 b r rw2
    go_loopw [8, 9, 10] (fun lv nv iv wr => ∃ (l1 : Value) (j : Nat) (s : Bool), j ≤ D.length ∧ Hid (l1 = lv) ∧ nv = .bool s ∧ iv = .int .i64 j ∧ Hid ((accA (I, A) (D.take j)).2 = s) ∧ Hid (TL W2 wr l1 (accA (I, A) (D.take j)).1)) (fun _ _ iv _ => D.length - (intOf iv).toNat)
    case atStart => exact ⟨_, 0, false, Nat.zero_le _, rfl, rfl, rfl, rfl, TL.nil W2⟩
    case round =>
      obtain ⟨l1, j, s, hj, el, rfl, rfl, HS, H⟩ := hrel
      have el := unhide el
      subst el
      have gr := (unhide H).gr
      have z0 := gr.cell (unhide Z0) (by simp)
      have z1 := gr.cell (unhide Z1) (by simp)
      have z2 := gr.cell (unhide Z2) (by simp)
      have few : (accA (I, A) (D.take j)).1.length ≤ 8192 := by
        have := accA_len (I, A) (D.take j) ([], false)
        simp only [List.length_nil, List.length_take] at this
        show ((D.take j).foldl (stA (I, A)) ([], false)).1.length ≤ 8192
        omega
      by_cases hlt : j < D.length
      · have jN : (j : Int) < (D.length : Int) := by omega
        obtain ⟨y, hy⟩ : ∃ y, D[j]? = some y := ⟨D[j], by simp⟩
        obtain ⟨g, off, rfl, hgn, hq, hgl, hcl⟩ := (unhide RR).at_.resolve_left (fun e => by rw [e] at hlt; simp at hlt)
        have Z3 := hide (hcl j y hy).1
        have Z4 := hide (hcl j y hy).2
        have z3 := gr.cell (unhide Z3) (by simp)
        have z4 := gr.cell (unhide Z4) (by simp)
        have AS := hide (accA_step (I, A) hy)
        have hin := unhide HS
        have AH := hide (fun W => ahead_doc (I, A) y W)
        generalize accA (I, A) (D.take j) = P at *
        clear hcl hy gr RR HS hgn hq hgl
        by_cases hlt2 : ltT (I, A) y
        · cases s with
          | false =>
            have AH := hide (fun W => by have := unhide AH W; rw [decide_eq_true hlt2] at this; exact this)
            go_upto_region 10 with fail
            go_region_held3 (fun W => W.cell? ⟨gt, 0, none⟩ = some (.int .i64 (I : Int)) ∧ W.cell? ⟨gt, 1, none⟩ = some (.int .i64 (A : Int)) ∧ W.cell? ⟨R, 1, none⟩ = some (.slice (some ⟨g, off, none⟩) D.length cp) ∧ W.cell? ⟨g, off + j * 2, none⟩ = some (.int .i64 (y.1 : Int)) ∧ W.cell? ⟨g, off + j * 2 + 1, none⟩ = some (.int .i64 (y.2 : Int))) (go_keep) (first | (go_at_call 35; refine (unhide AH _).mono ?_; rintro e Ws ⟨rfl, gs⟩; have gs' : World.grownBy wr Ws none := World.grownBy.trans (by (first | with_reducible exact World.grownBy.refl _ none | with_reducible exact grown_drew' (World.grownBy.refl _ none) | with_reducible exact grown_drewN (World.grownBy.refl _ none) | with_reducible exact World.grownBy_alloc _ _ none | with_reducible exact grown_drew' (World.grownBy_alloc _ _ none) | with_reducible exact (grown_drew' (World.grownBy.refl _ none)).trans (World.grownBy_alloc _ _ none) | with_reducible exact (grown_drewN (World.grownBy.refl _ none)).trans (World.grownBy_alloc _ _ none))) gs; have b0 := gs'.cell z0 (by simp); have b1 := gs'.cell z1 (by simp); have b2 := gs'.cell z2 (by simp); have b3 := gs'.cell z3 (by simp); have b4 := gs'.cell z4 (by simp)))
            obtain ⟨g1, c1, Wa, r1, T1⟩ := ((unhide H).grown gs').push (I, A) (by omega)
            have s0 := T1.gr.cell (unhide Z0) (by simp); have s1 := T1.gr.cell (unhide Z1) (by simp); have s2 := T1.gr.cell (unhide Z2) (by simp); have s3 := T1.gr.cell (unhide Z3) (by simp); have s4 := T1.gr.cell (unhide Z4) (by simp)
            obtain ⟨g2, c2, Wb, r2, T2⟩ := T1.push y (by simp; omega)
            rw [show (P.1 ++ [(I, A)]).length = P.1.length + 1 by simp] at r2 T2
            have R1 := hide r1; have R2 := hide r2
            have E : Hid (TL W2 Wb (.slice (some ⟨g2, 0, none⟩) (P.1.length + 1 + 1) c2) (accA (I, A) (D.take (j + 1))).1) := by rw [unhide AS]; unfold stA; rw [if_pos ⟨hlt2, hin⟩]; exact T2
            have F : Hid ((accA (I, A) (D.take (j + 1))).2 = true) := by show _ = _; rw [unhide AS]; unfold stA; rw [if_pos ⟨hlt2, hin⟩]
            clear AS hlt2 gs gs' r1 r2 T1 T2 H
            go_wp2_with (at_builtin; first | refine wpList_append_runQ _ rfl _ _ 60 60 rfl _ _ rfl rfl (unhide R1) ?_ | refine wpList_append_runQ _ rfl _ _ 60 60 rfl _ _ rfl rfl (unhide R2) ?_)
            exact ⟨⟨_, j + 1, true, by omega, rfl, rfl, by go_num, F, E⟩, by simp [intOf]; omega⟩
          | true =>
            have AH := hide (fun W => by have := unhide AH W; rw [decide_eq_true hlt2] at this; exact this)
            go_upto_region 10 with fail
            go_region_held3 (fun W => W.cell? ⟨gt, 0, none⟩ = some (.int .i64 (I : Int)) ∧ W.cell? ⟨gt, 1, none⟩ = some (.int .i64 (A : Int)) ∧ W.cell? ⟨R, 1, none⟩ = some (.slice (some ⟨g, off, none⟩) D.length cp) ∧ W.cell? ⟨g, off + j * 2, none⟩ = some (.int .i64 (y.1 : Int)) ∧ W.cell? ⟨g, off + j * 2 + 1, none⟩ = some (.int .i64 (y.2 : Int))) (go_keep) (first | (go_at_call 35; refine (unhide AH _).mono ?_; rintro e Ws ⟨rfl, gs⟩; have gs' : World.grownBy wr Ws none := World.grownBy.trans (by (first | with_reducible exact World.grownBy.refl _ none | with_reducible exact grown_drew' (World.grownBy.refl _ none) | with_reducible exact grown_drewN (World.grownBy.refl _ none) | with_reducible exact World.grownBy_alloc _ _ none | with_reducible exact grown_drew' (World.grownBy_alloc _ _ none) | with_reducible exact (grown_drew' (World.grownBy.refl _ none)).trans (World.grownBy_alloc _ _ none) | with_reducible exact (grown_drewN (World.grownBy.refl _ none)).trans (World.grownBy_alloc _ _ none))) gs; have b0 := gs'.cell z0 (by simp); have b1 := gs'.cell z1 (by simp); have b2 := gs'.cell z2 (by simp); have b3 := gs'.cell z3 (by simp); have b4 := gs'.cell z4 (by simp)))
            obtain ⟨g2, c2, Wb, r2, T2⟩ := ((unhide H).grown gs').push y (by omega)
            have R2 := hide r2
            have E : Hid (TL W2 Wb (.slice (some ⟨g2, 0, none⟩) (P.1.length + 1) c2) (accA (I, A) (D.take (j + 1))).1) := by rw [unhide AS]; unfold stA; rw [if_neg (fun h => by rw [hin] at h; cases h.2)]; exact T2
            have F : Hid ((accA (I, A) (D.take (j + 1))).2 = true) := by show _ = _; rw [unhide AS]; unfold stA; rw [if_neg (fun h => by rw [hin] at h; cases h.2)]; exact hin
            clear AS hlt2 gs gs' r2 T2 H
            go_wp2_with (at_builtin; refine wpList_append_runQ _ rfl _ _ 60 60 rfl _ _ rfl rfl (unhide R2) ?_)
            exact ⟨⟨_, j + 1, true, by omega, rfl, rfl, by go_num, F, E⟩, by simp [intOf]; omega⟩
        · cases s with
          | false =>
            have AH := hide (fun W => by have := unhide AH W; rw [decide_eq_false hlt2] at this; exact this)
            go_upto_region 10 with fail
            go_region_held3 (fun W => W.cell? ⟨gt, 0, none⟩ = some (.int .i64 (I : Int)) ∧ W.cell? ⟨gt, 1, none⟩ = some (.int .i64 (A : Int)) ∧ W.cell? ⟨R, 1, none⟩ = some (.slice (some ⟨g, off, none⟩) D.length cp) ∧ W.cell? ⟨g, off + j * 2, none⟩ = some (.int .i64 (y.1 : Int)) ∧ W.cell? ⟨g, off + j * 2 + 1, none⟩ = some (.int .i64 (y.2 : Int))) (go_keep) (first | (go_at_call 35; refine (unhide AH _).mono ?_; rintro e Ws ⟨rfl, gs⟩; have gs' : World.grownBy wr Ws none := World.grownBy.trans (by (first | with_reducible exact World.grownBy.refl _ none | with_reducible exact grown_drew' (World.grownBy.refl _ none) | with_reducible exact grown_drewN (World.grownBy.refl _ none) | with_reducible exact World.grownBy_alloc _ _ none | with_reducible exact grown_drew' (World.grownBy_alloc _ _ none) | with_reducible exact (grown_drew' (World.grownBy.refl _ none)).trans (World.grownBy_alloc _ _ none) | with_reducible exact (grown_drewN (World.grownBy.refl _ none)).trans (World.grownBy_alloc _ _ none))) gs; have b0 := gs'.cell z0 (by simp); have b1 := gs'.cell z1 (by simp); have b2 := gs'.cell z2 (by simp); have b3 := gs'.cell z3 (by simp); have b4 := gs'.cell z4 (by simp)))
            obtain ⟨g2, c2, Wb, r2, T2⟩ := ((unhide H).grown gs').push y (by omega)
            have R2 := hide r2
            have E : Hid (TL W2 Wb (.slice (some ⟨g2, 0, none⟩) (P.1.length + 1) c2) (accA (I, A) (D.take (j + 1))).1) := by rw [unhide AS]; unfold stA; rw [if_neg (fun h => hlt2 h.1)]; exact T2
            have F : Hid ((accA (I, A) (D.take (j + 1))).2 = false) := by show _ = _; rw [unhide AS]; unfold stA; rw [if_neg (fun h => hlt2 h.1)]; exact hin
            clear AS hlt2 gs gs' r2 T2 H
            go_wp2_with (at_builtin; refine wpList_append_runQ _ rfl _ _ 60 60 rfl _ _ rfl rfl (unhide R2) ?_)
            exact ⟨⟨_, j + 1, false, by omega, rfl, rfl, by go_num, F, E⟩, by simp [intOf]; omega⟩
          | true =>
            have AH := hide (fun W => by have := unhide AH W; rw [decide_eq_false hlt2] at this; exact this)
            go_upto_region 10 with fail
            go_region_held3 (fun W => W.cell? ⟨gt, 0, none⟩ = some (.int .i64 (I : Int)) ∧ W.cell? ⟨gt, 1, none⟩ = some (.int .i64 (A : Int)) ∧ W.cell? ⟨R, 1, none⟩ = some (.slice (some ⟨g, off, none⟩) D.length cp) ∧ W.cell? ⟨g, off + j * 2, none⟩ = some (.int .i64 (y.1 : Int)) ∧ W.cell? ⟨g, off + j * 2 + 1, none⟩ = some (.int .i64 (y.2 : Int))) (go_keep) (first | (go_at_call 35; refine (unhide AH _).mono ?_; rintro e Ws ⟨rfl, gs⟩; have gs' : World.grownBy wr Ws none := World.grownBy.trans (by (first | with_reducible exact World.grownBy.refl _ none | with_reducible exact grown_drew' (World.grownBy.refl _ none) | with_reducible exact grown_drewN (World.grownBy.refl _ none) | with_reducible exact World.grownBy_alloc _ _ none | with_reducible exact grown_drew' (World.grownBy_alloc _ _ none) | with_reducible exact (grown_drew' (World.grownBy.refl _ none)).trans (World.grownBy_alloc _ _ none) | with_reducible exact (grown_drewN (World.grownBy.refl _ none)).trans (World.grownBy_alloc _ _ none))) gs; have b0 := gs'.cell z0 (by simp); have b1 := gs'.cell z1 (by simp); have b2 := gs'.cell z2 (by simp); have b3 := gs'.cell z3 (by simp); have b4 := gs'.cell z4 (by simp)))
            obtain ⟨g2, c2, Wb, r2, T2⟩ := ((unhide H).grown gs').push y (by omega)
            have R2 := hide r2
            have E : Hid (TL W2 Wb (.slice (some ⟨g2, 0, none⟩) (P.1.length + 1) c2) (accA (I, A) (D.take (j + 1))).1) := by rw [unhide AS]; unfold stA; rw [if_neg (fun h => hlt2 h.1)]; exact T2
            have F : Hid ((accA (I, A) (D.take (j + 1))).2 = true) := by show _ = _; rw [unhide AS]; unfold stA; rw [if_neg (fun h => hlt2 h.1)]; exact hin
            clear AS hlt2 gs gs' r2 T2 H
            go_wp2_with (at_builtin; refine wpList_append_runQ _ rfl _ _ 60 60 rfl _ _ rfl rfl (unhide R2) ?_)
            exact ⟨⟨_, j + 1, true, by omega, rfl, rfl, by go_num, F, E⟩, by simp [intOf]; omega⟩
      · have jN : ¬ (j : Int) < (D.length : Int) := by omega
        have fin := accA_fin (I, A) D []
        have eP : D.foldl (stA (I, A)) ([], false) = accA (I, A) (D.take j) := by rw [List.take_of_length_le (by omega)]; rfl
        rw [eP, unhide HS, List.nil_append] at fin
        have th := ((unhide BB).grown gr).thaw 1
        generalize accA (I, A) (D.take j) = P at *
        cases s with
        | true =>
          rw [if_pos rfl] at fin
          obtain ⟨a1, c1, rfl⟩ := (unhide H).shape
          obtain ⟨Q3, rw3, st3⟩ := rw_store (unhide RW2) (unhide H)
          have E : Hid (RSt B w Q R c (insT (I, A) D) (wr.setCell ⟨R, 1, none⟩ (.slice a1 P.1.length c1))) := by
            rw [← fin]
            exact ⟨Q3, rw3, (unhide ST2).trans st3⟩
          clear gr H rw3 st3 fin eP RR HS
          go_wp2_with fail
          go_ret
          exact ⟨rfl, unhide E⟩
        | false =>
          rw [if_neg (by simp)] at fin
          obtain ⟨g1, c1, Wa, r1, T1⟩ := (unhide H).push (I, A) (by omega)
          have s2 := T1.gr.cell (unhide Z2) (by simp)
          have th2 := ((unhide BB).grown T1.gr).thaw 1
          obtain ⟨Q3, rw3, st3⟩ := rw_store (unhide RW2) T1
          rw [fin] at rw3
          have R1 := hide r1
          have E := hide (show RSt B w Q R c (insT (I, A) D) _ from ⟨Q3, rw3, (unhide ST2).trans st3⟩)
          clear gr H rw3 st3 fin eP RR HS r1 T1 th
          go_wp2_with (at_builtin; refine wpList_append_runQ _ rfl _ _ 60 60 rfl _ _ rfl rfl (unhide R1) ?_)
          go_ret
          exact ⟨rfl, unhide E⟩
  · rw [if_neg ok]
    have E := hide (show RSt B w Q R c (armT T i a) w by unfold armT; rw [if_neg ok]; exact h.st)
    clear h hn hl
    unfold armOk at ok
    by_cases c1 : i < 0
    · clear ok
      go_enter Tryd.func25, Tryd.ntmps25
      go_wp2_with fail
      go_ret
      exact ⟨rfl, unhide E⟩
    · by_cases c2 : 4096 ≤ i
      · clear ok
        go_enter Tryd.func25, Tryd.ntmps25
        go_wp2_with fail
        go_ret
        exact ⟨rfl, unhide E⟩
      · by_cases c3 : a < 0
        · clear ok
          go_enter Tryd.func25, Tryd.ntmps25
          go_wp2_with fail
          go_ret
          exact ⟨rfl, unhide E⟩
        · have c4 : 4611686018427387904 ≤ a := by omega
          clear ok
          go_enter Tryd.func25, Tryd.ntmps25
          go_wp2_with fail
          go_ret
          exact ⟨rfl, unhide E⟩
end Go.Proofs.YtpkkgmcfificiaaDoor
