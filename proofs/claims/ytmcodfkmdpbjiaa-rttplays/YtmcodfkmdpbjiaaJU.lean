/- RttDelay. -/
import Derived.Test.YtmcodfkmdpbjiaaJT
namespace Go.Proofs.Ytmcodfkmdpbjiaa
open Go.RowKit
set_option linter.unusedVariables false
set_option maxRecDepth 100000
set_option maxHeartbeats 4000000

def restF (s : Es) (l d : Int) : Int := if s.has = true ∧ min s.least l ≤ l - d then l - d else l
theorem rest_in {s : Es} (ok : s.Ok) {l d : Int} (hl : inT l) (hd : inT d) : inT (restF s l d) := by
  have := ok.m
  unfold restF
  split <;> omega
theorem delay_eq {s : Es} (ok : s.Ok) (hr : s.restart = false) (latest delay : Int) : smpF 0 (restF s (sp latest) (sp delay)) 0 s = { smpF 0 latest delay s with latest := restF s (sp latest) (sp delay) } := by
  have hl := sp_b latest
  have hd := sp_b delay
  have hm := ok.m
  have z : sp 0 = 0 := by decide
  have hri := rest_in ok hl hd
  have e : sp (restF s (sp latest) (sp delay)) = restF s (sp latest) (sp delay) := by
    generalize restF s (sp latest) (sp delay) = r at *
    unfold sp
    omega
  unfold smpF
  rw [e, z]
  generalize sp latest = l at *
  generalize hD : sp delay = d at *
  generalize hR : restF s l d = R at *
  cases hh : s.has with
  | false =>
    have hx : R = l := by rw [← hR]; unfold restF; rw [if_neg (by simp [hh])]
    rw [hx]
    simp
  | true =>
    have hA : leastF s.restart R s.least = leastF s.restart l s.least ∧ adjF (leastF s.restart l s.least) R 0 = adjF (leastF s.restart l s.least) l d := by
      rw [hr]
      unfold restF at hR
      rw [hh] at hR
      unfold leastF adjF
      by_cases c : min s.least l ≤ l - d
      · rw [if_pos ⟨rfl, c⟩] at hR
        subst hR
        by_cases c2 : l < s.least
        · have : d = 0 := by omega
          subst this
          simp
        · have c3 : ¬ l - d < s.least := by omega
          have c4 : s.least + d ≤ l := by omega
          have c5 : s.least + 0 ≤ l - d := by omega
          simp [c2, c3, c4]
      · rw [if_neg (fun h => c h.2)] at hR
        subst hR
        refine ⟨rfl, ?_⟩
        by_cases c2 : l < s.least
        · have c3 : ¬ l + d ≤ l := by omega
          simp [c2]
          omega
        · have c3 : ¬ s.least + d ≤ l := by omega
          simp [c2, c3]
    rw [hA.1, hA.2]
    simp

/-- Where two estimators that are made so lie. -/
theorem two_start {w w1 w2 w3 : World} {I G I' G' : Int} (fits : fitsF I G) (fits' : fitsF I' G') (g1 : w.grownBy w1 none) (h2 : w2 = (w1.alloc (.cells (rsc (rs0 I G)) 32)).alloc (.cells (esc (es0 I G)) 54)) (h3 : w3 = ((w2.alloc (.cells (rsc (rs0 I G)) 32)).alloc (.cells (rsc (rs0 I' G')) 32)).alloc (.cells (esc (es0 I' G')) 54)) :
    TQ w (w3.alloc (.cells (rsc (rs0 I' G')) 32)) (w1.heap.size + 1) (w2.heap.size + 1 + 1) (es0 I G) (es0 I' G') := by
  have q2 : QE w w2 (w1.heap.size + 1) (es0 I G) := by
    rw [h2]
    exact ⟨(Blk.two w1 _ _ _ _).2.1, by have := g1.size; omega, gtrans g1 (Blk.two w1 _ _ _ _).2.2⟩
  have z := alloc_size w2 (.cells (rsc (rs0 I G)) 32)
  have T := Blk.two (w2.alloc (.cells (rsc (rs0 I G)) 32)) (rsc (rs0 I' G')) (esc (es0 I' G')) 32 54
  rw [← h3, z] at T
  have ga := World.grownBy_alloc w3 (.cells (rsc (rs0 I' G')) 32) none
  have g23 : w2.grownBy w3 none := gtrans (World.grownBy_alloc w2 _ none) T.2.2
  have s1 := q2.grown.size
  have l2 := q2.at_.lt
  exact ⟨(q2.keep g23).keep ga, ⟨EB.grown T.2.1 ga, by omega, gtrans (gtrans q2.grown g23) ga⟩, es0_ok fits, es0_ok fits', by omega⟩

theorem delay_walk (a0 : Option Addr) (len cap : Nat) (ol : List OpE) (latest delay : Int) (w : World) (h : IsOps w a0 len cap ol) :
    Calls Try.prog 7 #[.slice a0 len cap, .int .i64 latest, .int .i64 delay] w fun e w' => e = .returned (.bool true) ∧ w.grownBy w' none := by
  have sh := shown_any w
  have HO := hide h
  have hl := h.hlen
  have hcap := h.hcap
  have lenI : ¬ (9223372036854775807 : Int) < (len : Int) := by omega
  have he := fun W => est_any 333000 1000 W
  have hx := into_any latest
  have hy := into_any delay
  clear h
  go_enter Try.func7, Try.ntmps7
  go_wp2_with fail
  refine sh.mono ?_
  rintro e w1 ⟨rfl, g1⟩
  clear sh
  go_wp2_with fail
  refine (he _).mono ?_
  rintro e w2 ⟨rfl, hw2⟩
  have TS := hide (fun w3 => two_start (w3 := w3) (e_fits 333000 1000) (e_fits 333000 1000) g1 hw2)
  clear hw2
  unfold rsc rs0 at *
  generalize eI 333000 = I at *
  generalize eG 1000 = G at *
  go_wp2_with fail
  refine (he _).mono ?_
  rintro e w3 ⟨rfl, hw3⟩
  have z := alloc_size w2 (.cells #[.int .i64 I, .int .i64 G, .int .i64 0, .bool false, .bool false, .int .i64 0, .int .i64 0, .int .i64 0, .int .i64 0, .int .i64 0] 32)
  have T0 := hide (unhide TS w3 hw3)
  rw [z]
  clear he hw3 g1 TS z
  generalize w1.heap.size + 1 = a at *
  generalize w2.heap.size + 1 + 1 = b at *
  go_wp2_with fail
  generalize w3.alloc _ = w4 at *
  go_loopw [12] (fun i wr => ∃ (k : Nat) (s : Es), k ≤ len ∧ i = .int .i64 k ∧ Hid (TQ w wr a b s s ∧ s.restart = false)) (fun i _ => len - (intOf i).toNat)
  case atStart => exact ⟨0, _, Nat.zero_le _, rfl, ⟨unhide T0, rfl⟩⟩
  case round =>
    clear T0
    obtain ⟨k, s, hk, rfl, H⟩ := hrel
    by_cases hlt : k < len ∧ k < 4000
    · obtain ⟨bo, off, rfl, hcs⟩ := (unhide HO).cell.resolve_left (by omega)
      have hx' : ol[k]? = some ol[k] := List.getElem?_eq_getElem _
      have hcx := hcs k _ hx'
      generalize ol[k] = y at *
      have gr := (unhide H).1.qa.grown
      have c0 : wr.cell? ⟨bo, off + k * 5, none⟩ = some (.bool y.rs) := cell_grown (hcx 0 _ rfl) gr
      have c2 : wr.cell? ⟨bo, off + k * 5 + 2, none⟩ = some (.int .i64 y.now) := cell_grown (hcx 2 _ rfl) gr
      have c3 : wr.cell? ⟨bo, off + k * 5 + 3, none⟩ = some (.int .i64 y.latest) := cell_grown (hcx 3 _ rfl) gr
      have c4 : wr.cell? ⟨bo, off + k * 5 + 4, none⟩ = some (.int .i64 y.delay) := cell_grown (hcx 4 _ rfl) gr
      have kn : (k : Int) < (len : Int) := by omega
      have k4 : (k : Int) < 4000 := by omega
      have SA := fun q => tq_a ((unhide H).1.keep (drewN_grown wr q)) y.now y.latest y.delay
      have HLT := hide hlt
      have CC : Hid (∀ X s' t', TQ w X a b s' t' → X.cell? ⟨bo, off + k * 5 + 2, none⟩ = some (.int .i64 y.now) ∧ X.cell? ⟨bo, off + k * 5 + 3, none⟩ = some (.int .i64 y.latest) ∧ X.cell? ⟨bo, off + k * 5 + 4, none⟩ = some (.int .i64 y.delay)) := fun X s' t' hX => ⟨cell_grown (hcx 2 _ rfl) hX.qa.grown, cell_grown (hcx 3 _ rfl) hX.qa.grown, cell_grown (hcx 4 _ rfl) hX.qa.grown⟩
      clear hcs hcx hx' gr hlt hk
      cases hr : y.rs with
      | true =>
        rw [hr] at c0
        clear SA
        go_wp2_with fail
        go_roundw
        case rel => exact ⟨k + 1, _, (unhide HLT).1, by go_num, H⟩
        case measure => have := unhide HLT; simp [intOf]; omega
      | false =>
        rw [hr] at c0
        go_wp2_with fail
        go_region_held3 (fun X => X.cell? ⟨bo, off + k * 5 + 2, none⟩ = some (.int .i64 y.now) ∧ X.cell? ⟨bo, off + k * 5 + 3, none⟩ = some (.int .i64 y.latest) ∧ X.cell? ⟨bo, off + k * 5 + 4, none⟩ = some (.int .i64 y.delay)) (go_keep) (first | (go_at_call 14; refine (SA 1).mono ?_; rintro e W2 ⟨rfl, S2, G2⟩; have z2 := (unhide CC W2 _ _ S2).1; have z3 := (unhide CC W2 _ _ S2).2.1; have z4 := (unhide CC W2 _ _ S2).2.2))
        have SB := fun q => tq_b (S2.keep (drewN_grown W2 q)) y.now y.latest y.delay
        clear SA S2 G2 c0 c2 c3 c4 H
        go_wp2_with fail
        go_region_held3 (fun X => X.cell? ⟨bo, off + k * 5 + 2, none⟩ = some (.int .i64 y.now) ∧ X.cell? ⟨bo, off + k * 5 + 3, none⟩ = some (.int .i64 y.latest) ∧ X.cell? ⟨bo, off + k * 5 + 4, none⟩ = some (.int .i64 y.delay)) (go_keep) (first | (go_at_call 14; refine (SB 1).mono ?_; rintro e W3 ⟨rfl, S3, G3⟩; have y2 := (unhide CC W3 _ _ S3).1; have y3 := (unhide CC W3 _ _ S3).2.1; have y4 := (unhide CC W3 _ _ S3).2.2))
        have R : Hid (TQ w W3 a b (smpF y.now y.latest y.delay s) (smpF y.now y.latest y.delay s) ∧ (smpF y.now y.latest y.delay s).restart = false) := ⟨S3, smp_rs _ _ _ _⟩
        clear SB S3 G3 z2 z3 z4 y2 y3 y4 CC
        go_wp2_with fail
        go_roundw
        case rel => exact ⟨k + 1, _, (unhide HLT).1, by go_num, R⟩
        case measure => have := unhide HLT; simp [intOf]; omega
    · have alt : (¬ (k : Int) < (len : Int)) ∨ ((k : Int) < (len : Int) ∧ ¬ (k : Int) < 4000) := by omega
      clear hlt
      obtain ⟨T, hrs⟩ := unhide H
      have dq := delay_eq T.oka hrs latest delay
      have lb := sp_b latest
      have db := sp_b delay
      have sl := sp_sp latest
      have ok := T.oka
      have V1 := tq_va T
      have REST : Hid (restF s (sp latest) (sp delay) = if s.has = true ∧ min s.least (sp latest) ≤ sp latest - sp delay then sp latest - sp delay else sp latest) := rfl
      have S1 := fun X (hX : TQ w X a b s s) => tq_a hX 0 latest delay
      have S2 := fun X t (hX : TQ w X a b t s) => tq_b hX 0 (restF s (sp latest) (sp delay)) 0
      rw [dq] at S2
      have hs := smp_has 0 latest delay s
      have mb := ok.m
      clear H hrs dq T
      generalize smpF 0 latest delay s = s' at *
      generalize hR : restF s (sp latest) (sp delay) = R at *
      generalize sp latest = l at *
      generalize sp delay = d at *
      obtain ⟨hs1, hs2⟩ := hs
      have VA : viewF s' = #[.bool true, .int .i64 l, .int .i64 s'.least, .int .i64 s'.smooth, .int .i64 s'.var, .int .i64 s'.first] := by unfold viewF; rw [hs1, hs2]; rfl
      have VB : viewF { s' with latest := R } = #[.bool true, .int .i64 R, .int .i64 s'.least, .int .i64 s'.smooth, .int .i64 s'.var, .int .i64 s'.first] := by unfold viewF; simp only [hs1]; rfl
      have BE : baseF { s' with latest := R } = baseF s' := rfl
      have ways : (s.has = false ∧ l = R) ∨ (s.has = true ∧ min s.least l ≤ l - d ∧ R = l - d) ∨ (s.has = true ∧ ¬ min s.least l ≤ l - d ∧ l = R) := by
        rw [unhide REST]
        by_cases c1 : s.has = true
        · by_cases c2 : min s.least l ≤ l - d
          · exact .inr (.inl ⟨c1, c2, if_pos ⟨c1, c2⟩⟩)
          · exact .inr (.inr ⟨c1, c2, (if_neg (fun h => c2 h.2)).symm⟩)
        · exact .inl ⟨by simpa using c1, (if_neg (fun h => c1 h.1)).symm⟩
      have vs : ∀ h, s.has = h → viewF s = if h = true then #[.bool true, .int .i64 s.latest, .int .i64 s.least, .int .i64 s.smooth, .int .i64 s.var, .int .i64 s.first] else zrt := by
        rintro h rfl
        unfold viewF rtc
        rfl
      obtain ⟨lb1, lb2⟩ := lb
      obtain ⟨db1, db2⟩ := db
      obtain ⟨mb1, mb2⟩ := mb
      have CVA := fun X (hX : TQ w X a b s' { s' with latest := R }) => tq_va hX
      have CVB := fun X (hX : TQ w X a b s' { s' with latest := R }) => tq_vb hX
      have CBA := fun X (hX : TQ w X a b s' { s' with latest := R }) => tq_ba hX
      have CBB := fun X (hX : TQ w X a b s' { s' with latest := R }) => tq_bb hX
      rw [VA] at CVA
      rw [VB] at CVB
      rw [BE] at CBB
      clear ok REST VA VB BE hs1 hs2
      generalize ({ s' with latest := R } : Es) = sR at *
      generalize baseF s' = BB at *
      generalize s'.least = le' at *
      generalize s'.smooth = sm' at *
      generalize s'.var = va' at *
      generalize s'.first = fi' at *
      rcases alt with hk1 | ⟨hk1, hk2⟩
      all_goals
        go_wp2_with fail
        refine (hx _).mono ?_
        rintro e W2 ⟨rfl, hW2⟩
        replace hW2 := hW2.symm
        subst hW2
        go_wp2_with fail
        refine (hy _).mono ?_
        rintro e W2 ⟨rfl, hW2⟩
        replace hW2 := hW2.symm
        subst hW2
        go_wp2_with fail
        refine V1.mono ?_
        rintro e W3 ⟨rfl, T3, -⟩
        clear V1 hx hy hk
        rcases ways with ⟨hh, hRe⟩ | ⟨hh, hc, hRe⟩ | ⟨hh, hc, hRe⟩
      all_goals
        rw [vs _ hh]
        first | rw [if_pos rfl] | rw [if_neg (by decide)]
        clear vs hh
        subst hRe
        go_wp2_with fail
      all_goals
        have na := T3.qa.at_.lt
        have nb := T3.qb.at_.lt
        have nw := T3.qa.grown.size
        refine (S1 _ (T3.keep (World.grownBy_alloc W3 _ none))).mono ?_
        rintro e W4 ⟨rfl, T4, g4⟩
        have B4 := (Blk.new W3 _ _).far g4 (by omega)
        clear S1 T3 g4
        go_wp2_with fail
        refine (S2 _ _ T4).mono ?_
        rintro e W5 ⟨rfl, T5, g5⟩
        have B5 := B4.far g5 (by omega)
        clear S2 T4 B4 g5
        go_wp2_with fail
        refine (CVA _ T5).mono ?_
        rintro e W6 ⟨rfl, T6, g6⟩
        have B6 := B5.grown g6
        clear T5 B5 g6 CVA
        obtain ⟨x0, x1, x2, x3, x4, x5⟩ := B6.sixes
        have tx := B6.thaws
        generalize W3.heap.size = c at *
        have T7 := T6.far (grown_six (World.grownBy.refl W6 (some c)) (.bool true) (.int .i64 l) (.int .i64 le') (.int .i64 sm') (.int .i64 va') (.int .i64 fi')) (by omega) (by omega) (by omega)
        have B7 := B6.set6 (.bool true) (.int .i64 l) (.int .i64 le') (.int .i64 sm') (.int .i64 va') (.int .i64 fi')
        clear T6 B6
        go_wp2_with fail
        refine (CVB _ T7).mono ?_
        rintro e W8 ⟨rfl, T8, g8⟩
        have B8 := B7.grown g8
        clear T7 B7 g8 CVB x0 x1 x2 x3 x4 x5 tx
        obtain ⟨x0, x1, x2, x3, x4, x5⟩ := B8.sixes
        have l8 := B8.lt
        clear B8
        go_wp2_with fail
        refine (CBA _ (T8.keep (World.grownBy_alloc W8 _ none))).mono ?_
        rintro e W9 ⟨rfl, T9, -⟩
        clear T8 CBA
        go_wp2_with fail
        refine (CBB _ T9).mono ?_
        rintro e W10 ⟨rfl, T10, -⟩
        clear T9 CBB
        go_wp2_with fail
        go_ret
        exact ⟨rfl, T10.qa.grown⟩
end Go.Proofs.Ytmcodfkmdpbjiaa
