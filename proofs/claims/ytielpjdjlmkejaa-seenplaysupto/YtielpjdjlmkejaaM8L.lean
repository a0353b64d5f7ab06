/- E8K, E8L, one text. -/
import Derived.Test.YtielpjdjlmkejaaM8A
import Derived.BigQuiet
import Derived.LoopIn
namespace Go.Proofs.Ytielpjdjlmkejaa
open Go.RowKit
set_option linter.unusedVariables false
set_option maxRecDepth 100000
set_option maxHeartbeats 4000000

theorem RN.grown {w w' : World} {b n c : Nat} {a : Option Addr} {r : Rn} (h : RN w b a n c r) (g : w.grownBy w' none) : RN w' b a n c r :=
  ⟨h.blk.grown g, h.rd.kept (fun k cc hk => g.block k (Array.getElem?_eq_some_iff.1 hk).1 (by simp)), h.cap, h.sh⟩

theorem rack_none (b n c : Nat) (a : Option Addr) (r : Rn) (now ex : Int) (w : World) (h : RN w b a n c r) (hc : r.clock ≤ 1125899906842624) (hL : r.l = []) :
    Calls Try.prog 26 #[ptr b, .int .i64 now, .int .i64 ex] w fun e w' => e = .returned (.tuple #[.agg fr0, .bool false]) ∧ RN w' b a n c (rgoF now r) ∧ Kp (fun g => g = b) w w' := by
  obtain ⟨W1, hW1⟩ : ∃ W1, W1 = w.alloc (.cells fr0 48) := ⟨_, rfl⟩
  have g1 : w.grownBy W1 none := by rw [hW1]; exact grown_alloc _ _
  have b1 : Blk W1 w.heap.size fr0 48 := by rw [hW1]; exact Blk.new _ _ _
  have hne : w.heap.size ≠ b := by have := h.blk.lt; omega
  have h1 := h.grown g1
  have c2 := h1.c2
  have t2 := h1.blk.thaw 2
  have h2 := h1.put (r' := rgoF now r) 2 (.int .i64 (lat r.clock now)) rfl h1.rd h1.cap h1.sh
  have c3 := h2.blk.cell 3 (.slice a n c) rfl
  have b2 : Hid (Blk (W1.setCell ⟨b, 2, none⟩ (.int .i64 (lat r.clock now))) w.heap.size fr0 48) := b1.setO b 2 _ (fun e => hne e.symm)
  have hl := later_any r.clock now hc W1
  have hz : n = 0 := by have := h.rd.1; rw [hL] at this; simpa using this.symm
  have T := hide (And.intro h2 ((Kp.grown g1 (fun g => g = b)).trans (kp_put W1 b 2 (.int .i64 (lat r.clock now)))))
  subst hz
  clear h h1 h2 hL g1 b1
  unfold fr0 at hW1
  go_enter Try.func26, Try.ntmps26
  rw [hW1] at c2 t2
  go_wp2_with fail
  rw [← hW1]
  refine hl.mono ?_
  rintro e W2 ⟨rfl, hW2⟩
  rw [← hW1] at c2 t2
  clear hl hW1
  replace hW2 := hW2.symm
  subst hW2
  generalize lat r.clock now = CK at *
  have srow := setRow_same (unhide b2)
  go_wp2_with (refine wpList_store_row rfl _ _ _ rfl w.heap.size fr0 rfl rfl 48 _ (unhide b2) Try.sizeFr rfl (by simp [fr0, Value.oneCell']) ?_; rw [srow])
  refine bodyPost_ret (results_ct rfl _ _ w.heap.size fr0 _ rfl (unhide b2) Try.underlying48 rfl Try.sizeFr) rfl ?_
  exact ⟨rfl, (unhide T).1, (unhide T).2⟩
end Go.Proofs.Ytielpjdjlmkejaa

namespace Go.Proofs.Ytielpjdjlmkejaa
open Go.RowKit
set_option linter.unusedVariables false
set_option maxRecDepth 100000
set_option maxHeartbeats 4000000

theorem cl_at (L : List Sp) (m : Nat) (s : Sp) (h : L[m]? = some s) : (cl L)[m * 2]? = some (.int .i64 s.1) ∧ (cl L)[m * 2 + 1]? = some (.int .i64 s.2) := by
  have hm : m < L.length := (List.getElem?_eq_some_iff.1 h).1
  have e : L = L.take m ++ (s :: L.drop (m + 1)) := by
    rw [← (List.getElem?_eq_some_iff.1 h).2, ← List.drop_eq_getElem_cons hm, List.take_append_drop]
  have hl : (cl (L.take m)).length = m * 2 := by rw [cl_length]; simp; omega
  rw [e, cl_append]
  constructor
  · rw [List.getElem?_append_right (by omega), hl, show m * 2 - m * 2 = 0 by omega]; rfl
  · rw [List.getElem?_append_right (by omega), hl, show m * 2 + 1 - m * 2 = 1 by omega]; rfl

theorem setRow_heap (w : World) (g0 : Nat) (cs : Array Value) (g : Nat) (h : g ≠ g0) : (w.setRow g0 cs).heap[g]? = w.heap[g]? := by
  simp only [World.setRow, Array.getElem?_modify]
  rw [if_neg (fun e : g0 = g => h e.symm)]
theorem Kp.row {S : Nat → Prop} {w w' : World} (h : Kp S w w') (g0 : Nat) (cs : Array Value) (hg : w.heap.size ≤ g0) : Kp S w (w'.setRow g0 cs) := by
  refine ⟨h.os, h.tape, h.output, ?_, fun g hlt hn => ?_⟩
  · show w.heap.size ≤ (w'.heap.modify g0 _).size
    rw [Array.size_modify]; exact h.size
  · rw [setRow_heap _ _ _ _ (by omega)]; exact h.block g hlt hn

theorem rack_some (b n c : Nat) (a : Option Addr) (r : Rn) (now ex : Int) (w : World) (h : RN w b a n c r) (hc : r.clock ≤ 1125899906842624) (hL : r.l ≠ []) (hp : r.l.Pairwise (· < ·)) (hb : ∀ y ∈ r.l, 0 ≤ y ∧ y ≤ 4611686018427387903) (hn : n ≤ 1000000000000) (hcm : 0 ≤ r.came ∧ r.came ≤ lat r.clock now ∧ lat r.clock now ≤ 1125899906842624) (h0 : 0 ≤ r.c0) (h2' : 0 ≤ r.c2) :
    Calls Try.prog 26 #[ptr b, .int .i64 now, .int .i64 ex] w fun e w' => ∃ va vc, e = .returned (.tuple #[.agg (frA (.slice va (runsF r.l).length vc) (dlyF (lat r.clock now - r.came) ex) (mrkF r.c0 r.c2) r.c0 r.c2), .bool true]) ∧ Row w' (.slice va (runsF r.l).length vc) (runsF r.l).reverse ∧ Fresh w (.slice va (runsF r.l).length vc) ∧ RN w' b a n c (rrestF (rgoF now r)) ∧ Kp (fun g => g = b) w w' := by
  obtain ⟨W1, hW1⟩ : ∃ W1, W1 = w.alloc (.cells fr0 48) := ⟨_, rfl⟩
  have g1 : w.grownBy W1 none := by rw [hW1]; exact grown_alloc _ _
  have b1 : Blk W1 w.heap.size fr0 48 := by rw [hW1]; exact Blk.new _ _ _
  have hne : w.heap.size ≠ b := by have := h.blk.lt; omega
  have h1 := h.grown g1
  have c2 := h1.c2
  have t2 := h1.blk.thaw 2
  have h2 := h1.put (r' := rgoF now r) 2 (.int .i64 (lat r.clock now)) rfl h1.rd h1.cap h1.sh
  have c3 := h2.blk.cell 3 (.slice a n c) rfl
  have b2 : Hid (Blk (W1.setCell ⟨b, 2, none⟩ (.int .i64 (lat r.clock now))) w.heap.size fr0 48) := b1.setO b 2 _ (fun e => hne e.symm)
  have hl := later_any r.clock now hc W1
  have hz : 0 < n := by have h3 := h.rd.1; have := List.length_pos_iff.2 hL; omega
  have nz : ((n : Int) == 0) = false := by rw [beq_eq_false_iff_ne]; omega
  have T := hide (And.intro h2 ((Kp.grown g1 (fun g => g = b)).trans (kp_put W1 b 2 (.int .i64 (lat r.clock now)))))
  have RU : Calls Try.prog 29 #[ptr b] (W1.setCell ⟨b, 2, none⟩ (.int .i64 (lat r.clock now))) fun e w' => ∃ v, e = .returned v ∧ Row w' v (runsF r.l) ∧ Fresh (W1.setCell ⟨b, 2, none⟩ (.int .i64 (lat r.clock now))) v ∧ World.grownBy (W1.setCell ⟨b, 2, none⟩ (.int .i64 (lat r.clock now))) w' none := rruns_any b n c a (rgoF now r) _ h2 hp hb hn
  obtain ⟨EX, hEX⟩ : ∃ EX : Nat, EX = (min (max ex 0) 20).toNat := ⟨_, rfl⟩
  have kE : (ex < 0 ∧ EX = 0) ∨ (20 < ex ∧ EX = 20) ∨ (0 ≤ ex ∧ ex ≤ 20 ∧ (EX : Int) = ex) := by omega
  have HEX := hide hEX
  clear hEX
  have sz := alloc_size w (.cells fr0 48)
  clear h h1 h2 hL b1 hz
  unfold fr0 at hW1
  go_enter Try.func26, Try.ntmps26
  rw [hW1] at c2 t2
  go_wp2_with fail
  rw [← hW1]
  refine hl.mono ?_
  rintro e W2 ⟨rfl, hW2⟩
  rw [← hW1] at c2 t2
  clear hl
  replace hW2 := hW2.symm
  subst hW2
  clear hW1 sz
  obtain ⟨cm1, cm2, cm3⟩ := hcm
  rcases kE with ⟨e1, hE⟩ | ⟨e1, hE⟩ | ⟨e1, e2, hE⟩
  all_goals
    have HE := hide hE
    clear hE
    go_wp2_with fail
    refine RU.mono ?_
    rintro e X1 ⟨v, rfl, hrow, hfr, hgr⟩
    obtain ⟨ua, uc, rfl, -, hum, huc⟩ := hrow.shape
    unfold maxLen at hum
    have q1 : (runsF r.l).length ≤ 1000000000000 := by have h1 := runsF_len r.l; have h2 := (unhide T).1.rd.1; have h3 : (rgoF now r).l = r.l := rfl; rw [h3] at h2; omega
    have R1 := hide (And.intro hrow (And.intro hfr hgr))
    have I0 : Hid (Row X1 (.slice none 0 0) ((runsF r.l).drop (runsF r.l).length).reverse ∧ Fresh X1 (.slice none 0 0) ∧ X1.grownBy X1 none) := ⟨by simp; exact row_nil _, (fun g e => by cases e), grown_self _ _⟩
    clear RU hrow hfr hgr
    generalize hRL : runsF r.l = L at *
    have hqI : ¬ (9223372036854775807 : Int) < (L.length : Int) := by omega
    go_wp2_with fail
    go_loopw [9, 10] (fun dv i wr => ∃ (j k : Nat) (z : Int) (oa : Option Addr) (oc : Nat), j ≤ L.length ∧ dv = .slice oa k oc ∧ i = .int .i64 z ∧ Hid (z = (j : Int) - 1 ∧ k + j = L.length) ∧ Hid (Row wr (.slice oa k oc) (L.drop j).reverse ∧ Fresh X1 (.slice oa k oc) ∧ X1.grownBy wr none)) (fun _ i _ => (intOf i + 1).toNat)
    case atStart => exact ⟨L.length, 0, _, none, 0, Nat.le_refl _, rfl, rfl, ⟨rfl, by omega⟩, I0⟩
    case round =>
      obtain ⟨j, k, z, oa, oc, hj, rfl, rfl, HZ, H⟩ := hrel
      clear I0
      by_cases hlt : 0 < j
      · obtain ⟨m, rfl⟩ : ∃ m, j = m + 1 := ⟨j - 1, by omega⟩
        obtain ⟨hz1, hz2⟩ := unhide HZ
        obtain rfl : z = (m : Int) := by omega
        obtain ⟨hr1, hr2, hr3⟩ := unhide H
        obtain ⟨u1, u2, u3⟩ := unhide R1
        have hmL : m < L.length := by omega
        have hx : L[m]? = some L[m] := List.getElem?_eq_getElem hmL
        obtain ⟨gu, rfl, sl, hLR⟩ : ∃ g, ua = some ⟨g, 0, none⟩ ∧ ∃ sp, RowAt X1 g uc L sp := by
          rcases Row.at u1 with ⟨e1, e2⟩ | ⟨g, c', sp, e1, e2⟩
          · rw [e2] at hmL; simp at hmL
          · simp only [Value.slice.injEq] at e1
            obtain ⟨rfl, -, rfl⟩ := e1
            exact ⟨g, rfl, sp, e2⟩
        have y1 := cell_grown_none hr3 (hLR.cell _ _ (cl_at L m _ hx).1)
        have y2 := cell_grown_none hr3 (hLR.cell _ _ (cl_at L m _ hx).2)
        have ed : (L.drop m).reverse = (L.drop (m + 1)).reverse ++ [(L[m].1, L[m].2)] := by rw [List.drop_eq_getElem_cons hmL, List.reverse_cons]
        have hk : (L.drop (m + 1)).reverse.length = k := by simp; omega
        obtain ⟨v', w', p1, p2, p3, p4⟩ := app_one wr (.slice oa k oc) (L.drop (m + 1)).reverse L[m].1 L[m].2 33 hr1 (by omega)
        obtain ⟨m1, m2⟩ := p3.fresh (grown_trans hr3 (grown_alloc _ _)) hr2
        rw [← ed] at p2
        obtain ⟨a', c', rfl, -, -, -⟩ := p2.shape
        have hk2 : (L.drop m).reverse.length = k + 1 := by simp; omega
        rw [hk2] at p1 p2 m2
        have E : Hid (Row w' (.slice a' (k + 1) c') (L.drop m).reverse ∧ Fresh X1 (.slice a' (k + 1) c') ∧ X1.grownBy w' none) := ⟨p2, m2, m1⟩
        have E2 : Hid ((m : Int) - 1 = (m : Int) - 1 ∧ k + 1 + m = L.length) := ⟨rfl, by omega⟩
        have HAP := hide p1
        have mI : (0 : Int) ≤ (m : Int) := by omega
        have mL : (m : Int) < (L.length : Int) := by omega
        generalize L[m].1 = s1 at *
        generalize L[m].2 = s2 at *
        have HmL := hide hmL
        clear p1 p2 p3 p4 m1 m2 ed hk hk2 hr1 hr2 hr3 u1 u2 u3 hLR hx H HZ hz1 hz2 hlt hj hmL
        go_wp2_with (at_builtin; refine wpList_append_run _ rfl _ _ 33 33 rfl _ _ rfl rfl (unhide HAP) ?_)
        go_roundw
        case rel => exact ⟨m, k + 1, _, _, _, Nat.le_of_lt (unhide HmL), rfl, by go_num, E2, E⟩
        case measure => simp [intOf]
      · obtain rfl : j = 0 := by omega
        obtain ⟨hz1, hz2⟩ := unhide HZ
        obtain rfl : z = -1 := by omega
        obtain ⟨hr1, hr2, hr3⟩ := unhide H
        obtain ⟨u1, u2, u3⟩ := unhide R1
        have G0 := grown_trans u3 hr3
        have us := u3.size
        have lb := (unhide T).1.blk.lt
        have lf := (unhide b2).lt
        have RW := (unhide T).1.grown G0
        have d2 := RW.c2
        have d6 := RW.c6
        have BF := hide ((unhide b2).grown G0)
        have RWH := hide RW
        have HR := hide (And.intro hr1 (And.intro hr2 (And.intro hr3 G0)))
        have HK := hide hz2
        rw [show (rgoF now r).clock = lat r.clock now from rfl] at d2
        rw [show (rgoF now r).came = r.came from rfl] at d6
        clear H HZ hz1 hz2 hr1 hr2 hr3 u1 u2 u3 G0 RW hlt hj R1 c2 t2 c3
        have DD : Hid (∀ d, d = dlyF (lat r.clock now - r.came) ex ↔ d = (lat r.clock now - r.came) / 2 ^ EX) := fun d => by unfold dlyF; rw [← unhide HEX]
        generalize hcme : r.came = cme at *
        generalize hCK : lat r.clock now = CK at *
        have HC := hide (And.intro hcme hCK)
        clear hcme hCK
        go_wp2_with fail
        go_quiet (fail)
        go_wp2_with fail
        have PK : Hid (RN (wr.drewN nq) b a n c (rgoF now r) ∧ Blk (wr.drewN nq) w.heap.size fr0 48 ∧ Row (wr.drewN nq) (.slice oa k oc) (L.drop 0).reverse ∧ Fresh X1 (.slice oa k oc) ∧ X1.grownBy (wr.drewN nq) none ∧ (W1.setCell ⟨b, 2, none⟩ (.int .i64 CK)).grownBy (wr.drewN nq) none) := ⟨(unhide RWH).same (fun _ => rfl), (unhide BF).drewN nq, row_kept (unhide HR).1 (fun _ _ => rfl), (unhide HR).2.1, grown_trans (unhide HR).2.2.1 (grown_drewN _ _), grown_trans (unhide HR).2.2.2 (grown_drewN _ _)⟩
        clear RWH BF HR d2 d6
        generalize wr.drewN nq = Y at *
        go_loopw [11, 12] (fun d i wx => ∃ (t : Nat) (dl : Int), d = .int .i64 dl ∧ i = .int .i64 t ∧ Hid (wx = Y ∧ t ≤ EX ∧ dl = (CK - cme) / 2 ^ t ∧ 0 ≤ dl ∧ dl ≤ 1125899906842624)) (fun _ i _ => 20 - (intOf i).toNat)
        case atStart => exact ⟨0, CK - cme, rfl, rfl, ⟨rfl, Nat.zero_le _, by simp, by omega, by omega⟩⟩
        case round =>
          obtain ⟨t, dl, rfl, rfl, Q⟩ := hrel
          obtain ⟨qw, q2, q3, q4, q5⟩ := unhide Q
          have hEE := unhide HE
          by_cases ht : t < EX
          · have NX : Hid (wr = Y ∧ t + 1 ≤ EX ∧ dl / 2 = (CK - cme) / 2 ^ (t + 1) ∧ 0 ≤ dl / 2 ∧ dl / 2 ≤ 1125899906842624) := ⟨qw, ht, by
              rw [q3, Int.ediv_ediv_of_nonneg (Int.le_of_lt (Int.pow_pos (by decide))), Int.pow_succ], by omega, by omega⟩
            have HT : Hid ((t : Int) < 20) := show _ < _ by omega
            first
            | (exfalso; omega)
            | (have t20 : (t : Int) < 20 := by omega
               have tex : (t : Int) < ex := by omega
               clear Q qw q2 q3 hEE ht
               go_wp2_with fail
               go_roundw
               case rel => exact ⟨t + 1, _, rfl, by go_num, NX⟩
               case measure => have := unhide HT; simp [intOf]; omega)
          · obtain rfl : t = EX := by omega
            have HDE := hide (((unhide DD) dl).2 q3)
            subst qw
            have f0 : ¬ (t : Int) < 0 := by omega
            first
            | have f1 : ¬ (t : Int) < 20 := by omega
            | have f1 : ¬ (t : Int) < ex := by omega
            have RS := rrest_any b n c a (rgoF now r) wr (unhide PK).1
            clear Q q2 q3 hEE ht
            go_wp2_with fail
            refine RS.mono ?_
            rintro e Z1 ⟨rfl, hZ, kZ⟩
            have z7 := hZ.c7
            have z9 := hZ.c9
            have z8 := hZ.blk.cell 8 (.int .i64 0) rfl
            have BZ : Blk Z1 w.heap.size fr0 48 := (kZ.block _ (unhide PK).2.1.lt hne).trans (unhide PK).2.1
            rw [show (rrestF (rgoF now r)).c0 = r.c0 from rfl] at z7
            rw [show (rrestF (rgoF now r)).c2 = r.c2 from rfl] at z9
            have KZ := (((unhide T).2.trans (Kp.grown (unhide PK).2.2.2.2.2 _)).trans kZ)
            have FIN : Hid (∀ mk', Blk (Z1.setRow w.heap.size (frA (.slice oa k oc) dl mk' r.c0 r.c2)) w.heap.size (frA (.slice oa k oc) dl mk' r.c0 r.c2) 48 ∧ Row (Z1.setRow w.heap.size (frA (.slice oa k oc) dl mk' r.c0 r.c2)) (.slice oa k oc) L.reverse ∧ Fresh w (.slice oa k oc) ∧ RN (Z1.setRow w.heap.size (frA (.slice oa k oc) dl mk' r.c0 r.c2)) b a n c (rrestF (rgoF now r)) ∧ Kp (fun g => g = b) w (Z1.setRow w.heap.size (frA (.slice oa k oc) dl mk' r.c0 r.c2))) := by
              intro mk'
              obtain ⟨p1, p2, p3, p4, p5, p6⟩ := unhide PK
              have fr := fun g (e : (Value.slice oa k oc).ownBlock = some g) => p4 g e
              have r1 : Row Z1 (.slice oa k oc) L.reverse := by
                have := row_kept p3 (w' := Z1) (fun g e => kZ.block g (row_lt p3 g e) (fun eb => by have := fr g e; omega))
                simpa using this
              refine ⟨BZ.row _, row_kept r1 (fun g e => setRow_heap _ _ _ _ (by have := fr g e; omega)), fun g e => by have := fr g e; omega, ⟨hZ.blk.rowO _ _ hne, hZ.rd.kept (fun g cc hg => setRow_heap _ _ _ _ (fun eg => ?_)), hZ.cap, hZ.sh⟩, KZ.row _ _ (Nat.le_refl _)⟩
              subst eg
              have hh := (show Z1.heap[w.heap.size]? = _ from BZ)
              rw [hg] at hh
              simp at hh
            have hkL : k = L.length := by have := unhide HK; omega
            have mk : (0 < r.c0 ∧ mrkF r.c0 r.c2 = true) ∨ (¬ 0 < r.c0 ∧ 0 < r.c2 ∧ mrkF r.c0 r.c2 = true) ∨ (¬ 0 < r.c0 ∧ ¬ 0 < r.c2 ∧ mrkF r.c0 r.c2 = false) := by
              unfold mrkF
              by_cases c1 : 0 < r.c0
              · exact .inl ⟨c1, by simp; omega⟩
              · by_cases c2 : 0 < r.c2
                · exact .inr (.inl ⟨c1, c2, by simp; omega⟩)
                · exact .inr (.inr ⟨c1, c2, by simp; omega⟩)
            have BZH := hide BZ
            have HKL := hide hkL
            clear hZ kZ BZ KZ PK RS T b2 DD HEX HE hkL HK us lb lf
            generalize hc0v : r.c0 = c0v at *
            generalize hc2v : r.c2 = c2v at *
            have HV := hide (And.intro hc0v (And.intro hc2v hRL))
            clear hc0v hc2v
            rcases mk with ⟨k1, k2⟩ | ⟨k1, k2, k3⟩ | ⟨k1, k2, k3⟩
            · go_wp2_with (refine wpList_store_row rfl _ _ _ rfl w.heap.size (frA (.slice oa k oc) dl true c0v c2v) rfl rfl 48 _ (unhide BZH) Try.sizeFr rfl (by simp [frA, Value.oneCell']) ?_)
              refine bodyPost_ret (results_ct rfl _ _ w.heap.size (frA (.slice oa k oc) dl true c0v c2v) _ rfl ((unhide FIN) true).1 Try.underlying48 rfl Try.sizeFr) rfl ?_
              rw [(unhide HC).1, (unhide HC).2, (unhide HV).1, (unhide HV).2.1, (unhide HV).2.2, k2, ← unhide HDE, ← unhide HKL]
              exact ⟨oa, oc, rfl, ((unhide FIN) true).2⟩
            · go_wp2_with (refine wpList_store_row rfl _ _ _ rfl w.heap.size (frA (.slice oa k oc) dl true c0v c2v) rfl rfl 48 _ (unhide BZH) Try.sizeFr rfl (by simp [frA, Value.oneCell']) ?_)
              refine bodyPost_ret (results_ct rfl _ _ w.heap.size (frA (.slice oa k oc) dl true c0v c2v) _ rfl ((unhide FIN) true).1 Try.underlying48 rfl Try.sizeFr) rfl ?_
              rw [(unhide HC).1, (unhide HC).2, (unhide HV).1, (unhide HV).2.1, (unhide HV).2.2, k3, ← unhide HDE, ← unhide HKL]
              exact ⟨oa, oc, rfl, ((unhide FIN) true).2⟩
            · have kd0 : decide (0 < c0v) = false := decide_eq_false k1
              have kd2 : decide (0 < c2v) = false := decide_eq_false k2
              go_wp2_with (refine wpList_store_row rfl _ _ _ rfl w.heap.size (frA (.slice oa k oc) dl false c0v c2v) rfl rfl 48 _ (unhide BZH) Try.sizeFr rfl (by simp [frA, Value.oneCell']) ?_)
              refine bodyPost_ret (results_ct rfl _ _ w.heap.size (frA (.slice oa k oc) dl false c0v c2v) _ rfl ((unhide FIN) false).1 Try.underlying48 rfl Try.sizeFr) rfl ?_
              rw [(unhide HC).1, (unhide HC).2, (unhide HV).1, (unhide HV).2.1, (unhide HV).2.2, k3, ← unhide HDE, ← unhide HKL]
              exact ⟨oa, oc, rfl, ((unhide FIN) false).2⟩
end Go.Proofs.Ytielpjdjlmkejaa
