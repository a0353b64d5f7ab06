/- RttPlays. -/
import Derived.Test.YtmcodfkmdpbjiaaJM
namespace Go.Proofs.Ytmcodfkmdpbjiaa
open Go.RowKit
set_option linter.unusedVariables false
set_option maxRecDepth 100000
set_option maxHeartbeats 4000000

theorem plays_walk (i0 g0 : Int) (a0 : Option Addr) (len cap : Nat) (ol : List OpE) (w : World) (h : IsOps w a0 len cap ol) :
    Calls Try.prog 3 #[.int .i64 i0, .int .i64 g0, .slice a0 len cap] w fun e w' => e = .returned (.bool true) ∧ w.grownBy w' none := by
  have sh := shown_any w
  have HO := hide h
  have hl := h.hlen
  have hcap := h.hcap
  have lenI : ¬ (9223372036854775807 : Int) < (len : Int) := by omega
  have he := fun W => est_any i0 g0 W
  have he' := fun W => est_any g0 i0 W
  have PS := hide (fun (w1 w2 w3 : World) (g : w.grownBy w1 none) h2 h3 => pi_start (w2 := w2) (w3 := w3) (e_fits i0 g0) (e_fits g0 i0) g h2 h3)
  clear h
  obtain ⟨P, no, fb, hn, ht, hal⟩ : ∃ (P : World → Value) (no : Int) (fb : Bool), (∀ W : World, Calls Try.prog 10 #[.int .i64 i0, .int .i64 g0] W fun e w' => e = .returned (.tuple #[P W, .int .i64 no]) ∧ W.grownBy w' none) ∧ (∀ W : World, Calls Try.prog 11 #[.int .i64 i0, .int .i64 g0] W fun e w' => e = .returned (.bool fb) ∧ w' = W) ∧ ((fb = true ∧ no = 0 ∧ ∀ W, P W = ptr W.heap.size) ∨ (fb = false ∧ no = 1 ∧ ∀ W, P W = .pointer none)) := by
    by_cases hf : fitsF i0 g0
    · exact ⟨fun W => ptr W.heap.size, 0, true, fun W => (new_ok i0 g0 hf W).mono fun e w' ⟨h1, h2⟩ => ⟨h1, by rw [h2]; exact World.grownBy_alloc _ _ _⟩, takes_ok i0 g0 hf, .inl ⟨rfl, rfl, fun _ => rfl⟩⟩
    · exact ⟨fun W => .pointer none, 1, false, fun W => (new_no i0 g0 hf W).mono fun e w' ⟨h1, h2⟩ => ⟨h1, by rw [h2]; exact World.grownBy.refl _ _⟩, takes_no i0 g0 hf, .inr ⟨rfl, rfl, fun _ => rfl⟩⟩
  go_enter Try.func3, Try.ntmps3
  go_wp2_with fail
  refine sh.mono ?_
  rintro e w0 ⟨rfl, k0⟩
  clear sh
  go_wp2_with fail
  refine (hn _).mono ?_
  rintro e w1 ⟨rfl, k1⟩
  have g1 := k0.trans k1
  clear hn k0 k1
  go_wp2_with fail
  refine (ht _).mono ?_
  rintro e w1' ⟨rfl, hw1'⟩
  replace hw1' := hw1'.symm
  subst hw1'
  clear ht
  rcases hal with ⟨rfl, rfl, hP⟩ | ⟨rfl, rfl, hP⟩
  all_goals
    rw [hP]
    clear hP P
    go_wp2_with fail
    refine (he _).mono ?_
    rintro e w2 ⟨rfl, hw2⟩
    have TS := hide (fun w3 => unhide PS w1 w2 w3 g1 hw2)
    clear hw2 PS g1 he
    unfold rsc rs0 at *
    generalize eI i0 = I at *
    generalize eG g0 = G at *
    generalize eI g0 = I' at *
    generalize eG i0 = G' at *
    go_wp2_with fail
    refine (he' _).mono ?_
    rintro e w3 ⟨rfl, hw3⟩
    have z := alloc_size w2 (.cells #[.int .i64 I, .int .i64 G, .int .i64 0, .bool false, .bool false, .int .i64 0, .int .i64 0, .int .i64 0, .int .i64 0, .int .i64 0] 32)
    have T0 := hide (unhide TS w3 hw3)
    rw [z]
    clear he' hw3 TS z
    generalize w1.heap.size + 1 = a at *
    generalize w2.heap.size + 1 + 1 = b at *
    go_wp2_with fail
    generalize w2.heap.size = ra at *
    generalize w3.heap.size = rb at *
    generalize w3.alloc _ = w4 at *
    go_loopw [15] (fun i wr => ∃ (k : Nat) (c d : Int) (s t : Es), k ≤ len ∧ i = .int .i64 k ∧ Hid (PI w wr a b ra rb I I' c d s t)) (fun i _ => len - (intOf i).toNat)
    case atStart => exact ⟨0, _, _, _, _, Nat.zero_le _, rfl, T0⟩
    case round =>
      clear T0
      obtain ⟨k, c, d, s, t, hk, rfl, H⟩ := hrel
      by_cases hlt : k < len ∧ k < 4000
      · obtain ⟨bo, off, rfl, hcs⟩ := (unhide HO).cell.resolve_left (by omega)
        have hx' : ol[k]? = some ol[k] := List.getElem?_eq_getElem _
        have hcx := hcs k _ hx'
        generalize ol[k] = y at *
        have gr := (unhide H).1.T.qa.grown
        have c0 : wr.cell? ⟨bo, off + k * 5, none⟩ = some (.bool y.rs) := cell_grown (hcx 0 _ rfl) gr
        have c1 : wr.cell? ⟨bo, off + k * 5 + 1, none⟩ = some (.int .i64 y.h) := cell_grown (hcx 1 _ rfl) gr
        have c2 : wr.cell? ⟨bo, off + k * 5 + 2, none⟩ = some (.int .i64 y.now) := cell_grown (hcx 2 _ rfl) gr
        have c3 : wr.cell? ⟨bo, off + k * 5 + 3, none⟩ = some (.int .i64 y.latest) := cell_grown (hcx 3 _ rfl) gr
        have c4 : wr.cell? ⟨bo, off + k * 5 + 4, none⟩ = some (.int .i64 y.delay) := cell_grown (hcx 4 _ rfl) gr
        have kn : (k : Int) < (len : Int) := by omega
        have k4 : (k : Int) < 4000 := by omega
        have HLT := hide hlt
        clear hcs hcx hx' gr hlt hk
        cases hr : y.rs with
        | true =>
          rw [hr] at c0
          go_wp2_with fail
          · obtain ⟨Q0, lkA, lkB⟩ := unhide H
            have PX := Q0.keep (World.grownBy_alloc wr (.cells #[.bool true, .int .i64 y.h, .int .i64 y.now, .int .i64 y.latest, .int .i64 y.delay] 36) none)
            refine (pq_rb PX).mono ?_
            rintro e W2 ⟨rfl, Q2, -⟩
            have tw := Q2.B.full.1
            have cw := Q2.B.full.2.2.2.2.1
            have Q := Q2.farB (grown_at (World.grownBy.refl W2 (some rb)) 3 (.bool true)) (show RB (W2.setCell ⟨rb, 3, none⟩ (.bool true)) rb { lkF I' d t with anew := true } from Blk.setC Q2.B 3 (.bool true))
            rw [(lk_restart lkB).2] at Q
            replace lkB := (lk_restart lkB).1
            clear PX Q0 Q2 c0 c1 c2 c3 c4 H
            have LA := hide lkA
            have LB := hide lkB
            have QA := hide Q
            clear lkA lkB Q
            go_wp2_with fail
            refine (pq_la (unhide QA) (unhide LA)).mono ?_
            rintro e W5 ⟨rfl, Q5, -⟩
            have QB := hide Q5
            clear Q5 QA
            go_wp2_with fail
            refine (pq_lb (unhide QB) (unhide LB)).mono ?_
            rintro e W6 ⟨rfl, Q6, -⟩
            have R := hide (And.intro Q6 (And.intro (unhide LA) (unhide LB)))
            clear QB Q6 LA LB
            go_wp2_with fail
            go_roundw
            case rel => exact ⟨k + 1, _, _, _, _, (unhide HLT).1, by go_num, R⟩
            case measure => have := unhide HLT; simp [intOf]; omega
          · obtain ⟨Q0, lkA, lkB⟩ := unhide H
            have PX := Q0.keep (World.grownBy_alloc wr (.cells #[.bool true, .int .i64 y.h, .int .i64 y.now, .int .i64 y.latest, .int .i64 y.delay] 36) none)
            refine (pq_ra PX).mono ?_
            rintro e W2 ⟨rfl, Q2, -⟩
            have tw := Q2.A.full.1
            have cw := Q2.A.full.2.2.2.2.1
            have Q := Q2.farA (grown_at (World.grownBy.refl W2 (some ra)) 3 (.bool true)) (show RB (W2.setCell ⟨ra, 3, none⟩ (.bool true)) ra { lkF I c s with anew := true } from Blk.setC Q2.A 3 (.bool true))
            rw [(lk_restart lkA).2] at Q
            replace lkA := (lk_restart lkA).1
            clear PX Q0 Q2 c0 c1 c2 c3 c4 H
            have LA := hide lkA
            have LB := hide lkB
            have QA := hide Q
            clear lkA lkB Q
            go_wp2_with fail
            refine (pq_la (unhide QA) (unhide LA)).mono ?_
            rintro e W5 ⟨rfl, Q5, -⟩
            have QB := hide Q5
            clear Q5 QA
            go_wp2_with fail
            refine (pq_lb (unhide QB) (unhide LB)).mono ?_
            rintro e W6 ⟨rfl, Q6, -⟩
            have R := hide (And.intro Q6 (And.intro (unhide LA) (unhide LB)))
            clear QB Q6 LA LB
            go_wp2_with fail
            go_roundw
            case rel => exact ⟨k + 1, _, _, _, _, (unhide HLT).1, by go_num, R⟩
            case measure => have := unhide HLT; simp [intOf]; omega
        | false =>
          rw [hr] at c0
          go_wp2_with fail
          · obtain ⟨Q0, lkA, lkB⟩ := unhide H
            have PX := Q0.keep (World.grownBy_alloc wr (.cells #[.bool false, .int .i64 y.h, .int .i64 y.now, .int .i64 y.latest, .int .i64 y.delay] 36) none)
            have nx := Q0.T.qb.at_.lt
            refine (pq_sb PX y.now y.latest y.delay).mono ?_
            rintro e W2 ⟨rfl, Q2, g2⟩
            have B2 := (Blk.new wr #[.bool false, .int .i64 y.h, .int .i64 y.now, .int .i64 y.latest, .int .i64 y.delay] 36).far g2 (by omega)
            have f2 := B2.cell 2 (.int .i64 y.now) rfl
            have f3 := B2.cell 3 (.int .i64 y.latest) rfl
            have f4 := B2.cell 4 (.int .i64 y.delay) rfl
            have XS := pq_xb Q2 (lk_ok lkB) y.now y.latest y.delay
            rw [(lk_smp lkB y.now y.latest y.delay).2] at XS
            replace lkB := (lk_smp lkB y.now y.latest y.delay).1
            clear PX Q0 Q2 g2 B2 c0 c1 c2 c3 c4 H
            have LA := hide lkA
            have LB := hide lkB
            clear lkA lkB
            generalize wr.heap.size = o at *
            go_wp2_with fail
            refine XS.mono ?_
            rintro e W3 ⟨rfl, Q, -⟩
            have lkA := unhide LA
            have lkB := unhide LB
            clear XS f2 f3 f4 LA LB
            have LA := hide lkA
            have LB := hide lkB
            have QA := hide Q
            clear lkA lkB Q
            go_wp2_with fail
            refine (pq_la (unhide QA) (unhide LA)).mono ?_
            rintro e W5 ⟨rfl, Q5, -⟩
            have QB := hide Q5
            clear Q5 QA
            go_wp2_with fail
            refine (pq_lb (unhide QB) (unhide LB)).mono ?_
            rintro e W6 ⟨rfl, Q6, -⟩
            have R := hide (And.intro Q6 (And.intro (unhide LA) (unhide LB)))
            clear QB Q6 LA LB
            go_wp2_with fail
            go_roundw
            case rel => exact ⟨k + 1, _, _, _, _, (unhide HLT).1, by go_num, R⟩
            case measure => have := unhide HLT; simp [intOf]; omega
          · obtain ⟨Q0, lkA, lkB⟩ := unhide H
            have PX := Q0.keep (World.grownBy_alloc wr (.cells #[.bool false, .int .i64 y.h, .int .i64 y.now, .int .i64 y.latest, .int .i64 y.delay] 36) none)
            have nx := Q0.T.qa.at_.lt
            refine (pq_sa PX y.now y.latest y.delay).mono ?_
            rintro e W2 ⟨rfl, Q2, g2⟩
            have B2 := (Blk.new wr #[.bool false, .int .i64 y.h, .int .i64 y.now, .int .i64 y.latest, .int .i64 y.delay] 36).far g2 (by omega)
            have f2 := B2.cell 2 (.int .i64 y.now) rfl
            have f3 := B2.cell 3 (.int .i64 y.latest) rfl
            have f4 := B2.cell 4 (.int .i64 y.delay) rfl
            have XS := pq_xa Q2 (lk_ok lkA) y.now y.latest y.delay
            rw [(lk_smp lkA y.now y.latest y.delay).2] at XS
            replace lkA := (lk_smp lkA y.now y.latest y.delay).1
            clear PX Q0 Q2 g2 B2 c0 c1 c2 c3 c4 H
            have LA := hide lkA
            have LB := hide lkB
            clear lkA lkB
            generalize wr.heap.size = o at *
            go_wp2_with fail
            refine XS.mono ?_
            rintro e W3 ⟨rfl, Q, -⟩
            have lkA := unhide LA
            have lkB := unhide LB
            clear XS f2 f3 f4 LA LB
            have LA := hide lkA
            have LB := hide lkB
            have QA := hide Q
            clear lkA lkB Q
            go_wp2_with fail
            refine (pq_la (unhide QA) (unhide LA)).mono ?_
            rintro e W5 ⟨rfl, Q5, -⟩
            have QB := hide Q5
            clear Q5 QA
            go_wp2_with fail
            refine (pq_lb (unhide QB) (unhide LB)).mono ?_
            rintro e W6 ⟨rfl, Q6, -⟩
            have R := hide (And.intro Q6 (And.intro (unhide LA) (unhide LB)))
            clear QB Q6 LA LB
            go_wp2_with fail
            go_roundw
            case rel => exact ⟨k + 1, _, _, _, _, (unhide HLT).1, by go_num, R⟩
            case measure => have := unhide HLT; simp [intOf]; omega
      · have alt : (¬ (k : Int) < (len : Int)) ∨ ((k : Int) < (len : Int) ∧ ¬ (k : Int) < 4000) := by omega
        have EN := hide (unhide H).1.T.qa.grown
        clear H hlt
        rcases alt with e1 | ⟨e1, e2⟩
        all_goals
          go_wp2_with fail
          go_ret
          exact ⟨rfl, unhide EN⟩
end Go.Proofs.Ytmcodfkmdpbjiaa
