/- RttSettles. -/
import Derived.Test.YtmcodfkmdpbjiaaJI
import Derived.LoopIn
namespace Go.Proofs.Ytmcodfkmdpbjiaa
open Go.RowKit
set_option linter.unusedVariables false
set_option maxRecDepth 100000
set_option maxHeartbeats 4000000

def uF : Nat → Int
  | 0 => 1125899906842624
  | n + 1 => 7 * uF n / 8
def lF : Nat → Int
  | 0 => 1125899906842624
  | n + 1 => (7 * lF n + 7) / 8
theorem uF_pos : ∀ n, 0 ≤ uF n
  | 0 => by decide
  | n + 1 => by have := uF_pos n; show 0 ≤ 7 * uF n / 8; omega
theorem lF_pos : ∀ n, 0 ≤ lF n
  | 0 => by decide
  | n + 1 => by have := lF_pos n; show 0 ≤ (7 * lF n + 7) / 8; omega
theorem uF_end : uF 400 = 0 := by decide +kernel
theorem lF_end : lF 400 = 7 := by decide +kernel

/-- Behind j samples of y, without a delay. -/
structure Near (y : Int) (j : Nat) (s : Es) : Prop where
  has : 0 < j → s.has = true ∧ s.latest = y
  up : s.has = true → s.smooth - y ≤ uF j
  lo : s.has = true → y - s.smooth ≤ lF j
theorem near0 {s : Es} (ok : s.Ok) {y : Int} (hy : inT y) : Near y 0 s := by
  have h := ok.s
  refine ⟨fun h => by omega, fun _ => ?_, fun _ => ?_⟩
  · show _ ≤ (1125899906842624 : Int); omega
  · show _ ≤ (1125899906842624 : Int); omega
theorem near_step {s : Es} {x : Int} {j : Nat} (h : Near (sp x) j s) (ok : s.Ok) : Near (sp x) (j + 1) (smpF 0 x 0 s) := by
  have hu := uF_pos j
  have hl := lF_pos j
  have z : sp 0 = 0 := by decide
  have hy := sp_b x
  unfold smpF
  split
  · rename_i hh
    have up := h.up hh
    have lo := h.lo hh
    have ha : adjF (leastF s.restart (sp x) s.least) (sp x) (sp 0) = sp x := by
      rw [z]
      unfold adjF
      split <;> omega
    rw [ha]
    refine ⟨fun _ => ⟨rfl, rfl⟩, fun _ => ?_, fun _ => ?_⟩
    · show smoF s.smooth (sp x) - sp x ≤ 7 * uF j / 8
      unfold smoF
      omega
    · show sp x - smoF s.smooth (sp x) ≤ (7 * lF j + 7) / 8
      unfold smoF
      omega
  · refine ⟨fun _ => ⟨rfl, rfl⟩, fun _ => ?_, fun _ => ?_⟩
    · show sp x - sp x ≤ 7 * uF j / 8
      omega
    · show sp x - sp x ≤ (7 * lF j + 7) / 8
      omega
theorem smp_gran (now l d : Int) (s : Es) : (smpF now l d s).gran = s.gran := by unfold smpF; split <;> rfl

/-- What holds between rounds: the estimator, and a block beside it. -/
structure SQ (w wr : World) (b g : Nat) (cs : Array Value) (G : Int) (s : Es) : Prop where
  q : QE w wr b s
  ok : s.Ok
  gran : s.gran = G
  blk : Blk wr g cs 32
  ne : g ≠ b
theorem SQ.keep {w wr wr' : World} {b g : Nat} {cs : Array Value} {G : Int} {s : Es} (h : SQ w wr b g cs G s) (k : wr.grownBy wr' none) : SQ w wr' b g cs G s := ⟨h.q.keep k, h.ok, h.gran, h.blk.grown k, h.ne⟩
theorem sq_sample {w wr : World} {b g : Nat} {cs : Array Value} {G : Int} {s : Es} (h : SQ w wr b g cs G s) (now latest delay : Int) : Calls Try.prog 14 #[ptr b, .int .i64 now, .int .i64 latest, .int .i64 delay] wr fun e w' => e = .returned (.tuple #[]) ∧ SQ w w' b g cs G (smpF now latest delay s) :=
  (qe_sample h.q h.ok now latest delay).mono fun e w' ⟨he, h1, g1⟩ => ⟨he, h1, smp_ok h.ok now latest delay, (smp_gran _ _ _ _).trans h.gran, h.blk.far g1 h.ne, h.ne⟩
theorem sq_restart {w wr : World} {b g : Nat} {cs : Array Value} {G : Int} {s : Es} (h : SQ w wr b g cs G s) : Calls Try.prog 13 #[ptr b] wr fun e w' => e = .returned (.tuple #[]) ∧ SQ w w' b g cs G { s with restart := true } :=
  (qe_restart h.q).mono fun e w' ⟨he, h1, g1⟩ => ⟨he, h1, restart_ok h.ok, h.gran, h.blk.far g1 h.ne, h.ne⟩

theorem ret_beq {a b : Int} (h : a = b) : Ending.returned (.bool (a == b)) = Ending.returned (.bool true) := by rw [beq_iff_eq.2 h]

theorem settles_walk (gr : Int) (a0 : Option Addr) (len cap : Nat) (ol : List OpE) (x : Int) (w : World) (h : IsOps w a0 len cap ol) :
    Calls Try.prog 6 #[.int .i64 gr, .slice a0 len cap, .int .i64 x] w fun e w' => e = .returned (.bool true) ∧ w.grownBy w' none := by
  have sh := shown_any w
  have HO := hide h
  have hl := h.hlen
  have hcap := h.hcap
  have lenI : ¬ (9223372036854775807 : Int) < (len : Int) := by omega
  have he := fun W => est_any 333000 gr W
  have fits := e_fits 333000 gr
  have hx := into_any x
  clear h
  go_enter Try.func6, Try.ntmps6
  go_wp2_with fail
  refine sh.mono ?_
  rintro e w1 ⟨rfl, g1⟩
  clear sh
  go_wp2_with fail
  refine (he _).mono ?_
  rintro e w2 ⟨rfl, hw2⟩
  have q2 : QE w w2 (w1.heap.size + 1) (es0 (eI 333000) (eG gr)) := by
    rw [hw2]
    exact ⟨(Blk.two w1 _ _ _ _).2.1, by have := g1.size; omega, gtrans g1 (Blk.two w1 _ _ _ _).2.2⟩
  have S0 : Hid (SQ w (w2.alloc (.cells (rsc (rs0 (eI 333000) (eG gr))) 32)) (w1.heap.size + 1) w2.heap.size (rsc (rs0 (eI 333000) (eG gr))) (eG gr) (es0 (eI 333000) (eG gr))) := ⟨q2.keep (World.grownBy_alloc _ _ _), es0_ok fits, rfl, Blk.new _ _ _, by have := q2.at_.lt; omega⟩
  clear he hw2 q2 g1
  unfold rsc rs0 at *
  generalize eI 333000 = I at *
  generalize eG gr = G at *
  generalize w1.heap.size + 1 = b at *
  go_wp2_with fail
  generalize w2.heap.size = g at *
  generalize w2.alloc _ = w3 at *
  go_loopw [10] (fun i wr => ∃ (k : Nat) (s : Es), k ≤ len ∧ i = .int .i64 k ∧ Hid (SQ w wr b g #[.int .i64 I, .int .i64 G, .int .i64 0, .bool false, .bool false, .int .i64 0, .int .i64 0, .int .i64 0, .int .i64 0, .int .i64 0] G s)) (fun i _ => len - (intOf i).toNat)
  case atStart => exact ⟨0, _, Nat.zero_le _, rfl, S0⟩
  case round =>
    clear S0
    obtain ⟨k, s, hk, rfl, H⟩ := hrel
    by_cases hlt : k < len ∧ k < 4000
    · obtain ⟨bo, off, rfl, hcs⟩ := (unhide HO).cell.resolve_left (by omega)
      have hx' : ol[k]? = some ol[k] := List.getElem?_eq_getElem _
      have hcx := hcs k _ hx'
      generalize ol[k] = y at *
      have gr := (unhide H).q.grown
      have c0 : wr.cell? ⟨bo, off + k * 5, none⟩ = some (.bool y.rs) := cell_grown (hcx 0 _ rfl) gr
      have c2 : wr.cell? ⟨bo, off + k * 5 + 2, none⟩ = some (.int .i64 y.now) := cell_grown (hcx 2 _ rfl) gr
      have c3 : wr.cell? ⟨bo, off + k * 5 + 3, none⟩ = some (.int .i64 y.latest) := cell_grown (hcx 3 _ rfl) gr
      have c4 : wr.cell? ⟨bo, off + k * 5 + 4, none⟩ = some (.int .i64 y.delay) := cell_grown (hcx 4 _ rfl) gr
      have kn : (k : Int) < (len : Int) := by omega
      have k4 : (k : Int) < 4000 := by omega
      have RS := sq_restart (unhide H)
      have SA := fun q => sq_sample ((unhide H).keep (drewN_grown wr q)) y.now y.latest y.delay
      have HLT := hide hlt
      have CC : Hid (∀ X s', SQ w X b g #[.int .i64 I, .int .i64 G, .int .i64 0, .bool false, .bool false, .int .i64 0, .int .i64 0, .int .i64 0, .int .i64 0, .int .i64 0] G s' → X.cell? ⟨bo, off + k * 5 + 2, none⟩ = some (.int .i64 y.now) ∧ X.cell? ⟨bo, off + k * 5 + 3, none⟩ = some (.int .i64 y.latest) ∧ X.cell? ⟨bo, off + k * 5 + 4, none⟩ = some (.int .i64 y.delay)) := fun X s' hX => ⟨cell_grown (hcx 2 _ rfl) hX.q.grown, cell_grown (hcx 3 _ rfl) hX.q.grown, cell_grown (hcx 4 _ rfl) hX.q.grown⟩
      clear hcs hcx hx' gr hlt hk
      cases hr : y.rs with
      | true =>
        rw [hr] at c0
        go_wp2_with fail
        refine RS.mono ?_
        rintro e W2 ⟨rfl, S2⟩
        have R := hide S2
        clear RS SA S2 c0 c2 c3 c4
        go_wp2_with fail
        go_roundw
        case rel => exact ⟨k + 1, _, (unhide HLT).1, by go_num, R⟩
        case measure => have := unhide HLT; simp [intOf]; omega
      | false =>
        rw [hr] at c0
        go_wp2_with fail
        go_region_held3 (fun X => X.cell? ⟨bo, off + k * 5 + 2, none⟩ = some (.int .i64 y.now) ∧ X.cell? ⟨bo, off + k * 5 + 3, none⟩ = some (.int .i64 y.latest) ∧ X.cell? ⟨bo, off + k * 5 + 4, none⟩ = some (.int .i64 y.delay)) (go_keep) (first | (go_at_call 14; refine (SA 1).mono ?_; rintro e W2 ⟨rfl, S2⟩; have z2 := (unhide CC W2 _ S2).1; have z3 := (unhide CC W2 _ S2).2.1; have z4 := (unhide CC W2 _ S2).2.2))
        have R := hide S2
        clear RS SA S2 c0 c2 c3 c4 z2 z3 z4
        go_wp2_with fail
        go_roundw
        case rel => exact ⟨k + 1, _, (unhide HLT).1, by go_num, R⟩
        case measure => have := unhide HLT; simp [intOf]; omega
    · have alt : (¬ (k : Int) < (len : Int)) ∨ ((k : Int) < (len : Int) ∧ ¬ (k : Int) < 4000) := by omega
      clear hlt
      have okY := sp_b x
      have N0 : Hid (Near (sp x) 0 s) := near0 (unhide H).ok okY
      rcases alt with hk1 | ⟨hk1, hk2⟩
      all_goals as_aux_lemma =>
        go_wp2_with fail
        refine (hx _).mono ?_
        rintro e W2 ⟨rfl, hW2⟩
        replace hW2 := hW2.symm
        subst hW2
        clear hx
        go_wp2_with fail
        go_loopw [12] (fun i wr => ∃ (j : Nat) (s : Es), j ≤ 400 ∧ i = .int .i64 j ∧ Hid (SQ w wr b g #[.int .i64 I, .int .i64 G, .int .i64 0, .bool false, .bool false, .int .i64 0, .int .i64 0, .int .i64 0, .int .i64 0, .int .i64 0] G s ∧ Near (sp x) j s)) (fun i _ => 400 - (intOf i).toNat)
        case atStart => exact ⟨0, s, Nat.zero_le _, rfl, ⟨unhide H, unhide N0⟩⟩
        case round =>
          clear H N0
          obtain ⟨j, s', hj, rfl, R⟩ := hrel
          by_cases hj4 : j < 400
          · have j4 : (j : Int) < 400 := by omega
            have SA := sq_sample (unhide R).1 0 x 0
            have N1 : Hid (Near (sp x) (j + 1) (smpF 0 x 0 s')) := near_step (unhide R).2 (unhide R).1.ok
            have HJ := hide hj4
            clear R hj hj4
            go_wp2_with fail
            refine SA.mono ?_
            rintro e W3 ⟨rfl, S3⟩
            have S3' := hide S3
            clear SA S3
            go_wp2_with fail
            go_roundw
            case rel => exact ⟨j + 1, _, unhide HJ, by go_num, ⟨unhide S3', unhide N1⟩⟩
            case measure => have := unhide HJ; simp [intOf]; omega
          · obtain rfl : j = 400 := by omega
            have N := (unhide R).2
            obtain ⟨n1, n2⟩ := N.has (by omega)
            have n3 := N.up n1
            have n4 := N.lo n1
            rw [uF_end] at n3
            rw [lF_end] at n4
            have S := (unhide R).1
            have VW := qe_view S.q
            have vE : viewF s' = #[.bool true, .int .i64 (sp x), .int .i64 s'.least, .int .i64 s'.smooth, .int .i64 s'.var, .int .i64 s'.first] := by unfold viewF; rw [n1, n2]; rfl
            have LE : lossF s' = max (9 * sp x / 8) G := by
              unfold lossF
              rw [n2, S.gran]
              have : max s'.smooth (sp x) = sp x := by omega
              rw [this]
            rw [vE] at VW
            have sb := S.ok.s
            have gb := S.ok.g
            rw [S.gran] at gb
            have LO := fun X (hX : EB X b s') => loss_any b s' X hX S.ok
            rw [LE] at LO
            have HS := hide S
            clear R N S hj hj4 vE LE n1 n2
            generalize hL : max (9 * sp x / 8) G = LL at *
            generalize sp x = y at *
            generalize s'.smooth = sm at *
            generalize s'.least = lea at *
            generalize s'.var = va at *
            generalize s'.first = fi at *
            have d1 : decide (sm ≤ y) = true := decide_eq_true (by omega)
            have d2 : decide (y - 7 ≤ sm) = true := decide_eq_true (by omega)
            go_wp2_with fail
            refine VW.mono ?_
            rintro e W3 ⟨rfl, Q3, g3⟩
            have g4 := g3.trans (World.grownBy_alloc W3 (.cells #[.bool true, .int .i64 y, .int .i64 lea, .int .i64 sm, .int .i64 va, .int .i64 fi] 30) none)
            have S4 := (unhide HS).keep g4
            have cg := S4.blk.cell 1 (.int .i64 G) rfl
            have hn := Blk.new W3 #[.bool true, .int .i64 y, .int .i64 lea, .int .i64 sm, .int .i64 va, .int .i64 fi] 30
            have z0 := hn.cell 0 _ rfl
            have z1 := hn.cell 1 _ rfl
            have z3 := hn.cell 3 _ rfl
            have LQ := fun q => LO _ (S4.q.keep (drewN_grown _ q)).at_
            have EN := hide S4.q.grown
            clear VW g3 g4 Q3 LO HS hn S4
            go_wp2_with fail
            generalize W3.alloc _ = W4 at *
            go_quiet (exact Calls.quiet_of (LQ _))
            go_wp2_with fail
            all_goals go_ret
            all_goals exact ⟨ret_beq (by omega), grown_drewN (unhide EN)⟩
end Go.Proofs.Ytmcodfkmdpbjiaa
