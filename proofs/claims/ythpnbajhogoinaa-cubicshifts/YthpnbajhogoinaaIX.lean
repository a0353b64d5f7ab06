/- CubicShifts. -/
import Derived.Test.YthpnbajhogoinaaIX2
namespace Go.Proofs.Ythpnbajhogoinaa
open Go.RowKit Fl
set_option linter.unusedVariables false
set_option maxRecDepth 100000
set_option maxHeartbeats 4000000

/-- Two controllers beside one another. -/
structure TQ (w wr : World) (a b n : Nat) (s t : Cs) : Prop where
  qa : QE w wr a n s
  qb : QE w wr b n t
  ne : a ≠ b
theorem TQ.keep {w wr wr' : World} {a b n : Nat} {s t : Cs} (h : TQ w wr a b n s t) (g : wr.grownBy wr' none) : TQ w wr' a b n s t := ⟨h.qa.keep g, h.qb.keep g, h.ne⟩
theorem TQ.up {w wr : World} {a b n k : Nat} {s t : Cs} (h : TQ w wr a b n s t) (hk : n ≤ k) : TQ w wr a b k s t := ⟨h.qa.up hk, h.qb.up hk, h.ne⟩
theorem tq_da {w wr : World} {a b n : Nat} {s t : Cs} (h : TQ w wr a b n s t) (hn : n ≤ 9999) (y : OpE) : Calls Try.prog 15 #[ptr a, .agg (opc y)] wr fun e w' => e = .returned (.bool (didF y s)) ∧ TQ w w' a b (n + 1) (doesF y s) t ∧ wr.grownBy w' (some a) :=
  (qe_does h.qa hn y).mono fun e w' ⟨he, h1, g⟩ => ⟨he, ⟨h1, (h.qb.far g h.ne.symm h.qa.new).up (Nat.le_succ n), h.ne⟩, g⟩
theorem tq_db {w wr : World} {a b n : Nat} {s t : Cs} (h : TQ w wr a b n s t) (hn : n ≤ 9999) (y : OpE) : Calls Try.prog 15 #[ptr b, .agg (opc y)] wr fun e w' => e = .returned (.bool (didF y t)) ∧ TQ w w' a b (n + 1) s (doesF y t) ∧ wr.grownBy w' (some b) :=
  (qe_does h.qb hn y).mono fun e w' ⟨he, h1, g⟩ => ⟨he, ⟨(h.qa.far g h.ne h.qb.new).up (Nat.le_succ n), h1, h.ne⟩, g⟩
theorem tq_va {w wr : World} {a b n : Nat} {s t : Cs} (h : TQ w wr a b n s t) : Calls Try.prog 19 #[ptr a] wr fun e w' => e = .returned (.agg (vwc s)) ∧ TQ w w' a b n s t ∧ wr.grownBy w' none :=
  (qe_view h.qa).mono fun e w' ⟨he, _, g⟩ => ⟨he, h.keep g, g⟩
theorem tq_vb {w wr : World} {a b n : Nat} {s t : Cs} (h : TQ w wr a b n s t) : Calls Try.prog 19 #[ptr b] wr fun e w' => e = .returned (.agg (vwc t)) ∧ TQ w w' a b n s t ∧ wr.grownBy w' none :=
  (qe_view h.qb).mono fun e w' ⟨he, _, g⟩ => ⟨he, h.keep g, g⟩

theorem Blk.fours {W : World} {g : Nat} {t : TypeId} {v0 v1 v2 v3 : Value} (h : Blk W g #[v0, v1, v2, v3] t) : W.cell? ⟨g, 0, none⟩ = some v0 ∧ W.cell? ⟨g, 1, none⟩ = some v1 ∧ W.cell? ⟨g, 2, none⟩ = some v2 ∧ W.cell? ⟨g, 3, none⟩ = some v3 := ⟨h.cell 0 _ rfl, h.cell 1 _ rfl, h.cell 2 _ rfl, h.cell 3 _ rfl⟩
/-- The cells of a step in a row. -/
theorem RO.six {B : Nat} {wr : World} {g n c : Nat} {T : List OpE} (h : RO B wr (.slice (some ⟨g, 0, none⟩) n c) T) {k : Nat} {x : OpE} (hx : T[k]? = some x) : wr.cell? ⟨g, k * 6, none⟩ = some (.int .i64 x.kind) ∧ wr.cell? ⟨g, k * 6 + 1, none⟩ = some (.int .i64 x.h) ∧ wr.cell? ⟨g, k * 6 + 2, none⟩ = some (.int .i64 x.now) ∧ wr.cell? ⟨g, k * 6 + 3, none⟩ = some (.int .i64 x.sent) ∧ wr.cell? ⟨g, k * 6 + 4, none⟩ = some (.int .i64 x.size) ∧ wr.cell? ⟨g, k * 6 + 5, none⟩ = some (.bool x.lim) := by
  obtain ⟨-, -, -, h4⟩ := h.at
  rcases h4 with rfl | ⟨g', e, -, hc⟩
  · simp at hx
  · cases e
    exact ⟨hc k x hx 0 _ rfl, hc k x hx 1 _ rfl, hc k x hx 2 _ rfl, hc k x hx 3 _ rfl, hc k x hx 4 _ rfl, hc k x hx 5 _ rfl⟩
/-- What the rounds hold. -/
structure SI (w wr : World) (a b k : Nat) (d : Int) (s t : Cs) (B1 B2 : Nat) (v1 v2 : Value) (T1 T2 : List OpE) : Prop where
  tq : TQ w wr a b (2 * k) s t
  sh : Sh d s t
  r1 : RO B1 wr v1 T1
  r2 : RO B2 wr v2 T2

theorem SI.keep {w wr wr' : World} {a b k : Nat} {d : Int} {s t : Cs} {B1 B2 : Nat} {v1 v2 : Value} {T1 T2 : List OpE} (h : SI w wr a b k d s t B1 B2 v1 v2 T1 T2) (g : wr.grownBy wr' none) : SI w wr' a b k d s t B1 B2 v1 v2 T1 T2 := ⟨h.tq.keep g, h.sh, h.r1.grown g, h.r2.grown g⟩
theorem SI.set {w wr : World} {a b k : Nat} {d : Int} {s t : Cs} {B1 B2 : Nat} {v1 v2 : Value} {T1 T2 : List OpE} (h : SI w wr a b k d s t B1 B2 v1 v2 T1 T2) {g : Nat} {cs : Array Value} (hb : Blk wr g cs 33) (ha : a < g) (hb2 : b < g) (hg : w.heap.size ≤ g) (v : Value) : SI w (wr.setCell ⟨g, 3, none⟩ v) a b k d s t B1 B2 v1 v2 T1 T2 := by
  have g1 := grown_at (World.grownBy.refl wr (some g)) 3 v
  have kk : ∀ (k : Nat) (c : Array Value), wr.heap[k]? = some (.cells c 40 (0, 0)) → (wr.setCell ⟨g, 3, none⟩ v).heap[k]? = wr.heap[k]? := fun k c hk => g1.block k (Array.getElem?_eq_some_iff.1 hk).1 (fun e => by
    cases e
    have := (show wr.heap[g]? = _ from hb)
    rw [hk] at this
    simp at this)
  exact ⟨⟨h.tq.qa.far g1 (by omega) hg, h.tq.qb.far g1 (by omega) hg, h.tq.ne⟩, h.sh, h.r1.kept kk, h.r2.kept kk⟩

theorem shifts_walk (n : Int) (a0 : Option Addr) (len cap : Nat) (ol : List OpE) (bb : Int) (w : World) (hn : i64B n) (h : IsOps w a0 len cap ol) (hb : i64B bb) (big : len * 48 ≤ 140737488355328) :
    Calls Try.prog 7 #[.int .i64 n, .slice a0 len cap, .int .i64 bb] w fun e w' => e = .returned (.bool true) ∧ w.grownBy w' none := by
  have sh := shown_any w
  have HO := hide h
  have hl := h.hlen
  have hcap := h.hcap
  have lenI : ¬ (9223372036854775807 : Int) < (len : Int) := by omega
  have CT := hide (fun (W : World) (g : w.grownBy W none) => qe_ctl g n hn)
  have TM := time_any bb
  obtain ⟨n1, n2⟩ := sp_b bb
  have hT1 : (sp bb).tmod 562949953421312 = sp bb % 562949953421312 := Int.tmod_eq_emod_of_nonneg n1
  have r1 : 0 ≤ sp bb % 562949953421312 ∧ sp bb % 562949953421312 < 562949953421312 := by omega
  generalize sp bb % 562949953421312 = d at *
  generalize sp bb = N at *
  obtain ⟨d1, d2⟩ := r1
  have LT := hide (fun (W : World) (g : w.grownBy W none) (x : Int) (hx : 0 ≤ x ∧ x < 562949953421312) => later_any a0 len cap ol w W h g x hx big)
  clear h n1 n2
  have S00 : Hid (Sh d (cs0 (mtuF n)) (cs0 (mtuF n))) := ⟨rfl, .inr ⟨rfl, rfl, rfl, rfl⟩, .inl ⟨rfl, rfl⟩, .inl ⟨rfl, rfl⟩⟩
  generalize cs0 (mtuF n) = s0 at *
  have D2 := hide d2
  clear d2
  go_enter Try.func7, Try.ntmps7
  go_wp2_with fail
  refine sh.mono ?_
  rintro e w1 ⟨rfl, g1⟩
  clear sh
  go_wp2_with fail
  refine (unhide CT w1 g1).mono ?_
  rintro e w2 ⟨a, -, rfl, q2, -⟩
  clear g1
  go_wp2_with fail
  refine (unhide CT w2 q2.grown).mono ?_
  rintro e w3 ⟨b, hb, rfl, q3, k3⟩
  have S0 := hide (TQ.mk (q2.keep k3) q3 (by have := q2.at_.lt; omega))
  clear CT q2 q3 k3 hb
  go_wp2_with fail
  refine (TM _).mono ?_
  rintro e X0 ⟨rfl, hX0⟩
  replace hX0 := hX0.symm
  subst hX0
  clear TM
  go_wp2_with fail
  refine (unhide LT w3 (unhide S0).qa.grown 0 (by omega)).mono ?_
  rintro e w4 ⟨o1, m1, q1, rfl, ro1, g4⟩
  have S1 := hide ((unhide S0).keep g4)
  clear S0
  go_wp2_with fail
  refine (unhide LT w4 (unhide S1).qa.grown d ⟨d1, unhide D2⟩).mono ?_
  rintro e w5 ⟨o2, m2, q2, rfl, ro2, g5⟩
  have S2 : Hid (SI w w5 a b 0 d s0 s0 w3.heap.size w4.heap.size (.slice o1 m1 q1) (.slice o2 m2 q2) (ol.map (laterF 0)) (ol.map (laterF d))) := ⟨(unhide S1).keep g5, unhide S00, ro1.grown g5, ro2⟩
  generalize w3.heap.size = B1 at *
  generalize w4.heap.size = B2 at *
  have L1 : m1 = len := by rw [ro1.at.1, List.length_map]; exact hl
  have L2 : m2 = len := by rw [ro2.at.1, List.length_map]; exact hl
  have Q1 := ro1.at.2.1
  have Q2 := ro2.at.2.1
  have Q1' := ro1.at.2.2.1
  have Q2' := ro2.at.2.2.1
  unfold maxLen at Q1' Q2'
  subst L1
  subst L2
  clear S1 S00 LT ro1 ro2 g4 g5
  go_wp2_with fail
  go_loopw [13] (fun i wr => ∃ (k : Nat) (s t : Cs), k ≤ m2 ∧ k ≤ 4000 ∧ i = .int .i64 k ∧ Hid (SI w wr a b k d s t B1 B2 (.slice o1 m2 q1) (.slice o2 m2 q2) (ol.map (laterF 0)) (ol.map (laterF d)))) (fun i _ => m2 - (intOf i).toNat)
  case atStart => exact ⟨0, _, _, Nat.zero_le _, Nat.zero_le _, rfl, S2⟩
  case round =>
    clear S2
    obtain ⟨k, s, t, hk, hk4, rfl, H⟩ := hrel
    by_cases hlt : k < m2 ∧ k < 4000
    · have hx : ol[k]? = some ol[k] := List.getElem?_eq_getElem (by omega)
      generalize ol[k] = y at *
      have hx1 : (ol.map (laterF 0))[k]? = some (laterF 0 y) := by rw [List.getElem?_map, hx]; rfl
      have hx2 : (ol.map (laterF d))[k]? = some (laterF d y) := by rw [List.getElem?_map, hx]; rfl
      have kn : (k : Int) < (m2 : Int) := by omega
      have k4 : (k : Int) < 4000 := by omega
      have HLT := hide hlt
      obtain ⟨tq, shs, ra, rb⟩ := unhide H
      obtain ⟨g1, rfl⟩ : ∃ g, o1 = some ⟨g, 0, none⟩ := by
        rcases ra.at.2.2.2 with e | ⟨g, e, -⟩
        · rw [e] at hx1; simp at hx1
        · exact ⟨g, e⟩
      obtain ⟨g2, rfl⟩ : ∃ g, o2 = some ⟨g, 0, none⟩ := by
        rcases rb.at.2.2.2 with e | ⟨g, e, -⟩
        · rw [e] at hx2; simp at hx2
        · exact ⟨g, e⟩
      obtain ⟨c0, c1, c2, c3, c4, c5⟩ := ra.six hx1
      have DA := tq_da tq (by omega) (laterF 0 y)
      obtain ⟨shd, dde⟩ := sh_does shs d1 (unhide D2) tq.qa.ok.c.1 y
      have okA := does_ok tq.qa.ok (by omega) (laterF 0 y)
      have bgA := okA.b.1
      have bgB := okA.b.2
      have bgC := okA.c.2
      obtain ⟨v1, v2, v3, v4⟩ := shd.same
      have v5 := shd.b
      have KR : Hid (∀ X, wr.grownBy X (some a) → CB X b t → RO B2 X (.slice (some ⟨g2, 0, none⟩) m2 q2) (ol.map (laterF d)) ∧ RO B1 X (.slice (some ⟨g1, 0, none⟩) m2 q1) (ol.map (laterF 0))) := fun X gX _ => ⟨rb.far tq.qa.at_ gX, ra.far tq.qa.at_ gX⟩
      have HX2 := hide hx2
      have SHD := hide shd
      clear hx hx1 hx2 hlt hk H tq shs ra rb shd okA
      generalize laterF 0 y = y1 at *
      generalize laterF d y = y2 at *
      unfold opc at DA
      go_wp2_with fail
      refine DA.mono ?_
      rintro e W3 ⟨rfl, p3, g3⟩
      clear DA c0 c1 c2 c3 c4 c5
      obtain ⟨rb, ra⟩ := unhide KR W3 g3 p3.qb.at_
      obtain ⟨c0, c1, c2, c3, c4, c5⟩ := rb.six (unhide HX2)
      have DB := tq_db p3 (by omega) y2
      rw [dde] at DB
      have KR2 : Hid (∀ X, W3.grownBy X (some b) → RO B2 X (.slice (some ⟨g2, 0, none⟩) m2 q2) (ol.map (laterF d)) ∧ RO B1 X (.slice (some ⟨g1, 0, none⟩) m2 q1) (ol.map (laterF 0))) := fun X gX => ⟨rb.far p3.qb.at_ gX, ra.far p3.qb.at_ gX⟩
      clear KR rb ra p3 g3 dde HX2
      unfold opc at DB
      go_wp2_with fail
      refine DB.mono ?_
      rintro e W4 ⟨rfl, p4, g4⟩
      clear DB c0 c1 c2 c3 c4 c5
      obtain ⟨rb, ra⟩ := unhide KR2 W4 g4
      have P4 : Hid (SI w W4 a b (k + 1) d (doesF y1 s) (doesF y2 t) B1 B2 (.slice (some ⟨g1, 0, none⟩) m2 q1) (.slice (some ⟨g2, 0, none⟩) m2 q2) (ol.map (laterF 0)) (ol.map (laterF d))) := ⟨p4.up (by omega), unhide SHD, ra, rb⟩
      have V1 := tq_va p4
      clear KR2 rb ra p4 g4 SHD
      generalize didF y1 s = dd at *
      generalize doesF y1 s = s' at *
      generalize doesF y2 t = t' at *
      unfold vwc at V1
      go_wp2_with fail
      refine V1.mono ?_
      rintro e W5 ⟨rfl, p5, g5⟩
      clear V1
      have V2 := tq_vb (p5.keep (World.grownBy_alloc W5 (.cells (vwc s') 33) none))
      have B5 := Blk.new W5 (vwc s') 33
      have G5 := gtrans g5 (World.grownBy_alloc W5 (.cells (vwc s') 33) none)
      have VL : Hid (a < W5.heap.size ∧ b < W5.heap.size ∧ w.heap.size ≤ W5.heap.size) := ⟨p5.qa.at_.lt, p5.qb.at_.lt, p5.qa.grown.size⟩
      have P5 := hide ((unhide P4).keep G5)
      clear p5 g5 P4 G5
      unfold vwc at V2 B5 P5
      rw [v2, v3, v4] at V2
      go_wp2_with fail
      generalize W5.heap.size = gv at *
      generalize W5.alloc _ = W6 at *
      refine V2.mono ?_
      rintro e W7 ⟨rfl, -, g7⟩
      clear V2
      generalize s'.size = A at *
      generalize s'.thr = T at *
      generalize s'.flight = F at *
      rcases v5 with ⟨z1, z2⟩ | ⟨z1, z2⟩
      · rw [z1] at B5
        rw [z2]
        have G8 := gtrans g7 (World.grownBy_alloc W7 (.cells #[.int .i64 A, .int .i64 T, .int .i64 F, .int .i64 (-1)] 33) none)
        obtain ⟨u0, u1, u2, u3⟩ := (B5.grown G8).fours
        obtain ⟨x0, x1, x2, x3⟩ := (Blk.new W7 #[.int .i64 A, .int .i64 T, .int .i64 F, .int .i64 (-1)] 33).fours
        have R := hide ((unhide P5).keep G8)
        clear B5 G8 g7 P5 VL z1 z2 v1 v2 v3 v4 bgA bgB bgC
        go_wp2_with fail
        go_roundw
        case rel => exact ⟨k + 1, _, _, (unhide HLT).1, (unhide HLT).2, by go_num, R⟩
        case measure => have := unhide HLT; simp [intOf]; omega
      · rw [z2]
        have G8 := gtrans g7 (World.grownBy_alloc W7 (.cells #[.int .i64 A, .int .i64 T, .int .i64 F, .int .i64 (s'.began + d)] 33) none)
        have B8 := B5.grown G8
        have N8 := Blk.new W7 #[.int .i64 A, .int .i64 T, .int .i64 F, .int .i64 (s'.began + d)] 33
        have gne : W7.heap.size ≠ gv := by have := (B5.grown g7).lt; omega
        obtain ⟨vl1, vl2, vl3⟩ := unhide VL
        have R := hide (((unhide P5).keep G8).set B8 vl1 vl2 vl3 (.int .i64 (s'.began + d)))
        obtain ⟨u0, u1, u2, u3⟩ := B8.fours
        have tz := B8.thaw
        have hw : IntKind.i64.wrap (s'.began + d) = s'.began + d := by have := unhide D2; rw [IntKind.wrap_i64]; omega
        obtain ⟨y0, y1', y2', y3⟩ := (show Blk ((W7.alloc (.cells #[.int .i64 A, .int .i64 T, .int .i64 F, .int .i64 (s'.began + d)] 33)).setCell ⟨gv, 3, none⟩ (.int .i64 (s'.began + d))) gv #[.int .i64 A, .int .i64 T, .int .i64 F, .int .i64 (s'.began + d)] 33 from Blk.setC B8 3 (.int .i64 (s'.began + d))).fours
        obtain ⟨x0, x1, x2, x3⟩ := (Blk.far N8 (grown_at (World.grownBy.refl _ (some gv)) 3 (.int .i64 (s'.began + d))) gne).fours
        clear B5 B8 N8 G8 g7 P5 VL z2 v1 v2 v3 v4 bgA bgB bgC vl1 vl2 vl3
        generalize s'.began = bg at *
        go_wp2_with fail
        go_roundw
        case rel => exact ⟨k + 1, _, _, (unhide HLT).1, (unhide HLT).2, by go_num, R⟩
        case measure => have := unhide HLT; simp [intOf]; omega
    · have alt : (¬ (k : Int) < (m2 : Int)) ∨ ((k : Int) < (m2 : Int) ∧ ¬ (k : Int) < 4000) := by omega
      have EN := hide (unhide H).tq.qa.grown
      clear H hlt
      rcases alt with e1 | ⟨e1, e2⟩
      all_goals
        go_wp2_with fail
        go_ret
        exact ⟨rfl, unhide EN⟩
end Go.Proofs.Ythpnbajhogoinaa
