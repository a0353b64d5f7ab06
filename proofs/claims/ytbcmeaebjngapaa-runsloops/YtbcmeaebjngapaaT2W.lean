/- RunsLoops: its walk. -/
import Derived.Test.YtbcmeaebjngapaaT2P
import Derived.Laws.StructEq
namespace Go.Proofs.Ytbcmeaebjngapaa
open Go.RowKit Go.Shelf
set_option linter.unusedVariables false
set_option linter.unusedSimpArgs false
set_option maxHeartbeats 40000000
set_option maxRecDepth 100000
attribute [local go_sem] Oper.semAt_some

theorem loops_walk (a0 : Option Addr) (len0 cap0 : Nat) (am : Option Addr) (lenm capm : Nat) (lv : Int) (w : World) (h1 : IsOps w a0 len0 cap0) (h2 : IsOps w am lenm capm) (hlv : -9223372036854775808 ≤ lv ∧ lv ≤ 9223372036854775807) :
    Calls Try.prog 4 #[.slice a0 len0 cap0, .slice am lenm capm, .int .i64 lv] w fun e w' => e = .returned (.bool true) ∧ w.grownBy w' none := by
  obtain ⟨K0, LO0, HI0, ops0⟩ := h1.fn
  obtain ⟨K, LO, HI, opsm⟩ := h2.fn
  clear h1 h2
  refine (callsIn_wide (n := 12)).1 ?_
  obtain ⟨w1, hw1⟩ : ∃ w1, w1 = ((w.alloc (.cells #[.slice am lenm capm] 22)).alloc (.cells #[.int .i64 lv] 3)).alloc (.cells #[.bool false] 4) := ⟨_, rfl⟩
  have sh := shown_ok w1
  have H0 := hide ops0
  have HM := hide opsm
  clear ops0 opsm
  refine callsIn_of_wp_marks Try.func4 rfl trivial ?_ rfl
  simp only [Try.ntmps4, List.size_toArray, List.length_cons, List.length_nil, Nat.reduceAdd, Nat.reduceSub, Array.replicate_succ, Array.replicate_zero, List.push_toArray, List.append_toArray, List.nil_append, List.cons_append]
  gi_wp2_with fail
  rw [← hw1]
  refine ⟨trivial, ?_⟩
  refine (callsIn_wide.2 sh).mono ?_
  rintro e w2 ⟨rfl, g2⟩
  have g12 : w.grownBy w1 none := by rw [hw1]; exact grown_trans (grown_trans (World.grownBy_alloc w _ none) (World.grownBy_alloc _ _ none)) (World.grownBy_alloc _ _ none)
  have sz1 : w1.heap.size = w.heap.size + 1 + 1 + 1 := by rw [hw1]; simp
  have bm1 : Boxed w1 w.heap.size 22 (.slice am lenm capm) := by
    rw [hw1]; exact ((grown_trans (World.grownBy_alloc _ _ none) (World.grownBy_alloc _ _ none)).block _ (by simp) (by simp)).trans (heap_alloc_new w _)
  have bl1 : Boxed w1 (w.heap.size + 1) 3 (.int .i64 lv) := by
    have := heap_alloc_new (w.alloc (.cells #[.slice am lenm capm] 22)) (.cells #[.int .i64 lv] 3)
    rw [World.size_alloc] at this
    rw [hw1]; exact ((World.grownBy_alloc _ _ none).block _ (by simp) (by simp)).trans this
  have br1 : Boxed w1 (w.heap.size + 1 + 1) 4 (.bool false) := by
    have := heap_alloc_new ((w.alloc (.cells #[.slice am lenm capm] 22)).alloc (.cells #[.int .i64 lv] 3)) (.cells #[.bool false] 4)
    rw [World.size_alloc, World.size_alloc] at this
    rw [hw1]; exact this
  clear hw1
  have se := set_ok a0 len0 cap0 K0 LO0 HI0 w2 w2 (World.grownBy.refl _ _) ((unhide H0).keep (grown_trans g12 g2))
  clear sh
  gi_wp2_with fail
  refine ⟨trivial, ?_⟩
  refine (callsIn_wide.2 se).mono ?_
  rintro e w3 ⟨rfl, ls⟩
  have g3 := ls.grown
  obtain ⟨L, hL⟩ : ∃ L, L = runL K0 LO0 HI0 (min len0 2000) := ⟨_, rfl⟩
  rw [← hL] at ls
  have LG : Good (-9223372036854775808) 9223372036854775807 L ∧ L.length ≤ 2000 := by
    have := runL_good (K := K0) (LO := LO0) (HI := HI0) (min len0 2000) (fun i hi => ?_)
    · rw [hL]; exact ⟨this.1, by have := this.2; omega⟩
    · obtain ⟨-, -, hc⟩ := unhide H0
      obtain ⟨b, off, -, hc⟩ := hc.resolve_left (by omega)
      obtain ⟨-, -, -, r1, -, -, r4⟩ := hc i (by omega)
      exact ⟨r1, r4⟩
  obtain ⟨w4, hw4⟩ : ∃ w4, w4 = w3.alloc (.cells #[.pointer (some ⟨w2.heap.size, 0, none⟩)] 24) := ⟨_, rfl⟩
  have g4 : w3.grownBy w4 none := by rw [hw4]; exact World.grownBy_alloc _ _ none
  have bs4 : Boxed w4 w3.heap.size 24 (.pointer (some ⟨w2.heap.size, 0, none⟩)) := by rw [hw4]; exact heap_alloc_new w3 _
  have g14 := grown_trans g2 (grown_trans g3 g4)
  have bm4 : Boxed w4 w.heap.size 22 (.slice am lenm capm) := (g14.block _ bm1.lt (by simp)).trans bm1
  have bl4 : Boxed w4 (w.heap.size + 1) 3 (.int .i64 lv) := (g14.block _ bl1.lt (by simp)).trans bl1
  have br4 : Boxed w4 (w.heap.size + 1 + 1) 4 (.bool false) := (g14.block _ br1.lt (by simp)).trans br1
  obtain ⟨v, st3, fv⟩ := ls.at_
  have b3 : w2.heap.size < w3.heap.size := (Array.getElem?_eq_some_iff.1 st3.blk).1
  have vlt : ∀ g, v.ownBlock = some g → g < w3.heap.size := fun g hg => by obtain ⟨cs, t, hb⟩ := st3.rowlt hg; exact (Array.getElem?_eq_some_iff.1 hb).1
  have ls4 := st3.keep g4
  have z12 := g2.size; have z23 := g3.size
  have z4 : w4.heap.size = w3.heap.size + 1 := by rw [hw4]; simp
  have cl := bl4.cell
  have fl := bl4.frozen
  have cs := bs4.cell
  rw [hw4] at cl fl
  have HB := hide (And.intro bm4 (And.intro bl4 (And.intro br4 (And.intro bs4 (And.intro ls4 (grown_trans g12 g14))))))
  clear se ls st3 g2 g3 bm1 bl1 br1 hL H0 g12 g14 bm4 bl4 br4 bs4 ls4 g4
  gi_upto_if 29 with fail
  rw [← hw4] at cl fl ⊢
  clear hw4
  gi_cut [] from 19 (fun wc => ∃ lv' : Int, 0 ≤ lv' ∧ lv' ≤ 9223372036854775807 ∧ Boxed wc (w.heap.size + 1) 3 (.int .i64 lv') ∧ Kp (fun g => g = w.heap.size + 1) w4 wc)
  case first =>
    as_aux_lemma =>
      by_cases hneg : lv < 0
      · have k1 : IntKind.i64.wrap (lv + 1) = lv + 1 := by rw [IntKind.wrap_i64]; omega
        have k2 : IntKind.i64.wrap (-(lv + 1)) = -(lv + 1) := by rw [IntKind.wrap_i64]; omega
        gi_wp2_with fail
        gi_meet
        exact ⟨-(lv + 1), by omega, by omega, Boxed.set _ (unhide HB).2.1, (Kp.refl _ _).set _ _ _ (fun _ => rfl)⟩
      · gi_wp2_with fail
        gi_meet
        exact ⟨lv, by omega, by omega, (unhide HB).2.1, Kp.refl _ _⟩
  case rest =>
  obtain ⟨lv', hv0, hv1, bl, k4⟩ := hcut
  obtain ⟨bm, -, br, bs, st4, g0⟩ := unhide HB
  clear HB cl fl cs
  have kv : ∀ g, v.ownBlock = some g → w.heap.size + 1 + 1 < g := fun g hg => by have := fv g hg; omega
  have bmc := bxKp bm k4 (by omega)
  have brc := bxKp br k4 (by omega)
  have bsc := bxKp bs k4 (by omega)
  have stc : SetAt wc w2.heap.size 0 v L := st4.kpt k4 (by omega) (fun g hg => by have := kv g hg; omega)
  have g0c : w.grownBy wc none := k4.gr (fun g e => by omega) g0
  have cs := bsc.cell
  have zc := k4.size
  clear st4 bm br bs k4 g0
  obtain ⟨w5, hw5⟩ : ∃ w5, w5 = ((wc.alloc (.cells #[.pointer (some ⟨w2.heap.size, 0, none⟩)] 24)).alloc (.cells #[.pointer (some ⟨w2.heap.size, 0, none⟩)] 24)).alloc (.cells #[dnV (wc.heap.size + 1)] 37) := ⟨_, rfl⟩
  have gc5 : wc.grownBy w5 none := by rw [hw5]; exact grown_trans (grown_trans (World.grownBy_alloc wc _ none) (World.grownBy_alloc _ _ none)) (World.grownBy_alloc _ _ none)
  have z5 : w5.heap.size = wc.heap.size + 1 + 1 + 1 := by rw [hw5]; simp
  have bu5 : Boxed w5 wc.heap.size 24 (.pointer (some ⟨w2.heap.size, 0, none⟩)) := by
    rw [hw5]; exact ((grown_trans (World.grownBy_alloc _ _ none) (World.grownBy_alloc _ _ none)).block _ (by simp) (by simp)).trans (heap_alloc_new wc _)
  have bd5 : Boxed w5 (wc.heap.size + 1) 24 (.pointer (some ⟨w2.heap.size, 0, none⟩)) := by
    have := heap_alloc_new (wc.alloc (.cells #[.pointer (some ⟨w2.heap.size, 0, none⟩)] 24)) (.cells #[.pointer (some ⟨w2.heap.size, 0, none⟩)] 24)
    rw [World.size_alloc] at this
    rw [hw5]; exact ((World.grownBy_alloc _ _ none).block _ (by simp) (by simp)).trans this
  have bt5 : Boxed w5 (wc.heap.size + 1 + 1) 37 (dnV (wc.heap.size + 1)) := by
    have := heap_alloc_new ((wc.alloc (.cells #[.pointer (some ⟨w2.heap.size, 0, none⟩)] 24)).alloc (.cells #[.pointer (some ⟨w2.heap.size, 0, none⟩)] 24)) (.cells #[dnV (wc.heap.size + 1)] 37)
    rw [World.size_alloc, World.size_alloc] at this
    rw [hw5]; exact this
  have st5 := stc.keep gc5
  have ru := runs_at st5 (by omega) w5 (World.grownBy.refl _ _)
  have bs5 : Boxed w5 w3.heap.size 24 (.pointer (some ⟨w2.heap.size, 0, none⟩)) := (gc5.block _ bsc.lt (by simp)).trans bsc
  have cs5 := bs5.cell
  have ct5 := bt5.cell
  have csA := (World.grownBy_alloc wc (.cells #[.pointer (some ⟨w2.heap.size, 0, none⟩)] 24) none).cell cs (by simp)
  rw [hw5] at cs5 ct5
  have une := up_ne wc.heap.size
  have dne := dn_ne (wc.heap.size + 1)
  have HB := hide (And.intro bmc (And.intro bl (And.intro brc (And.intro bsc (And.intro g0c (And.intro gc5 (And.intro bu5 (And.intro bd5 (And.intro bt5 st5)))))))))
  clear bmc bl brc bsc stc g0c gc5 bu5 bd5 bt5 st5 bs5
  gi_wp2_with fail
  refine ⟨trivial, ?_⟩
  refine (callsIn_wide.2 (up_any (some ⟨w2.heap.size, 0, none⟩) wc)).mono ?_
  rintro e _ ⟨rfl, rfl⟩
  gi_wp2_with fail
  refine ⟨trivial, ?_⟩
  refine (callsIn_wide.2 (down_any (some ⟨w2.heap.size, 0, none⟩) _)).mono ?_
  rintro e _ ⟨rfl, rfl⟩
  gi_wp2_with fail
  refine ⟨trivial, ?_⟩
  rw [← hw5]
  refine (callsIn_wide.2 ru).mono ?_
  rintro e w6 ⟨vr, rfl, row, fr, g6⟩
  obtain ⟨bmc, bl, brc, bsc, g0c, gc5, bu5, bd5, bt5, st5⟩ := unhide HB
  obtain ⟨a, c, rfl, rd, ax⟩ := rd_new (p := ⟨0, 0, 0, 0, 0, 0, 0⟩) (b := w2.heap.size) (by omega) (fun j e => by rw [st5.ownS] at e; have := vlt j e; omega) row fr g6
  have st6 := st5.keep g6
  have gc6 := grown_trans gc5 g6
  have z6 := g6.size
  obtain ⟨w7, hw7⟩ : ∃ w7, w7 = (w6.alloc (.cells #[.slice a L.length c] 26)).alloc (.cells #[.int .i64 0] 3) := ⟨_, rfl⟩
  have g67 : w6.grownBy w7 none := by rw [hw7]; exact grown_trans (World.grownBy_alloc _ _ none) (World.grownBy_alloc _ _ none)
  have z7 : w7.heap.size = w6.heap.size + 1 + 1 := by rw [hw7]; simp
  have gc7 := grown_trans gc6 g67
  have g57 := grown_trans g6 g67
  have hx : ∀ {A B : World} {x : Nat} {t : TypeId} {y : Value}, A.grownBy B none → Boxed A x t y → Boxed B x t y := fun g h => (g.block _ (Boxed.lt h) (by simp)).trans h
  have ok : (Pl.mk w.heap.size w3.heap.size wc.heap.size (wc.heap.size + 1) (wc.heap.size + 1 + 1) w6.heap.size w2.heap.size).Ok := ⟨by show w.heap.size + 1 + 1 < w3.heap.size; omega, by show w3.heap.size < wc.heap.size; omega, by show wc.heap.size < wc.heap.size + 1; omega, by show wc.heap.size + 1 < wc.heap.size + 1 + 1; omega, by show wc.heap.size + 1 + 1 < w6.heap.size; omega⟩
  have li : LI w (Pl.mk w.heap.size w3.heap.size wc.heap.size (wc.heap.size + 1) (wc.heap.size + 1 + 1) w6.heap.size w2.heap.size) (.slice am lenm capm) lv' v L a c L 0 [] w7 := by
    refine ⟨⟨hx gc7 bmc, hx gc7 bl, hx gc7 brc, hx gc7 bsc, hx g57 bu5, hx g57 bd5, hx g57 bt5, ?_, ?_, st6.keep g67, LG.1, fun g hg hb => ?_, rd.kc (KS.grown (by show w2.heap.size < _; omega) g67), fun x e hL => ?_⟩, grown_trans g0c gc7, Nat.le_refl _, by show _ ≤ w2.heap.size; omega, fun g hg => by have := kv g hg; omega, fun D hD => by cases hD⟩
    · show Boxed w7 w6.heap.size _ _
      rw [hw7]; exact ((World.grownBy_alloc _ _ none).block _ (by simp) (by simp)).trans (heap_alloc_new w6 _)
    · show Boxed w7 (w6.heap.size + 1) _ _
      have := heap_alloc_new (w6.alloc (.cells #[.slice a L.length c] 26)) (.cells #[.int .i64 0] 3)
      rw [World.size_alloc] at this
      rw [hw7]; exact this
    · have : w1.heap.size ≤ g ∧ g < w3.heap.size := by
        rcases hg with e | e
        · have e' : g = w2.heap.size := e
          omega
        · exact ⟨by have := fv g e; omega, vlt g e⟩
      unfold Pl.Bx at hb
      simp only at hb
      omega
    · have h1 := ax x e hL
      have h2 : x < w6.heap.size := by
        obtain ⟨g', e', -, -, cs', t', hb', -⟩ := rd.at_.resolve_left hL
        rw [e] at e'; cases e'; exact (Array.getElem?_eq_some_iff.1 hb').1
      unfold Pl.Bx
      simp only
      omega
  have HL := hide li
  clear li hx g57 gc7 g67 gc6 st6 rd ax row fr g6 bmc bl brc bsc g0c gc5 bu5 bd5 bt5 st5 HB fv kv vlt ru cs5 ct5 csA cs une dne
  gi_upto_region 12 with fail
  gi_cut [12] from 19 (fun v12 wx => v12 = .pointer (some ⟨w6.heap.size + 1, 0, none⟩) ∧ wx = w7)
  case first =>
    as_aux_lemma =>
      gi_wp2_with fail
      gi_meet
      exact ⟨rfl, hw7.symm⟩
  case rest =>
  obtain ⟨h12, hwx⟩ := hcut
  subst h12
  replace hwx := hwx.symm
  subst hwx
  clear hw7 hw5
  have nbs : w.heap.size + 1 + 1 < w2.heap.size ∧ w2.heap.size < w3.heap.size ∧ w3.heap.size < wc.heap.size := by omega
  generalize hN : w.heap.size = N at *
  generalize w3.heap.size = P at *
  generalize w2.heap.size = b at *
  generalize wc.heap.size = u at *
  generalize w6.heap.size = q at *
  clear sz1 z12 z23 z4 b3 zc z5 z6 w1 w2 w3 w4 w5 w6 wc
  have z7a : q + 1 < w7.heap.size := by omega
  clear z7 hN
  gi_wp2_with fail
  have li := unhide HL
  have SEQ1 := up_seq u b w7.heap.size (some ⟨b, 0, none⟩) L w7 li.fa.bu.cell (runs_at li.fa.st (by omega)) (Nat.le_refl _) li.blt li.hob (by omega)
  have z0 : w.heap.size ≤ w7.heap.size := li.gr.size
  have blt : b < w7.heap.size := li.blt
  refine range_two (n := 12) (id := 0) (gf := 25) (lb := #[.pointer (some ⟨u, 0, none⟩)]) rfl (enters_of Try.func25 (by kernel_rfl) rfl)
    SEQ1 (fun h k => KS.trans h k) (fun X j o o' hj hl ho => KS.put X j o o' hl ho (by have : b < w7.heap.size := blt; omega)) (fun _ => rfl)
    (fun pre X => LI w (Pl.mk N P u (u + 1) (u + 1 + 1) q b) (.slice am lenm capm) lv' v L a c L (pre.length : Int) [] X ∧ pre <+: L)
    (fun pre X => ∃ iv, LI w (Pl.mk N P u (u + 1) (u + 1 + 1) q b) (.slice am lenm capm) lv' v L a c L iv [] X)
    (fun pre X Y row h g hr => ⟨h.1.own g hr z0 (fun D hD => by cases hD), h.2⟩)
    (fun pre X Y row h g hr => ⟨h.choose, h.choose_spec.own g hr z0 (fun D hD => by cases hD)⟩)
    ⟨li, List.nil_prefix⟩
    (AxA (fun x Bx => { tmps := #[.slice a0 len0 cap0, .slice am lenm capm, .int .i64 lv, undef, .pointer (some ⟨N, 0, none⟩), .pointer (some ⟨N + 1, 0, none⟩), .pointer (some ⟨N + 1 + 1, 0, none⟩), .bool true, .pointer (some ⟨P, 0, none⟩), upV u, .pointer (some ⟨u + 1 + 1, 0, none⟩), .pointer (some ⟨q, 0, none⟩), .pointer (some ⟨q + 1, 0, none⟩), .pointer (some ⟨Bx, 0, none⟩), undef, undef, undef, undef, undef, u19, u20, u21, u22, u23, u24, u25, u26, u27, u28, u29, u30, u31, u32, u33, u34, u35, u36, u37, u38, u39, u40, u41, u42, u43, u44, upV u, .agg #[.int .i64 x.1, .int .i64 x.2], u47, u48, u49, u50, u51, u52, u53, u54, u55, u56, u57, u58, u59, u60, u61, u62, u63, u64, u65, u66, u67, u68, u69, u70, u71, u72, u73, u74, u75, u76, u77, u78, u79, u80, u81, u82, u83, u84, u85, u86, u87, u88, u89, u90, u91, u92, u93, u94, u95, u96, u97, u98, u99, u100, u101, u102, u103, u104, u105, u106, u107, u108, u109, u110, u111, u112, u113, u114, u115, u116, u117, u118, u119, u120, u121, u122, u123, u124, u125, u126, u127, u128, u129, u130, u131, u132, u133, u134, u135, u136, u137, u138, u139, u140, u141, u142, u143, u144, u145, u146, u147, u148, u149, u150, u151, u152, u153, u154, u155, u156, u157, u158, u159, u160, u161, u162, u163, u164, u165, u166, u167, u168, u169, u170, u171, u172, u173, u174, u175, u176, u177, u178, u179, u180, u181, u182, u183, u184, u185, u186, u187, u188, u189, u190, u191, u192, u193, u194, u195, u196, u197, u198, u199, u200, u201, u202, u203, u204, u205, u206, u207, u208, u209, u210, u211, u212, u213, u214, u215, u216], defers := [] }))
    (fun x a' => axA_own _ _ x a')
    (fun D X => ∃ iv, LI w (Pl.mk N P u (u + 1) (u + 1 + 1) q b) (.slice am lenm capm) lv' v L a c L iv [D] X)
    (fun D xs W hs h hd => ⟨_, h.1.mark hd⟩) (fun D pre W hs h hd => ⟨h.choose, h.choose_spec.mark hd⟩) (fun _ _ h => h) ?assign1 ?body1 ?rest1
  case assign1 =>
    as_aux_lemma =>
      rintro l m pre x X K ⟨h, hpf⟩ hK
      have gA := World.grownBy_alloc X (.cells #[.int .i64 x.1, .int .i64 x.2] 31) none
      have hK2 := hK _ _ ((KeepsOthers.alloc X (.cells #[.int .i64 x.1, .int .i64 x.2] 31)).from _) (KS.grown h.blt gA) ⟨h.grown gA, hpf⟩ ⟨_, heap_alloc_new X _, rfl⟩
      clear h SEQ1 HL li
      gi_wp2
      exact hK2
  case body1 =>
    rintro l m pre x a' X hl ⟨r, hr⟩ ⟨h, hpf⟩ ⟨Bx, hx, ha⟩ hsp
    dsimp only at ha
    subst ha
    have hk := at_prefix hsp
    have hkl : pre.length < L.length := (List.getElem?_eq_some_iff.1 hk).1
    have kI : ¬ (L.length : Int) ≤ (pre.length : Int) := by omega
    obtain ⟨g, rfl, y0, y1⟩ := h.fa.rl.look hk
    have x0 := (box2 hx).1
    have x1 := (box2 hx).2
    have ci : X.cell? ⟨q + 1, 0, none⟩ = some (.int .i64 (pre.length : Int)) := h.fa.bi.cell
    have cq : X.cell? ⟨q, 0, none⟩ = some (.slice (some ⟨g, 0, none⟩) L.length c) := h.fa.bq.cell
    have cap := h.fa.rl.cap
    have H := hide (And.intro h hsp)
    clear h SEQ1 HL li hpf hx
    gi_upto_region 15 with fail
    gi_cut [58] from 14 (fun v58 wx => v58 = .bool false ∧ ∃ nq, wx = X.drewN nq)
    case first =>
      as_aux_lemma =>
        refine region_quiet_round (F := Fence.wide) rfl (by kernel_rfl) (by kernel_rfl) (by kernel_rfl) ?_
        repeat (gi_big_quiet_step (fail))
        refine wpQuietIn_nil ?_
        intro _ hw'
        obtain ⟨nq, hw''⟩ := hw'
        subst hw''
        gi_wp2_with fail
        gi_meet
        exact ⟨rfl, _, rfl⟩
    case rest =>
    obtain ⟨h58, nq, rfl⟩ := hcut
    subst h58
    clear y0 y1 x0 x1 ci cq
    have gX1 : X.grownBy (X.drewN nq) none := grown_drewN _ nq
    have HX := hide (And.intro ((unhide H).1.grown gX1) (And.intro hsp (And.intro (unhide H).1 gX1)))
    have hr1 : (X.drewN nq).heap[l]? = some (.loop r) := hr
    generalize X.drewN nq = X1 at *
    have cq : X1.cell? ⟨q, 0, none⟩ = some (.slice (some ⟨g, 0, none⟩) L.length c) := (unhide HX).1.fa.bq.cell
    obtain ⟨X2, hX2⟩ : ∃ X2, X2 = X1.alloc (.cells #[.int .i64 (L.length : Int)] 3) := ⟨_, rfl⟩
    have g12 : X1.grownBy X2 none := by rw [hX2]; exact World.grownBy_alloc _ _ none
    have sX2 : X2.heap.size = X1.heap.size + 1 := by rw [hX2]; simp
    have bk : Boxed X2 X1.heap.size 3 (.int .i64 (L.length : Int)) := by rw [hX2]; exact heap_alloc_new X1 _
    have h2 := (unhide HX).1.grown g12
    have ct : X2.cell? ⟨u + 1 + 1, 0, none⟩ = some (dnV (u + 1)) := h2.fa.bt.cell
    have SEQ2 := down_seq (u + 1) b X2.heap.size (some ⟨b, 0, none⟩) L X2 h2.fa.bd.cell (runs_at h2.fa.st (by omega)) (Nat.le_refl _) h2.blt h2.hob
    have blt2 : b < X2.heap.size := h2.blt
    have hr2 : X2.heap[l]? = some (.loop r) := (g12.block l (Array.getElem?_eq_some_iff.1 hr1).1 (by simp)).trans hr1
    have in0 : IN X1 X1.heap.size L [] X2 := ⟨g12, by simpa using bk, List.nil_prefix⟩
    rw [hX2] at ct
    clear h2 bk hr hr1 H
    gi_wp2_with fail
    rw [← hX2]
    clear hX2 cq ct
    have kb1 : X1.heap.size ≤ X1.heap.size := Nat.le_refl _
    have kb2 : X1.heap.size < X2.heap.size := by omega
    have kb3 : b < X1.heap.size := (unhide HX).1.blt
    have kb4 : b < X1.heap.size := kb3
    clear sX2
    obtain ⟨kb, hkb⟩ : ∃ kb, kb = X1.heap.size := ⟨_, rfl⟩
    rw [← hkb] at in0 kb2 kb3 ⊢
    replace kb1 : X1.heap.size ≤ kb := by omega
    clear hkb
    refine range_in (n := m) hr2 (gf := 26) (lb := #[.pointer (some ⟨u + 1, 0, none⟩)]) rfl (enters_of Try.func26 (by kernel_rfl) rfl)
      SEQ2 (fun h k => KS.trans h k) (fun Y j o o' hj hl ho => KS.put Y j o o' hl ho (by omega)) (fun _ => rfl)
      (IN X1 kb L) (fun _ _ _ => False) (in_own _ _ _ _ (by omega)) (fun _ _ _ _ _ h => h.elim) in0
      (AxA (fun y By => { tmps := #[.slice a0 len0 cap0, .slice am lenm capm, .int .i64 lv, undef, .pointer (some ⟨N, 0, none⟩), .pointer (some ⟨N + 1, 0, none⟩), .pointer (some ⟨N + 1 + 1, 0, none⟩), .bool true, .pointer (some ⟨P, 0, none⟩), upV u, .pointer (some ⟨u + 1 + 1, 0, none⟩), .pointer (some ⟨q, 0, none⟩), .pointer (some ⟨q + 1, 0, none⟩), .pointer (some ⟨Bx, 0, none⟩), .pointer (some ⟨kb, 0, none⟩), .pointer (some ⟨By, 0, none⟩), u16, u17, u18, u19, u20, u21, u22, u23, u24, u25, u26, u27, u28, u29, u30, u31, u32, u33, u34, u35, u36, u37, u38, u39, u40, u41, u42, u43, u44, u45, u46, u47, u48, u49, u50, u51, u52, u53, u54, u55, u56, u57, .bool false, .slice (some ⟨g, 0, none⟩) L.length c, .int .i64 (L.length : Int), dnV (u + 1), .agg #[.int .i64 y.1, .int .i64 y.2], u63, u64, u65, u66, u67, u68, u69, u70, u71, u72, u73, u74, u75, u76, u77, u78, u79, u80, u81, u82, u83, u84, u85, u86, u87, u88, u89, u90, u91, u92, u93, u94, u95, u96, u97, u98, u99, u100, u101, u102, u103, u104, u105, u106, u107, u108, u109, u110, u111, u112, u113, u114, u115, u116, u117, u118, u119, u120, u121, u122, u123, u124, u125, u126, u127, u128, u129, u130, u131, u132, u133, u134, u135, u136, u137, u138, u139, u140, u141, u142, u143, u144, u145, u146, u147, u148, u149, u150, u151, u152, u153, u154, u155, u156, u157, u158, u159, u160, u161, u162, u163, u164, u165, u166, u167, u168, u169, u170, u171, u172, u173, u174, u175, u176, u177, u178, u179, u180, u181, u182, u183, u184, u185, u186, u187, u188, u189, u190, u191, u192, u193, u194, u195, u196, u197, u198, u199, u200, u201, u202, u203, u204, u205, u206, u207, u208, u209, u210, u211, u212, u213, u214, u215, u216], defers := [] }))
      (fun x a' => axA_own _ _ x a') ?assign2 ?body2 ?done2 ?stop2
    case assign2 =>
      as_aux_lemma =>
        rintro l2 m2 pre2 y Z K2 h2 hK
        have gA := World.grownBy_alloc Z (.cells #[.int .i64 y.1, .int .i64 y.2] 31) none
        have hK2 := hK _ _ ((KeepsOthers.alloc Z (.cells #[.int .i64 y.1, .int .i64 y.2] 31)).from _) (KS.grown (by have := h2.gr.size; omega) gA) ⟨grown_trans h2.gr gA, (gA.block _ h2.bk.lt (by simp)).trans h2.bk, h2.pf⟩ ⟨_, heap_alloc_new Z _, rfl⟩
        clear h2 SEQ2 in0 HX
        gi_wp2
        exact hK2
    case stop2 =>
      rintro cd pre2 Z hp2 hf
      exact hf.elim
    case body2 =>
      as_aux_lemma =>
        rintro l2 m2 pre2 y a' Z hl2 ⟨r2, hr2'⟩ h2 ⟨By, hy, ha⟩ hsp2
        dsimp only at ha
        subst ha
        have hlen2 : pre2.length < L.length := by have := hsp2.length_le; simp at this; omega
        obtain ⟨j, hj⟩ : ∃ j, L.length = pre2.length + 1 + j := ⟨L.length - pre2.length - 1, by omega⟩
        have hz := at_prefix_rev hsp2 hj
        have bk2 : Boxed Z kb 3 (.int .i64 ((j + 1 : Nat) : Int)) := by
          have := h2.bk
          rw [show L.length - pre2.length = j + 1 by omega] at this
          exact this
        have ck := bk2.cell
        have fk := bk2.frozen
        have kW : IntKind.i64.wrap (((j + 1 : Nat) : Int) - 1) = (j : Int) := by rw [IntKind.wrap_i64]; omega
        obtain ⟨Z2, hZ2⟩ : ∃ Z2, Z2 = Z.setCell ⟨kb, 0, none⟩ (.int .i64 (j : Int)) := ⟨_, rfl⟩
        have gZ2 : X1.grownBy Z2 none := by rw [hZ2]; exact grown_set h2.gr _ _ _ (by omega)
        have bk3 : Boxed Z2 kb 3 (.int .i64 (j : Int)) := by rw [hZ2]; exact Boxed.set _ bk2
        have ck3 := bk3.cell
        have kZ : Kp (fun g => g = kb) Z Z2 := by rw [hZ2]; exact (Kp.refl _ Z).set _ _ _ (fun _ => rfl)
        have h3 := (unhide HX).1.grown gZ2
        obtain ⟨g', eg, y0, y1⟩ := h3.fa.rl.look hz
        cases eg
        have hBy : By ≠ kb := fun e => by
          have e1 : Z.heap[kb]? = some (.cells #[.int .i64 ((j + 1 : Nat) : Int)] 3 (0, 0)) := bk2
          rw [e, e1] at hy; simp at hy
        have hy2 : Z2.heap[By]? = some (.cells #[.int .i64 y.1, .int .i64 y.2] 31 (0, 0)) := (kZ.block By (Array.getElem?_eq_some_iff.1 hy).1 hBy).trans hy
        have x0 := (box2 hy2).1
        have x1 := (box2 hy2).2
        have cq : Z2.cell? ⟨q, 0, none⟩ = some (.slice (some ⟨g, 0, none⟩) L.length c) := h3.fa.bq.cell
        have jI : ¬ (j : Int) < 0 := by omega
        have jl : (j : Int) < (L.length : Int) := by omega
        have E : Hid (∀ n, KeepsFrom X2.heap.size Z (Z2.drewN n) ∧ KS b X2.heap.size Z (Z2.drewN n) ∧ IN X1 kb L (pre2 ++ [y]) (Z2.drewN n)) := fun n => by
          have kz := kZ.drewN n
          refine ⟨(kz.others (fun g e => by subst e; exact ⟨_, _, bk2⟩)).from _, KS.of kz (fun g e => by have e' : g = kb := e; omega) (fun e => by have e' : b = kb := e; omega) (by have := h2.gr.size; omega), grown_trans gZ2 (grown_drewN _ n), ?_, hsp2⟩
          show Boxed (Z2.drewN n) kb 3 _
          rw [show L.length - (pre2 ++ [y]).length = j by simp; omega]
          exact bk3
        have FS := hide (And.intro ck3 (And.intro y0 (And.intro y1 (And.intro x0 (And.intro x1 cq)))))
        clear h2 SEQ2 in0 HX bk2 bk3 hy hy2 h3 gZ2 kZ ck3 y0 y1 x0 x1 cq
        gi_upto_region 21 with fail
        rw [← hZ2]
        clear hZ2 ck fk
        obtain ⟨ck3, y0, y1, x0, x1, cq⟩ := unhide FS
        refine region_quiet_round (F := Fence.wide) rfl (by kernel_rfl) (by kernel_rfl) (by kernel_rfl) ?_
        repeat (gi_big_quiet_step (fail))
        refine wpQuietIn_nil ?_
        intro _ hw'
        obtain ⟨nq, hw''⟩ := hw'
        subst hw''
        gi_wp2_with fail
        exact unhide E nq
    case done2 =>
      rintro ys Z hys h2
      rw [hys] at h2
      have bk2 : Boxed Z kb 3 (.int .i64 0) := by
        have := h2.bk
        rw [show L.length - L.reverse.length = 0 by simp] at this
        exact this
      have ck := bk2.cell
      have hz := (unhide HX).1.grown h2.gr
      have gZ : X.grownBy Z none := grown_trans (unhide HX).2.2.2 h2.gr
      have ci : Z.cell? ⟨q + 1, 0, none⟩ = some (.int .i64 (pre.length : Int)) := hz.fa.bi.cell
      have fi : Z.frozen? ⟨q + 1, 0, none⟩ = false := hz.fa.bi.frozen
      have cl : Z.cell? ⟨N + 1, 0, none⟩ = some (.int .i64 lv') := hz.fa.bl.cell
      have HZ := hide (And.intro hz (And.intro (unhide HX).2.2.1 gZ))
      clear hz h2 bk2 HX SEQ2 in0
      gi_upto_region 25 with fail
      gi_cut [84] from 14 (fun v84 wx => (∃ bb : Bool, v84 = .bool bb) ∧ wx = Z)
      case first =>
        as_aux_lemma =>
          gi_wp2_with fail
          all_goals
            gi_meet
            exact ⟨⟨_, rfl⟩, rfl⟩
      case rest =>
      obtain ⟨⟨bb, h84⟩, hwx⟩ := hcut
      subst h84
      replace hwx := hwx.symm
      subst hwx
      cases bb
      · as_aux_lemma =>
          have kW : IntKind.i64.wrap ((pre.length : Int) + 1) = (pre.length : Int) + 1 := by rw [IntKind.wrap_i64]; omega
          obtain ⟨hs, ks⟩ := (unhide HZ).1.seti ok ((pre.length : Int) + 1)
          have gZ := (unhide HZ).2.2
          have E : Hid (KeepsFrom w7.heap.size X (Z.setCell ⟨q + 1, 0, none⟩ (.int .i64 ((pre.length : Int) + 1))) ∧ KS b w7.heap.size X (Z.setCell ⟨q + 1, 0, none⟩ (.int .i64 ((pre.length : Int) + 1))) ∧ LI w (Pl.mk N P u (u + 1) (u + 1 + 1) q b) (.slice am lenm capm) lv' v L (some ⟨g, 0, none⟩) c L ((pre ++ [x]).length : Int) [] (Z.setCell ⟨q + 1, 0, none⟩ (.int .i64 ((pre.length : Int) + 1))) ∧ pre ++ [x] <+: L) := by
            refine ⟨kf_trans (gZ.kfrom _) ((ks.others (fun g e => by subst e; exact ⟨_, _, (unhide HZ).1.fa.bi⟩)).from _), (KS.grown (unhide HZ).2.1.blt gZ).trans (KS.of ks (fun g e => by have e' : g = q + 1 := e; omega) (fun e => ?_) (unhide HZ).1.blt), ?_, hsp⟩
            · have e' : b = q + 1 := e
              obtain ⟨o1, o2, o3, o4, o5⟩ := ok
              dsimp only at o1 o2 o3 o4 o5
              omega
            · rw [show (((pre ++ [x]).length : Nat) : Int) = (pre.length : Int) + 1 by simp]
              exact hs
          clear hs ks gZ HZ
          gi_wp2_with fail
          exact unhide E
      · as_aux_lemma =>
          have E : Hid (KeepsFrom w7.heap.size X Z ∧ ∃ iv, LI w (Pl.mk N P u (u + 1) (u + 1 + 1) q b) (.slice am lenm capm) lv' v L (some ⟨g, 0, none⟩) c L iv [] Z) := ⟨(unhide HZ).2.2.kfrom _, _, (unhide HZ).1⟩
          clear HZ
          gi_wp2_with fail
          exact ⟨(unhide E).1, rfl, (unhide E).2⟩
  case rest1 =>
    rintro D1 W hD1 ⟨iv, h⟩
    have ci : W.cell? ⟨q + 1, 0, none⟩ = some (.int .i64 iv) := h.fa.bi.cell
    have fi : W.frozen? ⟨q + 1, 0, none⟩ = false := h.fa.bi.frozen
    have HW := hide (h.seti ok 0).1
    have zW := h.gr.size
    have w0D1 : w.heap.size ≤ D1 := by omega
    have bW : b < W.heap.size := h.blt
    have qW : q + 1 < W.heap.size := h.fa.bi.lt
    have dW : D1 < W.heap.size := h.dlt D1 (by simp)
    clear h HL li SEQ1
    gi_upto_region 27 with fail
    gi_cut [] from 19 (fun wx => wx = W.setCell ⟨q + 1, 0, none⟩ (.int .i64 0))
    case first =>
      as_aux_lemma =>
        gi_wp2_with fail
        gi_meet
        exact rfl
    case rest =>
    have hwx := hcut
    subst hwx
    have sW : (W.setCell ⟨q + 1, 0, none⟩ (.int .i64 0)).heap.size = W.heap.size := by simp [World.setCell]
    rw [← sW] at zW bW qW dW
    clear hcut ci fi sW
    generalize W.setCell ⟨q + 1, 0, none⟩ (.int .i64 0) = w8 at *
    clear blt z0 z7a hD1 W w7
    have li8 := unhide HW
    have SEQ3 := up_seq u b w8.heap.size (some ⟨b, 0, none⟩) L w8 li8.fa.bu.cell (runs_at li8.fa.st (by omega)) (Nat.le_refl _) li8.blt li8.hob (by omega)
    gi_wp2_with fail
    refine range_own (n := 12) (gf := 25) (lb := #[.pointer (some ⟨u, 0, none⟩)]) rfl (enters_of Try.func25 (by kernel_rfl) rfl)
      SEQ3 (fun h k => KS.trans h k) (fun X j o o' hj hl ho => KS.put X j o o' hl ho (by omega)) (fun _ => rfl)
      (fun pre X => (∃ v' L', LI w (Pl.mk N P u (u + 1) (u + 1 + 1) q b) (.slice am lenm capm) lv' v' L' a c L (pre.length : Int) [D1] X ∧ L'.length ≤ 2000 + pre.length) ∧ pre <+: L)
      (fun _ _ _ => False)
      (fun pre X Y row h g hr => by obtain ⟨⟨v', L', h, hl⟩, hp⟩ := h; exact ⟨⟨v', L', h.own g hr zW (fun D hD => by simp at hD; omega), hl⟩, hp⟩)
      (fun _ _ _ _ _ h => h.elim)
      ⟨⟨v, L, li8, by simp; omega⟩, List.nil_prefix⟩
      (AxA (fun x Bx => { tmps := #[.slice a0 len0 cap0, .slice am lenm capm, .int .i64 lv, undef, .pointer (some ⟨N, 0, none⟩), .pointer (some ⟨N + 1, 0, none⟩), .pointer (some ⟨N + 1 + 1, 0, none⟩), .bool true, .pointer (some ⟨P, 0, none⟩), upV u, .pointer (some ⟨u + 1 + 1, 0, none⟩), .pointer (some ⟨q, 0, none⟩), .pointer (some ⟨q + 1, 0, none⟩), undef, undef, undef, .pointer (some ⟨Bx, 0, none⟩), undef, undef, u19, u20, u21, u22, u23, u24, u25, u26, u27, u28, u29, u30, u31, u32, u33, u34, u35, u36, u37, u38, u39, u40, u41, u42, u43, u44, u45, u46, u47, u48, u49, u50, u51, u52, u53, u54, u55, u56, u57, u58, u59, u60, u61, u62, u63, u64, u65, u66, u67, u68, u69, u70, u71, u72, u73, u74, u75, u76, u77, u78, u79, u80, u81, u82, u83, u84, u85, u86, upV u, .agg #[.int .i64 x.1, .int .i64 x.2], u89, u90, u91, u92, u93, u94, u95, u96, u97, u98, u99, u100, u101, u102, u103, u104, u105, u106, u107, u108, u109, u110, u111, u112, u113, u114, u115, u116, u117, u118, u119, u120, u121, u122, u123, u124, u125, u126, u127, u128, u129, u130, u131, u132, u133, u134, u135, u136, u137, u138, u139, u140, u141, u142, u143, u144, u145, u146, u147, u148, u149, u150, u151, u152, u153, u154, u155, u156, u157, u158, u159, u160, u161, u162, u163, u164, u165, u166, u167, u168, u169, u170, u171, u172, u173, u174, u175, u176, u177, u178, u179, u180, u181, u182, u183, u184, u185, u186, u187, u188, u189, u190, u191, u192, u193, u194, u195, u196, u197, u198, u199, u200, u201, u202, u203, u204, u205, u206, u207, u208, u209, u210, u211, u212, u213, u214, u215, u216], defers := [] }))
      (fun x a' => axA_own _ _ x a') ?assign3 ?body3 ?done3 ?stop3
    case assign3 =>
      as_aux_lemma =>
        rintro l m pre x X K3 ⟨⟨v', L', h, hl⟩, hpf⟩ hK
        have gA := World.grownBy_alloc X (.cells #[.int .i64 x.1, .int .i64 x.2] 31) none
        have hK2 := hK _ _ ((KeepsOthers.alloc X (.cells #[.int .i64 x.1, .int .i64 x.2] 31)).from _) (KS.grown h.blt gA) ⟨⟨v', L', h.grown gA, hl⟩, hpf⟩ ⟨_, heap_alloc_new X _, rfl⟩
        clear h SEQ3 HW li8
        gi_wp2
        exact hK2
    case stop3 =>
      rintro D2 cd pre X hD2 hp hf
      exact hf.elim
    case body3 =>
      rintro l m pre x a' X hl ⟨r, hr⟩ ⟨⟨v', L', h, hll⟩, hpf⟩ ⟨Bx, hx, ha⟩ hsp
      dsimp only at ha
      subst ha
      have hk := at_prefix hsp
      have hkl : pre.length < L.length := (List.getElem?_eq_some_iff.1 hk).1
      have kI : ¬ (L.length : Int) ≤ (pre.length : Int) := by omega
      obtain ⟨g, rfl, y0, y1⟩ := h.fa.rl.look hk
      have x0 := (box2 hx).1
      have x1 := (box2 hx).2
      have ci : X.cell? ⟨q + 1, 0, none⟩ = some (.int .i64 (pre.length : Int)) := h.fa.bi.cell
      have cq : X.cell? ⟨q, 0, none⟩ = some (.slice (some ⟨g, 0, none⟩) L.length c) := h.fa.bq.cell
      have cap := h.fa.rl.cap
      have H := hide h
      clear h SEQ3 HW li8 hpf hx
      gi_upto_region 30 with fail
      gi_cut [100] from 17 (fun v100 wx => v100 = .bool false ∧ ∃ nq, wx = X.drewN nq)
      case first =>
        as_aux_lemma =>
          refine region_quiet_round (F := Fence.wide) rfl (by kernel_rfl) (by kernel_rfl) (by kernel_rfl) ?_
          repeat (gi_big_quiet_step (fail))
          refine wpQuietIn_nil ?_
          intro _ hw'
          obtain ⟨nq, hw''⟩ := hw'
          subst hw''
          gi_wp2_with fail
          gi_meet
          exact ⟨rfl, _, rfl⟩
      case rest =>
      obtain ⟨h100, nq, rfl⟩ := hcut
      subst h100
      clear y0 y1 x0 x1 ci cq kI
      have gX1 : X.grownBy (X.drewN nq) none := grown_drewN _ nq
      have HX := hide (And.intro ((unhide H).grown gX1) (And.intro (unhide H) gX1))
      generalize X.drewN nq = X1 at *
      have ci : X1.cell? ⟨q + 1, 0, none⟩ = some (.int .i64 (pre.length : Int)) := (unhide HX).1.fa.bi.cell
      have cm : X1.cell? ⟨N, 0, none⟩ = some (.slice am lenm capm) := (unhide HX).1.fa.bm.cell
      have cs : X1.cell? ⟨P, 0, none⟩ = some (.pointer (some ⟨b, 0, none⟩)) := (unhide HX).1.fa.bs.cell
      clear H
      gi_upto_if 104 with fail
      gi_cut [] from 17 (fun wx => Hid (∃ v2 L2, LI w (Pl.mk N P u (u + 1) (u + 1 + 1) q b) (.slice am lenm capm) lv' v2 L2 (some ⟨g, 0, none⟩) c L (pre.length : Int) [D1] wx ∧ L2.length ≤ 2000 + pre.length + 1 ∧ KeepsOthers X1 wx ∧ KS b w8.heap.size X1 wx))
      case first =>
        by_cases hlt : pre.length < lenm
        · have hltI : (pre.length : Int) < (lenm : Int) := by omega
          obtain ⟨bo, off, rfl, hcs⟩ := (unhide HM).2.2.resolve_left (by omega)
          obtain ⟨c0, c2, c3, r1, r2, r3, r4⟩ := hcs pre.length hlt
          have d0 := cell_grown_none (unhide HX).1.gr c0
          have d2 := cell_grown_none (unhide HX).1.gr c2
          have d3 := cell_grown_none (unhide HX).1.gr c3
          have okL : Ok L' := ⟨(unhide HX).1.fa.good, by omega⟩
          have GL := chg_good (unhide HX).1.fa.good (LO pre.length) (HI pre.length) r1 r4
          generalize LO pre.length = lo at *
          generalize HI pre.length = hi at *
          have hcm := (unhide HM).1
          have hcm2 := (unhide HM).2.1
          unfold maxLen at hcm2
          by_cases hq : K pre.length = 2
          · rw [hq] at d0
            have CHG := hide (fun Y (gY : X1.grownBy Y none) => cut_at ((unhide HX).1.grown gY).fa.st okL lo hi r1 r4)
            clear hcs c0 hq
            gi_wp2_with fail
            refine region_held_only (fun W => W.cell? ⟨P, 0, none⟩ = some (.pointer (some ⟨b, 0, none⟩)) ∧ W.cell? ⟨N, 0, none⟩ = some (.slice (some ⟨bo, off, none⟩) lenm capm) ∧ W.cell? ⟨q + 1, 0, none⟩ = some (.int .i64 (pre.length : Int)) ∧ W.cell? ⟨bo, off + pre.length * 4 + 2, none⟩ = some (.int .i64 lo) ∧ W.cell? ⟨bo, off + pre.length * 4 + 3, none⟩ = some (.int .i64 hi)) (by as_aux_lemma => kernel_rfl) (by as_aux_lemma => kernel_rfl) ⟨cs, cm, ci, d2, d3⟩ (fun hHeld => ?_)
            refine wpAnyH_take (i := 0) (v := ?_) rfl (by as_aux_lemma => kernel_rfl) (by as_aux_lemma => kernel_rfl) (by as_aux_lemma => kernel_rfl) (fun _ _ _ h => by cases h.1) (Or.inl ⟨by rfl, ?_⟩) (by assumption) ?_
            rotate_left
            · intro wH hSw
              try dsimp only at hSw
              go_simp
              try with_reducible rfl
            simp only [Act.put, List.setIfInBounds_toArray, List.set_cons_zero, List.set_cons_succ]
            refine wpAnyH_take (i := 1) (v := ?_) rfl (by as_aux_lemma => kernel_rfl) (by as_aux_lemma => kernel_rfl) (by as_aux_lemma => kernel_rfl) (fun _ _ _ h => by cases h.1) (Or.inl ⟨by rfl, ?_⟩) (by assumption) ?_
            rotate_left
            · intro wH hSw
              try dsimp only at hSw
              go_simp
              try with_reducible rfl
            simp only [Act.put, List.setIfInBounds_toArray, List.set_cons_zero, List.set_cons_succ]
            refine wpAnyH_take (i := 2) (v := ?_) rfl (by as_aux_lemma => kernel_rfl) (by as_aux_lemma => kernel_rfl) (by as_aux_lemma => kernel_rfl) (fun _ _ _ h => by cases h.1) (Or.inl ⟨by rfl, ?_⟩) (by assumption) ?_
            rotate_left
            · intro wH hSw
              try dsimp only at hSw
              go_simp
              try with_reducible rfl
            simp only [Act.put, List.setIfInBounds_toArray, List.set_cons_zero, List.set_cons_succ]
            refine wpAnyH_take (i := 3) (v := ?_) rfl (by as_aux_lemma => kernel_rfl) (by as_aux_lemma => kernel_rfl) (by as_aux_lemma => kernel_rfl) (fun _ _ _ h => by cases h.1) (Or.inl ⟨by rfl, ?_⟩) (by assumption) ?_
            rotate_left
            · intro wH hSw
              try dsimp only at hSw
              go_simp
              try with_reducible rfl
            simp only [Act.put, List.setIfInBounds_toArray, List.set_cons_zero, List.set_cons_succ]
            refine wpAnyH_take (i := 4) (v := ?_) rfl (by as_aux_lemma => kernel_rfl) (by as_aux_lemma => kernel_rfl) (by as_aux_lemma => kernel_rfl) (fun _ _ _ h => by cases h.1) (Or.inl ⟨by rfl, ?_⟩) (by assumption) ?_
            rotate_left
            · intro wH hSw
              try dsimp only at hSw
              go_simp
              try with_reducible rfl
            simp only [Act.put, List.setIfInBounds_toArray, List.set_cons_zero, List.set_cons_succ]
            refine wpAnyH_take (i := 5) (v := ?_) rfl (by as_aux_lemma => kernel_rfl) (by as_aux_lemma => kernel_rfl) (by as_aux_lemma => kernel_rfl) (fun _ _ _ h => by cases h.1) (Or.inl ⟨by rfl, ?_⟩) (by assumption) ?_
            rotate_left
            · intro wH hSw
              try dsimp only at hSw
              go_simp
              try with_reducible rfl
            simp only [Act.put, List.setIfInBounds_toArray, List.set_cons_zero, List.set_cons_succ]
            refine wpAnyH_take (i := 6) (v := ?_) rfl (by as_aux_lemma => kernel_rfl) (by as_aux_lemma => kernel_rfl) (by as_aux_lemma => kernel_rfl) (fun _ _ _ h => by cases h.1) (Or.inl ⟨by rfl, ?_⟩) (by assumption) ?_
            rotate_left
            · intro wH hSw
              try dsimp only at hSw
              go_simp
              try with_reducible rfl
            simp only [Act.put, List.setIfInBounds_toArray, List.set_cons_zero, List.set_cons_succ]
            refine wpAnyH_take (i := 7) (v := ?_) rfl (by as_aux_lemma => kernel_rfl) (by as_aux_lemma => kernel_rfl) (by as_aux_lemma => kernel_rfl) (fun _ _ _ h => by cases h.1) (Or.inl ⟨by rfl, ?_⟩) (by assumption) ?_
            rotate_left
            · intro wH hSw
              try dsimp only at hSw
              go_simp
              try with_reducible rfl
            simp only [Act.put, List.setIfInBounds_toArray, List.set_cons_zero, List.set_cons_succ]
            refine wpAnyH_take (i := 8) (v := ?_) rfl (by as_aux_lemma => kernel_rfl) (by as_aux_lemma => kernel_rfl) (by as_aux_lemma => kernel_rfl) (fun _ _ _ h => by cases h.1) (Or.inl ⟨by rfl, ?_⟩) (by assumption) ?_
            rotate_left
            · intro wH hSw
              try dsimp only at hSw
              go_simp
              try with_reducible rfl
            simp only [Act.put, List.setIfInBounds_toArray, List.set_cons_zero, List.set_cons_succ]
            refine wpAnyH_take (i := 9) (v := ?_) rfl (by as_aux_lemma => kernel_rfl) (by as_aux_lemma => kernel_rfl) (by as_aux_lemma => kernel_rfl) (fun _ _ _ h => by cases h.1) (Or.inl ⟨by rfl, ?_⟩) (by assumption) ?_
            rotate_left
            · intro wH hSw
              try dsimp only at hSw
              go_simp
              try with_reducible rfl
            simp only [Act.put, List.setIfInBounds_toArray, List.set_cons_zero, List.set_cons_succ]
            refine wpAnyH_take (i := 10) (v := ?_) rfl (by as_aux_lemma => kernel_rfl) (by as_aux_lemma => kernel_rfl) (by as_aux_lemma => kernel_rfl) (fun _ _ _ h => by cases h.1) (Or.inl ⟨by rfl, ?_⟩) (by assumption) ?_
            rotate_left
            · intro wH hSw
              try dsimp only at hSw
              go_simp
              try with_reducible rfl
            simp only [Act.put, List.setIfInBounds_toArray, List.set_cons_zero, List.set_cons_succ]
            refine wpAnyH_ready (rs := [11]) (by as_aux_lemma => kernel_rfl) (by simp) ?_
            refine AllReadyH.cons rfl (fun KH hKH => ?_) AllReadyH.nil
            go_simp
            refine (unhide CHG _ (drew_grown _)).mono ?_
            rintro e w9 ⟨⟨n9, rfl⟩, v9, s9, ho9, k9⟩
            have h9 := ((unhide HX).1.grown (drew_grown _)).chg k9 s9 ho9 GL.2.1
            have k9' := kp_drew k9
            have E9 : Hid (∃ v2 L2, LI w (Pl.mk N P u (u + 1) (u + 1 + 1) q b) (.slice (some ⟨bo, off, none⟩) lenm capm) lv' v2 L2 (some ⟨g, 0, none⟩) c L (pre.length : Int) [D1] w9 ∧ L2.length ≤ 2000 + pre.length + 1 ∧ KeepsOthers X1 w9 ∧ KS b w8.heap.size X1 w9) := ⟨v9, (cutS 0 lo hi L'), h9, by have := GL.2.2; omega, k9'.others (fun g e => e.elim (fun e => by rw [e]; exact ⟨_, _, (unhide HX).1.fa.st.blk⟩) (fun e => (unhide HX).1.fa.st.rowlt e)), chg_ks (unhide HX).1.fa.st s9 ho9 k9' bW⟩
            refine hKH.out _ _ ⟨h9.fa.bs.cell, h9.fa.bm.cell, h9.fa.bi.cell, cell_grown_none h9.gr c2, cell_grown_none h9.gr c3⟩ (fun hHeld2 => ?_)
            clear hKH KH
            refine wpAnyH_done (by as_aux_lemma => kernel_rfl) ⟨rfl, ?_⟩ _
            clear h9 s9 k9 k9' ho9 hHeld hHeld2 cs cm ci d0 d2 d3 c2 c3 CHG HX
            gi_wp2_with fail
            gi_meet
            exact E9
          · have CHG := hide (fun Y (gY : X1.grownBy Y none) => add_at ((unhide HX).1.grown gY).fa.st okL lo hi r1 r4)
            generalize K pre.length = kd at *
            clear hcs c0
            gi_wp2_with fail
            refine region_held_only (fun W => W.cell? ⟨P, 0, none⟩ = some (.pointer (some ⟨b, 0, none⟩)) ∧ W.cell? ⟨N, 0, none⟩ = some (.slice (some ⟨bo, off, none⟩) lenm capm) ∧ W.cell? ⟨q + 1, 0, none⟩ = some (.int .i64 (pre.length : Int)) ∧ W.cell? ⟨bo, off + pre.length * 4 + 2, none⟩ = some (.int .i64 lo) ∧ W.cell? ⟨bo, off + pre.length * 4 + 3, none⟩ = some (.int .i64 hi)) (by as_aux_lemma => kernel_rfl) (by as_aux_lemma => kernel_rfl) ⟨cs, cm, ci, d2, d3⟩ (fun hHeld => ?_)
            refine wpAnyH_take (i := 0) (v := ?_) rfl (by as_aux_lemma => kernel_rfl) (by as_aux_lemma => kernel_rfl) (by as_aux_lemma => kernel_rfl) (fun _ _ _ h => by cases h.1) (Or.inl ⟨by rfl, ?_⟩) (by assumption) ?_
            rotate_left
            · intro wH hSw
              try dsimp only at hSw
              go_simp
              try with_reducible rfl
            simp only [Act.put, List.setIfInBounds_toArray, List.set_cons_zero, List.set_cons_succ]
            refine wpAnyH_take (i := 1) (v := ?_) rfl (by as_aux_lemma => kernel_rfl) (by as_aux_lemma => kernel_rfl) (by as_aux_lemma => kernel_rfl) (fun _ _ _ h => by cases h.1) (Or.inl ⟨by rfl, ?_⟩) (by assumption) ?_
            rotate_left
            · intro wH hSw
              try dsimp only at hSw
              go_simp
              try with_reducible rfl
            simp only [Act.put, List.setIfInBounds_toArray, List.set_cons_zero, List.set_cons_succ]
            refine wpAnyH_take (i := 2) (v := ?_) rfl (by as_aux_lemma => kernel_rfl) (by as_aux_lemma => kernel_rfl) (by as_aux_lemma => kernel_rfl) (fun _ _ _ h => by cases h.1) (Or.inl ⟨by rfl, ?_⟩) (by assumption) ?_
            rotate_left
            · intro wH hSw
              try dsimp only at hSw
              go_simp
              try with_reducible rfl
            simp only [Act.put, List.setIfInBounds_toArray, List.set_cons_zero, List.set_cons_succ]
            refine wpAnyH_take (i := 3) (v := ?_) rfl (by as_aux_lemma => kernel_rfl) (by as_aux_lemma => kernel_rfl) (by as_aux_lemma => kernel_rfl) (fun _ _ _ h => by cases h.1) (Or.inl ⟨by rfl, ?_⟩) (by assumption) ?_
            rotate_left
            · intro wH hSw
              try dsimp only at hSw
              go_simp
              try with_reducible rfl
            simp only [Act.put, List.setIfInBounds_toArray, List.set_cons_zero, List.set_cons_succ]
            refine wpAnyH_take (i := 4) (v := ?_) rfl (by as_aux_lemma => kernel_rfl) (by as_aux_lemma => kernel_rfl) (by as_aux_lemma => kernel_rfl) (fun _ _ _ h => by cases h.1) (Or.inl ⟨by rfl, ?_⟩) (by assumption) ?_
            rotate_left
            · intro wH hSw
              try dsimp only at hSw
              go_simp
              try with_reducible rfl
            simp only [Act.put, List.setIfInBounds_toArray, List.set_cons_zero, List.set_cons_succ]
            refine wpAnyH_take (i := 5) (v := ?_) rfl (by as_aux_lemma => kernel_rfl) (by as_aux_lemma => kernel_rfl) (by as_aux_lemma => kernel_rfl) (fun _ _ _ h => by cases h.1) (Or.inl ⟨by rfl, ?_⟩) (by assumption) ?_
            rotate_left
            · intro wH hSw
              try dsimp only at hSw
              go_simp
              try with_reducible rfl
            simp only [Act.put, List.setIfInBounds_toArray, List.set_cons_zero, List.set_cons_succ]
            refine wpAnyH_take (i := 6) (v := ?_) rfl (by as_aux_lemma => kernel_rfl) (by as_aux_lemma => kernel_rfl) (by as_aux_lemma => kernel_rfl) (fun _ _ _ h => by cases h.1) (Or.inl ⟨by rfl, ?_⟩) (by assumption) ?_
            rotate_left
            · intro wH hSw
              try dsimp only at hSw
              go_simp
              try with_reducible rfl
            simp only [Act.put, List.setIfInBounds_toArray, List.set_cons_zero, List.set_cons_succ]
            refine wpAnyH_take (i := 7) (v := ?_) rfl (by as_aux_lemma => kernel_rfl) (by as_aux_lemma => kernel_rfl) (by as_aux_lemma => kernel_rfl) (fun _ _ _ h => by cases h.1) (Or.inl ⟨by rfl, ?_⟩) (by assumption) ?_
            rotate_left
            · intro wH hSw
              try dsimp only at hSw
              go_simp
              try with_reducible rfl
            simp only [Act.put, List.setIfInBounds_toArray, List.set_cons_zero, List.set_cons_succ]
            refine wpAnyH_take (i := 8) (v := ?_) rfl (by as_aux_lemma => kernel_rfl) (by as_aux_lemma => kernel_rfl) (by as_aux_lemma => kernel_rfl) (fun _ _ _ h => by cases h.1) (Or.inl ⟨by rfl, ?_⟩) (by assumption) ?_
            rotate_left
            · intro wH hSw
              try dsimp only at hSw
              go_simp
              try with_reducible rfl
            simp only [Act.put, List.setIfInBounds_toArray, List.set_cons_zero, List.set_cons_succ]
            refine wpAnyH_take (i := 9) (v := ?_) rfl (by as_aux_lemma => kernel_rfl) (by as_aux_lemma => kernel_rfl) (by as_aux_lemma => kernel_rfl) (fun _ _ _ h => by cases h.1) (Or.inl ⟨by rfl, ?_⟩) (by assumption) ?_
            rotate_left
            · intro wH hSw
              try dsimp only at hSw
              go_simp
              try with_reducible rfl
            simp only [Act.put, List.setIfInBounds_toArray, List.set_cons_zero, List.set_cons_succ]
            refine wpAnyH_take (i := 10) (v := ?_) rfl (by as_aux_lemma => kernel_rfl) (by as_aux_lemma => kernel_rfl) (by as_aux_lemma => kernel_rfl) (fun _ _ _ h => by cases h.1) (Or.inl ⟨by rfl, ?_⟩) (by assumption) ?_
            rotate_left
            · intro wH hSw
              try dsimp only at hSw
              go_simp
              try with_reducible rfl
            simp only [Act.put, List.setIfInBounds_toArray, List.set_cons_zero, List.set_cons_succ]
            refine wpAnyH_ready (rs := [11]) (by as_aux_lemma => kernel_rfl) (by simp) ?_
            refine AllReadyH.cons rfl (fun KH hKH => ?_) AllReadyH.nil
            go_simp
            refine (unhide CHG _ (drew_grown _)).mono ?_
            rintro e w9 ⟨⟨n9, rfl⟩, v9, s9, ho9, k9⟩
            have h9 := ((unhide HX).1.grown (drew_grown _)).chg k9 s9 ho9 GL.1.1
            have k9' := kp_drew k9
            have E9 : Hid (∃ v2 L2, LI w (Pl.mk N P u (u + 1) (u + 1 + 1) q b) (.slice (some ⟨bo, off, none⟩) lenm capm) lv' v2 L2 (some ⟨g, 0, none⟩) c L (pre.length : Int) [D1] w9 ∧ L2.length ≤ 2000 + pre.length + 1 ∧ KeepsOthers X1 w9 ∧ KS b w8.heap.size X1 w9) := ⟨v9, (addS 0 lo hi L'), h9, by have := GL.1.2; omega, k9'.others (fun g e => e.elim (fun e => by rw [e]; exact ⟨_, _, (unhide HX).1.fa.st.blk⟩) (fun e => (unhide HX).1.fa.st.rowlt e)), chg_ks (unhide HX).1.fa.st s9 ho9 k9' bW⟩
            refine hKH.out _ _ ⟨h9.fa.bs.cell, h9.fa.bm.cell, h9.fa.bi.cell, cell_grown_none h9.gr c2, cell_grown_none h9.gr c3⟩ (fun hHeld2 => ?_)
            clear hKH KH
            refine wpAnyH_done (by as_aux_lemma => kernel_rfl) ⟨rfl, ?_⟩ _
            clear h9 s9 k9 k9' ho9 hHeld hHeld2 cs cm ci d0 d2 d3 c2 c3 CHG HX
            gi_wp2_with fail
            gi_meet
            exact E9
        · as_aux_lemma =>
            have hltI : ¬ (pre.length : Int) < (lenm : Int) := by omega
            have hcm := (unhide HM).1
            have hcm2 := (unhide HM).2.1
            unfold maxLen at hcm2
            have E9 : Hid (∃ v2 L2, LI w (Pl.mk N P u (u + 1) (u + 1 + 1) q b) (.slice am lenm capm) lv' v2 L2 (some ⟨g, 0, none⟩) c L (pre.length : Int) [D1] X1 ∧ L2.length ≤ 2000 + pre.length + 1 ∧ KeepsOthers X1 X1 ∧ KS b w8.heap.size X1 X1) := ⟨v', L', (unhide HX).1, by omega, ⟨Nat.le_refl _, fun _ _ h _ => h⟩, KS.refl _ _ _⟩
            clear HX
            gi_wp2_with fail
            gi_meet
            exact E9
      case rest =>
      obtain ⟨v2, L2, h9, hl9, ko9, ks9⟩ := unhide hcut
      clear hcut cm cs ci
      have ci : wc.cell? ⟨q + 1, 0, none⟩ = some (.int .i64 (pre.length : Int)) := h9.fa.bi.cell
      have fi : wc.frozen? ⟨q + 1, 0, none⟩ = false := h9.fa.bi.frozen
      have kW : IntKind.i64.wrap ((pre.length : Int) + 1) = (pre.length : Int) + 1 := by rw [IntKind.wrap_i64]; omega
      obtain ⟨hs, ks⟩ := h9.seti ok ((pre.length : Int) + 1)
      have E : Hid (KeepsFrom w8.heap.size X (wc.setCell ⟨q + 1, 0, none⟩ (.int .i64 ((pre.length : Int) + 1))) ∧ KS b w8.heap.size X (wc.setCell ⟨q + 1, 0, none⟩ (.int .i64 ((pre.length : Int) + 1))) ∧ (∃ v' L', LI w (Pl.mk N P u (u + 1) (u + 1 + 1) q b) (.slice am lenm capm) lv' v' L' (some ⟨g, 0, none⟩) c L ((pre ++ [x]).length : Int) [D1] (wc.setCell ⟨q + 1, 0, none⟩ (.int .i64 ((pre.length : Int) + 1))) ∧ L'.length ≤ 2000 + (pre ++ [x]).length) ∧ pre ++ [x] <+: L) := by
        refine ⟨kf_trans ((unhide HX).2.2.kfrom _) (kf_trans (ko9.from _) ((ks.others (fun g e => by subst e; exact ⟨_, _, h9.fa.bi⟩)).from _)), ((KS.grown (unhide HX).2.1.blt (unhide HX).2.2).trans ks9).trans (KS.of ks (fun g e => by have e' : g = q + 1 := e; omega) (fun e => ?_) h9.blt), ⟨v2, L2, ?_, by simp; omega⟩, hsp⟩
        · have e' : b = q + 1 := e
          obtain ⟨o1, o2, o3, o4, o5⟩ := ok
          dsimp only at o1 o2 o3 o4 o5
          omega
        · rw [show (((pre ++ [x]).length : Nat) : Int) = (pre.length : Int) + 1 by simp]
          exact hs
      clear hs ks h9 ko9 ks9 HX
      gi_wp2_with fail
      exact ⟨(unhide E).1, (unhide E).2.1, (unhide E).2.2.1, (unhide E).2.2.2⟩
    case done3 =>
      rintro D2 ys X hD2 hys ⟨⟨v1, L1, h, hll⟩, hpf⟩ hd2
      have d12 : D1 < D2 := by omega
      rw [hys] at h hll
      replace h := h.mark hd2
      clear hys hpf SEQ3 HW li8 hd2
      have ci : X.cell? ⟨q + 1, 0, none⟩ = some (.int .i64 (L.length : Int)) := h.fa.bi.cell
      have cq : X.cell? ⟨q, 0, none⟩ = some (.slice a L.length c) := h.fa.bq.cell
      have cs : X.cell? ⟨P, 0, none⟩ = some (.pointer (some ⟨b, 0, none⟩)) := h.fa.bs.cell
      have cap := h.fa.rl.cap
      have l1 : L1.length ≤ 4000 := by omega
      have ru := runs_at h.fa.st (by omega) X (World.grownBy.refl _ _)
      have HH := hide h
      clear h
      gi_wp2_with fail
      refine ⟨trivial, ?_⟩
      refine (callsIn_wide.2 ru).mono ?_
      rintro e X5 ⟨vr, rfl, row, fr, g5⟩
      have h := unhide HH
      obtain ⟨a2, c2, rfl, rd2, ax2⟩ := rd_new (p := ⟨0, 0, 0, 0, 0, 0, 0⟩) h.blt h.hob row fr g5
      have h5 := h.grown g5
      have h6 := h5.setq ok rd2 (fun x e hL => ⟨fun hb => by have := h.bxlt hb; have := ax2 x e hL; omega, fun eb => by have := h.blt; have := ax2 x e hL; omega⟩)
      have h7 := (h6.seti ok (L1.length : Int)).1
      have fq : X5.frozen? ⟨q, 0, none⟩ = false := h5.fa.bq.frozen
      have cq5 : X5.cell? ⟨q, 0, none⟩ = some (.slice a L.length c) := h5.fa.bq.cell
      have cq6 : (X5.setCell ⟨q, 0, none⟩ (.slice a2 L1.length c2)).cell? ⟨q, 0, none⟩ = some (.slice a2 L1.length c2) := h6.fa.bq.cell
      have ci6 : (X5.setCell ⟨q, 0, none⟩ (.slice a2 L1.length c2)).cell? ⟨q + 1, 0, none⟩ = some (.int .i64 (L.length : Int)) := h6.fa.bi.cell
      have fi6 : (X5.setCell ⟨q, 0, none⟩ (.slice a2 L1.length c2)).frozen? ⟨q + 1, 0, none⟩ = false := h6.fa.bi.frozen
      have cap2 := rd2.cap
      have HW := hide h7
      clear h h5 h6 h7 row fr g5 rd2 ax2 ru HH ci cs cq
      gi_upto_region 40 with fail
      gi_cut [] from 19 (fun wx => wx = (X5.setCell ⟨q, 0, none⟩ (.slice a2 L1.length c2)).setCell ⟨q + 1, 0, none⟩ (.int .i64 (L1.length : Int)))
      case first =>
        as_aux_lemma =>
          gi_wp2_with fail
          gi_meet
          exact rfl
      case rest =>
      subst hcut
      generalize (X5.setCell ⟨q, 0, none⟩ (.slice a2 L1.length c2)).setCell ⟨q + 1, 0, none⟩ (.int .i64 (L1.length : Int)) = w10 at *
      clear fq cq5 cq6 ci6 fi6 X5 zW bW qW dW
      have li8 := unhide HW
      have zW : w.heap.size ≤ w10.heap.size := li8.gr.size
      have bW : b < w10.heap.size := li8.blt
      have qW : q + 1 < w10.heap.size := li8.fa.bi.lt
      have dW : D2 < w10.heap.size ∧ D1 < w10.heap.size := ⟨li8.dlt D2 (by simp), li8.dlt D1 (by simp)⟩
      have ct : w10.cell? ⟨u + 1 + 1, 0, none⟩ = some (dnV (u + 1)) := li8.fa.bt.cell
      have SEQ4 := down_seq (u + 1) b w10.heap.size (some ⟨b, 0, none⟩) L1 w10 li8.fa.bd.cell (runs_at li8.fa.st (by omega)) (Nat.le_refl _) li8.blt li8.hob
      clear hll cap
      gi_wp2_with fail
      refine range_own (n := 12) (gf := 26) (lb := #[.pointer (some ⟨u + 1, 0, none⟩)]) rfl (enters_of Try.func26 (by kernel_rfl) rfl)
        SEQ4 (fun h k => KS.trans h k) (fun X j o o' hj hl ho => KS.put X j o o' hl ho (by omega)) (fun _ => rfl)
        (fun pre X => (∃ v' L', LI w (Pl.mk N P u (u + 1) (u + 1 + 1) q b) (.slice am lenm capm) lv' v' L' a2 c2 L1 ((L1.length - pre.length : Nat) : Int) [D2, D1] X ∧ L'.length ≤ 4000 + pre.length) ∧ pre <+: L1.reverse)
        (fun _ _ _ => False)
        (fun pre X Y row h g hr => by obtain ⟨⟨v', L', h, hl⟩, hp⟩ := h; exact ⟨⟨v', L', h.own g hr zW (fun D hD => by simp at hD; omega), hl⟩, hp⟩)
        (fun _ _ _ _ _ h => h.elim)
        ⟨⟨v1, L1, li8, by simp; omega⟩, List.nil_prefix⟩
        (AxA (fun x Bx => { tmps := #[.slice a0 len0 cap0, .slice am lenm capm, .int .i64 lv, undef, .pointer (some ⟨N, 0, none⟩), .pointer (some ⟨N + 1, 0, none⟩), .pointer (some ⟨N + 1 + 1, 0, none⟩), .bool true, .pointer (some ⟨P, 0, none⟩), upV u, .pointer (some ⟨u + 1 + 1, 0, none⟩), .pointer (some ⟨q, 0, none⟩), .pointer (some ⟨q + 1, 0, none⟩), undef, undef, undef, undef, .pointer (some ⟨Bx, 0, none⟩), undef, u19, u20, u21, u22, u23, u24, u25, u26, u27, u28, u29, u30, u31, u32, u33, u34, u35, u36, u37, u38, u39, u40, u41, u42, u43, u44, u45, u46, u47, u48, u49, u50, u51, u52, u53, u54, u55, u56, u57, u58, u59, u60, u61, u62, u63, u64, u65, u66, u67, u68, u69, u70, u71, u72, u73, u74, u75, u76, u77, u78, u79, u80, u81, u82, u83, u84, u85, u86, u87, u88, u89, u90, u91, u92, u93, u94, u95, u96, u97, u98, u99, u100, u101, u102, u103, u104, u105, u106, u107, u108, u109, u110, u111, u112, u113, u114, u115, u116, u117, u118, u119, u120, u121, u122, u123, u124, u125, u126, u127, u128, u129, u130, u131, u132, u133, u134, u135, u136, u137, u138, u139, u140, u141, u142, u143, u144, dnV (u + 1), .agg #[.int .i64 x.1, .int .i64 x.2], u147, u148, u149, u150, u151, u152, u153, u154, u155, u156, u157, u158, u159, u160, u161, u162, u163, u164, u165, u166, u167, u168, u169, u170, u171, u172, u173, u174, u175, u176, u177, u178, u179, u180, u181, u182, u183, u184, u185, u186, u187, u188, u189, u190, u191, u192, u193, u194, u195, u196, u197, u198, u199, u200, u201, u202, u203, u204, u205, u206, u207, u208, u209, u210, u211, u212, u213, u214, u215, u216], defers := [] }))
        (fun x a' => axA_own _ _ x a') ?assign4 ?body4 ?done4 ?stop4
      case assign4 =>
        as_aux_lemma =>
          rintro l m pre x X K3 ⟨⟨v', L', h, hl⟩, hpf⟩ hK
          have gA := World.grownBy_alloc X (.cells #[.int .i64 x.1, .int .i64 x.2] 31) none
          have hK2 := hK _ _ ((KeepsOthers.alloc X (.cells #[.int .i64 x.1, .int .i64 x.2] 31)).from _) (KS.grown h.blt gA) ⟨⟨v', L', h.grown gA, hl⟩, hpf⟩ ⟨_, heap_alloc_new X _, rfl⟩
          clear h SEQ4 HW li8
          gi_wp2
          exact hK2
      case stop4 =>
        rintro D3 cd pre X hD3 hp hf
        exact hf.elim
      case body4 =>
        rintro l m pre x a' X hl ⟨r, hr⟩ ⟨⟨v', L', h, hll⟩, hpf⟩ ⟨Bx, hx, ha⟩ hsp
        dsimp only at ha
        subst ha
        have hlen2 : pre.length < L1.length := by have := hsp.length_le; simp at this; omega
        obtain ⟨j, hj⟩ : ∃ j, L1.length = pre.length + 1 + j := ⟨L1.length - pre.length - 1, by omega⟩
        have hk := at_prefix_rev hsp hj
        rw [show L1.length - pre.length = j + 1 by omega] at h
        have ci : X.cell? ⟨q + 1, 0, none⟩ = some (.int .i64 ((j + 1 : Nat) : Int)) := h.fa.bi.cell
        have fi : X.frozen? ⟨q + 1, 0, none⟩ = false := h.fa.bi.frozen
        have kW : IntKind.i64.wrap (((j + 1 : Nat) : Int) - 1) = (j : Int) := by rw [IntKind.wrap_i64]; omega
        obtain ⟨h0, k0⟩ := h.seti ok (j : Int)
        have K0' : Hid (KeepsFrom w10.heap.size X (X.setCell ⟨q + 1, 0, none⟩ (.int .i64 (j : Int))) ∧ KS b w10.heap.size X (X.setCell ⟨q + 1, 0, none⟩ (.int .i64 (j : Int)))) := by
          refine ⟨(k0.others (fun g e => by subst e; exact ⟨_, _, h.fa.bi⟩)).from _, KS.of k0 (fun g e => by have e' : g = q + 1 := e; omega) (fun e => ?_) h.blt⟩
          have e' : b = q + 1 := e
          obtain ⟨o1, o2, o3, o4, o5⟩ := ok
          dsimp only at o1 o2 o3 o4 o5
          omega
        have hBx : Bx ≠ q + 1 := fun e => by
          have e1 : X.heap[q + 1]? = some (.cells #[.int .i64 ((j + 1 : Nat) : Int)] 3 (0, 0)) := h.fa.bi
          rw [e, e1] at hx; simp at hx
        have hx0 : (X.setCell ⟨q + 1, 0, none⟩ (.int .i64 (j : Int))).heap[Bx]? = some (.cells #[.int .i64 x.1, .int .i64 x.2] 31 (0, 0)) := (k0.block Bx (Array.getElem?_eq_some_iff.1 hx).1 hBx).trans hx
        have H0 := hide (And.intro h0 hx0)
        clear h SEQ4 HW li8 hpf hx hx0 k0 h0
        gi_upto_region 43 with fail
        gi_cut [] from 18 (fun wx => wx = X.setCell ⟨q + 1, 0, none⟩ (.int .i64 (j : Int)))
        case first =>
          as_aux_lemma =>
            gi_wp2_with fail
            gi_meet
            exact rfl
        case rest =>
        subst hcut
        clear ci fi kW
        generalize X.setCell ⟨q + 1, 0, none⟩ (.int .i64 (j : Int)) = X0 at *
        have h := (unhide H0).1
        have hx := (unhide H0).2
        obtain ⟨g, rfl, y0, y1⟩ := h.fa.rl.look hk
        have x0 := (box2 hx).1
        have x1 := (box2 hx).2
        have ci : X0.cell? ⟨q + 1, 0, none⟩ = some (.int .i64 (j : Int)) := h.fa.bi.cell
        have cq : X0.cell? ⟨q, 0, none⟩ = some (.slice (some ⟨g, 0, none⟩) L1.length c2) := h.fa.bq.cell
        have jI : ¬ (j : Int) < 0 := by omega
        have jl : (j : Int) < (L1.length : Int) := by omega
        have H := hide h
        clear h hx H0
        gi_upto_region 44 with fail
        gi_cut [158] from 18 (fun v158 wx => v158 = .bool false ∧ ∃ nq, wx = X0.drewN nq)
        case first =>
          as_aux_lemma =>
            refine region_quiet_round (F := Fence.wide) rfl (by kernel_rfl) (by kernel_rfl) (by kernel_rfl) ?_
            repeat (gi_big_quiet_step (fail))
            refine wpQuietIn_nil ?_
            intro _ hw'
            obtain ⟨nq, hw''⟩ := hw'
            subst hw''
            gi_wp2_with fail
            gi_meet
            exact ⟨rfl, _, rfl⟩
        case rest =>
        obtain ⟨h158, nq, rfl⟩ := hcut
        subst h158
        clear y0 y1 x0 x1 ci cq
        have gX1 : X0.grownBy (X0.drewN nq) none := grown_drewN _ nq
        have HX := hide (And.intro ((unhide H).grown gX1) (And.intro (unhide H) gX1))
        generalize X0.drewN nq = X1 at *
        have ci : X1.cell? ⟨q + 1, 0, none⟩ = some (.int .i64 (j : Int)) := (unhide HX).1.fa.bi.cell
        have cm : X1.cell? ⟨N, 0, none⟩ = some (.slice am lenm capm) := (unhide HX).1.fa.bm.cell
        have cs : X1.cell? ⟨P, 0, none⟩ = some (.pointer (some ⟨b, 0, none⟩)) := (unhide HX).1.fa.bs.cell
        have K1' : Hid (KeepsFrom w10.heap.size X X1 ∧ KS b w10.heap.size X X1) := ⟨kf_trans (unhide K0').1 (gX1.kfrom _), (unhide K0').2.trans (KS.grown (unhide HX).2.1.blt gX1)⟩
        have FIN : Hid (∀ w9, (∃ v2 L2, LI w (Pl.mk N P u (u + 1) (u + 1 + 1) q b) (.slice am lenm capm) lv' v2 L2 (some ⟨g, 0, none⟩) c2 L1 (j : Int) [D2, D1] w9 ∧ L2.length ≤ 4000 + pre.length + 1 ∧ KeepsOthers X1 w9 ∧ KS b w10.heap.size X1 w9) → KeepsFrom w10.heap.size X w9 ∧ KS b w10.heap.size X w9 ∧ (∃ v' L', LI w (Pl.mk N P u (u + 1) (u + 1 + 1) q b) (.slice am lenm capm) lv' v' L' (some ⟨g, 0, none⟩) c2 L1 ((L1.length - (pre ++ [x]).length : Nat) : Int) [D2, D1] w9 ∧ L'.length ≤ 4000 + (pre ++ [x]).length) ∧ pre ++ [x] <+: L1.reverse) := fun w9 h9 => by
          obtain ⟨v2, L2, h9, hl9, ko9, ks9⟩ := h9
          refine ⟨kf_trans (unhide K1').1 (ko9.from _), (unhide K1').2.trans ks9, ⟨v2, L2, ?_, by simp; omega⟩, hsp⟩
          rw [show L1.length - (pre ++ [x]).length = j by simp; omega]
          exact h9
        clear H K0' K1'
        by_cases hlt : j < lenm
        · have hltI : (j : Int) < (lenm : Int) := by omega
          obtain ⟨bo, off, rfl, hcs⟩ := (unhide HM).2.2.resolve_left (by omega)
          obtain ⟨c0, c2', c3, r1, r2, r3, r4⟩ := hcs j hlt
          have d0 := cell_grown_none (unhide HX).1.gr c0
          have d2 := cell_grown_none (unhide HX).1.gr c2'
          have d3 := cell_grown_none (unhide HX).1.gr c3
          have okL : Ok L' := ⟨(unhide HX).1.fa.good, by omega⟩
          have GL := chg_good (unhide HX).1.fa.good (LO j) (HI j) r1 r4
          generalize LO j = lo at *
          generalize HI j = hi at *
          have hcm := (unhide HM).1
          have hcm2 := (unhide HM).2.1
          unfold maxLen at hcm2
          by_cases hq : K j = 2
          · rw [hq] at d0
            have CHG := hide (fun Y (gY : X1.grownBy Y none) => add_at ((unhide HX).1.grown gY).fa.st okL lo hi r1 r4)
            clear hcs c0 hq
            gi_wp2_with fail
            refine region_held_only (fun W => W.cell? ⟨P, 0, none⟩ = some (.pointer (some ⟨b, 0, none⟩)) ∧ W.cell? ⟨N, 0, none⟩ = some (.slice (some ⟨bo, off, none⟩) lenm capm) ∧ W.cell? ⟨q + 1, 0, none⟩ = some (.int .i64 (j : Int)) ∧ W.cell? ⟨bo, off + j * 4 + 2, none⟩ = some (.int .i64 lo) ∧ W.cell? ⟨bo, off + j * 4 + 3, none⟩ = some (.int .i64 hi)) (by as_aux_lemma => kernel_rfl) (by as_aux_lemma => kernel_rfl) ⟨cs, cm, ci, d2, d3⟩ (fun hHeld => ?_)
            refine wpAnyH_take (i := 0) (v := ?_) rfl (by as_aux_lemma => kernel_rfl) (by as_aux_lemma => kernel_rfl) (by as_aux_lemma => kernel_rfl) (fun _ _ _ h => by cases h.1) (Or.inl ⟨by rfl, ?_⟩) (by assumption) ?_
            rotate_left
            · intro wH hSw
              try dsimp only at hSw
              go_simp
              try with_reducible rfl
            simp only [Act.put, List.setIfInBounds_toArray, List.set_cons_zero, List.set_cons_succ]
            refine wpAnyH_take (i := 1) (v := ?_) rfl (by as_aux_lemma => kernel_rfl) (by as_aux_lemma => kernel_rfl) (by as_aux_lemma => kernel_rfl) (fun _ _ _ h => by cases h.1) (Or.inl ⟨by rfl, ?_⟩) (by assumption) ?_
            rotate_left
            · intro wH hSw
              try dsimp only at hSw
              go_simp
              try with_reducible rfl
            simp only [Act.put, List.setIfInBounds_toArray, List.set_cons_zero, List.set_cons_succ]
            refine wpAnyH_take (i := 2) (v := ?_) rfl (by as_aux_lemma => kernel_rfl) (by as_aux_lemma => kernel_rfl) (by as_aux_lemma => kernel_rfl) (fun _ _ _ h => by cases h.1) (Or.inl ⟨by rfl, ?_⟩) (by assumption) ?_
            rotate_left
            · intro wH hSw
              try dsimp only at hSw
              go_simp
              try with_reducible rfl
            simp only [Act.put, List.setIfInBounds_toArray, List.set_cons_zero, List.set_cons_succ]
            refine wpAnyH_take (i := 3) (v := ?_) rfl (by as_aux_lemma => kernel_rfl) (by as_aux_lemma => kernel_rfl) (by as_aux_lemma => kernel_rfl) (fun _ _ _ h => by cases h.1) (Or.inl ⟨by rfl, ?_⟩) (by assumption) ?_
            rotate_left
            · intro wH hSw
              try dsimp only at hSw
              go_simp
              try with_reducible rfl
            simp only [Act.put, List.setIfInBounds_toArray, List.set_cons_zero, List.set_cons_succ]
            refine wpAnyH_take (i := 4) (v := ?_) rfl (by as_aux_lemma => kernel_rfl) (by as_aux_lemma => kernel_rfl) (by as_aux_lemma => kernel_rfl) (fun _ _ _ h => by cases h.1) (Or.inl ⟨by rfl, ?_⟩) (by assumption) ?_
            rotate_left
            · intro wH hSw
              try dsimp only at hSw
              go_simp
              try with_reducible rfl
            simp only [Act.put, List.setIfInBounds_toArray, List.set_cons_zero, List.set_cons_succ]
            refine wpAnyH_take (i := 5) (v := ?_) rfl (by as_aux_lemma => kernel_rfl) (by as_aux_lemma => kernel_rfl) (by as_aux_lemma => kernel_rfl) (fun _ _ _ h => by cases h.1) (Or.inl ⟨by rfl, ?_⟩) (by assumption) ?_
            rotate_left
            · intro wH hSw
              try dsimp only at hSw
              go_simp
              try with_reducible rfl
            simp only [Act.put, List.setIfInBounds_toArray, List.set_cons_zero, List.set_cons_succ]
            refine wpAnyH_take (i := 6) (v := ?_) rfl (by as_aux_lemma => kernel_rfl) (by as_aux_lemma => kernel_rfl) (by as_aux_lemma => kernel_rfl) (fun _ _ _ h => by cases h.1) (Or.inl ⟨by rfl, ?_⟩) (by assumption) ?_
            rotate_left
            · intro wH hSw
              try dsimp only at hSw
              go_simp
              try with_reducible rfl
            simp only [Act.put, List.setIfInBounds_toArray, List.set_cons_zero, List.set_cons_succ]
            refine wpAnyH_take (i := 7) (v := ?_) rfl (by as_aux_lemma => kernel_rfl) (by as_aux_lemma => kernel_rfl) (by as_aux_lemma => kernel_rfl) (fun _ _ _ h => by cases h.1) (Or.inl ⟨by rfl, ?_⟩) (by assumption) ?_
            rotate_left
            · intro wH hSw
              try dsimp only at hSw
              go_simp
              try with_reducible rfl
            simp only [Act.put, List.setIfInBounds_toArray, List.set_cons_zero, List.set_cons_succ]
            refine wpAnyH_take (i := 8) (v := ?_) rfl (by as_aux_lemma => kernel_rfl) (by as_aux_lemma => kernel_rfl) (by as_aux_lemma => kernel_rfl) (fun _ _ _ h => by cases h.1) (Or.inl ⟨by rfl, ?_⟩) (by assumption) ?_
            rotate_left
            · intro wH hSw
              try dsimp only at hSw
              go_simp
              try with_reducible rfl
            simp only [Act.put, List.setIfInBounds_toArray, List.set_cons_zero, List.set_cons_succ]
            refine wpAnyH_take (i := 9) (v := ?_) rfl (by as_aux_lemma => kernel_rfl) (by as_aux_lemma => kernel_rfl) (by as_aux_lemma => kernel_rfl) (fun _ _ _ h => by cases h.1) (Or.inl ⟨by rfl, ?_⟩) (by assumption) ?_
            rotate_left
            · intro wH hSw
              try dsimp only at hSw
              go_simp
              try with_reducible rfl
            simp only [Act.put, List.setIfInBounds_toArray, List.set_cons_zero, List.set_cons_succ]
            refine wpAnyH_take (i := 10) (v := ?_) rfl (by as_aux_lemma => kernel_rfl) (by as_aux_lemma => kernel_rfl) (by as_aux_lemma => kernel_rfl) (fun _ _ _ h => by cases h.1) (Or.inl ⟨by rfl, ?_⟩) (by assumption) ?_
            rotate_left
            · intro wH hSw
              try dsimp only at hSw
              go_simp
              try with_reducible rfl
            simp only [Act.put, List.setIfInBounds_toArray, List.set_cons_zero, List.set_cons_succ]
            refine wpAnyH_ready (rs := [11]) (by as_aux_lemma => kernel_rfl) (by simp) ?_
            refine AllReadyH.cons rfl (fun KH hKH => ?_) AllReadyH.nil
            go_simp
            refine (unhide CHG _ (drew_grown _)).mono ?_
            rintro e w9 ⟨⟨n9, rfl⟩, v9, s9, ho9, k9⟩
            have h9 := ((unhide HX).1.grown (drew_grown _)).chg k9 s9 ho9 GL.1.1
            have k9' := kp_drew k9
            have E9 : Hid (∃ v2 L2, LI w (Pl.mk N P u (u + 1) (u + 1 + 1) q b) (.slice (some ⟨bo, off, none⟩) lenm capm) lv' v2 L2 (some ⟨g, 0, none⟩) c2 L1 (j : Int) [D2, D1] w9 ∧ L2.length ≤ 4000 + pre.length + 1 ∧ KeepsOthers X1 w9 ∧ KS b w10.heap.size X1 w9) := ⟨v9, (addS 0 lo hi L'), h9, by have := GL.1.2; omega, k9'.others (fun g e => e.elim (fun e => by rw [e]; exact ⟨_, _, (unhide HX).1.fa.st.blk⟩) (fun e => (unhide HX).1.fa.st.rowlt e)), chg_ks (unhide HX).1.fa.st s9 ho9 k9' bW⟩
            refine hKH.out _ _ ⟨h9.fa.bs.cell, h9.fa.bm.cell, h9.fa.bi.cell, cell_grown_none h9.gr c2', cell_grown_none h9.gr c3⟩ (fun hHeld2 => ?_)
            clear hKH KH
            refine wpAnyH_done (by as_aux_lemma => kernel_rfl) ⟨rfl, ?_⟩ _
            clear h9 s9 k9 k9' ho9 hHeld hHeld2 cs cm ci d0 d2 d3 c2' c3 CHG HX
            have E8 := hide (unhide FIN w9 E9)
            clear FIN E9
            gi_wp2_with fail
            exact ⟨(unhide E8).1, (unhide E8).2.1, (unhide E8).2.2.1, (unhide E8).2.2.2⟩
          · have CHG := hide (fun Y (gY : X1.grownBy Y none) => cut_at ((unhide HX).1.grown gY).fa.st okL lo hi r1 r4)
            generalize K j = kd at *
            clear hcs c0
            gi_wp2_with fail
            refine region_held_only (fun W => W.cell? ⟨P, 0, none⟩ = some (.pointer (some ⟨b, 0, none⟩)) ∧ W.cell? ⟨N, 0, none⟩ = some (.slice (some ⟨bo, off, none⟩) lenm capm) ∧ W.cell? ⟨q + 1, 0, none⟩ = some (.int .i64 (j : Int)) ∧ W.cell? ⟨bo, off + j * 4 + 2, none⟩ = some (.int .i64 lo) ∧ W.cell? ⟨bo, off + j * 4 + 3, none⟩ = some (.int .i64 hi)) (by as_aux_lemma => kernel_rfl) (by as_aux_lemma => kernel_rfl) ⟨cs, cm, ci, d2, d3⟩ (fun hHeld => ?_)
            refine wpAnyH_take (i := 0) (v := ?_) rfl (by as_aux_lemma => kernel_rfl) (by as_aux_lemma => kernel_rfl) (by as_aux_lemma => kernel_rfl) (fun _ _ _ h => by cases h.1) (Or.inl ⟨by rfl, ?_⟩) (by assumption) ?_
            rotate_left
            · intro wH hSw
              try dsimp only at hSw
              go_simp
              try with_reducible rfl
            simp only [Act.put, List.setIfInBounds_toArray, List.set_cons_zero, List.set_cons_succ]
            refine wpAnyH_take (i := 1) (v := ?_) rfl (by as_aux_lemma => kernel_rfl) (by as_aux_lemma => kernel_rfl) (by as_aux_lemma => kernel_rfl) (fun _ _ _ h => by cases h.1) (Or.inl ⟨by rfl, ?_⟩) (by assumption) ?_
            rotate_left
            · intro wH hSw
              try dsimp only at hSw
              go_simp
              try with_reducible rfl
            simp only [Act.put, List.setIfInBounds_toArray, List.set_cons_zero, List.set_cons_succ]
            refine wpAnyH_take (i := 2) (v := ?_) rfl (by as_aux_lemma => kernel_rfl) (by as_aux_lemma => kernel_rfl) (by as_aux_lemma => kernel_rfl) (fun _ _ _ h => by cases h.1) (Or.inl ⟨by rfl, ?_⟩) (by assumption) ?_
            rotate_left
            · intro wH hSw
              try dsimp only at hSw
              go_simp
              try with_reducible rfl
            simp only [Act.put, List.setIfInBounds_toArray, List.set_cons_zero, List.set_cons_succ]
            refine wpAnyH_take (i := 3) (v := ?_) rfl (by as_aux_lemma => kernel_rfl) (by as_aux_lemma => kernel_rfl) (by as_aux_lemma => kernel_rfl) (fun _ _ _ h => by cases h.1) (Or.inl ⟨by rfl, ?_⟩) (by assumption) ?_
            rotate_left
            · intro wH hSw
              try dsimp only at hSw
              go_simp
              try with_reducible rfl
            simp only [Act.put, List.setIfInBounds_toArray, List.set_cons_zero, List.set_cons_succ]
            refine wpAnyH_take (i := 4) (v := ?_) rfl (by as_aux_lemma => kernel_rfl) (by as_aux_lemma => kernel_rfl) (by as_aux_lemma => kernel_rfl) (fun _ _ _ h => by cases h.1) (Or.inl ⟨by rfl, ?_⟩) (by assumption) ?_
            rotate_left
            · intro wH hSw
              try dsimp only at hSw
              go_simp
              try with_reducible rfl
            simp only [Act.put, List.setIfInBounds_toArray, List.set_cons_zero, List.set_cons_succ]
            refine wpAnyH_take (i := 5) (v := ?_) rfl (by as_aux_lemma => kernel_rfl) (by as_aux_lemma => kernel_rfl) (by as_aux_lemma => kernel_rfl) (fun _ _ _ h => by cases h.1) (Or.inl ⟨by rfl, ?_⟩) (by assumption) ?_
            rotate_left
            · intro wH hSw
              try dsimp only at hSw
              go_simp
              try with_reducible rfl
            simp only [Act.put, List.setIfInBounds_toArray, List.set_cons_zero, List.set_cons_succ]
            refine wpAnyH_take (i := 6) (v := ?_) rfl (by as_aux_lemma => kernel_rfl) (by as_aux_lemma => kernel_rfl) (by as_aux_lemma => kernel_rfl) (fun _ _ _ h => by cases h.1) (Or.inl ⟨by rfl, ?_⟩) (by assumption) ?_
            rotate_left
            · intro wH hSw
              try dsimp only at hSw
              go_simp
              try with_reducible rfl
            simp only [Act.put, List.setIfInBounds_toArray, List.set_cons_zero, List.set_cons_succ]
            refine wpAnyH_take (i := 7) (v := ?_) rfl (by as_aux_lemma => kernel_rfl) (by as_aux_lemma => kernel_rfl) (by as_aux_lemma => kernel_rfl) (fun _ _ _ h => by cases h.1) (Or.inl ⟨by rfl, ?_⟩) (by assumption) ?_
            rotate_left
            · intro wH hSw
              try dsimp only at hSw
              go_simp
              try with_reducible rfl
            simp only [Act.put, List.setIfInBounds_toArray, List.set_cons_zero, List.set_cons_succ]
            refine wpAnyH_take (i := 8) (v := ?_) rfl (by as_aux_lemma => kernel_rfl) (by as_aux_lemma => kernel_rfl) (by as_aux_lemma => kernel_rfl) (fun _ _ _ h => by cases h.1) (Or.inl ⟨by rfl, ?_⟩) (by assumption) ?_
            rotate_left
            · intro wH hSw
              try dsimp only at hSw
              go_simp
              try with_reducible rfl
            simp only [Act.put, List.setIfInBounds_toArray, List.set_cons_zero, List.set_cons_succ]
            refine wpAnyH_take (i := 9) (v := ?_) rfl (by as_aux_lemma => kernel_rfl) (by as_aux_lemma => kernel_rfl) (by as_aux_lemma => kernel_rfl) (fun _ _ _ h => by cases h.1) (Or.inl ⟨by rfl, ?_⟩) (by assumption) ?_
            rotate_left
            · intro wH hSw
              try dsimp only at hSw
              go_simp
              try with_reducible rfl
            simp only [Act.put, List.setIfInBounds_toArray, List.set_cons_zero, List.set_cons_succ]
            refine wpAnyH_take (i := 10) (v := ?_) rfl (by as_aux_lemma => kernel_rfl) (by as_aux_lemma => kernel_rfl) (by as_aux_lemma => kernel_rfl) (fun _ _ _ h => by cases h.1) (Or.inl ⟨by rfl, ?_⟩) (by assumption) ?_
            rotate_left
            · intro wH hSw
              try dsimp only at hSw
              go_simp
              try with_reducible rfl
            simp only [Act.put, List.setIfInBounds_toArray, List.set_cons_zero, List.set_cons_succ]
            refine wpAnyH_ready (rs := [11]) (by as_aux_lemma => kernel_rfl) (by simp) ?_
            refine AllReadyH.cons rfl (fun KH hKH => ?_) AllReadyH.nil
            go_simp
            refine (unhide CHG _ (drew_grown _)).mono ?_
            rintro e w9 ⟨⟨n9, rfl⟩, v9, s9, ho9, k9⟩
            have h9 := ((unhide HX).1.grown (drew_grown _)).chg k9 s9 ho9 GL.2.1
            have k9' := kp_drew k9
            have E9 : Hid (∃ v2 L2, LI w (Pl.mk N P u (u + 1) (u + 1 + 1) q b) (.slice (some ⟨bo, off, none⟩) lenm capm) lv' v2 L2 (some ⟨g, 0, none⟩) c2 L1 (j : Int) [D2, D1] w9 ∧ L2.length ≤ 4000 + pre.length + 1 ∧ KeepsOthers X1 w9 ∧ KS b w10.heap.size X1 w9) := ⟨v9, (cutS 0 lo hi L'), h9, by have := GL.2.2; omega, k9'.others (fun g e => e.elim (fun e => by rw [e]; exact ⟨_, _, (unhide HX).1.fa.st.blk⟩) (fun e => (unhide HX).1.fa.st.rowlt e)), chg_ks (unhide HX).1.fa.st s9 ho9 k9' bW⟩
            refine hKH.out _ _ ⟨h9.fa.bs.cell, h9.fa.bm.cell, h9.fa.bi.cell, cell_grown_none h9.gr c2', cell_grown_none h9.gr c3⟩ (fun hHeld2 => ?_)
            clear hKH KH
            refine wpAnyH_done (by as_aux_lemma => kernel_rfl) ⟨rfl, ?_⟩ _
            clear h9 s9 k9 k9' ho9 hHeld hHeld2 cs cm ci d0 d2 d3 c2' c3 CHG HX
            have E8 := hide (unhide FIN w9 E9)
            clear FIN E9
            gi_wp2_with fail
            exact ⟨(unhide E8).1, (unhide E8).2.1, (unhide E8).2.2.1, (unhide E8).2.2.2⟩
        · as_aux_lemma =>
            have hltI : ¬ (j : Int) < (lenm : Int) := by omega
            have hcm := (unhide HM).1
            have hcm2 := (unhide HM).2.1
            unfold maxLen at hcm2
            have E9 := hide (unhide FIN X1 ⟨v', L', (unhide HX).1, by omega, ⟨Nat.le_refl _, fun _ _ h _ => h⟩, KS.refl _ _ _⟩)
            clear HX FIN hj
            gi_wp2_with fail
            exact ⟨(unhide E9).1, (unhide E9).2.1, (unhide E9).2.2.1, (unhide E9).2.2.2⟩
      case done4 =>
        rintro D3 ys X hD3 hys ⟨⟨v2, L2, h, hll⟩, hpf⟩ hd3
        rw [hys] at h hll
        have d23 : D2 < D3 := by omega
        rw [show L1.length - L1.reverse.length = 0 by simp] at h
        have l2 : L2.length ≤ 8000 := by simp at hll; omega
        replace h := h.mark hd3
        clear hys hpf SEQ4 HW li8 hd3 hll
        have ci : X.cell? ⟨q + 1, 0, none⟩ = some (.int .i64 0) := h.fa.bi.cell
        have cs : X.cell? ⟨P, 0, none⟩ = some (.pointer (some ⟨b, 0, none⟩)) := h.fa.bs.cell
        have ru := runs_at h.fa.st (by omega) X (World.grownBy.refl _ _)
        have HH := hide h
        clear h
        gi_wp2_with fail
        refine ⟨trivial, ?_⟩
        refine (callsIn_wide.2 ru).mono ?_
        rintro e X5 ⟨vr, rfl, row, fr, g5⟩
        have h := unhide HH
        obtain ⟨a3, c3, rfl, rd2, ax2⟩ := rd_new (p := ⟨0, 0, 0, 0, 0, 0, 0⟩) h.blt h.hob row fr g5
        have h5 := h.grown g5
        have h6 := h5.setq ok rd2 (fun x e hL => ⟨fun hb => by have := h.bxlt hb; have := ax2 x e hL; omega, fun eb => by have := h.blt; have := ax2 x e hL; omega⟩)
        have fq : X5.frozen? ⟨q, 0, none⟩ = false := h5.fa.bq.frozen
        have cq5 : X5.cell? ⟨q, 0, none⟩ = some (.slice a2 L1.length c2) := h5.fa.bq.cell
        have cap3 := rd2.cap
        have HW := hide h6
        have HE := hide (And.intro cq5 fq)
        clear h h5 h6 row fr g5 rd2 ax2 ru HH ci cs cq5 fq
        obtain ⟨w12, hw12⟩ : ∃ w12, w12 = X5.setCell ⟨q, 0, none⟩ (.slice a3 L2.length c3) := ⟨_, rfl⟩
        obtain ⟨cq5, fq⟩ := unhide HE
        gi_upto_region 53 with fail
        gi_cut [197] from 19 (fun v197 wx => v197 = upV u ∧ wx = w12)
        case first =>
          as_aux_lemma =>
            gi_wp2_with fail
            gi_meet
            exact ⟨rfl, hw12.symm⟩
        case rest =>
        obtain ⟨h197, hwx⟩ := hcut
        subst h197
        replace hwx := hwx.symm
        subst hwx
        rw [← hw12] at HW
        clear hw12 HE fq cq5 X5 zW bW qW dW
        have li8 := unhide HW
        have zW : w.heap.size ≤ w12.heap.size := li8.gr.size
        have bW : b < w12.heap.size := li8.blt
        have qW : q + 1 < w12.heap.size := li8.fa.bi.lt
        have dW : D3 < w12.heap.size ∧ D2 < w12.heap.size ∧ D1 < w12.heap.size := ⟨li8.dlt D3 (by simp), li8.dlt D2 (by simp), li8.dlt D1 (by simp)⟩
        have SEQ5 := up_seq u b w12.heap.size (some ⟨b, 0, none⟩) L2 w12 li8.fa.bu.cell (runs_at li8.fa.st (by omega)) (Nat.le_refl _) li8.blt li8.hob (by omega)
        gi_wp2_with fail
        refine range_own (n := 12) (gf := 25) (lb := #[.pointer (some ⟨u, 0, none⟩)]) rfl (enters_of Try.func25 (by kernel_rfl) rfl)
          SEQ5 (fun h k => KS.trans h k) (fun X j o o' hj hl ho => KS.put X j o o' hl ho (by omega)) (fun _ => rfl)
          (fun pre X => LI w (Pl.mk N P u (u + 1) (u + 1 + 1) q b) (.slice am lenm capm) lv' v2 L2 a3 c3 L2 (pre.length : Int) [D3, D2, D1] X ∧ pre <+: L2)
          (fun _ _ _ => False)
          (fun pre X Y row h g hr => ⟨h.1.own g hr zW (fun D hD => by simp at hD; omega), h.2⟩)
          (fun _ _ _ _ _ h => h.elim)
          ⟨li8, List.nil_prefix⟩
          (AxA (fun x Bx => { tmps := #[.slice a0 len0 cap0, .slice am lenm capm, .int .i64 lv, undef, .pointer (some ⟨N, 0, none⟩), .pointer (some ⟨N + 1, 0, none⟩), .pointer (some ⟨N + 1 + 1, 0, none⟩), .bool true, .pointer (some ⟨P, 0, none⟩), upV u, .pointer (some ⟨u + 1 + 1, 0, none⟩), .pointer (some ⟨q, 0, none⟩), .pointer (some ⟨q + 1, 0, none⟩), undef, undef, undef, undef, undef, .pointer (some ⟨Bx, 0, none⟩), u19, u20, u21, u22, u23, u24, u25, u26, u27, u28, u29, u30, u31, u32, u33, u34, u35, u36, u37, u38, u39, u40, u41, u42, u43, u44, u45, u46, u47, u48, u49, u50, u51, u52, u53, u54, u55, u56, u57, u58, u59, u60, u61, u62, u63, u64, u65, u66, u67, u68, u69, u70, u71, u72, u73, u74, u75, u76, u77, u78, u79, u80, u81, u82, u83, u84, u85, u86, u87, u88, u89, u90, u91, u92, u93, u94, u95, u96, u97, u98, u99, u100, u101, u102, u103, u104, u105, u106, u107, u108, u109, u110, u111, u112, u113, u114, u115, u116, u117, u118, u119, u120, u121, u122, u123, u124, u125, u126, u127, u128, u129, u130, u131, u132, u133, u134, u135, u136, u137, u138, u139, u140, u141, u142, u143, u144, u145, u146, u147, u148, u149, u150, u151, u152, u153, u154, u155, u156, u157, u158, u159, u160, u161, u162, u163, u164, u165, u166, u167, u168, u169, u170, u171, u172, u173, u174, u175, u176, u177, u178, u179, u180, u181, u182, u183, u184, u185, u186, u187, u188, u189, u190, u191, u192, u193, u194, u195, u196, upV u, .agg #[.int .i64 x.1, .int .i64 x.2], u199, u200, u201, u202, u203, u204, u205, u206, u207, u208, u209, u210, u211, u212, u213, u214, u215, u216], defers := [] }))
          (fun x a' => axA_own _ _ x a') ?assign5 ?body5 ?done5 ?stop5
        case assign5 =>
          as_aux_lemma =>
            rintro l m pre x X K3 ⟨h, hpf⟩ hK
            have gA := World.grownBy_alloc X (.cells #[.int .i64 x.1, .int .i64 x.2] 31) none
            have hK2 := hK _ _ ((KeepsOthers.alloc X (.cells #[.int .i64 x.1, .int .i64 x.2] 31)).from _) (KS.grown h.blt gA) ⟨h.grown gA, hpf⟩ ⟨_, heap_alloc_new X _, rfl⟩
            clear h SEQ5 HW li8
            gi_wp2
            exact hK2
        case stop5 =>
          rintro D4 cd pre X hD4 hp hf
          exact hf.elim
        case body5 =>
          as_aux_lemma =>
            rintro l m pre x a' X hl ⟨r, hr⟩ ⟨h, hpf⟩ ⟨Bx, hx, ha⟩ hsp
            dsimp only at ha
            subst ha
            have hk := at_prefix hsp
            have hkl : pre.length < L2.length := (List.getElem?_eq_some_iff.1 hk).1
            have kI : ¬ (L2.length : Int) ≤ (pre.length : Int) := by omega
            obtain ⟨g, rfl, y0, y1⟩ := h.fa.rl.look hk
            have x0 := (box2 hx).1
            have x1 := (box2 hx).2
            have ci : X.cell? ⟨q + 1, 0, none⟩ = some (.int .i64 (pre.length : Int)) := h.fa.bi.cell
            have fi : X.frozen? ⟨q + 1, 0, none⟩ = false := h.fa.bi.frozen
            have cq : X.cell? ⟨q, 0, none⟩ = some (.slice (some ⟨g, 0, none⟩) L2.length c3) := h.fa.bq.cell
            have cap := h.fa.rl.cap
            have kW : IntKind.i64.wrap ((pre.length : Int) + 1) = (pre.length : Int) + 1 := by rw [IntKind.wrap_i64]; omega
            have E : Hid (∀ n, KeepsFrom w12.heap.size X ((X.drewN n).setCell ⟨q + 1, 0, none⟩ (.int .i64 ((pre.length : Int) + 1))) ∧ KS b w12.heap.size X ((X.drewN n).setCell ⟨q + 1, 0, none⟩ (.int .i64 ((pre.length : Int) + 1))) ∧ LI w (Pl.mk N P u (u + 1) (u + 1 + 1) q b) (.slice am lenm capm) lv' v2 L2 (some ⟨g, 0, none⟩) c3 L2 ((pre ++ [x]).length : Int) [D3, D2, D1] ((X.drewN n).setCell ⟨q + 1, 0, none⟩ (.int .i64 ((pre.length : Int) + 1))) ∧ pre ++ [x] <+: L2) := fun n => by
              have gn : X.grownBy (X.drewN n) none := grown_drewN _ n
              have hn := h.grown gn
              obtain ⟨hs, ks⟩ := hn.seti ok ((pre.length : Int) + 1)
              refine ⟨kf_trans (gn.kfrom _) ((ks.others (fun g e => by subst e; exact ⟨_, _, hn.fa.bi⟩)).from _), (KS.grown h.blt gn).trans (KS.of ks (fun g e => by have e' : g = q + 1 := e; omega) (fun e => ?_) hn.blt), ?_, hsp⟩
              · have e' : b = q + 1 := e
                obtain ⟨o1, o2, o3, o4, o5⟩ := ok
                dsimp only at o1 o2 o3 o4 o5
                omega
              · rw [show (((pre ++ [x]).length : Nat) : Int) = (pre.length : Int) + 1 by simp]
                exact hs
            clear h SEQ5 HW li8 hpf hx
            gi_upto_region 55 with fail
            refine region_quiet_round (F := Fence.wide) rfl (by kernel_rfl) (by kernel_rfl) (by kernel_rfl) ?_
            repeat (gi_big_quiet_step (fail))
            refine wpQuietIn_nil ?_
            intro _ hw'
            obtain ⟨nq, hw''⟩ := hw'
            subst hw''
            gi_wp2_with fail
            exact ⟨(unhide E nq).1, (unhide E nq).2.1, (unhide E nq).2.2.1, (unhide E nq).2.2.2⟩
        case done5 =>
          as_aux_lemma =>
            rintro D4 ys X hD4 hys ⟨h, hpf⟩ hd4
            have d34 : D3 < D4 := by omega
            rw [hys] at h
            have ci : X.cell? ⟨q + 1, 0, none⟩ = some (.int .i64 (L2.length : Int)) := h.fa.bi.cell
            have cq : X.cell? ⟨q, 0, none⟩ = some (.slice a3 L2.length c3) := h.fa.bq.cell
            have cr : X.cell? ⟨N + 1 + 1, 0, none⟩ = some (.bool false) := h.fa.br.cell
            have fr : X.frozen? ⟨N + 1 + 1, 0, none⟩ = false := h.fa.br.frozen
            have ee : ((L2.length : Int) == (L2.length : Int)) = true := by simp
            have FIN := hide (ends_four h hd4 d34 d23 d12 w0D1)
            clear h hpf SEQ5 HW li8 hys
            gi_wp2_with fail
            obtain ⟨f1, f2, f3, f4, f5, f6⟩ := unhide FIN
            refine ⟨by simp, .inl ⟨_, _, rfl, run_takeDeferred f1, ?_⟩⟩
            refine ⟨by simp, .inl ⟨_, _, rfl, run_takeDeferred f2, ?_⟩⟩
            refine ⟨by simp, .inl ⟨_, _, rfl, run_takeDeferred f3, ?_⟩⟩
            refine ⟨by simp, .inl ⟨_, _, rfl, run_takeDeferred f4, ?_⟩⟩
            refine ⟨.bool true, ?_, rfl, f6⟩
            simp [results, Try.f4, go_sem, f5]
end Go.Proofs.Ytbcmeaebjngapaa
