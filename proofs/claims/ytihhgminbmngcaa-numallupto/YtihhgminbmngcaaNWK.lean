/- NumAll: the walk. -/
import Derived.Test.YtihhgminbmngcaaNAI
import Derived.Sort.LoopGhostIn
import Derived.Laws.EntriesVeiled
namespace Go.Proofs.Ytihhgminbmngcaa
open Go.RowKit Go.Shelf
set_option linter.unusedVariables false
set_option linter.unusedSimpArgs false
set_option maxHeartbeats 40000000
set_option maxRecDepth 100000
attribute [local go_sem] Oper.semAt_some

theorem all_box (a : Option Addr) (len cap : Nat) (i0 : Int) (w : World) :
    Calls Try.prog 6 #[.slice a len cap, .int .i64 i0] w fun e w' => ∃ Ba Bb, e = .returned (seqV Ba Bb) ∧ Boxed w' Ba 3 (.int .i64 i0) ∧ Boxed w' Bb 22 (.slice a len cap) ∧ Below w.heap.size w w' ∧ w.heap.size ≤ Ba ∧ w.heap.size ≤ Bb := by
  refine (all_in a len cap i0 w).mono ?_
  rintro e w' ⟨rfl, rfl⟩
  refine ⟨_, _, rfl, ?_, ?_, ((Below.refl _ _).alloc (Nat.le_refl _) _).alloc (by simp) _, by omega, Nat.le_refl _⟩
  · have := heap_alloc_new (w.alloc (.cells #[.slice a len cap] 22)) (.cells #[.int .i64 i0] 3)
    rw [World.size_alloc] at this
    exact this
  · exact (Below.heap_alloc _ _ _ (by simp)).trans (heap_alloc_new w _)

theorem all_walk (ba : Option Addr) (bl : List Int) (bc : Nat) (at_ early : Int) (w : World) (hr : Rd w ba bl) (hb : bl.length ≤ 1048576) :
    Calls Try.prog 3 #[.slice ba bl.length bc, .int .i64 at_, .int .i64 early] w fun e w' => e = .returned (.bool true) ∧ Below w.heap.size w w' := by
  refine (callsIn_wide (n := 12)).1 ?_
  obtain ⟨w1, hw1⟩ : ∃ w1, w1 = w.alloc (.cells #[.bool false] 4) := ⟨_, rfl⟩
  have b1 : Below w.heap.size w w1 := by rw [hw1]; exact (Below.refl _ _).alloc (Nat.le_refl _) _
  have z1 : Hid (w1.heap.size = w.heap.size + 1) := by show _ = _; rw [hw1]; simp
  have br1 : Boxed w1 w.heap.size 4 (.bool false) := by rw [hw1]; exact heap_alloc_new w _
  have aw := awake_any w1
  have HR := hide hr
  clear hr
  have hfn := func_nil
  refine callsIn_of_wp_marks Try.func3 rfl trivial ?_ rfl
  simp only [Try.ntmps3, List.size_toArray, List.length_cons, List.length_nil, Nat.reduceAdd, Nat.reduceSub, Array.replicate_succ, Array.replicate_zero, List.push_toArray, List.append_toArray, List.nil_append, List.cons_append]
  gi_wp2_with fail
  rw [← hw1]
  clear hw1
  refine ⟨trivial, ?_⟩
  refine (callsIn_wide.2 aw).mono ?_
  rintro e w2 ⟨rfl, b2⟩
  have rd2 : Rd w2 ba bl := ((unhide HR).bel b1).bel b2
  have ld := lend_any ba bl bc w2 rd2 (by omega)
  have br2 := bx_below br1 b2
  have bb2 : Below w.heap.size w w2 := b1.trans (b2.mono (by have := unhide z1; omega))
  have z2 : w.heap.size < w2.heap.size := by have := unhide z1; have := b2.size; omega
  clear aw br1 b1 b2
  gi_wp2_with fail
  refine ⟨trivial, ?_⟩
  refine (callsIn_wide.2 ld).mono ?_
  rintro e w3 ⟨fv, wv, rfl, lp⟩
  obtain ⟨gf, cf, rfl, -⟩ := ownsRow_open lp.full (by omega)
  obtain ⟨gw, cw, rfl, -⟩ := ownsRow_open lp.was (by omega)
  have LT : Hid (Lent w2 w2.heap.size w3 w2.heap.size bl.length gf cf gw cw (lentL bl) (lentL bl)) := lp
  have FB := hide (lentL_byte bl rd2.1)
  have br3 := bx_below br2 lp.bel
  have bb3 : Below w.heap.size w w3 := bb2.trans (lp.bel.mono (by omega))
  have z3 := lp.bel.size
  have by0 := bytes_any w2 w3 w2.heap.size w2.heap.size bl.length gf cf gw cw _ _ lp
  have hcf : bl.length ≤ cf ∧ cf ≤ maxLen := by obtain ⟨_, _, _, h1, h2, _, _⟩ := (unhide LT).ne; exact ⟨by omega, h2⟩
  generalize lentL bl = F at *
  clear ld lp rd2 br2 bb2 HR
  gi_wp2_with fail
  refine ⟨trivial, ?_⟩
  refine (callsIn_wide.2 by0).mono ?_
  rintro e w4 ⟨rfl, nq, hw4⟩
  have b4 : Below w3.heap.size w3 w4 := by rw [hw4]; exact bel_drewN (Below.refl _ _) nq
  clear by0 hw4
  have al := all_box (some ⟨gf, 0, none⟩) bl.length cf at_ w4
  gi_wp2_with fail
  refine ⟨trivial, ?_⟩
  refine (callsIn_wide.2 al).mono ?_
  rintro e w5 ⟨Ba, Bb, rfl, ba5, bb5, b45, lBa, lBb⟩
  have b5 : Below w3.heap.size w3 w5 := b4.trans (b45.mono b4.size)
  have z5 := b5.size
  have z4 := b4.size
  obtain ⟨w6, hw6⟩ : ∃ w6, w6 = w5.alloc (.cells #[seqV Ba Bb] 27) := ⟨_, rfl⟩
  have bs6 : Boxed w6 w5.heap.size 27 (seqV Ba Bb) := by rw [hw6]; exact heap_alloc_new w5 _
  have b56 : Below w5.heap.size w5 w6 := by rw [hw6]; exact (Below.refl _ _).alloc (Nat.le_refl _) _
  have z6 : Hid (w6.heap.size = w5.heap.size + 1) := by show _ = _; rw [hw6]; simp
  have cs6 := bs6.cell
  clear al b4 b45
  gi_upto_region 4 with fail
  rw [← hw6]
  replace hw6 := hide hw6
  obtain ⟨w7, hw7⟩ : ∃ w7, w7 = w6.alloc (.cells #[.int .i64 early] 3) := ⟨_, rfl⟩
  have bm7 : Boxed w7 w6.heap.size 3 (.int .i64 early) := by rw [hw7]; exact heap_alloc_new w6 _
  have b67 : Below w6.heap.size w6 w7 := by rw [hw7]; exact (Below.refl _ _).alloc (Nat.le_refl _) _
  have z7 : Hid (w7.heap.size = w6.heap.size + 1) := by show _ = _; rw [hw7]; simp
  gi_upto_region 7 with fail
  rw [← hw7]
  replace hw7 := hide hw7
  have cm7 := bm7.cell
  have fm7 := bm7.frozen
  have sm7 := bm7.set (.int .i64 1)
  have bl7 : Below w6.heap.size w6 (w7.setCell ⟨w6.heap.size, 0, none⟩ (.int .i64 1)) := b67.setCell (p := ⟨w6.heap.size, 0, none⟩) (Nat.le_refl _) _
  have zs7 : Hid ((w7.setCell ⟨w6.heap.size, 0, none⟩ (.int .i64 1)).heap.size = w7.heap.size) := by show _ = _; simp [World.setCell]
  gi_upto_if 40 with fail
  gi_cut [] from 40 (fun wc => ∃ (most : Int) (X : World), X = wc ∧ Hid (1 ≤ most ∧ Boxed X w6.heap.size 3 (.int .i64 most) ∧ Below w6.heap.size w6 X ∧ X.heap.size = w6.heap.size + 1))
  case first =>
    by_cases he : early < 1
    · gi_wp2_with fail
      gi_meet
      exact ⟨1, _, rfl, Int.le_refl _, sm7, bl7, (unhide zs7).trans (unhide z7)⟩
    · gi_wp2_with fail
      gi_meet
      exact ⟨early, _, rfl, by show 1 ≤ early; omega, bm7, b67, unhide z7⟩
  case rest =>
  obtain ⟨most, w8, rfl, hc⟩ := hcut
  obtain ⟨hmost, bm8, b68, z8⟩ := unhide hc
  replace z8 := hide z8
  clear hc bm7 cm7 fm7 sm7 bl7 zs7 b67 z7 hw7 w7
  have b58 : Below w5.heap.size w5 w8 := b56.trans (b68.mono (by have := unhide z6; omega))
  have b38 : Below w3.heap.size w3 w8 := b5.trans (b58.mono b5.size)
  have LT8 := (unhide LT).below b38
  have ba8 := bx_below ba5 b58
  have bb8 := bx_below bb5 b58
  have bs8 := bx_below bs6 b68
  have br8 := bx_below br3 b38
  have be8 : Below w.heap.size w w8 := bb3.trans (b38.mono bb3.size)
  have by1 := bytes_any w2 w8 w2.heap.size w2.heap.size bl.length gf cf gw cw _ _ LT8
  have NB8 : Hid (Lent w2 w2.heap.size w8 w2.heap.size bl.length gf cf gw cw F F ∧ Boxed w8 w.heap.size 4 (.bool false) ∧ Boxed w8 Ba 3 (.int .i64 at_) ∧ Boxed w8 Bb 22 (.slice (some ⟨gf, 0, none⟩) bl.length cf) ∧ Boxed w8 w5.heap.size 27 (seqV Ba Bb) ∧ Boxed w8 w6.heap.size 3 (.int .i64 most) ∧ Below w.heap.size w w8) := ⟨LT8, br8, ba8, bb8, bs8, bm8, be8⟩
  have ZZ : Hid (w.heap.size < w2.heap.size ∧ w2.heap.size ≤ w8.heap.size) := ⟨z2, by have := unhide z6; have := unhide z8; omega⟩
  clear LT b58 b38 b56 b68 ba5 bb5 bs6 br3 bb3 b5 LT8 ba8 bb8 bs8 bm8 br8 be8 cs6 hw6
  gi_wp2_with fail
  refine ⟨trivial, ?_⟩
  refine (callsIn_wide.2 by1).mono ?_
  rintro e w9 ⟨rfl, nq, hw9⟩
  have b9 : Below w8.heap.size w8 w9 := by rw [hw9]; exact bel_drewN (Below.refl _ _) nq
  have LT9 := (unhide NB8).1.below b9
  have al := rall_any (some ⟨gf, 0, none⟩) (F.take bl.length) cf at_ w9 (LT9.rd (unhide FB)) (by rw [LT9.tlen]; exact hb)
  rw [LT9.tlen] at al
  clear by1 hw9
  gi_wp2_with fail
  refine ⟨trivial, ?_⟩
  refine (callsIn_wide.2 al).mono ?_
  rintro e wa ⟨pv, mv, rfl, ar⟩
  obtain ⟨pa, pn, pc, hpv⟩ : ∃ a n c, pv = .slice a n c := let ⟨a, c, e, _⟩ := ar.rp.shape; ⟨a, _, c, e⟩
  obtain ⟨ma, mn, mc, hmv⟩ : ∃ a n c, mv = .slice a n c := let ⟨a, c, e, _⟩ := ar.rm.shape; ⟨a, _, c, e⟩
  subst hpv hmv
  have b8a : Below w8.heap.size w8 wa := b9.trans (ar.bel.mono b9.size)
  obtain ⟨wb, hwb⟩ : ∃ wb, wb = (wa.alloc (.cells #[.slice pa pn pc] 30)).alloc (.cells #[.slice ma mn mc] 31) := ⟨_, rfl⟩
  have bab : Below wa.heap.size wa wb := by rw [hwb]; exact ((Below.refl _ _).alloc (Nat.le_refl _) _).alloc (by simp) _
  have zb : wb.heap.size = wa.heap.size + 2 := by rw [hwb]; simp
  have bpb : Boxed wb wa.heap.size 30 (.slice pa pn pc) := by rw [hwb]; exact (Below.heap_alloc _ _ _ (by simp)).trans (heap_alloc_new wa _)
  have blb : Boxed wb (wa.heap.size + 1) 31 (.slice ma mn mc) := by
    have := heap_alloc_new (wa.alloc (.cells #[.slice pa pn pc] 30)) (.cells #[.slice ma mn mc] 31)
    rw [World.size_alloc] at this
    rw [hwb]; exact this
  have b8b : Below w8.heap.size w8 wb := b8a.trans (bab.mono b8a.size)
  obtain ⟨q, hq⟩ : ∃ q : Ps, q = ⟨w.heap.size, w2.heap.size, bl.length, gf, cf, gw, cw, Ba, Bb, w5.heap.size, w6.heap.size, wa.heap.size, wa.heap.size + 1, at_, most⟩ := ⟨_, rfl⟩
  have NSb : Hid (NS w w2 w2.heap.size q F (.slice pa pn pc) (.slice ma mn mc) wb) := by
    obtain ⟨k1, k2, k3, k4, k5, k6, k7⟩ := unhide NB8
    obtain ⟨zz1, zz2⟩ := unhide ZZ
    have zz3 := b8a.size
    rw [hq]
    exact ⟨⟨k1.below b8b, unhide FB, bx_below k2 b8b, bx_below k3 b8b, bx_below k4 b8b, bx_below k5 b8b, bx_below k6 b8b, bpb, blb, k7.trans (b8b.mono k7.size), ⟨by dsimp only; omega, by dsimp only; omega, by dsimp only; omega, by omega⟩, ⟨by dsimp only; omega, by dsimp only; omega⟩, hmost, hb⟩, irow_low (ar.rp.below bab) (by have := b9.size; omega), irow_low (ar.rm.below bab) (by have := b9.size; omega)⟩
  clear al ar b8a bab bpb blb b8b b9 LT9 NB8
  subst hq
  have W0 : Hid (w.heap.size ≤ wb.heap.size) := (unhide NSb).nb.be.size
  have HG0 : Hid (w2.heap.size = w2.heap.size) := rfl
  gi_upto_region 10 with fail
  rw [← hwb]
  clear hwb zb
  generalize w5.heap.size = s0 at *
  generalize w6.heap.size = m0 at *
  generalize wa.heap.size = p0 at *
  clear z2 z3 z4 z5 z6 z8 lBa lBb ZZ w3 w4 w5 w6 w8 w9 wa
  obtain ⟨wc0, hwc0⟩ : ∃ wc0, wc0 = wb.alloc (.cells #[.int .i64 ((0 : Nat) : Int)] 3) := ⟨_, rfl⟩
  have NR0 : Hid (NR w w2 (mkP w w2 bl.length gf cf gw cw Ba Bb s0 m0 p0 at_ most) F (.slice pa pn pc) (.slice ma mn mc) wb.heap.size 0 [] wc0) := by
    have bb : Below wb.heap.size wb wc0 := by rw [hwc0]; exact (Below.refl _ _).alloc (Nat.le_refl _) _
    exact ⟨(unhide NSb).below bb, by rw [hwc0]; exact heap_alloc_new wb _, fun D hD => (by cases hD), List.Pairwise.nil, fun D hD => (by cases hD), rfl⟩
  rw [Int.natCast_zero] at hwc0
  obtain ⟨kb, hkb⟩ : ∃ kb, kb = wb.heap.size := ⟨_, rfl⟩
  rw [← hkb] at NR0
  clear NSb W0 HG0 FB
  gi_upto_region 11 with fail
  rw [← hwc0, ← hkb]
  clear hwc0 hkb
  have hbn := hb
  have hcf1 := hcf.1
  have hcf2 := hcf.2
  refine wpIn_loop_ghost (AI w w2 ba bl.length bc gf cf gw cw Ba Bb s0 m0 p0 at_ early most) 4 ?init ?_
  case init =>
    unfold AI
    exact ⟨0, kb, F, pa, ma, pn, pc, mn, mc, [], _, _, _, _, _, _, _, _, _, _, _, _, _, _, _, _, _, _, _, _, _, _, _, _, _, _, _, _, _, _, _, _, _, _, _, _, _, _, _, _, _, _, _, _, _, _, _, _, _, _, _, _, _, _, _, _, _, _, _, _, _, _, _, _, _, _, _, _, _, _, _, _, _, _, _, _, _, _, _, _, _, _, _, _, _, _, _, _, _, _, _, _, _, _, _, _, _, _, _, _, _, _, _, _, _, _, _, _, _, _, _, _, _, _, _, rfl, rfl, NR0⟩
  clear NR0 hfn z1 hmost hb hcf
  clear F pa pn pc ma mn mc kb wb wc0
  generalize bl.length = bn at *
  intro m a X hI
  unfold AI at hI
  obtain ⟨ρ, k, F, pa, ma, pn, pc, mn, mc, Ds, hI⟩ := hI
  obtain ⟨u14, hI⟩ := hI
  obtain ⟨u15, hI⟩ := hI
  obtain ⟨u16, hI⟩ := hI
  obtain ⟨u17, hI⟩ := hI
  obtain ⟨u18, hI⟩ := hI
  obtain ⟨u19, hI⟩ := hI
  obtain ⟨u20, hI⟩ := hI
  obtain ⟨u21, hI⟩ := hI
  obtain ⟨u22, hI⟩ := hI
  obtain ⟨u23, hI⟩ := hI
  obtain ⟨u24, hI⟩ := hI
  obtain ⟨u25, hI⟩ := hI
  obtain ⟨u26, hI⟩ := hI
  obtain ⟨u27, hI⟩ := hI
  obtain ⟨u28, hI⟩ := hI
  obtain ⟨u29, hI⟩ := hI
  obtain ⟨u30, hI⟩ := hI
  obtain ⟨u31, hI⟩ := hI
  obtain ⟨u32, hI⟩ := hI
  obtain ⟨u33, hI⟩ := hI
  obtain ⟨u34, hI⟩ := hI
  obtain ⟨u35, hI⟩ := hI
  obtain ⟨u36, hI⟩ := hI
  obtain ⟨u37, hI⟩ := hI
  obtain ⟨u38, hI⟩ := hI
  obtain ⟨u39, hI⟩ := hI
  obtain ⟨u40, hI⟩ := hI
  obtain ⟨u41, hI⟩ := hI
  obtain ⟨u42, hI⟩ := hI
  obtain ⟨u43, hI⟩ := hI
  obtain ⟨u44, hI⟩ := hI
  obtain ⟨u45, hI⟩ := hI
  obtain ⟨u46, hI⟩ := hI
  obtain ⟨u47, hI⟩ := hI
  obtain ⟨u48, hI⟩ := hI
  obtain ⟨u49, hI⟩ := hI
  obtain ⟨u50, hI⟩ := hI
  obtain ⟨u51, hI⟩ := hI
  obtain ⟨u52, hI⟩ := hI
  obtain ⟨u53, hI⟩ := hI
  obtain ⟨u54, hI⟩ := hI
  obtain ⟨u55, hI⟩ := hI
  obtain ⟨u56, hI⟩ := hI
  obtain ⟨u57, hI⟩ := hI
  obtain ⟨u58, hI⟩ := hI
  obtain ⟨u59, hI⟩ := hI
  obtain ⟨u60, hI⟩ := hI
  obtain ⟨u61, hI⟩ := hI
  obtain ⟨u62, hI⟩ := hI
  obtain ⟨u63, hI⟩ := hI
  obtain ⟨u64, hI⟩ := hI
  obtain ⟨u65, hI⟩ := hI
  obtain ⟨u66, hI⟩ := hI
  obtain ⟨u67, hI⟩ := hI
  obtain ⟨u68, hI⟩ := hI
  obtain ⟨u69, hI⟩ := hI
  obtain ⟨u70, hI⟩ := hI
  obtain ⟨u71, hI⟩ := hI
  obtain ⟨u72, hI⟩ := hI
  obtain ⟨u73, hI⟩ := hI
  obtain ⟨u74, hI⟩ := hI
  obtain ⟨u75, hI⟩ := hI
  obtain ⟨u76, hI⟩ := hI
  obtain ⟨u77, hI⟩ := hI
  obtain ⟨u78, hI⟩ := hI
  obtain ⟨u79, hI⟩ := hI
  obtain ⟨u80, hI⟩ := hI
  obtain ⟨u81, hI⟩ := hI
  obtain ⟨u82, hI⟩ := hI
  obtain ⟨u83, hI⟩ := hI
  obtain ⟨u84, hI⟩ := hI
  obtain ⟨u85, hI⟩ := hI
  obtain ⟨u86, hI⟩ := hI
  obtain ⟨u87, hI⟩ := hI
  obtain ⟨u88, hI⟩ := hI
  obtain ⟨u89, hI⟩ := hI
  obtain ⟨u90, hI⟩ := hI
  obtain ⟨u91, hI⟩ := hI
  obtain ⟨u92, hI⟩ := hI
  obtain ⟨u93, hI⟩ := hI
  obtain ⟨u94, hI⟩ := hI
  obtain ⟨u95, hI⟩ := hI
  obtain ⟨u96, hI⟩ := hI
  obtain ⟨u97, hI⟩ := hI
  obtain ⟨u98, hI⟩ := hI
  obtain ⟨u99, hI⟩ := hI
  obtain ⟨u100, hI⟩ := hI
  obtain ⟨u101, hI⟩ := hI
  obtain ⟨u102, hI⟩ := hI
  obtain ⟨u103, hI⟩ := hI
  obtain ⟨u104, hI⟩ := hI
  obtain ⟨u105, hI⟩ := hI
  obtain ⟨u106, hI⟩ := hI
  obtain ⟨u107, hI⟩ := hI
  obtain ⟨u108, hI⟩ := hI
  obtain ⟨u109, hI⟩ := hI
  obtain ⟨u110, hI⟩ := hI
  obtain ⟨u111, hI⟩ := hI
  obtain ⟨u112, hI⟩ := hI
  obtain ⟨u113, hI⟩ := hI
  obtain ⟨u114, hI⟩ := hI
  obtain ⟨u115, hI⟩ := hI
  obtain ⟨u116, hI⟩ := hI
  obtain ⟨u117, hI⟩ := hI
  obtain ⟨u118, hI⟩ := hI
  obtain ⟨u119, hI⟩ := hI
  obtain ⟨u120, hI⟩ := hI
  obtain ⟨u121, hI⟩ := hI
  obtain ⟨u122, hI⟩ := hI
  obtain ⟨u123, hI⟩ := hI
  obtain ⟨u124, hI⟩ := hI
  obtain ⟨u125, hI⟩ := hI
  obtain ⟨u126, hI⟩ := hI
  obtain ⟨u127, hI⟩ := hI
  obtain ⟨u128, hI⟩ := hI
  obtain ⟨hmρ, ha, NRX⟩ := hI
  subst ha
  have nr := unhide NRX
  have ck := nr.bk.cell
  by_cases hρ : ρ < 4
  · skip
    have hρI : (ρ : Int) < 4 := by omega
    gi_upto_if 53 with fail
    gi_cut [] from 48 (fun wc => ∃ (Y : World) (F : List Int) (pa ma : Option Addr) (pn pc mn mc : Nat), Y = wc ∧ Hid (NR w w2 (mkP w w2 bn gf cf gw cw Ba Bb s0 m0 p0 at_ most) F (.slice pa pn pc) (.slice ma mn mc) k ρ Ds Y))
    case first =>
      by_cases h2 : ρ = 2
      · have h2I : ((ρ : Int) == 2) = true := by rw [h2]; rfl
        have tu := Tu.turn_only w2 X w2.heap.size w2.heap.size bn gf cf gw cw 2 F nr.ns.nb.lent nr.ns.nb.fb (by decide) (by decide)
        clear h2
        gi_wp2_with fail
        refine ⟨trivial, ?_⟩
        refine (callsIn_wide.2 tu).mono ?_
        rintro e X1 ⟨rfl, F', hl, hf, ho⟩
        have by1 := bytes_any w2 X1 w2.heap.size w2.heap.size bn gf cf gw cw _ _ hl
        have HL := hide (And.intro hl (And.intro hf ho))
        clear tu hl hf ho ck
        gi_wp2_with fail
        refine ⟨trivial, ?_⟩
        refine (callsIn_wide.2 by1).mono ?_
        rintro e X2 ⟨rfl, nq, hX2⟩
        have b12 : Below X1.heap.size X1 X2 := by rw [hX2]; exact bel_drewN (Below.refl _ _) nq
        have L2 := (unhide HL).1.below b12
        have al := rall_any (some ⟨gf, 0, none⟩) (F'.take bn) cf at_ X2 (L2.rd (unhide HL).2.1) (by rw [L2.tlen]; exact hbn)
        rw [L2.tlen] at al
        have B12 := hide b12
        clear by1 hX2 b12 L2
        gi_wp2_with fail
        refine ⟨trivial, ?_⟩
        refine (callsIn_wide.2 al).mono ?_
        rintro e X3 ⟨pv', mv', rfl, ar⟩
        obtain ⟨pa', pn', pc', hpv⟩ : ∃ a n c, pv' = .slice a n c := let ⟨a, c, e, _⟩ := ar.rp.shape; ⟨a, _, c, e⟩
        obtain ⟨ma', mn', mc', hmv⟩ : ∃ a n c, mv' = .slice a n c := let ⟨a, c, e, _⟩ := ar.rm.shape; ⟨a, _, c, e⟩
        subst hpv hmv
        obtain ⟨⟨bx1, bx2⟩, nr'⟩ := nr.turned (unhide HL).1 (unhide HL).2.1 (unhide HL).2.2 (unhide B12) ar
        have cp := bx1.cell
        have fp := bx1.frozen
        have cl := bx2.cell
        have fl := bx2.frozen
        have E := hide nr'
        clear al ar bx1 bx2 nr' nr NRX HL B12
        dsimp only at cp fp cl fl
        gi_wp2_with fail
        gi_meet
        exact ⟨_, F', pa', ma', pn', pc', mn', mc', rfl, E⟩
      · have h2I : ((ρ : Int) == 2) = false := by
          rw [beq_eq_false_iff_ne]
          omega
        clear nr
        gi_wp2_with fail
        gi_meet
        exact ⟨X, F, pa, ma, pn, pc, mn, mc, rfl, NRX⟩
    case rest =>
    clear nr NRX ck
    clear F pa ma pn pc mn mc X
    obtain ⟨Y, F, pa, ma, pn, pc, mn, mc, rfl, NRY⟩ := hcut
    have nr := unhide NRY
    obtain ⟨Y2, hY2⟩ : ∃ Y2, Y2 = (Y.alloc (.cells #[.slice none 0 0] 31)).alloc (.cells #[.slice none 0 0] 30) := ⟨_, rfl⟩
    have bY : Below Y.heap.size Y Y2 := by rw [hY2]; exact ((Below.refl _ _).alloc (Nat.le_refl _) _).alloc (by simp) _
    have zY : Hid (Y2.heap.size = Y.heap.size + 2) := by show _ = _; rw [hY2]; simp
    have k4 : Boxed Y2 Y.heap.size 31 (.slice none 0 0) := by rw [hY2]; exact (Below.heap_alloc _ _ _ (by simp)).trans (heap_alloc_new Y _)
    have k3 : Boxed Y2 (Y.heap.size + 1) 30 (.slice none 0 0) := by
      have := heap_alloc_new (Y.alloc (.cells #[.slice none 0 0] 31)) (.cells #[.slice none 0 0] 30)
      rw [World.size_alloc] at this
      rw [hY2]; exact this
    have tb0 : TB Y.heap.size Y2 (Y.heap.size + 1) Y.heap.size Y2 (.slice none 0 0) (.slice none 0 0) [] [] := ⟨k3, World.ownsRow_nil _ _ _ _, k4, World.ownsRow_nil _ _ _ _, Below.refl _ _, by omega, Nat.le_refl _⟩
    have nr2 := nr.below bY
    have cs2 : Y2.cell? ⟨s0, 0, none⟩ = some (seqV Ba Bb) := nr2.ns.nb.bs.cell
    rw [hY2] at cs2
    gi_wp2_with fail
    rw [← hY2]
    rw [← hY2] at cs2
    replace hY2 := hide hY2
    have tl : (F.take bn).length = bn := nr.ns.nb.lent.tlen
    have gfl : gf < Y.heap.size := (nr.ns.nb.lent.full.lt gf rfl).2
    have rdB : RdB Y.heap.size Y2 (some ⟨gf, 0, none⟩) (F.take bn) := by
      have rd := nr2.ns.nb.lent.rd nr2.ns.nb.fb
      exact ⟨rd.1, fun hne => by obtain ⟨b, off, e, hc⟩ := rd.2 hne; cases e; exact ⟨gf, 0, rfl, gfl, hc⟩⟩
    have SEQ := all_seq Ba Bb Y.heap.size cf (some ⟨gf, 0, none⟩) (F.take bn) at_ (by rw [tl]; exact hcf1) hcf2 Y2 nr2.ns.nb.ba.lt nr.ns.nb.bb.lt bY.size nr2.ns.nb.ba.cell (by rw [tl]; exact nr2.ns.nb.bb.cell) rdB
    have hAGl := allG_len (F.take bn) at_
    rw [tl] at hAGl
    have hRP : IRow Y w2.heap.size 3 .i64 (.slice pa pn pc) ((allG (F.take bn) at_).map Prod.fst) := nr.ns.rp
    have hRM : IRow Y w2.heap.size 35 .u64 (.slice ma mn mc) ((allG (F.take bn) at_).map Prod.snd) := nr.ns.rm
    generalize hAG : allG (F.take bn) at_ = AG at *
    have hpn : pn = AG.length := by obtain ⟨a, c, e, _⟩ := hRP.shape; injection e with _ e2 _; rw [e2]; simp
    subst hpn
    have RP := hide hRP
    have RM := hide hRM
    have M1 : 1 ≤ most := nr.ns.nb.most1
    have NR1 := hide nr
    have BY := hide bY
    have LW : Hid (w.heap.size ≤ Y.heap.size) := nr.ns.nb.be.size
    have RG := hide (And.intro tl (And.intro rdB hAG))
    have zy2 := unhide zY
    have n0le : Y.heap.size ≤ Y2.heap.size := bY.size
    clear zy2 hRP hRM nr nr2 NRY rdB tl cs2 k3 k4 bY hAG
    refine range_two (n := 12) (id := 2) (gf := 14) (lb := #[.pointer (some ⟨Ba, 0, none⟩), .pointer (some ⟨Bb, 0, none⟩)]) rfl (enters_of Try.func14 (by kernel_rfl) rfl)
      SEQ (fun h k => h.trans k) (fun W j o o' hj _ _ => ⟨rfl, rfl, rfl, by simp, fun i hi => World.putObj_heap_other (by omega)⟩) (fun _ => rfl)
      (fun pre W => TI2 Y.heap.size Y2 (Y.heap.size + 1) Y.heap.size pre W ∧ (ρ = 0 → (pre.length : Int) < most) ∧ pre <+: AG)
      (fun pre W => TI2 Y.heap.size Y2 (Y.heap.size + 1) Y.heap.size pre W ∧ ρ = 0 ∧ (pre.length : Int) = most)
      (fun pre W W' row h g hr => ⟨TI2.own n0le n0le pre W W' row h.1 g hr, h.2⟩)
      (fun pre W W' row h g hr => ⟨TI2.own n0le n0le pre W W' row h.1 g hr, h.2⟩)
      ⟨⟨_, _, tb0⟩, fun _ => by show ((0 : Nat) : Int) < most; omega, List.nil_prefix⟩
      (fun x a' W => a' = { tmps := #[.slice ba bn bc, .int .i64 at_, .int .i64 early, undef, undef, undef, .pointer (some ⟨w.heap.size, 0, none⟩), .bool true, .pointer (some ⟨w2.heap.size, 0, none⟩), .pointer (some ⟨s0, 0, none⟩), .pointer (some ⟨m0, 0, none⟩), .pointer (some ⟨p0, 0, none⟩), .pointer (some ⟨p0 + 1, 0, none⟩), .pointer (some ⟨k, 0, none⟩), .pointer (some ⟨Y.heap.size, 0, none⟩), .pointer (some ⟨Y.heap.size + 1, 0, none⟩), .int .i64 x.1, .int .u64 x.2, u18, u19, u20, u21, u22, u23, u24, u25, u26, u27, u28, u29, u30, u31, u32, u33, u34, u35, u36, u37, u38, u39, u40, u41, u42, u43, u44, u45, u46, u47, u48, u49, u50, u51, u52, u53, u54, u55, u56, u57, u58, u59, u60, u61, u62, seqV Ba Bb, .int .i64 x.1, .int .u64 x.2, u66, u67, u68, u69, u70, u71, u72, u73, u74, u75, u76, u77, u78, u79, u80, u81, u82, u83, u84, u85, u86, u87, u88, u89, u90, u91, u92, u93, u94, u95, u96, u97, u98, u99, u100, u101, u102, u103, u104, u105, u106, u107, u108, u109, u110, u111, u112, u113, u114, u115, u116, u117, u118, u119, u120, u121, u122, u123, u124, u125, u126, u127, u128], defers := [] })
      (fun x a' s W W' row h g hr => h)
      (fun D W => W.heap[D]? = some (.deferred (some [])) ∧ ∃ pre, TI2 Y.heap.size Y2 (Y.heap.size + 1) Y.heap.size pre W ∧ pre <+: AG ∧ ((pre.length : Int) = most ∧ ρ = 0 ∨ pre.length = AG.length ∧ (ρ = 0 → (pre.length : Int) ≤ most)))
      (fun D xs W hs h hd => ⟨hd, xs, h.1, h.2.2, .inr ⟨by rw [hs], fun e => by have := h.2.1 e; omega⟩⟩)
      (fun D pre W hs h hd => ⟨hd, pre, h.1, hs, .inl ⟨h.2.2, h.2.1⟩⟩)
      (fun _ _ h => h) ?assign1 ?body1 ?rest1
    case assign1 =>
      intro l m pre x W K hI hK
      have hK2 := hK _ W ⟨Nat.le_refl _, fun j o _ h _ => h⟩ (Below.refl _ _) hI rfl
      clear hK hI SEQ tb0
      gi_wp2
      all_goals exact hK2
    case body1 =>
      rintro l m2 pre x a' Z hl ⟨r, hr⟩ ⟨⟨pv, mv, tb⟩, hlm, hpf⟩ ha hsp
      subst ha
      have hpl : pre.length + 1 ≤ AG.length := by have := hsp.length_le; simpa using this
      have cp := tb.bp.cell
      have cm := tb.bm.cell
      have lp : (pre.map Prod.fst).length = pre.length := List.length_map _
      have lm : (pre.map Prod.snd).length = pre.length := List.length_map _
      have LP1 : Hid ((pre.map Prod.fst ++ [x.1]).length = pre.length + 1) := by show _ = _; simp
      have LM1 : Hid ((pre.map Prod.snd ++ [x.2]).length = pre.length + 1) := by show _ = _; simp
      have TBH := hide tb
      have LPH := hide lp
      have LMH := hide lm
      have HPF := hide (And.intro hlm (And.intro hpf hsp))
      clear tb lp lm SEQ tb0 hlm hpf hsp
      gi_upto_region 22 with (first
        | (gi_at_builtin; refine wpListIn_appI _ rfl (.tmp 66) (.tmp 68) 30 3 .i64 8 rfl Try.underlying30 Try.info3 Y.heap.size _ _ (unhide TBH).rp rfl x.1 _ rfl (by simp) (by have := unhide LPH; omega) (by have := unhide LPH; unfold maxLen; omega) (unhide TBH).low ?_; intro pv' W4 hr4 hm4; obtain ⟨ap, cp', ep, -⟩ := hr4.shape; rw [unhide LP1] at ep; subst ep; obtain ⟨⟨z1, z2⟩, tb4, ko4, bl4⟩ := (unhide TBH).app_p _ hm4 hr4; have cm4 := tb4.bm.cell; have TB4 := hide tb4; have KO4 := hide ko4; have BL4 := hide bl4; clear hr4 hm4 tb4 ko4 bl4)
        | fail)
      gi_cut [] from 66 (fun wc => ∃ (Z2 : World) (am : Option Addr) (cm' : Nat), Z2 = wc ∧ Hid (TB Y.heap.size Y2 (Y.heap.size + 1) Y.heap.size Z2 (.slice ap (pre.length + 1) cp') (.slice am (pre.length + 1) cm') (pre.map Prod.fst ++ [x.1]) (pre.map Prod.snd ++ [x.2]) ∧ KeepsFrom Y2.heap.size Z Z2 ∧ Below Y.heap.size Z Z2))
      case first =>
        gi_wp2_with (first
          | (gi_at_builtin; refine wpListIn_appI _ rfl (.tmp 70) (.tmp 72) 31 35 .u64 8 rfl Try.underlying31 Try.infoU64 Y.heap.size _ _ (unhide TB4).rm rfl x.2 _ rfl (by simp) (by have := unhide LMH; omega) (by have := unhide LMH; unfold maxLen; omega) (unhide TB4).low ?_; intro mv' W5 hr5 hm5; obtain ⟨am, cm', em, -⟩ := hr5.shape; rw [unhide LM1] at em; subst em; obtain ⟨⟨z3, z4⟩, tb5, ko5, bl5⟩ := (unhide TB4).app_m _ hm5 hr5; have TB5 := hide tb5; have KO5 := hide ko5; have BL5 := hide bl5; clear hr5 hm5 tb5 ko5 bl5)
          | fail)
        gi_meet
        exact ⟨_, am, cm', rfl, unhide TB5, ((unhide KO4).trans (unhide KO5)).from _, (unhide BL4).trans (unhide BL5)⟩
      case rest =>
      obtain ⟨Z2, am, cm', rfl, HZ⟩ := hcut
      have TB5 := hide (unhide HZ).1
      have KZ := hide (unhide HZ).2
      have HR2 := hide ((unhide KZ).1.same l _ hl hr rfl)
      have BYZ : Hid (Below Y.heap.size Y Z2) := (unhide BY).trans (unhide TB5).bel
      have cp5 := (unhide TB5).bp.cell
      clear KO4 BL4 TB4 TBH hr cp cm z1 z2 cm4 HZ
      obtain ⟨b3, hb3⟩ : ∃ b3, b3 = decide (((pre.length : Int) + 1) ≤ 3) := ⟨_, rfl⟩
      gi_upto_region 23 with fail
      gi_cut [76] from 66 (fun v wc => v = .bool b3 ∧ wc = Z2)
      case first =>
        gi_wp2_with fail
        gi_meet
        exact ⟨by rw [hb3], rfl⟩
      case rest =>
      obtain ⟨h76, hwc⟩ := hcut
      subst h76
      replace hwc := hwc.symm
      subst hwc
      clear hb3
      gi_upto_if 76 with fail
      gi_cut [] from 66 (fun wc => ∃ Z3, Z3 = wc ∧ Hid (TB Y.heap.size Y2 (Y.heap.size + 1) Y.heap.size Z3 (.slice ap (pre.length + 1) cp') (.slice am (pre.length + 1) cm') (pre.map Prod.fst ++ [x.1]) (pre.map Prod.snd ++ [x.2]) ∧ KeepsFrom Y2.heap.size Z Z3 ∧ Below Y.heap.size Z Z3))
      case first =>
        cases b3 with
        | true =>
          obtain ⟨Z4, hZ4⟩ : ∃ Z4, Z4 = (Z2.alloc (.cells #[.slice none 0 0] 30)).alloc (.cells #[.slice none 0 0] 31) := ⟨_, rfl⟩
          have b24 : Below Z2.heap.size Z2 Z4 := by rw [hZ4]; exact ((Below.refl _ _).alloc (Nat.le_refl _) _).alloc (by simp) _
          have q3 : Boxed Z4 Z2.heap.size 30 (.slice none 0 0) := by rw [hZ4]; exact (Below.heap_alloc _ _ _ (by simp)).trans (heap_alloc_new Z2 _)
          have q4 : Boxed Z4 (Z2.heap.size + 1) 31 (.slice none 0 0) := by
            have := heap_alloc_new (Z2.alloc (.cells #[.slice none 0 0] 30)) (.cells #[.slice none 0 0] 31)
            rw [World.size_alloc] at this
            rw [hZ4]; exact this
          have tq0 : TB Z2.heap.size Z4 Z2.heap.size (Z2.heap.size + 1) Z4 (.slice none 0 0) (.slice none 0 0) [] [] := ⟨q3, World.ownsRow_nil _ _ _ _, q4, World.ownsRow_nil _ _ _ _, Below.refl _ _, Nat.le_refl _, by omega⟩
          have bY4 : Below Y.heap.size Y Z4 := (unhide BYZ).trans (b24.mono (unhide BYZ).size)
          have nr4 := (unhide NR1).below bY4
          have cs4 : Z4.cell? ⟨s0, 0, none⟩ = some (seqV Ba Bb) := nr4.ns.nb.bs.cell
          have lw : Z4.heap[l]? = some (.loop r) := (b24.block l (Array.getElem?_eq_some_iff.1 (unhide HR2)).1).trans (unhide HR2)
          have zz2 := (unhide BYZ).size
          have tl := (unhide RG).1
          have rdB4 : RdB Z2.heap.size Z4 (some ⟨gf, 0, none⟩) (F.take bn) := by
            have rd := nr4.ns.nb.lent.rd nr4.ns.nb.fb
            exact ⟨rd.1, fun hne => by obtain ⟨b, off, e, hc⟩ := rd.2 hne; cases e; exact ⟨gf, 0, rfl, by omega, hc⟩⟩
          have SEQ2 := all_seq Ba Bb Z2.heap.size cf (some ⟨gf, 0, none⟩) (F.take bn) at_ (by rw [tl]; exact hcf1) hcf2 Z4 nr4.ns.nb.ba.lt (by have : Bb < Y.heap.size := (unhide NR1).ns.nb.bb.lt; omega) b24.size nr4.ns.nb.ba.cell (by rw [tl]; exact nr4.ns.nb.bb.cell) rdB4
          rw [(unhide RG).2.2] at SEQ2
          have n1le : Z2.heap.size ≤ Z4.heap.size := b24.size
          have B24 := hide b24
          rw [hZ4] at cs4
          clear nr4 bY4 rdB4 tl b24 q3 q4 cp5
          gi_wp2_with fail
          rw [← hZ4]
          clear cs4
          replace hZ4 := hide hZ4
          refine range_in m2 lw (gf := 14) (lb := #[.pointer (some ⟨Ba, 0, none⟩), .pointer (some ⟨Bb, 0, none⟩)]) rfl (enters_of Try.func14 (by kernel_rfl) rfl)
            SEQ2 (fun h k => h.trans k) (fun W j o o' hj _ _ => ⟨rfl, rfl, rfl, by simp, fun i hi => World.putObj_heap_other (by omega)⟩) (fun _ => rfl)
            (fun pr W => TI2 Z2.heap.size Z4 Z2.heap.size (Z2.heap.size + 1) pr W ∧ pr <+: AG)
            (fun _ _ _ => False)
            (fun pr W W' row h g hr => ⟨TI2.own n1le n1le pr W W' row h.1 g hr, h.2⟩)
            (fun c pr W W' row h g hr => h)
            ⟨⟨_, _, tq0⟩, List.nil_prefix⟩
            (fun y a' W => a' = { tmps := #[.slice ba bn bc, .int .i64 at_, .int .i64 early, undef, undef, undef, .pointer (some ⟨w.heap.size, 0, none⟩), .bool true, .pointer (some ⟨w2.heap.size, 0, none⟩), .pointer (some ⟨s0, 0, none⟩), .pointer (some ⟨m0, 0, none⟩), .pointer (some ⟨p0, 0, none⟩), .pointer (some ⟨p0 + 1, 0, none⟩), .pointer (some ⟨k, 0, none⟩), .pointer (some ⟨Y.heap.size, 0, none⟩), .pointer (some ⟨Y.heap.size + 1, 0, none⟩), .int .i64 x.1, .int .u64 x.2, .pointer (some ⟨Z2.heap.size, 0, none⟩), .pointer (some ⟨Z2.heap.size + 1, 0, none⟩), .int .i64 y.1, .int .u64 y.2, u22, u23, u24, u25, u26, u27, u28, u29, u30, u31, u32, u33, u34, u35, u36, u37, u38, u39, u40, u41, u42, u43, u44, u45, u46, u47, u48, u49, u50, u51, u52, u53, u54, u55, u56, u57, u58, u59, u60, u61, u62, seqV Ba Bb, .int .i64 x.1, .int .u64 x.2, u66, u67, u68, u69, u70, u71, u72, u73, u74, u75, .bool true, seqV Ba Bb, .int .i64 y.1, .int .u64 y.2, u80, u81, u82, u83, u84, u85, u86, u87, u88, u89, u90, u91, u92, u93, u94, u95, u96, u97, u98, u99, u100, u101, u102, u103, u104, u105, u106, u107, u108, u109, u110, u111, u112, u113, u114, u115, u116, u117, u118, u119, u120, u121, u122, u123, u124, u125, u126, u127, u128], defers := [] })
            (fun y a' s W W' row h g hr => h) ?assign2 ?body2 ?done2 ?stop2
          case assign2 =>
            intro l2 m3 pr y W K hI hK
            have hK2 := hK _ W ⟨Nat.le_refl _, fun j o _ h _ => h⟩ (Below.refl _ _) hI rfl
            clear hK hI SEQ2 tq0
            gi_wp2
            all_goals exact hK2
          case stop2 => exact fun c pr W _ h => h.elim
          case body2 =>
            rintro l2 m3 pr y a' V hl2 ⟨r2, hr2⟩ ⟨⟨pv2, mv2, tb⟩, hpf2⟩ ha hsp2
            subst ha
            have hpl2 : pr.length + 1 ≤ AG.length := by have := hsp2.length_le; simpa using this
            have cp := tb.bp.cell
            have cm := tb.bm.cell
            have lp : (pr.map Prod.fst).length = pr.length := List.length_map _
            have lm : (pr.map Prod.snd).length = pr.length := List.length_map _
            have LP1 : Hid ((pr.map Prod.fst ++ [y.1]).length = pr.length + 1) := by show _ = _; simp
            have LM1 : Hid ((pr.map Prod.snd ++ [y.2]).length = pr.length + 1) := by show _ = _; simp
            have TBH := hide tb
            have LPH := hide lp
            have LMH := hide lm
            have HSP := hide hsp2
            clear tb lp lm SEQ2 tq0 hpf2 hsp2
            gi_wp2_with (first
              | (gi_at_builtin; refine wpListIn_appI _ rfl (.tmp 80) (.tmp 82) 30 3 .i64 8 rfl Try.underlying30 Try.info3 Z2.heap.size _ _ (unhide TBH).rp rfl y.1 _ rfl (by simp) (by have := unhide LPH; omega) (by have := unhide LPH; unfold maxLen; omega) (unhide TBH).low ?_; intro pv' W4 hr4 hm4; obtain ⟨aq, cq', ep, -⟩ := hr4.shape; rw [unhide LP1] at ep; subst ep; obtain ⟨⟨z1, z2⟩, tb4, ko4, bl4⟩ := (unhide TBH).app_p _ hm4 hr4; have cm4 := tb4.bm.cell; have TB4 := hide tb4; have KO4 := hide ko4; have BL4 := hide bl4; clear hr4 hm4 tb4 ko4 bl4)
              | (gi_at_builtin; refine wpListIn_appI _ rfl (.tmp 84) (.tmp 86) 31 35 .u64 8 rfl Try.underlying31 Try.infoU64 Z2.heap.size _ _ (unhide TB4).rm rfl y.2 _ rfl (by simp) (by have := unhide LMH; omega) (by have := unhide LMH; unfold maxLen; omega) (unhide TB4).low ?_; intro mv' W5 hr5 hm5; obtain ⟨aw, cw', em, -⟩ := hr5.shape; rw [unhide LM1] at em; subst em; obtain ⟨⟨z3, z4⟩, tb5, ko5, bl5⟩ := (unhide TB4).app_m _ hm5 hr5; have TBn := hide tb5; have KO5 := hide ko5; have BL5 := hide bl5; clear hr5 hm5 tb5 ko5 bl5)
              | fail)
            refine ⟨((unhide KO4).trans (unhide KO5)).from _, (unhide BL4).trans (unhide BL5), ⟨.slice aq (pr.length + 1) cq', .slice aw (pr.length + 1) cw', ?_⟩, unhide HSP⟩
            rw [List.map_append, List.map_append]
            exact unhide TBn
          case done2 =>
            rintro xs V hxs ⟨⟨pv2, mv2, tb⟩, -⟩
            have hxs' : xs = AG := hxs
            rw [hxs'] at tb
            clear hxs hxs'
            have bV : Below Z2.heap.size Z2 V := (unhide B24).trans tb.bel
            have bYV : Below Y.heap.size Y V := (unhide BYZ).trans (bV.mono (unhide BYZ).size)
            have nrV := (unhide NR1).below bYV
            have rpV := (unhide RP).below bYV
            have rmV := (unhide RM).below bYV
            have c1 : V.cell? ⟨p0, 0, none⟩ = some (.slice pa AG.length pc) := nrV.ns.nb.bp.cell
            have c2 : V.cell? ⟨p0 + 1, 0, none⟩ = some (.slice ma mn mc) := nrV.ns.nb.bl.cell
            have c3 := tb.bp.cell
            have c4 := tb.bm.cell
            have lf : (AG.map Prod.fst).length = AG.length := List.length_map _
            have ls : (AG.map Prod.snd).length = AG.length := List.length_map _
            have cs := same_true V Z2.heap.size Z2.heap.size w2.heap.size w2.heap.size pv2 mv2 (.slice pa AG.length pc) (.slice ma mn mc) (AG.map Prod.fst) (AG.map Prod.snd) AG.length (AG.length : Int) (by rw [lf, ls]) (by omega) (.inl rfl) (by omega)
              (by rw [List.take_of_length_le (by omega)]; exact tb.rp) (by rw [List.take_of_length_le (by omega)]; exact tb.rm) rpV rmV
            have EV : Hid (∀ nq, TB Y.heap.size Y2 (Y.heap.size + 1) Y.heap.size (V.drewN nq) (.slice ap (pre.length + 1) cp') (.slice am (pre.length + 1) cm') (pre.map Prod.fst ++ [x.1]) (pre.map Prod.snd ++ [x.2]) ∧ KeepsFrom Y2.heap.size Z (V.drewN nq) ∧ Below Y.heap.size Z (V.drewN nq)) := fun nq => by
              have bn2 : Below Z2.heap.size Z2 (V.drewN nq) := bel_drewN bV nq
              refine ⟨(unhide TB5).below bn2, ?_, (unhide KZ).2.trans (bn2.mono zz2)⟩
              have k1 := (unhide KZ).1
              exact ⟨Nat.le_trans k1.size bn2.size, fun j o hj h1 h2 => by have h3 := k1.same j o hj h1 h2; exact (bn2.block j (Array.getElem?_eq_some_iff.1 h3).1).trans h3⟩
            clear SEQ2 tq0 nrV rpV rmV bV bYV tb lf ls
            gi_wp2_with fail
            refine ⟨trivial, fun h => (by cases h), (CallsIn.inRound l (callsIn_wide.2 cs)).mono ?_⟩
            rintro e w' ⟨rfl, nq, rfl⟩
            clear cs c1 c2 c3 c4
            gi_wp2_with fail
            gi_meet
            exact ⟨_, rfl, unhide EV _⟩
        | false =>
          gi_wp2_with fail
          gi_meet
          exact ⟨_, rfl, unhide TB5, (unhide KZ).1, (unhide KZ).2⟩
      case rest =>
        obtain ⟨Z3, rfl, HZ3⟩ := hcut
        clear KZ HR2 BYZ TB5 cp5
        obtain ⟨tb3, kf3, bl3⟩ := unhide HZ3
        have nrz := (unhide NR1).below ((unhide BY).trans tb3.bel)
        have ck := nrz.bk.cell
        have cmo : Z3.cell? ⟨m0, 0, none⟩ = some (.int .i64 most) := nrz.ns.nb.bm.cell
        have cp3 := tb3.bp.cell
        have E : Hid (TI2 Y.heap.size Y2 (Y.heap.size + 1) Y.heap.size (pre ++ [x]) Z3) := ⟨_, _, by rw [List.map_append, List.map_append]; exact tb3⟩
        have hlx : ((pre ++ [x]).length : Int) = (pre.length : Int) + 1 := by simp
        have HLX := hide hlx
        have KF := hide (And.intro kf3 bl3)
        clear nrz tb3 kf3 bl3 HZ3 hlx
        by_cases h0 : ρ = 0
        · have h0I : ((ρ : Int) == 0) = true := by rw [h0]; rfl
          by_cases hm : (pre.length : Int) + 1 = most
          · have hmI : ((pre.length : Int) + 1 == most) = true := by rw [beq_iff_eq]; exact hm
            have EX : Hid (KeepsFrom Y2.heap.size Z Z3 ∧ TI2 Y.heap.size Y2 (Y.heap.size + 1) Y.heap.size (pre ++ [x]) Z3 ∧ ρ = 0 ∧ ((pre ++ [x]).length : Int) = most) := ⟨(unhide KF).1, unhide E, h0, by rw [unhide HLX]; exact hm⟩
            clear hm h0
            gi_wp2_with fail
            all_goals exact ⟨(unhide EX).1, rfl, (unhide EX).2⟩
          · have hmI : ((pre.length : Int) + 1 == most) = false := by rw [beq_eq_false_iff_ne]; exact hm
            have EX : Hid (KeepsFrom Y2.heap.size Z Z3 ∧ Below Y.heap.size Z Z3 ∧ TI2 Y.heap.size Y2 (Y.heap.size + 1) Y.heap.size (pre ++ [x]) Z3 ∧ (ρ = 0 → ((pre ++ [x]).length : Int) < most) ∧ pre ++ [x] <+: AG) := ⟨(unhide KF).1, (unhide KF).2, unhide E, fun e => by have := (unhide HPF).1 e; rw [unhide HLX]; omega, (unhide HPF).2.2⟩
            clear hm h0
            gi_wp2_with fail
            all_goals exact unhide EX
        · have h0I : ((ρ : Int) == 0) = false := by rw [beq_eq_false_iff_ne]; omega
          have EX : Hid (KeepsFrom Y2.heap.size Z Z3 ∧ Below Y.heap.size Z Z3 ∧ TI2 Y.heap.size Y2 (Y.heap.size + 1) Y.heap.size (pre ++ [x]) Z3 ∧ (ρ = 0 → ((pre ++ [x]).length : Int) < most) ∧ pre ++ [x] <+: AG) := ⟨(unhide KF).1, (unhide KF).2, unhide E, fun e => absurd e h0, (unhide HPF).2.2⟩
          clear h0
          gi_wp2_with fail
          all_goals exact unhide EX
    case rest1 =>
      rintro D W hD ⟨hd, pre, ⟨pv, mv, tb⟩, hpf, hcs⟩
      have bYW : Below Y.heap.size Y W := (unhide BY).trans tb.bel
      have nrW := (unhide NR1).below bYW
      have rpW := (unhide RP).below bYW
      have rmW := (unhide RM).below bYW
      have c1 : W.cell? ⟨p0, 0, none⟩ = some (.slice pa AG.length pc) := nrW.ns.nb.bp.cell
      have c2 : W.cell? ⟨p0 + 1, 0, none⟩ = some (.slice ma mn mc) := nrW.ns.nb.bl.cell
      have c3 := tb.bp.cell
      have c4 := tb.bm.cell
      have ck := nrW.bk.cell
      have cmo : W.cell? ⟨m0, 0, none⟩ = some (.int .i64 most) := nrW.ns.nb.bm.cell
      have lf : (AG.map Prod.fst).length = AG.length := List.length_map _
      have ls : (AG.map Prod.snd).length = AG.length := List.length_map _
      have hpl := hpf.length_le
      have tk : pre = AG.take pre.length := List.prefix_iff_eq_take.1 hpf
      have hM : ∀ most' : Int, (most' = (pre.length : Int) ∨ (pre.length = AG.length ∧ (pre.length : Int) ≤ most')) → Calls Try.prog 10 #[pv, mv, .slice pa AG.length pc, .slice ma mn mc, .int .i64 most'] W fun e w' => e = .returned (.bool true) ∧ ∃ q, w' = W.drewN q := fun most' hm =>
        same_true W Y.heap.size Y.heap.size w2.heap.size w2.heap.size pv mv (.slice pa AG.length pc) (.slice ma mn mc) (AG.map Prod.fst) (AG.map Prod.snd) pre.length most' (by rw [lf, ls]) (by omega) (by rw [lf]; exact hm) (by omega)
          (by rw [← List.map_take, ← tk]; exact tb.rp) (by rw [← List.map_take, ← tk]; exact tb.rm) rpW rmW
      have SM := hide hM
      have kw : IntKind.i64.wrap ((ρ : Int) + 1) = ((ρ + 1 : Nat) : Int) := by rw [IntKind.wrap_i64]; omega
      have NXT : Hid (∀ (V : World) (q : Nat), V = W.drewN q → (Calls Try.prog 11 #[.pointer (some ⟨w2.heap.size, 0, none⟩)] V fun e w' => e = .returned (.bool true) ∧ ∃ q, w' = V.drewN q) ∧ V.cell? ⟨k, 0, none⟩ = some (.int .i64 (ρ : Int))) := fun V q e => by
        subst e
        have nv := nrW.below (bel_drewN (Below.refl _ _) q)
        exact ⟨kept_any _ _ _ _ _ _ _ _ _ _ nv.ns.nb.lent, nv.bk.cell⟩
      have FIN : Hid (∀ (V : World), Below W.heap.size W V → V.heap[D]? = some (.deferred (some [])) → NR w w2 (mkP w w2 bn gf cf gw cw Ba Bb s0 m0 p0 at_ most) F (.slice pa AG.length pc) (.slice ma mn mc) V.heap.size (ρ + 1) (D :: Ds) (V.alloc (.cells #[.int .i64 ((ρ + 1 : Nat) : Int)] 3))) := fun V bV hV => (unhide NR1).next (bYW.trans (bV.mono bYW.size)) hV (by omega)
      have HD := hide hd
      have HCS := hide hcs
      clear nrW rpW rmW tb bYW hM tk hpf hcs hd tb0 SEQ lf ls
      gi_upto_if 106 with fail
      gi_cut [23] from 24 (fun v wc => v = .bool true ∧ ∃ q, wc = W.drewN q)
      case first =>
        by_cases h0 : ρ = 0
        · have h0I : ((ρ : Int) == 0) = true := by rw [h0]; rfl
          have cs := unhide SM most (by
            rcases unhide HCS with ⟨e, _⟩ | ⟨e1, e2⟩
            · exact .inl e.symm
            · exact .inr ⟨e1, e2 h0⟩)
          clear h0
          gi_wp2_with fail
          refine ⟨trivial, ?_⟩
          refine (callsIn_wide.2 cs).mono ?_
          rintro e w' ⟨rfl, q, hw'⟩
          clear cs c1 c2 c3 c4 ck cmo
          gi_wp2_with fail
          gi_meet
          exact ⟨rfl, q, by first | rfl | exact hw'⟩
        · have h0I : ((ρ : Int) == 0) = false := by rw [beq_eq_false_iff_ne]; omega
          have cs := unhide SM (AG.length : Int) (by
            rcases unhide HCS with ⟨_, e⟩ | ⟨e1, _⟩
            · exact absurd e h0
            · exact .inl (by rw [e1]))
          clear h0
          gi_wp2_with fail
          refine ⟨trivial, ?_⟩
          refine (callsIn_wide.2 cs).mono ?_
          rintro e w' ⟨rfl, q, hw'⟩
          clear cs c1 c2 c3 c4 ck cmo
          gi_wp2_with fail
          gi_meet
          exact ⟨rfl, q, by first | rfl | exact hw'⟩
      case rest =>
      obtain ⟨h23, q, hwc⟩ := hcut
      subst h23
      obtain ⟨kc, ckv⟩ := unhide NXT _ q hwc
      have bW : Below W.heap.size W wc := by rw [hwc]; exact bel_drewN (Below.refl _ _) q
      have hd1 : wc.heap[D]? = some (.deferred (some [])) := by rw [hwc]; exact unhide HD
      have HB := hide (And.intro bW hd1)
      clear hwc bW hd1 c1 c2 c3 c4 ck cmo NXT SM HCS
      gi_wp2_with fail
      refine ⟨trivial, ?_⟩
      refine (callsIn_wide.2 kc).mono ?_
      rintro e V2 ⟨rfl, q2, hV2⟩
      have ck2 : V2.cell? ⟨k, 0, none⟩ = some (.int .i64 (ρ : Int)) := by rw [hV2]; exact ckv
      have E := hide (unhide FIN V2 (by rw [hV2]; exact bel_drewN (unhide HB).1 q2) (by rw [hV2]; exact (unhide HB).2))
      clear kc ckv hV2 HB FIN
      gi_wp2_with fail
      refine ⟨m - 1, by omega, ?_⟩
      unfold AI
      exact ⟨ρ + 1, V2.heap.size, F, pa, ma, AG.length, pc, mn, mc, D :: Ds, _, _, _, _, _, _, _, _, _, _, _, _, _, _, _, _, _, _, _, _, _, _, _, _, _, _, _, _, _, _, _, _, _, _, _, _, _, _, _, _, _, _, _, _, _, _, _, _, _, _, _, _, _, _, _, _, _, _, _, _, _, _, _, _, _, _, _, _, _, _, _, _, _, _, _, _, _, _, _, _, _, _, _, _, _, _, _, _, _, _, _, _, _, _, _, _, _, _, _, _, _, _, _, _, _, _, _, _, _, _, _, _, _, _, _, by omega, rfl, E⟩
  · obtain rfl : ρ = 4 := by omega
    obtain ⟨D4, D3, D2, D1, hDs⟩ : ∃ D4 D3 D2 D1, Ds = [D4, D3, D2, D1] := by
      have := nr.len
      match Ds, this with
      | [D4, D3, D2, D1], _ => exact ⟨D4, D3, D2, D1, rfl⟩
    subst hDs
    have cr := nr.ns.nb.br.cell
    have fr := nr.ns.nb.br.frozen
    have FIN := hide nr.ends
    clear nr NRX
    gi_wp2_with fail
    obtain ⟨f1, f2, f3, f4, f5, f6⟩ := unhide FIN
    refine ⟨by simp, .inl ⟨_, _, rfl, run_takeDeferred f1, ?_⟩⟩
    refine ⟨by simp, .inl ⟨_, _, rfl, run_takeDeferred f2, ?_⟩⟩
    refine ⟨by simp, .inl ⟨_, _, rfl, run_takeDeferred f3, ?_⟩⟩
    refine ⟨by simp, .inl ⟨_, _, rfl, run_takeDeferred f4, ?_⟩⟩
    refine ⟨.bool true, ?_, rfl, f6⟩
    simp [results, Try.f3, go_sem, f5]
end Go.Proofs.Ytihhgminbmngcaa
