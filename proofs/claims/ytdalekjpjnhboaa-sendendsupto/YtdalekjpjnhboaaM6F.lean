/- S6F, one text. -/
import Derived.Test.YtdalekjpjnhboaaM6A
import Derived.Deep.RegionHeld3
import Derived.BigQuiet
namespace Go.Proofs.Ytdalekjpjnhboaa
open Go.RowKit
set_option linter.unusedVariables false
set_option maxHeartbeats 4000000
set_option maxRecDepth 100000

section
variable {w : World} {bb b bg : Nat} {ta : Option Addr} {tc : Nat} {pv : Value} {X Y : World} {B B' : Bk} {cap : Int}

theorem fin_feed (h : BM w bb b bg ta tc pv X B) (he : B.S.ended = false) (hs : B.S.stopped = false) :
    Calls Try.prog 20 #[ptr b] (X.setCell ⟨bb, 3, none⟩ (.bool true)) fun e W' => e = .returned (.int .i64 0) ∧ BM w bb b bg ta tc pv W' (feedF B) := by
  have h3 : BM w bb b bg ta tc pv (X.setCell ⟨bb, 3, none⟩ (.bool true)) { B with ended := true } := h.put 3 _ rfl rfl rfl rfl rfl
  obtain ⟨M, ba, bl, vh, hA, hM, n1, n2, n3⟩ := h3.at_
  have hf := fin_at hA
  rw [if_neg (by show ¬ (B.S.ended = true ∨ B.S.stopped = true); rw [he, hs]; simp), if_neg (by show ¬ (B.S.ended = true ∨ B.S.stopped = true); rw [he, hs]; simp)] at hf
  refine hf.mono ?_
  rintro e Y ⟨rfl, vh', hq⟩
  exact ⟨rfl, h3.call hM n1 n2 n3 hq⟩

theorem feed_any (h : BM w bb b bg ta tc pv X B) (hok : BkOk cap B) (hT : B.T.length ≤ 1048576) (may : Bool) :
    Calls Try.prog 12 #[ptr bb, .int .i64 cap, .bool may] X fun e Y => e = .returned (.bool true) ∧ BM w bb b bg ta tc pv Y (feedB cap may B) := by
  obtain ⟨c0, c1, c2, c3, c4, c5, c6⟩ := h.cells
  obtain ⟨M, ba, bl, vh, hA, -, -, -, -⟩ := h.at_
  have hwr := hok.wr
  have hpl := hok.pl
  have hb0 := hok.ok.b0; have hbs := hok.ok.bs; have hsw := hok.ok.sw; have hwc := hok.ok.wc; have hcp := hok.ok.cap; have hcc := hok.cap
  have hv := view_at hA hok.ok (by omega)
  have H := hide h
  clear h hA c1 c2 c3 c4 c5 c6
  go_enter Try.func12, Try.ntmps12
  go_wp2_with fail
  refine hv.mono ?_
  rintro e Y1 ⟨va, vl, rfl, r1, r2, f1, f2, d12, gv⟩
  obtain ⟨a3, k3, rfl, -⟩ := r1.shape
  obtain ⟨a4, k4, rfl, -⟩ := r2.shape
  obtain ⟨Y2, hY2⟩ : ∃ Y2, Y2 = Y1.alloc (.cells (viewC B.S (.slice a3 B.S.A.length k3) (.slice a4 B.S.L.length k4)) 36) := ⟨_, rfl⟩
  have gY2 : Y1.grownBy Y2 none := by rw [hY2]; exact grown_alloc _ _
  have h2 := (unhide H).grown (grown_trans gv gY2)
  have bv : Blk Y2 Y1.heap.size (viewC B.S (.slice a3 B.S.A.length k3) (.slice a4 B.S.L.length k4)) 36 := by rw [hY2]; exact Blk.new _ _ _
  clear r1 r2 f1 f2 d12 gv hv c0 gY2 H
  have H2 := hide h2
  have BV := hide bv
  clear h2 bv
  unfold viewC at hY2 ⊢
  rw [hwr] at hY2
  go_upto_region 2 with fail
  rw [← hY2]
  have h2 := unhide H2
  have bv := unhide BV
  have m0 : Y2.cell? ⟨Y1.heap.size, 0, none⟩ = some (.int .i64 (wr B.S)) := bv.cell 0 _ rfl
  have m2 : Y2.cell? ⟨Y1.heap.size, 2, none⟩ = some (.int .i64 B.S.base) := bv.cell 2 _ rfl
  obtain ⟨c0, c1, c2, c3, -, -, -⟩ := h2.cells
  obtain ⟨M, ba, bl, vh, hA, hM, nm1, nm2, nm3⟩ := h2.at_
  have HM := hide hM
  have NM := hide (And.intro nm1 (And.intro nm2 nm3))
  have HA := hide hA
  generalize Y1.heap.size = bvk at *
  clear hY2 BV bv h2 hA hM nm1 nm2 nm3
  obtain ⟨n1, n2, n3, n4⟩ := feedN_le hok
  rw [hwr] at m0 hsw hwc
  have HOK := hide hok
  have hen := hok.en
  have hst := hok.st
  have hxp : B.S.base ≤ (B.put : Int) := by omega
  rw [hcc] at hcp hwc
  have HFN : Hid (∀ P : Nat → Prop, P (feedN cap B) → ∀ n, n = feedN cap B → P n) := fun P hP n e => e ▸ hP
  obtain ⟨n, hn⟩ : ∃ n, n = feedN cap B := ⟨_, rfl⟩
  rw [← hn] at n1 n3 n4
  have HN := hide hn
  have HWR := hide hwr
  have HCC := hide hcc
  have HST := hide hst
  have HEN := hide hen
  clear hok hbs hsw hn hwr hcc hst hen
  generalize hNL : B.T.length = N at *
  generalize hPU : B.put = p at *
  generalize hBA : B.S.base = x at *
  have HNL := hide hNL
  have HPU := hide hPU
  have HBA := hide hBA
  clear hNL hPU hBA
  have tcap : N ≤ tc ∧ tc ≤ 9223372036854775807 := by have := (unhide H2).tx.cap; rw [unhide HNL] at this; exact this
  have POSTW : Hid (∀ Y vh', At Y2 M b ba bl vh' Y (writeG B.S ((B.T.drop p).take n)) → BM w bb b bg ta tc pv Y { B with S := writeG B.S ((B.T.drop p).take n) } ∧ Y.cell? ⟨bb, 0, none⟩ = some (ptr b) ∧ Y.cell? ⟨bb, 1, none⟩ = some (.slice ta N tc) ∧ Y.cell? ⟨bb, 2, none⟩ = some (.int .i64 p)) := fun Y vh' hq => by
    have hb := (unhide H2).call (unhide HM) (unhide NM).1 (unhide NM).2.1 (unhide NM).2.2 hq
    obtain ⟨y0, y1, y2, -⟩ := hb.cells
    have e1 : B.T.length = N := unhide HNL
    have e2 : B.put = p := unhide HPU
    simp only [e1, e2] at y1 y2
    exact ⟨hb, y0, y1, y2⟩
  have hn0 : ¬ (n : Int) < 0 := by omega
  have hn0d : decide ((n : Int) < 0) = false := decide_eq_false hn0
  have hroom : (∃ r : Int, cap - (p - x) = r ∧ (n : Int) < r ∧ (N : Int) - p = n) ∨ (cap - (p - x) = (n : Int) ∧ ∃ r : Int, (N : Int) - p = r ∧ ¬ r < (n : Int)) := by
    by_cases hr : (N : Int) - p < cap - (p - x)
    · exact .inl ⟨_, rfl, by omega, by omega⟩
    · exact .inr ⟨by omega, _, rfl, by omega⟩
  clear n1 n2 hwc
  cases hend : B.ended with
  | true =>
    rw [hend] at c3
    have FINT : Hid (∀ Z, Y2.grownBy Z none → BM w bb b bg ta tc pv Z (feedB cap may B)) := fun Z g => by
      have : feedB cap may B = B := by unfold feedB; rw [if_pos hend]
      rw [this]
      exact (unhide H2).grown g
    clear hend
    rcases hroom with ⟨r, k1, k2, k3⟩ | ⟨k1, r, k2, k3⟩
    · have k2d : decide ((n : Int) < r) = true := decide_eq_true k2
      go_wp2
      go_quiet (fail)
      go_wp2
      go_quiet (fail)
      go_wp2
      go_quiet (fail)
      go_wp2
      go_ret
      exact ⟨rfl, unhide FINT _ (grown_drewN _ _)⟩
    · have k3d : decide (r < (n : Int)) = false := decide_eq_false k3
      go_wp2
      go_quiet (fail)
      go_wp2
      go_quiet (fail)
      go_wp2
      go_ret
      exact ⟨rfl, unhide FINT _ (grown_drewN _ _)⟩
  | false =>
    rw [hend] at c3
    have hgr := (unhide H2).gr
    have hE : writeE B.S n = 0 := by
      unfold writeE
      rw [if_neg (by rw [unhide HEN, unhide HST, hend]; simp), if_neg (by rw [unhide HCC, unhide HWR, unhide HBA]; omega)]
    have hlen : ((B.T.drop p).take n).length = n := by rw [List.length_take, List.length_drop, unhide HNL]; omega
    have hS : writeS B.S ((B.T.drop p).take n) = writeG B.S ((B.T.drop p).take n) := by unfold writeS; rw [hlen, if_pos hE]
    have hwrite : ∀ a' pc Z, Y2.grownBy Z none → Rd Z a' ((B.T.drop p).take n) → Out Y2 M a' ((B.T.drop p).take n) → n ≤ pc → pc ≤ 9223372036854775807 → Calls Try.prog 19 #[ptr b, .slice a' n pc] Z fun e W' => e = .returned (.int .i64 0) ∧ ∃ vh', At Y2 M b ba bl vh' W' (writeG B.S ((B.T.drop p).take n)) := fun a' pc Z g hr ho h1 h2 => by
      have := write_at ((unhide HA).grown g) (unhide HOK).ok a' n pc ((B.T.drop p).take n) hr ho hlen ⟨h1, h2⟩ (by omega) (by rw [unhide HWR]; omega)
      rw [hE, hS] at this
      exact this
    have FIN : Hid (∀ Y3, BM w bb b bg ta tc pv Y3 { B with S := writeG B.S ((B.T.drop p).take n) } → BM w bb b bg ta tc pv (Y3.setCell ⟨bb, 2, none⟩ (.int .i64 ((p + n : Nat) : Int))) (feedW cap B) ∧ Y3.frozen? ⟨bb, 2, none⟩ = false) := fun Y3 hb => by
      refine ⟨hb.put 2 _ ?_ ?_ rfl rfl rfl, hb.blk.thaw 2⟩
      · unfold feedW bkc
        rw [← unhide HN, unhide HPU]
        simp
      · unfold feedW
        rw [← unhide HN, unhide HPU]
    have FB : Hid (feedB cap may B = if p + n < N ∨ may = false then feedW cap B else feedF (feedW cap B)) := by
      unfold feedB
      rw [if_neg (by rw [hend]; simp), ← unhide HN, unhide HPU, unhide HNL]
      rfl
    have HE2 := hide hend
    have TB := hide (unhide H2).tx
    clear hend hE hS hgr
    obtain ⟨E, hE⟩ : ∃ E, E = p + n := ⟨_, rfl⟩
    have hpn : (p : Int) + (n : Int) = (E : Int) := by omega
    have hEp : E - p = n := by omega
    have s1 : (0 : Int) ≤ (p : Int) := by omega
    have s2 : (0 : Int) ≤ (E : Int) := by omega
    have s3 : (p : Int) ≤ (E : Int) := by omega
    have s4 : (E : Int) ≤ (tc : Int) := by omega
    have s5 : p ≤ E := by omega
    have s6 : E ≤ tc := by omega
    have s7 : IntKind.i64.wrap (E : Int) = (E : Int) := by rw [IntKind.wrap_i64]; omega
    by_cases hz : n = 0
    · have hl0 : (B.T.drop p).take n = [] := by rw [hz]; simp
      have hw1 : ∀ a' (pc : Nat), pc ≤ 9223372036854775807 → ∀ q, Calls Try.prog 19 #[ptr b, .slice a' (E - p) pc] (Y2.drewN q) fun e W' => e = .returned (.int .i64 0) ∧ ∃ vh', At Y2 M b ba bl vh' W' (writeG B.S ((B.T.drop p).take n)) := fun a' pc hpc q => by
        rw [hEp]
        exact hwrite a' pc _ (grown_drewN _ _) (by rw [hl0]; exact rd_nil _ _) (fun hne => absurd hl0 hne) (by omega) hpc
      have hw0 : ∀ a' q, Calls Try.prog 19 #[ptr b, .slice a' 0 0] (Y2.drewN q) fun e W' => e = .returned (.int .i64 0) ∧ ∃ vh', At Y2 M b ba bl vh' W' (writeG B.S ((B.T.drop p).take n)) := fun a' q => by
        have h := hwrite a' 0 (Y2.drewN q) (grown_drewN _ _) (by rw [hl0]; exact rd_nil _ _) (fun hne => absurd hl0 hne) (by omega) (by omega)
        have e : Value.slice a' n 0 = .slice a' 0 0 := by rw [hz]
        rw [e] at h
        exact h
      have HE := hide hE
      clear hwrite hlen hE hEp hl0 hz
      rcases (unhide TB).at_ with ⟨rfl, -, -⟩ | ⟨ad, rfl, -⟩
      · clear TB
        rcases hroom with ⟨r, k1, k2, k3⟩ | ⟨k1, r, k2, k3⟩
        · have k2d : decide ((n : Int) < r) = true := decide_eq_true k2
          go_wp2
          go_quiet (fail)
          go_wp2
          go_quiet (fail)
          go_wp2
          go_quiet (fail)
          go_wp2_with fail
          go_region_held3 (fun Z => Z.cell? ⟨bb, 0, none⟩ = some (ptr b) ∧ Z.cell? ⟨bb, 1, none⟩ = some (.slice none N tc) ∧ Z.cell? ⟨bb, 2, none⟩ = some (.int .i64 p)) (go_keep) (first | (go_at_call 19; refine (hw1 _ _ (by omega) _).mono ?_; rintro e Y3 ⟨rfl, vh', hq⟩; obtain ⟨hb, y0, y1, y2⟩ := unhide POSTW Y3 vh' hq))
          obtain ⟨hb2, fz⟩ := unhide FIN Y3 hb
          rw [← unhide HE] at hb2
          obtain ⟨Y4, hY4⟩ : ∃ Y4, Y4 = Y3.setCell ⟨bb, 2, none⟩ (.int .i64 (E : Int)) := ⟨_, rfl⟩
          rw [← hY4] at hb2
          have HB2 := hide hb2
          clear hb hq hw1 hw0 POSTW FIN hb2 c0 c1 c2 c3 m0 m2
          go_upto_region 11 with fail
          rw [← hY4]
          clear hY4 y0 y1 y2 fz
          obtain ⟨z0, z1, z2, z3, -⟩ := (unhide HB2).cells
          have eT : (feedW cap B).T.length = N := unhide HNL
          have eP : (feedW cap B).put = E := by rw [unhide HE]; show B.put + feedN cap B = p + n; rw [← unhide HN, unhide HPU]
          rw [eT] at z1
          rw [eP] at z2
          have fz3 := (unhide HB2).blk.thaw 3
          clear eT eP s1 s2 s3 s4 s5 s6 s7 hpn k1 k2 k3 k2d
          by_cases hlt : E < N
          · have hl1 : (E : Int) < (N : Int) := by omega
            have hl2 : decide ((E : Int) < (N : Int)) = true := decide_eq_true hl1
            have FF : Hid (∀ q, BM w bb b bg none tc pv (Y4.drewN q) (feedB cap may B)) := fun q => by
              rw [unhide FB, if_pos (.inl (by rw [← unhide HE]; exact hlt))]
              exact (unhide HB2).grown (grown_drewN _ _)
            clear FB
            go_quiet (fail)
            go_wp2
            go_ret
            exact ⟨rfl, unhide FF _⟩
          · have hl1 : ¬ (E : Int) < (N : Int) := by omega
            have hl2 : decide ((E : Int) < (N : Int)) = false := decide_eq_false hl1
            cases may with
            | false =>
              have FF : Hid (∀ q, BM w bb b bg none tc pv (Y4.drewN q) (feedB cap false B)) := fun q => by
                rw [unhide FB, if_pos (.inr rfl)]
                exact (unhide HB2).grown (grown_drewN _ _)
              clear FB
              go_quiet (fail)
              go_wp2
              go_ret
              exact ⟨rfl, unhide FF _⟩
            | true =>
              have FF : ∀ q, Calls Try.prog 20 #[ptr b] ((Y4.drewN q).setCell ⟨bb, 3, none⟩ (.bool true)) (fun e W' => e = .returned (.int .i64 0) ∧ BM w bb b bg none tc pv W' (feedB cap true B)) := fun q => by
                rw [unhide FB, if_neg (by rw [← unhide HE]; simp; omega)]
                exact fin_feed ((unhide HB2).grown (grown_drewN _ q)) (by show B.S.ended = false; rw [unhide HEN]; exact unhide HE2) (unhide HST)
              have z0' : ∀ q, ((Y4.drewN q).setCell ⟨bb, 3, none⟩ (.bool true)).cell? ⟨bb, 0, none⟩ = some (ptr b) := fun q => by
                exact (((unhide HB2).grown (grown_drewN _ q)).blk.setC 3 (.bool true)).cell 0 _ rfl
              clear FB
              go_quiet (fail)
              go_wp2_with fail
              refine (FF _).mono ?_
              rintro e Y5 ⟨rfl, hb5⟩
              have HB5 := hide hb5
              clear FF hb5 z0 z1 z2 z3 z0'
              go_wp2
              go_ret
              exact ⟨rfl, unhide HB5⟩
        · have k3d : decide (r < (n : Int)) = false := decide_eq_false k3
          go_wp2
          go_quiet (fail)
          go_wp2
          go_quiet (fail)
          go_wp2_with fail
          go_region_held3 (fun Z => Z.cell? ⟨bb, 0, none⟩ = some (ptr b) ∧ Z.cell? ⟨bb, 1, none⟩ = some (.slice none N tc) ∧ Z.cell? ⟨bb, 2, none⟩ = some (.int .i64 p)) (go_keep) (first | (go_at_call 19; refine (hw1 _ _ (by omega) _).mono ?_; rintro e Y3 ⟨rfl, vh', hq⟩; obtain ⟨hb, y0, y1, y2⟩ := unhide POSTW Y3 vh' hq))
          obtain ⟨hb2, fz⟩ := unhide FIN Y3 hb
          rw [← unhide HE] at hb2
          obtain ⟨Y4, hY4⟩ : ∃ Y4, Y4 = Y3.setCell ⟨bb, 2, none⟩ (.int .i64 (E : Int)) := ⟨_, rfl⟩
          rw [← hY4] at hb2
          have HB2 := hide hb2
          clear hb hq hw1 hw0 POSTW FIN hb2 c0 c1 c2 c3 m0 m2
          go_upto_region 11 with fail
          rw [← hY4]
          clear hY4 y0 y1 y2 fz
          obtain ⟨z0, z1, z2, z3, -⟩ := (unhide HB2).cells
          have eT : (feedW cap B).T.length = N := unhide HNL
          have eP : (feedW cap B).put = E := by rw [unhide HE]; show B.put + feedN cap B = p + n; rw [← unhide HN, unhide HPU]
          rw [eT] at z1
          rw [eP] at z2
          have fz3 := (unhide HB2).blk.thaw 3
          clear eT eP s1 s2 s3 s4 s5 s6 s7 hpn k1 k2 k3 k3d
          by_cases hlt : E < N
          · have hl1 : (E : Int) < (N : Int) := by omega
            have hl2 : decide ((E : Int) < (N : Int)) = true := decide_eq_true hl1
            have FF : Hid (∀ q, BM w bb b bg none tc pv (Y4.drewN q) (feedB cap may B)) := fun q => by
              rw [unhide FB, if_pos (.inl (by rw [← unhide HE]; exact hlt))]
              exact (unhide HB2).grown (grown_drewN _ _)
            clear FB
            go_quiet (fail)
            go_wp2
            go_ret
            exact ⟨rfl, unhide FF _⟩
          · have hl1 : ¬ (E : Int) < (N : Int) := by omega
            have hl2 : decide ((E : Int) < (N : Int)) = false := decide_eq_false hl1
            cases may with
            | false =>
              have FF : Hid (∀ q, BM w bb b bg none tc pv (Y4.drewN q) (feedB cap false B)) := fun q => by
                rw [unhide FB, if_pos (.inr rfl)]
                exact (unhide HB2).grown (grown_drewN _ _)
              clear FB
              go_quiet (fail)
              go_wp2
              go_ret
              exact ⟨rfl, unhide FF _⟩
            | true =>
              have FF : ∀ q, Calls Try.prog 20 #[ptr b] ((Y4.drewN q).setCell ⟨bb, 3, none⟩ (.bool true)) (fun e W' => e = .returned (.int .i64 0) ∧ BM w bb b bg none tc pv W' (feedB cap true B)) := fun q => by
                rw [unhide FB, if_neg (by rw [← unhide HE]; simp; omega)]
                exact fin_feed ((unhide HB2).grown (grown_drewN _ q)) (by show B.S.ended = false; rw [unhide HEN]; exact unhide HE2) (unhide HST)
              have z0' : ∀ q, ((Y4.drewN q).setCell ⟨bb, 3, none⟩ (.bool true)).cell? ⟨bb, 0, none⟩ = some (ptr b) := fun q => by
                exact (((unhide HB2).grown (grown_drewN _ q)).blk.setC 3 (.bool true)).cell 0 _ rfl
              clear FB
              go_quiet (fail)
              go_wp2_with fail
              refine (FF _).mono ?_
              rintro e Y5 ⟨rfl, hb5⟩
              have HB5 := hide hb5
              clear FF hb5 z0 z1 z2 z3 z0'
              go_wp2
              go_ret
              exact ⟨rfl, unhide HB5⟩
      · clear TB
        by_cases hck : tc = p
        · subst hck
          rcases hroom with ⟨r, k1, k2, k3⟩ | ⟨k1, r, k2, k3⟩
          · have k2d : decide ((n : Int) < r) = true := decide_eq_true k2
            go_wp2
            go_quiet (fail)
            go_wp2
            go_quiet (fail)
            go_wp2
            go_quiet (fail)
            go_wp2_with fail
            go_region_held3 (fun Z => Z.cell? ⟨bb, 0, none⟩ = some (ptr b) ∧ Z.cell? ⟨bb, 1, none⟩ = some (.slice (some ad) N tc) ∧ Z.cell? ⟨bb, 2, none⟩ = some (.int .i64 tc)) (go_keep) (first | (go_at_call 19; refine (hw0 _ _).mono ?_; rintro e Y3 ⟨rfl, vh', hq⟩; obtain ⟨hb, y0, y1, y2⟩ := unhide POSTW Y3 vh' hq))
            obtain ⟨hb2, fz⟩ := unhide FIN Y3 hb
            rw [← unhide HE] at hb2
            obtain ⟨Y4, hY4⟩ : ∃ Y4, Y4 = Y3.setCell ⟨bb, 2, none⟩ (.int .i64 (E : Int)) := ⟨_, rfl⟩
            rw [← hY4] at hb2
            have HB2 := hide hb2
            clear hb hq hw1 hw0 POSTW FIN hb2 c0 c1 c2 c3 m0 m2
            go_upto_region 11 with fail
            rw [← hY4]
            clear hY4 y0 y1 y2 fz
            obtain ⟨z0, z1, z2, z3, -⟩ := (unhide HB2).cells
            have eT : (feedW cap B).T.length = N := unhide HNL
            have eP : (feedW cap B).put = E := by rw [unhide HE]; show B.put + feedN cap B = tc + n; rw [← unhide HN, unhide HPU]
            rw [eT] at z1
            rw [eP] at z2
            have fz3 := (unhide HB2).blk.thaw 3
            clear eT eP s1 s2 s3 s4 s5 s6 s7 hpn k1 k2 k3 k2d
            by_cases hlt : E < N
            · have hl1 : (E : Int) < (N : Int) := by omega
              have hl2 : decide ((E : Int) < (N : Int)) = true := decide_eq_true hl1
              have FF : Hid (∀ q, BM w bb b bg (some ad) tc pv (Y4.drewN q) (feedB cap may B)) := fun q => by
                rw [unhide FB, if_pos (.inl (by rw [← unhide HE]; exact hlt))]
                exact (unhide HB2).grown (grown_drewN _ _)
              clear FB
              go_quiet (fail)
              go_wp2
              go_ret
              exact ⟨rfl, unhide FF _⟩
            · have hl1 : ¬ (E : Int) < (N : Int) := by omega
              have hl2 : decide ((E : Int) < (N : Int)) = false := decide_eq_false hl1
              cases may with
              | false =>
                have FF : Hid (∀ q, BM w bb b bg (some ad) tc pv (Y4.drewN q) (feedB cap false B)) := fun q => by
                  rw [unhide FB, if_pos (.inr rfl)]
                  exact (unhide HB2).grown (grown_drewN _ _)
                clear FB
                go_quiet (fail)
                go_wp2
                go_ret
                exact ⟨rfl, unhide FF _⟩
              | true =>
                have FF : ∀ q, Calls Try.prog 20 #[ptr b] ((Y4.drewN q).setCell ⟨bb, 3, none⟩ (.bool true)) (fun e W' => e = .returned (.int .i64 0) ∧ BM w bb b bg (some ad) tc pv W' (feedB cap true B)) := fun q => by
                  rw [unhide FB, if_neg (by rw [← unhide HE]; simp; omega)]
                  exact fin_feed ((unhide HB2).grown (grown_drewN _ q)) (by show B.S.ended = false; rw [unhide HEN]; exact unhide HE2) (unhide HST)
                have z0' : ∀ q, ((Y4.drewN q).setCell ⟨bb, 3, none⟩ (.bool true)).cell? ⟨bb, 0, none⟩ = some (ptr b) := fun q => by
                  exact (((unhide HB2).grown (grown_drewN _ q)).blk.setC 3 (.bool true)).cell 0 _ rfl
                clear FB
                go_quiet (fail)
                go_wp2_with fail
                refine (FF _).mono ?_
                rintro e Y5 ⟨rfl, hb5⟩
                have HB5 := hide hb5
                clear FF hb5 z0 z1 z2 z3 z0'
                go_wp2
                go_ret
                exact ⟨rfl, unhide HB5⟩
          · have k3d : decide (r < (n : Int)) = false := decide_eq_false k3
            go_wp2
            go_quiet (fail)
            go_wp2
            go_quiet (fail)
            go_wp2_with fail
            go_region_held3 (fun Z => Z.cell? ⟨bb, 0, none⟩ = some (ptr b) ∧ Z.cell? ⟨bb, 1, none⟩ = some (.slice (some ad) N tc) ∧ Z.cell? ⟨bb, 2, none⟩ = some (.int .i64 tc)) (go_keep) (first | (go_at_call 19; refine (hw0 _ _).mono ?_; rintro e Y3 ⟨rfl, vh', hq⟩; obtain ⟨hb, y0, y1, y2⟩ := unhide POSTW Y3 vh' hq))
            obtain ⟨hb2, fz⟩ := unhide FIN Y3 hb
            rw [← unhide HE] at hb2
            obtain ⟨Y4, hY4⟩ : ∃ Y4, Y4 = Y3.setCell ⟨bb, 2, none⟩ (.int .i64 (E : Int)) := ⟨_, rfl⟩
            rw [← hY4] at hb2
            have HB2 := hide hb2
            clear hb hq hw1 hw0 POSTW FIN hb2 c0 c1 c2 c3 m0 m2
            go_upto_region 11 with fail
            rw [← hY4]
            clear hY4 y0 y1 y2 fz
            obtain ⟨z0, z1, z2, z3, -⟩ := (unhide HB2).cells
            have eT : (feedW cap B).T.length = N := unhide HNL
            have eP : (feedW cap B).put = E := by rw [unhide HE]; show B.put + feedN cap B = tc + n; rw [← unhide HN, unhide HPU]
            rw [eT] at z1
            rw [eP] at z2
            have fz3 := (unhide HB2).blk.thaw 3
            clear eT eP s1 s2 s3 s4 s5 s6 s7 hpn k1 k2 k3 k3d
            by_cases hlt : E < N
            · have hl1 : (E : Int) < (N : Int) := by omega
              have hl2 : decide ((E : Int) < (N : Int)) = true := decide_eq_true hl1
              have FF : Hid (∀ q, BM w bb b bg (some ad) tc pv (Y4.drewN q) (feedB cap may B)) := fun q => by
                rw [unhide FB, if_pos (.inl (by rw [← unhide HE]; exact hlt))]
                exact (unhide HB2).grown (grown_drewN _ _)
              clear FB
              go_quiet (fail)
              go_wp2
              go_ret
              exact ⟨rfl, unhide FF _⟩
            · have hl1 : ¬ (E : Int) < (N : Int) := by omega
              have hl2 : decide ((E : Int) < (N : Int)) = false := decide_eq_false hl1
              cases may with
              | false =>
                have FF : Hid (∀ q, BM w bb b bg (some ad) tc pv (Y4.drewN q) (feedB cap false B)) := fun q => by
                  rw [unhide FB, if_pos (.inr rfl)]
                  exact (unhide HB2).grown (grown_drewN _ _)
                clear FB
                go_quiet (fail)
                go_wp2
                go_ret
                exact ⟨rfl, unhide FF _⟩
              | true =>
                have FF : ∀ q, Calls Try.prog 20 #[ptr b] ((Y4.drewN q).setCell ⟨bb, 3, none⟩ (.bool true)) (fun e W' => e = .returned (.int .i64 0) ∧ BM w bb b bg (some ad) tc pv W' (feedB cap true B)) := fun q => by
                  rw [unhide FB, if_neg (by rw [← unhide HE]; simp; omega)]
                  exact fin_feed ((unhide HB2).grown (grown_drewN _ q)) (by show B.S.ended = false; rw [unhide HEN]; exact unhide HE2) (unhide HST)
                have z0' : ∀ q, ((Y4.drewN q).setCell ⟨bb, 3, none⟩ (.bool true)).cell? ⟨bb, 0, none⟩ = some (ptr b) := fun q => by
                  exact (((unhide HB2).grown (grown_drewN _ q)).blk.setC 3 (.bool true)).cell 0 _ rfl
                clear FB
                go_quiet (fail)
                go_wp2_with fail
                refine (FF _).mono ?_
                rintro e Y5 ⟨rfl, hb5⟩
                have HB5 := hide hb5
                clear FF hb5 z0 z1 z2 z3 z0'
                go_wp2
                go_ret
                exact ⟨rfl, unhide HB5⟩
        · have hcz : ¬ tc - p = 0 := by omega
          rcases hroom with ⟨r, k1, k2, k3⟩ | ⟨k1, r, k2, k3⟩
          · have k2d : decide ((n : Int) < r) = true := decide_eq_true k2
            go_wp2
            go_quiet (fail)
            go_wp2
            go_quiet (fail)
            go_wp2
            go_quiet (fail)
            go_wp2_with fail
            go_region_held3 (fun Z => Z.cell? ⟨bb, 0, none⟩ = some (ptr b) ∧ Z.cell? ⟨bb, 1, none⟩ = some (.slice (some ad) N tc) ∧ Z.cell? ⟨bb, 2, none⟩ = some (.int .i64 p)) (go_keep) (first | (go_at_call 19; refine (hw1 _ _ (by omega) _).mono ?_; rintro e Y3 ⟨rfl, vh', hq⟩; obtain ⟨hb, y0, y1, y2⟩ := unhide POSTW Y3 vh' hq))
            obtain ⟨hb2, fz⟩ := unhide FIN Y3 hb
            rw [← unhide HE] at hb2
            obtain ⟨Y4, hY4⟩ : ∃ Y4, Y4 = Y3.setCell ⟨bb, 2, none⟩ (.int .i64 (E : Int)) := ⟨_, rfl⟩
            rw [← hY4] at hb2
            have HB2 := hide hb2
            clear hb hq hw1 hw0 POSTW FIN hb2 c0 c1 c2 c3 m0 m2
            go_upto_region 11 with fail
            rw [← hY4]
            clear hY4 y0 y1 y2 fz
            obtain ⟨z0, z1, z2, z3, -⟩ := (unhide HB2).cells
            have eT : (feedW cap B).T.length = N := unhide HNL
            have eP : (feedW cap B).put = E := by rw [unhide HE]; show B.put + feedN cap B = p + n; rw [← unhide HN, unhide HPU]
            rw [eT] at z1
            rw [eP] at z2
            have fz3 := (unhide HB2).blk.thaw 3
            clear eT eP s1 s2 s3 s4 s5 s6 s7 hpn k1 k2 k3 k2d
            by_cases hlt : E < N
            · have hl1 : (E : Int) < (N : Int) := by omega
              have hl2 : decide ((E : Int) < (N : Int)) = true := decide_eq_true hl1
              have FF : Hid (∀ q, BM w bb b bg (some ad) tc pv (Y4.drewN q) (feedB cap may B)) := fun q => by
                rw [unhide FB, if_pos (.inl (by rw [← unhide HE]; exact hlt))]
                exact (unhide HB2).grown (grown_drewN _ _)
              clear FB
              go_quiet (fail)
              go_wp2
              go_ret
              exact ⟨rfl, unhide FF _⟩
            · have hl1 : ¬ (E : Int) < (N : Int) := by omega
              have hl2 : decide ((E : Int) < (N : Int)) = false := decide_eq_false hl1
              cases may with
              | false =>
                have FF : Hid (∀ q, BM w bb b bg (some ad) tc pv (Y4.drewN q) (feedB cap false B)) := fun q => by
                  rw [unhide FB, if_pos (.inr rfl)]
                  exact (unhide HB2).grown (grown_drewN _ _)
                clear FB
                go_quiet (fail)
                go_wp2
                go_ret
                exact ⟨rfl, unhide FF _⟩
              | true =>
                have FF : ∀ q, Calls Try.prog 20 #[ptr b] ((Y4.drewN q).setCell ⟨bb, 3, none⟩ (.bool true)) (fun e W' => e = .returned (.int .i64 0) ∧ BM w bb b bg (some ad) tc pv W' (feedB cap true B)) := fun q => by
                  rw [unhide FB, if_neg (by rw [← unhide HE]; simp; omega)]
                  exact fin_feed ((unhide HB2).grown (grown_drewN _ q)) (by show B.S.ended = false; rw [unhide HEN]; exact unhide HE2) (unhide HST)
                have z0' : ∀ q, ((Y4.drewN q).setCell ⟨bb, 3, none⟩ (.bool true)).cell? ⟨bb, 0, none⟩ = some (ptr b) := fun q => by
                  exact (((unhide HB2).grown (grown_drewN _ q)).blk.setC 3 (.bool true)).cell 0 _ rfl
                clear FB
                go_quiet (fail)
                go_wp2_with fail
                refine (FF _).mono ?_
                rintro e Y5 ⟨rfl, hb5⟩
                have HB5 := hide hb5
                clear FF hb5 z0 z1 z2 z3 z0'
                go_wp2
                go_ret
                exact ⟨rfl, unhide HB5⟩
          · have k3d : decide (r < (n : Int)) = false := decide_eq_false k3
            go_wp2
            go_quiet (fail)
            go_wp2
            go_quiet (fail)
            go_wp2_with fail
            go_region_held3 (fun Z => Z.cell? ⟨bb, 0, none⟩ = some (ptr b) ∧ Z.cell? ⟨bb, 1, none⟩ = some (.slice (some ad) N tc) ∧ Z.cell? ⟨bb, 2, none⟩ = some (.int .i64 p)) (go_keep) (first | (go_at_call 19; refine (hw1 _ _ (by omega) _).mono ?_; rintro e Y3 ⟨rfl, vh', hq⟩; obtain ⟨hb, y0, y1, y2⟩ := unhide POSTW Y3 vh' hq))
            obtain ⟨hb2, fz⟩ := unhide FIN Y3 hb
            rw [← unhide HE] at hb2
            obtain ⟨Y4, hY4⟩ : ∃ Y4, Y4 = Y3.setCell ⟨bb, 2, none⟩ (.int .i64 (E : Int)) := ⟨_, rfl⟩
            rw [← hY4] at hb2
            have HB2 := hide hb2
            clear hb hq hw1 hw0 POSTW FIN hb2 c0 c1 c2 c3 m0 m2
            go_upto_region 11 with fail
            rw [← hY4]
            clear hY4 y0 y1 y2 fz
            obtain ⟨z0, z1, z2, z3, -⟩ := (unhide HB2).cells
            have eT : (feedW cap B).T.length = N := unhide HNL
            have eP : (feedW cap B).put = E := by rw [unhide HE]; show B.put + feedN cap B = p + n; rw [← unhide HN, unhide HPU]
            rw [eT] at z1
            rw [eP] at z2
            have fz3 := (unhide HB2).blk.thaw 3
            clear eT eP s1 s2 s3 s4 s5 s6 s7 hpn k1 k2 k3 k3d
            by_cases hlt : E < N
            · have hl1 : (E : Int) < (N : Int) := by omega
              have hl2 : decide ((E : Int) < (N : Int)) = true := decide_eq_true hl1
              have FF : Hid (∀ q, BM w bb b bg (some ad) tc pv (Y4.drewN q) (feedB cap may B)) := fun q => by
                rw [unhide FB, if_pos (.inl (by rw [← unhide HE]; exact hlt))]
                exact (unhide HB2).grown (grown_drewN _ _)
              clear FB
              go_quiet (fail)
              go_wp2
              go_ret
              exact ⟨rfl, unhide FF _⟩
            · have hl1 : ¬ (E : Int) < (N : Int) := by omega
              have hl2 : decide ((E : Int) < (N : Int)) = false := decide_eq_false hl1
              cases may with
              | false =>
                have FF : Hid (∀ q, BM w bb b bg (some ad) tc pv (Y4.drewN q) (feedB cap false B)) := fun q => by
                  rw [unhide FB, if_pos (.inr rfl)]
                  exact (unhide HB2).grown (grown_drewN _ _)
                clear FB
                go_quiet (fail)
                go_wp2
                go_ret
                exact ⟨rfl, unhide FF _⟩
              | true =>
                have FF : ∀ q, Calls Try.prog 20 #[ptr b] ((Y4.drewN q).setCell ⟨bb, 3, none⟩ (.bool true)) (fun e W' => e = .returned (.int .i64 0) ∧ BM w bb b bg (some ad) tc pv W' (feedB cap true B)) := fun q => by
                  rw [unhide FB, if_neg (by rw [← unhide HE]; simp; omega)]
                  exact fin_feed ((unhide HB2).grown (grown_drewN _ q)) (by show B.S.ended = false; rw [unhide HEN]; exact unhide HE2) (unhide HST)
                have z0' : ∀ q, ((Y4.drewN q).setCell ⟨bb, 3, none⟩ (.bool true)).cell? ⟨bb, 0, none⟩ = some (ptr b) := fun q => by
                  exact (((unhide HB2).grown (grown_drewN _ q)).blk.setC 3 (.bool true)).cell 0 _ rfl
                clear FB
                go_quiet (fail)
                go_wp2_with fail
                refine (FF _).mono ?_
                rintro e Y5 ⟨rfl, hb5⟩
                have HB5 := hide hb5
                clear FF hb5 z0 z1 z2 z3 z0'
                go_wp2
                go_ret
                exact ⟨rfl, unhide HB5⟩
    · obtain ⟨tb, toff, rfl, htb, htc⟩ := (unhide TB).addr (by rw [unhide HNL]; omega)
      have hw1 : ∀ q, Calls Try.prog 19 #[ptr b, .slice (some ⟨tb, toff + p, none⟩) (E - p) (tc - p)] (Y2.drewN q) fun e W' => e = .returned (.int .i64 0) ∧ ∃ vh', At Y2 M b ba bl vh' W' (writeG B.S ((B.T.drop p).take n)) := fun q => by
        rw [hEp]
        exact hwrite _ _ _ (grown_drewN _ _) (TxIn.part (unhide TB).by_ htc (grown_trans (unhide H2).gr (grown_drewN _ _)) p n (by rw [unhide HNL]; omega)) (fun hne pb off e => by
          cases e
          exact ⟨fun q => by have := (unhide HM tb q).1; omega, Nat.lt_of_lt_of_le htb (unhide H2).gr.size⟩) (by omega) (by omega)
      have hck : ¬ tc = p := by omega
      have HE := hide hE
      clear hwrite hlen htc hE hEp
      rcases hroom with ⟨r, k1, k2, k3⟩ | ⟨k1, r, k2, k3⟩
      · have k2d : decide ((n : Int) < r) = true := decide_eq_true k2
        go_wp2
        go_quiet (fail)
        go_wp2
        go_quiet (fail)
        go_wp2
        go_quiet (fail)
        go_wp2_with fail
        go_region_held3 (fun Z => Z.cell? ⟨bb, 0, none⟩ = some (ptr b) ∧ Z.cell? ⟨bb, 1, none⟩ = some (.slice (some ⟨tb, toff, none⟩) N tc) ∧ Z.cell? ⟨bb, 2, none⟩ = some (.int .i64 p)) (go_keep) (first | (go_at_call 19; refine (hw1 _).mono ?_; rintro e Y3 ⟨rfl, vh', hq⟩; obtain ⟨hb, y0, y1, y2⟩ := unhide POSTW Y3 vh' hq))
        obtain ⟨hb2, fz⟩ := unhide FIN Y3 hb
        rw [← unhide HE] at hb2
        obtain ⟨Y4, hY4⟩ : ∃ Y4, Y4 = Y3.setCell ⟨bb, 2, none⟩ (.int .i64 (E : Int)) := ⟨_, rfl⟩
        rw [← hY4] at hb2
        have HB2 := hide hb2
        clear hb hq hw1 POSTW FIN hb2 c0 c1 c2 c3 m0 m2
        go_upto_region 11 with fail
        rw [← hY4]
        clear hY4 y0 y1 y2 fz
        obtain ⟨z0, z1, z2, z3, -⟩ := (unhide HB2).cells
        have eT : (feedW cap B).T.length = N := unhide HNL
        have eP : (feedW cap B).put = E := by rw [unhide HE]; show B.put + feedN cap B = p + n; rw [← unhide HN, unhide HPU]
        rw [eT] at z1
        rw [eP] at z2
        have fz3 := (unhide HB2).blk.thaw 3
        clear eT eP s1 s2 s3 s4 s5 s6 s7 hpn k1 k2 k3 k2d
        by_cases hlt : E < N
        · have hl1 : (E : Int) < (N : Int) := by omega
          have hl2 : decide ((E : Int) < (N : Int)) = true := decide_eq_true hl1
          have FF : Hid (∀ q, BM w bb b bg (some ⟨tb, toff, none⟩) tc pv (Y4.drewN q) (feedB cap may B)) := fun q => by
            rw [unhide FB, if_pos (.inl (by rw [← unhide HE]; exact hlt))]
            exact (unhide HB2).grown (grown_drewN _ _)
          clear FB
          go_quiet (fail)
          go_wp2
          go_ret
          exact ⟨rfl, unhide FF _⟩
        · have hl1 : ¬ (E : Int) < (N : Int) := by omega
          have hl2 : decide ((E : Int) < (N : Int)) = false := decide_eq_false hl1
          cases may with
          | false =>
            have FF : Hid (∀ q, BM w bb b bg (some ⟨tb, toff, none⟩) tc pv (Y4.drewN q) (feedB cap false B)) := fun q => by
              rw [unhide FB, if_pos (.inr rfl)]
              exact (unhide HB2).grown (grown_drewN _ _)
            clear FB
            go_quiet (fail)
            go_wp2
            go_ret
            exact ⟨rfl, unhide FF _⟩
          | true =>
            have FF : ∀ q, Calls Try.prog 20 #[ptr b] ((Y4.drewN q).setCell ⟨bb, 3, none⟩ (.bool true)) (fun e W' => e = .returned (.int .i64 0) ∧ BM w bb b bg (some ⟨tb, toff, none⟩) tc pv W' (feedB cap true B)) := fun q => by
              rw [unhide FB, if_neg (by rw [← unhide HE]; simp; omega)]
              exact fin_feed ((unhide HB2).grown (grown_drewN _ q)) (by show B.S.ended = false; rw [unhide HEN]; exact unhide HE2) (unhide HST)
            have z0' : ∀ q, ((Y4.drewN q).setCell ⟨bb, 3, none⟩ (.bool true)).cell? ⟨bb, 0, none⟩ = some (ptr b) := fun q => by
              exact (((unhide HB2).grown (grown_drewN _ q)).blk.setC 3 (.bool true)).cell 0 _ rfl
            clear FB
            go_quiet (fail)
            go_wp2_with fail
            refine (FF _).mono ?_
            rintro e Y5 ⟨rfl, hb5⟩
            have HB5 := hide hb5
            clear FF hb5 z0 z1 z2 z3 z0'
            go_wp2
            go_ret
            exact ⟨rfl, unhide HB5⟩
      · have k3d : decide (r < (n : Int)) = false := decide_eq_false k3
        go_wp2
        go_quiet (fail)
        go_wp2
        go_quiet (fail)
        go_wp2_with fail
        go_region_held3 (fun Z => Z.cell? ⟨bb, 0, none⟩ = some (ptr b) ∧ Z.cell? ⟨bb, 1, none⟩ = some (.slice (some ⟨tb, toff, none⟩) N tc) ∧ Z.cell? ⟨bb, 2, none⟩ = some (.int .i64 p)) (go_keep) (first | (go_at_call 19; refine (hw1 _).mono ?_; rintro e Y3 ⟨rfl, vh', hq⟩; obtain ⟨hb, y0, y1, y2⟩ := unhide POSTW Y3 vh' hq))
        obtain ⟨hb2, fz⟩ := unhide FIN Y3 hb
        rw [← unhide HE] at hb2
        obtain ⟨Y4, hY4⟩ : ∃ Y4, Y4 = Y3.setCell ⟨bb, 2, none⟩ (.int .i64 (E : Int)) := ⟨_, rfl⟩
        rw [← hY4] at hb2
        have HB2 := hide hb2
        clear hb hq hw1 POSTW FIN hb2 c0 c1 c2 c3 m0 m2
        go_upto_region 11 with fail
        rw [← hY4]
        clear hY4 y0 y1 y2 fz
        obtain ⟨z0, z1, z2, z3, -⟩ := (unhide HB2).cells
        have eT : (feedW cap B).T.length = N := unhide HNL
        have eP : (feedW cap B).put = E := by rw [unhide HE]; show B.put + feedN cap B = p + n; rw [← unhide HN, unhide HPU]
        rw [eT] at z1
        rw [eP] at z2
        have fz3 := (unhide HB2).blk.thaw 3
        clear eT eP s1 s2 s3 s4 s5 s6 s7 hpn k1 k2 k3 k3d
        by_cases hlt : E < N
        · have hl1 : (E : Int) < (N : Int) := by omega
          have hl2 : decide ((E : Int) < (N : Int)) = true := decide_eq_true hl1
          have FF : Hid (∀ q, BM w bb b bg (some ⟨tb, toff, none⟩) tc pv (Y4.drewN q) (feedB cap may B)) := fun q => by
            rw [unhide FB, if_pos (.inl (by rw [← unhide HE]; exact hlt))]
            exact (unhide HB2).grown (grown_drewN _ _)
          clear FB
          go_quiet (fail)
          go_wp2
          go_ret
          exact ⟨rfl, unhide FF _⟩
        · have hl1 : ¬ (E : Int) < (N : Int) := by omega
          have hl2 : decide ((E : Int) < (N : Int)) = false := decide_eq_false hl1
          cases may with
          | false =>
            have FF : Hid (∀ q, BM w bb b bg (some ⟨tb, toff, none⟩) tc pv (Y4.drewN q) (feedB cap false B)) := fun q => by
              rw [unhide FB, if_pos (.inr rfl)]
              exact (unhide HB2).grown (grown_drewN _ _)
            clear FB
            go_quiet (fail)
            go_wp2
            go_ret
            exact ⟨rfl, unhide FF _⟩
          | true =>
            have FF : ∀ q, Calls Try.prog 20 #[ptr b] ((Y4.drewN q).setCell ⟨bb, 3, none⟩ (.bool true)) (fun e W' => e = .returned (.int .i64 0) ∧ BM w bb b bg (some ⟨tb, toff, none⟩) tc pv W' (feedB cap true B)) := fun q => by
              rw [unhide FB, if_neg (by rw [← unhide HE]; simp; omega)]
              exact fin_feed ((unhide HB2).grown (grown_drewN _ q)) (by show B.S.ended = false; rw [unhide HEN]; exact unhide HE2) (unhide HST)
            have z0' : ∀ q, ((Y4.drewN q).setCell ⟨bb, 3, none⟩ (.bool true)).cell? ⟨bb, 0, none⟩ = some (ptr b) := fun q => by
              exact (((unhide HB2).grown (grown_drewN _ q)).blk.setC 3 (.bool true)).cell 0 _ rfl
            clear FB
            go_quiet (fail)
            go_wp2_with fail
            refine (FF _).mono ?_
            rintro e Y5 ⟨rfl, hb5⟩
            have HB5 := hide hb5
            clear FF hb5 z0 z1 z2 z3 z0'
            go_wp2
            go_ret
            exact ⟨rfl, unhide HB5⟩
end
end Go.Proofs.Ytdalekjpjnhboaa
