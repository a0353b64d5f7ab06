/- S6K, one text. -/
import Derived.Test.YtdalekjpjnhboaaM6A
import Derived.Deep.RegionHeld3
import Derived.BigQuiet
namespace Go.Proofs.Ytdalekjpjnhboaa
open Go.RowKit
set_option linter.unusedVariables false
set_option maxHeartbeats 4000000
set_option maxRecDepth 100000

section
variable {w : World} {bb b bg : Nat} {ta : Option Addr} {tc : Nat} {pv : Value} {X Y : World} {B B' : Bk} {cap : Int}

theorem piece_same {cap : Int} {B : Bk} (h : BkOk cap B) {f t : Int} (h0 : 0 ≤ f) (ht : t ≤ B.put) : pieceT B.S.T f t = (B.T.drop f.toNat).take (t - f).toNat := by
  unfold pieceT
  rw [h.T, List.drop_take, List.take_take]
  congr 1
  omega

theorem ask_no (h : BM w bb b bg ta tc pv X B) (hok : BkOk cap B) (hT : B.T.length ≤ 1048576) (most : Int) (hd : (dueS B.S most 4611686018427387904).2.2 = false) :
    Calls Try.prog 14 #[ptr bb, .int .i64 most] X fun e Y => e = .returned (.int .i64 0) ∧ BM w bb b bg ta tc pv Y B := by
  have hwr := hok.wr
  have hpl := hok.pl
  obtain ⟨M, ba, bl, vh, hA, hM, n1, n2, n3⟩ := h.at_
  have hn := next_any hA hok.ok (by omega) most 4611686018427387904 (by omega)
  have he : nextS B.S most 4611686018427387904 = B.S := by unfold nextS; rw [if_neg (by rw [hd]; simp)]
  unfold NextPost at hn
  rw [he, hd] at hn
  obtain ⟨c0, -, -, -, -, -, -⟩ := h.cells
  have POST : Hid (∀ Y, At X M b ba bl vh Y B.S → BM w bb b bg ta tc pv Y B) := fun Y hq => h.call hM n1 n2 n3 hq
  clear h hA hM n1 n2 n3
  generalize (dueS B.S most 4611686018427387904).1 = f at *
  generalize (dueS B.S most 4611686018427387904).2.1 = t at *
  go_enter Try.func14, Try.ntmps14
  go_wp2_with fail
  refine hn.mono ?_
  rintro e Y ⟨v, rfl, hq, hb, -, -⟩
  have h1 := unhide POST Y hq
  have H1 := hide h1
  clear hq hb h1 hn c0 POST
  go_wp2
  go_ret
  exact ⟨rfl, unhide H1⟩

theorem ask_yes (h : BM w bb b bg ta tc pv X B) (hok : BkOk cap B) (hT : B.T.length ≤ 1048576) (hP : B.P.length ≤ 10000000) (most : Int) (hm : 1 ≤ most ∧ most ≤ 40) (f t : Int) (hd : dueS B.S most 4611686018427387904 = (f, t, true)) :
    Calls Try.prog 14 #[ptr bb, .int .i64 most] X fun e Y => e = .returned (.int .i64 1) ∧ ∃ pv', BM w bb b bg ta tc pv' Y (askB B f t) := by
  have hwr := hok.wr
  have hpl := hok.pl
  obtain ⟨M, ba, bl, vh, hA, hM, n1, n2, n3⟩ := h.at_
  have hn := next_any hA hok.ok (by omega) most 4611686018427387904 (by omega)
  have he : nextS B.S most 4611686018427387904 = nextG B.S f t := by unfold nextS; rw [hd, if_pos rfl]
  have hdo := due_ok hok.ok hd
  obtain ⟨l1, l2, l3⟩ := due_le hok.ok hd hm.1 (by omega)
  have hb0 := hok.ok.b0
  have q1 := hdo.lo; have q2 := hdo.le; have q3 := hdo.hi
  unfold NextPost at hn
  rw [he, hd] at hn
  simp only [if_true, Bool.true_and] at hn
  rw [piece_same hok (by omega) (by omega)] at hn
  obtain ⟨c0, -, -, -, -, -, -⟩ := h.cells
  have POST : Hid (∀ Y, At X M b ba bl vh Y (nextG B.S f t) → BM w bb b bg ta tc pv Y { B with S := nextG B.S f t }) := fun Y hq => h.call hM n1 n2 n3 hq
  obtain ⟨F, hF⟩ : ∃ F : Nat, f = (F : Int) := ⟨f.toNat, by omega⟩
  obtain ⟨m, hm'⟩ : ∃ m : Nat, t - f = (m : Int) := ⟨(t - f).toNat, by omega⟩
  have eF : f.toNat = F := by omega
  have em : (t - f).toNat = m := by omega
  rw [eF, em] at hn
  have ht : t = ((F + m : Nat) : Int) := by omega
  have hlen : ((B.T.drop F).take m).length = m := by rw [List.length_take, List.length_drop]; omega
  have hend : endB B.S t = (B.ended && decide (t = (B.T.length : Int))) := by
    unfold endB
    rw [hok.en]
    cases hx : B.ended with
    | false => rfl
    | true => rw [hwr, hok.full hx]
  have hLB : ∀ x ∈ (B.T.drop F).take m, IsB x := fun x hx => h.tx.by_ x (List.mem_of_mem_drop (List.mem_of_mem_take hx))
  have htx := h.tx
  have hgrX := h.gr
  have APP : Hid (∀ Z, BM w bb b bg ta tc pv Z { B with S := nextG B.S f t } → ∃ a' k' c' W', (Builtin.append_ #[48, 48] 48 #[pv, .slice (some ⟨Z.heap.size, 0, none⟩) 1 1]).run Try.prog (Z.alloc (.cells (pca ⟨f, t - f, endB B.S t⟩) 57)) = .ok (.slice a' k' c') W' ∧ BM w bb b bg ta tc (.slice a' k' c') (W'.setCell ⟨bb, 6, none⟩ (.slice a' k' c')) (askB B f t) ∧ W'.frozen? ⟨bb, 6, none⟩ = false ∧ ∃ z, W'.cell? ⟨bb, 6, none⟩ = some z) := fun Z hb => by
    have hb1 := hb.grown (grown_alloc Z (.cells (pca ⟨f, t - f, endB B.S t⟩) 57))
    obtain ⟨pv', W', hr, hrow, hg, ho⟩ := pr_app w.heap.size _ pv B.P ⟨f, t - f, endB B.S t⟩ Z.heap.size 1 hb1.row hb1.gr.size (Blk.new _ _ _) (by omega)
    have hne : pv.ownBlock ≠ some bb := hb1.row.ne hb1.blk (by decide)
    have hbW : Blk W' bb _ _ := (hg.block bb hb1.blk.lt (fun e => hne e.symm)).trans hb1.blk
    obtain ⟨a', c', rfl, -⟩ := hrow.at
    exact ⟨a', _, c', W', hr, hb1.push hg hrow ho, hbW.thaw 6, _, hbW.cell 6 _ rfl⟩
  have ePc : (⟨f, t - f, endB B.S t⟩ : Pc) = ⟨(F : Int), (m : Int), endB B.S t⟩ := by rw [hm', hF]
  rw [ePc] at APP
  obtain ⟨EB, hEB⟩ : ∃ EB, EB = endB B.S t := ⟨_, rfl⟩
  rw [← hEB] at hn APP hend l3
  have HW := hide hwr
  have tcap := htx.cap
  have l3' : EB = false → 0 < m := fun e => by
    rcases l3 with q | ⟨q, -⟩
    · omega
    · rw [e] at q; cases q
  have hput : F + m ≤ B.put := by omega
  have hm40 : m ≤ 40 := by omega
  have hmm : (m : Int) ≤ most := by omega
  have HTX := hide htx
  have HLEN := hide hlen
  have HLB := hide hLB
  have HG := hide hgrX
  have HEB := hide hEB
  have HPE := hide ePc
  subst hF
  clear hok h hA hM n1 n2 n3 he hdo l1 l2 l3 q1 q2 q3 hb0 hwr htx hgrX hlen hLB hEB ePc hd hP eF em
  obtain ⟨E, hE⟩ : ∃ E, E = F + m := ⟨_, rfl⟩
  have hFE : (F : Int) + (m : Int) = (E : Int) := by omega
  have hEF : E - F = m := by omega
  have htE : t = (E : Int) := by omega
  rw [htE] at hend
  generalize hLL : (B.T.drop F).take m = L at *
  have HLL := hide hLL
  have hs : ((strOfNums L).toList == (strOfNums L).toList) = true := by simp
  have s0 : (0 : Int) ≤ (F : Int) := by omega
  have s1 : ¬ (F : Int) < 0 := by omega
  have s1d : decide ((F : Int) < 0) = false := decide_eq_false s1
  have s2 : ¬ (B.put : Int) < (E : Int) := by omega
  have s2d : decide ((B.put : Int) < (E : Int)) = false := decide_eq_false s2
  have s3 : ¬ most < (m : Int) := by omega
  have s3d : decide (most < (m : Int)) = false := decide_eq_false s3
  have s4 : F ≤ E := by omega
  have s5 : E ≤ tc := by omega
  have s6 : (F : Int) ≤ (E : Int) := by omega
  have s7 : (E : Int) ≤ (tc : Int) := by omega
  have s8 : IntKind.i64.wrap (E : Int) = (E : Int) := by rw [IntKind.wrap_i64]; omega
  have HE := hide hE
  have HEF := hide hEF
  clear hLL ht htE hE hEF hm'
  go_enter Try.func14, Try.ntmps14
  go_wp2_with fail
  refine hn.mono ?_
  rintro e Y ⟨v, rfl, hq, hbv, -, -⟩
  obtain ⟨a, c, rfl, hrd, hc1, hc2⟩ := hbv.ex
  have h1 := unhide POST Y hq
  obtain ⟨c0, c1, c2, c3, -⟩ := h1.cells
  simp only at c1 c2 c3
  rw [unhide HLEN] at hc1 ⊢
  have cv1 : ∀ q, (convert 33 9 (.slice a m c)).run Try.prog (Y.drewN q) = .ok (.string (strOfNums L)) (Y.drewN q) := fun q => conv_rd _ _ L m c (unhide HLEN) (hrd.grow (grown_drewN _ _))
  have H1 := hide h1
  clear hn hq hbv hrd h1 POST
  generalize hNL : B.T.length = N at *
  have HNL := hide hNL
  generalize hPU : B.put = P at *
  have HPU := hide hPU
  clear hNL hPU
  cases hbe : B.ended with
  | false =>
    rw [hbe, Bool.false_and] at hend
    subst hend
    rw [hbe] at c3
    have hm1 := l3' rfl
    clear l3' hbe
    have hm0 : ¬ (m : Int) = 0 := by omega
    have hm0b : ((m : Int) == 0) = false := by simp; omega
    obtain ⟨tb, toff, rfl, htb, htc⟩ := (unhide HTX).addr (by rw [unhide HNL]; omega)
    have cv2 : ∀ q, (convert 33 9 (.slice (some ⟨tb, toff + F, none⟩) (E - F) (tc - F))).run Try.prog (Y.drewN q) = .ok (.string (strOfNums L)) (Y.drewN q) := fun q => by
      have := TxIn.part (unhide HTX).by_ htc (grown_trans (unhide H1).gr (grown_drewN Y q)) F m (by rw [unhide HNL]; omega)
      rw [unhide HLL] at this
      exact conv_rd _ _ L (E - F) (tc - F) (by rw [unhide HEF]; exact unhide HLEN) this
    have hck : ¬ tc = F := by omega
    clear htc
    go_wp2
    go_quiet (fail)
    obtain ⟨pa, pn, pc, W', hr, hb2, fz, z6, hz6⟩ := unhide APP (Y.drewN nq) ((unhide H1).grown (grown_drewN _ _))
    have HR := hide hr
    have HB2 := hide hb2
    clear hr hb2 cv1 cv2 c1 c2 c3 APP
    have c6 := ((unhide H1).grown (grown_drewN Y nq)).cells.2.2.2.2.2.2
    go_wp2_with (at_builtin; refine wpList_append_run _ rfl _ _ 48 48 rfl _ _ rfl rfl (unhide HR) ?_)
    go_ret
    exact ⟨rfl, _, unhide HB2⟩
  | true =>
    rw [hbe, Bool.true_and] at hend
    rw [hbe] at c3
    clear hbe
    by_cases hEN : (E : Int) = (N : Int)
    · have hENb : ((E : Int) == (N : Int)) = true := by simp; omega
      rw [decide_eq_true hEN] at hend
      subst hend
      clear l3'
      by_cases hm1 : 0 < m
      · have HEN := hide hEN
        clear hEN
        have hm0 : ¬ (m : Int) = 0 := by omega
        have hm0b : ((m : Int) == 0) = false := by simp; omega
        obtain ⟨tb, toff, rfl, htb, htc⟩ := (unhide HTX).addr (by rw [unhide HNL]; omega)
        have cv2 : ∀ q, (convert 33 9 (.slice (some ⟨tb, toff + F, none⟩) (E - F) (tc - F))).run Try.prog (Y.drewN q) = .ok (.string (strOfNums L)) (Y.drewN q) := fun q => by
          have := TxIn.part (unhide HTX).by_ htc (grown_trans (unhide H1).gr (grown_drewN Y q)) F m (by rw [unhide HNL]; omega)
          rw [unhide HLL] at this
          exact conv_rd _ _ L (E - F) (tc - F) (by rw [unhide HEF]; exact unhide HLEN) this
        have hck : ¬ tc = F := by omega
        clear htc
        go_wp2
        go_quiet (fail)
        obtain ⟨pa, pn, pc, W', hr, hb2, fz, z6, hz6⟩ := unhide APP (Y.drewN nq) ((unhide H1).grown (grown_drewN _ _))
        have HR := hide hr
        have HB2 := hide hb2
        clear hr hb2 cv1 cv2 c1 c2 c3 APP
        have c6 := ((unhide H1).grown (grown_drewN Y nq)).cells.2.2.2.2.2.2
        go_wp2_with (at_builtin; refine wpList_append_run _ rfl _ _ 48 48 rfl _ _ rfl rfl (unhide HR) ?_)
        go_ret
        exact ⟨rfl, _, unhide HB2⟩
      · have HEN := hide hEN
        clear hEN
        have hz0 : m = 0 := by omega
        have hm0b : ((m : Int) == 0) = true := by rw [hz0]; rfl
        have cv2 : ∀ a' c' q, (convert 33 9 (.slice a' (E - F) c')).run Try.prog (Y.drewN q) = .ok (.string (strOfNums L)) (Y.drewN q) := fun a' c' q => by
          have hL0 : L = [] := List.length_eq_zero_iff.1 (by rw [unhide HLEN]; exact hz0)
          exact conv_rd _ _ L (E - F) c' (by rw [unhide HEF]; exact unhide HLEN) (by rw [hL0]; exact rd_nil _ _)
        have cv3 : ∀ a' (c' q : Nat), (convert 33 9 (.slice a' 0 c')).run Try.prog (Y.drewN q) = .ok (.string (strOfNums L)) (Y.drewN q) := fun a' c' q => by
          have hL0 : L = [] := List.length_eq_zero_iff.1 (by rw [unhide HLEN]; exact hz0)
          exact conv_rd _ _ L 0 c' (by rw [hL0]; rfl) (by rw [hL0]; exact rd_nil _ _)
        have HZ0 := hide hz0
        clear hz0
        rcases (unhide HTX).at_ with ⟨rfl, -, -⟩ | ⟨ad, rfl, -⟩
        · clear HTX
          go_wp2
          go_quiet (fail)
          obtain ⟨pa, pn, pc, W', hr, hb2, fz, z6, hz6⟩ := unhide APP (Y.drewN nq) ((unhide H1).grown (grown_drewN _ _))
          have HR := hide hr
          have HB2 := hide hb2
          clear hr hb2 cv1 cv2 c1 c2 c3 APP
          have c6 := ((unhide H1).grown (grown_drewN Y nq)).cells.2.2.2.2.2.2
          go_wp2_with (at_builtin; refine wpList_append_run _ rfl _ _ 48 48 rfl _ _ rfl rfl (unhide HR) ?_)
          go_ret
          exact ⟨rfl, _, unhide HB2⟩
        · clear HTX
          by_cases hck : tc = F
          · subst hck
            go_wp2
            go_quiet (fail)
            obtain ⟨pa, pn, pc, W', hr, hb2, fz, z6, hz6⟩ := unhide APP (Y.drewN nq) ((unhide H1).grown (grown_drewN _ _))
            have HR := hide hr
            have HB2 := hide hb2
            clear hr hb2 cv1 cv2 c1 c2 c3 APP
            have c6 := ((unhide H1).grown (grown_drewN Y nq)).cells.2.2.2.2.2.2
            go_wp2_with (at_builtin; refine wpList_append_run _ rfl _ _ 48 48 rfl _ _ rfl rfl (unhide HR) ?_)
            go_ret
            exact ⟨rfl, _, unhide HB2⟩
          · have hcz : ¬ tc - F = 0 := by omega
            go_wp2
            go_quiet (fail)
            obtain ⟨pa, pn, pc, W', hr, hb2, fz, z6, hz6⟩ := unhide APP (Y.drewN nq) ((unhide H1).grown (grown_drewN _ _))
            have HR := hide hr
            have HB2 := hide hb2
            clear hr hb2 cv1 cv2 c1 c2 c3 APP
            have c6 := ((unhide H1).grown (grown_drewN Y nq)).cells.2.2.2.2.2.2
            go_wp2_with (at_builtin; refine wpList_append_run _ rfl _ _ 48 48 rfl _ _ rfl rfl (unhide HR) ?_)
            go_ret
            exact ⟨rfl, _, unhide HB2⟩
    · have hENb : ((E : Int) == (N : Int)) = false := by simp; omega
      rw [decide_eq_false hEN] at hend
      subst hend
      have hm1 := l3' rfl
      clear l3'
      have hm0 : ¬ (m : Int) = 0 := by omega
      have hm0b : ((m : Int) == 0) = false := by simp; omega
      obtain ⟨tb, toff, rfl, htb, htc⟩ := (unhide HTX).addr (by rw [unhide HNL]; omega)
      have cv2 : ∀ q, (convert 33 9 (.slice (some ⟨tb, toff + F, none⟩) (E - F) (tc - F))).run Try.prog (Y.drewN q) = .ok (.string (strOfNums L)) (Y.drewN q) := fun q => by
        have := TxIn.part (unhide HTX).by_ htc (grown_trans (unhide H1).gr (grown_drewN Y q)) F m (by rw [unhide HNL]; omega)
        rw [unhide HLL] at this
        exact conv_rd _ _ L (E - F) (tc - F) (by rw [unhide HEF]; exact unhide HLEN) this
      have hck : ¬ tc = F := by omega
      clear htc
      go_wp2
      go_quiet (fail)
      obtain ⟨pa, pn, pc, W', hr, hb2, fz, z6, hz6⟩ := unhide APP (Y.drewN nq) ((unhide H1).grown (grown_drewN _ _))
      have HR := hide hr
      have HB2 := hide hb2
      clear hr hb2 cv1 cv2 c1 c2 c3 APP
      have c6 := ((unhide H1).grown (grown_drewN Y nq)).cells.2.2.2.2.2.2
      go_wp2_with (at_builtin; refine wpList_append_run _ rfl _ _ 48 48 rfl _ _ rfl rfl (unhide HR) ?_)
      go_ret
      exact ⟨rfl, _, unhide HB2⟩
end
end Go.Proofs.Ytdalekjpjnhboaa
