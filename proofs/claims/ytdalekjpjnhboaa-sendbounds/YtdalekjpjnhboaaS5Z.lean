/- SendBounds: the walk. -/
import Derived.Test.YtdalekjpjnhboaaS5X
import Derived.Deep.DeepCutAuto
import Derived.Deep.CutRange
import Derived.Deep.CutBlock
namespace Go.Proofs.Ytdalekjpjnhboaa
open Go.RowKit
set_option linter.unusedVariables false
set_option maxHeartbeats 100000000
set_option maxRecDepth 100000

theorem bounds_bad (cap : Int) (a : Option Addr) (len capn : Nat) (w : World) (hc : ¬ (1 ≤ cap ∧ cap ≤ 65536)) :
    Calls Try.prog 5 #[.int .i64 cap, .slice a len capn] w fun e w' => e = .returned (.bool true) ∧ w.grownBy w' none := by
  have hsh := shown_ok w
  by_cases h1 : cap < 1
  · have d1 : decide (cap < 1) = true := decide_eq_true h1
    go_enter Try.func5, Try.ntmps5
    go_wp2_with fail
    refine hsh.mono ?_
    rintro e W1 ⟨rfl, g1⟩
    have hn := new_bad cap W1 hc
    have G := hide g1
    clear hsh g1 hc
    go_wp2_with fail
    refine hn.mono ?_
    rintro e W2 ⟨rfl, rfl⟩
    clear hn
    go_wp2_with fail
    go_ret
    exact ⟨rfl, unhide G⟩
  · have d1 : decide (cap < 1) = false := decide_eq_false h1
    have h3 : 65536 < cap := by omega
    have d2 : decide (65536 < cap) = true := decide_eq_true h3
    go_enter Try.func5, Try.ntmps5
    go_wp2_with fail
    refine hsh.mono ?_
    rintro e W1 ⟨rfl, g1⟩
    have hn := new_bad cap W1 hc
    have G := hide g1
    clear hsh g1 hc
    go_wp2_with fail
    refine hn.mono ?_
    rintro e W2 ⟨rfl, rfl⟩
    clear hn
    go_wp2_with fail
    go_ret
    exact ⟨rfl, unhide G⟩

theorem bounds_good (cap : Int) (a : Option Addr) (len capn : Nat) (ol : List OpE) (w : World) (hops : IsOps w a len capn ol) (hb : len * 8 ≤ 140737488355328) (hc : 1 ≤ cap ∧ cap ≤ 65536) :
    Calls Try.prog 5 #[.int .i64 cap, .slice a len capn] w fun e w' => e = .returned (.bool true) ∧ w.grownBy w' none := by
  have hsh := shown_ok w
  obtain ⟨hlen, hcap, hopok, hcell⟩ := hops
  go_enter Try.func5, Try.ntmps5
  go_wp2_with fail
  refine hsh.mono ?_
  rintro e W1 ⟨rfl, g1⟩
  have hn := new_at cap W1 hc
  have G1 := hide g1
  clear hsh g1
  go_wp2_with fail
  refine hn.mono ?_
  rintro e W2 ⟨b, ba, bl, rfl, h2⟩
  have k0 : SdOk (new0 cap) := sdok_new hc
  have hv := view_at h2 k0 (by simp [wr, new0])
  have H2 := hide h2
  clear hn h2
  go_wp2_with fail
  refine hv.mono ?_
  rintro e W3 ⟨va, vl, rfl, r1, r2, f1, f2, d1, g3⟩
  have h3 := (unhide H2).rebase (grown_trans g3 (grown_alloc W3 (.cells (viewC (new0 cap) va vl) 36)))
  have I0 : Hid (BI w W3.heap.size b cap 0 0 (W3.alloc (.cells (viewC (new0 cap) va vl) 36)) (new0 cap) va vl) := by
    refine ⟨⟨_, ba, bl, _, h3, fun g q => ?_, fun g e q => ?_, fun g e q => ?_, fun q => ?_⟩, Blk.new _ _ _, r1.keep (grown_alloc _ _), r2.keep (grown_alloc _ _), k0, rfl, by simp [wr, new0], Int.le_refl _, Int.le_refl _, ?_, ?_, ?_⟩
    · have := (unhide G1).size
      rcases q.1 with q1 | q1
      · exact q1.elim
      · omega
    · have := f1 g e; omega
    · have := f2 g e; omega
    · have := g3.size; omega
    · exact grown_trans (grown_trans (grown_trans (unhide G1) (kp_none (unhide H2).kp)) g3) (grown_alloc _ _)
    · have := (unhide G1).size; have := (unhide H2).kp.size; have := g3.size; omega
    · have := (unhide H2).blk.lt; have := g3.size; omega
  clear hv h3 H2 G1
  obtain ⟨a1, c1, rfl, -⟩ := r1.shape
  obtain ⟨a2, c2, rfl, -⟩ := r2.shape
  clear r1 r2 f1 f2 d1 g3
  obtain ⟨bw, hbw⟩ : ∃ bw, bw = W3.heap.size := ⟨_, rfl⟩
  rw [← hbw] at I0
  obtain ⟨X0, hX0⟩ : ∃ X0, X0 = W3.alloc (.cells (viewC (new0 cap) (.slice a1 (new0 cap).A.length c1) (.slice a2 (new0 cap).L.length c2)) 36) := ⟨_, rfl⟩
  rw [← hX0] at I0
  unfold viewC at hX0 ⊢
  go_wp2_with fail
  rw [← hX0, ← hbw]
  clear hX0 hbw
  have HC := hide hcell
  have HO := hide hopok
  have HL := hide hlen
  clear hcell hopok hlen k0
  go_loopw [9, 10] (fun l i X => ∃ (k : Nat) (lim : Int) (S : Sd) (va vl : Value), k ≤ len ∧ l = .int .i64 lim ∧ i = .int .i64 k ∧ Hid (BI w bw b cap k lim X S va vl)) (fun _ i _ => len - (intOf i).toNat)
  case atStart => exact ⟨0, 0, _, _, _, Nat.zero_le _, rfl, rfl, I0⟩
  case round =>
    clear I0
    obtain ⟨k, lim, S, va, vl, hk, rfl, rfl, I⟩ := hrel
    obtain ⟨X, hX⟩ : ∃ X, X = wr := ⟨_, rfl⟩
    subst hX
    by_cases hlt : k < len
    · have hI := unhide I
      obtain ⟨M, ba, bl, vh, hA, hMw, hma, hml, hmb⟩ := hI.ex
      have hkl : k < ol.length := by rw [unhide HL]; exact hlt
      obtain ⟨x, hx⟩ : ∃ x, ol[k]? = some x := ⟨_, List.getElem?_eq_getElem hkl⟩
      have hxo := unhide HO x (List.mem_of_getElem? hx)
      obtain ⟨ob, ooff, rfl, hcells⟩ := (unhide HC).resolve_left (by omega)
      have cx : ∀ j v, x.cs[j]? = some v → X.cell? ⟨ob, ooff + k * 7 + j, none⟩ = some v := fun j v hj => cell_grown (hcells k x hx j v hj) hI.gr
      have x0 := cx 0 _ rfl
      have x1 := cx 1 _ rfl
      have x2 := cx 2 _ rfl
      have x3 := cx 3 _ rfl
      have x4 := cx 4 _ rfl
      have x5 := cx 5 _ rfl
      have x6 := cx 6 _ rfl
      rw [Nat.add_zero] at x0
      obtain ⟨X1, hX1⟩ : ∃ X1, X1 = X.alloc (.cells #[.int .i64 x.kind, .bool x.other, .slice x.da x.dn x.dc, .int .i64 x.off, .int .i64 x.size, .bool x.fin, .int .i64 x.most] 40) := ⟨_, rfl⟩
      have g1 : X.grownBy X1 none := by rw [hX1]; exact grown_alloc _ _
      have bo : Blk X1 X.heap.size #[.int .i64 x.kind, .bool x.other, .slice x.da x.dn x.dc, .int .i64 x.off, .int .i64 x.size, .bool x.fin, .int .i64 x.most] 40 := by rw [hX1]; exact Blk.new _ _ _
      have bv1 := hI.bl.grown g1
      have hR := hA.rebase g1
      have hws : 0 ≤ S.base ∧ S.base ≤ wr S ∧ wr S ≤ S.base + S.cap := by have := hI.ok.b0; have := hI.ok.bs; have := hI.ok.sw; have := hI.ok.wc; omega
      have hbig : wr S ≤ 1152921504606846976 := by have := hI.tot; omega
      have hcp := hI.cap
      have w1 : IntKind.i64.wrap (wr S - S.base) = wr S - S.base := by rw [IntKind.wrap_i64]; omega
      have w2 : IntKind.i64.wrap (cap - (wr S - S.base)) = cap - (wr S - S.base) := by rw [IntKind.wrap_i64]; omega
      have v0 : X1.cell? ⟨bw, 0, none⟩ = some (.int .i64 (wr S)) := bv1.cell 0 _ rfl
      have v2 : X1.cell? ⟨bw, 2, none⟩ = some (.int .i64 S.base) := bv1.cell 2 _ rfl
      have o0 : X1.cell? ⟨X.heap.size, 0, none⟩ = some (.int .i64 x.kind) := bo.cell 0 _ rfl
      have hpk := pick8 x.kind X1 hxo.k
      have hkn : (k : Int) < (len : Int) := by omega
      have CX := hide (And.intro hR (And.intro bv1 (And.intro bo g1)))
      have HLT := hide hlt
      clear cx hcells hx hkl hlt hk bv1 bo hR g1 hA
      rw [hX1] at v0 v2 o0
      go_wp2_with fail
      rw [← hX1]
      replace hX1 := hide hX1
      refine hpk.mono ?_
      rintro e X1' ⟨kk, rfl, hkk, hX1'⟩
      subst X1'
      clear hpk v0 v2 o0 x0 x1 x2 x3 x4 x5 x6
      go_upto_block 2 with fail
      obtain ⟨hR, bv1, bo, g1⟩ := unhide CX
      have hbX : bw < X.heap.size := hI.bl.lt
      have HKP : Hid (∀ Y, Kp (fun k => (M k ∨ X.heap.size ≤ k) ∧ k < X.heap.size) X1 Y → Blk Y X.heap.size #[.int .i64 x.kind, .bool x.other, .slice x.da x.dn x.dc, .int .i64 x.off, .int .i64 x.size, .bool x.fin, .int .i64 x.most] 40 ∧ Blk Y bw (viewC S va vl) 36) := fun Y kp => ⟨(kp.block _ bo.lt (fun q => by omega)).trans bo, (kp.block _ bv1.lt (fun q => by
        rcases q.1 with q1 | q1
        · exact hmb q1
        · omega)).trans bv1⟩
      have o2 : X1.cell? ⟨X.heap.size, 2, none⟩ = some (.slice x.da x.dn x.dc) := bo.cell 2 _ rfl
      have o3 : X1.cell? ⟨X.heap.size, 3, none⟩ = some (.int .i64 x.off) := bo.cell 3 _ rfl
      have o4 : X1.cell? ⟨X.heap.size, 4, none⟩ = some (.int .i64 x.size) := bo.cell 4 _ rfl
      have o5 : X1.cell? ⟨X.heap.size, 5, none⟩ = some (.bool x.fin) := bo.cell 5 _ rfl
      have o6 : X1.cell? ⟨X.heap.size, 6, none⟩ = some (.int .i64 x.most) := bo.cell 6 _ rfl
      have hxo1 : Rd X1 x.da x.p := (hxo.rd.grow hI.gr).grow g1
      have hsl := hI.li
      have hl0 := hI.l0
      have hok := hI.ok
      have HXO := hide hxo
      have HI := hide hI
      have HR := hide hR
      have G1 := hide g1
      clear CX bv1 bo g1 hI hX1 hR I w1
      go_cut [9, 12, 13] from 50 to 223 (fun l f n wc => ∃ (S' : Sd) (lim' f' : Int) (nn : Bool) (Y : World), Y = wc ∧ l = .int .i64 lim' ∧ f = .int .i64 f' ∧ n = .bool nn ∧ Hid (Stp S S' lim lim' f' nn ∧ ∃ ba bl vh, At X1 (fun k => (M k ∨ X.heap.size ≤ k) ∧ k < X.heap.size) b ba bl vh Y S'))
      case first =>
        have hout : Out X1 (fun k => (M k ∨ X.heap.size ≤ k) ∧ k < X.heap.size) x.da x.p := fun hne pb off e => by
          have hrd := (unhide HXO).rd
          obtain ⟨b', off', e', hc'⟩ := hrd.2 hne
          have hpos : 0 < x.p.length := List.length_pos_iff.2 hne
          have hlt : b' < w.heap.size := World.block_lt_of_cell? _ _ (hc' 0 hpos)
          rw [e] at e'
          cases e'
          have hg := (unhide HI).gr.size
          have hg1 := (unhide G1).size
          refine ⟨fun q => ?_, by omega⟩
          rcases q.1 with q1 | q1
          · have := hMw _ q1; omega
          · omega
        have hkv : kk = 0 ∨ kk = 1 ∨ kk = 2 ∨ kk = 3 ∨ kk = 4 ∨ kk = 5 ∨ kk = 6 ∨ kk = 7 := by omega
        clear hkk
        rcases hkv with rfl | rfl | rfl | rfl | rfl | rfl | rfl | rfl
        · as_aux_lemma =>
          have hw := write_at (unhide HR) hok x.da x.dn x.dc x.p hxo1 hout (unhide HXO).len (unhide HXO).cap (by have := (unhide HXO).big; omega) hbig
          have hst := stp_write hok hsl x.p
          rw [(unhide HXO).len] at hst
          have HST := hide hst
          have hbd := (unhide HXO).big
          have hWE : Hid (writeE S x.dn = if S.ended = true ∨ S.stopped = true then 150 else if S.cap < wr S - S.base + x.dn then 3 else 0) := rfl
          clear hst hout hxo1 o3 o4 o5 o6
          go_wp2_with fail
          refine hw.mono ?_
          rintro e Y ⟨rfl, vh', hq⟩
          obtain ⟨b1, b2⟩ := unhide HKP Y hq.kp
          have p2 : Y.cell? ⟨X.heap.size, 2, none⟩ = some (.slice x.da x.dn x.dc) := b1.cell 2 _ rfl
          have u5 : Y.cell? ⟨bw, 5, none⟩ = some (.bool S.ended) := b2.cell 5 _ rfl
          have u8 : Y.cell? ⟨bw, 8, none⟩ = some (.bool S.stopped) := b2.cell 8 _ rfl
          have Q := hide hq
          clear hw hq b1 b2 o2
          cases hen : S.ended with
          | true =>
            have e1 : writeE S x.dn = 150 := by rw [unhide hWE, if_pos (.inl hen)]
            rw [hen] at u5
            rw [e1] at HST ⊢
            clear e1 hWE hen
            generalize S.stopped = st at *
            go_wp2_with fail
            go_meet
            case rel => exact ⟨_, _, _, _, _, rfl, rfl, rfl, rfl, unhide HST, _, _, _, unhide Q⟩
          | false =>
            cases hs : S.stopped with
            | true =>
              have e1 : writeE S x.dn = 150 := by rw [unhide hWE, if_pos (.inr hs)]
              rw [hen] at u5
              rw [hs] at u8
              rw [e1] at HST ⊢
              clear e1 hWE hen hs
              go_wp2_with fail
              go_meet
              case rel => exact ⟨_, _, _, _, _, rfl, rfl, rfl, rfl, unhide HST, _, _, _, unhide Q⟩
            | false =>
              rw [hen] at u5
              rw [hs] at u8
              by_cases hf : S.cap < wr S - S.base + x.dn
              · have e1 : writeE S x.dn = 3 := by rw [unhide hWE, if_neg (by rw [hen, hs]; simp), if_pos hf]
                have hf2 : ¬ (x.dn : Int) ≤ cap - (wr S - S.base) := by omega
                have hf3 : decide ((x.dn : Int) ≤ cap - (wr S - S.base)) = false := decide_eq_false hf2
                rw [e1] at HST ⊢
                clear e1 hWE hen hs hf hf2 hcp hws
                generalize cap - (wr S - S.base) = room at *
                go_wp2_with fail
                go_meet
                case rel => exact ⟨_, _, _, _, _, rfl, rfl, rfl, rfl, unhide HST, _, _, _, unhide Q⟩
              · have e1 : writeE S x.dn = 0 := by rw [unhide hWE, if_neg (by rw [hen, hs]; simp), if_neg hf]
                have hf2 : (x.dn : Int) ≤ cap - (wr S - S.base) := by omega
                have hf3 : decide ((x.dn : Int) ≤ cap - (wr S - S.base)) = true := decide_eq_true hf2
                rw [e1] at HST ⊢
                clear e1 hWE hen hs hf hcp hws
                generalize cap - (wr S - S.base) = room at *
                go_wp2_with fail
                go_meet
                case rel => exact ⟨_, _, _, _, _, rfl, rfl, rfl, rfl, unhide HST, _, _, _, unhide Q⟩
        · as_aux_lemma =>
          have hw := fin_at (unhide HR)
          have HST := hide (stp_fin hok hsl)
          clear hout hxo1 o2 o3 o4 o5 o6
          go_wp2_with fail
          refine hw.mono ?_
          rintro e Y ⟨rfl, vh', hq⟩
          have Q := hide hq
          clear hw hq
          generalize (if S.ended = true ∨ S.stopped = true then (150 : Int) else 0) = ff at *
          go_wp2_with fail
          go_meet
          case rel => exact ⟨_, _, _, _, _, rfl, rfl, rfl, rfl, unhide HST, _, _, _, unhide Q⟩
        · as_aux_lemma =>
          have HST := hide (stp_self hok hsl (Int.le_refl lim) 0 false)
          clear hout hxo1 o2 o3 o4 o5 o6
          go_wp2_with fail
          go_meet
          case rel => exact ⟨_, _, _, _, _, rfl, rfl, rfl, rfl, unhide HST, _, _, _, unhide HR⟩
        · as_aux_lemma =>
          have hw := next_any (unhide HR) hok hbig x.most x.off (unhide HXO).o
          have HST := hide (stp_next hok hbig hsl hl0 x.most x.off)
          unfold NextPost at hw
          clear hout hxo1 o2 o4 o5
          go_wp2_with fail
          refine hw.mono ?_
          rintro e Y ⟨v, rfl, hq, -⟩
          obtain ⟨b1, -⟩ := unhide HKP Y hq.kp
          have p3 : Y.cell? ⟨X.heap.size, 3, none⟩ = some (.int .i64 x.off) := b1.cell 3 _ rfl
          have Q := hide hq
          clear hw hq b1 o3 o6
          generalize (dueS S x.most x.off).1 = dd1 at *
          generalize ((dueS S x.most x.off).2.2 && endB S (dueS S x.most x.off).2.1) = dd3 at *
          generalize (dueS S x.most x.off).2.2 = dd2 at *
          by_cases ho : lim < x.off
          · have e1 : max lim x.off = x.off := by omega
            have d1 : decide (lim < x.off) = true := decide_eq_true ho
            rw [e1] at HST
            clear e1
            go_wp2_with fail
            go_meet
            case rel => exact ⟨_, _, _, _, _, rfl, rfl, rfl, rfl, unhide HST, _, _, _, unhide Q⟩
          · have e1 : max lim x.off = lim := by omega
            have d1 : decide (lim < x.off) = false := decide_eq_false ho
            rw [e1] at HST
            clear e1
            go_wp2_with fail
            go_meet
            case rel => exact ⟨_, _, _, _, _, rfl, rfl, rfl, rfl, unhide HST, _, _, _, unhide Q⟩
        · as_aux_lemma =>
          have hw := acked_at (unhide HR) hok hbig x.off x.size x.fin (unhide HXO).o (unhide HXO).s
          have HST := hide (stp_ack hok hbig hsl x.off x.size x.fin)
          clear hout hxo1 o2 o6
          go_wp2_with fail
          refine hw.mono ?_
          rintro e Y ⟨rfl, vh', hq⟩
          have Q := hide hq
          clear hw hq o3 o4 o5
          go_wp2_with fail
          go_meet
          case rel => exact ⟨_, _, _, _, _, rfl, rfl, rfl, rfl, unhide HST, _, _, _, unhide Q⟩
        · as_aux_lemma =>
          have hw := lost_at (unhide HR) hok hbig x.off x.size x.fin (unhide HXO).o (unhide HXO).s
          have HST := hide (stp_lost hok hbig hsl x.off x.size x.fin)
          clear hout hxo1 o2 o6
          go_wp2_with fail
          refine hw.mono ?_
          rintro e Y ⟨rfl, hq⟩
          have Q := hide hq
          clear hw hq o3 o4 o5
          go_wp2_with fail
          go_meet
          case rel => exact ⟨_, _, _, _, _, rfl, rfl, rfl, rfl, unhide HST, _, _, _, unhide Q⟩
        · as_aux_lemma =>
          have hw := stop_at (unhide HR)
          have HST := hide (stp_stop hok hsl)
          clear hout hxo1 o2 o3 o4 o5 o6
          go_wp2_with fail
          refine hw.mono ?_
          rintro e Y ⟨rfl, bl', vh', hq⟩
          have Q := hide hq
          clear hw hq
          go_wp2_with fail
          go_meet
          case rel => exact ⟨_, _, _, _, _, rfl, rfl, rfl, rfl, unhide HST, _, _, _, unhide Q⟩
        · as_aux_lemma =>
          have HST := hide (stp_self hok hsl (Int.le_refl lim) 0 false)
          clear hout hxo1 o2 o3 o4 o5 o6
          go_wp2_with fail
          go_meet
          case rel => exact ⟨_, _, _, _, _, rfl, rfl, rfl, rfl, unhide HST, _, _, _, unhide HR⟩
      case rest =>
        obtain ⟨S', lim', f', nn, Y, rfl, rfl, rfl, rfl, HS⟩ := hcut
        obtain ⟨hst, ba', bl', vh', hA'⟩ := unhide HS
        have hIt := (unhide HI).tot
        have hbig' : wr S' ≤ 1152921504606846976 := by have := hst.whi; omega
        have hv := view_at hA' hst.ok hbig'
        clear HS o2 o3 o4 o5 o6 hxo1 HXO hkk
        go_wp2_with fail
        refine hv.mono ?_
        rintro e Y1 ⟨va', vl', rfl, r1, r2, f1, f2, d12, gv⟩
        obtain ⟨a3, c3, rfl, -⟩ := r1.shape
        obtain ⟨a4, c4, rfl, -⟩ := r2.shape
        obtain ⟨-, bwY⟩ := unhide HKP Y hA'.kp
        have bwlt : bw < Y1.heap.size := Nat.lt_of_lt_of_le bwY.lt gv.size
        have hra := (unhide HI).ra
        have hrl := (unhide HI).rl
        have rowY : ∀ {v : Value} {L : List Sp}, Row X v L → (∀ g, v.ownBlock = some g → ¬ M g) → Row Y v L := fun {v L} hr hm => row_kept (hr.keep (unhide G1)) (fun g e => hA'.kp.block g (row_lt (hr.keep (unhide G1)) g e) (fun q => by
          rcases q.1 with q1 | q1
          · exact hm g e q1
          · have := row_lt hr g e; omega))
        have raY := rowY hra hma
        have rlY := rowY hrl hml
        obtain ⟨a5, c5, rfl, -⟩ := hra.shape
        obtain ⟨a6, c6, rfl, -⟩ := hrl.shape
        obtain ⟨Y2, hY2⟩ : ∃ Y2, Y2 = Y1.alloc (.cells (viewC S' (.slice a3 S'.A.length c3) (.slice a4 S'.L.length c4)) 36) := ⟨_, rfl⟩
        have gY2 : Y1.grownBy Y2 none := by rw [hY2]; exact grown_alloc _ _
        have bv2 : Blk Y2 Y1.heap.size (viewC S' (.slice a3 S'.A.length c3) (.slice a4 S'.L.length c4)) 36 := by rw [hY2]; exact Blk.new _ _ _
        have bw2 := bwY.grown (grown_trans gv gY2)
        have lA := hok.lenA; have lL := hok.lenL; have lA' := hst.ok.lenA; have lL' := hst.ok.lenL; have lc := hok.cap; have lc' := hst.ok.cap
        have halk := alike15 (r1.keep gY2) (r2.keep gY2) (raY.keep (grown_trans gv gY2)) (rlY.keep (grown_trans gv gY2)) (by omega) (by omega) (by omega) (by omega)
        have HW : Hid (Y.grownBy Y2 none) := grown_trans gv gY2
        have RR := hide (And.intro r1 (And.intro r2 (And.intro f1 f2)))
        have HA2 := hide hA'
        have HST := hide hst
        have V2 := hide bv2
        have B2 := hide bw2
        have GY := hide gY2
        have HKY : ∀ Z, Y2.grownBy Z none → (Blk Z Y1.heap.size (viewC S' (.slice a3 S'.A.length c3) (.slice a4 S'.L.length c4)) 36 ∧ Blk Z bw (viewC S (.slice a5 S.A.length c5) (.slice a6 S.L.length c6)) 36) := fun Z g => ⟨bv2.grown g, bw2.grown g⟩
        have HKYH := hide HKY
        obtain ⟨m0, m1, m2, m3, m4, m5, m6, m7, m8, m9⟩ : Y2.cell? ⟨Y1.heap.size, 0, none⟩ = some (.int .i64 (wr S')) ∧ Y2.cell? ⟨Y1.heap.size, 1, none⟩ = some (.int .i64 S'.sent) ∧ Y2.cell? ⟨Y1.heap.size, 2, none⟩ = some (.int .i64 S'.base) ∧ Y2.cell? ⟨Y1.heap.size, 3, none⟩ = some (.slice a3 S'.A.length c3) ∧ Y2.cell? ⟨Y1.heap.size, 4, none⟩ = some (.slice a4 S'.L.length c4) ∧ Y2.cell? ⟨Y1.heap.size, 5, none⟩ = some (.bool S'.ended) ∧ Y2.cell? ⟨Y1.heap.size, 6, none⟩ = some (.bool (decide (S'.fin = 1) || decide (S'.fin = 3))) ∧ Y2.cell? ⟨Y1.heap.size, 7, none⟩ = some (.bool (decide (S'.fin = 3))) ∧ Y2.cell? ⟨Y1.heap.size, 8, none⟩ = some (.bool S'.stopped) ∧ Y2.cell? ⟨Y1.heap.size, 9, none⟩ = some (.bool (doneB S')) := ⟨bv2.cell 0 _ rfl, bv2.cell 1 _ rfl, bv2.cell 2 _ rfl, bv2.cell 3 _ rfl, bv2.cell 4 _ rfl, bv2.cell 5 _ rfl, bv2.cell 6 _ rfl, bv2.cell 7 _ rfl, bv2.cell 8 _ rfl, bv2.cell 9 _ rfl⟩
        obtain ⟨n0, n1, n2, n3, n4, n5, n6, n7, n8, n9⟩ : Y2.cell? ⟨bw, 0, none⟩ = some (.int .i64 (wr S)) ∧ Y2.cell? ⟨bw, 1, none⟩ = some (.int .i64 S.sent) ∧ Y2.cell? ⟨bw, 2, none⟩ = some (.int .i64 S.base) ∧ Y2.cell? ⟨bw, 3, none⟩ = some (.slice a5 S.A.length c5) ∧ Y2.cell? ⟨bw, 4, none⟩ = some (.slice a6 S.L.length c6) ∧ Y2.cell? ⟨bw, 5, none⟩ = some (.bool S.ended) ∧ Y2.cell? ⟨bw, 6, none⟩ = some (.bool (decide (S.fin = 1) || decide (S.fin = 3))) ∧ Y2.cell? ⟨bw, 7, none⟩ = some (.bool (decide (S.fin = 3))) ∧ Y2.cell? ⟨bw, 8, none⟩ = some (.bool S.stopped) ∧ Y2.cell? ⟨bw, 9, none⟩ = some (.bool (doneB S)) := ⟨bw2.cell 0 _ rfl, bw2.cell 1 _ rfl, bw2.cell 2 _ rfl, bw2.cell 3 _ rfl, bw2.cell 4 _ rfl, bw2.cell 5 _ rfl, bw2.cell 6 _ rfl, bw2.cell 7 _ rfl, bw2.cell 8 _ rfl, bw2.cell 9 _ rfl⟩
        clear hv r1 r2 f1 f2 d12 gv bwY rowY raY rlY hra hrl gY2 bv2 bw2 hA' hst HKY hbig hbig' lA lL lA' lL' lc lc' hsl hl0 hok hws hcp hIt
        rw [hY2] at m0 m1 m2 m3 m4 m5 m6 m7 m8 m9 n0 n1 n2 n3 n4 n5 n6 n7 n8 n9
        unfold viewC at halk
        unfold viewC at hY2
        unfold viewC at m0 m1 m2 m3 m4 m5 m6 m7 m8 m9 n0 n1 n2 n3 n4 n5 n6 n7 n8 n9 ⊢
        go_wp2_with fail
        rw [← hY2]
        clear m0 m1 m2 m3 m4 m5 m6 m7 m8 m9 n0 n1 n2 n3 n4 n5 n6 n7 n8 n9
        replace hY2 := hide hY2
        refine halk.mono ?_
        rintro e Y3 ⟨r, rfl, hrr, g3⟩
        have G3 := hide g3
        have HRR : Hid ((f' != 0) = false ∧ nn = false ∨ r = true) := by
          by_cases hx : f' ≠ 0 ∨ nn = true
          · exact .inr (hrr ((unhide HST).same hx))
          · left
            refine ⟨?_, ?_⟩
            · have : f' = 0 := by
                by_cases q : f' = 0
                · exact q
                · exact absurd (Or.inl q) hx
              simp [this]
            · cases nn with
              | false => rfl
              | true => exact absurd (Or.inr rfl) hx
        clear halk hrr g3
        go_upto_region 36 with fail
        go_cut [156] from 50 to 223 (fun v wc => v = .bool false ∧ wc = Y3)
        case first =>
          rcases unhide HRR with ⟨h1, h2⟩ | h1
          · subst h2
            clear HRR
            go_wp2_with fail
            go_meet
            case rel => exact ⟨rfl, rfl⟩
          · subst h1
            clear HRR
            cases hz : (f' != 0) with
            | true =>
              go_wp2_with fail
              go_meet
              case rel => exact ⟨rfl, rfl⟩
            | false =>
              cases nn with
              | true =>
                go_wp2_with fail
                go_meet
                case rel => exact ⟨rfl, rfl⟩
              | false =>
                go_wp2_with fail
                go_meet
                case rel => exact ⟨rfl, rfl⟩
        case rest =>
          obtain ⟨rfl, hwc⟩ := hcut
          replace hwc := hwc.symm
          subst hwc
          obtain ⟨bv3, bw3⟩ := unhide HKYH Y3 (unhide G3)
          have hst := unhide HST
          have hI := unhide HI
          have k1 : 0 ≤ S'.base ∧ S'.base ≤ S'.sent ∧ S'.sent ≤ wr S' ∧ wr S' ≤ S'.base + S'.cap := by have := hst.ok.b0; have := hst.ok.bs; have := hst.ok.sw; have := hst.ok.wc; omega
          have k2 : wr S' ≤ 1152921504606846976 := by have := hst.whi; have := hI.tot; omega
          have k3 : S'.cap = cap := hst.cap.trans hI.cap
          have w1 : IntKind.i64.wrap (wr S' - S'.base) = wr S' - S'.base := by rw [IntKind.wrap_i64]; omega
          have z1 : ¬ cap < wr S' - S'.base := by omega
          have z1d : decide (cap < wr S' - S'.base) = false := decide_eq_false z1
          have z2 : ¬ lim' < S'.sent := by have := hst.li; omega
          have z2d : decide (lim' < S'.sent) = false := decide_eq_false z2
          have z3 : ¬ wr S' < S'.sent := by omega
          have z3d : decide (wr S' < S'.sent) = false := decide_eq_false z3
          have z4 : ¬ S'.sent < S'.base := by omega
          have z4d : decide (S'.sent < S'.base) = false := decide_eq_false z4
          have z5 : ¬ S'.base < S.base := by have := hst.base; omega
          have z5d : decide (S'.base < S.base) = false := decide_eq_false z5
          have z6 : ¬ S'.sent < S.sent := by have := hst.sent; omega
          have z6d : decide (S'.sent < S.sent) = false := decide_eq_false z6
          have z7 : ¬ wr S' < wr S := by have := hst.wlo; omega
          have z7d : decide (wr S' < wr S) = false := decide_eq_false z7
          have hfa : decide (S.fin = 3) = true → decide (S'.fin = 3) = true := fun h => decide_eq_true (hst.fin (of_decide_eq_true h))
          have hdn := hst.don
          obtain ⟨m0, m1, m2, m3, m4, m5, m6, m7, m8, m9⟩ : Y3.cell? ⟨Y1.heap.size, 0, none⟩ = some (.int .i64 (wr S')) ∧ Y3.cell? ⟨Y1.heap.size, 1, none⟩ = some (.int .i64 S'.sent) ∧ Y3.cell? ⟨Y1.heap.size, 2, none⟩ = some (.int .i64 S'.base) ∧ Y3.cell? ⟨Y1.heap.size, 3, none⟩ = some (.slice a3 S'.A.length c3) ∧ Y3.cell? ⟨Y1.heap.size, 4, none⟩ = some (.slice a4 S'.L.length c4) ∧ Y3.cell? ⟨Y1.heap.size, 5, none⟩ = some (.bool S'.ended) ∧ Y3.cell? ⟨Y1.heap.size, 6, none⟩ = some (.bool (decide (S'.fin = 1) || decide (S'.fin = 3))) ∧ Y3.cell? ⟨Y1.heap.size, 7, none⟩ = some (.bool (decide (S'.fin = 3))) ∧ Y3.cell? ⟨Y1.heap.size, 8, none⟩ = some (.bool S'.stopped) ∧ Y3.cell? ⟨Y1.heap.size, 9, none⟩ = some (.bool (doneB S')) := ⟨bv3.cell 0 _ rfl, bv3.cell 1 _ rfl, bv3.cell 2 _ rfl, bv3.cell 3 _ rfl, bv3.cell 4 _ rfl, bv3.cell 5 _ rfl, bv3.cell 6 _ rfl, bv3.cell 7 _ rfl, bv3.cell 8 _ rfl, bv3.cell 9 _ rfl⟩
          obtain ⟨n0, n1, n2, n3, n4, n5, n6, n7, n8, n9⟩ : Y3.cell? ⟨bw, 0, none⟩ = some (.int .i64 (wr S)) ∧ Y3.cell? ⟨bw, 1, none⟩ = some (.int .i64 S.sent) ∧ Y3.cell? ⟨bw, 2, none⟩ = some (.int .i64 S.base) ∧ Y3.cell? ⟨bw, 3, none⟩ = some (.slice a5 S.A.length c5) ∧ Y3.cell? ⟨bw, 4, none⟩ = some (.slice a6 S.L.length c6) ∧ Y3.cell? ⟨bw, 5, none⟩ = some (.bool S.ended) ∧ Y3.cell? ⟨bw, 6, none⟩ = some (.bool (decide (S.fin = 1) || decide (S.fin = 3))) ∧ Y3.cell? ⟨bw, 7, none⟩ = some (.bool (decide (S.fin = 3))) ∧ Y3.cell? ⟨bw, 8, none⟩ = some (.bool S.stopped) ∧ Y3.cell? ⟨bw, 9, none⟩ = some (.bool (doneB S)) := ⟨bw3.cell 0 _ rfl, bw3.cell 1 _ rfl, bw3.cell 2 _ rfl, bw3.cell 3 _ rfl, bw3.cell 4 _ rfl, bw3.cell 5 _ rfl, bw3.cell 6 _ rfl, bw3.cell 7 _ rfl, bw3.cell 8 _ rfl, bw3.cell 9 _ rfl⟩
          have t0 := bw3.thaw 0
          have t1 := bw3.thaw 1
          have t2 := bw3.thaw 2
          have t3 := bw3.thaw 3
          have t4 := bw3.thaw 4
          have t5 := bw3.thaw 5
          have t6 := bw3.thaw 6
          have t7 := bw3.thaw 7
          have t8 := bw3.thaw 8
          have t9 := bw3.thaw 9
          have hne : Y1.heap.size ≠ bw := by have := bwlt; omega
          have NX : Hid (BI w bw b cap (k + 1) lim' (put10 Y3 bw (.int .i64 (wr S')) (.int .i64 S'.sent) (.int .i64 S'.base) (.slice a3 S'.A.length c3) (.slice a4 S'.L.length c4) (.bool S'.ended) (.bool (decide (S'.fin = 1) || decide (S'.fin = 3))) (.bool (decide (S'.fin = 3))) (.bool S'.stopped) (.bool (doneB S'))) S' (.slice a3 S'.A.length c3) (.slice a4 S'.L.length c4)) := bi_next (unhide HI) (unhide G1) (unhide HA2) hMw hmb (unhide HST) (unhide HW) (unhide G3) ((unhide RR).1.keep (unhide GY)) ((unhide RR).2.1.keep (unhide GY)) (unhide RR).2.2.1 (unhide RR).2.2.2 bw3
          clear bv3 bw3 hst hI k1 k2 k3 z1 HKYH HKP HRR HR HI HST
          generalize hdS : doneB S = dS at *
          generalize hdS' : doneB S' = dS' at *
          generalize hfS : decide (S.fin = 3) = fS at *
          generalize hfS' : decide (S'.fin = 3) = fS' at *
          clear hdS hdS' hfS hfS'
          go_upto_region 38 with fail
          go_cut [222] from 50 to 223 (fun v wc => v = .bool false ∧ wc = Y3)
          case first =>
            clear NX t0 t1 t2 t3 t4 t5 t6 t7 t8 t9 HA2 RR V2 B2 GY HW G3 G1 hY2 HC HO HL m3 m4 m5 m6 m8 n3 n4 n5 n6 n8 hmb hMw hma hml hb hc hcap bwlt hne hbX
            cases fS with
            | true =>
              obtain rfl : fS' = true := hfa rfl
              cases dS with
              | true =>
                obtain rfl : dS' = true := hdn rfl
                clear hfa hdn
                as_aux_lemma =>
                  go_wp2_with fail
                  go_meet
                  case rel => exact ⟨rfl, rfl⟩
              | false =>
                clear hfa hdn
                as_aux_lemma =>
                  go_wp2_with fail
                  go_meet
                  case rel => exact ⟨rfl, rfl⟩
            | false =>
              cases dS with
              | true =>
                obtain rfl : dS' = true := hdn rfl
                clear hfa hdn
                as_aux_lemma =>
                  go_wp2_with fail
                  go_meet
                  case rel => exact ⟨rfl, rfl⟩
              | false =>
                clear hfa hdn
                as_aux_lemma =>
                  go_wp2_with fail
                  go_meet
                  case rel => exact ⟨rfl, rfl⟩
          case rest =>
            obtain ⟨rfl, hwc⟩ := hcut
            replace hwc := hwc.symm
            subst hwc
            clear hfa hdn z1d z2 z2d z3 z3d z4 z4d z5 z5d z6 z6d z7 z7d w1
            go_wp2_with fail
            exact ⟨⟨k + 1, lim', S', _, _, unhide HLT, rfl, by go_num, NX⟩, by simp [intOf]; have := unhide HLT; omega⟩
    · obtain rfl : k = len := by omega
      have hno : ¬ (k : Int) < (k : Int) := by omega
      have G := hide (unhide I).gr
      clear I
      go_wp2_with fail
      go_ret
      exact ⟨rfl, unhide G⟩
end Go.Proofs.Ytdalekjpjnhboaa
