/- T7F, PGBou, one text. -/
import Derived.Test.YthihabjegpacaaaT7D
import Derived.Test.YthihabjegpacaaaT7E
import Derived.Deep.DeepCutAuto
import Derived.Deep.CutRange
import Derived.Deep.CutBlock
import Derived.ProofKit
import Derived.OpenShut
import Derived.ShutString
import Derived.ChangeOld
import Derived.SizedLaws
import Derived.JoinedCond
import Derived.Deep.CondSized
namespace Go.Proofs.Ythihabjegpacaaa
open Go.RowKit
set_option linter.unusedVariables false
set_option maxHeartbeats 40000000
set_option maxRecDepth 100000

theorem bounds_bad (limit : Int) (a : Option Addr) (len capn : Nat) (w : World) (hc : ¬ (0 ≤ limit ∧ limit ≤ 4611686018427387903)) :
    Calls Try.prog 4 #[.int .i64 limit, .slice a len capn] w fun e w' => e = .returned (.bool true) ∧ w.grownBy w' none := by
  have hsh := shown_ok w
  by_cases h1 : limit < 0
  · have h1' : ¬ 0 ≤ limit := by omega
    go_enter Try.func4, Try.ntmps4
    go_wp2_with fail
    refine hsh.mono ?_
    rintro e W1 ⟨rfl, g1⟩
    have hn := new_bad limit W1 hc
    have G := hide g1
    clear hsh g1 hc
    go_wp2_with fail
    refine hn.mono ?_
    rintro e W2 ⟨rfl, rfl⟩
    clear hn
    go_wp2_with fail
    go_ret
    exact ⟨rfl, unhide G⟩
  · have h1' : 0 ≤ limit := by omega
    have h3 : ¬ limit < 4611686018427387904 := by omega
    go_enter Try.func4, Try.ntmps4
    go_wp2_with fail
    refine hsh.mono ?_
    rintro e W1 ⟨rfl, g1⟩
    have hn := new_bad limit W1 hc
    have G := hide g1
    clear hsh g1 hc
    go_wp2_with fail
    refine hn.mono ?_
    rintro e W2 ⟨rfl, rfl⟩
    clear hn
    go_wp2_with fail
    go_ret
    exact ⟨rfl, unhide G⟩

theorem heok_raise {S : Rv} {E : List He} (h : HeOk S E) (l : Int) : HeOk (raiseS S l) E := ⟨h.srt, h.pos, h.is, h.all, h.sz⟩

@[irreducible] def KB (k : Nat) : Prop := k + 1 ≤ 1048576
theorem k_next {k : Nat} (h : KB k) : Value.int .i64 (wrap64 ((k : Int) + 1)) = Value.int .i64 ((k + 1 : Nat) : Int) := by
  unfold KB at h
  have e : wrap64 ((k : Int) + 1) = ((k + 1 : Nat) : Int) := by
    unfold wrap64
    omega
  rw [e]

/-- What is so between rounds. -/
structure BR (base : World) (limit : Int) (b : Nat) (t : Int) (k : Nat) (X : World) (S : Rv) : Prop where
  ex : ∃ bk vh E, RA base (fun _ => False) b bk vh E X S ∧ HeOk S E ∧ (E.length : Int) ≤ t
  ok : RvOk S
  len : S.K.length ≤ k
  few : Few S t.toNat
  lm : limit ≤ S.limit

theorem bounds_good (limit : Int) (a : Option Addr) (len capn : Nat) (ol : List OpE) (w : World) (hops : IsOps w a len capn ol) (hlen1 : len ≤ 1048576) (htot : tot ol len ≤ 1048576) (hdn : ∀ x ∈ ol, x.dn ≤ 1048576) (hc : 0 ≤ limit ∧ limit ≤ 4611686018427387903) :
    Calls Try.prog 4 #[.int .i64 limit, .slice a len capn] w fun e w' => e = .returned (.bool true) ∧ w.grownBy w' none := by
  have hsh := shown_ok w
  obtain ⟨hlen, hcap, hopok, hcell⟩ := hops
  have q1 : 0 ≤ limit := hc.1
  have q2 : limit < 4611686018427387904 := by omega
  go_enter Try.func4, Try.ntmps4
  go_wp2_with fail
  refine hsh.mono ?_
  rintro e W1 ⟨rfl, g1⟩
  have hn := new_at limit W1 hc
  have G1 := hide g1
  clear hsh g1
  go_wp2_with fail
  refine hn.mono ?_
  rintro e W2 ⟨b, bk, rfl, h2⟩
  have I0 : Hid (BR W1 limit b 0 0 W2 (newRv limit)) := ⟨⟨bk, _, [], h2, heok_new limit, Int.le_refl _⟩, rvok_new hc, Nat.le_refl _, ⟨[], Nat.le_refl _, fun x hx => by cases hx⟩, Int.le_refl _⟩
  have HC := hide hcell
  have HO := hide hopok
  have HL := hide hlen
  have HD := hide hdn
  clear hn h2 hcell hopok hlen hdn
  go_wp2_with fail
  go_loopw [8, 9, 10] (fun s r i X => ∃ (k : Nat) (S : Rv), k ≤ len ∧ s = .int .i64 S.high ∧ r = .int .i64 S.read ∧ i = .int .i64 k ∧ Hid (BR W1 limit b (tot ol k) k X S)) (fun _ _ i _ => len - (intOf i).toNat)
  case atStart => exact ⟨0, newRv limit, Nat.zero_le _, rfl, rfl, rfl, I0⟩
  case round =>
    clear I0
    obtain ⟨k, S, hk, rfl, rfl, rfl, I⟩ := hrel
    obtain ⟨X, hX⟩ : ∃ X, X = wr := ⟨_, rfl⟩
    subst hX
    by_cases hlt : k < len
    · have hI := unhide I
      obtain ⟨bk', vh, E, hA, hE, nE⟩ := hI.ex
      have hkl : k < ol.length := by rw [unhide HL]; exact hlt
      obtain ⟨x, hx⟩ : ∃ x, ol[k]? = some x := ⟨_, List.getElem?_eq_getElem hkl⟩
      have hxo := unhide HO x (List.mem_of_getElem? hx)
      have hxd := unhide HD x (List.mem_of_getElem? hx)
      have ht := tot_at hx
      have ht2 : tot ol (k + 1) ≤ 1048576 := Int.le_trans (tot_mono ol hlt) htot
      have ht0 := tot_nn ol k
      obtain ⟨ob, ooff, rfl, hcells⟩ := (unhide HC).resolve_left (by omega)
      have gX : w.grownBy X none := grown_trans (unhide G1) (kp_none hA.kp)
      have cx : ∀ j v, x.cs[j]? = some v → X.cell? ⟨ob, ooff + k * 6 + j, none⟩ = some v := fun j v hj => cell_grown (hcells k x hx j v hj) gX
      have x0 := cx 0 _ rfl
      have x2 := cx 2 _ rfl
      have x3 := cx 3 _ rfl
      have x4 := cx 4 _ rfl
      have x5 := cx 5 _ rfl
      rw [Nat.add_zero] at x0
      have HCE : Hid (∀ Y, w.grownBy Y none → Y.cell? ⟨ob, ooff + k * 6 + 2, none⟩ = some (.int .i64 x.off) ∧ Y.cell? ⟨ob, ooff + k * 6 + 3, none⟩ = some (.slice x.da x.dn x.dc) ∧ Y.cell? ⟨ob, ooff + k * 6 + 4, none⟩ = some (.bool x.fin)) := fun Y g => ⟨cell_grown (hcells k x hx 2 _ rfl) g, cell_grown (hcells k x hx 3 _ rfl) g, cell_grown (hcells k x hx 4 _ rfl) g⟩
      have hpk := pick5 x.kind X hxo.k
      have hkn : (k : Int) < (len : Int) := by omega
      have hrd : Rd X x.da x.p := hxo.rd.grow gX
      have hout : Out W1 (fun _ => False) x.da x.p := fun hne pb off e => by
        obtain ⟨b', off', e', hc'⟩ := hxo.rd.2 hne
        have hpos : 0 < x.p.length := List.length_pos_iff.2 hne
        have hlt : b' < w.heap.size := World.block_lt_of_cell? _ _ (hc' 0 hpos)
        rw [e] at e'
        cases e'
        have := (unhide G1).size
        exact ⟨fun q => q, by omega⟩
      have nK : S.K.length ≤ 100000000 := by have := hI.len; omega
      have nE' : E.length ≤ 100000000 := by omega
      have hok := hI.ok
      have hfew := hI.few
      have HLT := hide hlt
      have HI := hide hI
      have HT := hide (And.intro ht (And.intro ht2 ht0))
      have HA := hide hA
      have HE := hide hE
      have NE := hide nE
      have HRD := hide hrd
      have HXO := hide hxo
      clear cx hcells hx hkl hlt hk I hI gX hA hE nE hrd hxo ht ht2 ht0
      go_wp2_with fail
      refine hpk.mono ?_
      rintro e X' ⟨kk, rfl, hkk, hX'⟩
      subst X'
      clear hpk
      go_upto_block 2 with fail
      go_cut [11, 12, 13, 14, 15] from 59 to 116 (fun n f g v14 v15 wc => ∃ (S' : Rv) (nn ff : Int) (got : Nat) (Y : World), Y = wc ∧ n = .int .i64 nn ∧ f = .int .i64 ff ∧ g = .int .i64 got ∧ Hid (StB S S' nn ff got x.dn ∧ got ≤ 1048576 ∧ ∃ bk vh E', RA W1 (fun _ => False) b bk vh E' Y S' ∧ HeOk S' E' ∧ E'.length ≤ E.length + x.dn))
      case first =>
        have hkv : kk = 0 ∨ kk = 1 ∨ kk = 2 ∨ kk = 3 ∨ kk = 4 := by omega
        clear hkk
        rcases hkv with rfl | rfl | rfl | rfl | rfl
        · have hw := fun Y (g : X.grownBy Y none) => take_at ((unhide HA).grown g) hok (unhide HE) nE' nK x.off x.da x.dn x.dc x.fin x.p ((unhide HRD).grow g) hout (unhide HXO).len (unhide HXO).cap (by omega)
          have hst := stb_take hok x.off x.p x.fin (unhide HXO).rd.1
          rw [(unhide HXO).len] at hst
          have HST := hide hst
          clear hst hout hok hfew nK nE' hxd
          as_aux_lemma =>
          go_wp2_with fail
          go_region_held3 (fun Y => Y.cell? ⟨ob, ooff + k * 6 + 2, none⟩ = some (.int .i64 x.off) ∧ Y.cell? ⟨ob, ooff + k * 6 + 3, none⟩ = some (.slice x.da x.dn x.dc) ∧ Y.cell? ⟨ob, ooff + k * 6 + 4, none⟩ = some (.bool x.fin)) (go_keep) (first | (go_at_call 9; refine (hw _ (by first | with_reducible exact grown_self _ _ | with_reducible exact grown_drew' (grown_self _ _) | with_reducible exact grown_drewN _ _)).mono ?_; rintro e Y ⟨rfl, vh', E', h1, h2, h3⟩; obtain ⟨y2, y3, y4⟩ := unhide HCE Y (grown_trans (unhide G1) (kp_none h1.kp)); have Q := hide (And.intro h1 (And.intro h2 h3)); clear h1 h2 h3 hw; generalize takeN S x.off x.dn x.fin = nn at *; generalize takeE S x.off x.dn x.fin = ff at *))
          go_wp2_with fail
          go_meet
          case rel => exact ⟨_, _, _, 0, _, rfl, rfl, rfl, rfl, unhide HST, by omega, _, _, _, unhide Q⟩
        · have hw := read_at (unhide HA) hok (unhide HE) nE' x.most (unhide HXO).m (fun n q => by have := hfew.row q; have := unhide HT; omega)
          have HB : Hid (∀ n, RowN S x.most n → n ≤ 1048576) := fun n q => by have := hfew.row q; have := unhide HT; omega
          have HST : Hid (∀ n, RowN S x.most n → StB S (readS S n) 0 0 n x.dn) := fun n q => (stb_read hok q).more _
          clear hout hok hfew nK nE' hxd
          as_aux_lemma =>
          go_wp2_with fail
          refine hw.mono ?_
          rintro e Y ⟨n, g, rfl, q⟩
          have Q := hide q
          clear hw q
          generalize hen : (readS S n).ended = en at *
          clear hen
          go_wp2_with fail
          go_meet
          case rel =>
            have q := unhide Q
            obtain ⟨V, vh5, E5, v1, v2, v3, h5, e5, l5⟩ := q.ra
            exact ⟨_, 0, 0, n, _, rfl, rfl, rfl, rfl, unhide HST n q.row, unhide HB n q.row, _, _, _, h5.unbase ((unhide HA).kp.nothing v1), e5, by omega⟩
        · have hw := raise_at (unhide HA) x.off
          have HST := hide ((stb_raise hok x.off).more x.dn)
          have HE' : Hid (HeOk (raiseS S x.off) E) := heok_raise (unhide HE) x.off
          clear hout hok hfew nK nE' hxd
          as_aux_lemma =>
          go_wp2_with fail
          refine hw.mono ?_
          rintro e Y ⟨rfl, q⟩
          have Q := hide q
          clear hw q
          go_wp2_with fail
          go_meet
          case rel => exact ⟨_, 0, 0, 0, _, rfl, rfl, rfl, rfl, unhide HST, by omega, _, _, _, unhide Q, unhide HE', by omega⟩
        · have hw := reset_at (unhide HA) hok (unhide HE) x.off
          have HST := hide ((stb_reset hok x.off).more x.dn)
          clear hout hok hfew nK nE' hxd
          as_aux_lemma =>
          go_wp2_with fail
          refine hw.mono ?_
          rintro e Y ⟨rfl, bk'', vh'', E'', h1, h2, h3⟩
          have Q := hide (And.intro h1 (And.intro h2 h3))
          clear hw h1 h2 h3
          generalize resetN S x.off = nn at *
          generalize resetE S x.off = ff at *
          go_wp2_with fail
          go_meet
          case rel => exact ⟨_, _, _, 0, _, rfl, rfl, rfl, rfl, unhide HST, by omega, _, _, _, (unhide Q).1, (unhide Q).2.1, by have := (unhide Q).2.2; omega⟩
        · have HST := hide (stb_self hok x.dn)
          clear hout hok hfew nK nE' hxd
          as_aux_lemma =>
          go_wp2_with fail
          go_meet
          case rel => exact ⟨_, 0, 0, 0, _, rfl, rfl, rfl, rfl, unhide HST, by omega, _, _, _, unhide HA, unhide HE, by omega⟩
      case rest =>
        obtain ⟨S', nn, ff, got, Y, rfl, rfl, rfl, rfl, HS⟩ := hcut
        obtain ⟨hst, hgot, bk2, vh2, E2, hA2, hE2, nE2⟩ := unhide HS
        have hok2 := hst.ok
        have hI := unhide HI
        have nK2 : S'.K.length ≤ 100000000 := by have := hst.len; have := hI.len; have := unhide HLT; omega
        have hv := view_at hA2 hok2 nK2
        have NX : Hid (∀ Z, Y.grownBy Z none → BR W1 limit b (tot ol (k + 1)) (k + 1) Z S') := fun Z g => ⟨⟨bk2, vh2, E2, hA2.grown g, hE2, by have := unhide NE; have := unhide HT; omega⟩, hok2, by have := hst.len; have := hI.len; omega, by
          have h := hst.few _ hI.few
          rwa [show (tot ol k).toNat + x.dn = (tot ol (k + 1)).toNat by have := unhide HT; omega] at h, by have := hst.lm; have := hI.lm; omega⟩
        have a1 := hok2.hl; have a2 := hok2.lm; have a3 := hok2.rh; have a4 := hok2.r0
        have a5 := cnt_read hok2
        have a6 := hst.hi; have a7 := hst.rd; have a8 := hst.n0
        have a9 : limit ≤ S'.limit := by have := hst.lm; have := hI.lm; omega
        have b0 := hok.r0; have b1 := hok.rh
        have ws : IntKind.i64.wrap (S.high + nn) = S'.high := by rw [IntKind.wrap_i64]; omega
        have w2 : IntKind.i64.wrap (S'.limit - S'.read) = S'.limit - S'.read := by rw [IntKind.wrap_i64]; omega
        have w3 : IntKind.i64.wrap (S.read + (got : Int)) = S'.read := by rw [IntKind.wrap_i64]; omega
        have w4 : IntKind.i64.wrap (S'.read - 1) = S'.read - 1 := by rw [IntKind.wrap_i64]; omega
        have z0 : ¬ nn < 0 := by omega
        have z1 : ¬ S'.limit < S'.high := by omega
        have z2 : ¬ S'.limit - S'.read < cnt S'.K - S'.read := by omega
        have z3 : ¬ cnt S'.K - S'.read < 0 := by omega
        have z4 : ¬ S'.limit < limit := by omega
        have z5 : 0 ≤ S'.final → ¬ S'.final < S'.high := fun q => by have := hok2.fin; omega
        have HH := hide (fun q => head_run hok2 q)
        have hnf := hst.nf
        have hkb : KB k := by have := unhide HLT; unfold KB; omega
        clear HS hst hok2 hI hA2 hE2 nE2 a1 a2 a3 a4 a5 a6 a7 a8 a9 b0 b1 nK2 hgot x0 x2 x3 x4 x5 hout nK nE' hok hfew hxd hkk HXO HRD HE HA NE HT HI hc hcap hlen1 htot
        have HV : Hid (∀ vr, rviewC S' vr = #[.int .i64 S'.limit, .int .i64 S'.read, .int .i64 S'.high, .int .i64 S'.final, .int .i64 (cnt S'.K - S'.read), vr, .bool S'.ended, .bool S'.reset]) := fun vr => rfl
        have kp1 : Hid (∀ Y1 vr, Row Y1 vr S'.K → ∃ a c, vr = .slice a S'.K.length c ∧ (0 < S'.read → ∃ g d e, a = some ⟨g, 0, none⟩ ∧ Y1.cell? ⟨g, 0, none⟩ = some (.int .i64 0) ∧ Y1.cell? ⟨g, 1, none⟩ = some (.int .i64 d) ∧ ¬ d < S'.read - 1 ∧ S'.K.length = e + 1)) := fun Y1 vr r1 => by
          obtain ⟨a3, c3, rfl, q⟩ := r1.shape
          refine ⟨a3, c3, rfl, fun hr => ?_⟩
          obtain ⟨s, L, e, e1, e2⟩ := unhide HH hr
          rcases q with q | ⟨g, rfl, q⟩
          · rw [e] at q; cases q
          · have := q 0 (by rw [e]; simp)
            rw [e] at this
            simp at this
            exact ⟨g, s.2, L.length, rfl, by rw [← e1]; exact this.1, this.2, by omega, by rw [e]; rfl⟩
        go_upto_region 25 with fail
        go_cut [125] from 47 to 213 (fun v wc => v = .bool false ∧ wc = Y)
        case first =>
          clear HV kp1 HH NX hv z1 z2 z3 z4 z5 ws w2 w3 w4
          by_cases hff : ff = 0
          · subst hff
            clear hnf
            as_aux_lemma =>
              go_wp2_with fail
              go_meet
              case rel => exact ⟨rfl, rfl⟩
          · obtain rfl := hnf hff
            clear hnf
            as_aux_lemma =>
              go_wp2_with fail
              go_meet
              case rel => exact ⟨rfl, rfl⟩
        case rest =>
          obtain ⟨rfl, hwc⟩ := hcut
          replace hwc := hwc.symm
          subst hwc
          clear hnf z0
          go_wp2_with fail
          refine hv.mono ?_
          rintro e Y1 ⟨vr, rfl, r1, f1, gv⟩
          obtain ⟨a3, c3, rfl, hd⟩ := unhide kp1 Y1 _ r1
          obtain ⟨Y2, hY2⟩ : ∃ Y2, Y2 = Y1.alloc (.cells (rviewC S' (.slice a3 S'.K.length c3)) 38) := ⟨_, rfl⟩
          have gY2 : Y1.grownBy Y2 none := by rw [hY2]; exact grown_alloc _ _
          have bv2 : Blk Y2 Y1.heap.size (rviewC S' (.slice a3 S'.K.length c3)) 38 := by rw [hY2]; exact Blk.new _ _ _
          have GG : Hid (Y.grownBy Y2 none) := grown_trans gv gY2
          obtain ⟨m0, m1, m2, m3, m4, m5⟩ : Y2.cell? ⟨Y1.heap.size, 0, none⟩ = some (.int .i64 S'.limit) ∧ Y2.cell? ⟨Y1.heap.size, 1, none⟩ = some (.int .i64 S'.read) ∧ Y2.cell? ⟨Y1.heap.size, 2, none⟩ = some (.int .i64 S'.high) ∧ Y2.cell? ⟨Y1.heap.size, 3, none⟩ = some (.int .i64 S'.final) ∧ Y2.cell? ⟨Y1.heap.size, 4, none⟩ = some (.int .i64 (cnt S'.K - S'.read)) ∧ Y2.cell? ⟨Y1.heap.size, 5, none⟩ = some (.slice a3 S'.K.length c3) := ⟨bv2.cell 0 _ rfl, bv2.cell 1 _ rfl, bv2.cell 2 _ rfl, bv2.cell 3 _ rfl, bv2.cell 4 _ rfl, bv2.cell 5 _ rfl⟩
          have hd2 : 0 < S'.read → ∃ g d e, a3 = some ⟨g, 0, none⟩ ∧ Y2.cell? ⟨g, 0, none⟩ = some (.int .i64 0) ∧ Y2.cell? ⟨g, 1, none⟩ = some (.int .i64 d) ∧ ¬ d < S'.read - 1 ∧ S'.K.length = e + 1 := fun hr => by
            obtain ⟨g, d, e, e1, e2, e3, e4⟩ := hd hr
            exact ⟨g, d, e, e1, cell_grown e2 gY2, cell_grown e3 gY2, by have := e4.1; omega, e4.2⟩
          replace hd2 := hide hd2
          rw [unhide HV] at hY2 ⊢
          clear hv r1 f1 gv bv2 gY2 hd kp1 HH HV
          generalize cnt S'.K - S'.read = hl at *
          generalize S'.K.length = kl at *
          have MM := hide (And.intro m0 (And.intro m1 (And.intro m2 (And.intro m3 (And.intro m4 m5)))))
          clear m0 m1 m2 m3 m4 m5
          go_upto_region 29 with fail
          rw [← hY2]
          replace hY2 := hide hY2
          obtain ⟨m0, m1, m2, m3, m4, m5⟩ := unhide MM
          generalize Y1.heap.size = vb at *
          clear hY2
          go_cut [182] from 47 to 213 (fun v wc => v = .bool false ∧ wc = Y2)
          case first =>
            clear NX GG hd2 m5 MM HLT hkb
            by_cases hfi : 0 ≤ S'.final
            · have z6 := z5 hfi
              clear z5
              as_aux_lemma =>
                go_wp2_with fail
                go_meet
                case rel =>
                  refine ⟨?_, rfl⟩
                  simp only [Value.bool.injEq, Bool.or_eq_false_iff, decide_eq_false_iff_not]
                  omega
            · clear z5
              as_aux_lemma =>
                go_wp2_with fail
                go_meet
                case rel =>
                  refine ⟨?_, rfl⟩
                  simp only [Value.bool.injEq, Bool.or_eq_false_iff, decide_eq_false_iff_not]
                  omega
          case rest =>
            obtain ⟨rfl, hwc⟩ := hcut
            replace hwc := hwc.symm
            subst hwc
            clear z1 z2 z3 z4 z5 w2 w3 m0 m2 m3 m4
            go_upto_region 31 with fail
            go_cut [210] from 47 to 213 (fun v wc => ∃ q : Nat, v = .bool false ∧ wc = Y2.drewN q)
            case first =>
              clear NX GG HLT hkb MM
              by_cases hre : 0 < S'.read
              · obtain ⟨g, d, e, rfl, c0, c1, hd1, rfl⟩ := unhide hd2 hre
                clear hd2
                have hd3 : decide (d < S'.read - 1) = false := decide_eq_false (by omega)
                have he1 : ((((e + 1 : Nat) : Int)) == 0) = false := by simp; omega
                have he2 : (0 : Int) < ((e + 1 : Nat) : Int) := by omega
                have hre2 : decide (0 < S'.read) = true := decide_eq_true hre
                as_aux_lemma =>
                  go_wp2_with fail
                  go_quiet (fail)
                  go_wp2_with fail
                  go_meet
                  case rel => exact ⟨_, rfl, rfl⟩
              · clear hd2
                have hre2 : decide (0 < S'.read) = false := decide_eq_false hre
                as_aux_lemma =>
                  go_wp2_with fail
                  go_quiet (fail)
                  go_wp2_with fail
                  go_meet
                  case rel => exact ⟨_, rfl, rfl⟩
            case rest =>
              obtain ⟨q, rfl, hwc⟩ := hcut
              subst hwc
              clear hd2
              go_wp2_with fail
              refine ⟨⟨k + 1, S', unhide HLT, rfl, rfl, k_next hkb, hide (unhide NX _ (grown_drewS (unhide GG) _))⟩, ?_⟩
              rw [k_next hkb]
              have := unhide HLT
              simp only [intOf]
              omega
    · obtain rfl : k = len := by omega
      have hno : ¬ (k : Int) < (k : Int) := by omega
      have hG : Hid (w.grownBy X none) := by
        obtain ⟨bk', vh, E, hA, -⟩ := (unhide I).ex
        exact grown_trans (unhide G1) (kp_none hA.kp)
      clear I
      go_wp2_with fail
      go_ret
      exact ⟨rfl, unhide hG⟩
end Go.Proofs.Ythihabjegpacaaa

namespace Go.Proofs.Ythihabjegpacaaa
open Go.ChangeShapes Go.WideShapes Go.ChangeAt Go.RowKit
set_option linter.unusedVariables false
set_option maxRecDepth 100000

theorem bounds_walk (limit : Int) (oa : Option Addr) (len ocap : Nat) (ol : List OpE) (w : World) (hops : IsOps w oa len ocap ol) (hlen : len ≤ 1048576) (htot : tot ol len ≤ 1048576) (hb : ∀ x ∈ ol, x.dn ≤ 1048576) :
    Calls Try.prog 4 #[.int .i64 limit, .slice oa len ocap] w fun e w' => e = .returned (.bool true) ∧ w.grownBy w' none := by
  by_cases hc : 0 ≤ limit ∧ limit ≤ 4611686018427387903
  · exact bounds_good limit oa len ocap ol w hops hlen htot hb hc
  · exact bounds_bad limit oa len ocap w hc

namespace recvBoundsFrame

theorem own : ownKnob Try.prog.godebug = none := by kernel_rfl
theorem laidOut : laidOutB Try.prog = true := by kernel_rfl

set_option maxRecDepth 100000 in
theorem lifted (os : Os) (started : os.Started) (H : Type) (enc : TypeId × Value → H) (F : Stop.Interp) :
    ReturnsInHanded {} Try.checked os 4 .any ((Rows.OpenSpec.upto Rows.recvBoundsSpec).pre6 enc Try.prog Try.f4 Rows.recvBoundsUptoRow.domain false) (((Rows.OpenSpec.upto Rows.recvBoundsSpec).at F).post enc Try.prog Try.f4 false true false false) := by
  refine returnsInHanded_of_cond_sized (C := Try.checked) (s := Rows.OpenSpec.upto Rows.recvBoundsSpec) (k := Rows.uptoSmall) rfl own started (by kernel_rfl) Try.func4
    (OpenSpec.witness (enc := enc) (C := Try.checked) (s := Rows.OpenSpec.upto Rows.recvBoundsSpec) (k := Rows.uptoSmall) rfl false ⟨#[], #[.int .i64 0, .slice none 0 0], []⟩ 8 (by kernel_rfl) (by kernel_rfl) (by kernel_rfl)
      (x := ([.lit (.int .i64 0), .nil], [], [])) (by kernel_rfl) rfl (by kernel_rfl)) ?_
  intro W base args ds gs before hval0 hW hcnd hk hsz0 _
  have hsz : (DataW.weightsEach Try.prog (Try.f4.params.toList ++ (Rows.OpenSpec.upto Rows.recvBoundsSpec).bare.plain.varTypes Try.prog) (ds ++ gs)).all (· ≤ reachBytes) = true := hsz0
  have hval : ∀ (j : Nat) t v, Try.f4.params[j]? = some t → args[j]? = some v → Value.okWide Try.prog W .any base t v := hval0
  have hW' := hW
  obtain ⟨p, q, hA0, hV, rfl, hfz, hnd⟩ := hW
  have hA : DataW.TrodAll enc Try.prog W 0 (fun _ => true) true Try.f4.params.toList args.toList ds p := hA0
  rw [Try.params4] at hA hval hsz
  obtain ⟨v0, vs0, d0, ds0, p0, q0, hargs, rfl, rfl, h0, r0⟩ := trodAll_cons hA
  obtain ⟨v1, vs1, d1, ds1, p1, q1, rfl, rfl, rfl, h1, r1⟩ := trodAll_cons r0
  obtain ⟨rfl, rfl, rfl⟩ := trodAll_nil r1
  obtain rfl : args = #[v0, v1] := by cases args; simp_all
  obtain ⟨rfl, rfl⟩ := trodVars_none hV
  have k0 := h0
  have lt0 : ∀ x ∈ p0, x.block < W.heap.size := by obtain ⟨m, hm⟩ := k0; exact DataW.trod_lt m _ _ _ hm
  obtain ⟨a0, rfl, rfl, rfl, w0⟩ := open_int Try.underlying2 (hval 0 2 v0 rfl rfl) h0
  have k1 := h1
  have lt1 : ∀ x ∈ p1, x.block < W.heap.size := by obtain ⟨m, hm⟩ := k1; exact DataW.trod_lt m _ _ _ hm
  obtain ⟨a1, len1, cap1, rfl⟩ := okWide_slice Try.underlying41 (hval 1 41 v1 rfl rfl)
  obtain ⟨ol1, w1, b1, t1, m1⟩ : ∃ ol, IsOps W a1 len1 cap1 ol ∧ len1 ≤ 1048576 ∧ tot ol len1 ≤ 1048576 ∧ ∀ x ∈ ol, x.dn ≤ 1048576 := by
    obtain ⟨fuel, hf⟩ := h1
    exact open_ops_bulk (x := (d1, p1)) (by simpa [Value.cells] using hf) (fun k hk => by
      have := List.all_eq_true.1 hsz k (DataW.weights_mem_each (j := 1) (t := 41) (d := d1) rfl rfl k hk)
      simpa using this) (bulk_mem hk (d := d1) (by simp))
  clear hA0 hval0
  refine (bounds_walk a0 a1 len1 cap1 ol1 W w1 b1 t1 m1).mono fun e W' ⟨he, gr⟩ => ?_
  have bel : Below W.heap.size W W' := (Below.refl _ W).grown gr (Nat.le_refl _) (fun k hk => by cases hk)
  subst he
  exact ⟨_, rfl, _, _, _, [], _, [], hW', trodAll_mk1 (shut_bool Try.underlying4 _), (trodAll_cons_mk (shut_int Try.underlying2 w0) (trodAll_cons_mk (Below.trod laidOut (by kernel_rfl) (of_decide_eq_true (by kernel_rfl)) k1 bel lt1) trodAll_mk0)), rfl, bel.frame _, fun h => by cases h⟩

theorem over : Rows.recvBoundsUptoRow.holds Try.pinned (Rows.OpenSpec.upto Rows.recvBoundsSpec) :=
  OpenClaim.holds_of_cond 4 Try.f4 rfl rfl rfl rfl rfl rfl rfl ⟨rfl, rfl, rfl, rfl, rfl⟩ rfl rfl rfl rfl rfl (by kernel_rfl) Try.func4 (by kernel_rfl)
    (of_decide_eq_true (by kernel_rfl)) (by unfold Func.isWrapper; first | (rw [if_pos (by decide +kernel)]; kernel_rfl) | (rw [if_neg (by decide +kernel)]; exact ⟨rfl, rfl⟩))
    (fun os started H enc _ F => lifted os started H enc F)
end recvBoundsFrame

/-- THE STATEMENT -/
theorem recvBounds_holds : Rows.RecvBoundsUptoSaid := recvBoundsFrame.over
end Go.Proofs.Ythihabjegpacaaa
