/- V2U, V2V, V2W, V2X, PGPla, one text. -/
import Derived.Test.YthihabjegpacaaaGreatPGPlaD
import Derived.Deep.RegionHeld3
import Derived.ProofKit
import Derived.OpenShut
import Derived.ShutString
import Derived.ChangeOld
import Derived.SizedLaws
import Derived.JoinedCond
import Derived.Deep.CondSized
namespace Go.Proofs.YthihabjegpacaaaGreat
open Go.RowKit
set_option linter.unusedVariables false
set_option maxHeartbeats 4000000
set_option maxRecDepth 100000


set_option maxHeartbeats 8000000 in
theorem plays_11 (cap oth : Int) (oa : Option Addr) (len ocap : Nat) (ol : List OpE) (w : World) (hops : IsOps w oa len ocap ol) (hlen : len ≤ 1048576) (htot : tot ol len ≤ 1048576) (hb : ∀ x ∈ ol, x.dn ≤ 1048576) (hc : (0 ≤ cap ∧ cap ≤ 4611686018427387903)) (hd : (0 ≤ oth ∧ oth ≤ 4611686018427387903)) :
    Calls Tryz.prog 3 #[.int .i64 cap, .int .i64 oth, .slice oa len ocap] w fun e w' => e = .returned (.bool true) ∧ w.grownBy w' none := by
  have hcell := hops.cell
  have hopok := hops.ok
  have hol := hops.hlen
  have hocap := hops.hcap
  clear hops
  have hsh := shown_ok w
  go_enter Tryz.func3, Tryz.ntmps3
  go_wp2_with fail
  refine hsh.mono ?_
  rintro e W0 ⟨rfl, g0⟩
  clear hsh
  have hn := new_at cap W0 hc
  go_wp2_with fail
  refine hn.mono ?_
  rintro e W1 ⟨b1, bk1, rfl, hA1⟩
  have A1 := hide hA1
  have G1 : Hid (W0.grownBy W1 none) := kp_none hA1.kp
  clear hn hA1
  have hn := new_at oth W1 hd
  go_wp2_with fail
  refine hn.mono ?_
  rintro e W2 ⟨b2, bk2, rfl, hA2⟩
  have A2 := hide hA2
  have G2 : Hid (W1.grownBy W2 none) := kp_none hA2.kp
  clear hn hA2
  have hn := rnew_ok cap W2 hc
  obtain ⟨r1, hr1⟩ : ∃ r1, r1 = W2.heap.size := ⟨_, rfl⟩
  rw [← hr1] at hn
  go_wp2_with fail
  refine hn.mono ?_
  rintro e W3 ⟨rfl, hR1, gR1⟩
  have R1 := hide hR1
  have HR1 := hide hr1
  have G3 : Hid (W2.grownBy W3 none) := gR1
  clear hn hR1 gR1 hr1
  have hn := rnew_ok oth W3 hd
  obtain ⟨r2, hr2⟩ : ∃ r2, r2 = W3.heap.size := ⟨_, rfl⟩
  rw [← hr2] at hn
  go_wp2_with fail
  refine hn.mono ?_
  rintro e W4 ⟨rfl, hR2, gR2⟩
  have R2 := hide hR2
  have HR2 := hide hr2
  have G4 : Hid (W3.grownBy W4 none) := gR2
  clear hn hR2 gR2 hr2
  obtain ⟨X0, hX0⟩ : ∃ X0, X0 = W4.alloc (.cells #[.slice none 0 0, .slice none 0 0, .string ⟨#[]⟩, .int .i64 0, .int .i64 0, .int .i64 0, .int .i64 0, .int .i64 0, .slice none 0 0, .bool false, .bool false, .int .i64 0, .int .i64 0, .int .i64 0, .int .i64 0, .int .i64 0, .slice none 0 0, .bool false, .bool false] 38) := ⟨_, rfl⟩
  have gX : W4.grownBy X0 none := by rw [hX0]; exact grown_alloc _ _
  have ow : OW X0 W4.heap.size (fun g => g = W4.heap.size) 0 := by rw [hX0]; exact ow_new _
  have gall : w.grownBy X0 none := grown_trans g0 (grown_trans (unhide G1) (grown_trans (unhide G2) (grown_trans (unhide G3) (grown_trans (unhide G4) (gX)))))
  have z0 := g0.size
  have z1 := (unhide G1).size
  have z2 := (unhide G2).size
  have z3 := (unhide G3).size
  have z4 := (unhide G4).size
  have z5 := (gX).size
  have zX : X0.heap.size = W4.heap.size + 1 := by rw [hX0]; exact alloc_size _ _
  have n1 := unhide HR1
  have m1 := (unhide R1).blk.lt
  obtain ⟨Pa, p1, pa⟩ := pr_new (unhide A1) (grown_trans (unhide G2) (grown_trans (unhide G3) (grown_trans (unhide G4) (gX)))) (unhide R1) (by omega) (grown_trans (unhide G4) (gX)) hc
  have n2 := unhide HR2
  have m2 := (unhide R2).blk.lt
  obtain ⟨Pb, p2, pb⟩ := pr_new (unhide A2) (grown_trans (unhide G3) (grown_trans (unhide G4) (gX))) (unhide R2) (by omega) (gX) hd
  have I0 : Hid (WJ w X0 (fun _ => False) (some (b1, r1)) (some (b2, r2)) W4.heap.size 0 0 0) := by
    refine ⟨Pa, Pb, fun g => g = W4.heap.size, fun b r e => ?_, fun b r e => ?_, ow, fun g q z => ?_, fun g q z => ?_, fun g q z => ?_, fun g q => ?_, fun g q => ?_, fun g q => ?_, gall, fun g q => q.elim⟩
    · cases e; exact ⟨_, p1⟩
    · cases e; exact ⟨_, p2⟩
    · rcases pa g q with q | q <;> rcases pb g z with z | z <;> omega
    · rcases pa g q with q | q <;> omega
    · rcases pb g q with q | q <;> omega
    · rcases pa g q with q | q <;> constructor <;> omega
    · rcases pb g q with q | q <;> constructor <;> omega
    · omega
  clear g0 ow gX gall z0 zX z1 z2 z3 z4 z5 A1 G1 R1 G3 HR1 p1 pa n1 m1 A2 G2 R2 G4 HR2 p2 pb n2 m2
  obtain ⟨ob, hob⟩ : ∃ ob, ob = W4.heap.size := ⟨_, rfl⟩
  rw [← hob] at I0
  go_upto_region 9 with fail
  rw [← hX0, ← hob]
  clear hX0 hob
  have HC := hide hcell
  have HO := hide hopok
  have HL := hide hol
  have HT := hide htot
  have HB := hide hb
  clear hcell hopok hol htot hb
  go_wp2_with fail
  go_loopw [17, 18] (fun i ok X => ∃ k : Nat, k ≤ len ∧ i = .int .i64 k ∧ Hid (WJ w X (fun _ => False) (some (b1, r1)) (some (b2, r2)) ob (2 * k) (tot ol k).toNat k)) (fun i _ _ => len - (intOf i).toNat)
  case atStart => exact ⟨0, Nat.zero_le _, rfl, I0⟩
  case round =>
    clear I0
    obtain ⟨k, hk, rfl, I⟩ := hrel
    by_cases hlt : k < len
    · have hI := unhide I
      have hkl : k < ol.length := by rw [unhide HL]; exact hlt
      obtain ⟨x, hx⟩ : ∃ x, ol[k]? = some x := ⟨_, List.getElem?_eq_getElem hkl⟩
      have hxo := unhide HO x (List.mem_of_getElem? hx)
      have hxb := unhide HB x (List.mem_of_getElem? hx)
      have hT1 : Hid (tot ol (k + 1) = tot ol k + (x.dn : Int)) := tot_at hx
      have hT2 : tot ol k ≤ 1048576 := Int.le_trans (tot_le ol (Nat.le_of_lt hlt)) (unhide HT)
      have hT0 := tot_nn ol k
      obtain ⟨sb, soff, rfl, hcells⟩ := (unhide HC).resolve_left (by omega)
      have cx : ∀ j v, x.cs[j]? = some v → wr.cell? ⟨sb, soff + k * 6 + j, none⟩ = some v := fun j v hj => cell_grown (hcells k x hx j v hj) hI.gr
      have x0 := cx 0 _ rfl
      have x1 := cx 1 _ rfl
      have x2 := cx 2 _ rfl
      have x3 := cx 3 _ rfl
      have x4 := cx 4 _ rfl
      have x5 := cx 5 _ rfl
      rw [Nat.add_zero] at x0
      have hkn : (k : Int) < (len : Int) := by omega
      have kw : IntKind.i64.wrap ((k : Int) + 1) = ((k + 1 : Nat) : Int) := by rw [IntKind.wrap_i64]; omega
      have NXT : Hid (∀ Y, WJ w Y (fun _ => False) (some (b1, r1)) (some (b2, r2)) ob (2 * k + 2) ((tot ol k).toNat + x.dn) (k + 1) → WJ w Y (fun _ => False) (some (b1, r1)) (some (b2, r2)) ob (2 * (k + 1)) (tot ol (k + 1)).toNat (k + 1)) := fun Y h => h.mono (by omega) (by rw [unhide hT1]; omega) (by omega)
      have NXS : Hid (WJ w wr (fun _ => False) (some (b1, r1)) (some (b2, r2)) ob (2 * (k + 1)) (tot ol (k + 1)).toNat (k + 1)) := hI.mono (by omega) (by rw [unhide hT1]; omega) (by omega)
      have st1 := hI.step x hxo hxb (by omega) (by omega) (by omega)
      have st2 := hI.swap.step x hxo hxb (by omega) (by omega) (by omega)
      clear cx hcells hI hxo hxb hT2 hT0 hkl
      have HX := hide hx
      have HLT := hide hlt
      clear hx
      cases hoth : x.other with
      | true =>
        rw [hoth] at x1 st1 st2
        go_wp2_with fail
        refine st2.mono ?_
        rintro e Y ⟨rfl, hY, -⟩
        have HY : Hid (WJ w Y (fun _ => False) (some (b1, r1)) (some (b2, r2)) ob (2 * (k + 1)) (tot ol (k + 1)).toNat (k + 1)) := unhide NXT Y hY.swap
        clear st2 hY
        go_wp2_with fail
        all_goals exact ⟨⟨k + 1, by omega, by simp [*], HY⟩, by simp [intOf]; omega⟩
      | false =>
        rw [hoth] at x1 st1 st2
        go_wp2_with fail
        refine st1.mono ?_
        rintro e Y ⟨rfl, hY, -⟩
        have HY : Hid (WJ w Y (fun _ => False) (some (b1, r1)) (some (b2, r2)) ob (2 * (k + 1)) (tot ol (k + 1)).toNat (k + 1)) := unhide NXT Y hY
        clear st1 hY
        go_wp2_with fail
        all_goals exact ⟨⟨k + 1, by omega, by simp [*], HY⟩, by simp [intOf]; omega⟩
    · obtain rfl : k = len := by omega
      have hI := unhide I
      have hT2 := unhide HT
      have hnk : ¬ (k : Int) < (k : Int) := by omega
      obtain ⟨V1, hV1⟩ : ∃ V1, V1 = wr.alloc (.cells #[.int .i64 4, .bool false, .int .i64 0, .slice none 0 0, .bool false, .int .i64 0] 40) := ⟨_, rfl⟩
      obtain ⟨V2, hV2⟩ : ∃ V2, V2 = V1.alloc (.cells #[.int .i64 1, .bool false, .int .i64 0, .slice none 0 0, .bool false, .int .i64 1099511627776] 40) := ⟨_, rfl⟩
      have gv1 : wr.grownBy V1 none := by rw [hV1]; exact grown_alloc _ _
      have gv2 : V1.grownBy V2 none := by rw [hV2]; exact grown_alloc _ _
      have bv : Blk V1 wr.heap.size #[.int .i64 4, .bool false, .int .i64 0, .slice none 0 0, .bool false, .int .i64 0] 40 := by rw [hV1]; exact Blk.new _ _ _
      have bn : Blk V2 V1.heap.size #[.int .i64 1, .bool false, .int .i64 0, .slice none 0 0, .bool false, .int .i64 1099511627776] 40 := by rw [hV2]; exact Blk.new _ _ _
      obtain ⟨gl, hgl⟩ : ∃ gl, gl = wr.heap.size := ⟨_, rfl⟩
      obtain ⟨gn, hgn⟩ : ∃ gn, gn = V1.heap.size := ⟨_, rfl⟩
      have sv1 := bv.lt
      have sv2 := bn.lt
      have BV : Hid (∀ Y, Y.heap[gl]? = V2.heap[gl]? → Blk Y gl #[.int .i64 4, .bool false, .int .i64 0, .slice none 0 0, .bool false, .int .i64 0] 40) := fun Y e => e.trans (by rw [hgl]; exact bv.grown gv2)
      have BN : Hid (∀ Y, Y.heap[gn]? = V2.heap[gn]? → Blk Y gn #[.int .i64 1, .bool false, .int .i64 0, .slice none 0 0, .bool false, .int .i64 1099511627776] 40) := fun Y e => e.trans (by rw [hgn]; exact bn)
      have hJ0 := ((hI.made gv1).made gv2).mono (N' := 2 * k) (t' := 1048576) (k' := k) (Nat.le_refl _) (by omega) (Nat.le_refl _)
      have LV : Hid (((False ∨ wr.heap.size ≤ gl ∧ gl < V1.heap.size) ∨ V1.heap.size ≤ gl ∧ gl < V2.heap.size)) := .inl (.inr ⟨by omega, by omega⟩)
      have LN : Hid (((False ∨ wr.heap.size ≤ gn ∧ gn < V1.heap.size) ∨ V1.heap.size ≤ gn ∧ gn < V2.heap.size)) := .inr ⟨by omega, by omega⟩
      have HJ := hide hJ0
      have KV : Hid True := trivial
      have KN : Hid True := trivial
      clear I hI hJ0 gv1 gv2 bv bn sv1 sv2
      go_upto_region 19 with fail
      rw [← hV1, ← hgl]
      replace hV1 := hide hV1
      replace hgl := hide hgl
      go_upto_region 20 with fail
      rw [← hV2, ← hgn]
      clear hgn hV1 hV2
      have HH := hide hT2
      obtain ⟨c0, c1, c2, c3, c4, c5⟩ : V2.cell? ⟨gn, 0, none⟩ = some (.int .i64 1) ∧ V2.cell? ⟨gn, 1, none⟩ = some (.bool false) ∧ V2.cell? ⟨gn, 2, none⟩ = some (.int .i64 0) ∧ V2.cell? ⟨gn, 3, none⟩ = some (.slice none 0 0) ∧ V2.cell? ⟨gn, 4, none⟩ = some (.bool false) ∧ V2.cell? ⟨gn, 5, none⟩ = some (.int .i64 1099511627776) := by
        have q := unhide BN V2 rfl
        exact ⟨q.cell 0 _ rfl, q.cell 1 _ rfl, q.cell 2 _ rfl, q.cell 3 _ rfl, q.cell 4 _ rfl, q.cell 5 _ rfl⟩
      have st := (unhide HJ).step xN (xN_ok w) (by decide) (by decide) (by omega) (by omega)
      unfold xN at st
      go_wp2_with fail
      refine st.mono ?_
      rintro e Y0 ⟨rfl, hY, kY⟩
      have KV' : Hid (Y0.heap[gl]? = V2.heap[gl]?) := (kY gl (unhide LV))
      have KN' : Hid (Y0.heap[gn]? = V2.heap[gn]?) := (kY gn (unhide LN))
      replace HJ := hide hY
      clear st hY kY c0 c1 c2 c3 c4 c5 KV KN
      have KV := KV'
      have KN := KN'
      clear KV' KN'
      obtain ⟨c0, c1, c2, c3, c4, c5⟩ : Y0.cell? ⟨gl, 0, none⟩ = some (.int .i64 4) ∧ Y0.cell? ⟨gl, 1, none⟩ = some (.bool false) ∧ Y0.cell? ⟨gl, 2, none⟩ = some (.int .i64 0) ∧ Y0.cell? ⟨gl, 3, none⟩ = some (.slice none 0 0) ∧ Y0.cell? ⟨gl, 4, none⟩ = some (.bool false) ∧ Y0.cell? ⟨gl, 5, none⟩ = some (.int .i64 0) := by
        have q := unhide BV Y0 (unhide KV)
        exact ⟨q.cell 0 _ rfl, q.cell 1 _ rfl, q.cell 2 _ rfl, q.cell 3 _ rfl, q.cell 4 _ rfl, q.cell 5 _ rfl⟩
      have st := (unhide HJ).step xV (xV_ok w) (by decide) (by decide) (by omega) (by omega)
      unfold xV at st
      go_wp2_with fail
      refine st.mono ?_
      rintro e Y1 ⟨rfl, hY, kY⟩
      have KV' : Hid (Y1.heap[gl]? = V2.heap[gl]?) := (kY gl (unhide LV)).trans (unhide KV)
      have KN' : Hid (Y1.heap[gn]? = V2.heap[gn]?) := (kY gn (unhide LN)).trans (unhide KN)
      replace HJ := hide hY
      clear st hY kY c0 c1 c2 c3 c4 c5 KV KN
      have KV := KV'
      have KN := KN'
      clear KV' KN'
      obtain ⟨c0, c1, c2, c3, c4, c5⟩ : Y1.cell? ⟨gn, 0, none⟩ = some (.int .i64 1) ∧ Y1.cell? ⟨gn, 1, none⟩ = some (.bool false) ∧ Y1.cell? ⟨gn, 2, none⟩ = some (.int .i64 0) ∧ Y1.cell? ⟨gn, 3, none⟩ = some (.slice none 0 0) ∧ Y1.cell? ⟨gn, 4, none⟩ = some (.bool false) ∧ Y1.cell? ⟨gn, 5, none⟩ = some (.int .i64 1099511627776) := by
        have q := unhide BN Y1 (unhide KN)
        exact ⟨q.cell 0 _ rfl, q.cell 1 _ rfl, q.cell 2 _ rfl, q.cell 3 _ rfl, q.cell 4 _ rfl, q.cell 5 _ rfl⟩
      have st := (unhide HJ).swap.step xN (xN_ok w) (by decide) (by decide) (by omega) (by omega)
      unfold xN at st
      go_wp2_with fail
      refine st.mono ?_
      rintro e Y2 ⟨rfl, hY, kY⟩
      have KV' : Hid (Y2.heap[gl]? = V2.heap[gl]?) := (kY gl (unhide LV)).trans (unhide KV)
      have KN' : Hid (Y2.heap[gn]? = V2.heap[gn]?) := (kY gn (unhide LN)).trans (unhide KN)
      replace HJ := hide hY.swap
      clear st hY kY c0 c1 c2 c3 c4 c5 KV KN
      have KV := KV'
      have KN := KN'
      clear KV' KN'
      obtain ⟨c0, c1, c2, c3, c4, c5⟩ : Y2.cell? ⟨gl, 0, none⟩ = some (.int .i64 4) ∧ Y2.cell? ⟨gl, 1, none⟩ = some (.bool false) ∧ Y2.cell? ⟨gl, 2, none⟩ = some (.int .i64 0) ∧ Y2.cell? ⟨gl, 3, none⟩ = some (.slice none 0 0) ∧ Y2.cell? ⟨gl, 4, none⟩ = some (.bool false) ∧ Y2.cell? ⟨gl, 5, none⟩ = some (.int .i64 0) := by
        have q := unhide BV Y2 (unhide KV)
        exact ⟨q.cell 0 _ rfl, q.cell 1 _ rfl, q.cell 2 _ rfl, q.cell 3 _ rfl, q.cell 4 _ rfl, q.cell 5 _ rfl⟩
      have st := (unhide HJ).swap.step xV (xV_ok w) (by decide) (by decide) (by omega) (by omega)
      unfold xV at st
      go_wp2_with fail
      refine st.mono ?_
      rintro e Y3 ⟨rfl, hY, kY⟩
      have KV' : Hid (Y3.heap[gl]? = V2.heap[gl]?) := (kY gl (unhide LV)).trans (unhide KV)
      have KN' : Hid (Y3.heap[gn]? = V2.heap[gn]?) := (kY gn (unhide LN)).trans (unhide KN)
      replace HJ := hide hY.swap
      clear st hY kY c0 c1 c2 c3 c4 c5 KV KN
      have KV := KV'
      have KN := KN'
      clear KV' KN'
      have by0 := (unhide HJ).bytes (by omega)
      clear HJ KV KN BV BN LV LN
      go_wp2_with fail
      refine by0.mono ?_
      rintro e Yb ⟨rfl, hYb, -⟩
      have vi0 := hYb.viewed (by omega)
      clear by0 hYb
      go_wp2_with fail
      refine vi0.mono ?_
      rintro e Yv ⟨rfl, hYv, -⟩
      have GE := hide hYv.gr
      clear vi0 hYv
      go_wp2_with fail
      all_goals go_ret
      all_goals exact ⟨rfl, unhide GE⟩
end Go.Proofs.YthihabjegpacaaaGreat

namespace Go.Proofs.YthihabjegpacaaaGreat
open Go.RowKit
set_option linter.unusedVariables false
set_option maxHeartbeats 4000000
set_option maxRecDepth 100000


set_option maxHeartbeats 8000000 in
theorem plays_10 (cap oth : Int) (oa : Option Addr) (len ocap : Nat) (ol : List OpE) (w : World) (hops : IsOps w oa len ocap ol) (hlen : len ≤ 1048576) (htot : tot ol len ≤ 1048576) (hb : ∀ x ∈ ol, x.dn ≤ 1048576) (hc : (0 ≤ cap ∧ cap ≤ 4611686018427387903)) (hd : ¬ (0 ≤ oth ∧ oth ≤ 4611686018427387903)) :
    Calls Tryz.prog 3 #[.int .i64 cap, .int .i64 oth, .slice oa len ocap] w fun e w' => e = .returned (.bool true) ∧ w.grownBy w' none := by
  have hcell := hops.cell
  have hopok := hops.ok
  have hol := hops.hlen
  have hocap := hops.hcap
  clear hops
  have hsh := shown_ok w
  go_enter Tryz.func3, Tryz.ntmps3
  go_wp2_with fail
  refine hsh.mono ?_
  rintro e W0 ⟨rfl, g0⟩
  clear hsh
  have hn := new_at cap W0 hc
  go_wp2_with fail
  refine hn.mono ?_
  rintro e W1 ⟨b1, bk1, rfl, hA1⟩
  have A1 := hide hA1
  have G1 : Hid (W0.grownBy W1 none) := kp_none hA1.kp
  clear hn hA1
  have hn := new_bad oth W1 hd
  go_wp2_with fail
  refine hn.mono ?_
  rintro e W2 ⟨rfl, hW2⟩
  subst W2
  clear hn
  have hn := rnew_ok cap W1 hc
  obtain ⟨r1, hr1⟩ : ∃ r1, r1 = W1.heap.size := ⟨_, rfl⟩
  rw [← hr1] at hn
  go_wp2_with fail
  refine hn.mono ?_
  rintro e W3 ⟨rfl, hR1, gR1⟩
  have R1 := hide hR1
  have HR1 := hide hr1
  have G3 : Hid (W1.grownBy W3 none) := gR1
  clear hn hR1 gR1 hr1
  have hn := rnew_no oth W3 hd
  go_wp2_with fail
  refine hn.mono ?_
  rintro e W4 ⟨rfl, hW4⟩
  subst W4
  clear hn
  obtain ⟨X0, hX0⟩ : ∃ X0, X0 = W3.alloc (.cells #[.slice none 0 0, .slice none 0 0, .string ⟨#[]⟩, .int .i64 0, .int .i64 0, .int .i64 0, .int .i64 0, .int .i64 0, .slice none 0 0, .bool false, .bool false, .int .i64 0, .int .i64 0, .int .i64 0, .int .i64 0, .int .i64 0, .slice none 0 0, .bool false, .bool false] 38) := ⟨_, rfl⟩
  have gX : W3.grownBy X0 none := by rw [hX0]; exact grown_alloc _ _
  have ow : OW X0 W3.heap.size (fun g => g = W3.heap.size) 0 := by rw [hX0]; exact ow_new _
  have gall : w.grownBy X0 none := grown_trans g0 (grown_trans (unhide G1) (grown_trans (unhide G3) (gX)))
  have z0 := g0.size
  have z1 := (unhide G1).size
  have z2 := (unhide G3).size
  have z3 := (gX).size
  have zX : X0.heap.size = W3.heap.size + 1 := by rw [hX0]; exact alloc_size _ _
  have n1 := unhide HR1
  have m1 := (unhide R1).blk.lt
  obtain ⟨Pa, p1, pa⟩ := pr_new (unhide A1) (grown_trans (unhide G3) (gX)) (unhide R1) (by omega) (gX) hc
  have I0 : Hid (WJ w X0 (fun _ => False) (some (b1, r1)) none W3.heap.size 0 0 0) := by
    refine ⟨Pa, (fun _ => False), fun g => g = W3.heap.size, fun b r e => ?_, fun b r e => ?_, ow, fun g q z => ?_, fun g q z => ?_, fun g q z => ?_, fun g q => ?_, fun g q => ?_, fun g q => ?_, gall, fun g q => q.elim⟩
    · cases e; exact ⟨_, p1⟩
    · cases e
    · first | exact q.elim | exact z.elim
    · rcases pa g q with q | q <;> omega
    · exact q.elim
    · rcases pa g q with q | q <;> constructor <;> omega
    · exact q.elim
    · omega
  clear g0 ow gX gall z0 zX z1 z2 z3 A1 G1 R1 G3 HR1 p1 pa n1 m1
  obtain ⟨ob, hob⟩ : ∃ ob, ob = W3.heap.size := ⟨_, rfl⟩
  rw [← hob] at I0
  go_upto_region 9 with fail
  rw [← hX0, ← hob]
  clear hX0 hob
  have HC := hide hcell
  have HO := hide hopok
  have HL := hide hol
  have HT := hide htot
  have HB := hide hb
  clear hcell hopok hol htot hb
  go_wp2_with fail
  go_loopw [17, 18] (fun i ok X => ∃ k : Nat, k ≤ len ∧ i = .int .i64 k ∧ Hid (WJ w X (fun _ => False) (some (b1, r1)) none ob (2 * k) (tot ol k).toNat k)) (fun i _ _ => len - (intOf i).toNat)
  case atStart => exact ⟨0, Nat.zero_le _, rfl, I0⟩
  case round =>
    clear I0
    obtain ⟨k, hk, rfl, I⟩ := hrel
    by_cases hlt : k < len
    · have hI := unhide I
      have hkl : k < ol.length := by rw [unhide HL]; exact hlt
      obtain ⟨x, hx⟩ : ∃ x, ol[k]? = some x := ⟨_, List.getElem?_eq_getElem hkl⟩
      have hxo := unhide HO x (List.mem_of_getElem? hx)
      have hxb := unhide HB x (List.mem_of_getElem? hx)
      have hT1 : Hid (tot ol (k + 1) = tot ol k + (x.dn : Int)) := tot_at hx
      have hT2 : tot ol k ≤ 1048576 := Int.le_trans (tot_le ol (Nat.le_of_lt hlt)) (unhide HT)
      have hT0 := tot_nn ol k
      obtain ⟨sb, soff, rfl, hcells⟩ := (unhide HC).resolve_left (by omega)
      have cx : ∀ j v, x.cs[j]? = some v → wr.cell? ⟨sb, soff + k * 6 + j, none⟩ = some v := fun j v hj => cell_grown (hcells k x hx j v hj) hI.gr
      have x0 := cx 0 _ rfl
      have x1 := cx 1 _ rfl
      have x2 := cx 2 _ rfl
      have x3 := cx 3 _ rfl
      have x4 := cx 4 _ rfl
      have x5 := cx 5 _ rfl
      rw [Nat.add_zero] at x0
      have hkn : (k : Int) < (len : Int) := by omega
      have kw : IntKind.i64.wrap ((k : Int) + 1) = ((k + 1 : Nat) : Int) := by rw [IntKind.wrap_i64]; omega
      have NXT : Hid (∀ Y, WJ w Y (fun _ => False) (some (b1, r1)) none ob (2 * k + 2) ((tot ol k).toNat + x.dn) (k + 1) → WJ w Y (fun _ => False) (some (b1, r1)) none ob (2 * (k + 1)) (tot ol (k + 1)).toNat (k + 1)) := fun Y h => h.mono (by omega) (by rw [unhide hT1]; omega) (by omega)
      have NXS : Hid (WJ w wr (fun _ => False) (some (b1, r1)) none ob (2 * (k + 1)) (tot ol (k + 1)).toNat (k + 1)) := hI.mono (by omega) (by rw [unhide hT1]; omega) (by omega)
      have st1 := hI.step x hxo hxb (by omega) (by omega) (by omega)
      clear cx hcells hI hxo hxb hT2 hT0 hkl
      have HX := hide hx
      have HLT := hide hlt
      clear hx
      cases hoth : x.other with
      | true =>
        rw [hoth] at x1 st1
        go_wp2_with fail
        all_goals exact ⟨⟨k + 1, by omega, by simp [*], NXS⟩, by simp [intOf]; omega⟩
      | false =>
        rw [hoth] at x1 st1
        go_wp2_with fail
        refine st1.mono ?_
        rintro e Y ⟨rfl, hY, -⟩
        have HY : Hid (WJ w Y (fun _ => False) (some (b1, r1)) none ob (2 * (k + 1)) (tot ol (k + 1)).toNat (k + 1)) := unhide NXT Y hY
        clear st1 hY
        go_wp2_with fail
        all_goals exact ⟨⟨k + 1, by omega, by simp [*], HY⟩, by simp [intOf]; omega⟩
    · obtain rfl : k = len := by omega
      have hI := unhide I
      have hT2 := unhide HT
      have hnk : ¬ (k : Int) < (k : Int) := by omega
      obtain ⟨V1, hV1⟩ : ∃ V1, V1 = wr.alloc (.cells #[.int .i64 4, .bool false, .int .i64 0, .slice none 0 0, .bool false, .int .i64 0] 40) := ⟨_, rfl⟩
      obtain ⟨V2, hV2⟩ : ∃ V2, V2 = V1.alloc (.cells #[.int .i64 1, .bool false, .int .i64 0, .slice none 0 0, .bool false, .int .i64 1099511627776] 40) := ⟨_, rfl⟩
      have gv1 : wr.grownBy V1 none := by rw [hV1]; exact grown_alloc _ _
      have gv2 : V1.grownBy V2 none := by rw [hV2]; exact grown_alloc _ _
      have bv : Blk V1 wr.heap.size #[.int .i64 4, .bool false, .int .i64 0, .slice none 0 0, .bool false, .int .i64 0] 40 := by rw [hV1]; exact Blk.new _ _ _
      have bn : Blk V2 V1.heap.size #[.int .i64 1, .bool false, .int .i64 0, .slice none 0 0, .bool false, .int .i64 1099511627776] 40 := by rw [hV2]; exact Blk.new _ _ _
      obtain ⟨gl, hgl⟩ : ∃ gl, gl = wr.heap.size := ⟨_, rfl⟩
      obtain ⟨gn, hgn⟩ : ∃ gn, gn = V1.heap.size := ⟨_, rfl⟩
      have sv1 := bv.lt
      have sv2 := bn.lt
      have BV : Hid (∀ Y, Y.heap[gl]? = V2.heap[gl]? → Blk Y gl #[.int .i64 4, .bool false, .int .i64 0, .slice none 0 0, .bool false, .int .i64 0] 40) := fun Y e => e.trans (by rw [hgl]; exact bv.grown gv2)
      have BN : Hid (∀ Y, Y.heap[gn]? = V2.heap[gn]? → Blk Y gn #[.int .i64 1, .bool false, .int .i64 0, .slice none 0 0, .bool false, .int .i64 1099511627776] 40) := fun Y e => e.trans (by rw [hgn]; exact bn)
      have hJ0 := ((hI.made gv1).made gv2).mono (N' := 2 * k) (t' := 1048576) (k' := k) (Nat.le_refl _) (by omega) (Nat.le_refl _)
      have LV : Hid (((False ∨ wr.heap.size ≤ gl ∧ gl < V1.heap.size) ∨ V1.heap.size ≤ gl ∧ gl < V2.heap.size)) := .inl (.inr ⟨by omega, by omega⟩)
      have LN : Hid (((False ∨ wr.heap.size ≤ gn ∧ gn < V1.heap.size) ∨ V1.heap.size ≤ gn ∧ gn < V2.heap.size)) := .inr ⟨by omega, by omega⟩
      have HJ := hide hJ0
      have KV : Hid True := trivial
      have KN : Hid True := trivial
      clear I hI hJ0 gv1 gv2 bv bn sv1 sv2
      go_upto_region 19 with fail
      rw [← hV1, ← hgl]
      replace hV1 := hide hV1
      replace hgl := hide hgl
      go_upto_region 20 with fail
      rw [← hV2, ← hgn]
      clear hgn hV1 hV2
      have HH := hide hT2
      obtain ⟨c0, c1, c2, c3, c4, c5⟩ : V2.cell? ⟨gn, 0, none⟩ = some (.int .i64 1) ∧ V2.cell? ⟨gn, 1, none⟩ = some (.bool false) ∧ V2.cell? ⟨gn, 2, none⟩ = some (.int .i64 0) ∧ V2.cell? ⟨gn, 3, none⟩ = some (.slice none 0 0) ∧ V2.cell? ⟨gn, 4, none⟩ = some (.bool false) ∧ V2.cell? ⟨gn, 5, none⟩ = some (.int .i64 1099511627776) := by
        have q := unhide BN V2 rfl
        exact ⟨q.cell 0 _ rfl, q.cell 1 _ rfl, q.cell 2 _ rfl, q.cell 3 _ rfl, q.cell 4 _ rfl, q.cell 5 _ rfl⟩
      have st := (unhide HJ).step xN (xN_ok w) (by decide) (by decide) (by omega) (by omega)
      unfold xN at st
      go_wp2_with fail
      refine st.mono ?_
      rintro e Y0 ⟨rfl, hY, kY⟩
      have KV' : Hid (Y0.heap[gl]? = V2.heap[gl]?) := (kY gl (unhide LV))
      have KN' : Hid (Y0.heap[gn]? = V2.heap[gn]?) := (kY gn (unhide LN))
      replace HJ := hide hY
      clear st hY kY c0 c1 c2 c3 c4 c5 KV KN
      have KV := KV'
      have KN := KN'
      clear KV' KN'
      obtain ⟨c0, c1, c2, c3, c4, c5⟩ : Y0.cell? ⟨gl, 0, none⟩ = some (.int .i64 4) ∧ Y0.cell? ⟨gl, 1, none⟩ = some (.bool false) ∧ Y0.cell? ⟨gl, 2, none⟩ = some (.int .i64 0) ∧ Y0.cell? ⟨gl, 3, none⟩ = some (.slice none 0 0) ∧ Y0.cell? ⟨gl, 4, none⟩ = some (.bool false) ∧ Y0.cell? ⟨gl, 5, none⟩ = some (.int .i64 0) := by
        have q := unhide BV Y0 (unhide KV)
        exact ⟨q.cell 0 _ rfl, q.cell 1 _ rfl, q.cell 2 _ rfl, q.cell 3 _ rfl, q.cell 4 _ rfl, q.cell 5 _ rfl⟩
      have st := (unhide HJ).step xV (xV_ok w) (by decide) (by decide) (by omega) (by omega)
      unfold xV at st
      go_wp2_with fail
      refine st.mono ?_
      rintro e Y1 ⟨rfl, hY, kY⟩
      have KV' : Hid (Y1.heap[gl]? = V2.heap[gl]?) := (kY gl (unhide LV)).trans (unhide KV)
      have KN' : Hid (Y1.heap[gn]? = V2.heap[gn]?) := (kY gn (unhide LN)).trans (unhide KN)
      replace HJ := hide hY
      clear st hY kY c0 c1 c2 c3 c4 c5 KV KN
      have KV := KV'
      have KN := KN'
      clear KV' KN'
      have by0 := (unhide HJ).bytes (by omega)
      clear HJ KV KN BV BN LV LN
      go_wp2_with fail
      refine by0.mono ?_
      rintro e Yb ⟨rfl, hYb, -⟩
      have vi0 := hYb.viewed (by omega)
      clear by0 hYb
      go_wp2_with fail
      refine vi0.mono ?_
      rintro e Yv ⟨rfl, hYv, -⟩
      have GE := hide hYv.gr
      clear vi0 hYv
      go_wp2_with fail
      all_goals go_ret
      all_goals exact ⟨rfl, unhide GE⟩
end Go.Proofs.YthihabjegpacaaaGreat

namespace Go.Proofs.YthihabjegpacaaaGreat
open Go.RowKit
set_option linter.unusedVariables false
set_option maxHeartbeats 4000000
set_option maxRecDepth 100000


set_option maxHeartbeats 8000000 in
theorem plays_01 (cap oth : Int) (oa : Option Addr) (len ocap : Nat) (ol : List OpE) (w : World) (hops : IsOps w oa len ocap ol) (hlen : len ≤ 1048576) (htot : tot ol len ≤ 1048576) (hb : ∀ x ∈ ol, x.dn ≤ 1048576) (hc : ¬ (0 ≤ cap ∧ cap ≤ 4611686018427387903)) (hd : (0 ≤ oth ∧ oth ≤ 4611686018427387903)) :
    Calls Tryz.prog 3 #[.int .i64 cap, .int .i64 oth, .slice oa len ocap] w fun e w' => e = .returned (.bool true) ∧ w.grownBy w' none := by
  have hcell := hops.cell
  have hopok := hops.ok
  have hol := hops.hlen
  have hocap := hops.hcap
  clear hops
  have hsh := shown_ok w
  go_enter Tryz.func3, Tryz.ntmps3
  go_wp2_with fail
  refine hsh.mono ?_
  rintro e W0 ⟨rfl, g0⟩
  clear hsh
  have hn := new_bad cap W0 hc
  go_wp2_with fail
  refine hn.mono ?_
  rintro e W1 ⟨rfl, hW1⟩
  subst W1
  clear hn
  have hn := new_at oth W0 hd
  go_wp2_with fail
  refine hn.mono ?_
  rintro e W2 ⟨b2, bk2, rfl, hA2⟩
  have A2 := hide hA2
  have G2 : Hid (W0.grownBy W2 none) := kp_none hA2.kp
  clear hn hA2
  have hn := rnew_no cap W2 hc
  go_wp2_with fail
  refine hn.mono ?_
  rintro e W3 ⟨rfl, hW3⟩
  subst W3
  clear hn
  have hn := rnew_ok oth W2 hd
  obtain ⟨r2, hr2⟩ : ∃ r2, r2 = W2.heap.size := ⟨_, rfl⟩
  rw [← hr2] at hn
  go_wp2_with fail
  refine hn.mono ?_
  rintro e W4 ⟨rfl, hR2, gR2⟩
  have R2 := hide hR2
  have HR2 := hide hr2
  have G4 : Hid (W2.grownBy W4 none) := gR2
  clear hn hR2 gR2 hr2
  obtain ⟨X0, hX0⟩ : ∃ X0, X0 = W4.alloc (.cells #[.slice none 0 0, .slice none 0 0, .string ⟨#[]⟩, .int .i64 0, .int .i64 0, .int .i64 0, .int .i64 0, .int .i64 0, .slice none 0 0, .bool false, .bool false, .int .i64 0, .int .i64 0, .int .i64 0, .int .i64 0, .int .i64 0, .slice none 0 0, .bool false, .bool false] 38) := ⟨_, rfl⟩
  have gX : W4.grownBy X0 none := by rw [hX0]; exact grown_alloc _ _
  have ow : OW X0 W4.heap.size (fun g => g = W4.heap.size) 0 := by rw [hX0]; exact ow_new _
  have gall : w.grownBy X0 none := grown_trans g0 (grown_trans (unhide G2) (grown_trans (unhide G4) (gX)))
  have z0 := g0.size
  have z1 := (unhide G2).size
  have z2 := (unhide G4).size
  have z3 := (gX).size
  have zX : X0.heap.size = W4.heap.size + 1 := by rw [hX0]; exact alloc_size _ _
  have n2 := unhide HR2
  have m2 := (unhide R2).blk.lt
  obtain ⟨Pb, p2, pb⟩ := pr_new (unhide A2) (grown_trans (unhide G4) (gX)) (unhide R2) (by omega) (gX) hd
  have I0 : Hid (WJ w X0 (fun _ => False) none (some (b2, r2)) W4.heap.size 0 0 0) := by
    refine ⟨(fun _ => False), Pb, fun g => g = W4.heap.size, fun b r e => ?_, fun b r e => ?_, ow, fun g q z => ?_, fun g q z => ?_, fun g q z => ?_, fun g q => ?_, fun g q => ?_, fun g q => ?_, gall, fun g q => q.elim⟩
    · cases e
    · cases e; exact ⟨_, p2⟩
    · first | exact q.elim | exact z.elim
    · exact q.elim
    · rcases pb g q with q | q <;> omega
    · exact q.elim
    · rcases pb g q with q | q <;> constructor <;> omega
    · omega
  clear g0 ow gX gall z0 zX z1 z2 z3 A2 G2 R2 G4 HR2 p2 pb n2 m2
  obtain ⟨ob, hob⟩ : ∃ ob, ob = W4.heap.size := ⟨_, rfl⟩
  rw [← hob] at I0
  go_upto_region 9 with fail
  rw [← hX0, ← hob]
  clear hX0 hob
  have HC := hide hcell
  have HO := hide hopok
  have HL := hide hol
  have HT := hide htot
  have HB := hide hb
  clear hcell hopok hol htot hb
  go_wp2_with fail
  go_loopw [17, 18] (fun i ok X => ∃ k : Nat, k ≤ len ∧ i = .int .i64 k ∧ Hid (WJ w X (fun _ => False) none (some (b2, r2)) ob (2 * k) (tot ol k).toNat k)) (fun i _ _ => len - (intOf i).toNat)
  case atStart => exact ⟨0, Nat.zero_le _, rfl, I0⟩
  case round =>
    clear I0
    obtain ⟨k, hk, rfl, I⟩ := hrel
    by_cases hlt : k < len
    · have hI := unhide I
      have hkl : k < ol.length := by rw [unhide HL]; exact hlt
      obtain ⟨x, hx⟩ : ∃ x, ol[k]? = some x := ⟨_, List.getElem?_eq_getElem hkl⟩
      have hxo := unhide HO x (List.mem_of_getElem? hx)
      have hxb := unhide HB x (List.mem_of_getElem? hx)
      have hT1 : Hid (tot ol (k + 1) = tot ol k + (x.dn : Int)) := tot_at hx
      have hT2 : tot ol k ≤ 1048576 := Int.le_trans (tot_le ol (Nat.le_of_lt hlt)) (unhide HT)
      have hT0 := tot_nn ol k
      obtain ⟨sb, soff, rfl, hcells⟩ := (unhide HC).resolve_left (by omega)
      have cx : ∀ j v, x.cs[j]? = some v → wr.cell? ⟨sb, soff + k * 6 + j, none⟩ = some v := fun j v hj => cell_grown (hcells k x hx j v hj) hI.gr
      have x0 := cx 0 _ rfl
      have x1 := cx 1 _ rfl
      have x2 := cx 2 _ rfl
      have x3 := cx 3 _ rfl
      have x4 := cx 4 _ rfl
      have x5 := cx 5 _ rfl
      rw [Nat.add_zero] at x0
      have hkn : (k : Int) < (len : Int) := by omega
      have kw : IntKind.i64.wrap ((k : Int) + 1) = ((k + 1 : Nat) : Int) := by rw [IntKind.wrap_i64]; omega
      have NXT : Hid (∀ Y, WJ w Y (fun _ => False) none (some (b2, r2)) ob (2 * k + 2) ((tot ol k).toNat + x.dn) (k + 1) → WJ w Y (fun _ => False) none (some (b2, r2)) ob (2 * (k + 1)) (tot ol (k + 1)).toNat (k + 1)) := fun Y h => h.mono (by omega) (by rw [unhide hT1]; omega) (by omega)
      have NXS : Hid (WJ w wr (fun _ => False) none (some (b2, r2)) ob (2 * (k + 1)) (tot ol (k + 1)).toNat (k + 1)) := hI.mono (by omega) (by rw [unhide hT1]; omega) (by omega)
      have st2 := hI.swap.step x hxo hxb (by omega) (by omega) (by omega)
      clear cx hcells hI hxo hxb hT2 hT0 hkl
      have HX := hide hx
      have HLT := hide hlt
      clear hx
      cases hoth : x.other with
      | true =>
        rw [hoth] at x1 st2
        go_wp2_with fail
        refine st2.mono ?_
        rintro e Y ⟨rfl, hY, -⟩
        have HY : Hid (WJ w Y (fun _ => False) none (some (b2, r2)) ob (2 * (k + 1)) (tot ol (k + 1)).toNat (k + 1)) := unhide NXT Y hY.swap
        clear st2 hY
        go_wp2_with fail
        all_goals exact ⟨⟨k + 1, by omega, by simp [*], HY⟩, by simp [intOf]; omega⟩
      | false =>
        rw [hoth] at x1 st2
        go_wp2_with fail
        all_goals exact ⟨⟨k + 1, by omega, by simp [*], NXS⟩, by simp [intOf]; omega⟩
    · obtain rfl : k = len := by omega
      have hI := unhide I
      have hT2 := unhide HT
      have hnk : ¬ (k : Int) < (k : Int) := by omega
      obtain ⟨V1, hV1⟩ : ∃ V1, V1 = wr.alloc (.cells #[.int .i64 4, .bool false, .int .i64 0, .slice none 0 0, .bool false, .int .i64 0] 40) := ⟨_, rfl⟩
      obtain ⟨V2, hV2⟩ : ∃ V2, V2 = V1.alloc (.cells #[.int .i64 1, .bool false, .int .i64 0, .slice none 0 0, .bool false, .int .i64 1099511627776] 40) := ⟨_, rfl⟩
      have gv1 : wr.grownBy V1 none := by rw [hV1]; exact grown_alloc _ _
      have gv2 : V1.grownBy V2 none := by rw [hV2]; exact grown_alloc _ _
      have bv : Blk V1 wr.heap.size #[.int .i64 4, .bool false, .int .i64 0, .slice none 0 0, .bool false, .int .i64 0] 40 := by rw [hV1]; exact Blk.new _ _ _
      have bn : Blk V2 V1.heap.size #[.int .i64 1, .bool false, .int .i64 0, .slice none 0 0, .bool false, .int .i64 1099511627776] 40 := by rw [hV2]; exact Blk.new _ _ _
      obtain ⟨gl, hgl⟩ : ∃ gl, gl = wr.heap.size := ⟨_, rfl⟩
      obtain ⟨gn, hgn⟩ : ∃ gn, gn = V1.heap.size := ⟨_, rfl⟩
      have sv1 := bv.lt
      have sv2 := bn.lt
      have BV : Hid (∀ Y, Y.heap[gl]? = V2.heap[gl]? → Blk Y gl #[.int .i64 4, .bool false, .int .i64 0, .slice none 0 0, .bool false, .int .i64 0] 40) := fun Y e => e.trans (by rw [hgl]; exact bv.grown gv2)
      have BN : Hid (∀ Y, Y.heap[gn]? = V2.heap[gn]? → Blk Y gn #[.int .i64 1, .bool false, .int .i64 0, .slice none 0 0, .bool false, .int .i64 1099511627776] 40) := fun Y e => e.trans (by rw [hgn]; exact bn)
      have hJ0 := ((hI.made gv1).made gv2).mono (N' := 2 * k) (t' := 1048576) (k' := k) (Nat.le_refl _) (by omega) (Nat.le_refl _)
      have LV : Hid (((False ∨ wr.heap.size ≤ gl ∧ gl < V1.heap.size) ∨ V1.heap.size ≤ gl ∧ gl < V2.heap.size)) := .inl (.inr ⟨by omega, by omega⟩)
      have LN : Hid (((False ∨ wr.heap.size ≤ gn ∧ gn < V1.heap.size) ∨ V1.heap.size ≤ gn ∧ gn < V2.heap.size)) := .inr ⟨by omega, by omega⟩
      have HJ := hide hJ0
      have KV : Hid True := trivial
      have KN : Hid True := trivial
      clear I hI hJ0 gv1 gv2 bv bn sv1 sv2
      go_upto_region 19 with fail
      rw [← hV1, ← hgl]
      replace hV1 := hide hV1
      replace hgl := hide hgl
      go_upto_region 20 with fail
      rw [← hV2, ← hgn]
      clear hgn hV1 hV2
      have HH := hide hT2
      obtain ⟨c0, c1, c2, c3, c4, c5⟩ : V2.cell? ⟨gn, 0, none⟩ = some (.int .i64 1) ∧ V2.cell? ⟨gn, 1, none⟩ = some (.bool false) ∧ V2.cell? ⟨gn, 2, none⟩ = some (.int .i64 0) ∧ V2.cell? ⟨gn, 3, none⟩ = some (.slice none 0 0) ∧ V2.cell? ⟨gn, 4, none⟩ = some (.bool false) ∧ V2.cell? ⟨gn, 5, none⟩ = some (.int .i64 1099511627776) := by
        have q := unhide BN V2 rfl
        exact ⟨q.cell 0 _ rfl, q.cell 1 _ rfl, q.cell 2 _ rfl, q.cell 3 _ rfl, q.cell 4 _ rfl, q.cell 5 _ rfl⟩
      have st := (unhide HJ).swap.step xN (xN_ok w) (by decide) (by decide) (by omega) (by omega)
      unfold xN at st
      go_wp2_with fail
      refine st.mono ?_
      rintro e Y0 ⟨rfl, hY, kY⟩
      have KV' : Hid (Y0.heap[gl]? = V2.heap[gl]?) := (kY gl (unhide LV))
      have KN' : Hid (Y0.heap[gn]? = V2.heap[gn]?) := (kY gn (unhide LN))
      replace HJ := hide hY.swap
      clear st hY kY c0 c1 c2 c3 c4 c5 KV KN
      have KV := KV'
      have KN := KN'
      clear KV' KN'
      obtain ⟨c0, c1, c2, c3, c4, c5⟩ : Y0.cell? ⟨gl, 0, none⟩ = some (.int .i64 4) ∧ Y0.cell? ⟨gl, 1, none⟩ = some (.bool false) ∧ Y0.cell? ⟨gl, 2, none⟩ = some (.int .i64 0) ∧ Y0.cell? ⟨gl, 3, none⟩ = some (.slice none 0 0) ∧ Y0.cell? ⟨gl, 4, none⟩ = some (.bool false) ∧ Y0.cell? ⟨gl, 5, none⟩ = some (.int .i64 0) := by
        have q := unhide BV Y0 (unhide KV)
        exact ⟨q.cell 0 _ rfl, q.cell 1 _ rfl, q.cell 2 _ rfl, q.cell 3 _ rfl, q.cell 4 _ rfl, q.cell 5 _ rfl⟩
      have st := (unhide HJ).swap.step xV (xV_ok w) (by decide) (by decide) (by omega) (by omega)
      unfold xV at st
      go_wp2_with fail
      refine st.mono ?_
      rintro e Y1 ⟨rfl, hY, kY⟩
      have KV' : Hid (Y1.heap[gl]? = V2.heap[gl]?) := (kY gl (unhide LV)).trans (unhide KV)
      have KN' : Hid (Y1.heap[gn]? = V2.heap[gn]?) := (kY gn (unhide LN)).trans (unhide KN)
      replace HJ := hide hY.swap
      clear st hY kY c0 c1 c2 c3 c4 c5 KV KN
      have KV := KV'
      have KN := KN'
      clear KV' KN'
      have by0 := (unhide HJ).bytes (by omega)
      clear HJ KV KN BV BN LV LN
      go_wp2_with fail
      refine by0.mono ?_
      rintro e Yb ⟨rfl, hYb, -⟩
      have vi0 := hYb.viewed (by omega)
      clear by0 hYb
      go_wp2_with fail
      refine vi0.mono ?_
      rintro e Yv ⟨rfl, hYv, -⟩
      have GE := hide hYv.gr
      clear vi0 hYv
      go_wp2_with fail
      all_goals go_ret
      all_goals exact ⟨rfl, unhide GE⟩
end Go.Proofs.YthihabjegpacaaaGreat

namespace Go.Proofs.YthihabjegpacaaaGreat
open Go.RowKit
set_option linter.unusedVariables false
set_option maxHeartbeats 4000000
set_option maxRecDepth 100000


set_option maxHeartbeats 8000000 in
theorem plays_00 (cap oth : Int) (oa : Option Addr) (len ocap : Nat) (ol : List OpE) (w : World) (hops : IsOps w oa len ocap ol) (hlen : len ≤ 1048576) (htot : tot ol len ≤ 1048576) (hb : ∀ x ∈ ol, x.dn ≤ 1048576) (hc : ¬ (0 ≤ cap ∧ cap ≤ 4611686018427387903)) (hd : ¬ (0 ≤ oth ∧ oth ≤ 4611686018427387903)) :
    Calls Tryz.prog 3 #[.int .i64 cap, .int .i64 oth, .slice oa len ocap] w fun e w' => e = .returned (.bool true) ∧ w.grownBy w' none := by
  have hcell := hops.cell
  have hopok := hops.ok
  have hol := hops.hlen
  have hocap := hops.hcap
  clear hops
  have hsh := shown_ok w
  go_enter Tryz.func3, Tryz.ntmps3
  go_wp2_with fail
  refine hsh.mono ?_
  rintro e W0 ⟨rfl, g0⟩
  clear hsh
  have hn := new_bad cap W0 hc
  go_wp2_with fail
  refine hn.mono ?_
  rintro e W1 ⟨rfl, hW1⟩
  subst W1
  clear hn
  have hn := new_bad oth W0 hd
  go_wp2_with fail
  refine hn.mono ?_
  rintro e W2 ⟨rfl, hW2⟩
  subst W2
  clear hn
  have hn := rnew_no cap W0 hc
  go_wp2_with fail
  refine hn.mono ?_
  rintro e W3 ⟨rfl, hW3⟩
  subst W3
  clear hn
  have hn := rnew_no oth W0 hd
  go_wp2_with fail
  refine hn.mono ?_
  rintro e W4 ⟨rfl, hW4⟩
  subst W4
  clear hn
  obtain ⟨X0, hX0⟩ : ∃ X0, X0 = W0.alloc (.cells #[.slice none 0 0, .slice none 0 0, .string ⟨#[]⟩, .int .i64 0, .int .i64 0, .int .i64 0, .int .i64 0, .int .i64 0, .slice none 0 0, .bool false, .bool false, .int .i64 0, .int .i64 0, .int .i64 0, .int .i64 0, .int .i64 0, .slice none 0 0, .bool false, .bool false] 38) := ⟨_, rfl⟩
  have gX : W0.grownBy X0 none := by rw [hX0]; exact grown_alloc _ _
  have ow : OW X0 W0.heap.size (fun g => g = W0.heap.size) 0 := by rw [hX0]; exact ow_new _
  have gall : w.grownBy X0 none := grown_trans g0 (gX)
  have z0 := g0.size
  have z1 := (gX).size
  have zX : X0.heap.size = W0.heap.size + 1 := by rw [hX0]; exact alloc_size _ _
  have I0 : Hid (WJ w X0 (fun _ => False) none none W0.heap.size 0 0 0) := by
    refine ⟨(fun _ => False), (fun _ => False), fun g => g = W0.heap.size, fun b r e => ?_, fun b r e => ?_, ow, fun g q z => ?_, fun g q z => ?_, fun g q z => ?_, fun g q => ?_, fun g q => ?_, fun g q => ?_, gall, fun g q => q.elim⟩
    · cases e
    · cases e
    · first | exact q.elim | exact z.elim
    · exact q.elim
    · exact q.elim
    · exact q.elim
    · exact q.elim
    · omega
  clear g0 ow gX gall z0 zX z1
  obtain ⟨ob, hob⟩ : ∃ ob, ob = W0.heap.size := ⟨_, rfl⟩
  rw [← hob] at I0
  go_upto_region 9 with fail
  rw [← hX0, ← hob]
  clear hX0 hob
  have HC := hide hcell
  have HO := hide hopok
  have HL := hide hol
  have HT := hide htot
  have HB := hide hb
  clear hcell hopok hol htot hb
  go_wp2_with fail
  go_loopw [17, 18] (fun i ok X => ∃ k : Nat, k ≤ len ∧ i = .int .i64 k ∧ Hid (WJ w X (fun _ => False) none none ob (2 * k) (tot ol k).toNat k)) (fun i _ _ => len - (intOf i).toNat)
  case atStart => exact ⟨0, Nat.zero_le _, rfl, I0⟩
  case round =>
    clear I0
    obtain ⟨k, hk, rfl, I⟩ := hrel
    by_cases hlt : k < len
    · have hI := unhide I
      have hkl : k < ol.length := by rw [unhide HL]; exact hlt
      obtain ⟨x, hx⟩ : ∃ x, ol[k]? = some x := ⟨_, List.getElem?_eq_getElem hkl⟩
      have hxo := unhide HO x (List.mem_of_getElem? hx)
      have hxb := unhide HB x (List.mem_of_getElem? hx)
      have hT1 : Hid (tot ol (k + 1) = tot ol k + (x.dn : Int)) := tot_at hx
      have hT2 : tot ol k ≤ 1048576 := Int.le_trans (tot_le ol (Nat.le_of_lt hlt)) (unhide HT)
      have hT0 := tot_nn ol k
      obtain ⟨sb, soff, rfl, hcells⟩ := (unhide HC).resolve_left (by omega)
      have cx : ∀ j v, x.cs[j]? = some v → wr.cell? ⟨sb, soff + k * 6 + j, none⟩ = some v := fun j v hj => cell_grown (hcells k x hx j v hj) hI.gr
      have x0 := cx 0 _ rfl
      have x1 := cx 1 _ rfl
      have x2 := cx 2 _ rfl
      have x3 := cx 3 _ rfl
      have x4 := cx 4 _ rfl
      have x5 := cx 5 _ rfl
      rw [Nat.add_zero] at x0
      have hkn : (k : Int) < (len : Int) := by omega
      have kw : IntKind.i64.wrap ((k : Int) + 1) = ((k + 1 : Nat) : Int) := by rw [IntKind.wrap_i64]; omega
      have NXT : Hid (∀ Y, WJ w Y (fun _ => False) none none ob (2 * k + 2) ((tot ol k).toNat + x.dn) (k + 1) → WJ w Y (fun _ => False) none none ob (2 * (k + 1)) (tot ol (k + 1)).toNat (k + 1)) := fun Y h => h.mono (by omega) (by rw [unhide hT1]; omega) (by omega)
      have NXS : Hid (WJ w wr (fun _ => False) none none ob (2 * (k + 1)) (tot ol (k + 1)).toNat (k + 1)) := hI.mono (by omega) (by rw [unhide hT1]; omega) (by omega)
      clear cx hcells hI hxo hxb hT2 hT0 hkl
      have HX := hide hx
      have HLT := hide hlt
      clear hx
      cases hoth : x.other with
      | true =>
        rw [hoth] at x1
        go_wp2_with fail
        all_goals exact ⟨⟨k + 1, by omega, by simp [*], NXS⟩, by simp [intOf]; omega⟩
      | false =>
        rw [hoth] at x1
        go_wp2_with fail
        all_goals exact ⟨⟨k + 1, by omega, by simp [*], NXS⟩, by simp [intOf]; omega⟩
    · obtain rfl : k = len := by omega
      have hI := unhide I
      have hT2 := unhide HT
      have hnk : ¬ (k : Int) < (k : Int) := by omega
      obtain ⟨V1, hV1⟩ : ∃ V1, V1 = wr.alloc (.cells #[.int .i64 4, .bool false, .int .i64 0, .slice none 0 0, .bool false, .int .i64 0] 40) := ⟨_, rfl⟩
      obtain ⟨V2, hV2⟩ : ∃ V2, V2 = V1.alloc (.cells #[.int .i64 1, .bool false, .int .i64 0, .slice none 0 0, .bool false, .int .i64 1099511627776] 40) := ⟨_, rfl⟩
      have gv1 : wr.grownBy V1 none := by rw [hV1]; exact grown_alloc _ _
      have gv2 : V1.grownBy V2 none := by rw [hV2]; exact grown_alloc _ _
      have bv : Blk V1 wr.heap.size #[.int .i64 4, .bool false, .int .i64 0, .slice none 0 0, .bool false, .int .i64 0] 40 := by rw [hV1]; exact Blk.new _ _ _
      have bn : Blk V2 V1.heap.size #[.int .i64 1, .bool false, .int .i64 0, .slice none 0 0, .bool false, .int .i64 1099511627776] 40 := by rw [hV2]; exact Blk.new _ _ _
      obtain ⟨gl, hgl⟩ : ∃ gl, gl = wr.heap.size := ⟨_, rfl⟩
      obtain ⟨gn, hgn⟩ : ∃ gn, gn = V1.heap.size := ⟨_, rfl⟩
      have sv1 := bv.lt
      have sv2 := bn.lt
      have BV : Hid (∀ Y, Y.heap[gl]? = V2.heap[gl]? → Blk Y gl #[.int .i64 4, .bool false, .int .i64 0, .slice none 0 0, .bool false, .int .i64 0] 40) := fun Y e => e.trans (by rw [hgl]; exact bv.grown gv2)
      have BN : Hid (∀ Y, Y.heap[gn]? = V2.heap[gn]? → Blk Y gn #[.int .i64 1, .bool false, .int .i64 0, .slice none 0 0, .bool false, .int .i64 1099511627776] 40) := fun Y e => e.trans (by rw [hgn]; exact bn)
      have hJ0 := ((hI.made gv1).made gv2).mono (N' := 2 * k) (t' := 1048576) (k' := k) (Nat.le_refl _) (by omega) (Nat.le_refl _)
      have LV : Hid (((False ∨ wr.heap.size ≤ gl ∧ gl < V1.heap.size) ∨ V1.heap.size ≤ gl ∧ gl < V2.heap.size)) := .inl (.inr ⟨by omega, by omega⟩)
      have LN : Hid (((False ∨ wr.heap.size ≤ gn ∧ gn < V1.heap.size) ∨ V1.heap.size ≤ gn ∧ gn < V2.heap.size)) := .inr ⟨by omega, by omega⟩
      have HJ := hide hJ0
      have KV : Hid True := trivial
      have KN : Hid True := trivial
      clear I hI hJ0 gv1 gv2 bv bn sv1 sv2
      go_upto_region 19 with fail
      rw [← hV1, ← hgl]
      replace hV1 := hide hV1
      replace hgl := hide hgl
      go_upto_region 20 with fail
      rw [← hV2, ← hgn]
      clear hgn hV1 hV2
      have HH := hide hT2
      have by0 := (unhide HJ).bytes (by omega)
      clear HJ KV KN BV BN LV LN
      go_wp2_with fail
      refine by0.mono ?_
      rintro e Yb ⟨rfl, hYb, -⟩
      have vi0 := hYb.viewed (by omega)
      clear by0 hYb
      go_wp2_with fail
      refine vi0.mono ?_
      rintro e Yv ⟨rfl, hYv, -⟩
      have GE := hide hYv.gr
      clear vi0 hYv
      go_wp2_with fail
      all_goals go_ret
      all_goals exact ⟨rfl, unhide GE⟩
end Go.Proofs.YthihabjegpacaaaGreat

namespace Go.Proofs.YthihabjegpacaaaGreat
open Go.ChangeShapes Go.WideShapes Go.ChangeAt Go.RowKit
set_option linter.unusedVariables false
set_option maxRecDepth 100000

theorem plays_walk (cap oth : Int) (oa : Option Addr) (len ocap : Nat) (ol : List OpE) (w : World) (hops : IsOps w oa len ocap ol) (hlen : len ≤ 1048576) (htot : tot ol len ≤ 1048576) (hb : ∀ x ∈ ol, x.dn ≤ 1048576) :
    Calls Tryz.prog 3 #[.int .i64 cap, .int .i64 oth, .slice oa len ocap] w fun e w' => e = .returned (.bool true) ∧ w.grownBy w' none := by
  by_cases hc : 0 ≤ cap ∧ cap ≤ 4611686018427387903
  · by_cases hd : 0 ≤ oth ∧ oth ≤ 4611686018427387903
    · exact plays_11 cap oth oa len ocap ol w hops hlen htot hb hc hd
    · exact plays_10 cap oth oa len ocap ol w hops hlen htot hb hc hd
  · by_cases hd : 0 ≤ oth ∧ oth ≤ 4611686018427387903
    · exact plays_01 cap oth oa len ocap ol w hops hlen htot hb hc hd
    · exact plays_00 cap oth oa len ocap ol w hops hlen htot hb hc hd

namespace recvPlaysFrame

theorem own : ownKnob Tryz.prog.godebug = none := by kernel_rfl
theorem laidOut : laidOutB Tryz.prog = true := by kernel_rfl

set_option maxRecDepth 100000 in
theorem lifted (os : Os) (started : os.Started) (H : Type) (enc : TypeId × Value → H) (F : Stop.Interp) :
    ReturnsInHanded {} Tryz.checked os 3 .any ((Rows.OpenSpec.upto Rows.recvPlaysSpec).pre6 enc Tryz.prog Tryz.f3 Rows.recvPlaysUptoRow.domain false) (((Rows.OpenSpec.upto Rows.recvPlaysSpec).at F).post enc Tryz.prog Tryz.f3 false true false false) := by
  refine returnsInHanded_of_cond_sized (C := Tryz.checked) (s := Rows.OpenSpec.upto Rows.recvPlaysSpec) (k := Rows.uptoSmall) rfl own started (by kernel_rfl) Tryz.func3
    (OpenSpec.witness (enc := enc) (C := Tryz.checked) (s := Rows.OpenSpec.upto Rows.recvPlaysSpec) (k := Rows.uptoSmall) rfl false ⟨#[], #[.int .i64 0, .int .i64 0, .slice none 0 0], []⟩ 8 (by kernel_rfl) (by kernel_rfl) (by kernel_rfl)
      (x := ([.lit (.int .i64 0), .lit (.int .i64 0), .nil], [], [])) (by kernel_rfl) rfl (by kernel_rfl)) ?_
  intro W base args ds gs before hval0 hW hcnd hk hsz0 _
  have hsz : (DataW.weightsEach Tryz.prog (Tryz.f3.params.toList ++ (Rows.OpenSpec.upto Rows.recvPlaysSpec).bare.plain.varTypes Tryz.prog) (ds ++ gs)).all (· ≤ reachBytes) = true := hsz0
  have hval : ∀ (j : Nat) t v, Tryz.f3.params[j]? = some t → args[j]? = some v → Value.okWide Tryz.prog W .any base t v := hval0
  have hW' := hW
  obtain ⟨p, q, hA0, hV, rfl, hfz, hnd⟩ := hW
  have hA : DataW.TrodAll enc Tryz.prog W 0 (fun _ => true) true Tryz.f3.params.toList args.toList ds p := hA0
  rw [Tryz.params3] at hA hval hsz
  obtain ⟨v0, vs0, d0, ds0, p0, q0, hargs, rfl, rfl, h0, r0⟩ := trodAll_cons hA
  obtain ⟨v1, vs1, d1, ds1, p1, q1, rfl, rfl, rfl, h1, r1⟩ := trodAll_cons r0
  obtain ⟨v2, vs2, d2, ds2, p2, q2, rfl, rfl, rfl, h2, r2⟩ := trodAll_cons r1
  obtain ⟨rfl, rfl, rfl⟩ := trodAll_nil r2
  obtain rfl : args = #[v0, v1, v2] := by cases args; simp_all
  obtain ⟨rfl, rfl⟩ := trodVars_none hV
  have k0 := h0
  have lt0 : ∀ x ∈ p0, x.block < W.heap.size := by obtain ⟨m, hm⟩ := k0; exact DataW.trod_lt m _ _ _ hm
  obtain ⟨a0, rfl, rfl, rfl, w0⟩ := open_int Tryz.underlying2 (hval 0 2 v0 rfl rfl) h0
  have k1 := h1
  have lt1 : ∀ x ∈ p1, x.block < W.heap.size := by obtain ⟨m, hm⟩ := k1; exact DataW.trod_lt m _ _ _ hm
  obtain ⟨a1, rfl, rfl, rfl, w1⟩ := open_int Tryz.underlying2 (hval 1 2 v1 rfl rfl) h1
  have k2 := h2
  have lt2 : ∀ x ∈ p2, x.block < W.heap.size := by obtain ⟨m, hm⟩ := k2; exact DataW.trod_lt m _ _ _ hm
  obtain ⟨a2, len2, cap2, rfl⟩ := okWide_slice Tryz.underlying22 (hval 2 22 v2 rfl rfl)
  obtain ⟨ol2, w2, b2, t2, m2⟩ : ∃ ol, IsOps W a2 len2 cap2 ol ∧ len2 ≤ 1048576 ∧ tot ol len2 ≤ 1048576 ∧ ∀ x ∈ ol, x.dn ≤ 1048576 := by
    obtain ⟨fuel, hf⟩ := h2
    exact open_ops_bulk (x := (d2, p2)) (by simpa [Value.cells] using hf) (fun k hk => by
      have := List.all_eq_true.1 hsz k (DataW.weights_mem_each (j := 2) (t := 22) (d := d2) rfl rfl k hk)
      simpa using this) (bulk_mem hk (d := d2) (by simp))
  clear hA0 hval0
  refine (plays_walk a0 a1 a2 len2 cap2 ol2 W w2 b2 t2 m2).mono fun e W' ⟨he, gr⟩ => ?_
  have bel : Below W.heap.size W W' := (Below.refl _ W).grown gr (Nat.le_refl _) (fun k hk => by cases hk)
  subst he
  exact ⟨_, rfl, _, _, _, [], _, [], hW', trodAll_mk1 (shut_bool Tryz.underlying4 _), (trodAll_cons_mk (shut_int Tryz.underlying2 w0) (trodAll_cons_mk (shut_int Tryz.underlying2 w1) (trodAll_cons_mk (Below.trod laidOut (by kernel_rfl) (of_decide_eq_true (by kernel_rfl)) k2 bel lt2) trodAll_mk0))), rfl, bel.frame _, fun h => by cases h⟩

theorem over : Rows.recvPlaysUptoRow.holds Tryz.pinned (Rows.OpenSpec.upto Rows.recvPlaysSpec) :=
  OpenClaim.holds_of_cond 3 Tryz.f3 rfl rfl rfl rfl rfl rfl rfl ⟨rfl, rfl, rfl, rfl, rfl⟩ rfl rfl rfl rfl rfl (by kernel_rfl) Tryz.func3 (by kernel_rfl)
    (of_decide_eq_true (by kernel_rfl)) (by unfold Func.isWrapper; first | (rw [if_pos (by decide +kernel)]; kernel_rfl) | (rw [if_neg (by decide +kernel)]; exact ⟨rfl, rfl⟩))
    (fun os started H enc _ F => lifted os started H enc F)
end recvPlaysFrame

/-- THE STATEMENT -/
theorem recvPlays_holds : Rows.RecvPlaysUptoSaid := recvPlaysFrame.over
end Go.Proofs.YthihabjegpacaaaGreat
