/- L0Z, PDAga, one text. -/
import Derived.Test.YtnflbefbgcbdfaaGreatL8L
import Derived.Test.YtnflbefbgcbdfaaGreatL8M
import Derived.Deep.RegionHeld3
import Derived.Deep.CutRange
import Derived.ProofKit
import Derived.OpenShut
import Derived.ShutString
import Derived.ChangeOld
import Derived.SizedLaws
import Derived.JoinedCond
import Derived.Deep.CondSized
namespace Go.Proofs.YtnflbefbgcbdfaaGreat
open Go.RowKit Go.Shelf
set_option linter.unusedVariables false
set_option linter.unusedSimpArgs false
set_option maxRecDepth 100000
set_option pp.deepTerms true
set_option pp.maxSteps 10000000
set_option maxHeartbeats 4000000

theorem again_walk (first : Int) (oa : Option Addr) (len cap : Nat) (ol : List OpL) (w : World) (h : IsOpL w oa len ol) (hl : len ≤ 1048576) (ra : Option Addr) (rc : Nat) (rs : List Sp) (hr : RdV w ra (rs.map spc).flatten) (hrl : rs.length ≤ 500000) :
    Calls Tryz.prog 4 #[.int .i64 first, .slice oa len cap, .slice ra rs.length rc] w fun e w' => e = .returned (.bool true) ∧ w.grownBy w' none := by
  obtain ⟨f, hf⟩ : ∃ f, f = first % 2305843009213693952 := ⟨_, rfl⟩
  have hand : bits .and .i64 first 2305843009213693951 = f := by rw [and_61, hf]
  have f0 : 0 ≤ f ∧ f ≤ 2305843009213693951 := by omega
  clear hf
  have lenI : ¬ (9223372036854775807 : Int) < (len : Int) := by omega
  obtain ⟨rn, hrn⟩ : ∃ rn, rn = rs.length := ⟨_, rfl⟩
  rw [← hrn]
  have sh := shown_any w
  have HO := hide h
  have HL := hide hl
  have HR := hide (And.intro hr (And.intro hrl hrn))
  clear h hl hr hrl hrn
  go_enter Tryz.func4, Tryz.ntmps4
  go_wp2_with fail
  refine sh.mono ?_
  rintro e w1 ⟨rfl, g1⟩
  have nw := sh_new f w1 (by omega)
  clear sh
  go_wp2_with fail
  refine nw.mono ?_
  rintro e w2 ⟨ba, qa, rfl, hsA⟩
  have g2 := grown_trans g1 hsA.end
  have nw2 := sh_new f w2 (by omega)
  have HA := hide (And.intro g1 (And.intro hsA g2))
  clear nw hsA g1 g2
  go_wp2_with fail
  refine nw2.mono ?_
  rintro e w3 ⟨bb, qb, rfl, hsB⟩
  have L0 := hide (L2.start (unhide HA).2.2 ⟨w1, (unhide HA).1, (unhide HA).2.1⟩ hsB f0.1)
  have HF := hide f0
  clear nw2 hsB f0 HA
  unfold ldc at L0
  go_upto_region 9 with fail
  generalize (w3.alloc _).alloc _ = w5 at *
  generalize w3.heap.size = la at *
  obtain ⟨lb, hlb⟩ : ∃ lb, lb = la + 1 := ⟨_, rfl⟩
  rw [← hlb] at L0 ⊢
  clear hlb
  go_wp2_with fail
  go_loopw [15] (fun iv wr => ∃ k : Nat, k ≤ len ∧ k ≤ 500 ∧ iv = .int .i64 k ∧ Hid (∃ x y l, L2 w f wr la ba qa lb bb qb x y l l k k ∧ l.told_)) (fun iv _ => len - (intOf iv).toNat)
  case atStart => exact ⟨0, Nat.zero_le _, Nat.zero_le _, rfl, _, _, _, unhide L0, told_fresh f⟩
  case round =>
    clear L0
    obtain ⟨k, hk, hk2, rfl, I⟩ := hrel
    by_cases hlt : k < len ∧ k < 500
    · have hkI : (k : Int) < (len : Int) := by omega
      have hk15 : (k : Int) < 500 := by omega
      have hk0 : (0 : Int) ≤ (k : Int) := by omega
      obtain ⟨x, y, l, h2, td⟩ := unhide I
      obtain ⟨bo, off, rfl, hc⟩ := (unhide HO).cell.resolve_left (by omega)
      obtain ⟨xo, hx⟩ : ∃ xo, ol[k]? = some xo := ⟨_, List.getElem?_eq_getElem (by rw [(unhide HO).hlen]; exact hlt.1)⟩
      have ok := (unhide HO).ok xo (List.mem_of_getElem? hx)
      have kpO : ∀ W, Kp (fun x => w.heap.size ≤ x) w W → ∀ j, j < w.heap.size → W.heap[j]? = w.heap[j]? := fun W kp j hj => kp.block j hj (by omega)
      have cell : ∀ W, Kp (fun x => w.heap.size ≤ x) w W → ∀ j v, xo.cs[j]? = some v → W.cell? ⟨bo, off + k * 13 + j, none⟩ = some v := fun W kp j v hj => by
        have := hc k xo hx j v hj
        rw [← this]
        exact World.cell?_of_block (kpO W kp bo (World.block_lt_of_cell? w _ this))
      have CELL : Hid (∀ W, Kp (fun x => w.heap.size ≤ x) w W → W.cell? ⟨bo, off + k * 13, none⟩ = some (.int .i64 xo.kd) ∧ W.cell? ⟨bo, off + k * 13 + 1, none⟩ = some (.int .i64 xo.hh) ∧ W.cell? ⟨bo, off + k * 13 + 2, none⟩ = some (.int .i64 xo.s.nu) ∧ W.cell? ⟨bo, off + k * 13 + 3, none⟩ = some (.int .i64 xo.s.ti) ∧ W.cell? ⟨bo, off + k * 13 + 4, none⟩ = some (.int .i64 xo.s.si) ∧ W.cell? ⟨bo, off + k * 13 + 5, none⟩ = some (.bool xo.s.el) ∧ W.cell? ⟨bo, off + k * 13 + 6, none⟩ = some (.bool xo.s.co) ∧ W.cell? ⟨bo, off + k * 13 + 7, none⟩ = some (.bool xo.s.pr) ∧ W.cell? ⟨bo, off + k * 13 + 8, none⟩ = some (.int .i64 xo.s.tl) ∧ W.cell? ⟨bo, off + k * 13 + 9, none⟩ = some (.slice xo.fa xo.s.fs.length xo.fc) ∧ W.cell? ⟨bo, off + k * 13 + 10, none⟩ = some (.slice xo.ra xo.rs.length xo.rc) ∧ W.cell? ⟨bo, off + k * 13 + 11, none⟩ = some (.slice xo.ma xo.ms.length xo.mc) ∧ W.cell? ⟨bo, off + k * 13 + 12, none⟩ = some (.int .i64 xo.n)) := fun W kp =>
        ⟨cell W kp 0 _ rfl, cell W kp 1 _ rfl, cell W kp 2 _ rfl, cell W kp 3 _ rfl, cell W kp 4 _ rfl, cell W kp 5 _ rfl, cell W kp 6 _ rfl, cell W kp 7 _ rfl, cell W kp 8 _ rfl, cell W kp 9 _ rfl, cell W kp 10 _ rfl, cell W kp 11 _ rfl, cell W kp 12 _ rfl⟩
      have ne : l.ne ≤ 2305843009213694451 := by
        have := h2.a_.ne
        have := unhide HF
        omega
      have DN : Hid (∀ (W : World) (R : Nat → Prop) (lw b q : Nat) (nv zv fv kv va : Value) (T : List Tr), LM w f R W lw b q nv zv fv kv va l T k → Calls Tryz.prog 13 #[.pointer (some ⟨lw, 0, none⟩), .agg (opc xo.kd xo.hh xo.s (.slice xo.fa xo.s.fs.length xo.fc) (.slice xo.ra xo.rs.length xo.rc) (.slice xo.ma xo.ms.length xo.mc) xo.n)] W fun e w' => DoP (fun z => z = l.stepBy xo.kd xo.s xo.rs xo.ms) R W lw b q nv zv fv kv va l T e w') := fun W R lw b q nv zv fv kv va T lm =>
        (does_any W lm.lw_ (by have := lm.tl; omega) (by omega) xo.kd xo.hh xo.s (fun j => j < w.heap.size) xo.fa xo.fc (ok.f_.kept (kpO W lm.kp)) xo.rs xo.ra xo.rc (by have := ok.rl; omega) (rds_of (ok.r_.kept fun hx b off e => kpO W lm.kp b (ok.r_.lt hx b off e))) xo.ms xo.ma xo.mc (by have := ok.ml; omega) (ok.m_.kept fun hx b off e => kpO W lm.kp b (ok.m_.lt hx b off e)) xo.n).mono fun _ _ d => d.weak fun z hz => stepR_is hz (by omega)
      have TD : Hid (Lg.told_ (l.stepBy xo.kd xo.s xo.rs xo.ms)) := told_step td ok.td _ _ _
      obtain ⟨l1, hl1⟩ : ∃ l1, l1 = l.stepBy xo.kd xo.s xo.rs xo.ms := ⟨_, rfl⟩
      rw [← hl1] at TD DN
      have H2 := hide h2
      have dn := unhide DN wr _ _ _ _ _ _ _ _ _ _ h2.a_
      obtain ⟨y0, y1, y2, y3, y4, y5, y6, y7, y8, y9, y10, y11, y12⟩ := unhide CELL wr h2.a_.kp
      clear cell hc ok kpO hx ne hl1 td h2 I
      obtain ⟨xkd, xhh, ⟨snu, sti, ssi, sel, sco, spr, stl, sfs⟩, xfa, xfc, xrs, xra, xrc, xms, xma, xmc, xn⟩ := xo
      simp only at y0 y1 y2 y3 y4 y5 y6 y7 y8 y9 y10 y11 y12 dn CELL DN
      generalize sfs.length = n1 at *
      generalize xrs.length = n2 at *
      generalize xms.length = n3 at *
      unfold opc at dn
      go_wp2_with fail
      refine dn.mono ?_
      rintro e w6 hd
      obtain ⟨rfl, x', l', h3, rfl⟩ := (unhide H2).step hd
      have H3 := hide h3.swap
      have dn2 := unhide DN w6 _ _ _ _ _ _ _ _ _ _ h3.b_
      clear dn hd y0 y1 y2 y3 y4 y5 y6 y7 y8 y9 y10 y11 y12 H2
      obtain ⟨y0, y1, y2, y3, y4, y5, y6, y7, y8, y9, y10, y11, y12⟩ := unhide CELL w6 h3.a_.kp
      unfold opc at dn2
      clear h3
      go_wp2_with fail
      refine dn2.mono ?_
      rintro e w7 hd
      obtain ⟨rfl, y', l', h4, rfl⟩ := (unhide H3).step hd
      have H4 := hide h4.swap
      clear dn2 hd y0 y1 y2 y3 y4 y5 y6 y7 y8 y9 y10 y11 y12 H3 h4 CELL DN
      go_wp2_with fail
      exact ⟨⟨k + 1, by omega, by omega, by go_num, _, _, _, unhide H4, unhide TD⟩, by simp [intOf]; omega⟩
    · go_upto_region 10 with fail
      go_cut [73] from 66 to 87 (fun v wc => v = .bool false ∧ wc = wr)
      case first =>
        clear I
        rcases (by omega : ¬ k < len ∨ (k < len ∧ ¬ k < 500)) with ql | ql
        · have hkI : ¬ (k : Int) < (len : Int) := by omega
          go_wp2_with fail
          go_meet
          exact ⟨rfl, rfl⟩
        · have hkI : (k : Int) < (len : Int) := by omega
          have hk15 : ¬ (k : Int) < 500 := by omega
          go_wp2_with fail
          go_meet
          exact ⟨rfl, rfl⟩
      case rest =>
      obtain ⟨rfl, hwc⟩ := hcut
      obtain ⟨wz, hwz⟩ : ∃ wz, wz = wc := ⟨_, rfl⟩
      subst hwz
      obtain ⟨x, y, l, h2, td⟩ := unhide I
      rw [← hwc] at h2
      have hf0 := unhide HF
      have bd : LBd l := ⟨h2.a_.lw_.ok.ac, by have := h2.a_.ne; omega, h2.a_.lw_.ok.kl, h2.a_.lw_.ok.si⟩
      have c4 : wz.cell? ⟨la, 4, none⟩ = some (.int .i64 l.ne) := h2.a_.lw_.ld.cell 4 _ rfl
      have BL : Calls Tryz.prog 14 #[.int .i64 l.ne, .slice ra rn rc] wz fun e Y => ∃ v, e = .returned v ∧ Row Y v (rs.map (belowF l.ne)) ∧ Fresh wz v ∧ wz.grownBy Y none := below_any l.ne ra rn rc rs wz (unhide HR).2.2 (by have := unhide HR; omega) (rds_of ((unhide HR).1.kept fun hx b off e => h2.a_.kp.block b ((unhide HR).1.lt hx b off e) (fun e2 => by have := (unhide HR).1.lt hx b off e; omega)))
      have GG := hide (And.intro h2.g2 (And.intro bd td))
      clear hwc I h2 td bd hf0
      go_wp2_with fail
      refine BL.mono ?_
      rintro e W2 ⟨v, rfl, hrow, hfr, g2⟩
      obtain ⟨ia, ic, rfl, rd⟩ := rds_row hrow
      have e1 : (rs.map (belowF l.ne)).length = rn := by rw [List.length_map]; exact (unhide HR).2.2.symm
      rw [e1] at hrow hfr ⊢
      obtain ⟨L, hL⟩ : ∃ L, L = rs.map (belowF l.ne) := ⟨_, rfl⟩
      rw [← hL] at hrow rd
      have hLl : L.length = rn := by rw [hL]; exact e1
      have RD := hide rd
      have LL := hide hLl
      have LR := hide (And.intro hrow (And.intro hfr g2))
      clear BL g2 hrow hfr rd e1 hL hLl c4
      have rnI : ¬ (9223372036854775807 : Int) < (rn : Int) := by have := unhide HR; omega
      go_wp2_with fail
      go_loopw [17, 18] (fun ov iv wr => ∃ (j : Nat) (z : Int) (v : Value), z = (j : Int) - 1 ∧ j ≤ rn ∧ v = ov ∧ iv = .int .i64 z ∧ Hid (Row wr v (L.drop j).reverse ∧ Fresh W2 v ∧ W2.grownBy wr none)) (fun _ iv _ => (intOf iv + 1).toNat)
      case atStart => exact ⟨rn, (rn : Int) - 1, _, rfl, Nat.le_refl _, rfl, by go_num, by rw [List.drop_of_length_le (by rw [unhide LL]; exact Nat.le_refl _)]; exact row_nil _, fresh_nil _, grown_self _ _⟩
      case round =>
        obtain ⟨j, z, ov, hz, hj, rfl, rfl, J⟩ := hrel
        cases j with
        | succ i =>
          obtain rfl : z = (i : Int) := by omega
          clear hz
          have z0 : (0 : Int) ≤ (i : Int) := by omega
          have zI : (i : Int) < (rn : Int) := by omega
          obtain ⟨hrow, hf, gr⟩ := unhide J
          obtain ⟨r, hr⟩ : ∃ r, L[i]? = some r := ⟨_, List.getElem?_eq_getElem (by rw [unhide LL]; omega)⟩
          obtain ⟨ig, io, rfl, hc⟩ : ∃ g off, ia = some ⟨g, off, none⟩ ∧ ∀ (i : Nat) (r : Sp), L[i]? = some r → W2.cell? ⟨g, off + i * 2, none⟩ = some (.int .i64 r.1) ∧ W2.cell? ⟨g, off + i * 2 + 1, none⟩ = some (.int .i64 r.2) := by
            rcases unhide RD with e | h
            · rw [e] at hr; simp at hr
            · exact h
          obtain ⟨lo, hi⟩ := r
          obtain ⟨q0, q1⟩ := hc i _ hr
          replace q0 := cell_grown q0 gr
          replace q1 := cell_grown q1 gr
          simp only at q0 q1
          have gA := grown_alloc wr (.cells #[.int .i64 lo, .int .i64 hi] 63)
          have bA : Blk (wr.alloc (.cells #[.int .i64 lo, .int .i64 hi] 63)) wr.heap.size #[.int .i64 lo, .int .i64 hi] 63 := Blk.new _ _ _
          have hrA : Row (wr.alloc (.cells #[.int .i64 lo, .int .i64 hi] 63)) ov (L.drop (i + 1)).reverse := row_kept hrow fun g e => gA.block g (row_lt hrow g e) (by simp)
          obtain ⟨v', W4, hap, hr', hmv, -⟩ := app2 _ _ _ [(lo, hi)] 47 hrA ⟨wr.heap.size, 0, none⟩ 1 (fun j u hj => by
            rw [Addr.add_lit, Nat.zero_add]
            refine bA.cell j u ?_
            simpa [cl] using hj) (by simp) (by rw [List.length_reverse, List.length_drop, unhide LL]; simp; have := unhide HR; omega)
          obtain ⟨gW, hf'⟩ := Moved.fresh (grown_trans gr gA) hf hmv
          rw [← drop_rev hr] at hr'
          have NX : Hid (Row W4 v' (L.drop i).reverse ∧ Fresh W2 v' ∧ W2.grownBy W4 none) := ⟨hr', hf', gW⟩
          have HAP := hide hap
          clear hrow hf gr hr hc gA bA hrA hap hr' hmv gW hf' J
          go_wp2_with (at_builtin; refine wpList_append_run _ rfl _ _ 47 47 rfl ov (.slice (some ⟨wr.heap.size, 0, none⟩) 1 1) rfl rfl (unhide HAP) ?_)
          exact ⟨⟨i, (i : Int) - 1, _, rfl, by omega, rfl, by go_num, unhide NX⟩, by first | (simp [intOf]; done) | (simp [intOf]; omega)⟩
        | zero =>
          have zn : ¬ (0 : Int) ≤ z := by omega
          clear hz
          obtain ⟨hrow, hf, gr⟩ := unhide J
          obtain ⟨hrI, hfI, gI⟩ := unhide LR
          have hrI2 : Row wr (.slice ia rn ic) L := row_kept hrI fun g e => gr.block g (row_lt hrI g e) (by simp)
          obtain ⟨v', W4, hap, hr', hf', gW⟩ := app_whole W2 wr ov (.slice ia rn ic) _ _ hrow hrI2 hf gr (by rw [List.length_reverse, List.length_drop, unhide LL]; have := unhide HR; omega)
          have hrI4 : Row W4 (.slice ia rn ic) L := row_kept hrI fun g e => gW.block g (row_lt hrI g e) (by simp)
          rw [List.drop_zero] at hr'
          obtain ⟨O, hO⟩ : ∃ O, O = L.reverse ++ L := ⟨_, rfl⟩
          rw [← hO] at hr'
          have mem : ∀ s, s ∈ L ↔ s ∈ O := fun s => by rw [hO]; exact both_mem L s
          have lO : O.length = rn + rn := by rw [hO, List.length_append, List.length_reverse, unhide LL]
          have hrl := (unhide HR).2.1
          have hrn := (unhide HR).2.2
          obtain ⟨G0, bd, td⟩ := unhide GG
          have G4 := G0.grown (grown_trans gI gW)
          have szz : ∀ g, ownG ba qa x.kv x.va g ∨ ownG bb qb y.kv y.va g → g < wz.heap.size := fun g hg => hg.elim (G0.a_.ol g) (G0.b_.ol g)
          have s2 := gI.size
          have AK := G4.ack_any (.slice ia rn ic) L hrI4 (fun g e hg => by
            have := hfI g e
            have := szz g (.inl hg)
            omega) (by rw [unhide LL]; omega) bd
          have HAP := hide hap
          have S1 := hide (And.intro hrI4 (And.intro hfI (And.intro hr' (And.intro hf' (And.intro szz (And.intro s2 (And.intro lO mem)))))))
          have GW := hide (And.intro gI (And.intro gW (And.intro bd td)))
          clear hrow hf gr hrI hfI gI hrI2 hap hr' hf' gW hrI4 hO mem lO G0 bd td G4 szz s2 J hrn hrl
          go_wp2_with (at_builtin; refine wpList_append_run _ rfl _ _ 47 47 rfl ov (.slice ia rn ic) rfl rfl (unhide HAP) ?_)
          refine AK.mono ?_
          rintro e W5 ⟨ov1, er1, Ro1, ka1, va1, rfl, i1, kx, rx, nx, own1, G5, kp5⟩
          obtain ⟨hin, hinF, hot, hotF, szz, s2, lO, mem⟩ := unhide S1
          obtain ⟨gI, gW, bd, td⟩ := unhide GW
          have s4 := gW.size
          have inlt : ∀ g, Value.ownBlock (.slice ia rn ic) = some g → g < W4.heap.size := fun g e => row_lt hin g e
          have hin5 : Row W5 (.slice ia rn ic) L := row_kept hin fun g e => kp5.block g (row_lt hin g e) (fun o => by have := hinF g e; have := szz g (.inl o); omega)
          have hot5 : Row W5 v' O := row_kept hot fun g e => kp5.block g (row_lt hot g e) (fun o => by have := hotF g e; have := szz g (.inl o); omega)
          have AK2 := G5.swap.ack_any v' O hot5 (fun g e o => by have := hotF g e; have := szz g (.inr o); omega) (by rw [lO]; have := (unhide HR).2.1; have := (unhide HR).2.2; omega) bd
          have K1 := hide (And.intro i1 (And.intro kx (And.intro rx (And.intro nx (And.intro own1 (And.intro hin5 inlt))))))
          clear AK HAP i1 kx rx nx own1 G5 kp5 hin hinF hot hotF szz s2 lO mem gI gW bd td s4 inlt hin5 hot5
          go_wp2_with fail
          refine AK2.mono ?_
          rintro e W6 ⟨ov2, er2, Ro2, kb2, vb2, rfl, i2, ky, ry, ny, own2, G6, kp6⟩
          obtain ⟨i1, kx, rx, nx, own1, hin5, inlt⟩ := unhide K1
          obtain ⟨-, hinF, -, -, szz, s2, lO, mem⟩ := unhide S1
          obtain ⟨gI, gW, bd, td⟩ := unhide GW
          have s4 := gW.size
          have kx6 := kx.by_ rx nx (fun g o => by have := szz g (.inr o); omega) kp6
          rw [← ansBy_mem mem bd.ne] at ky
          have hin6 : Row W6 (.slice ia rn ic) L := row_kept hin5 fun g e => kp6.block g (row_lt hin5 g e) (fun o => by have := hinF g e; have := szz g (.inr o); omega)
          have hinO : ∀ g, Value.ownBlock (.slice ia rn ic) = some g → ¬ ownG ba qa ka1 va1 g := fun g e o => by
            have h1 := hinF g e
            have h2 := inlt g e
            rcases own1 g o with q | q
            · have := szz g (.inl q); omega
            · omega
          have ee : er1 = 0 ↔ er2 = 0 := i1.trans ((mayAck_mem mem).trans i2.symm)
          have lk : (l.ackBy L).like (l.ackBy O) := ackBy_like mem bd.ne
          obtain ⟨o, n1, n2, n3, n4, n5, n6, hVV⟩ : ∃ o n1 n2 n3 n4 n5 n6, vw (l.ackBy L) (flt (l.ackBy L).ks) (l.ackBy L).ks.length (wtg (l.ackBy L).ks) = #[.bool o, .int .i64 n1, .int .i64 n2, .int .i64 n3, .int .i64 (-1), .int .i64 n4, .int .i64 n5, .int .i64 n6] := ⟨_, _, _, _, _, _, _, rfl⟩
          have VA : Hid (∀ W, W6.grownBy W none → Calls Tryz.prog 9 #[.pointer (some ⟨ba, 0, none⟩)] W fun e Y => e = .returned (.agg #[.bool o, .int .i64 n1, .int .i64 n2, .int .i64 n3, .int .i64 (-1), .int .i64 n4, .int .i64 n5, .int .i64 n6]) ∧ W.grownBy Y none) := fun W g => by
            have := (G6.swap.grown g).view (bd.ack L)
            rw [hVV] at this
            exact this
          have VB : Hid (∀ W, W6.grownBy W none → Calls Tryz.prog 9 #[.pointer (some ⟨bb, 0, none⟩)] W fun e Y => e = .returned (.agg #[.bool o, .int .i64 n1, .int .i64 n2, .int .i64 n3, .int .i64 (-1), .int .i64 n4, .int .i64 n5, .int .i64 n6]) ∧ W.grownBy Y none) := fun W g => by
            have := (G6.grown g).view (bd.ack O)
            rw [← vw_like lk, hVV] at this
            exact this
          have K2 := hide (And.intro kx6 (And.intro ky (And.intro hin6 (And.intro hinO (And.intro G6.swap (And.intro lk hVV))))))
          clear AK2 K1 i1 kx rx nx own1 hin5 inlt hinF szz s2 lO mem gI gW bd td s4 kx6 ky hin6 hinO lk hVV i2 ry ny own2 G6 kp6
          go_upto_region 23 with fail
          go_cut [134] from 123 (fun v wc => v = .bool false ∧ W6.grownBy wc none)
          case first =>
            have va_ := unhide VA W6 (grown_self _ _)
            by_cases c : er1 = 0
            · obtain rfl := ee.1 c
              subst c
              go_wp2_with fail
              refine va_.mono ?_
              rintro e W7 ⟨rfl, g7⟩
              have vb_ := unhide VB W7 g7
              have G7 := hide g7
              clear va_ g7
              go_wp2_with fail
              refine vb_.mono ?_
              rintro e W8 ⟨rfl, g8⟩
              have G8 := hide (grown_trans (unhide G7) g8)
              clear vb_ g8
              go_wp2_with fail
              go_meet
              exact ⟨rfl, unhide G8⟩
            · have c2 : ¬ er2 = 0 := fun e => c (ee.2 e)
              have b1 : (er1 == 0) = false := by simpa using c
              have b2 : (er2 == 0) = false := by simpa using c2
              go_wp2_with fail
              refine va_.mono ?_
              rintro e W7 ⟨rfl, g7⟩
              have vb_ := unhide VB W7 g7
              have G7 := hide g7
              clear va_ g7
              go_wp2_with fail
              refine vb_.mono ?_
              rintro e W8 ⟨rfl, g8⟩
              have G8 := hide (grown_trans (unhide G7) g8)
              clear vb_ g8
              go_wp2_with fail
              go_meet
              exact ⟨rfl, unhide G8⟩
          case rest =>
          obtain ⟨rfl, g8⟩ := hcut
          obtain ⟨W8, hW8⟩ : ∃ W8, W8 = wc := ⟨_, rfl⟩
          subst hW8
          have SM : Calls Tryz.prog 16 #[ov1, ov2] W8 fun e w' => e = .returned (.bool true) ∧ W8.grownBy w' none := by
            obtain ⟨kx6, ky6, -⟩ := unhide K2
            obtain ⟨gI, gW, bd, td⟩ := unhide GW
            exact sames_eq (l.ansBy L) (ansBy_told td L) (by have := ansBy_len l L; have := bd.kl; omega) Ro1 Ro2 ov1 ov2 W8 (kx6.grown g8) (ky6.grown g8)
          have K3 := hide g8
          clear g8 VA VB
          go_wp2_with fail
          refine SM.mono ?_
          rintro e W9 ⟨rfl, g9⟩
          have AK3 : Calls Tryz.prog 15 #[.pointer (some ⟨ba, 0, none⟩), .slice ia rn ic] W9 fun e W10 => ∃ o3 c3 er3 ka3 va3, e = .returned (.tuple #[.slice o3 0 c3, .int .i64 er3]) ∧ G2 w W10 ba qa bb qb ka3 va3 kb2 vb2 x.R y.R ((l.ackBy L).ackBy L) (l.ackBy O) := by
            have g69 := grown_trans (unhide K3) g9
            obtain ⟨-, -, hin6, hinO, G6, -, -⟩ := unhide K2
            obtain ⟨gI, gW, bd, td⟩ := unhide GW
            have hin9 : Row W9 (.slice ia rn ic) L := row_kept hin6 fun g e => g69.block g (row_lt hin6 g e) (by simp)
            refine ((G6.grown g69).ack_any (.slice ia rn ic) L hin9 hinO (by rw [unhide LL]; have := unhide HR; omega) (bd.ack L)).mono ?_
            rintro e W10 ⟨ov3, er3, Ro3, ka3, va3, rfl, -, k3, -, -, -, G10, -⟩
            rw [again_ans bd.ne] at k3
            obtain ⟨o3, c3, h3⟩ := kv_shape k3
            have h3 : ov3 = .slice o3 0 c3 := h3
            subst h3
            exact ⟨o3, c3, er3, ka3, va3, rfl, G10⟩
          clear SM g9 K3
          go_wp2_with fail
          refine AK3.mono ?_
          rintro e W10 ⟨o3, c3, er3, ka3, va3, rfl, G10⟩
          have LS := G10.lose (((unhide GW).2.2.1.ack L).ack L)
          clear AK3 G10
          go_wp2_with fail
          refine LS.mono ?_
          rintro e W11 ⟨o4, c4, ka4, rfl, G11⟩
          have VA2 : Calls Tryz.prog 9 #[.pointer (some ⟨ba, 0, none⟩)] W11 fun e Y => e = .returned (.agg #[.bool o, .int .i64 n1, .int .i64 n2, .int .i64 n3, .int .i64 (-1), .int .i64 n4, .int .i64 n5, .int .i64 n6]) ∧ W11.grownBy Y none := by
            obtain ⟨-, -, -, -, -, -, hVV⟩ := unhide K2
            obtain ⟨gI, gW, bd, td⟩ := unhide GW
            have := G11.view ((bd.ack L).ack L)
            rw [vw_like (again_like bd.ne), hVV] at this
            exact this
          have VB2 : Hid (∀ W, W11.grownBy W none → Calls Tryz.prog 9 #[.pointer (some ⟨bb, 0, none⟩)] W fun e Y => e = .returned (.agg #[.bool o, .int .i64 n1, .int .i64 n2, .int .i64 n3, .int .i64 (-1), .int .i64 n4, .int .i64 n5, .int .i64 n6]) ∧ W.grownBy Y none) := fun W g => by
            obtain ⟨-, -, -, -, -, lk, hVV⟩ := unhide K2
            obtain ⟨gI, gW, bd, td⟩ := unhide GW
            have := (G11.swap.grown g).view (bd.ack O)
            rw [← vw_like lk, hVV] at this
            exact this
          have END : Hid (∀ W, W11.grownBy W none → w.grownBy W none) := fun W g => by
            have k := (G11.grown g).kp
            exact ⟨k.os, k.tape, k.output, k.size, fun x hx _ => k.block x hx (fun e => by omega)⟩
          clear LS G11
          go_wp2_with fail
          refine VA2.mono ?_
          rintro e W12 ⟨rfl, g12⟩
          have vb := unhide VB2 W12 g12
          have GE := hide g12
          clear VA2 g12 VB2
          go_wp2_with fail
          refine vb.mono ?_
          rintro e W13 ⟨rfl, g13⟩
          have FIN := hide (unhide END W13 (grown_trans (unhide GE) g13))
          clear vb g13 END GE
          go_wp2_with fail
          go_ret
          exact ⟨rfl, unhide FIN⟩
end Go.Proofs.YtnflbefbgcbdfaaGreat

namespace Go.Proofs.YtnflbefbgcbdfaaGreat
open Go.ChangeShapes Go.WideShapes Go.ChangeAt Go.RowKit
set_option linter.unusedVariables false
set_option maxRecDepth 100000

namespace ledgerAgainFrame

theorem own : ownKnob Tryz.prog.godebug = none := by kernel_rfl
theorem laidOut : laidOutB Tryz.prog = true := by kernel_rfl

set_option maxRecDepth 100000 in
theorem lifted (os : Os) (started : os.Started) (H : Type) (enc : TypeId × Value → H) (F : Stop.Interp) :
    ReturnsInHanded {} Tryz.checked os 4 .any ((Rows.OpenSpec.upto Rows.ledgerAgainSpec).pre6 enc Tryz.prog Tryz.f4 Rows.ledgerAgainUptoRow.domain false) (((Rows.OpenSpec.upto Rows.ledgerAgainSpec).at F).post enc Tryz.prog Tryz.f4 false true false false) := by
  refine returnsInHanded_of_cond_sized (C := Tryz.checked) (s := Rows.OpenSpec.upto Rows.ledgerAgainSpec) (k := Rows.uptoSmall) rfl own started (by kernel_rfl) Tryz.func4
    (OpenSpec.witness (enc := enc) (C := Tryz.checked) (s := Rows.OpenSpec.upto Rows.ledgerAgainSpec) (k := Rows.uptoSmall) rfl false ⟨#[], #[.int .i64 0, .slice none 0 0, .slice none 0 0], []⟩ 8 (by kernel_rfl) (by kernel_rfl) (by kernel_rfl)
      (x := ([.lit (.int .i64 0), .nil, .nil], [], [])) (by kernel_rfl) rfl (by kernel_rfl)) ?_
  intro W base args ds gs before hval0 hW hcnd hk hsz0 _
  have hsz : (DataW.weightsEach Tryz.prog (Tryz.f4.params.toList ++ (Rows.OpenSpec.upto Rows.ledgerAgainSpec).bare.plain.varTypes Tryz.prog) (ds ++ gs)).all (· ≤ reachBytes) = true := hsz0
  have hval : ∀ (j : Nat) t v, Tryz.f4.params[j]? = some t → args[j]? = some v → Value.okWide Tryz.prog W .any base t v := hval0
  have hW' := hW
  obtain ⟨p, q, hA0, hV, rfl, hfz, hnd⟩ := hW
  have hA : DataW.TrodAll enc Tryz.prog W 0 (fun _ => true) true Tryz.f4.params.toList args.toList ds p := hA0
  rw [Tryz.params4] at hA hval hsz
  obtain ⟨v0, vs0, d0, ds0, p0, q0, hargs, rfl, rfl, h0, r0⟩ := trodAll_cons hA
  obtain ⟨v1, vs1, d1, ds1, p1, q1, rfl, rfl, rfl, h1, r1⟩ := trodAll_cons r0
  obtain ⟨v2, vs2, d2, ds2, p2, q2, rfl, rfl, rfl, h2, r2⟩ := trodAll_cons r1
  obtain ⟨rfl, rfl, rfl⟩ := trodAll_nil r2
  obtain rfl : args = #[v0, v1, v2] := by cases args; simp_all
  obtain ⟨rfl, rfl⟩ := trodVars_none hV
  have k0 := h0
  have lt0 : ∀ x ∈ p0, x.block < W.heap.size := by obtain ⟨m, hm⟩ := k0; exact DataW.trod_lt m _ _ _ hm
  obtain ⟨a0, rfl, rfl, rfl, w0⟩ := open_int Tryz.underlying2 (hval 0 2 v0 rfl rfl) h0
  have k1 := h1
  have lt1 : ∀ x ∈ p1, x.block < W.heap.size := by obtain ⟨m, hm⟩ := k1; exact DataW.trod_lt m _ _ _ hm
  obtain ⟨a1, len1, cap1, rfl⟩ := okWide_slice Tryz.underlying22 (hval 1 22 v1 rfl rfl)
  obtain ⟨ol1, w1, b1, c1⟩ : ∃ ol, IsOpL W a1 len1 ol ∧ len1 ≤ 1048576 ∧ (len1 ≤ cap1 ∧ cap1 ≤ 9223372036854775807) := by
    obtain ⟨fuel, hf⟩ := h1
    exact opls_open (y := (d1, p1)) (by simpa [Value.cells] using hf) (bulk_mem hk (d := d1) (by simp))
  have k2 := h2
  have lt2 : ∀ x ∈ p2, x.block < W.heap.size := by obtain ⟨m, hm⟩ := k2; exact DataW.trod_lt m _ _ _ hm
  obtain ⟨sa2, sl2, sc2, rfl⟩ := okWide_slice Tryz.underlying47 (hval 2 47 v2 rfl rfl)
  obtain ⟨ra2, rc2, fr2, re2, fo2, fl2⟩ := runs_open h2 (bulk_mem hk (d := d2) (by simp))
  cases re2
  clear hA0 hval0
  refine (again_walk a0 a1 len1 cap1 ol1 W w1 b1 sa2 sc2 fr2 fo2 fl2).mono fun e W' ⟨he, gr⟩ => ?_
  have bel : Below W.heap.size W W' := (Below.refl _ W).grown gr (Nat.le_refl _) (fun k hk => by cases hk)
  subst he
  exact ⟨_, rfl, _, _, _, [], _, [], hW', trodAll_mk1 (shut_bool Tryz.underlying4 _), (trodAll_cons_mk (shut_int Tryz.underlying2 w0) (trodAll_cons_mk (Below.trod laidOut (by kernel_rfl) (of_decide_eq_true (by kernel_rfl)) k1 bel lt1) (trodAll_cons_mk (Below.trod laidOut (by kernel_rfl) (of_decide_eq_true (by kernel_rfl)) k2 bel lt2) trodAll_mk0))), rfl, bel.frame _, fun h => by cases h⟩

theorem over : Rows.ledgerAgainUptoRow.holds Tryz.pinned (Rows.OpenSpec.upto Rows.ledgerAgainSpec) :=
  OpenClaim.holds_of_cond 4 Tryz.f4 rfl rfl rfl rfl rfl rfl rfl ⟨rfl, rfl, rfl, rfl, rfl⟩ rfl rfl rfl rfl rfl (by kernel_rfl) Tryz.func4 (by kernel_rfl)
    (of_decide_eq_true (by kernel_rfl)) (by unfold Func.isWrapper; first | (rw [if_pos (by decide +kernel)]; kernel_rfl) | (rw [if_neg (by decide +kernel)]; exact ⟨rfl, rfl⟩))
    (fun os started H enc _ F => lifted os started H enc F)
end ledgerAgainFrame

/-- THE STATEMENT -/
theorem ledgerAgain_holds : Rows.LedgerAgainUptoSaid := ledgerAgainFrame.over
end Go.Proofs.YtnflbefbgcbdfaaGreat
