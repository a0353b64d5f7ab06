/- V2G, V2H, V2I, V2J, V2K, V2L, V2M, V2N, V2O, V2P, V2Q, V2R, V2S, V2T, one text. -/
import Derived.Test.YthihabjegpacaaaGreatPGPlaC
import Derived.BigQuiet
import Derived.Deep.RegionHeld3
import Derived.Laws.StructEq
import Derived.Test.YthihabjegpacaaaGreatPGPlaB
namespace Go.Proofs.YthihabjegpacaaaGreat
open Go.RowKit
set_option linter.unusedVariables false
set_option maxHeartbeats 4000000
set_option maxRecDepth 100000
/-- What fill leaves. -/
def FillP (n0 : Nat) (X : World) (ob : Nat) (vl : Value) (rest : List Value) (V : Nat → Prop) (es : List En) (vb vr : Value) (Y : World) : Prop :=
  ∃ vl' V' gs, OL n0 Y ob vl' rest V' (es ++ gs) ∧ gs.length = 2 ∧ (∀ e ∈ gs, e.bn ≤ 1000000000 ∧ e.rn ≤ 1000000000) ∧ Kp (fun g => Om ob vl g ∨ vb.ownBlock = some g ∨ vr.ownBlock = some g) X Y ∧ ∀ g, Om ob vl' g ∨ V' g → (Om ob vl g ∨ V g ∨ vb.ownBlock = some g ∨ vr.ownBlock = some g) ∨ X.heap.size ≤ g

section
variable {n0 : Nat} {X Z : World} {ob : Nat} {vl : Value} {rest : List Value} {V : Nat → Prop} {es : List En} {m : Nat} {D : Nat → Prop}
/-- What was grown goes onto the list. -/
theorem GL.push {W : World} {ba bc ra rc : Nat} {aa ab : Option Addr} (h : GL n0 X ob vl rest V es m D (.slice aa ba bc) (.slice ab ra rc) ba ra W) (hm : 20 ≤ m ∧ m ≤ 219) (hb : es.length + 1 ≤ 1000000000) (hD : ∀ g, Om ob vl g → D g ∨ X.heap.size ≤ g) :
    ∃ a' c' W', (Builtin.append_ #[35, 35] 35 #[vl, .slice (some ⟨W.heap.size, 0, none⟩) 1 1]).run Tryz.prog (W.alloc (.cells #[.slice aa ba bc, .slice ab ra rc, .int .i64 (m : Int)] 83)) = .ok (.slice a' (es.length + 1) c') W' ∧ W'.frozen? ⟨ob, 0, none⟩ = false ∧ (∃ u, W'.cell? ⟨ob, 0, none⟩ = some u) ∧ ∃ V', OL n0 (W'.setCell ⟨ob, 0, none⟩ (.slice a' (es.length + 1) c')) ob (.slice a' (es.length + 1) c') rest V' (es ++ [⟨aa, ba, bc, ab, ra, rc, m⟩]) ∧ Kp D X (W'.setCell ⟨ob, 0, none⟩ (.slice a' (es.length + 1) c')) ∧ ∀ g, Om ob (.slice a' (es.length + 1) c') g ∨ V' g → (D g ∨ V g) ∨ X.heap.size ≤ g := by
  have hsz := h.kp.size
  have hE : EOk W (fun g => V g ∨ (Value.slice aa ba bc).ownBlock = some g ∨ (Value.slice ab ra rc).ownBlock = some g) ⟨aa, ba, bc, ab, ra, rc, m⟩ := by
    obtain ⟨x1, x2, x3, x4, x5, x6⟩ := own_shape h.bb
    obtain ⟨y1, y2, y3, y4, y5, y6⟩ := own_shape h.rr
    injection x3 with i1 i2 i3
    injection y3 with j1 j2 j3
    subst i1 i3 j1 j3
    refine ⟨⟨x4, x5⟩, ⟨y4, y5⟩, hm, ?_, ?_⟩
    · rcases x6 with hz | ⟨g, rfl⟩
      · exact .inl hz
      · exact .inr ⟨g, rfl, .inr (.inl rfl), own_blk h.bb rfl, fun i hi => by rw [World.ownsRow.cellAt h.bb i (by simp only at hi; omega), List.getElem?_replicate, if_pos hi]⟩
    · rcases y6 with hz | ⟨g, rfl⟩
      · exact .inl hz
      · refine .inr ⟨g, rfl, .inr (.inr rfl), own_blk h.rr rfl, fun i hi => ?_⟩
        have hi' : i < ra := hi
        have hg := mR_get m ra i hi'
        exact ⟨(World.ownsRow.cellAt h.rr (i * 2) (by omega)).trans hg.1, (World.ownsRow.cellAt h.rr (i * 2 + 1) (by omega)).trans hg.2⟩
  have hV' : ∀ g, (V g ∨ (Value.slice aa ba bc).ownBlock = some g ∨ (Value.slice ab ra rc).ownBlock = some g) → n0 ≤ g ∧ g < W.heap.size ∧ g ≠ ob ∧ vl.ownBlock ≠ some g := fun g q => by
    rcases q with q | q | q
    · exact h.ol.nV g q
    · exact ⟨(h.bb.lt g q).1, (h.bb.lt g q).2, fun z => own_ne_blk h.bb h.ol.blk (by decide) (z ▸ q), own_ne h.bb h.ol.row (by decide) q⟩
    · exact ⟨(h.rr.lt g q).1, (h.rr.lt g q).2, fun z => own_ne_blk h.rr h.ol.blk (by decide) (z ▸ q), own_ne h.rr h.ol.row (by decide) q⟩
  obtain ⟨a', c', W', hr, h2, fz, hu, k2, o2⟩ := h.ol.push (Nat.le_trans h.n0 hsz) ⟨aa, ba, bc, ab, ra, rc, m⟩ _ (fun g q => .inl q) hE hV' hb
  refine ⟨a', c', W', hr, fz, hu, _, h2, ?_, fun g q => ?_⟩
  · exact h.kp.then k2 fun g hg q => (hD g q).resolve_right (by omega)
  · rcases q with (q | q) | q | q | q
    · exact (hD g (.inl q)).imp .inl id
    · rcases o2 with o2 | o2
      · exact (hD g (.inr (o2 ▸ q))).imp .inl id
      · have := o2 g q; right; omega
    · exact .inl (.inr q)
    · exact (h.db g q).imp .inl id
    · exact (h.dr g q).imp .inl id
end

def FJ (n0 : Nat) (X : World) (ob : Nat) (vl : Value) (rest : List Value) (V : Nat → Prop) (es : List En) (m : Nat) (D : Nat → Prop) (bn rn : Nat) (bv rv i : Value) (Z : World) : Prop :=
  ∃ (k : Nat) (aa : Option Addr) (bc : Nat) (ab : Option Addr) (rc : Nat), k ≤ 70 ∧ i = .int .i64 (k : Int) ∧ bv = .slice aa (bn + k) bc ∧ rv = .slice ab (rn + k) rc ∧ GL n0 X ob vl rest V es m D (.slice aa (bn + k) bc) (.slice ab (rn + k) rc) (bn + k) (rn + k) Z
section
variable {n0 : Nat} {X Z : World} {ob : Nat} {vl : Value} {rest : List Value} {V : Nat → Prop} {es : List En} {vb vr : Value} {n : Nat} {Bs xs : List Value}
theorem fill_any (h : OL n0 X ob vl rest V es) (hn0 : n0 ≤ X.heap.size) (hl : es.length + 2 ≤ 100000000) (hb : RowV n0 5 X vb Bs) (hr : X.ownsRow n0 69 2 vr n xs) (hbn : Bs.length ≤ 100000000) (hrn : n ≤ 100000000) (hnb : ∀ g, vb.ownBlock = some g → ¬ V g) (hnr : ∀ g, vr.ownBlock = some g → ¬ V g) :
    Calls Tryz.prog 24 #[ptr ob, vb, vr] X fun e Y => e = .returned (.tuple #[]) ∧ FillP n0 X ob vl rest V es vb vr Y := by
  obtain ⟨ba, bc, rfl, hb1, hb2, hb3⟩ := own_shape hb
  obtain ⟨ra, rc, rfl, hr1, hr2, hr3⟩ := own_shape hr
  obtain ⟨la, lc, rfl, hl1, hl2, -⟩ := h.at
  have c0 := h.cell0
  have HP := hide h
  have HNB := hide hnb
  have HNR := hide hnr
  have HN0 := hide hn0
  have HXL := hide hr.1
  have I0 : Hid (MK n0 X ob (.slice la es.length lc) rest V es (.slice ba Bs.length bc) (.slice ra n rc) n (fillB Bs (es.length % 200 + 20) 0) xs X) := ⟨h, hb, hr, Kp.refl _ _, hnb, hnr⟩
  obtain ⟨m, hm⟩ : ∃ m, m = es.length % 200 + 20 := ⟨_, rfl⟩
  have hmb : 20 ≤ m ∧ m ≤ 219 := by omega
  rw [← hm] at I0
  have hrem : Int.tmod (es.length : Int) 200 = ((m - 20 : Nat) : Int) := by
    rw [show (200 : Int) = ((200 : Nat) : Int) from rfl, ← Int.ofNat_tmod]
    congr 1
    omega
  have hm2 : ((m - 20 : Nat) : Int) + 20 = (m : Int) := by omega
  have wm : IntKind.i64.wrap (m : Int) = (m : Int) := by rw [IntKind.wrap_i64]; omega
  have wu : IntKind.u8.wrap (m : Int) = (m : Int) := by rw [IntKind.wrap_u8]; omega
  have hnl : xs.length = n * 2 := hr.1
  have hN9 : es.length ≤ 1000000000 := by omega
  have HM := hide hm
  have HNL := hide hnl
  clear h hb hr hnb hnr hm hnl
  generalize hBN : Bs.length = bn at *
  have HBN := hide hBN
  clear hBN
  generalize hEN : es.length = N at *
  have HEN := hide hEN
  clear hEN
  generalize hkk : m - 20 = mk at *
  clear hkk
  go_enter Tryz.func24, Tryz.ntmps24
  go_wp2
  clear c0 hrem
  go_loopw [7] (fun i Z => ∃ k : Nat, k ≤ bn ∧ i = .int .i64 (k : Int) ∧ Hid (MK n0 X ob (.slice la N lc) rest V es (.slice ba bn bc) (.slice ra n rc) n (fillB Bs m k) xs Z)) (fun i _ => bn - (intOf i).toNat)
  case atStart => exact ⟨0, Nat.zero_le _, rfl, I0⟩
  case round =>
    clear I0
    obtain ⟨k, hk, rfl, I⟩ := hrel
    obtain ⟨Z, hZ⟩ : ∃ Z, Z = wr := ⟨_, rfl⟩
    subst hZ
    by_cases hlt : k < bn
    · obtain ⟨gb, rfl⟩ := hb3.resolve_left (by omega)
      have hkl : k < (fillB Bs m k).length := by rw [fillB_len, unhide HBN]; exact hlt
      have NX := hide ((unhide I).setB k hkl (.int .u8 (m : Int)))
      obtain ⟨cur, hcur⟩ := own_blk (unhide I).bb (g := gb) rfl
      have fz := hcur.thaw k
      have hcx : ∃ v, Z.cell? ⟨gb, k, none⟩ = some v := by
        obtain ⟨a0, c0, e0, -, -, h0⟩ := (unhide I).bb.at
        obtain ⟨g0, eg, -, -, -, hc⟩ := h0.resolve_left (fun e => by rw [e] at hkl; simp at hkl)
        injection e0 with e1 e2 e3
        rw [← e1] at eg
        injection eg with eg
        injection eg with eg
        subst eg
        exact ⟨_, hc k _ (List.getElem?_eq_getElem hkl)⟩
      obtain ⟨v, hv⟩ := hcx
      have hkn : (k : Int) < (bn : Int) := by omega
      have hk0 : (0 : Int) ≤ (k : Int) := by omega
      have HLT := hide hlt
      clear hcur hkl I hk hlt
      go_wp2
      exact ⟨⟨k + 1, unhide HLT, by go_num, NX⟩, by simp [intOf]; have := unhide HLT; omega⟩
    · obtain rfl : k = bn := by omega
      have hno : ¬ (k : Int) < (k : Int) := by omega
      have J0 : Hid (MK n0 X ob (.slice la N lc) rest V es (.slice ba k bc) (.slice ra n rc) n (fillB Bs m k) (fillR xs m 0) Z) := I
      clear I hk hlt
      go_wp2
      go_loopw [8] (fun i W => ∃ j : Nat, j ≤ n ∧ i = .int .i64 (j : Int) ∧ Hid (MK n0 X ob (.slice la N lc) rest V es (.slice ba k bc) (.slice ra n rc) n (fillB Bs m k) (fillR xs m j) W)) (fun i _ => n - (intOf i).toNat)
      case atStart => exact ⟨0, Nat.zero_le _, rfl, J0⟩
      case round =>
        clear J0
        obtain ⟨j, hj, rfl, J⟩ := hrel
        obtain ⟨W, hW⟩ : ∃ W, W = wr := ⟨_, rfl⟩
        subst hW
        by_cases hlt : j < n
        · obtain ⟨gr, rfl⟩ := hr3.resolve_left (by omega)
          have NX := hide (((unhide J).setR (j * 2) (.int .i64 (m : Int))).setR (j * 2 + 1) (.int .i64 (-1)))
          obtain ⟨cur, hcur⟩ := own_blk (unhide J).rr (g := gr) rfl
          have fz := hcur.thaw (j * 2)
          have fz2 := hcur.thaw (j * 2 + 1)
          have hcl := fun q (hq : q < n * 2) => World.ownsRow.cellAt (unhide J).rr q hq
          have hcx : ∃ v, W.cell? ⟨gr, j * 2, none⟩ = some v := by
            rw [hcl (j * 2) (by omega)]
            exact ⟨_, List.getElem?_eq_getElem (by rw [fillR_len, unhide HNL]; omega)⟩
          have hcy : ∃ v, W.cell? ⟨gr, j * 2 + 1, none⟩ = some v := by
            rw [hcl (j * 2 + 1) (by omega)]
            exact ⟨_, List.getElem?_eq_getElem (by rw [fillR_len, unhide HNL]; omega)⟩
          obtain ⟨v, hv⟩ := hcx
          obtain ⟨v2, hv2⟩ := hcy
          have hkn : (j : Int) < (n : Int) := by omega
          have hk0 : (0 : Int) ≤ (j : Int) := by omega
          have HLT := hide hlt
          clear hcur hcl J hj hlt
          go_wp2
          exact ⟨⟨j + 1, unhide HLT, by go_num, NX⟩, by simp [intOf]; have := unhide HLT; omega⟩
        · obtain rfl : j = n := by omega
          have hno2 : ¬ (j : Int) < (j : Int) := by omega
          have hJ := unhide J
          have hsB : (fillB Bs m k) = List.replicate k (.int .u8 (m : Int)) := by rw [← unhide HBN]; exact fillB_all Bs m
          have hE : EOk W (fun g => V g ∨ (Value.slice ba k bc).ownBlock = some g ∨ (Value.slice ra j rc).ownBlock = some g) ⟨ba, k, bc, ra, j, rc, m⟩ := by
            refine ⟨⟨hb1, hb2⟩, ⟨hr1, hr2⟩, hmb, ?_, ?_⟩
            · rcases hb3 with hz | ⟨gb, rfl⟩
              · exact .inl hz
              · right
                refine ⟨gb, rfl, .inr (.inl rfl), own_blk hJ.bb rfl, fun i hi => ?_⟩
                obtain ⟨a0, c0, e0, -, -, h0⟩ := hJ.bb.at
                rw [hsB] at h0
                obtain ⟨g0, eg, -, -, -, hc⟩ := h0.resolve_left (fun e => by have := congrArg List.length e; simp at this; simp only at hi; omega)
                injection e0 with e1 e2 e3
                rw [← e1] at eg
                injection eg with eg
                injection eg with eg
                subst eg
                exact hc i _ (by rw [List.getElem?_replicate, if_pos hi])
            · rcases hr3 with hz | ⟨gr, rfl⟩
              · exact .inl hz
              · right
                refine ⟨gr, rfl, .inr (.inr rfl), own_blk hJ.rr rfl, fun i hi => ?_⟩
                have hi' : i < j := hi
                have hg := fillR_get xs m j i (by rw [unhide HNL]; omega) hi'
                exact ⟨(World.ownsRow.cellAt hJ.rr (i * 2) (by omega)).trans hg.1, (World.ownsRow.cellAt hJ.rr (i * 2 + 1) (by omega)).trans hg.2⟩
          have hV' : ∀ g, (V g ∨ (Value.slice ba k bc).ownBlock = some g ∨ (Value.slice ra j rc).ownBlock = some g) → n0 ≤ g ∧ g < W.heap.size ∧ g ≠ ob ∧ (Value.slice la N lc).ownBlock ≠ some g := fun g q => by
            rcases q with q | q | q
            · exact hJ.ol.nV g q
            · exact ⟨(hJ.bb.lt g q).1, (hJ.bb.lt g q).2, fun z => own_ne_blk hJ.bb hJ.ol.blk (by decide) (z ▸ q), own_ne hJ.bb hJ.ol.row (by decide) q⟩
            · exact ⟨(hJ.rr.lt g q).1, (hJ.rr.lt g q).2, fun z => own_ne_blk hJ.rr hJ.ol.blk (by decide) (z ▸ q), own_ne hJ.rr hJ.ol.row (by decide) q⟩
          have hsz := hJ.kp.size
          obtain ⟨a2, c2, W2, hap, h2, fz, ⟨u, hu⟩, k2, o2⟩ := hJ.ol.push (by omega) ⟨ba, k, bc, ra, j, rc, m⟩ _ (fun g q => .inl q) hE hV' (by rw [unhide HEN]; omega)
          rw [unhide HEN] at hap h2 k2 o2
          have c0 := hJ.ol.cell0
          have keep : ∀ g, g ≠ ob → (Value.slice la N lc).ownBlock ≠ some g → g < W.heap.size → (W2.setCell ⟨ob, 0, none⟩ (.slice a2 (N + 1) c2)).heap[g]? = W.heap[g]? := fun g z1 z2 z3 => k2.block g z3 (fun q => by
            rcases q with q | q
            · exact z1 q
            · exact z2 q)
          obtain ⟨Y1, hY1⟩ : ∃ Y1, Y1 = W2.setCell ⟨ob, 0, none⟩ (.slice a2 (N + 1) c2) := ⟨_, rfl⟩
          have GL0 : Hid (GL n0 X ob (.slice a2 (N + 1) c2) rest (fun g => V g ∨ (Value.slice ba k bc).ownBlock = some g ∨ (Value.slice ra j rc).ownBlock = some g) (es ++ [⟨ba, k, bc, ra, j, rc, m⟩]) m (fun g => Om ob (.slice la N lc) g ∨ (Value.slice ba k bc).ownBlock = some g ∨ (Value.slice ra j rc).ownBlock = some g) (.slice ba k bc) (.slice ra j rc) k j Y1) := by
            rw [hY1]
            have hbb := hJ.bb
            rw [hsB] at hbb
            have hbb' : W.ownsRow n0 5 1 (.slice ba k bc) (List.replicate k (Value.int .u8 (m : Int))).length (mB m k) := hbb
            rw [List.length_replicate] at hbb'
            have hrr := hJ.rr
            rw [fillR_all xs m j (unhide HNL)] at hrr
            refine ⟨h2, own_kept hbb' fun g q => keep g (hV' g (.inr (.inl q))).2.2.1 (hV' g (.inr (.inl q))).2.2.2 (hbb'.lt g q).2, own_kept hrr fun g q => keep g (hV' g (.inr (.inr q))).2.2.1 (hV' g (.inr (.inr q))).2.2.2 (hrr.lt g q).2, hJ.kp.trans (k2.mono fun g _ q => .inl q), fun g q => .inl (.inr (.inl q)), fun g q => .inl (.inr (.inr q)), fun f hf g q e1 e2 => ?_, fun f hf g q e1 e2 => ?_, unhide HN0⟩
            · rcases List.mem_append.1 hf with hf | hf
              · rcases ((unhide HP).all f hf).b with z | ⟨g', e3, e4, -⟩
                · omega
                · rw [e3] at e1
                  injection e1 with e1
                  injection e1 with e1
                  subst e1
                  exact absurd e4 (unhide HNB _ q)
              · rw [List.mem_singleton] at hf
                subst hf
                exact ⟨rfl, Nat.le_refl _⟩
            · rcases List.mem_append.1 hf with hf | hf
              · rcases ((unhide HP).all f hf).r with z | ⟨g', e3, e4, -⟩
                · omega
                · rw [e3] at e1
                  injection e1 with e1
                  injection e1 with e1
                  subst e1
                  exact absurd e4 (unhide HNR _ q)
              · rw [List.mem_singleton] at hf
                subst hf
                exact ⟨rfl, Nat.le_refl _⟩
          have OD : Hid (∀ g, Om ob (.slice a2 (N + 1) c2) g → Om ob (.slice la N lc) g ∨ X.heap.size ≤ g) := fun g q => by
            rcases q with q | q
            · exact .inl (.inl q)
            · rcases o2 with z | z
              · exact .inl (.inr (z ▸ q))
              · have := z g q; right; omega
          have hlk : (es ++ [(⟨ba, k, bc, ra, j, rc, m⟩ : En)]).length = N + 1 := by simp [unhide HEN]
          have HLK := hide hlk
          have HAP := hide hap
          unfold ena at HAP
          have HY1 := hide hY1.symm
          clear hj hlt J hJ hE hV' hap h2 k2 o2 keep hsB hsz hlk hY1
          go_wp2_with (at_builtin; refine wpList_append_run _ rfl _ _ 35 35 rfl _ _ rfl rfl (unhide HAP) ?_)
          rw [unhide HY1]
          clear HAP HY1 fz hu c0
          obtain ⟨V1, hV1⟩ : ∃ V1, V1 = (fun g => V g ∨ (Value.slice ba k bc).ownBlock = some g ∨ (Value.slice ra j rc).ownBlock = some g) := ⟨_, rfl⟩
          obtain ⟨D, hD⟩ : ∃ D, D = (fun g => Om ob (.slice la N lc) g ∨ (Value.slice ba k bc).ownBlock = some g ∨ (Value.slice ra j rc).ownBlock = some g) := ⟨_, rfl⟩
          rw [← hV1, ← hD] at GL0
          have HV1 := hide hV1
          have HDD := hide hD
          clear hV1 hD
          go_loopw [1, 2, 9] (fun bv rv i Z => Hid (FJ n0 X ob (.slice a2 (N + 1) c2) rest V1 (es ++ [⟨ba, k, bc, ra, j, rc, m⟩]) m D k j bv rv i Z)) (fun _ _ i _ => 70 - (intOf i).toNat)
          case atStart => exact ⟨0, ba, bc, ra, rc, by omega, rfl, rfl, rfl, unhide GL0⟩
          case round =>
            clear GL0
            obtain ⟨q, aa, bc', ab, rc', hq, rfl, rfl, rfl, G⟩ := unhide hrel
            clear hrel
            obtain ⟨Z, hZ⟩ : ∃ Z, Z = wr := ⟨_, rfl⟩
            subst hZ
            have hG := hide G
            by_cases hlt : q < 70
            · obtain ⟨a3, c3, W3, hap3, G3⟩ := G.appB (by omega)
              obtain ⟨a4, c4, W4, hap4, G4⟩ := G3.appR (by omega)
              have HAP3 := hide hap3
              have HAP4 := hide hap4
              have NX : Hid (FJ n0 X ob (.slice a2 (N + 1) c2) rest V1 (es ++ [⟨ba, k, bc, ra, j, rc, m⟩]) m D k j (.slice a3 (k + q + 1) c3) (.slice a4 (j + q + 1) c4) (.int .i64 ((q + 1 : Nat) : Int)) W4) := ⟨q + 1, a3, c3, a4, c4, by omega, rfl, by rw [Nat.add_assoc], by rw [Nat.add_assoc], by rw [← Nat.add_assoc, ← Nat.add_assoc]; exact G4⟩
              have hqn : (q : Int) < 70 := by omega
              have HLT := hide hlt
              clear G G3 G4 hap3 hap4 hG hq hlt
              go_wp2_with (at_builtin; first | refine wpList_append_run _ rfl _ _ 36 36 rfl _ _ rfl rfl (unhide HAP3) ?_ | refine wpList_append_run _ rfl _ _ 32 32 rfl _ _ rfl rfl (unhide HAP4) ?_)
              exact ⟨by rw [show ((q : Int) + 1) = ((q + 1 : Nat) : Int) by omega]; exact NX, by simp [intOf]; have := unhide HLT; omega⟩
            · obtain rfl : q = 70 := by omega
              obtain ⟨a5, c5, W5, hap5, fz, ⟨u, hu⟩, V5, O5, K5, U5⟩ := G.push hmb (by rw [unhide HLK]; omega) (fun g q => (unhide OD g q).imp (fun z => by rw [unhide HDD]; exact .inl z) id)
              have c0 := G.ol.cell0
              rw [unhide HLK] at hap5 O5 K5 U5
              have HAP := hide hap5
              have FIN : Hid (FillP n0 X ob (.slice la N lc) rest V es (.slice ba k bc) (.slice ra j rc) (W5.setCell ⟨ob, 0, none⟩ (.slice a5 (N + 1 + 1) c5))) := by
                refine ⟨.slice a5 (N + 1 + 1) c5, V5, [⟨ba, k, bc, ra, j, rc, m⟩, ⟨aa, k + 70, bc', ab, j + 70, rc', m⟩], ?_, rfl, fun x hx => ?_, ?_, fun g q => ?_⟩
                · rw [List.append_assoc] at O5
                  exact O5
                · rcases List.mem_cons.1 hx with rfl | hx
                  · simp only; omega
                  · rw [List.mem_singleton] at hx
                    subst hx
                    simp only; omega
                · rw [unhide HDD] at K5
                  exact K5
                · rcases U5 g q with (z | z) | z
                  · rw [unhide HDD] at z
                    rcases z with z | z | z
                    · exact .inl (.inl z)
                    · exact .inl (.inr (.inr (.inl z)))
                    · exact .inl (.inr (.inr (.inr z)))
                  · rw [unhide HV1] at z
                    exact .inl (.inr z)
                  · exact .inr z
              have hno3 : ¬ ((70 : Nat) : Int) < 70 := by omega
              clear G hap5 O5 K5 U5 hG hq hlt HV1 HDD HLK OD
              go_wp2_with (at_builtin; refine wpList_append_run _ rfl _ _ 35 35 rfl _ _ rfl rfl (unhide HAP) ?_)
              all_goals refine bodyPost_end (results_none rfl _ _ _) rfl ?_
              all_goals exact ⟨rfl, unhide FIN⟩
end
end Go.Proofs.YthihabjegpacaaaGreat

namespace Go.Proofs.YthihabjegpacaaaGreat
open Go.RowKit
set_option linter.unusedVariables false
set_option maxHeartbeats 4000000
set_option maxRecDepth 100000
set_option linter.unusedSimpArgs false
section
variable {n0 : Nat} {X Y : World} {ob : Nat} {vl : Value} {rest : List Value} {V : Nat → Prop} {es : List En}

/-- Another cell of the owner's is written. -/
theorem OL.put (h : OL n0 X ob vl rest V es) (j : Nat) (u : Value) : OL n0 (X.setCell ⟨ob, j + 1, none⟩ u) ob vl (rest.set j u) V es := by
  have hb : Blk (X.setCell ⟨ob, j + 1, none⟩ u) ob (vl :: rest.set j u).toArray 38 := by
    have := Blk.setC h.blk (j + 1) u
    have e : ((vl :: rest).toArray.setIfInBounds (j + 1) u) = (vl :: rest.set j u).toArray := by simp
    rw [e] at this
    exact this
  have hk : ∀ g, g ≠ ob → (X.setCell ⟨ob, j + 1, none⟩ u).heap[g]? = X.heap[g]? := fun g hg => heap_setCell_other X ⟨ob, j + 1, none⟩ g u hg
  have hs : (X.setCell ⟨ob, j + 1, none⟩ u).heap.size = X.heap.size := World.size_setCell X _ u
  refine ⟨hb, own_kept h.row fun g q => hk g fun e => ?_, fun e he => (h.all e he).kept fun g hv _ => hk g (h.nV g hv).2.2.1, h.nb, fun g hv => ?_⟩
  · subst e
    exact own_ne_blk h.row h.blk (by decide) q
  · rw [hs]
    exact h.nV g hv


theorem RowV.rd {t : TypeId} {v : Value} {H : List Int} (h : RowV n0 t X v (uV H)) (hb : ∀ x ∈ H, IsB x) : ∃ a c, v = .slice a H.length c ∧ H.length ≤ c ∧ c ≤ 9223372036854775807 ∧ Rd X a H := by
  obtain ⟨a, c, rfl, h1, h2, h3⟩ := h.at
  rw [List.length_map] at h1 ⊢
  refine ⟨a, c, rfl, h1, h2, hb, fun hne => ?_⟩
  rcases h3 with z | ⟨g, rfl, -, -, -, hc⟩
  · exact absurd (List.map_eq_nil_iff.1 z) hne
  · refine ⟨g, 0, rfl, fun i hi => ?_⟩
    rw [Nat.zero_add]
    exact hc i _ (by simp [List.getElem?_eq_getElem hi])

/-- What bytes leaves. -/
def BytesP (n0 : Nat) (X : World) (ob : Nat) (vl : Value) (V : Nat → Prop) (es : List En) (vB vb : Value) (D : List Int) (rest : List Value) (Y : World) : Prop :=
  ∃ vl' V' es', OL n0 Y ob vl' (vb :: .string (strOfNums D) :: rest) V' es' ∧ RowV n0 5 Y vb (uV D) ∧ es'.length = es.length + 2 ∧ (∀ e ∈ es', e.bn ≤ 1000000000 ∧ e.rn ≤ 1000000000) ∧ Kp (fun g => Om ob vl g ∨ V g ∨ vB.ownBlock = some g) X Y ∧ (∀ g, Om ob vl' g ∨ V' g → (Om ob vl g ∨ V g ∨ vB.ownBlock = some g) ∨ X.heap.size ≤ g)

theorem bytes_any {vB vb vw : Value} {H D : List Int} (h : OL n0 X ob vl (vB :: .string (strOfNums H) :: rest) V es) (hn0 : n0 ≤ X.heap.size) (hB : RowV n0 5 X vB (uV H)) (hH : ∀ x ∈ H, IsB x) (hb : RowV n0 5 X vb (uV D)) (hw : RowV n0 5 X vw (uV D)) (hD : ∀ x ∈ D, IsB x)
    (hl : es.length + 2 ≤ 100000000) (hs : ∀ e ∈ es, e.bn ≤ 1000000000 ∧ e.rn ≤ 1000000000) (hHn : H.length ≤ 100000000)
    (hBV : ∀ g, vB.ownBlock = some g → ¬ V g) (hbn : ∀ g, vb.ownBlock = some g → ¬ (Om ob vl g ∨ V g ∨ vB.ownBlock = some g)) (hwn : ∀ g, vw.ownBlock = some g → ¬ (Om ob vl g ∨ V g ∨ vB.ownBlock = some g)) :
    Calls Tryz.prog 8 #[ptr ob, vb, vw] X fun e Y => e = .returned (.bool true) ∧ BytesP n0 X ob vl V es vB vb D rest Y := by
  obtain ⟨aB, cB, rfl, b1, b2, rB⟩ := hB.rd hH
  obtain ⟨ab, cb, rfl, b3, b4, rb⟩ := hb.rd hD
  obtain ⟨aw, cw, rfl, b5, b6, rw_⟩ := hw.rd hD
  have x1 : X.cell? ⟨ob, 1, none⟩ = some (.slice aB H.length cB) := h.blk.cell 1 _ rfl
  have x2 : X.cell? ⟨ob, 2, none⟩ = some (.string (strOfNums H)) := h.blk.cell 2 _ rfl
  have cvB : ∀ n, (convert 36 9 (.slice aB H.length cB)).run Tryz.prog (X.drewN n) = .ok (.string (strOfNums H)) (X.drewN n) := fun n => conv_rd (X.drewN n) aB H _ cB rfl (rB.grow ⟨rfl, rfl, rfl, Nat.le_refl _, fun _ _ _ => rfl⟩)
  have cvX := cvB 0
  have h0 := hide h
  have hHd := hide hH
  clear h
  go_enter Tryz.func8, Tryz.ntmps8
  go_wp2_with fail
  go_quiet (fail)
  have gZ : X.grownBy (X.drewN nq) none := ⟨rfl, rfl, rfl, Nat.le_refl _, fun _ _ _ => rfl⟩
  obtain ⟨Z, hZ⟩ : ∃ Z, Z = X.drewN nq := ⟨_, rfl⟩
  rw [← hZ] at gZ ⊢
  have hO := (unhide h0).grown gZ
  have hk : ∀ g : Nat, Z.heap[g]? = X.heap[g]? := fun g => by rw [hZ]; rfl
  have hsz : Z.heap.size = X.heap.size := by rw [hZ]; rfl
  have KX : Hid (Kp (fun g => Om ob vl g ∨ V g ∨ (Value.slice aB H.length cB).ownBlock = some g) X Z) := Kp.grown gZ _
  replace hB : RowV n0 5 Z (.slice aB H.length cB) (uV H) := hB.kept fun g _ => hk g
  replace hb : RowV n0 5 Z (.slice ab D.length cb) (uV D) := hb.kept fun g _ => hk g
  replace hw : RowV n0 5 Z (.slice aw D.length cw) (uV D) := hw.kept fun g _ => hk g
  have cv1 := conv_rd Z ab D _ cb rfl (rb.grow gZ)
  have cv2 := conv_rd Z aw D _ cw rfl (rw_.grow gZ)
  obtain ⟨al, cl', rfl, l1, l2, -⟩ := hO.at
  have z0 := hO.cell0
  have z1 : Z.cell? ⟨ob, 1, none⟩ = some (.slice aB H.length cB) := hO.blk.cell 1 _ rfl
  have hrn : Z.ownsRow n0 69 2 (.slice none 0 0) 0 [] := ⟨rfl, .inl ⟨rfl, rfl⟩⟩
  have hmk := fill_any hO (by omega) (by omega) hB hrn (by rw [List.length_map]; omega) (by omega) hBV (fun g q => by cases q)
  have HO := hide hO
  have HB := hide hB; have Hb := hide hb; have Hw := hide hw
  have HBV := hide hBV; have Hbn := hide hbn; have Hwn := hide hwn
  have Hk := hide hk; have HS := hide hs; have HD := hide hD
  have HN0 : Hid (n0 ≤ Z.heap.size) := by rw [← hsz] at hn0; exact hn0
  have HSZ := hide hsz
  clear hO h0 hB hb hw hBV hbn hwn hk hs hD hH hZ hrn cvB cvX x1 x2 rB rb rw_ hn0 gZ hsz
  go_wp2_with fail
  refine hmk.mono ?_
  rintro e Z2 ⟨rfl, vl2, V2, gs, hG, hgl, hgz, kM, hvv⟩
  clear hmk cv1 cv2 z0 z1
  have KZ : Kp (fun g => Om ob (.slice al es.length cl') g ∨ V g ∨ (Value.slice aB H.length cB).ownBlock = some g) Z Z2 := kM.mono fun g _ q => by
    rcases q with q | q | q
    · exact .inl q
    · exact .inr (.inr q)
    · cases q
  have hbZ : RowV n0 5 Z2 (.slice ab D.length cb) (uV D) := (unhide Hb).kept fun g q => KZ.block g (World.ownsRow.lt (unhide Hb) g q).2 (unhide Hbn g q)
  have hwZ : RowV n0 5 Z2 (.slice aw D.length cw) (uV D) := (unhide Hw).kept fun g q => KZ.block g (World.ownsRow.lt (unhide Hw) g q).2 (unhide Hwn g q)
  have O3 := hG.put 0 (.slice ab D.length cb)
  obtain ⟨W3, hW3⟩ : ∃ W3, W3 = Z2.setCell ⟨ob, 0 + 1, none⟩ (.slice ab D.length cb) := ⟨_, rfl⟩
  rw [← hW3] at O3
  have O4 := O3.put 1 (.string (strOfNums D))
  obtain ⟨W4, hW4⟩ : ∃ W4, W4 = W3.setCell ⟨ob, 1 + 1, none⟩ (.string (strOfNums D)) := ⟨_, rfl⟩
  rw [← hW4] at O4
  have k3 : ∀ g : Nat, g ≠ ob → W3.heap[g]? = Z2.heap[g]? := fun g hg => by rw [hW3]; exact heap_setCell_other _ _ g _ hg
  have k4 : ∀ g : Nat, g ≠ ob → W4.heap[g]? = Z2.heap[g]? := fun g hg => by rw [hW4, heap_setCell_other _ _ g _ hg]; exact k3 g hg
  have hw3 : RowV n0 5 W3 (.slice aw D.length cw) (uV D) := hwZ.kept fun g q => k3 g fun z => unhide Hwn g q (.inl (.inl z))
  have hb4 : RowV n0 5 W4 (.slice ab D.length cb) (uV D) := hbZ.kept fun g q => k4 g fun z => unhide Hbn g q (.inl (.inl z))
  obtain ⟨aw', cw', ew, -, -, rw3⟩ := hw3.rd (unhide HD)
  injection ew with ew1 _ ew3
  subst ew1 ew3
  have cv3 := conv_rd W3 aw D _ cw rfl rw3
  have s4 : W4.heap.size = Z2.heap.size := by rw [hW4, World.size_setCell, hW3, World.size_setCell]
  have hlen : (es ++ gs).length = es.length + 2 := by simp [hgl]
  have hall : ∀ x ∈ es ++ gs, x.bn ≤ 1000000000 ∧ x.rn ≤ 1000000000 := fun x hx => by
    rcases List.mem_append.1 hx with hx | hx
    · exact unhide HS x hx
    · exact hgz x hx
  have hlk := looks_any O4 (by rw [hlen]; omega) hall
  have FIN : ∀ Y, W4.grownBy Y none → BytesP n0 X ob (.slice al es.length cl') V es (.slice aB H.length cB) (.slice ab D.length cb) D rest Y := fun Y gY => by
    refine ⟨vl2, V2, _, O4.grown gY, hb4.kept fun g q => gY.block g (World.ownsRow.lt hb4 g q).2 (by simp), hlen, hall, ?_, fun g q => ?_⟩
    · have k1 : Kp (fun g => Om ob (.slice al es.length cl') g ∨ V g ∨ (Value.slice aB H.length cB).ownBlock = some g) Z W4 := by
        rw [hW4, hW3]
        exact (KZ.set ob _ _ fun _ => .inl (.inl rfl)).set ob _ _ fun _ => .inl (.inl rfl)
      exact ((unhide KX).trans k1).trans (Kp.grown gY _)
    · have hz := unhide HSZ
      rcases hvv g q with (z | z | z | z) | z
      · exact .inl (.inl z)
      · exact .inl (.inr (.inl z))
      · exact .inl (.inr (.inr z))
      · cases z
      · right; omega
  have c1 : Z2.cell? ⟨ob, 1, none⟩ = some (.slice aB H.length cB) := Blk.cell hG.blk 1 _ rfl
  have c2 : W3.cell? ⟨ob, 2, none⟩ = some (.string (strOfNums H)) := Blk.cell O3.blk 2 _ rfl
  have f1 : Z2.frozen? ⟨ob, 1, none⟩ = false := Blk.thaw hG.blk 1
  have f2 : W3.frozen? ⟨ob, 2, none⟩ = false := Blk.thaw O3.blk 2
  have HFIN := hide FIN
  rw [Nat.zero_add] at hW3
  have HW4 := hide hW4
  have HW3 := hide hW3
  clear FIN hG KZ kM hvv hgz hgl hbZ hwZ O3 O4 k3 k4 hw3 hb4 rw3 hlen hall s4 hW4 hW3
  go_upto_region 5 with fail
  rw [← unhide HW3]
  clear c1 f1
  go_wp2_with fail
  rw [show W3.setCell ⟨ob, 2, none⟩ (.string (strOfNums D)) = W4 from (unhide HW4).symm]
  refine hlk.mono ?_
  rintro e' Y ⟨rfl, gY⟩
  have P := hide (unhide HFIN Y gY)
  clear hlk HFIN cv3 c2 f2
  go_wp2
  go_ret
  exact ⟨rfl, unhide P⟩
end
end Go.Proofs.YthihabjegpacaaaGreat

namespace Go.Proofs.YthihabjegpacaaaGreat
open Go.RowKit
set_option linter.unusedVariables false
set_option linter.unusedSimpArgs false
set_option maxHeartbeats 4000000
set_option maxRecDepth 100000

/-- What viewed leaves. -/
def ViewedP (n0 : Nat) (X : World) (ob : Nat) (vl : Value) (V : Nat → Prop) (es : List En) (vA : Value) (rest : List Value) (Y : World) : Prop :=
  ∃ vl' V' es', OL n0 Y ob vl' rest V' es' ∧ es'.length = es.length + 2 ∧ (∀ e ∈ es', e.bn ≤ 1000000000 ∧ e.rn ≤ 1000000000) ∧ Kp (fun g => Om ob vl g ∨ V g ∨ vA.ownBlock = some g) X Y ∧ (∀ g, Om ob vl' g ∨ V' g → (Om ob vl g ∨ V g ∨ vA.ownBlock = some g) ∨ X.heap.size ≤ g)
def YesP (w : World) (e : Ending) (w' : World) : Prop := e = .returned (.bool true) ∧ w.grownBy w' none

section
variable {n0 : Nat} {X Y : World} {ob : Nat} {vl vB sB : Value} {V : Nat → Prop} {es : List En} {p0 p1 p2 p3 p4 q0 q1 q2 q3 q4 r0 r1 r2 r3 r4 s0 s1 s2 s3 s4 : Int} {p6 p7 q6 q7 r6 r7 s6 s7 : Bool} {aA q5a r5a s5a : Option Addr} {nA cA q5n q5c r5n r5c s5n s5c : Nat} {xsA : List Value}
theorem viewed_any (h : OL n0 X ob vl (vB :: sB :: .int .i64 p0 :: .int .i64 p1 :: .int .i64 p2 :: .int .i64 p3 :: .int .i64 p4 :: .slice aA nA cA :: .bool p6 :: .bool p7 :: .int .i64 q0 :: .int .i64 q1 :: .int .i64 q2 :: .int .i64 q3 :: .int .i64 q4 :: .slice q5a q5n q5c :: .bool q6 :: .bool q7 :: []) V es) (hn0 : n0 ≤ X.heap.size)
    (hA : X.ownsRow n0 69 2 (.slice aA nA cA) nA xsA) (bA : nA ≤ 100000000) (hl : es.length + 2 ≤ 100000000) (hs : ∀ e ∈ es, e.bn ≤ 1000000000 ∧ e.rn ≤ 1000000000)
    (hAV : ∀ g, (Value.slice aA nA cA).ownBlock = some g → ¬ V g)
    (al1 : ∀ Z, X.grownBy Z none → Calls Tryz.prog 26 #[.agg #[.int .i64 p0, .int .i64 p1, .int .i64 p2, .int .i64 p3, .int .i64 p4, .slice aA nA cA, .bool p6, .bool p7], .agg #[.int .i64 q0, .int .i64 q1, .int .i64 q2, .int .i64 q3, .int .i64 q4, .slice q5a q5n q5c, .bool q6, .bool q7]] Z (YesP Z)) (al2 : ∀ Z, X.grownBy Z none → Calls Tryz.prog 26 #[.agg #[.int .i64 r0, .int .i64 r1, .int .i64 r2, .int .i64 r3, .int .i64 r4, .slice r5a r5n r5c, .bool r6, .bool r7], .agg #[.int .i64 s0, .int .i64 s1, .int .i64 s2, .int .i64 s3, .int .i64 s4, .slice s5a s5n s5c, .bool s6, .bool s7]] Z (YesP Z)) :
    Calls Tryz.prog 9 #[ptr ob, .agg #[.int .i64 r0, .int .i64 r1, .int .i64 r2, .int .i64 r3, .int .i64 r4, .slice r5a r5n r5c, .bool r6, .bool r7], .agg #[.int .i64 s0, .int .i64 s1, .int .i64 s2, .int .i64 s3, .int .i64 s4, .slice s5a s5n s5c, .bool s6, .bool s7]] X fun e Y => e = .returned (.bool true) ∧ ViewedP n0 X ob vl V es (.slice aA nA cA) (vB :: sB :: .int .i64 r0 :: .int .i64 r1 :: .int .i64 r2 :: .int .i64 r3 :: .int .i64 r4 :: .slice r5a r5n r5c :: .bool r6 :: .bool r7 :: .int .i64 s0 :: .int .i64 s1 :: .int .i64 s2 :: .int .i64 s3 :: .int .i64 s4 :: .slice s5a s5n s5c :: .bool s6 :: .bool s7 :: []) Y := by
  obtain ⟨X1, hX1⟩ : ∃ X1, X1 = (X.alloc (.cells #[.int .i64 r0, .int .i64 r1, .int .i64 r2, .int .i64 r3, .int .i64 r4, .slice r5a r5n r5c, .bool r6, .bool r7] 34)).alloc (.cells #[.int .i64 s0, .int .i64 s1, .int .i64 s2, .int .i64 s3, .int .i64 s4, .slice s5a s5n s5c, .bool s6, .bool s7] 34) := ⟨_, rfl⟩
  have g1 : X.grownBy X1 none := by rw [hX1]; exact grown_trans (grown_alloc _ _) (grown_alloc _ _)
  have br : Blk X1 X.heap.size #[.int .i64 r0, .int .i64 r1, .int .i64 r2, .int .i64 r3, .int .i64 r4, .slice r5a r5n r5c, .bool r6, .bool r7] 34 := by rw [hX1]; exact (Blk.new _ _ _).alloc _
  have bs : Blk X1 (X.heap.size + 1) #[.int .i64 s0, .int .i64 s1, .int .i64 s2, .int .i64 s3, .int .i64 s4, .slice s5a s5n s5c, .bool s6, .bool s7] 34 := by rw [hX1, ← alloc_size X (.cells #[.int .i64 r0, .int .i64 r1, .int .i64 r2, .int .i64 r3, .int .i64 r4, .slice r5a r5n r5c, .bool r6, .bool r7] 34)]; exact Blk.new _ _ _
  have hO := h.grown g1
  have HH := hide h
  have HNB : Hid (∀ g, Om ob vl g ∨ V g ∨ (Value.slice aA nA cA).ownBlock = some g → g < X.heap.size) := fun g q => by
    rcases q with (q | q) | q | q
    · rw [q]; exact Blk.lt h.blk
    · exact (h.row.lt g q).2
    · exact (h.nV g q).2.1
    · exact (hA.lt g q).2
  have x3 : X1.cell? ⟨ob, 3, none⟩ = some (.int .i64 p0) := Blk.cell hO.blk 3 _ rfl
  have x4 : X1.cell? ⟨ob, 4, none⟩ = some (.int .i64 p1) := Blk.cell hO.blk 4 _ rfl
  have x5 : X1.cell? ⟨ob, 5, none⟩ = some (.int .i64 p2) := Blk.cell hO.blk 5 _ rfl
  have x6 : X1.cell? ⟨ob, 6, none⟩ = some (.int .i64 p3) := Blk.cell hO.blk 6 _ rfl
  have x7 : X1.cell? ⟨ob, 7, none⟩ = some (.int .i64 p4) := Blk.cell hO.blk 7 _ rfl
  have x8 : X1.cell? ⟨ob, 8, none⟩ = some (.slice aA nA cA) := Blk.cell hO.blk 8 _ rfl
  have x9 : X1.cell? ⟨ob, 9, none⟩ = some (.bool p6) := Blk.cell hO.blk 9 _ rfl
  have x10 : X1.cell? ⟨ob, 10, none⟩ = some (.bool p7) := Blk.cell hO.blk 10 _ rfl
  have x11 : X1.cell? ⟨ob, 11, none⟩ = some (.int .i64 q0) := Blk.cell hO.blk 11 _ rfl
  have x12 : X1.cell? ⟨ob, 12, none⟩ = some (.int .i64 q1) := Blk.cell hO.blk 12 _ rfl
  have x13 : X1.cell? ⟨ob, 13, none⟩ = some (.int .i64 q2) := Blk.cell hO.blk 13 _ rfl
  have x14 : X1.cell? ⟨ob, 14, none⟩ = some (.int .i64 q3) := Blk.cell hO.blk 14 _ rfl
  have x15 : X1.cell? ⟨ob, 15, none⟩ = some (.int .i64 q4) := Blk.cell hO.blk 15 _ rfl
  have x16 : X1.cell? ⟨ob, 16, none⟩ = some (.slice q5a q5n q5c) := Blk.cell hO.blk 16 _ rfl
  have x17 : X1.cell? ⟨ob, 17, none⟩ = some (.bool q6) := Blk.cell hO.blk 17 _ rfl
  have x18 : X1.cell? ⟨ob, 18, none⟩ = some (.bool q7) := Blk.cell hO.blk 18 _ rfl
  have hb := hide hO
  have HBR := hide br
  have HBS := hide bs
  have G1 := hide g1
  have HAL2 := hide al2
  have POST : ∀ Y, X1.grownBy Y none → Hid (X.grownBy Y none) ∧ Y.cell? ⟨ob, 3, none⟩ = some (.int .i64 p0) ∧ Y.cell? ⟨ob, 4, none⟩ = some (.int .i64 p1) ∧ Y.cell? ⟨ob, 5, none⟩ = some (.int .i64 p2) ∧ Y.cell? ⟨ob, 6, none⟩ = some (.int .i64 p3) ∧ Y.cell? ⟨ob, 7, none⟩ = some (.int .i64 p4) ∧ Y.cell? ⟨ob, 8, none⟩ = some (.slice aA nA cA) ∧ Y.cell? ⟨ob, 9, none⟩ = some (.bool p6) ∧ Y.cell? ⟨ob, 10, none⟩ = some (.bool p7) ∧ Y.cell? ⟨ob, 11, none⟩ = some (.int .i64 q0) ∧ Y.cell? ⟨ob, 12, none⟩ = some (.int .i64 q1) ∧ Y.cell? ⟨ob, 13, none⟩ = some (.int .i64 q2) ∧ Y.cell? ⟨ob, 14, none⟩ = some (.int .i64 q3) ∧ Y.cell? ⟨ob, 15, none⟩ = some (.int .i64 q4) ∧ Y.cell? ⟨ob, 16, none⟩ = some (.slice q5a q5n q5c) ∧ Y.cell? ⟨ob, 17, none⟩ = some (.bool q6) ∧ Y.cell? ⟨ob, 18, none⟩ = some (.bool q7) := fun Y gY => by
    have o := (hO.grown gY).blk
    exact ⟨grown_trans g1 gY, Blk.cell o 3 _ rfl, Blk.cell o 4 _ rfl, Blk.cell o 5 _ rfl, Blk.cell o 6 _ rfl, Blk.cell o 7 _ rfl, Blk.cell o 8 _ rfl, Blk.cell o 9 _ rfl, Blk.cell o 10 _ rfl, Blk.cell o 11 _ rfl, Blk.cell o 12 _ rfl, Blk.cell o 13 _ rfl, Blk.cell o 14 _ rfl, Blk.cell o 15 _ rfl, Blk.cell o 16 _ rfl, Blk.cell o 17 _ rfl, Blk.cell o 18 _ rfl⟩
  have HP := hide POST
  have AL : ∀ Z, X1.grownBy Z none → Calls Tryz.prog 26 #[.agg #[.int .i64 p0, .int .i64 p1, .int .i64 p2, .int .i64 p3, .int .i64 p4, .slice aA nA cA, .bool p6, .bool p7], .agg #[.int .i64 q0, .int .i64 q1, .int .i64 q2, .int .i64 q3, .int .i64 q4, .slice q5a q5n q5c, .bool q6, .bool q7]] Z (YesP Z) := fun Z gZ => al1 Z (grown_trans g1 gZ)
  have al := AL X1.drew (grown_drew' (World.grownBy.refl X1 none))
  clear h hO br bs g1 al1 al2 POST AL
  go_enter Tryz.func9, Tryz.ntmps9
  go_upto_region 1 with fail
  rw [← hX1]
  clear hX1
  go_region_held3 (fun Z => Z.cell? ⟨ob, 3, none⟩ = some (.int .i64 p0) ∧ Z.cell? ⟨ob, 4, none⟩ = some (.int .i64 p1) ∧ Z.cell? ⟨ob, 5, none⟩ = some (.int .i64 p2) ∧ Z.cell? ⟨ob, 6, none⟩ = some (.int .i64 p3) ∧ Z.cell? ⟨ob, 7, none⟩ = some (.int .i64 p4) ∧ Z.cell? ⟨ob, 8, none⟩ = some (.slice aA nA cA) ∧ Z.cell? ⟨ob, 9, none⟩ = some (.bool p6) ∧ Z.cell? ⟨ob, 10, none⟩ = some (.bool p7) ∧ Z.cell? ⟨ob, 11, none⟩ = some (.int .i64 q0) ∧ Z.cell? ⟨ob, 12, none⟩ = some (.int .i64 q1) ∧ Z.cell? ⟨ob, 13, none⟩ = some (.int .i64 q2) ∧ Z.cell? ⟨ob, 14, none⟩ = some (.int .i64 q3) ∧ Z.cell? ⟨ob, 15, none⟩ = some (.int .i64 q4) ∧ Z.cell? ⟨ob, 16, none⟩ = some (.slice q5a q5n q5c) ∧ Z.cell? ⟨ob, 17, none⟩ = some (.bool q6) ∧ Z.cell? ⟨ob, 18, none⟩ = some (.bool q7)) (go_keep) (first | (go_at_call 26; refine al.mono ?_; rintro e W2 ⟨rfl, gY'⟩; have gY := grown_trans (grown_drew' (World.grownBy.refl X1 none)) gY'; obtain ⟨G2, y3, y4, y5, y6, y7, y8, y9, y10, y11, y12, y13, y14, y15, y16, y17, y18⟩ := unhide HP W2 gY))
  have br2 := (unhide HBR).grown gY
  have bs2 := (unhide HBS).grown gY
  have u0 : W2.cell? ⟨X.heap.size, 0, none⟩ = some (.int .i64 r0) := Blk.cell br2 0 _ rfl
  have u1 : W2.cell? ⟨X.heap.size, 1, none⟩ = some (.int .i64 r1) := Blk.cell br2 1 _ rfl
  have u2 : W2.cell? ⟨X.heap.size, 2, none⟩ = some (.int .i64 r2) := Blk.cell br2 2 _ rfl
  have u3 : W2.cell? ⟨X.heap.size, 3, none⟩ = some (.int .i64 r3) := Blk.cell br2 3 _ rfl
  have u4 : W2.cell? ⟨X.heap.size, 4, none⟩ = some (.int .i64 r4) := Blk.cell br2 4 _ rfl
  have u5 : W2.cell? ⟨X.heap.size, 5, none⟩ = some (.slice r5a r5n r5c) := Blk.cell br2 5 _ rfl
  have u6 : W2.cell? ⟨X.heap.size, 6, none⟩ = some (.bool r6) := Blk.cell br2 6 _ rfl
  have u7 : W2.cell? ⟨X.heap.size, 7, none⟩ = some (.bool r7) := Blk.cell br2 7 _ rfl
  have w0 : W2.cell? ⟨X.heap.size + 1, 0, none⟩ = some (.int .i64 s0) := Blk.cell bs2 0 _ rfl
  have w1 : W2.cell? ⟨X.heap.size + 1, 1, none⟩ = some (.int .i64 s1) := Blk.cell bs2 1 _ rfl
  have w2 : W2.cell? ⟨X.heap.size + 1, 2, none⟩ = some (.int .i64 s2) := Blk.cell bs2 2 _ rfl
  have w3 : W2.cell? ⟨X.heap.size + 1, 3, none⟩ = some (.int .i64 s3) := Blk.cell bs2 3 _ rfl
  have w4 : W2.cell? ⟨X.heap.size + 1, 4, none⟩ = some (.int .i64 s4) := Blk.cell bs2 4 _ rfl
  have w5 : W2.cell? ⟨X.heap.size + 1, 5, none⟩ = some (.slice s5a s5n s5c) := Blk.cell bs2 5 _ rfl
  have w6 : W2.cell? ⟨X.heap.size + 1, 6, none⟩ = some (.bool s6) := Blk.cell bs2 6 _ rfl
  have w7 : W2.cell? ⟨X.heap.size + 1, 7, none⟩ = some (.bool s7) := Blk.cell bs2 7 _ rfl
  have alb := unhide HAL2 W2 (unhide G2)
  have GY := hide gY
  clear gY gY' al br2 bs2 y3 y4 y5 y6 y7 y8 y9 y10 y11 y12 y13 y14 y15 y16 y17 y18 x3 x4 x5 x6 x7 x8 x9 x10 x11 x12 x13 x14 x15 x16 x17 x18
  go_wp2_with fail
  refine alb.mono ?_
  rintro e W3 ⟨rfl, g3⟩
  have G3 : X.grownBy W3 none := grown_trans (unhide G2) g3
  have hO := (unhide HH).grown G3
  have hA3 := own_kept hA fun g q => G3.block g (hA.lt g q).2 (by simp)
  obtain ⟨al, cl', rfl, l1, l2, -⟩ := hO.at
  have z0 := hO.cell0
  have z8 : W3.cell? ⟨ob, 8, none⟩ = some (.slice aA nA cA) := Blk.cell hO.blk 8 _ rfl
  have hn3 : n0 ≤ W3.heap.size := Nat.le_trans hn0 G3.size
  have hmk := fill_any hO hn3 (by omega) (rowV_nil n0 5 W3) hA3 (by simp) (by omega) (fun g q => by cases q) hAV
  have HGY3 := hide (grown_trans (unhide GY) g3)
  have HG3 := hide G3
  have HS := hide hs
  clear hO alb g3 G3 hAV hs hA hA3 G2 GY hn0 u0 w0 u1 w1 u2 w2 u3 w3 u4 w4 u5 w5 u6 w6 u7 w7
  go_wp2_with fail
  refine hmk.mono ?_
  rintro e Z3 ⟨rfl, vl3, V3, gs, hG, hgl, hgz, kM, hvv⟩
  clear hmk
  have KZ : Kp (fun g => Om ob (.slice al es.length cl') g ∨ V g ∨ (Value.slice aA nA cA).ownBlock = some g) W3 Z3 := kM.mono fun g _ q => by
    rcases q with q | q | q
    · exact .inl q
    · cases q
    · exact .inr (.inr q)
  have br0 := (unhide HBR).grown (unhide HGY3)
  have bs0 := (unhide HBS).grown (unhide HGY3)
  have br3 : Blk Z3 X.heap.size #[.int .i64 r0, .int .i64 r1, .int .i64 r2, .int .i64 r3, .int .i64 r4, .slice r5a r5n r5c, .bool r6, .bool r7] 34 := (KZ.block _ br0.lt (fun q => by have := unhide HNB _ q; omega)).trans br0
  have bs3 : Blk Z3 (X.heap.size + 1) #[.int .i64 s0, .int .i64 s1, .int .i64 s2, .int .i64 s3, .int .i64 s4, .slice s5a s5n s5c, .bool s6, .bool s7] 34 := (KZ.block _ bs0.lt (fun q => by have := unhide HNB _ q; omega)).trans bs0
  obtain ⟨W4, hW4⟩ : ∃ W4, W4 = ((((((((Z3.setCell ⟨ob, 3, none⟩ (.int .i64 r0)).setCell ⟨ob, 4, none⟩ (.int .i64 r1)).setCell ⟨ob, 5, none⟩ (.int .i64 r2)).setCell ⟨ob, 6, none⟩ (.int .i64 r3)).setCell ⟨ob, 7, none⟩ (.int .i64 r4)).setCell ⟨ob, 8, none⟩ (.slice r5a r5n r5c)).setCell ⟨ob, 9, none⟩ (.bool r6)).setCell ⟨ob, 10, none⟩ (.bool r7)) := ⟨_, rfl⟩
  have O4 : OL n0 W4 ob vl3 (vB :: sB :: .int .i64 r0 :: .int .i64 r1 :: .int .i64 r2 :: .int .i64 r3 :: .int .i64 r4 :: .slice r5a r5n r5c :: .bool r6 :: .bool r7 :: .int .i64 q0 :: .int .i64 q1 :: .int .i64 q2 :: .int .i64 q3 :: .int .i64 q4 :: .slice q5a q5n q5c :: .bool q6 :: .bool q7 :: []) V3 (es ++ gs) := by
    rw [hW4]
    exact ((((((((hG.put 2 (.int .i64 r0)).put 3 (.int .i64 r1)).put 4 (.int .i64 r2)).put 5 (.int .i64 r3)).put 6 (.int .i64 r4)).put 7 (.slice r5a r5n r5c)).put 8 (.bool r6)).put 9 (.bool r7))
  obtain ⟨W5, hW5⟩ : ∃ W5, W5 = ((((((((W4.setCell ⟨ob, 11, none⟩ (.int .i64 s0)).setCell ⟨ob, 12, none⟩ (.int .i64 s1)).setCell ⟨ob, 13, none⟩ (.int .i64 s2)).setCell ⟨ob, 14, none⟩ (.int .i64 s3)).setCell ⟨ob, 15, none⟩ (.int .i64 s4)).setCell ⟨ob, 16, none⟩ (.slice s5a s5n s5c)).setCell ⟨ob, 17, none⟩ (.bool s6)).setCell ⟨ob, 18, none⟩ (.bool s7)) := ⟨_, rfl⟩
  have O5 : OL n0 W5 ob vl3 (vB :: sB :: .int .i64 r0 :: .int .i64 r1 :: .int .i64 r2 :: .int .i64 r3 :: .int .i64 r4 :: .slice r5a r5n r5c :: .bool r6 :: .bool r7 :: .int .i64 s0 :: .int .i64 s1 :: .int .i64 s2 :: .int .i64 s3 :: .int .i64 s4 :: .slice s5a s5n s5c :: .bool s6 :: .bool s7 :: []) V3 (es ++ gs) := by
    rw [hW5]
    exact ((((((((O4.put 10 (.int .i64 s0)).put 11 (.int .i64 s1)).put 12 (.int .i64 s2)).put 13 (.int .i64 s3)).put 14 (.int .i64 s4)).put 15 (.slice s5a s5n s5c)).put 16 (.bool s6)).put 17 (.bool s7))
  have hob : ob < X.heap.size := unhide HNB ob (.inl (.inl rfl))
  have k4 : ∀ g : Nat, g ≠ ob → W4.heap[g]? = Z3.heap[g]? := fun g hg => by
    rw [hW4]
    repeat rw [heap_setCell_other _ _ g _ hg]
  have bs4 : Blk W4 (X.heap.size + 1) #[.int .i64 s0, .int .i64 s1, .int .i64 s2, .int .i64 s3, .int .i64 s4, .slice s5a s5n s5c, .bool s6, .bool s7] 34 := (k4 _ (by omega)).trans bs3
  have hlen : (es ++ gs).length = es.length + 2 := by simp [hgl]
  have hall : ∀ x ∈ es ++ gs, x.bn ≤ 1000000000 ∧ x.rn ≤ 1000000000 := fun x hx => by
    rcases List.mem_append.1 hx with hx | hx
    · exact unhide HS x hx
    · exact hgz x hx
  have hlk := looks_any O5 (by rw [hlen]; omega) hall
  have FIN : ∀ Y, W5.grownBy Y none → ViewedP n0 X ob (.slice al es.length cl') V es (.slice aA nA cA) (vB :: sB :: .int .i64 r0 :: .int .i64 r1 :: .int .i64 r2 :: .int .i64 r3 :: .int .i64 r4 :: .slice r5a r5n r5c :: .bool r6 :: .bool r7 :: .int .i64 s0 :: .int .i64 s1 :: .int .i64 s2 :: .int .i64 s3 :: .int .i64 s4 :: .slice s5a s5n s5c :: .bool s6 :: .bool s7 :: []) Y := fun Y gY => by
    refine ⟨vl3, V3, _, O5.grown gY, hlen, hall, ?_, fun g q => ?_⟩
    · have k1 : Kp (fun g => Om ob (.slice al es.length cl') g ∨ V g ∨ (Value.slice aA nA cA).ownBlock = some g) W3 W5 := by
        rw [hW5, hW4]
        repeat refine Kp.set ?_ ob _ _ fun _ => .inl (.inl rfl)
        exact KZ
      exact ((Kp.grown (unhide HG3) _).trans k1).trans (Kp.grown gY _)
    · have hz := (unhide HG3).size
      rcases hvv g q with (z | z | z | z) | z
      · exact .inl (.inl z)
      · exact .inl (.inr (.inl z))
      · cases z
      · exact .inl (.inr (.inr z))
      · right; omega
  have HFIN := hide FIN
  have HW4 := hide hW4
  have HW5 := hide hW5
  have c3 : Z3.cell? ⟨ob, 3, none⟩ = some (.int .i64 p0) := Blk.cell hG.blk 3 _ rfl
  have f3 : Z3.frozen? ⟨ob, 3, none⟩ = false := Blk.thaw hG.blk 3
  have c4 : Z3.cell? ⟨ob, 4, none⟩ = some (.int .i64 p1) := Blk.cell hG.blk 4 _ rfl
  have f4 : Z3.frozen? ⟨ob, 4, none⟩ = false := Blk.thaw hG.blk 4
  have c5 : Z3.cell? ⟨ob, 5, none⟩ = some (.int .i64 p2) := Blk.cell hG.blk 5 _ rfl
  have f5 : Z3.frozen? ⟨ob, 5, none⟩ = false := Blk.thaw hG.blk 5
  have c6 : Z3.cell? ⟨ob, 6, none⟩ = some (.int .i64 p3) := Blk.cell hG.blk 6 _ rfl
  have f6 : Z3.frozen? ⟨ob, 6, none⟩ = false := Blk.thaw hG.blk 6
  have c7 : Z3.cell? ⟨ob, 7, none⟩ = some (.int .i64 p4) := Blk.cell hG.blk 7 _ rfl
  have f7 : Z3.frozen? ⟨ob, 7, none⟩ = false := Blk.thaw hG.blk 7
  have c8 : Z3.cell? ⟨ob, 8, none⟩ = some (.slice aA nA cA) := Blk.cell hG.blk 8 _ rfl
  have f8 : Z3.frozen? ⟨ob, 8, none⟩ = false := Blk.thaw hG.blk 8
  have c9 : Z3.cell? ⟨ob, 9, none⟩ = some (.bool p6) := Blk.cell hG.blk 9 _ rfl
  have f9 : Z3.frozen? ⟨ob, 9, none⟩ = false := Blk.thaw hG.blk 9
  have c10 : Z3.cell? ⟨ob, 10, none⟩ = some (.bool p7) := Blk.cell hG.blk 10 _ rfl
  have f10 : Z3.frozen? ⟨ob, 10, none⟩ = false := Blk.thaw hG.blk 10
  have u0 : Z3.cell? ⟨X.heap.size, 0, none⟩ = some (.int .i64 r0) := Blk.cell br3 0 _ rfl
  have u1 : Z3.cell? ⟨X.heap.size, 1, none⟩ = some (.int .i64 r1) := Blk.cell br3 1 _ rfl
  have u2 : Z3.cell? ⟨X.heap.size, 2, none⟩ = some (.int .i64 r2) := Blk.cell br3 2 _ rfl
  have u3 : Z3.cell? ⟨X.heap.size, 3, none⟩ = some (.int .i64 r3) := Blk.cell br3 3 _ rfl
  have u4 : Z3.cell? ⟨X.heap.size, 4, none⟩ = some (.int .i64 r4) := Blk.cell br3 4 _ rfl
  have u5 : Z3.cell? ⟨X.heap.size, 5, none⟩ = some (.slice r5a r5n r5c) := Blk.cell br3 5 _ rfl
  have u6 : Z3.cell? ⟨X.heap.size, 6, none⟩ = some (.bool r6) := Blk.cell br3 6 _ rfl
  have u7 : Z3.cell? ⟨X.heap.size, 7, none⟩ = some (.bool r7) := Blk.cell br3 7 _ rfl
  have c11 : W4.cell? ⟨ob, 11, none⟩ = some (.int .i64 q0) := Blk.cell O4.blk 11 _ rfl
  have f11 : W4.frozen? ⟨ob, 11, none⟩ = false := Blk.thaw O4.blk 11
  have c12 : W4.cell? ⟨ob, 12, none⟩ = some (.int .i64 q1) := Blk.cell O4.blk 12 _ rfl
  have f12 : W4.frozen? ⟨ob, 12, none⟩ = false := Blk.thaw O4.blk 12
  have c13 : W4.cell? ⟨ob, 13, none⟩ = some (.int .i64 q2) := Blk.cell O4.blk 13 _ rfl
  have f13 : W4.frozen? ⟨ob, 13, none⟩ = false := Blk.thaw O4.blk 13
  have c14 : W4.cell? ⟨ob, 14, none⟩ = some (.int .i64 q3) := Blk.cell O4.blk 14 _ rfl
  have f14 : W4.frozen? ⟨ob, 14, none⟩ = false := Blk.thaw O4.blk 14
  have c15 : W4.cell? ⟨ob, 15, none⟩ = some (.int .i64 q4) := Blk.cell O4.blk 15 _ rfl
  have f15 : W4.frozen? ⟨ob, 15, none⟩ = false := Blk.thaw O4.blk 15
  have c16 : W4.cell? ⟨ob, 16, none⟩ = some (.slice q5a q5n q5c) := Blk.cell O4.blk 16 _ rfl
  have f16 : W4.frozen? ⟨ob, 16, none⟩ = false := Blk.thaw O4.blk 16
  have c17 : W4.cell? ⟨ob, 17, none⟩ = some (.bool q6) := Blk.cell O4.blk 17 _ rfl
  have f17 : W4.frozen? ⟨ob, 17, none⟩ = false := Blk.thaw O4.blk 17
  have c18 : W4.cell? ⟨ob, 18, none⟩ = some (.bool q7) := Blk.cell O4.blk 18 _ rfl
  have f18 : W4.frozen? ⟨ob, 18, none⟩ = false := Blk.thaw O4.blk 18
  have w0 : W4.cell? ⟨X.heap.size + 1, 0, none⟩ = some (.int .i64 s0) := Blk.cell bs4 0 _ rfl
  have w1 : W4.cell? ⟨X.heap.size + 1, 1, none⟩ = some (.int .i64 s1) := Blk.cell bs4 1 _ rfl
  have w2 : W4.cell? ⟨X.heap.size + 1, 2, none⟩ = some (.int .i64 s2) := Blk.cell bs4 2 _ rfl
  have w3 : W4.cell? ⟨X.heap.size + 1, 3, none⟩ = some (.int .i64 s3) := Blk.cell bs4 3 _ rfl
  have w4 : W4.cell? ⟨X.heap.size + 1, 4, none⟩ = some (.int .i64 s4) := Blk.cell bs4 4 _ rfl
  have w5 : W4.cell? ⟨X.heap.size + 1, 5, none⟩ = some (.slice s5a s5n s5c) := Blk.cell bs4 5 _ rfl
  have w6 : W4.cell? ⟨X.heap.size + 1, 6, none⟩ = some (.bool s6) := Blk.cell bs4 6 _ rfl
  have w7 : W4.cell? ⟨X.heap.size + 1, 7, none⟩ = some (.bool s7) := Blk.cell bs4 7 _ rfl
  clear FIN hG KZ br0 bs0 br3 bs3 O4 O5 hob k4 bs4 hlen hall hW4 hW5 kM hvv hgz hgl z0 z8
  go_upto_region 5 with fail
  rw [← unhide HW4]
  clear c3 f3 u0 c4 f4 u1 c5 f5 u2 c6 f6 u3 c7 f7 u4 c8 f8 u5 c9 f9 u6 c10 f10 u7
  go_wp2_with fail
  rw [← unhide HW5]
  refine hlk.mono ?_
  rintro e' Y ⟨rfl, gY⟩
  have PP := hide (unhide HFIN Y gY)
  clear hlk HFIN c11 f11 w0 c12 f12 w1 c13 f13 w2 c14 f14 w3 c15 f15 w4 c16 f16 w5 c17 f17 w6 c18 f18 w7
  go_wp2
  go_ret
  exact ⟨rfl, unhide PP⟩
end
end Go.Proofs.YthihabjegpacaaaGreat

namespace Go.Proofs.YthihabjegpacaaaGreat
open Go.RowKit
set_option linter.unusedVariables false
set_option maxHeartbeats 1000000
set_option maxRecDepth 100000

theorem beq_yes {x y : Int} (h : x = y) : (x == y) = true := by simp [h]
theorem beq_no {x y : Int} (h : x ≠ y) : (x == y) = false := by simp [h]
/-- Alike, or not told to be. -/
def SameP (E : Prop) (w : World) (e : Ending) (w' : World) : Prop := ∃ r, e = .returned (.bool r) ∧ (E → r = true) ∧ w.grownBy w' none

theorem runs16 {w : World} {v v' : Value} {A B : List Sp} (h1 : Row w v A) (h2 : Row w v' B) (hA : A.length ≤ 100000000) (hB : B.length ≤ 100000000) :
    Calls Tryz.prog 44 #[v, v'] w (SameP (A = B) w) := by
  obtain ⟨a, c, rfl, k1, k2, k3⟩ := h1.shape
  obtain ⟨a', c', rfl, j1, j2, j3⟩ := h2.shape
  unfold maxLen at k2 j2
  by_cases hl : A.length = B.length
  · have hl' : ((A.length : Int) == (B.length : Int)) = true := by simp [hl]
    have hl'' : ((A.length : Int) != (B.length : Int)) = false := by simp [hl]
    have K1 := hide k1; have J1 := hide j1
    obtain ⟨n, hn⟩ : ∃ n, n = A.length := ⟨_, rfl⟩
    have HN := hide hn
    have hnB : B.length = n := by rw [hn, hl]
    have HNB := hide hnB
    rw [← hn] at hl' hl'' k3 hA hl ⊢
    rw [hnB] at hl' hl'' j3 hB ⊢
    clear k1 j1 h1 h2 hn hl hnB
    go_enter Tryz.func44, Tryz.ntmps44
    go_wp2
    go_loopw [5] (fun i wr => ∃ k q : Nat, k ≤ n ∧ i = .int .i64 k ∧ wr = w.drewN q) (fun i _ => n - (intOf i).toNat)
    case atStart => exact ⟨0, 0, Nat.zero_le _, rfl, rfl⟩
    case round =>
      obtain ⟨k, q, hk, rfl, rfl⟩ := hrel
      by_cases hlt : k < n
      · have hkA : k < A.length := by rw [← unhide HN]; exact hlt
        have hkB : k < B.length := by rw [unhide HNB]; exact hlt
        obtain ⟨g, rfl, hx⟩ : ∃ g, a = some ⟨g, 0, none⟩ ∧ ∀ i, i < A.length → w.cell? ⟨g, i * 2, none⟩ = some (.int .i64 (A.getD i (0, 0)).1) ∧ w.cell? ⟨g, i * 2 + 1, none⟩ = some (.int .i64 (A.getD i (0, 0)).2) := by
          rcases unhide K1 with e | e
          · rw [e] at hkA; simp at hkA
          · exact e
        obtain ⟨g', rfl, hx'⟩ : ∃ g, a' = some ⟨g, 0, none⟩ ∧ ∀ i, i < B.length → w.cell? ⟨g, i * 2, none⟩ = some (.int .i64 (B.getD i (0, 0)).1) ∧ w.cell? ⟨g, i * 2 + 1, none⟩ = some (.int .i64 (B.getD i (0, 0)).2) := by
          rcases unhide J1 with e | e
          · rw [e] at hkB; simp at hkB
          · exact e
        have c0 := (hx k hkA).1
        have c1 := (hx k hkA).2
        have d0 := (hx' k hkB).1
        have d1 := (hx' k hkB).2
        have EQ : Hid (A = B → (A.getD k (0, 0)).1 = (B.getD k (0, 0)).1 ∧ (A.getD k (0, 0)).2 = (B.getD k (0, 0)).2) := fun e => by rw [e]; exact ⟨rfl, rfl⟩
        generalize (A.getD k (0, 0)).1 = x at *
        generalize (A.getD k (0, 0)).2 = y at *
        generalize (B.getD k (0, 0)).1 = x' at *
        generalize (B.getD k (0, 0)).2 = y' at *
        have hkn : (k : Int) < (n : Int) := by omega
        have hkd : decide ((k : Int) < (n : Int)) = true := decide_eq_true hkn
        have HL := hide hlt
        clear hx hx' hkA hkB hlt hk
        by_cases hxx : x = x'
        · have hx1 := beq_yes hxx
          have hx2 : (x != x') = false := by simp [hxx]
          by_cases hyy : y = y'
          · have hy1 := beq_yes hyy
            have hy2 : (y != y') = false := by simp [hyy]
            clear hxx hyy EQ
            go_wp2
            go_quiet (fail)
            go_wp2
            exact ⟨⟨k + 1, _, unhide HL, by go_num, rfl⟩, by simp [intOf]; have := unhide HL; omega⟩
          · have hy1 := beq_no hyy
            have hy2 : (y != y') = true := by simp [hyy]
            have HY := hide hyy
            clear hxx hyy
            go_wp2
            go_quiet (fail)
            go_wp2
            go_ret
            exact ⟨_, rfl, fun e => absurd (unhide EQ e).2 (unhide HY), grown_trans (grown_drewN _ _) (grown_drewN _ _)⟩
        · have hx1 := beq_no hxx
          have hx2 : (x != x') = true := by simp [hxx]
          have HX := hide hxx
          clear hxx
          go_wp2
          go_quiet (fail)
          go_wp2
          go_ret
          exact ⟨_, rfl, fun e => absurd (unhide EQ e).1 (unhide HX), grown_trans (grown_drewN _ _) (grown_drewN _ _)⟩
      · obtain rfl : k = n := by omega
        have hno : ¬ (k : Int) < (k : Int) := by omega
        have hnd : decide ((k : Int) < (k : Int)) = false := decide_eq_false hno
        go_wp2
        go_ret
        exact ⟨_, rfl, fun _ => rfl, grown_drewN _ _⟩
  · have hl' : ((A.length : Int) == (B.length : Int)) = false := by simp; omega
    have hl'' : ((A.length : Int) != (B.length : Int)) = true := by simp; omega
    have HL : Hid (A ≠ B) := fun e => hl (by rw [e])
    clear k1 j1 h1 h2 hl
    generalize A.length = n at *
    generalize B.length = m at *
    go_enter Tryz.func44, Tryz.ntmps44
    go_wp2
    all_goals go_ret
    all_goals exact ⟨_, rfl, fun e => absurd e (unhide HL), grown_self _ _⟩


theorem alike_same {w : World} {S : Rv} {va vb : Value} (ha : Row w va S.K) (hb : Row w vb S.K) (n1 : S.K.length ≤ 100000000) :
    Calls Tryz.prog 26 #[.agg (rviewC S va), .agg (rviewC S vb)] w (YesP w) := by
  obtain ⟨a1, c1, rfl, -⟩ := ha.shape
  obtain ⟨a2, c2, rfl, -⟩ := hb.shape
  unfold rviewC
  generalize cnt S.K - S.read = hn at *
  generalize S.reset = rs at *
  generalize S.ended = en at *
  generalize S.final = fn at *
  generalize S.high = hi at *
  generalize S.read = rd at *
  generalize S.limit = lm at *
  obtain ⟨X1, hX1⟩ : ∃ X1, X1 = (w.alloc (.cells #[.int .i64 lm, .int .i64 rd, .int .i64 hi, .int .i64 fn, .int .i64 hn, .slice a1 S.K.length c1, .bool en, .bool rs] 34)).alloc (.cells #[.int .i64 lm, .int .i64 rd, .int .i64 hi, .int .i64 fn, .int .i64 hn, .slice a2 S.K.length c2, .bool en, .bool rs] 34) := ⟨_, rfl⟩
  have g1 : w.grownBy X1 none := by rw [hX1]; exact grown_trans (grown_alloc _ _) (grown_alloc _ _)
  have br : Blk X1 w.heap.size #[.int .i64 lm, .int .i64 rd, .int .i64 hi, .int .i64 fn, .int .i64 hn, .slice a1 S.K.length c1, .bool en, .bool rs] 34 := by rw [hX1]; exact (Blk.new _ _ _).alloc _
  have bs : Blk X1 (w.heap.size + 1) #[.int .i64 lm, .int .i64 rd, .int .i64 hi, .int .i64 fn, .int .i64 hn, .slice a2 S.K.length c2, .bool en, .bool rs] 34 := by rw [hX1, ← alloc_size w (.cells #[.int .i64 lm, .int .i64 rd, .int .i64 hi, .int .i64 fn, .int .i64 hn, .slice a1 S.K.length c1, .bool en, .bool rs] 34)]; exact Blk.new _ _ _
  have hR := runs16 (ha.keep g1) (hb.keep g1) n1 n1
  have G1 := hide g1
  have HBR := hide br
  have HBS := hide bs
  have u5 : X1.cell? ⟨w.heap.size, 5, none⟩ = some (.slice a1 S.K.length c1) := br.cell 5 _ rfl
  have w5 : X1.cell? ⟨w.heap.size + 1, 5, none⟩ = some (.slice a2 S.K.length c2) := bs.cell 5 _ rfl
  clear ha hb g1 br bs
  generalize hkn : S.K.length = kn at *
  go_enter Tryz.func26, Tryz.ntmps26
  go_upto_region 1 with fail
  rw [← hX1]
  clear hX1
  go_wp2_with fail
  refine hR.mono ?_
  rintro e Y ⟨r, rfl, hr, gY⟩
  obtain rfl : r = true := by first | exact hr rfl | exact hr trivial | simpa using hr
  have bY := (unhide HBR).grown gY
  have sY := (unhide HBS).grown gY
  have u0 : Y.cell? ⟨w.heap.size, 0, none⟩ = some (.int .i64 lm) := bY.cell 0 _ rfl
  have w0 : Y.cell? ⟨w.heap.size + 1, 0, none⟩ = some (.int .i64 lm) := sY.cell 0 _ rfl
  have u1 : Y.cell? ⟨w.heap.size, 1, none⟩ = some (.int .i64 rd) := bY.cell 1 _ rfl
  have w1 : Y.cell? ⟨w.heap.size + 1, 1, none⟩ = some (.int .i64 rd) := sY.cell 1 _ rfl
  have u2 : Y.cell? ⟨w.heap.size, 2, none⟩ = some (.int .i64 hi) := bY.cell 2 _ rfl
  have w2 : Y.cell? ⟨w.heap.size + 1, 2, none⟩ = some (.int .i64 hi) := sY.cell 2 _ rfl
  have u3 : Y.cell? ⟨w.heap.size, 3, none⟩ = some (.int .i64 fn) := bY.cell 3 _ rfl
  have w3 : Y.cell? ⟨w.heap.size + 1, 3, none⟩ = some (.int .i64 fn) := sY.cell 3 _ rfl
  have u4 : Y.cell? ⟨w.heap.size, 4, none⟩ = some (.int .i64 hn) := bY.cell 4 _ rfl
  have w4 : Y.cell? ⟨w.heap.size + 1, 4, none⟩ = some (.int .i64 hn) := sY.cell 4 _ rfl
  have u6 : Y.cell? ⟨w.heap.size, 6, none⟩ = some (.bool en) := bY.cell 6 _ rfl
  have w6 : Y.cell? ⟨w.heap.size + 1, 6, none⟩ = some (.bool en) := sY.cell 6 _ rfl
  have u7 : Y.cell? ⟨w.heap.size, 7, none⟩ = some (.bool rs) := bY.cell 7 _ rfl
  have w7 : Y.cell? ⟨w.heap.size + 1, 7, none⟩ = some (.bool rs) := sY.cell 7 _ rfl
  have lmE : (lm == lm) = true := by simp
  have rdE : (rd == rd) = true := by simp
  have hiE : (hi == hi) = true := by simp
  have fnE : (fn == fn) = true := by simp
  have hnE : (hn == hn) = true := by simp
  have enE : (en == en) = true := by simp
  have rsE : (rs == rs) = true := by simp
  have FIN := hide (grown_trans (unhide G1) gY)
  clear hR gY hr bY sY HBR HBS u5 w5 G1
  go_wp2_with fail
  go_ret
  exact ⟨rfl, unhide FIN⟩
end Go.Proofs.YthihabjegpacaaaGreat

namespace Go.Proofs.YthihabjegpacaaaGreat
open Go.RowKit
set_option linter.unusedVariables false
set_option maxHeartbeats 1000000
set_option maxRecDepth 100000

/-- The owner, with what it holds; Q: its blocks; N: how many entries at the most. -/
structure OWs (X : World) (ob : Nat) (Q : Nat → Prop) (N : Nat) (vl vB : Value) (H : List Int) (S : Rv) (va wa : Value) (V : Nat → Prop) (es : List En) : Prop where
  ol : OL 0 X ob vl (vB :: .string (strOfNums H) :: ((rviewC S va).toList ++ (rviewC S wa).toList)) V es
  rB : RowV 0 5 X vB (uV H)
  bH : ∀ x ∈ H, IsB x
  nH : H.length ≤ 100000000
  ra : Row X va S.K
  qa : Row X wa S.K
  nA : S.K.length ≤ 100000000
  n : es.length ≤ N
  sz : ∀ e ∈ es, e.bn ≤ 1000000000 ∧ e.rn ≤ 1000000000
  vB_ : ∀ g, vB.ownBlock = some g → ¬ V g
  va_ : ∀ g, va.ownBlock = some g → ¬ V g
  wa_ : ∀ g, wa.ownBlock = some g → ¬ V g
  q : ∀ g, Q g ↔ (Om ob vl g ∨ V g ∨ vB.ownBlock = some g ∨ va.ownBlock = some g ∨ wa.ownBlock = some g)
def OW (X : World) (ob : Nat) (Q : Nat → Prop) (N : Nat) : Prop := ∃ vl vB H S va wa V es, OWs X ob Q N vl vB H S va wa V es

section
variable {X Y : World} {ob N : Nat} {Q D : Nat → Prop} {vl vB : Value} {H : List Int} {S : Rv} {va wa : Value} {V : Nat → Prop} {es : List En}

theorem OWs.lt (h : OWs X ob Q N vl vB H S va wa V es) : ∀ g, Q g → g < X.heap.size := fun g q => by
  rcases (h.q g).1 q with (q | q) | q | q | q | q
  · rw [q]; exact Blk.lt h.ol.blk
  · exact (h.ol.row.lt g q).2
  · exact (h.ol.nV g q).2.1
  · exact (World.ownsRow.lt h.rB g q).2
  · exact row_lt h.ra g q
  · exact row_lt h.qa g q
theorem OWs.kept (h : OWs X ob Q N vl vB H S va wa V es) (hs : X.heap.size ≤ Y.heap.size) (hk : ∀ g, Q g → Y.heap[g]? = X.heap[g]?) : OWs Y ob Q N vl vB H S va wa V es := by
  have r : ∀ {v : Value} {L : List Sp}, Row X v L → (∀ g, v.ownBlock = some g → Q g) → Row Y v L := fun hr hq => own_kept hr fun g e => hk g (hq g e)
  refine ⟨h.ol.kept hs fun g q _ => hk g ((h.q g).2 (q.imp id .inl)), h.rB.kept fun g e => hk g ((h.q g).2 (.inr (.inr (.inl e)))), h.bH, h.nH, r h.ra fun g e => (h.q g).2 (.inr (.inr (.inr (.inl e)))), r h.qa fun g e => (h.q g).2 (.inr (.inr (.inr (.inr e)))), h.nA, h.n, h.sz, h.vB_, h.va_, h.wa_, h.q⟩
theorem OW.kp (h : OW X ob Q N) (k : Kp D X Y) (hd : ∀ g, Q g → ¬ D g) : OW Y ob Q N := by
  obtain ⟨vl, vB, H, S, va, wa, V, es, h⟩ := h
  exact ⟨vl, vB, H, S, va, wa, V, es, h.kept k.size fun g q => k.block g (h.lt g q) (hd g q)⟩
theorem OW.lt (h : OW X ob Q N) : ∀ g, Q g → g < X.heap.size := by
  obtain ⟨vl, vB, H, S, va, wa, V, es, h⟩ := h
  exact h.lt
theorem OW.mono {N' : Nat} (h : OW X ob Q N) (hn : N ≤ N') : OW X ob Q N' := by
  obtain ⟨vl, vB, H, S, va, wa, V, es, h⟩ := h
  exact ⟨vl, vB, H, S, va, wa, V, es, h.ol, h.rB, h.bH, h.nH, h.ra, h.qa, h.nA, Nat.le_trans h.n hn, h.sz, h.vB_, h.va_, h.wa_, h.q⟩

/-- What a call leaves of it. -/
def OwP (X : World) (ob : Nat) (Q : Nat → Prop) (F : Nat → Prop) (N : Nat) (Y : World) : Prop := ∃ Q', OW Y ob Q' N ∧ (∀ g, Q' g → Q g ∨ F g ∨ X.heap.size ≤ g) ∧ Kp Q X Y

theorem OW.bytes (h : OW X ob Q N) (hN : N + 2 ≤ 100000000) {vb vw : Value} {B : List Int} (hb : RowV 0 5 X vb (uV B)) (hw : RowV 0 5 X vw (uV B)) (hB : ∀ x ∈ B, IsB x) (nB : B.length ≤ 100000000) (nb : ∀ g, vb.ownBlock = some g → ¬ Q g) (nw : ∀ g, vw.ownBlock = some g → ¬ Q g) :
    Calls Tryz.prog 8 #[ptr ob, vb, vw] X fun e Y => e = .returned (.bool true) ∧ OwP X ob Q (fun g => vb.ownBlock = some g) (N + 2) Y := by
  obtain ⟨vl, vB, H, S, va, wa, V, es, h⟩ := h
  have sub : ∀ g, Om ob vl g ∨ V g ∨ vB.ownBlock = some g → Q g := fun g q => (h.q g).2 (by
    rcases q with q | q | q
    · exact .inl q
    · exact .inr (.inl q)
    · exact .inr (.inr (.inl q)))
  refine (bytes_any h.ol (Nat.zero_le _) h.rB h.bH hb hw hB (by have := h.n; omega) h.sz (by have := h.nH; omega) h.vB_ (fun g q z => nb g q (sub g z)) (fun g q z => nw g q (sub g z))).mono ?_
  rintro e Y ⟨rfl, vl', V', es', hO, hr, hlen, hsz, hk, hq⟩
  have nS : ∀ {v : Value} {L : List Sp}, Row X v L → (∀ g, v.ownBlock = some g → ¬ V g) → ∀ g, v.ownBlock = some g → ¬ (Om ob vl g ∨ V g ∨ vB.ownBlock = some g) := fun hr hv g e z => by
    rcases z with (z | z) | z | z
    · subst z
      exact own_ne_blk hr h.ol.blk (by decide) e
    · exact own_ne hr h.ol.row (by decide) e z
    · exact hv g e z
    · exact own_ne hr h.rB (by decide) e z
  have keep : ∀ {v : Value} {L : List Sp}, Row X v L → (∀ g, v.ownBlock = some g → ¬ V g) → Row Y v L := fun hr hv => own_kept hr fun g e => hk.block g (row_lt hr g e) (nS hr hv g e)
  have nV' : ∀ {v : Value} {L : List Sp}, Row X v L → (∀ g, v.ownBlock = some g → ¬ V g) → ∀ g, v.ownBlock = some g → ¬ V' g := fun hr hv g e z => by
    rcases hq g (.inr z) with z | z
    · exact nS hr hv g e z
    · have := row_lt hr g e; omega
  refine ⟨rfl, _, ⟨vl', vb, B, S, va, wa, V', es', hO, hr, hB, nB, keep h.ra h.va_, keep h.qa h.wa_, h.nA, by have := h.n; omega, hsz, fun g e z => ?_, nV' h.ra h.va_, nV' h.qa h.wa_, fun g => Iff.rfl⟩, fun g q => ?_, hk.mono fun g _ q => sub g q⟩
  · rcases hq g (.inr z) with z | z
    · exact nb g e (sub g z)
    · have := (World.ownsRow.lt hb g e).2; omega
  · have hq' : Om ob vl' g ∨ V' g → Q g ∨ vb.ownBlock = some g ∨ X.heap.size ≤ g := fun z => by
      rcases hq g z with z | z
      · exact .inl (sub g z)
      · exact .inr (.inr z)
    rcases q with q | q | q | q
    · exact hq' (.inl q)
    · exact hq' (.inr q)
    · exact .inr (.inl q)
    · exact .inl ((h.q g).2 (.inr (.inr (.inr q))))

theorem OW.viewed (h : OW X ob Q N) (hN : N + 2 ≤ 100000000) {T : Rv} {na oa : Value} (h1 : Row X na T.K) (h3 : Row X oa T.K) (nA : T.K.length ≤ 100000000)
    (n1 : ∀ g, na.ownBlock = some g → ¬ Q g) (n3 : ∀ g, oa.ownBlock = some g → ¬ Q g) :
    Calls Tryz.prog 9 #[ptr ob, .agg (rviewC T na), .agg (rviewC T oa)] X fun e Y => e = .returned (.bool true) ∧ OwP X ob Q (fun g => na.ownBlock = some g ∨ oa.ownBlock = some g) (N + 2) Y := by
  obtain ⟨vl, vB, H, S, va, wa, V, es, h⟩ := h
  have sub : ∀ g, Om ob vl g ∨ V g ∨ va.ownBlock = some g → Q g := fun g q => (h.q g).2 (by
    rcases q with q | q | q
    · exact .inl q
    · exact .inr (.inl q)
    · exact .inr (.inr (.inr (.inl q))))
  have a1 : ∀ Z, X.grownBy Z none → Calls Tryz.prog 26 #[.agg (rviewC S va), .agg (rviewC S wa)] Z (YesP Z) := fun Z g => alike_same (h.ra.keep g) (h.qa.keep g) h.nA
  have a2 : ∀ Z, X.grownBy Z none → Calls Tryz.prog 26 #[.agg (rviewC T na), .agg (rviewC T oa)] Z (YesP Z) := fun Z g => alike_same (h1.keep g) (h3.keep g) nA
  have hcall : Calls Tryz.prog 9 #[ptr ob, .agg (rviewC T na), .agg (rviewC T oa)] X fun e Y => e = .returned (.bool true) ∧ ViewedP 0 X ob vl V es va (vB :: .string (strOfNums H) :: ((rviewC T na).toList ++ (rviewC T oa).toList)) Y := by
    obtain ⟨x1, x2, e1, -⟩ := h.ra.shape
    obtain ⟨x5, x6, e3, -⟩ := h.qa.shape
    obtain ⟨y1, y2, f1, -⟩ := h1.shape
    obtain ⟨y5, y6, f3, -⟩ := h3.shape
    subst e1 e3 f1 f3
    exact viewed_any h.ol (Nat.zero_le _) h.ra h.nA (by have := h.n; omega) h.sz h.va_ a1 a2
  refine hcall.mono ?_
  rintro e Y ⟨rfl, vl', V', es', hO, hlen, hsz, hk, hq⟩
  have keep : ∀ {v : Value} {L : List Sp}, Row X v L → (∀ g, v.ownBlock = some g → ¬ Q g) → Row Y v L := fun hr hv => own_kept hr fun g e => hk.block g (row_lt hr g e) fun z => hv g e (sub g z)
  have nV' : ∀ {v : Value} {L : List Sp}, Row X v L → (∀ g, v.ownBlock = some g → ¬ Q g) → ∀ g, v.ownBlock = some g → ¬ V' g := fun hr hv g e z => by
    rcases hq g (.inr z) with z | z
    · exact hv g e (sub g z)
    · have := row_lt hr g e; omega
  have nB : ∀ g, vB.ownBlock = some g → ¬ (Om ob vl g ∨ V g ∨ va.ownBlock = some g) := fun g e z => by
    rcases z with (z | z) | z | z
    · subst z
      exact own_ne_blk h.rB h.ol.blk (by decide) e
    · exact own_ne h.rB h.ol.row (by decide) e z
    · exact h.vB_ g e z
    · exact own_ne h.rB h.ra (by decide) e z
  refine ⟨rfl, _, ⟨vl', vB, H, T, na, oa, V', es', hO, h.rB.kept fun g e => hk.block g (World.ownsRow.lt h.rB g e).2 (nB g e), h.bH, h.nH, keep h1 n1, keep h3 n3, nA, by have := h.n; omega, hsz, fun g e z => ?_, nV' h1 n1, nV' h3 n3, fun g => Iff.rfl⟩, fun g q => ?_, hk.mono fun g _ q => sub g q⟩
  · rcases hq g (.inr z) with z | z
    · exact nB g e z
    · have := (World.ownsRow.lt h.rB g e).2; omega
  · have hq' : Om ob vl' g ∨ V' g → Q g ∨ (na.ownBlock = some g ∨ oa.ownBlock = some g) ∨ X.heap.size ≤ g := fun z => by
      rcases hq g z with z | z
      · exact .inl (sub g z)
      · exact .inr (.inr z)
    rcases q with q | q | q | q
    · exact hq' (.inl q)
    · exact hq' (.inr q)
    · exact .inl ((h.q g).2 (.inr (.inr (.inl q))))
    · exact .inr (.inl q)
end
end Go.Proofs.YthihabjegpacaaaGreat

namespace Go.Proofs.YthihabjegpacaaaGreat
open Go.RowKit
set_option linter.unusedVariables false
set_option maxHeartbeats 1000000
set_option maxRecDepth 100000

/-- No block of the document's held bytes. -/
def NoH (W : World) (g : Nat) : Prop := ∀ cur, W.heap[g]? ≠ some (.cells cur 79 (0, 0))
theorem noh_blk {W : World} {g : Nat} {cs : Array Value} {t : TypeId} (h : Blk W g cs t) (ht : t ≠ 79) : NoH W g := fun cur e => by
  have := (show W.heap[g]? = _ from h)
  rw [e] at this
  simp at this
  exact ht this.2.symm
section
variable {w W : World} {M : Nat → Prop} {b bk : Nat} {vh : Value} {E : List He} {S : Rv}
/-- A Recv with no blocks but its own. -/
theorem ra_self (h : RA w M b bk vh E W S) : ∃ M' : Nat → Prop, RA W M' b bk vh E W S ∧ (∀ g, M' g → (M g ∨ w.heap.size ≤ g) ∧ g < W.heap.size ∧ NoH W g) := by
  obtain ⟨va, s, m⟩ := h.set
  refine ⟨fun g => g = b ∨ g = bk ∨ va.ownBlock = some g ∨ vh.ownBlock = some g ∨ ∃ e ∈ E, e.g = g, ⟨Kp.refl _ _, h.blk, ⟨va, s, fun g q => .inl (.inr (.inr (.inl q)))⟩, h.row, fun e he => ⟨(h.pcs e he).1, .inl (.inr (.inr (.inr (.inr ⟨e, he, rfl⟩))))⟩, .inl (.inl rfl), .inl (.inr (.inl rfl)), fun g q => .inl (.inr (.inr (.inr (.inl q))))⟩, fun g q => ?_⟩
  rcases q with rfl | rfl | q | q | ⟨e, he, rfl⟩
  · exact ⟨h.mb, h.blk.lt, noh_blk h.blk (by decide)⟩
  · exact ⟨h.mq, setAt_lt s, noh_blk (show Blk W g #[.int .i64 0, va] _ from s.blk) (by decide)⟩
  · refine ⟨m g q, row_lt s.row g q, ?_⟩
    obtain ⟨cur, hb⟩ := own_blk s.row q
    exact noh_blk hb (by decide)
  · refine ⟨h.mh g q, h.row.lt g q, fun cur e => ?_⟩
    rcases h.row with ⟨rfl, -⟩ | ⟨g', pr, c, sp, rfl, hR⟩
    · cases q
    · cases q
      have := hR.1
      rw [e] at this
      simp at this
  · exact ⟨(h.pcs e he).2, (h.pcs e he).1.lt, noh_blk (h.pcs e he).1 (by decide)⟩
end

theorem RdH.blkD {W : World} {a : Option Addr} {c : Nat} {H : List Hd} (h : RdH W a c H) {g : Nat} (d : Dm a H g) : ∃ cur, W.heap[g]? = some (.cells cur 79 (0, 0)) := by
  obtain ⟨hne, o, rfl⟩ := d
  obtain ⟨g', off, cur, e, hg, -⟩ := h.rd.resolve_left hne
  cases e
  exact ⟨cur, hg⟩
theorem RdH.keptD {W W' : World} {a : Option Addr} {c : Nat} {H : List Hd} (h : RdH W a c H) (hk : ∀ g, Dm a H g → W'.heap[g]? = W.heap[g]?) : RdH W' a c H := by
  refine ⟨?_, h.cap, h.sh⟩
  by_cases hne : H = []
  · exact .inl hne
  · obtain ⟨g, off, cur, e, hg, hc⟩ := h.rd.resolve_left hne
    exact .inr ⟨g, off, cur, e, (hk g ⟨hne, off, e⟩).trans hg, hc⟩
/-- The document's blocks. -/
def Rm (r : Nat) (a : Option Addr) (H : List Hd) (g : Nat) : Prop := g = r ∨ Dm a H g
section
variable {X Y Z : World} {b r bk bk' c c' t k t' k' : Nat} {P D M M' : Nat → Prop} {S S' : Rv} {vh vh' : Value} {E E' : List He} {a a' : Option Addr} {H H' : List Hd}
theorem DR.kept (h : DR X r a c S H) (hk : ∀ g, Rm r a H g → Y.heap[g]? = X.heap[g]?) : DR Y r a c S H := ⟨(hk r (.inl rfl)).trans h.blk, h.rd.keptD fun g d => hk g (.inr d), h.ish⟩
theorem DR.ltD (h : DR X r a c S H) : ∀ g, Rm r a H g → g < X.heap.size := fun g q => by
  rcases q with rfl | q
  · exact h.blk.lt
  · obtain ⟨cur, e⟩ := h.rd.blkD q
    exact (Array.getElem?_eq_some_iff.1 e).1

/-- A pair; P: its blocks. -/
structure PRs (X : World) (b r : Nat) (P : Nat → Prop) (S : Rv) (t k : Nat) (M : Nat → Prop) (bk : Nat) (vh : Value) (E : List He) (a : Option Addr) (c : Nat) (H : List Hd) : Prop where
  ra : RA X M b bk vh E X S
  he : HeOk S E
  dr : DR X r a c S H
  ok : RvOk S
  mt : ∀ g, M g → g < X.heap.size ∧ NoH X g ∧ g ≠ r
  p : ∀ g, P g ↔ (M g ∨ Rm r a H g)
  nE : E.length ≤ t
  nH : H.length ≤ t
  nK : S.K.length ≤ k
  few : Few S t
def PR (X : World) (b r : Nat) (P : Nat → Prop) (S : Rv) (t k : Nat) : Prop := ∃ M bk vh E a c H, PRs X b r P S t k M bk vh E a c H
theorem PR.lt (h : PR X b r P S t k) : ∀ g, P g → g < X.heap.size := fun g q => by
  obtain ⟨M, bk, vh, E, a, c, H, h⟩ := h
  rcases (h.p g).1 q with q | q
  · exact (h.mt g q).1
  · exact h.dr.ltD g q
theorem PRs.dis (h : PRs X b r P S t k M bk vh E a c H) : ∀ g, M g → ¬ Rm r a H g := fun g m q => by
  rcases q with q | q
  · exact (h.mt g m).2.2 q
  · obtain ⟨cur, e⟩ := h.dr.rd.blkD q
    exact (h.mt g m).2.1 cur e
/-- Other blocks are written. -/
theorem PR.kp (h : PR X b r P S t k) (kk : Kp D X Y) (hd : ∀ g, P g → ¬ D g) : PR Y b r P S t k := by
  obtain ⟨M, bk, vh, E, a, c, H, h⟩ := h
  refine ⟨M, bk, vh, E, a, c, H, h.ra.keep kk fun g q => hd g ((h.p g).2 (.inl q)), h.he, h.dr.kept fun g q => kk.block g (h.dr.ltD g q) (hd g ((h.p g).2 (.inr q))), h.ok, fun g m => ?_, h.p, h.nE, h.nH, h.nK, h.few⟩
  obtain ⟨m1, m2, m3⟩ := h.mt g m
  refine ⟨Nat.lt_of_lt_of_le m1 kk.size, fun cur e => m2 cur ?_, m3⟩
  rw [kk.block g m1 (hd g ((h.p g).2 (.inl m)))] at e
  exact e

/-- A pair behind the code's call, ahead of the document's. -/
structure PMs (X : World) (b r : Nat) (P : Nat → Prop) (S' S : Rv) (M : Nat → Prop) (bk : Nat) (vh : Value) (E : List He) (a : Option Addr) (c : Nat) (H : List Hd) (Y : World) : Prop where
  ra : RA Y M b bk vh E Y S'
  he : HeOk S' E
  dr : DR Y r a c S H
  mt : ∀ g, M g → g < Y.heap.size ∧ NoH Y g ∧ g ≠ r
  pM : ∀ g, M g → P g ∨ X.heap.size ≤ g
  pR : ∀ g, Rm r a H g → P g
  rl : ∀ g, Rm r a H g → g < X.heap.size
  kp : Kp P X Y
/-- What a step of both leaves. -/
def PrP (X : World) (b r : Nat) (P : Nat → Prop) (S' : Rv) (t k : Nat) (Z : World) : Prop := ∃ P', PR Z b r P' S' t k ∧ (∀ g, P' g → P g ∨ X.heap.size ≤ g) ∧ Kp P X Z
/-- Behind the code's call. -/
theorem PRs.code (h : PRs X b r P S t k M bk vh E a c H) (q : RA X M b bk' vh' E' Y S') (hE : HeOk S' E') : ∃ M', PMs X b r P S' S M' bk' vh' E' a c H Y := by
  obtain ⟨M', r1, r2⟩ := ra_self q
  have hk : ∀ g, Rm r a H g → Y.heap[g]? = X.heap[g]? := fun g z => q.kp.block g (h.dr.ltD g z) fun m => h.dis g m z
  refine ⟨M', r1, hE, h.dr.kept hk, fun g m => ⟨(r2 g m).2.1, (r2 g m).2.2, ?_⟩, fun g m => ?_, fun g z => (h.p g).2 (.inr z), h.dr.ltD, q.kp.mono fun g _ m => (h.p g).2 (.inl m)⟩
  · rintro rfl
    rcases (r2 g m).1 with z | z
    · exact (h.mt g z).2.2 rfl
    · have := h.dr.blk.lt; omega
  · exact (r2 g m).1.imp (fun z => (h.p g).2 (.inl z)) id
/-- Other blocks are written in between. -/
theorem PMs.past (h : PMs X b r P S' S M bk vh E a c H Y) (k : Kp D Y Z) (hM : ∀ g, M g → ¬ D g) (hD : ∀ g, D g → X.heap.size ≤ g) : PMs X b r P S' S M bk vh E a c H Z := by
  refine ⟨h.ra.keep k hM, h.he, h.dr.kept fun g q => k.block g (h.dr.ltD g q) fun d => by have := h.rl g q; have := hD g d; omega, fun g m => ?_, h.pM, h.pR, h.rl, h.kp.then k fun g hg d => by have := hD g d; omega⟩
  obtain ⟨m1, m2, m3⟩ := h.mt g m
  refine ⟨Nat.lt_of_lt_of_le m1 k.size, fun cur e => m2 cur ?_, m3⟩
  rw [k.block g m1 (hM g m)] at e
  exact e
/-- Behind the document's call. -/
theorem PMs.doc (h : PMs X b r P S' S M bk vh E a c H Y) (d : DR Z r a' c' S' H') (kk : Y.grownBy Z (some r)) (hn : NwH Y a H a' H') (ok : RvOk S') (nE : E.length ≤ t) (nH : H'.length ≤ t) (nK : S'.K.length ≤ k) (few : Few S' t) : PrP X b r P S' t k Z := by
  have hkM : ∀ g, M g → Z.heap[g]? = Y.heap[g]? := fun g m => kk.block g (h.mt g m).1 fun e => (h.mt g m).2.2 (by injection e)
  have k' : Kp (fun g => g = r) Y Z := Kp.grownS kk rfl
  refine ⟨fun g => M g ∨ Rm r a' H' g, ⟨M, bk, vh, E, a', c', H', h.ra.keep k' fun g m e => (h.mt g m).2.2 e, h.he, d, ok, fun g m => ?_, fun g => Iff.rfl, nE, nH, nK, few⟩, fun g q => ?_, h.kp.then k' fun g _ e => h.pR g (.inl e)⟩
  · obtain ⟨m1, m2, m3⟩ := h.mt g m
    refine ⟨Nat.lt_of_lt_of_le m1 kk.size, fun cur e => m2 cur ?_, m3⟩
    rw [hkM g m] at e
    exact e
  · rcases q with q | q | q
    · exact h.pM g q
    · exact .inl (h.pR g (.inl q))
    · rcases hn g q with z | z
      · exact .inl (h.pR g (.inr z))
      · exact .inr (Nat.le_trans h.kp.size z)
/-- Nothing is changed. -/
theorem PR.self (h : PR X b r P S t k) (g : X.grownBy Z none) : PrP X b r P S t k Z := ⟨P, h.kp (Kp.grown g (fun _ => False)) (fun _ _ q => q), fun g q => .inl q, Kp.grown g P⟩
theorem PrP.later {X0 : World} (h : PrP X b r P S t k Z) (g : X0.grownBy X none) : PrP X0 b r P S t k Z := by
  obtain ⟨P', h1, h2, h3⟩ := h
  exact ⟨P', h1, fun j q => (h2 j q).imp id fun e => Nat.le_trans g.size e, (Kp.grown g P).trans h3⟩
theorem PrP.grown (h : PrP X b r P S t k Y) (g : Y.grownBy Z none) : PrP X b r P S t k Z := by
  obtain ⟨P', h1, h2, h3⟩ := h
  exact ⟨P', h1.kp (Kp.grown g (fun _ => False)) (fun _ _ q => q), h2, h3.nothing g⟩
end
end Go.Proofs.YthihabjegpacaaaGreat

namespace Go.Proofs.YthihabjegpacaaaGreat
open Go.RowKit
set_option linter.unusedVariables false
set_option maxHeartbeats 1000000
set_option maxRecDepth 100000

theorem rd_kept {W W' : World} {D : Nat → Prop} {a : Option Addr} {l : List Int} (h : Rd W a l) (k : Kp D W W') (hn : l ≠ [] → ∀ b off, a = some ⟨b, off, none⟩ → ¬ D b) : Rd W' a l := ⟨h.1, fun hne => by
  obtain ⟨b, off, e, hc⟩ := h.2 hne
  refine ⟨b, off, e, fun i hi => ?_⟩
  have c := hc i hi
  rw [World.cell?_of_block (k.block b (World.block_lt_of_cell? _ _ c) (hn hne b off e))]
  exact c⟩
theorem rd_lt {W : World} {a : Option Addr} {l : List Int} (h : Rd W a l) (hl : l ≠ []) : ∀ b off, a = some ⟨b, off, none⟩ → b < W.heap.size := fun b off e => by
  obtain ⟨b', off', e', hc⟩ := h.2 hl
  rw [e] at e'
  cases e'
  exact World.block_lt_of_cell? _ _ (hc 0 (List.length_pos_iff.2 hl))
theorem rd_lent {Y : World} {g : Nat} {p q : List Int} (h : Blk Y g (by8 (p ++ q)) 5) (hb : ∀ x ∈ p, IsB x) : Rd Y (some ⟨g, 0, none⟩) p := by
  refine ⟨hb, fun _ => ⟨g, 0, rfl, fun i hi => ?_⟩⟩
  refine h.cell _ _ ?_
  have : i < (p ++ q).length := by simp; omega
  simp only [by8, Nat.zero_add]
  rw [List.getElem?_toArray, List.getElem?_map, List.getElem?_append_left hi]
  simp [List.getD, List.getElem?_eq_getElem hi]
theorem row_uniq {S : Rv} {most : Int} {n m : Nat} (h : RowN S most n) (k : RowN S most m) : n = m := by
  have aux : ∀ {n m : Nat}, RowN S most n → RowN S most m → ¬ n < m := fun {n m} h k q => by
    rcases h.end_ with e | e
    · have := k.le; omega
    · have := k.got n q; rw [e] at this; cases this
  have := aux h k
  have := aux k h
  omega
theorem bytesT_isB {S : Rv} (h : RvOk S) {most : Int} {n : Nat} (hn : RowN S most n) : ∀ x ∈ bytesT S n, IsB x := fun x hx => by
  unfold bytesT at hx
  obtain ⟨i, hi, rfl⟩ := List.mem_map.1 hx
  have := hn.got i (by simpa using hi)
  cases e : S.T (S.read + (i : Int)) with
  | none => rw [e] at this; cases this
  | some y => exact h.tb _ y e
theorem GB.rowV {n0 : Nat} {W : World} {v : Value} {T : List Int} (h : GB n0 W v T) : RowV 0 5 W v (uV T) := by
  have h' := own_low h
  unfold RowV
  rw [show (uV T).length = T.length by simp]
  exact h'
theorem blk_rowV {W : World} {g : Nat} {l : List Int} (h : Blk W g (by8 l) 5) (hl : l.length ≤ 1000000000) : RowV 0 5 W (.slice (some ⟨g, 0, none⟩) l.length l.length) (uV l) := by
  unfold RowV
  rw [show (uV l).length = l.length by simp]
  refine ⟨by simp, .inr ⟨g, l.length, by8 l, rfl, Nat.zero_le _, h, Nat.le_refl _, by unfold maxLen; omega, by simp [by8], ?_⟩⟩
  simp only [by8, Nat.mul_one]
  rw [List.take_of_length_le (by simp)]
theorem Few.mono {S : Rv} {t t' : Nat} (h : Few S t) (ht : t ≤ t') : Few S t' := by
  obtain ⟨L, h1, h2⟩ := h
  exact ⟨L, by omega, h2⟩
theorem RA.wide {w W : World} {M M' : Nat → Prop} {b bk : Nat} {vh : Value} {E : List He} {S : Rv} (h : RA w M b bk vh E W S) (hM : ∀ g, M g → M' g) : RA w M' b bk vh E W S := by
  obtain ⟨va, s, m⟩ := h.set
  exact ⟨h.kp.mono fun g _ q => hM g q, h.blk, ⟨va, s, fun g q => (m g q).imp (hM g) id⟩, h.row, fun e he => ⟨(h.pcs e he).1, (h.pcs e he).2.imp (hM _) id⟩, h.mb.imp (hM _) id, h.mq.imp (hM _) id, fun g q => (h.mh g q).imp (hM g) id⟩

section
variable {X X0 Y Z U : World} {b r ob N n bk c t k t' k' : Nat} {P Q M : Nat → Prop} {S S' : Rv} {vh : Value} {E : List He} {a : Option Addr} {H : List Hd}
theorem PRs.grown (h : PRs X b r P S t k M bk vh E a c H) (g : X.grownBy Y none) : PRs Y b r P S t k M bk vh E a c H :=
  ⟨h.ra.keep (Kp.grown g (fun _ => False)) (fun _ _ q => q), h.he, h.dr.grown g, h.ok, fun j q => by
    obtain ⟨m1, m2, m3⟩ := h.mt j q
    refine ⟨Nat.lt_of_lt_of_le m1 g.size, fun cur e => m2 cur ?_, m3⟩
    rw [g.block j m1 (by simp)] at e
    exact e, h.p, h.nE, h.nH, h.nK, h.few⟩
theorem PRs.plt (h : PRs X b r P S t k M bk vh E a c H) : ∀ g, P g → g < X.heap.size := PR.lt ⟨M, bk, vh, E, a, c, H, h⟩
theorem PR.mono (h : PR X b r P S t k) (ht : t ≤ t') (hk : k ≤ k') : PR X b r P S t' k' := by
  obtain ⟨M, bk, vh, E, a, c, H, h⟩ := h
  exact ⟨M, bk, vh, E, a, c, H, h.ra, h.he, h.dr, h.ok, h.mt, h.p, Nat.le_trans h.nE ht, Nat.le_trans h.nH ht, Nat.le_trans h.nK hk, h.few.mono ht⟩
theorem PrP.mono (h : PrP X b r P S t k Z) (ht : t ≤ t') (hk : k ≤ k') : PrP X b r P S t' k' Z := by
  obtain ⟨P', h1, h2⟩ := h
  exact ⟨P', h1.mono ht hk, h2⟩
theorem PMs.later (h : PMs X b r P S' S M bk vh E a c H Y) (g : X0.grownBy X none) (rl : ∀ g, Rm r a H g → g < X0.heap.size) : PMs X0 b r P S' S M bk vh E a c H Y :=
  ⟨h.ra, h.he, h.dr, h.mt, fun j q => (h.pM j q).imp id fun e => Nat.le_trans g.size e, h.pR, rl, (Kp.grown g P).trans h.kp⟩

/-- What step leaves. -/
structure StepP (X : World) (b r ob : Nat) (P Q : Nat → Prop) (N t k n : Nat) (e : Ending) (U : World) : Prop where
  e : e = .returned (.bool true)
  ex : ∃ P' Q' S', PR U b r P' S' (t + n) (k + 1) ∧ OW U ob Q' (N + 2) ∧ (∀ g, P' g → P g ∨ X.heap.size ≤ g) ∧ (∀ g, Q' g → Q g ∨ X.heap.size ≤ g) ∧ (∀ g, P' g → ¬ Q' g)
  kp : Kp (fun g => P g ∨ Q g) X U
/-- Where the owner has nothing to do. -/
theorem PrP.step (h : PrP X b r P S' (t + n) (k + 1) U) (ho : OW X ob Q N) (hd : ∀ g, P g → ¬ Q g) : StepP X b r ob P Q N t k n (.returned (.bool true)) U := by
  obtain ⟨P', h1, h2, h3⟩ := h
  refine ⟨rfl, ⟨P', Q, S', h1, (ho.kp h3 fun g q p => hd g p q).mono (by omega), h2, fun g q => .inl q, fun g p q => ?_⟩, h3.mono fun g _ q => .inl q⟩
  rcases h2 g p with p | p
  · exact hd g p q
  · have := ho.lt g q; omega
theorem StepP.later {e : Ending} (h : StepP X b r ob P Q N t k n e U) (g : X0.grownBy X none) : StepP X0 b r ob P Q N t k n e U := by
  obtain ⟨P', Q', S', h1, h2, h3, h4, h5⟩ := h.ex
  exact ⟨h.e, ⟨P', Q', S', h1, h2, fun k q => (h3 k q).imp id fun e => Nat.le_trans g.size e, fun k q => (h4 k q).imp id fun e => Nat.le_trans g.size e, h5⟩, (Kp.grown g _).trans h.kp⟩
/-- Where the owner is called behind the pair. -/
theorem OwP.step {F P' : Nat → Prop} (hp : PR Z b r P' S' (t + n) (k + 1)) (hP : ∀ g, P' g → P g ∨ X.heap.size ≤ g) (hk : Kp P X Z) (ho : OW X ob Q N) (hd : ∀ g, P g → ¬ Q g) {N' : Nat} (h : OwP Z ob Q F N' U) (hN : N' ≤ N + 2) (hF : ∀ g, F g → X.heap.size ≤ g ∧ ¬ P' g) : StepP X b r ob P Q N t k n (.returned (.bool true)) U := by
  obtain ⟨Q', h1, h2, h3⟩ := h
  have hPQ : ∀ g, P' g → ¬ Q g := fun g p q => by
    rcases hP g p with p | p
    · exact hd g p q
    · have := ho.lt g q; omega
  refine ⟨rfl, ⟨P', Q', S', hp.kp h3 hPQ, h1.mono hN, hP, fun g q => ?_, fun g p q => ?_⟩, (hk.mono fun g _ q => .inl q).then h3 fun g _ q => .inr q⟩
  · rcases h2 g q with q | q | q
    · exact .inl q
    · exact .inr (hF g q).1
    · exact .inr (Nat.le_trans hk.size q)
  · rcases h2 g q with q | q | q
    · exact hPQ g p q
    · exact (hF g q).2 p
    · have := hp.lt g p; omega
end
/-- Which kind a step is of. -/
def PickIs (k : Nat) (kind : Int) : Prop := ∀ Z, Calls Tryz.prog 13 #[.int .i64 kind, .int .i64 5] Z fun e w' => e = .returned (.int .i64 (k : Int)) ∧ w' = Z
theorem heok_raise {S : Rv} {E : List He} (h : HeOk S E) (l : Int) : HeOk (raiseS S l) E := ⟨h.srt, h.pos, h.is, h.all, h.sz⟩
end Go.Proofs.YthihabjegpacaaaGreat

namespace Go.Proofs.YthihabjegpacaaaGreat
open Go.RowKit
set_option linter.unusedVariables false
set_option maxHeartbeats 4000000
set_option maxRecDepth 100000

section
variable {X : World} {b r ob N t k : Nat} {P Q : Nat → Prop} {S : Rv} {kind : Int} {other : Bool} {off : Int} {da : Option Addr} {dn dc : Nat} {fin : Bool} {most : Int} {p : List Int}

theorem step_raise (h : PR X b r P S t k) (ho : OW X ob Q N) (hd : ∀ g, P g → ¬ Q g) (hpk : PickIs 2 kind) :
    Calls Tryz.prog 7 #[ptr b, ptr r, .agg #[.int .i64 kind, .bool other, .int .i64 off, .slice da dn dc, .bool fin, .int .i64 most], ptr ob] X (StepP X b r ob P Q N t k dn) := by
  obtain ⟨X1, hX1⟩ : ∃ X1, X1 = X.alloc (.cells #[.int .i64 kind, .bool other, .int .i64 off, .slice da dn dc, .bool fin, .int .i64 most] 40) := ⟨_, rfl⟩
  have g1 : X.grownBy X1 none := by rw [hX1]; exact grown_alloc _ _
  have bo : Blk X1 X.heap.size #[.int .i64 kind, .bool other, .int .i64 off, .slice da dn dc, .bool fin, .int .i64 most] 40 := by rw [hX1]; exact Blk.new _ _ _
  obtain ⟨M, bk, vh, E, a, c, H, h⟩ := h
  have h1 := h.grown g1
  have o0 : X1.cell? ⟨X.heap.size, 0, none⟩ = some (.int .i64 kind) := bo.cell 0 _ rfl
  have o2 : X1.cell? ⟨X.heap.size, 2, none⟩ = some (.int .i64 off) := bo.cell 2 _ rfl
  have hcode := raise_at h1.ra off
  have pk := hpk X1
  have FIN : Hid (∀ S' Z, PrP X1 b r P S' (t + dn) (k + 1) Z → StepP X b r ob P Q N t k dn (.returned (.bool true)) Z) := fun S' Z hz => (hz.later g1).step ho hd
  have HM : Hid (∀ g, M g → g < X.heap.size) := fun g q => (h.mt g q).1
  have BO := hide bo
  have H1 := hide h1
  clear h hpk ho hd g1 h1 bo
  go_enter Tryz.func7, Tryz.ntmps7
  go_upto_region 1 with fail
  rw [← hX1]
  clear hX1
  go_wp2_with fail
  refine pk.mono ?_
  rintro e w' ⟨rfl, hw'⟩
  subst w'
  clear pk
  go_wp2_with fail
  refine hcode.mono ?_
  rintro e Y ⟨rfl, hA⟩
  obtain ⟨M', hm⟩ := (unhide H1).code hA (heok_raise (unhide H1).he off)
  have bo2 : Blk Y X.heap.size #[.int .i64 kind, .bool other, .int .i64 off, .slice da dn dc, .bool fin, .int .i64 most] 40 := (hA.kp.block _ (unhide BO).lt (fun q => by have := unhide HM _ q; omega)).trans (unhide BO)
  have o2' : Y.cell? ⟨X.heap.size, 2, none⟩ = some (.int .i64 off) := bo2.cell 2 _ rfl
  have hdoc := rraise_any hm.dr off (unhide H1).ok.lm
  have PM := hide hm
  clear hA bo2 hm hcode
  go_wp2_with fail
  refine hdoc.mono ?_
  rintro e Z ⟨rfl, d, gz⟩
  have hst := stb_raise (unhide H1).ok off
  have E1 := unhide FIN _ _ ((unhide PM).doc d gz (nwh_refl _ _ _) hst.ok (Nat.le_trans (unhide H1).nE (by omega)) (Nat.le_trans (unhide H1).nH (by omega)) (Nat.le_trans hst.len (by have := (unhide H1).nK; omega)) ((hst.few _ (unhide H1).few).mono (by omega)))
  have HE := hide E1
  clear E1 d gz hdoc PM FIN hst
  go_wp2_with fail
  all_goals (try simp only [Exit.inBlock, Exit.then])
  all_goals go_ret
  all_goals exact unhide HE

theorem step_reset (h : PR X b r P S t k) (ho : OW X ob Q N) (hd : ∀ g, P g → ¬ Q g) (hpk : PickIs 3 kind) :
    Calls Tryz.prog 7 #[ptr b, ptr r, .agg #[.int .i64 kind, .bool other, .int .i64 off, .slice da dn dc, .bool fin, .int .i64 most], ptr ob] X (StepP X b r ob P Q N t k dn) := by
  obtain ⟨X1, hX1⟩ : ∃ X1, X1 = X.alloc (.cells #[.int .i64 kind, .bool other, .int .i64 off, .slice da dn dc, .bool fin, .int .i64 most] 40) := ⟨_, rfl⟩
  have g1 : X.grownBy X1 none := by rw [hX1]; exact grown_alloc _ _
  have bo : Blk X1 X.heap.size #[.int .i64 kind, .bool other, .int .i64 off, .slice da dn dc, .bool fin, .int .i64 most] 40 := by rw [hX1]; exact Blk.new _ _ _
  obtain ⟨M, bk, vh, E, a, c, H, h⟩ := h
  have h1 := h.grown g1
  have o0 : X1.cell? ⟨X.heap.size, 0, none⟩ = some (.int .i64 kind) := bo.cell 0 _ rfl
  have o2 : X1.cell? ⟨X.heap.size, 2, none⟩ = some (.int .i64 off) := bo.cell 2 _ rfl
  have hcode := reset_at h1.ra h1.ok h1.he off
  have pk := hpk X1
  have FIN : Hid (∀ S' Z, PrP X1 b r P S' (t + dn) (k + 1) Z → StepP X b r ob P Q N t k dn (.returned (.bool true)) Z) := fun S' Z hz => (hz.later g1).step ho hd
  have HM : Hid (∀ g, M g → g < X.heap.size) := fun g q => (h.mt g q).1
  have BO := hide bo
  have H1 := hide h1
  clear h hpk ho hd g1 h1 bo
  go_enter Tryz.func7, Tryz.ntmps7
  go_upto_region 1 with fail
  rw [← hX1]
  clear hX1
  go_wp2_with fail
  refine pk.mono ?_
  rintro e w' ⟨rfl, hw'⟩
  subst w'
  clear pk
  go_wp2_with fail
  refine hcode.mono ?_
  rintro e Y ⟨rfl, bk', vh', E', hA, hE', lE⟩
  obtain ⟨M', hm⟩ := (unhide H1).code hA hE'
  have bo2 : Blk Y X.heap.size #[.int .i64 kind, .bool other, .int .i64 off, .slice da dn dc, .bool fin, .int .i64 most] 40 := (hA.kp.block _ (unhide BO).lt (fun q => by have := unhide HM _ q; omega)).trans (unhide BO)
  have o2' : Y.cell? ⟨X.heap.size, 2, none⟩ = some (.int .i64 off) := bo2.cell 2 _ rfl
  have hdoc := rbreak_any hm.dr (unhide H1).ok off
  have PM := hide hm
  have LE := hide lE
  have hst := stb_reset (unhide H1).ok off
  have ST := hide hst
  clear hA bo2 hm hcode hE' lE hst
  generalize resetN S off = rn at hdoc ST ⊢
  generalize resetE S off = re at hdoc ST ⊢
  go_wp2_with fail
  refine hdoc.mono ?_
  rintro e Z ⟨rfl, a', c', H', d, gz, lH, nw⟩
  have hst := unhide ST
  have E1 := unhide FIN _ _ ((unhide PM).doc d gz nw hst.ok (by have := unhide LE; have := (unhide H1).nE; omega) (by have := (unhide H1).nH; omega) (Nat.le_trans hst.len (by have := (unhide H1).nK; omega)) ((hst.few _ (unhide H1).few).mono (by omega)))
  have HE := hide E1
  clear E1 d gz lH nw hdoc PM FIN hst ST
  go_wp2_with fail
  all_goals (try simp only [Exit.inBlock, Exit.then])
  all_goals go_ret
  all_goals exact unhide HE
end
end Go.Proofs.YthihabjegpacaaaGreat

namespace Go.Proofs.YthihabjegpacaaaGreat
open Go.RowKit
set_option linter.unusedVariables false
set_option maxHeartbeats 4000000
set_option maxRecDepth 100000

section
variable {X : World} {b r ob N t k : Nat} {P Q : Nat → Prop} {S : Rv} {kind : Int} {other : Bool} {off : Int} {da : Option Addr} {dn dc : Nat} {fin : Bool} {most : Int} {p : List Int}

theorem step_take (h : PR X b r P S t k) (ho : OW X ob Q N) (hd : ∀ g, P g → ¬ Q g) (ht : t ≤ 50000000) (hk : k ≤ 50000000) (hpk : PickIs 0 kind) (hp : Rd X da p) (hn : p.length = dn) (hpc : dn ≤ dc ∧ dc ≤ 9223372036854775807) (hnn : dn ≤ 1048576) (hout : p ≠ [] → ∀ pb off, da = some ⟨pb, off, none⟩ → ¬ P pb) :
    Calls Tryz.prog 7 #[ptr b, ptr r, .agg #[.int .i64 kind, .bool other, .int .i64 off, .slice da dn dc, .bool fin, .int .i64 most], ptr ob] X (StepP X b r ob P Q N t k dn) := by
  obtain ⟨X1, hX1⟩ : ∃ X1, X1 = X.alloc (.cells #[.int .i64 kind, .bool other, .int .i64 off, .slice da dn dc, .bool fin, .int .i64 most] 40) := ⟨_, rfl⟩
  have g1 : X.grownBy X1 none := by rw [hX1]; exact grown_alloc _ _
  have bo : Blk X1 X.heap.size #[.int .i64 kind, .bool other, .int .i64 off, .slice da dn dc, .bool fin, .int .i64 most] 40 := by rw [hX1]; exact Blk.new _ _ _
  obtain ⟨M, bk, vh, E, a, c, H, h⟩ := h
  have h1 := h.grown g1
  have o0 : X1.cell? ⟨X.heap.size, 0, none⟩ = some (.int .i64 kind) := bo.cell 0 _ rfl
  have o2 : X1.cell? ⟨X.heap.size, 2, none⟩ = some (.int .i64 off) := bo.cell 2 _ rfl
  have o3 : X1.cell? ⟨X.heap.size, 3, none⟩ = some (.slice da dn dc) := bo.cell 3 _ rfl
  have o4 : X1.cell? ⟨X.heap.size, 4, none⟩ = some (.bool fin) := bo.cell 4 _ rfl
  have rd1 : Rd X1 da p := rd_kept hp (Kp.grown g1 (fun _ => False)) fun _ _ _ _ q => q
  have hlent := lent_any X1 da dn dc p rd1 hn (by omega)
  have pk := hpk X1
  have FIN : Hid (∀ S' Z, PrP X1 b r P S' (t + dn) (k + 1) Z → StepP X b r ob P Q N t k dn (.returned (.bool true)) Z) := fun S' Z hz => (hz.later g1).step ho hd
  have HP : Hid (∀ g, P g → g < X.heap.size) := h.plt
  have LT : Hid (X.heap.size < X1.heap.size ∧ ∀ g, Rm r a H g → g < X1.heap.size) := ⟨bo.lt, h1.dr.ltD⟩
  have PL : Hid (p ≠ [] → ∀ pb off, da = some ⟨pb, off, none⟩ → pb < X.heap.size) := fun hl => rd_lt hp hl
  have BO := hide bo
  have H1 := hide h1
  have R1 := hide rd1
  have HO := hide hout
  have HN := hide hn
  clear h hpk ho hd g1 h1 bo rd1 hp hout hn
  go_enter Tryz.func7, Tryz.ntmps7
  go_upto_region 1 with fail
  rw [← hX1]
  clear hX1
  go_wp2_with fail
  refine pk.mono ?_
  rintro e w' ⟨rfl, hw'⟩
  subst w'
  clear pk
  go_wp2_with fail
  refine hlent.mono ?_
  rintro e Y1 ⟨g, rfl, bg, hgx, gY1⟩
  have h2 := (unhide H1).grown gY1
  have nMg : ¬ M g := fun q => by have := ((unhide H1).mt g q).1; omega
  have rdg : Rd Y1 (some ⟨g, 0, none⟩) p := rd_lent bg (unhide R1).1
  have hcode := take_at h2.ra h2.ok h2.he (by have := h2.nE; omega) (by have := h2.nK; omega) off (some ⟨g, 0, none⟩) dn (dn + 8) fin p rdg (fun _ pb off e => by cases e; exact ⟨nMg, bg.lt⟩) (unhide HN) ⟨by omega, by omega⟩ (by omega)
  have BO1 := hide ((unhide BO).grown gY1)
  obtain ⟨o2, o4⟩ : Y1.cell? ⟨X.heap.size, 2, none⟩ = some (.int .i64 off) ∧ Y1.cell? ⟨X.heap.size, 4, none⟩ = some (.bool fin) := ⟨(unhide BO1).cell 2 _ rfl, (unhide BO1).cell 4 _ rfl⟩
  have BG := hide bg
  have H2 := hide h2
  have GX := hide hgx
  have GY1 := hide gY1
  clear hlent bg hgx gY1 h2 rdg nMg o0
  go_wp2_with fail
  refine hcode.mono ?_
  rintro e Y2 ⟨rfl, vh', E', hA, hE', lE⟩
  obtain ⟨M', hm⟩ := (unhide H2).code hA hE'
  have hP2 := unhide HP
  have hX1 := unhide LT
  have gx := unhide GX
  have nM : ∀ k, M k → k < X.heap.size := fun k q => hP2 k (((unhide H1).p k).2 (.inl q))
  have nP : ¬ P g := fun q => by have := hP2 g q; omega
  have kk := hA.kp
  have gs1 := (unhide GY1).size
  have bo1 := unhide BO1
  have bo2 : Blk Y2 X.heap.size #[.int .i64 kind, .bool other, .int .i64 off, .slice da dn dc, .bool fin, .int .i64 most] 40 := (kk.block _ bo1.lt (fun q => by have := nM _ q; omega)).trans bo1
  have bg2 : Blk Y2 g (by8 (p ++ List.replicate 8 201)) 5 := (kk.block _ (unhide BG).lt (fun q => by have := nM _ q; omega)).trans (unhide BG)
  have o3' : Y2.cell? ⟨X.heap.size, 3, none⟩ = some (.slice da dn dc) := bo2.cell 3 _ rfl
  have rd1 : Rd Y1 da p := rd_kept (unhide R1) (Kp.grown (unhide GY1) (fun _ => False)) fun _ _ _ _ q => q
  have rd2 : Rd Y2 da p := rd_kept rd1 kk fun hl pb off e q => unhide HO hl pb off e (((unhide H1).p pb).2 (.inl q))
  have hback := back_any Y2 g da dn dc p bg2 rd2 (fun pb off e hl q => by have := unhide PL hl pb off e; omega) (unhide HN) (by omega)
  have BO2 := hide bo2
  have R2 := hide rd2
  have HNM : Hid (∀ k, M' k → k ≠ g) := fun k q e => by
    subst e
    rcases hm.pM k q with q | q
    · exact nP q
    · have := (unhide BG).lt; omega
  have PM := hide (hm.later (unhide GY1) hX1.2)
  have SZ : Hid (X.heap.size < Y2.heap.size) := by have := kk.size; show X.heap.size < Y2.heap.size; omega
  have HXL : Hid (X.heap.size < X1.heap.size ∧ X1.heap.size ≤ g) := ⟨hX1.1, gx⟩
  have OK := hide (unhide H2).ok
  have LE := hide lE
  clear hcode hA hE' lE hm hP2 hX1 gx nM nP kk gs1 bo1 bo2 bg2 rd1 rd2 H2 GX o2 o4 BO1
  go_wp2_with fail
  refine hback.mono ?_
  rintro e Y3 ⟨rfl, g3⟩
  have hm := (unhide PM).past (Z := Y3) (D := fun k => k = g) (Kp.grownS g3 rfl) (fun k q e => unhide HNM k q e) (fun k e => by rw [e]; exact (unhide HXL).2)
  have hxl := unhide HXL
  have bo3 := (unhide BO2).far g3 (by omega)
  have o2'' : Y3.cell? ⟨X.heap.size, 2, none⟩ = some (.int .i64 off) := bo3.cell 2 _ rfl
  have o3'' : Y3.cell? ⟨X.heap.size, 3, none⟩ = some (.slice da dn dc) := bo3.cell 3 _ rfl
  have o4'' : Y3.cell? ⟨X.heap.size, 4, none⟩ = some (.bool fin) := bo3.cell 4 _ rfl
  have rd3 : Rd Y3 da p := rd_kept (unhide R2) (Kp.grownS (S := fun k => k = g) g3 rfl) fun hl pb off e q => by have := unhide PL hl pb off e; omega
  have hdoc := rtake_any hm.dr (unhide OK) off da dn dc fin p rd3 (fun hl pb off e q => unhide HO hl pb off e ((unhide PM).pR pb (.inl q))) (unhide HN) (by omega) (by have := (unhide H1).nH; omega)
  have PM3 := hide hm
  have hst := stb_take (unhide OK) off p fin (unhide R1).1
  rw [unhide HN] at hst
  have ST := hide hst
  clear hback g3 hm hxl bo3 rd3 o3' PM hst
  generalize takeN S off dn fin = tn at hdoc ST ⊢
  generalize takeE S off dn fin = te at hdoc ST ⊢
  go_wp2_with fail
  refine hdoc.mono ?_
  rintro e Z ⟨rfl, a', c', H', d, gz, lH, nw⟩
  have hst := unhide ST
  have E1 := unhide FIN _ _ ((unhide PM3).doc d gz nw hst.ok (by have := unhide LE; have := (unhide H1).nE; omega) (by have := (unhide H1).nH; omega) (Nat.le_trans hst.len (by have := (unhide H1).nK; omega)) (hst.few _ (unhide H1).few))
  have HE := hide E1
  clear E1 d gz lH nw hdoc PM3 FIN hst ST
  go_wp2_with fail
  all_goals (try simp only [Exit.inBlock, Exit.then])
  all_goals go_ret
  all_goals exact unhide HE
end
end Go.Proofs.YthihabjegpacaaaGreat

namespace Go.Proofs.YthihabjegpacaaaGreat
open Go.RowKit
set_option linter.unusedVariables false
set_option maxHeartbeats 4000000
set_option maxRecDepth 100000

section
variable {X : World} {b r ob N t k : Nat} {P Q : Nat → Prop} {S : Rv} {kind : Int} {other : Bool} {off : Int} {da : Option Addr} {dn dc : Nat} {fin : Bool} {most : Int} {p : List Int}

theorem step_read (h : PR X b r P S t k) (ho : OW X ob Q N) (hd : ∀ g, P g → ¬ Q g) (ht : t ≤ 50000000) (hN : N + 2 ≤ 100000000) (hpk : PickIs 1 kind) (hmm : -9223372036854775808 ≤ most ∧ most ≤ 9223372036854775807) :
    Calls Tryz.prog 7 #[ptr b, ptr r, .agg #[.int .i64 kind, .bool other, .int .i64 off, .slice da dn dc, .bool fin, .int .i64 most], ptr ob] X (StepP X b r ob P Q N t k dn) := by
  obtain ⟨X1, hX1⟩ : ∃ X1, X1 = X.alloc (.cells #[.int .i64 kind, .bool other, .int .i64 off, .slice da dn dc, .bool fin, .int .i64 most] 40) := ⟨_, rfl⟩
  have g1 : X.grownBy X1 none := by rw [hX1]; exact grown_alloc _ _
  have bo : Blk X1 X.heap.size #[.int .i64 kind, .bool other, .int .i64 off, .slice da dn dc, .bool fin, .int .i64 most] 40 := by rw [hX1]; exact Blk.new _ _ _
  obtain ⟨M, bk, vh, E, a, c, H, h⟩ := h
  have h1 := h.grown g1
  have o0 : X1.cell? ⟨X.heap.size, 0, none⟩ = some (.int .i64 kind) := bo.cell 0 _ rfl
  have o5 : X1.cell? ⟨X.heap.size, 5, none⟩ = some (.int .i64 most) := bo.cell 5 _ rfl
  have hcode := read_at h1.ra h1.ok h1.he (by have := h1.nE; omega) most hmm (fun n q => by have := h1.few.row q; omega)
  have pk := hpk X1
  have ho1 := ho.kp (Kp.grown g1 (fun _ => False)) (fun _ _ q => q)
  have HO1 := hide ho1
  have HD := hide hd
  have G1 := hide g1
  have HM : Hid (∀ g, M g → g < X.heap.size) := fun g q => (h.mt g q).1
  have HP : Hid (∀ g, P g → g < X.heap.size) := h.plt
  have BO := hide bo
  have H1 := hide h1
  clear h hpk ho hd g1 h1 bo ho1
  go_enter Tryz.func7, Tryz.ntmps7
  go_upto_region 1 with fail
  rw [← hX1]
  clear hX1
  go_wp2_with fail
  refine pk.mono ?_
  rintro e w' ⟨rfl, hw'⟩
  subst w'
  clear pk
  go_wp2_with fail
  refine hcode.mono ?_
  rintro e Y ⟨n, g, rfl, hR⟩
  obtain ⟨W1, vh', E', gW1, gx, gw, hA0, hE', lE⟩ := hR.ra
  have hA : RA W1 M b bk vh' E' Y (readS S n) := hA0.wide fun g q => q.1.resolve_right (by have := q.2; omega)
  have h2 := (unhide H1).grown gW1
  obtain ⟨M', hm⟩ := h2.code hA hE'
  have bo1 := (unhide BO).grown gW1
  have bo2 : Blk Y X.heap.size #[.int .i64 kind, .bool other, .int .i64 off, .slice da dn dc, .bool fin, .int .i64 most] 40 := (hA.kp.block _ bo1.lt (fun q => by have := unhide HM _ q; omega)).trans bo1
  have o5' : Y.cell? ⟨X.heap.size, 5, none⟩ = some (.int .i64 most) := bo2.cell 5 _ rfl
  have hdoc := rdo_any hm.dr (unhide H1).ok most hmm (by have := (unhide H1).nH; omega)
  have hrow := hR.row
  have PM := hide hm
  have BY := hide hR.blk
  have LE := hide lE
  have GW := hide (And.intro gx gw)
  have GW1 := hide gW1
  have ROW := hide hrow
  have YW := hide hm.kp.size
  have hst := stb_read (unhide H1).ok hrow
  have ST := hide hst
  have NB := hide (And.intro (bytesT_isB (unhide H1).ok hrow) (And.intro ((unhide H1).few.row hrow) (bytesT_len S n)))
  clear hcode hA0 hA hR hE' lE gx gw gW1 h2 hm bo1 bo2 o0 o5 hrow hst
  generalize hen : (readS S n).ended = en at *
  replace hen := hide hen
  go_wp2_with fail
  refine hdoc.mono ?_
  rintro e Z ⟨m, v2, rfl, hD⟩
  obtain ⟨d1, d2, ⟨a', c', H', d, lH, nw⟩, gz⟩ := hD
  obtain rfl := row_uniq (unhide ROW) d1
  have hen' := unhide hen
  rw [hen']
  have hst := unhide ST
  have hpp := (unhide PM).doc (t := t + dn) (k := k + 1) d gz nw hst.ok (by have := unhide LE; have := (unhide H1).nE; omega) (by have := (unhide H1).nH; omega) (Nat.le_trans hst.len (by have := (unhide H1).nK; omega)) ((hst.few _ (unhide H1).few).mono (by omega))
  obtain ⟨P', hp, hsub, hk⟩ := hpp
  obtain ⟨gx, gw⟩ := unhide GW
  have gW1 := unhide GW1
  have hXW : Kp P X1 Z := (Kp.grown gW1 P).trans hk
  have ho2 := (unhide HO1).kp hXW (fun g q p => unhide HD g p q)
  obtain ⟨a2, n2, c2, rfl⟩ : ∃ a n c, v2 = .slice a n c := let ⟨a, c, ev, _⟩ := d2.rowV.at; ⟨a, _, c, ev⟩
  obtain ⟨nb1, nb2, nb3⟩ := unhide NB
  have yw := unhide YW
  have by1 := unhide BY
  have rdl := (unhide PM).dr.blk.lt
  have bg : Blk Z g (by8 (bytesT S n)) 5 := (gz.block g by1.lt (fun e => by
    have := (unhide PM).rl r (.inl rfl)
    have q : g = r := by injection e
    have := unhide HP r ((unhide PM).pR r (.inl rfl))
    have := (unhide G1).size
    omega)).trans by1
  have rv := blk_rowV bg (by omega)
  rw [nb3] at rv
  have f2 : ∀ g, (Value.slice a2 n2 c2).ownBlock = some g → Y.heap.size ≤ g := fun g q => (d2.own q).1
  have lo := (unhide HO1).lt
  have hby := ho2.bytes hN rv d2.rowV nb1 (by omega) (fun j q z => by have := lo j z; have e : g = j := (by simpa [Value.ownBlock] using q); omega) (fun j q z => by have := lo j z; have := f2 j q; omega)
  have hF : ∀ j, (Value.slice (some ⟨g, 0, none⟩) n n).ownBlock = some j → X1.heap.size ≤ j ∧ ¬ P' j := fun j q => by
    cases q
    refine ⟨gx, fun z => ?_⟩
    rcases hsub g z with z | z
    · have := unhide HP g z; have := (unhide BO).lt; omega
    · omega
  have FIN : Hid (∀ U, OwP Z ob Q (fun j => (Value.slice (some ⟨g, 0, none⟩) n n).ownBlock = some j) (N + 2) U → StepP X b r ob P Q N t k dn (.returned (.bool true)) U) := fun U hu =>
    (OwP.step hp (fun j q => (hsub j q).imp id fun e => Nat.le_trans gW1.size e) hXW (unhide HO1) (unhide HD) hu (Nat.le_refl _) hF).later (unhide G1)
  clear hdoc d1 d2 d lH nw gz hp hsub hk gx gw gW1 hXW ho2 nb1 nb2 nb3 yw by1 rdl bg rv f2 lo hF hst hen' hen o5'
  go_wp2_with fail
  refine hby.mono ?_
  rintro e U ⟨rfl, hu⟩
  have HE := hide (unhide FIN U hu)
  clear hby hu FIN
  go_wp2_with fail
  all_goals (try simp only [Exit.inBlock, Exit.then])
  all_goals go_ret
  all_goals exact unhide HE
end
end Go.Proofs.YthihabjegpacaaaGreat

namespace Go.Proofs.YthihabjegpacaaaGreat
open Go.RowKit
set_option linter.unusedVariables false
set_option maxHeartbeats 4000000
set_option maxRecDepth 100000

section
variable {X : World} {b r ob N t k : Nat} {P Q : Nat → Prop} {S : Rv} {kind : Int} {other : Bool} {off : Int} {da : Option Addr} {dn dc : Nat} {fin : Bool} {most : Int} {p : List Int}

theorem step_view (h : PR X b r P S t k) (ho : OW X ob Q N) (hd : ∀ g, P g → ¬ Q g) (ht : t ≤ 50000000) (hk : k ≤ 50000000) (hN : N + 2 ≤ 100000000) (hpk : PickIs 4 kind) :
    Calls Tryz.prog 7 #[ptr b, ptr r, .agg #[.int .i64 kind, .bool other, .int .i64 off, .slice da dn dc, .bool fin, .int .i64 most], ptr ob] X (StepP X b r ob P Q N t k dn) := by
  obtain ⟨X1, hX1⟩ : ∃ X1, X1 = X.alloc (.cells #[.int .i64 kind, .bool other, .int .i64 off, .slice da dn dc, .bool fin, .int .i64 most] 40) := ⟨_, rfl⟩
  have g1 : X.grownBy X1 none := by rw [hX1]; exact grown_alloc _ _
  have bo : Blk X1 X.heap.size #[.int .i64 kind, .bool other, .int .i64 off, .slice da dn dc, .bool fin, .int .i64 most] 40 := by rw [hX1]; exact Blk.new _ _ _
  obtain ⟨M, bk, vh, E, a, c, H, h⟩ := h
  have h1 := h.grown g1
  have o0 : X1.cell? ⟨X.heap.size, 0, none⟩ = some (.int .i64 kind) := bo.cell 0 _ rfl
  have hcode := view_at h1.ra h1.ok (by have := h1.nK; omega)
  have pk := hpk X1
  have ho1 := ho.kp (Kp.grown g1 (fun _ => False)) (fun _ _ q => q)
  have HO1 := hide ho1
  have HD := hide hd
  have G1 := hide g1
  have H1 := hide h1
  clear h hpk ho hd g1 h1 bo ho1
  go_enter Tryz.func7, Tryz.ntmps7
  go_upto_region 1 with fail
  rw [← hX1]
  clear hX1
  go_wp2_with fail
  refine pk.mono ?_
  rintro e w' ⟨rfl, hw'⟩
  subst w'
  clear pk
  go_wp2_with fail
  refine hcode.mono ?_
  rintro e Y ⟨va, rfl, r1, f1, gv⟩
  obtain ⟨a3, n3, c3, rfl⟩ : ∃ a n c, va = .slice a n c := let ⟨a, c, ev, _⟩ := r1.shape; ⟨a, _, c, ev⟩
  obtain ⟨Y1, hY1⟩ : ∃ Y1, Y1 = Y.alloc (.cells (rviewC S (.slice a3 n3 c3)) 34) := ⟨_, rfl⟩
  have gY1 : Y.grownBy Y1 none := by rw [hY1]; exact grown_alloc _ _
  have bv : Blk Y1 Y.heap.size (rviewC S (.slice a3 n3 c3)) 34 := by rw [hY1]; exact Blk.new _ _ _
  have h2 := (unhide H1).grown (grown_trans gv gY1)
  have hdoc := rview_any h2.dr h2.ok (by have := h2.nH; omega) (by have := h2.nK; omega)
  have H2 := hide h2
  have RR := hide (And.intro r1 f1)
  have GV := hide gv
  have GY1 := hide gY1
  have BV1 := hide bv
  clear hcode r1 f1 gv gY1 bv h2 o0
  unfold rviewC at hY1 ⊢
  go_upto_region 22 with fail
  rw [← hY1]
  replace hY1 := hide hY1
  go_wp2_with fail
  refine hdoc.mono ?_
  rintro e Z ⟨wa, rfl, s1, k1, gw⟩
  obtain ⟨a5, n5, c5, rfl⟩ : ∃ a n c, wa = .slice a n c := let ⟨a, c, ev, _⟩ := s1.shape; ⟨a, _, c, ev⟩
  obtain ⟨Z1, hZ1⟩ : ∃ Z1, Z1 = Z.alloc (.cells (rviewC S (.slice a5 n5 c5)) 34) := ⟨_, rfl⟩
  have gZ1 : Z.grownBy Z1 none := by rw [hZ1]; exact grown_alloc _ _
  have bw : Blk Z1 Z.heap.size (rviewC S (.slice a5 n5 c5)) 34 := by rw [hZ1]; exact Blk.new _ _ _
  obtain ⟨r1, f1⟩ := unhide RR
  have gY := unhide GY1
  have gA := grown_trans gY (grown_trans gw gZ1)
  have gX := grown_trans (unhide GV) gA
  have bv := (unhide BV1).grown (grown_trans gw gZ1)
  have s0 := (unhide GV).size
  have s3 := gY.size
  have s4 := gw.size
  have ho3 := (unhide HO1).kp (Kp.grown gX (fun _ => False)) (fun _ _ q => q)
  have lo := (unhide HO1).lt
  have hvi := ho3.viewed hN (r1.keep gA) (s1.keep gZ1) (by have := (unhide H1).nK; omega) (fun g q z => by have := lo g z; have := f1 g q; omega) (fun g q z => by have := lo g z; have := k1 g q; omega)
  have hpl := (unhide H1).plt
  have hp : PR Z1 b r P S (t + dn) (k + 1) := PR.mono ⟨M, bk, vh, E, a, c, H, (unhide H1).grown gX⟩ (by omega) (by omega)
  have FIN : Hid (∀ U, OwP Z1 ob Q (fun g => (Value.slice a3 n3 c3).ownBlock = some g ∨ (Value.slice a5 n5 c5).ownBlock = some g) (N + 2) U → StepP X b r ob P Q N t k dn (.returned (.bool true)) U) := fun U hu =>
    (OwP.step hp (fun g q => .inl q) (Kp.grown gX P) (unhide HO1) (unhide HD) hu (by omega) (fun g q => by
      have : X1.heap.size ≤ g := by
        rcases q with q | q
        · exact f1 g q
        · have := k1 g q; omega
      exact ⟨this, fun z => by have := hpl g z; omega⟩)).later (unhide G1)
  have bvH := hide bv
  have bwH := hide bw
  clear hdoc s1 k1 gw gZ1 bw r1 f1 gY gA gX bv s0 s3 s4 ho3 lo hpl hp hY1
  unfold rviewC at hZ1 ⊢
  go_upto_region 23 with fail
  rw [← hZ1]
  have bv := unhide bvH
  have bw := unhide bwH
  clear hZ1
  obtain ⟨m0, m1, m2, m3, m4, m5, m6, m7⟩ : Z1.cell? ⟨Y.heap.size, 0, none⟩ = some (.int .i64 S.limit) ∧ Z1.cell? ⟨Y.heap.size, 1, none⟩ = some (.int .i64 S.read) ∧ Z1.cell? ⟨Y.heap.size, 2, none⟩ = some (.int .i64 S.high) ∧ Z1.cell? ⟨Y.heap.size, 3, none⟩ = some (.int .i64 S.final) ∧ Z1.cell? ⟨Y.heap.size, 4, none⟩ = some (.int .i64 (cnt S.K - S.read)) ∧ Z1.cell? ⟨Y.heap.size, 5, none⟩ = some (.slice a3 n3 c3) ∧ Z1.cell? ⟨Y.heap.size, 6, none⟩ = some (.bool S.ended) ∧ Z1.cell? ⟨Y.heap.size, 7, none⟩ = some (.bool S.reset) := ⟨bv.cell 0 _ rfl, bv.cell 1 _ rfl, bv.cell 2 _ rfl, bv.cell 3 _ rfl, bv.cell 4 _ rfl, bv.cell 5 _ rfl, bv.cell 6 _ rfl, bv.cell 7 _ rfl⟩
  obtain ⟨q0, q1, q2, q3, q4, q5, q6, q7⟩ : Z1.cell? ⟨Z.heap.size, 0, none⟩ = some (.int .i64 S.limit) ∧ Z1.cell? ⟨Z.heap.size, 1, none⟩ = some (.int .i64 S.read) ∧ Z1.cell? ⟨Z.heap.size, 2, none⟩ = some (.int .i64 S.high) ∧ Z1.cell? ⟨Z.heap.size, 3, none⟩ = some (.int .i64 S.final) ∧ Z1.cell? ⟨Z.heap.size, 4, none⟩ = some (.int .i64 (cnt S.K - S.read)) ∧ Z1.cell? ⟨Z.heap.size, 5, none⟩ = some (.slice a5 n5 c5) ∧ Z1.cell? ⟨Z.heap.size, 6, none⟩ = some (.bool S.ended) ∧ Z1.cell? ⟨Z.heap.size, 7, none⟩ = some (.bool S.reset) := ⟨bw.cell 0 _ rfl, bw.cell 1 _ rfl, bw.cell 2 _ rfl, bw.cell 3 _ rfl, bw.cell 4 _ rfl, bw.cell 5 _ rfl, bw.cell 6 _ rfl, bw.cell 7 _ rfl⟩
  clear bv bw
  unfold rviewC at hvi
  generalize cnt S.K - S.read = hl at *
  go_wp2_with fail
  refine hvi.mono ?_
  rintro e U ⟨rfl, hu⟩
  have HE := hide (unhide FIN U hu)
  clear hvi hu FIN m0 m1 m2 m3 m4 m5 m6 m7 q0 q1 q2 q3 q4 q5 q6 q7
  go_wp2_with fail
  all_goals (try simp only [Exit.inBlock, Exit.then])
  all_goals go_ret
  all_goals exact unhide HE
end
end Go.Proofs.YthihabjegpacaaaGreat

namespace Go.Proofs.YthihabjegpacaaaGreat
open Go.RowKit
set_option linter.unusedVariables false
set_option maxHeartbeats 1000000
set_option maxRecDepth 100000

theorem pick_is (c : Int) (hc : -9223372036854775808 ≤ c ∧ c ≤ 9223372036854775807) : ∃ k : Nat, k < 5 ∧ PickIs k c := by
  by_cases h : c < 0
  · have d : decide (c < 0) = true := decide_eq_true h
    have w1 : IntKind.i64.wrap (c + 1) = c + 1 := by rw [IntKind.wrap_i64]; omega
    have w2 : IntKind.i64.wrap (-(c + 1)) = -(c + 1) := by rw [IntKind.wrap_i64]; omega
    obtain ⟨m, hm⟩ : ∃ m : Nat, -(c + 1) = (m : Int) := ⟨(-(c + 1)).toNat, by omega⟩
    have ht : Int.tmod (-(c + 1)) 5 = ((m % 5 : Nat) : Int) := by rw [hm, show (5 : Int) = ((5 : Nat) : Int) from rfl, ← Int.ofNat_tmod]
    have HM := hide hm
    clear hm
    have hk : m % 5 < 5 := Nat.mod_lt _ (by omega)
    generalize m % 5 = k at *
    refine ⟨k, hk, fun w => ?_⟩
    go_enter Tryz.func13, Tryz.ntmps13
    go_wp2
    all_goals go_ret
    all_goals exact ⟨by simp [*], rfl⟩
  · have d : decide (c < 0) = false := decide_eq_false h
    obtain ⟨m, hm⟩ : ∃ m : Nat, c = (m : Int) := ⟨c.toNat, by omega⟩
    have ht : Int.tmod c 5 = ((m % 5 : Nat) : Int) := by rw [hm, show (5 : Int) = ((5 : Nat) : Int) from rfl, ← Int.ofNat_tmod]
    have HM := hide hm
    clear hm
    have hk : m % 5 < 5 := Nat.mod_lt _ (by omega)
    generalize m % 5 = k at *
    refine ⟨k, hk, fun w => ?_⟩
    go_enter Tryz.func13, Tryz.ntmps13
    go_wp2
    all_goals go_ret
    all_goals exact ⟨by simp [*], rfl⟩

section
variable {X : World} {b r ob N t k : Nat} {P Q : Nat → Prop} {S : Rv} {kind : Int} {other : Bool} {off : Int} {da : Option Addr} {dn dc : Nat} {fin : Bool} {most : Int} {p : List Int}

theorem step_any (h : PR X b r P S t k) (ho : OW X ob Q N) (hd : ∀ g, P g → ¬ Q g) (hN : N + 2 ≤ 100000000) (ht : t ≤ 50000000) (hk : k ≤ 50000000) (hkd : i64B kind) (hm : i64B most) (hp : Rd X da p) (hn : p.length = dn) (hpc : dn ≤ dc ∧ dc ≤ 9223372036854775807) (hnn : dn ≤ 1048576) (hout : p ≠ [] → ∀ pb off, da = some ⟨pb, off, none⟩ → ¬ P pb) :
    Calls Tryz.prog 7 #[ptr b, ptr r, .agg #[.int .i64 kind, .bool other, .int .i64 off, .slice da dn dc, .bool fin, .int .i64 most], ptr ob] X (StepP X b r ob P Q N t k dn) := by
  obtain ⟨kk, hk5, pk⟩ := pick_is kind hkd
  match kk, hk5, pk with
  | 0, _, pk => exact step_take h ho hd ht hk pk hp hn hpc hnn hout
  | 1, _, pk => exact step_read h ho hd ht hN pk hm
  | 2, _, pk => exact step_raise h ho hd pk
  | 3, _, pk => exact step_reset h ho hd pk
  | 4, _, pk => exact step_view h ho hd ht hk hN pk
  | k + 5, q, _ => omega
end
end Go.Proofs.YthihabjegpacaaaGreat

namespace Go.Proofs.YthihabjegpacaaaGreat
open Go.RowKit
set_option linter.unusedVariables false
set_option maxHeartbeats 1000000
set_option maxRecDepth 100000

/-- A pair, or none. -/
def Sl (X : World) (o : Option (Nat × Nat)) (P : Nat → Prop) (t k : Nat) : Prop := ∀ b r, o = some (b, r) → ∃ S, PR X b r P S t k
theorem Sl.kp {X Y : World} {o : Option (Nat × Nat)} {P D : Nat → Prop} {t k t' k' : Nat} (h : Sl X o P t k) (kk : Kp D X Y) (hd : ∀ g, P g → ¬ D g) (ht : t ≤ t') (hk : k ≤ k') : Sl Y o P t' k' := fun b r e => by
  obtain ⟨S, h1⟩ := h b r e
  exact ⟨S, (h1.kp kk hd).mono ht hk⟩

/-- What is so between two steps; L: blocks that nobody writes. -/
structure WI (w X : World) (L : Nat → Prop) (o1 o2 : Option (Nat × Nat)) (ob N t k : Nat) (P1 P2 Q : Nat → Prop) : Prop where
  s1 : Sl X o1 P1 t k
  s2 : Sl X o2 P2 t k
  ow : OW X ob Q N
  d12 : ∀ g, P1 g → ¬ P2 g
  d1 : ∀ g, P1 g → ¬ Q g
  d2 : ∀ g, P2 g → ¬ Q g
  l1 : ∀ g, P1 g → w.heap.size ≤ g ∧ g < X.heap.size
  l2 : ∀ g, P2 g → w.heap.size ≤ g ∧ g < X.heap.size
  lQ : ∀ g, Q g → w.heap.size ≤ g
  gr : w.grownBy X none
  dL : ∀ g, L g → g < X.heap.size ∧ ¬ P1 g ∧ ¬ P2 g ∧ ¬ Q g
def WJ (w X : World) (L : Nat → Prop) (o1 o2 : Option (Nat × Nat)) (ob N t k : Nat) : Prop := ∃ P1 P2 Q, WI w X L o1 o2 ob N t k P1 P2 Q

section
variable {w X Y : World} {L : Nat → Prop} {o1 o2 : Option (Nat × Nat)} {b r ob N t k : Nat}
theorem WJ.swap (h : WJ w X L o1 o2 ob N t k) : WJ w X L o2 o1 ob N t k := by
  obtain ⟨P1, P2, Q, h⟩ := h
  exact ⟨P2, P1, Q, h.s2, h.s1, h.ow, fun g q p => h.d12 g p q, h.d2, h.d1, h.l2, h.l1, h.lQ, h.gr, fun g q => ⟨(h.dL g q).1, (h.dL g q).2.2.1, (h.dL g q).2.1, (h.dL g q).2.2.2⟩⟩
theorem WJ.gr (h : WJ w X L o1 o2 ob N t k) : w.grownBy X none := by obtain ⟨P1, P2, Q, h⟩ := h; exact h.gr
/-- What is made besides. -/
theorem WJ.made (h : WJ w X L o1 o2 ob N t k) (g : X.grownBy Y none) : WJ w Y (fun j => L j ∨ (X.heap.size ≤ j ∧ j < Y.heap.size)) o1 o2 ob N t k := by
  obtain ⟨P1, P2, Q, h⟩ := h
  have kk := Kp.grown g (fun _ => False)
  refine ⟨P1, P2, Q, h.s1.kp kk (fun _ _ q => q) (Nat.le_refl _) (Nat.le_refl _), h.s2.kp kk (fun _ _ q => q) (Nat.le_refl _) (Nat.le_refl _), h.ow.kp kk (fun _ _ q => q), h.d12, h.d1, h.d2, fun j q => ⟨(h.l1 j q).1, Nat.lt_of_lt_of_le (h.l1 j q).2 g.size⟩, fun j q => ⟨(h.l2 j q).1, Nat.lt_of_lt_of_le (h.l2 j q).2 g.size⟩, h.lQ, grown_trans h.gr g, fun j q => ?_⟩
  rcases q with q | q
  · exact ⟨Nat.lt_of_lt_of_le (h.dL j q).1 g.size, (h.dL j q).2⟩
  · exact ⟨q.2, fun z => by have := (h.l1 j z).2; omega, fun z => by have := (h.l2 j z).2; omega, fun z => by have := h.ow.lt j z; omega⟩
theorem WJ.mono {N' t' k' : Nat} (h : WJ w X L o1 o2 ob N t k) (hn : N ≤ N') (ht : t ≤ t') (hk : k ≤ k') : WJ w X L o1 o2 ob N' t' k' := by
  obtain ⟨P1, P2, Q, h⟩ := h
  have kk := Kp.refl (fun _ => False) X
  exact ⟨P1, P2, Q, h.s1.kp kk (fun _ _ q => q) ht hk, h.s2.kp kk (fun _ _ q => q) ht hk, h.ow.mono hn, h.d12, h.d1, h.d2, h.l1, h.l2, h.lQ, h.gr, h.dL⟩

def StepJ (w X : World) (L : Nat → Prop) (o1 o2 : Option (Nat × Nat)) (ob N t k : Nat) (e : Ending) (Y : World) : Prop := e = .returned (.bool true) ∧ WJ w Y L o1 o2 ob N t k ∧ ∀ g, L g → Y.heap[g]? = X.heap[g]?

/-- A step of the first pair. -/
theorem WJ.step (h : WJ w X L (some (b, r)) o2 ob N t k) (x : OpE) (hx : x.Ok w) (hb : x.dn ≤ 1048576) (ht : t ≤ 50000000) (hk : k ≤ 50000000) (hN : N + 2 ≤ 100000000) :
    Calls Tryz.prog 7 #[ptr b, ptr r, .agg #[.int .i64 x.kind, .bool x.other, .int .i64 x.off, .slice x.da x.dn x.dc, .bool x.fin, .int .i64 x.most], ptr ob] X (StepJ w X L (some (b, r)) o2 ob (N + 2) (t + x.dn) (k + 1)) := by
  obtain ⟨P1, P2, Q, h⟩ := h
  obtain ⟨S, hp⟩ := h.s1 b r rfl
  have rd : Rd X x.da x.p := rd_kept hx.rd (Kp.grown h.gr (fun _ => False)) fun _ _ _ _ q => q
  refine (step_any hp h.ow h.d1 hN ht hk hx.k hx.m rd hx.len hx.cap hb fun hl pb off e q => ?_).mono ?_
  · have := (h.l1 pb q).1
    have := rd_lt hx.rd hl pb off e
    omega
  · rintro e U hu
    obtain ⟨P', Q', S', k1, k2, k3, k4, k5⟩ := hu.ex
    have xs := h.gr.size
    have n2 : ∀ g, P2 g → ¬ (P1 g ∨ Q g) := fun g q z => z.elim (fun z => h.d12 g z q) (fun z => h.d2 g q z)
    refine ⟨hu.e, ⟨P', P2, Q', fun b' r' e => ?_, h.s2.kp hu.kp n2 (by omega) (by omega), k2, fun g q z => ?_, k5, fun g q z => ?_, fun g q => ⟨?_, k1.lt g q⟩, fun g q => ⟨(h.l2 g q).1, Nat.lt_of_lt_of_le (h.l2 g q).2 hu.kp.size⟩, fun g q => ?_, ?_, fun g q => ?_⟩, fun g q => hu.kp.block g (h.dL g q).1 fun z => z.elim (h.dL g q).2.1 (h.dL g q).2.2.2⟩
    · cases e
      exact ⟨S', k1⟩
    · rcases k3 g q with q | q
      · exact h.d12 g q z
      · have := (h.l2 g z).2; omega
    · rcases k4 g z with z | z
      · exact h.d2 g q z
      · have := (h.l2 g q).2; omega
    · rcases k3 g q with q | q
      · exact (h.l1 g q).1
      · omega
    · rcases k4 g q with q | q
      · exact h.lQ g q
      · omega
    · exact ⟨hu.kp.os.trans h.gr.os, hu.kp.tape.trans h.gr.tape, hu.kp.output.trans h.gr.output, Nat.le_trans h.gr.size hu.kp.size, fun g hg _ => (hu.kp.block g (Nat.lt_of_lt_of_le hg h.gr.size) (fun z => by
        rcases z with z | z
        · have := (h.l1 g z).1; omega
        · have := h.lQ g z; omega)).trans (h.gr.block g hg (by simp))⟩
    · obtain ⟨q1, q2, q3, q4⟩ := h.dL g q
      refine ⟨Nat.lt_of_lt_of_le q1 hu.kp.size, fun z => ?_, q3, fun z => ?_⟩
      · rcases k3 g z with z | z
        · exact q2 z
        · omega
      · rcases k4 g z with z | z
        · exact q4 z
        · omega

/-- The owner's last bytes, its last view. -/
theorem WJ.own {F : Nat → Prop} {N' : Nat} {P1 P2 Q : Nat → Prop} (hi : WI w X L o1 o2 ob N t k P1 P2 Q) (hu : OwP X ob Q F N' Y) (hF : ∀ g, ¬ F g) : WJ w Y L o1 o2 ob N' t k ∧ ∀ g, L g → Y.heap[g]? = X.heap[g]? := by
  obtain ⟨Q', k1, k2, k3⟩ := hu
  have k4 : ∀ g, Q' g → Q g ∨ X.heap.size ≤ g := fun g q => by
    rcases k2 g q with q | q | q
    · exact .inl q
    · exact (hF g q).elim
    · exact .inr q
  have xs := hi.gr.size
  refine ⟨⟨P1, P2, Q', hi.s1.kp k3 hi.d1 (Nat.le_refl _) (Nat.le_refl _), hi.s2.kp k3 hi.d2 (Nat.le_refl _) (Nat.le_refl _), k1, hi.d12, fun g q z => ?_, fun g q z => ?_, fun g q => ⟨(hi.l1 g q).1, Nat.lt_of_lt_of_le (hi.l1 g q).2 k3.size⟩, fun g q => ⟨(hi.l2 g q).1, Nat.lt_of_lt_of_le (hi.l2 g q).2 k3.size⟩, fun g q => ?_, ?_, fun g q => ?_⟩, fun g q => k3.block g (hi.dL g q).1 (hi.dL g q).2.2.2⟩
  · rcases k4 g z with z | z
    · exact hi.d1 g q z
    · have := (hi.l1 g q).2; omega
  · rcases k4 g z with z | z
    · exact hi.d2 g q z
    · have := (hi.l2 g q).2; omega
  · rcases k4 g q with q | q
    · exact hi.lQ g q
    · omega
  · exact ⟨k3.os.trans hi.gr.os, k3.tape.trans hi.gr.tape, k3.output.trans hi.gr.output, Nat.le_trans hi.gr.size k3.size, fun g hg _ => (k3.block g (Nat.lt_of_lt_of_le hg hi.gr.size) (fun z => by have := hi.lQ g z; omega)).trans (hi.gr.block g hg (by simp))⟩
  · obtain ⟨q1, q2, q3, q4⟩ := hi.dL g q
    refine ⟨Nat.lt_of_lt_of_le q1 k3.size, q2, q3, fun z => ?_⟩
    rcases k4 g z with z | z
    · exact q4 z
    · omega
theorem WJ.bytes (h : WJ w X L o1 o2 ob N t k) (hN : N + 2 ≤ 100000000) : Calls Tryz.prog 8 #[ptr ob, .slice none 0 0, .slice none 0 0] X (StepJ w X L o1 o2 ob (N + 2) t k) := by
  obtain ⟨P1, P2, Q, hi⟩ := h
  have r0 : RowV 0 5 X (.slice none 0 0) (uV []) := rowV_nil 0 5 X
  refine (hi.ow.bytes hN r0 r0 (fun x hx => (by cases hx)) (Nat.zero_le _) (fun g e => (by cases e)) (fun g e => (by cases e))).mono ?_
  rintro e Y ⟨rfl, hu⟩
  exact ⟨rfl, WJ.own hi hu (fun g e => (by cases e))⟩
abbrev S0 : Rv := ⟨0, 0, 0, 0, [], fun _ => none, false, false⟩
theorem WJ.viewed (h : WJ w X L o1 o2 ob N t k) (hN : N + 2 ≤ 100000000) : Calls Tryz.prog 9 #[ptr ob, .agg #[.int .i64 0, .int .i64 0, .int .i64 0, .int .i64 0, .int .i64 0, .slice none 0 0, .bool false, .bool false], .agg #[.int .i64 0, .int .i64 0, .int .i64 0, .int .i64 0, .int .i64 0, .slice none 0 0, .bool false, .bool false]] X (StepJ w X L o1 o2 ob (N + 2) t k) := by
  obtain ⟨P1, P2, Q, hi⟩ := h
  have r0 : Row X (.slice none 0 0) [] := row_nil X
  refine (hi.ow.viewed (T := S0) hN r0 r0 (Nat.zero_le _) (fun g e => (by cases e)) (fun g e => (by cases e))).mono ?_
  rintro e Y ⟨rfl, hu⟩
  exact ⟨rfl, WJ.own hi hu (fun g e => by rcases e with e | e <;> cases e)⟩
end

/-- The owner as it begins. -/
theorem ow_new (X : World) : OW (X.alloc (.cells #[.slice none 0 0, .slice none 0 0, .string ⟨#[]⟩, .int .i64 0, .int .i64 0, .int .i64 0, .int .i64 0, .int .i64 0, .slice none 0 0, .bool false, .bool false, .int .i64 0, .int .i64 0, .int .i64 0, .int .i64 0, .int .i64 0, .slice none 0 0, .bool false, .bool false] 38)) X.heap.size (fun g => g = X.heap.size) 0 := by
  have r0 : ∀ Y, Row Y (.slice none 0 0) [] := fun Y => row_nil Y
  refine ⟨.slice none 0 0, .slice none 0 0, [], S0, .slice none 0 0, .slice none 0 0, fun _ => False, [], ⟨?_, ⟨rfl, .inl ⟨rfl, rfl⟩⟩, fun e he => (by cases he), Nat.zero_le _, fun g q => q.elim⟩, rowV_nil 0 5 _, fun x hx => (by cases hx), Nat.zero_le _, r0 _, r0 _, Nat.zero_le _, Nat.zero_le _, fun e he => (by cases he), fun g e => (by cases e), fun g e => (by cases e), fun g e => (by cases e), fun g => ?_⟩
  · exact Blk.new _ _ _
  · constructor
    · exact fun e => .inl (.inl e)
    · rintro ((e | e) | e | e | e | e)
      · exact e
      all_goals first | exact e.elim | cases e

/-- A pair as it begins. -/
theorem pr_new {W0 W1 W3 W5 : World} {b bk rb : Nat} {vh : Value} {limit : Int} (hA : RA W0 (fun _ => False) b bk vh [] W1 (newRv limit)) (g15 : W1.grownBy W5 none) (hR : DR W3 rb none 0 (newRv limit) []) (hrb : W1.heap.size ≤ rb) (g35 : W3.grownBy W5 none) (hc : 0 ≤ limit ∧ limit ≤ 4611686018427387903) :
    ∃ P, PR W5 b rb P (newRv limit) 0 0 ∧ ∀ g, P g → (W0.heap.size ≤ g ∧ g < W1.heap.size) ∨ g = rb := by
  obtain ⟨M', r1, r2⟩ := ra_self hA
  refine ⟨fun g => M' g ∨ Rm rb none [] g, ⟨M', bk, vh, [], none, 0, [], r1.keep (Kp.grown g15 (fun _ => False)) (fun _ _ q => q), heok_new limit, hR.grown g35, rvok_new hc, fun g q => ?_, fun g => Iff.rfl, Nat.le_refl _, Nat.le_refl _, Nat.le_refl _, ⟨[], Nat.le_refl _, fun x hx => by cases hx⟩⟩, fun g q => ?_⟩
  · obtain ⟨m1, m2, m3⟩ := r2 g q
    refine ⟨Nat.lt_of_lt_of_le m2 g15.size, fun cur e => m3 cur ?_, fun e => by omega⟩
    rw [g15.block g m2 (by simp)] at e
    exact e
  · rcases q with q | q | q
    · exact .inl ⟨(r2 g q).1.resolve_left id, (r2 g q).2.1⟩
    · exact .inr q
    · exact absurd rfl q.1
end Go.Proofs.YthihabjegpacaaaGreat

namespace Go.Proofs.YthihabjegpacaaaGreat
set_option maxRecDepth 100000
set_option linter.unusedVariables false

theorem tot_le (ol : List OpE) : ∀ {j k : Nat}, j ≤ k → tot ol j ≤ tot ol k := fun {j k} h => by
  induction h with
  | refl => exact Int.le_refl _
  | step h ih => simp only [tot]; omega
def xV : OpE := ⟨4, false, 0, none, 0, 0, false, 0, []⟩
def xN : OpE := ⟨1, false, 0, none, 0, 0, false, 1099511627776, []⟩
theorem xV_ok (w : World) : xV.Ok w := ⟨by decide, by decide, by decide, rfl, by decide, by decide, ⟨fun x hx => (by cases hx), fun q => absurd rfl q⟩⟩
theorem xN_ok (w : World) : xN.Ok w := ⟨by decide, by decide, by decide, rfl, by decide, by decide, ⟨fun x hx => (by cases hx), fun q => absurd rfl q⟩⟩
end Go.Proofs.YthihabjegpacaaaGreat
