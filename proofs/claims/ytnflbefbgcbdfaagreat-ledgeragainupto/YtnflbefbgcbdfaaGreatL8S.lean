/- L4E, L4F, L4G, one text. -/
import Derived.Test.YtnflbefbgcbdfaaGreatL8R
namespace Go.Proofs.YtnflbefbgcbdfaaGreat
open Go.RowKit
set_option linter.unusedVariables false
set_option linter.unusedSimpArgs false
set_option maxRecDepth 100000
set_option maxHeartbeats 2000000

theorem grown_kp {w0 W Z : World} {g bo n0 : Nat} (h : w0.grownBy W (some g)) (k : Kp (fun x => x = g ∨ x = bo) W Z) (h1 : w0.heap.size ≤ n0) (h2 : n0 ≤ bo) : w0.grownBy Z (some g) :=
  ⟨k.os.trans h.os, k.tape.trans h.tape, k.output.trans h.output, Nat.le_trans h.size k.size, fun x hx hn => (k.block x (Nat.lt_of_lt_of_le hx h.size) (fun e => e.elim (fun e => hn (by rw [e])) (fun e => by omega))).trans (h.block x hx hn)⟩

/-- Between two rounds. -/
structure DJ (n0 : Nat) (R : Nat → Prop) (M : Int → Bool) (W : World) (g c bo : Nat) (ps : List (St × Value)) (j : Nat) (K : List (St × Value)) (v : Value) (Ro : Nat → Prop) (wr : World) : Prop where
  di : DI R M wr g c ps j K
  to_ : TO n0 wr bo v Ro (((ps.take j).map Prod.fst).filter (fun s => M s.nu))
  kp : Kp (fun x => x = g ∨ x = bo) W wr
  ow : ∀ x, v.ownBlock = some x → W.heap.size ≤ x
section
variable {n0 : Nat} {R : Nat → Prop} {M : Int → Bool} {W : World} {g c bo : Nat} {ps : List (St × Value)} {j : Nat} {K : List (St × Value)} {v : Value} {Ro : Nat → Prop} {wr : World}
theorem outs_yes {p : St × Value} (hp : ps[j]? = some p) (hm : M p.1.nu = true) : ((ps.take (j + 1)).map Prod.fst).filter (fun s => M s.nu) = ((ps.take j).map Prod.fst).filter (fun s => M s.nu) ++ [p.1] := by
  rw [take_at hp, List.map_append, List.filter_append]; simp [hm]
theorem outs_no {p : St × Value} (hp : ps[j]? = some p) (hm : M p.1.nu = false) : ((ps.take (j + 1)).map Prod.fst).filter (fun s => M s.nu) = ((ps.take j).map Prod.fst).filter (fun s => M s.nu) := by
  rw [take_at hp, List.map_append, List.filter_append]; simp [hm]
/-- A packet was taken out. -/
theorem DJ.yes {p : St × Value} {Z W2 : World} {v2 : Value} {Ro2 : Nat → Prop} (h : DJ n0 R M W g c bo ps j K v Ro wr) (hp : ps[j]? = some p) (hm : M p.1.nu = true) (gZ : wr.grownBy Z none) (ht : TO n0 W2 bo v2 Ro2 (((ps.take j).map Prod.fst).filter (fun s => M s.nu) ++ [p.1])) (hk : KT Z W2 bo v) (ho : v2.ownBlock = v.ownBlock ∨ ∀ x, v2.ownBlock = some x → Z.heap.size ≤ x) (hg : g < n0) (hR : ∀ b, R b → b < n0) (hw : n0 ≤ W.heap.size) :
    DJ n0 R M W g c bo ps (j + 1) K v2 Ro2 W2 := by
  have s1 := h.kp.size
  have s2 := gZ.size
  have lo := h.to_.lo
  have key : ∀ x, x < n0 → W2.heap[x]? = wr.heap[x]? := fun x hx => (hk.block x (by omega) (fun e => by
    rcases e with e | e
    · omega
    · have := h.ow x e; omega)).trans (gZ.block x (by omega) (by simp))
  refine ⟨(h.di.kept (key g hg) (fun b hb => key b (hR b hb))).skip hp hm, by rw [outs_yes hp hm]; exact ht, ⟨hk.os.trans (gZ.os.trans h.kp.os), hk.tape.trans (gZ.tape.trans h.kp.tape), hk.output.trans (gZ.output.trans h.kp.output), by have := hk.size; omega, fun x hx hn => ?_⟩, fun x e => ?_⟩
  · refine (hk.block x (by omega) (fun e => ?_)).trans ((gZ.block x (by omega) (by simp)).trans (h.kp.block x hx hn))
    rcases e with e | e
    · exact hn (.inr e)
    · have := h.ow x e; omega
  · rcases ho with q | q
    · rw [q] at e; exact h.ow x e
    · have := q x e; omega
/-- A packet was left. -/
theorem DJ.no {p : St × Value} {Z : World} (h : DJ n0 R M W g c bo ps j K v Ro wr) (hp : ps[j]? = some p) (hm : M p.1.nu = false) (gZ : wr.grownBy Z none) (hg : g < n0) (hr : ¬ R g) (hR : ∀ b, R b → b < n0) (hw : n0 ≤ W.heap.size) :
    ∃ X C Y : List Value, Blk Z g (X ++ (C ++ Y)).toArray 46 ∧ K.length * 8 = X.length ∧ C.length = 8 ∧ DJ n0 R M W g c bo ps (j + 1) (K ++ [p]) v Ro (Z.setRow g (X ++ ((p.1.cs p.2).toList ++ Y)).toArray) := by
  have s1 := h.kp.size
  have s2 := gZ.size
  have lo := h.to_.lo
  have hd : DI R M Z g c ps j K := h.di.kept (gZ.block g (by omega) (by simp)) (fun b hb => gZ.block b (by have := hR b hb; omega) (by simp))
  obtain ⟨X, C, Y, h1, h2, h3, h4⟩ := hd.put hp hm hr
  refine ⟨X, C, Y, h1, h2, h3, h4, ?_, ?_, h.ow⟩
  · rw [outs_no hp hm]
    refine (h.to_.grown gZ).kept (Kp.grownS (grown_setRow Z g _) (S := fun x => x = g) rfl) ?_
    rintro x rfl
    exact ⟨fun e => by have := (h.to_.rg x e).1; omega, by omega, fun e => by have := h.ow x e; omega⟩
  · refine Kp.trans h.kp (Kp.trans (Kp.grown gZ _) (Kp.grownS (grown_setRow Z g _) (.inl rfl)))
end

/-- What lies in the slots between two rounds. -/
def DJR (n0 : Nat) (R : Nat → Prop) (M : Int → Bool) (W : World) (g c bo : Nat) (ps : List (St × Value)) (n : Nat) (iv jv : Value) (wr : World) : Prop :=
  ∃ (j : Nat) (K : List (St × Value)) (v : Value) (Ro : Nat → Prop), j ≤ n ∧ K.length < j ∧ iv = .int .i64 K.length ∧ jv = .int .i64 j ∧ Hid (DJ n0 R M W g c bo ps j K v Ro wr)

/-- What DeleteFunc leaves. -/
def DelP (n0 : Nat) (R : Nat → Prop) (M : Int → Bool) (W : World) (g c bo : Nat) (ks : List St) (e : Ending) (W' : World) : Prop :=
  e = .returned (.slice (some ⟨g, 0, none⟩) (ks.filter (fun s => !M s.nu)).length c) ∧ KvAt R W' (.slice (some ⟨g, 0, none⟩) (ks.filter (fun s => !M s.nu)).length c) (ks.filter (fun s => !M s.nu)) ∧ (∃ v Ro, TO n0 W' bo v Ro (ks.filter (fun s => M s.nu))) ∧ Kp (fun x => x = g ∨ x = bo) W W'

theorem Tryz.sizeSe : (Tryz.prog.info? 46).map (·.size) = some 8 := by kernel_rfl
theorem zeroSe (w : World) : (zeroValue 46).run Tryz.prog w = .ok (.agg #[.int .i64 0, .int .i64 0, .int .i64 0, .bool false, .bool false, .bool false, .int .i64 0, .slice none 0 0]) w := by
  obtain ⟨i, hi, hz0, hz1, hz2⟩ := info_parts Tryz.infoSe
  simp [zeroValue, typeInfo, hi, hz0]

theorem del_any (n0 bm bo g c : Nat) (w0 : World) (f : FuncId) (pre cb : Array Value) (M : Int → Bool) (ks : List St) (R : Nat → Prop) (W : World) (Ro : Nat → Prop)
    (hM : Mn w0 (some g) f pre cb M) (gW : w0.grownBy W (some g)) (hm : Blk W bm #[.func (.func f) pre cb] 105) (hk : KvAt R W (.slice (some ⟨g, 0, none⟩) ks.length c) ks) (h : TO n0 W bo (.slice none 0 0) Ro []) (hn : ks.length ≤ 1100000)
    (hg : g < n0) (hr : ¬ R g) (hR : ∀ b, R b → b < n0) (hw : n0 ≤ W.heap.size) (h0 : w0.heap.size ≤ n0) (hbm : bm ≠ bo ∧ bm ≠ g) :
    Calls Tryz.prog 72 #[.slice (some ⟨g, 0, none⟩) ks.length c, .func (.func 73) #[] #[.pointer (some ⟨bm, 0, none⟩), .pointer (some ⟨bo, 0, none⟩)]] W fun e W' => DelP n0 R M W g c bo ks e W' := by
  have hix := idx_any n0 bm bo g c w0 f pre cb M ks R W (.slice none 0 0) Ro hM gW (hm.cell 0 _ rfl) hk h hn
  obtain ⟨hcm, hcn⟩ : c ≤ maxLen ∧ ks.length ≤ c := by
    obtain ⟨fvs, -, e2, -⟩ := hk
    rcases e2.2 with ⟨q, -⟩ | ⟨g', c', cur, q1, q2, q3, q4, q5, -⟩
    · cases q
    · injection q1 with q1 q1b q1c
      subst q1c
      exact ⟨q5, q4⟩
  obtain ⟨n, hnn⟩ : ∃ n, n = ks.length := ⟨_, rfl⟩
  have HM := hide hM
  have GW := hide gW
  have HK := hide hk
  have HT := hide h
  have HB := hide hm
  have SD := hide (And.intro hg (And.intro hr (And.intro hR (And.intro hw (And.intro h0 hbm)))))
  have lenI : ¬ (9223372036854775807 : Int) < (n : Int) := by omega
  rw [← hnn] at hix ⊢
  clear hM gW hk h hm hg hr hR hw h0 hbm
  have HN := hide hnn
  rw [← hnn] at hcn hn
  clear hnn
  have CN := hide (And.intro hcm (And.intro hcn hn))
  go_enter Tryz.func72, Tryz.ntmps72
  go_upto_region 1 with fail
  clear hcm hcn hn
  go_upto_region 2 with (refine hix.mono ?_)
  intro e X hP
  clear hix
  rcases hP with ⟨rfl, hno, gX⟩ | ⟨k, s, rfl, hs, hp, hall, v2, Ro2, t2, k2, o2⟩
  · have FIN := hide (And.intro hno gX)
    clear hno gX
    go_wp2
    all_goals go_ret
    all_goals
      obtain ⟨hno, gX⟩ := unhide FIN
      have e1 : ks.filter (fun s => !M s.nu) = ks := List.filter_eq_self.2 (fun s hs => by simp [hno s hs])
      have e2 : ks.filter (fun s => M s.nu) = [] := List.filter_eq_nil_iff.2 (fun s hs => by simp [hno s hs])
      unfold DelP
      rw [e1, e2, unhide HN]
      exact ⟨rfl, (unhide HK).grown gX, ⟨_, _, (unhide HT).grown gX⟩, Kp.grown gX _⟩
  · obtain ⟨hg, hr, hR, hw, h0, hbm⟩ := unhide SD
    have lo := (unhide HT).lo
    have keyX : ∀ x, x < n0 → X.heap[x]? = W.heap[x]? := fun x hx => k2.block x (by omega) (fun e => by
      rcases e with e | e
      · omega
      · cases e)
    have kX := (unhide HK).kept (fun b hb => keyX b (hR b hb)) (fun x e => by cases e; exact keyX _ hg)
    obtain ⟨ps, K0, eps, hK0, hD0⟩ := DI.start kX hs hall hp
    have lps : ps.length = n := by rw [unhide HN, ← eps, List.length_map]
    have hks : k < n := by rw [unhide HN]; exact (List.getElem?_eq_some_iff.1 hs).1
    have I0 : Hid (DJ n0 R M W g c bo ps (k + 1) K0 v2 Ro2 X) := by
      refine ⟨hD0, ?_, ⟨k2.os, k2.tape, k2.output, k2.size, fun x hx hn => k2.block x hx (fun e => ?_)⟩, fun x e => ?_⟩
      · rw [List.map_take, eps, take_at hs, List.filter_append, List.filter_eq_nil_iff.2 (fun s hs => by simp [hall s hs])]
        simpa [hp] using t2
      · rcases e with e | e
        · exact hn (.inr e)
        · cases e
      · rcases o2 with q | q
        · rw [q] at e; cases e
        · exact q x e
    have LPS := hide (And.intro lps eps)
    have hkI : ¬ (k : Int) = -1 := by omega
    have hk63 : (k : Int) ≤ 1100000 := by have := (unhide CN).2.2; omega
    have HK0 := hide hK0
    clear hg hr hR hw h0 hbm lo keyX kX hD0 hs hall hp t2 k2 o2 lps eps hK0
    go_upto_region 5 with fail
    generalize ((k : Int) == -1) = bq
    clear hkI
    go_loopw [5, 6] (fun iv jv wr => DJR n0 R M W g c bo ps n iv jv wr) (fun _ jv _ => n - (intOf jv).toNat)
    case atStart => exact ⟨k + 1, K0, v2, Ro2, by omega, by rw [unhide HK0]; omega, by rw [unhide HK0], by go_num, I0⟩
    case round =>
      clear I0
      obtain ⟨j, K, v, Ro3, hj, hKj, rfl, rfl, I⟩ := hrel
      by_cases hlt : j < n
      · have hjI : (j : Int) < (n : Int) := by omega
        have hj0 : (0 : Int) ≤ (j : Int) := by omega
        have hKI : (K.length : Int) < (n : Int) := by omega
        have hK0 : (0 : Int) ≤ (K.length : Int) := by omega
        obtain ⟨hg, hr, hR, hw, h0, hbm⟩ := unhide SD
        have dj := unhide I
        obtain ⟨p, hp⟩ : ∃ p, ps[j]? = some p := ⟨_, List.getElem?_eq_getElem (by rw [(unhide LPS).1]; exact hlt)⟩
        have hc := dj.di.get hp
        have hfv := dj.di.fv p (List.mem_of_getElem? hp)
        obtain ⟨s, fv⟩ := p
        have HF := hide hfv
        obtain ⟨-, fa, fc, css, e9, -⟩ := hfv
        simp only at e9
        subst e9
        have y0 : wr.cell? ⟨g, j * 8, none⟩ = some (.int .i64 s.nu) := hc 0 _ rfl
        have y1 : wr.cell? ⟨g, j * 8 + 1, none⟩ = some (.int .i64 s.ti) := hc 1 _ rfl
        have y2 : wr.cell? ⟨g, j * 8 + 2, none⟩ = some (.int .i64 s.si) := hc 2 _ rfl
        have y3 : wr.cell? ⟨g, j * 8 + 3, none⟩ = some (.bool s.el) := hc 3 _ rfl
        have y4 : wr.cell? ⟨g, j * 8 + 4, none⟩ = some (.bool s.co) := hc 4 _ rfl
        have y5 : wr.cell? ⟨g, j * 8 + 5, none⟩ = some (.bool s.pr) := hc 5 _ rfl
        have y6 : wr.cell? ⟨g, j * 8 + 6, none⟩ = some (.int .i64 s.tl) := hc 6 _ rfl
        have y7 : wr.cell? ⟨g, j * 8 + 7, none⟩ = some (.slice fa s.fs.length fc) := hc 7 _ rfl
        obtain ⟨Z, hZ⟩ : ∃ Z, Z = wr.alloc (.cells #[.int .i64 s.nu, .int .i64 s.ti, .int .i64 s.si, .bool s.el, .bool s.co, .bool s.pr, .int .i64 s.tl, .slice fa s.fs.length fc] 46) := ⟨_, rfl⟩
        have gZ : wr.grownBy Z none := by rw [hZ]; exact grown_alloc _ _
        have bZ : Blk Z wr.heap.size #[.int .i64 s.nu, .int .i64 s.ti, .int .i64 s.si, .bool s.el, .bool s.co, .bool s.pr, .int .i64 s.tl, .slice fa s.fs.length fc] 46 := by rw [hZ]; exact Blk.new wr _ _
        have gww : w0.grownBy wr (some g) := grown_kp (unhide GW) dj.kp h0 dj.to_.lo
        have mw : Blk wr bm #[.func (.func f) pre cb] 105 := (dj.kp.block bm (unhide HB).lt (fun e => e.elim hbm.2 hbm.1)).trans (unhide HB)
        have mZ : Z.cell? ⟨bm, 0, none⟩ = some (.func (.func f) pre cb) := (mw.grown gZ).cell 0 _ rfl
        have tZ := dj.to_.grown gZ
        have lenO : (((ps.take j).map Prod.fst).filter (fun s => M s.nu)).length ≤ 1100000 := by
          refine Nat.le_trans (List.length_filter_le _ _) ?_
          rw [List.length_map, List.length_take]
          have := (unhide CN).2.2
          omega
        obtain ⟨zs, hzs⟩ : ∃ zs, zs = wr.heap.size := ⟨_, rfl⟩
        rw [← hzs] at bZ
        have z0 := cells8 bZ
        obtain ⟨z0, z1, z2, z3, z4, z5, z6, z7⟩ := z0
        have ne : zs ≠ bo ∧ v.ownBlock ≠ some zs := ⟨by have := dj.to_.blk.lt; omega, fun e => by have := dj.to_.row.lt zs e; omega⟩
        have HP := hide hp
        have GZ := hide gZ
        have BZ := hide (And.intro bZ ne)
        by_cases hq : M s.nu = true
        · have hc1 := take1_yes n0 bm bo f pre cb s R fa fc Z v Ro3 _ (unhide HM).en mZ (fun Y gY => by have := (unhide HM).ca Y s.nu (grown_trans (grown_trans gww gZ) gY); rw [hq] at this; exact this) ((unhide HF).grown gZ) tZ lenO
          have HQ := hide hq
          clear hc HF mZ mw gww tZ lenO hq gZ bZ ne dj hg hr hR hw h0 hbm hp
          simp only [St.cs] at hc1
          go_upto_region 8 with fail
          rw [← hZ, ← hzs]
          replace hZ := hide hZ
          replace hzs := hide hzs
          clear y0 y1 y2 y3 y4 y5 y6 y7
          go_wp2_with (refine hc1.mono ?_; rintro e X2 ⟨rfl, v4, Ro4, t4, k4, o4⟩)
          all_goals go_roundw
          case rel =>
            obtain ⟨hg, hr, hR, hw, h0, hbm⟩ := unhide SD
            exact ⟨j + 1, K, v4, Ro4, hlt, by omega, rfl, by go_num, (unhide I).yes (unhide HP) (unhide HQ) (unhide GZ) t4 k4 o4 hg hR hw⟩
          case measure => simp [intOf]; omega
        · have hq : M s.nu = false := by simpa using hq
          have hc1 := take1_no bm bo f pre cb s fa fc Z (unhide HM).en mZ (fun Y gY => by have := (unhide HM).ca Y s.nu (grown_trans (grown_trans gww gZ) gY); rw [hq] at this; exact this)
          have HQ := hide hq
          clear hc HF mZ mw gww tZ lenO hq gZ bZ ne dj hg hr hR hw h0 hbm hp
          simp only [St.cs] at hc1
          go_upto_region 8 with fail
          rw [← hZ, ← hzs]
          replace hZ := hide hZ
          replace hzs := hide hzs
          clear y0 y1 y2 y3 y4 y5 y6 y7
          go_upto_region 9 with (refine hc1.mono ?_; rintro e X2 ⟨rfl, gX2⟩)
          obtain ⟨hg, hr, hR, hw, h0, hbm⟩ := unhide SD
          obtain ⟨X, C, Y, b1, b2, b3, b4⟩ := (unhide I).no (unhide HP) (unhide HQ) (grown_trans (unhide GZ) gX2) hg hr hR hw
          obtain ⟨x0, x1, x2, x3, x4, x5, x6, x7⟩ := cells8 ((unhide BZ).1.grown gX2)
          have B1 := hide b1
          have B2 := hide b2
          have B3 := hide b3
          have B4 := hide b4
          clear b1 b2 b3 b4 hg hr hR hw h0 hbm z0 z1 z2 z3 z4 z5 z6 z7 hc1 gX2
          go_wp2_with (refine wpList_store_mid rfl 46 _ _ rfl g (K.length * 8) #[.int .i64 s.nu, .int .i64 s.ti, .int .i64 s.si, .bool s.el, .bool s.co, .bool s.pr, .int .i64 s.tl, .slice fa s.fs.length fc] rfl rfl 46 X C Y (unhide B1) (unhide B2) (unhide B3) Tryz.sizeSe (by simp [Value.oneCell']) ?_)
          all_goals go_roundw
          case rel => exact ⟨j + 1, K ++ [(s, .slice fa s.fs.length fc)], v, Ro3, hlt, by simp; omega, by simp, by go_num, B4⟩
          case measure => simp [intOf]; omega
      · obtain rfl : j = n := by omega
        have hjI : ¬ (j : Int) < (j : Int) := by omega
        obtain ⟨hg, hr, hR, hw, h0, hbm⟩ := unhide SD
        have dj := unhide I
        obtain ⟨X, C, Y, b1, b2, b3, b4⟩ := dj.di.ends (unhide LPS).1.symm hr (unhide CN).1
        obtain ⟨Zc, hzl, hcl⟩ := run_clearN 8 (by decide) wr 26 46 _ Tryz.underlying26 zeroSe rfl (by intro u hu; simp [Value.cells] at hu; rcases hu with rfl | rfl | rfl | rfl <;> rfl) g (K.length * 8) (j - K.length) X C Y 46 b1 b2 b3
        have FIN := hide (b4 Zc hzl)
        have hKI : (K.length : Int) ≤ (j : Int) := by omega
        have hKn : K.length ≤ j := by omega
        have hcn := (unhide CN).2.1
        clear b1 b2 b3 b4 hg hr hR hw h0 hbm hzl dj
        go_upto_region 11 with fail
        go_wp2_with (at_builtin; refine wpList_clear_run _ rfl _ 26 rfl _ rfl (hcl _ _) ?_)
        go_ret
        obtain ⟨hg, hr, hR, hw, h0, hbm⟩ := unhide SD
        have dj := unhide I
        have hks := (unhide LPS).2
        have hl : (ks.filter (fun s => !M s.nu)).length = K.length := by
          rw [← hks, List.filter_map, List.length_map, dj.di.hK, List.take_of_length_le (by rw [(unhide LPS).1]; exact Nat.le_refl _)]
          rfl
        unfold DelP
        rw [hl]
        have F := unhide FIN
        rw [hks] at F
        have kset : Kp (fun x => x = g) wr (wr.setRow g (X ++ (Zc ++ Y)).toArray) := Kp.grownS (grown_setRow wr g _) rfl
        refine ⟨rfl, F, ⟨v, Ro3, ?_⟩, Kp.trans dj.kp (kset.mono fun x _ e => .inl e)⟩
        have ht := dj.to_
        rw [List.take_of_length_le (by rw [(unhide LPS).1]; exact Nat.le_refl _), hks] at ht
        refine ht.kept kset ?_
        rintro x rfl
        exact ⟨fun e => by have := (ht.rg x e).1; omega, by have := ht.lo; omega, fun e => by have := dj.ow x e; omega⟩
end Go.Proofs.YtnflbefbgcbdfaaGreat

namespace Go.Proofs.YtnflbefbgcbdfaaGreat
open Go.RowKit
set_option linter.unusedVariables false
set_option linter.unusedSimpArgs false
set_option maxRecDepth 100000
set_option maxHeartbeats 2000000

theorem KvAt.ty {R : Nat → Prop} {W : World} {kv : Value} {ks : List St} (h : KvAt R W kv ks) : ∀ g, kv.ownBlock = some g → ∃ cs, Blk W g cs 46 := by
  intro g e
  obtain ⟨fvs, h1, h2, h3⟩ := h
  rcases h2.2 with ⟨rfl, -⟩ | ⟨g', c, cur, rfl, q1, q2, -⟩
  · cases e
  · cases e; exact ⟨cur, q2⟩
theorem row_ty {w : World} {v : Value} {L : List Sp} (h : Row w v L) : ∀ g, v.ownBlock = some g → ∃ cs, Blk w g cs 63 := by
  intro g e
  rcases h.2 with ⟨rfl, -⟩ | ⟨g', c, cur, rfl, q1, q2, -⟩
  · cases e
  · cases e; exact ⟨cur, q2⟩
theorem ty_ne {w : World} {a b : Nat} {ca cb : Array Value} {ta tb : TypeId} (ha : Blk w a ca ta) (hb : Blk w b cb tb) (h : ta ≠ tb) : a ≠ b := by
  rintro rfl
  unfold Blk at ha hb
  rw [ha] at hb
  injection hb with hb
  injection hb with _ hb
  exact h hb
/-- A ledger's blocks are apart. -/
structure LgD (b q : Nat) (kv va : Value) : Prop where
  bq : b ≠ q
  kb : ∀ g, kv.ownBlock = some g → g ≠ b ∧ g ≠ q ∧ va.ownBlock ≠ some g
  vb : ∀ g, va.ownBlock = some g → g ≠ b ∧ g ≠ q
theorem LgAt.diff {R : Nat → Prop} {W : World} {b q : Nat} {kv va : Value} {l : Lg} (h : LgAt R W b q kv va l) : LgD b q kv va := by
  have hs : Blk W q _ 116 := h.set.blk
  refine ⟨ty_ne h.blk hs (by decide), fun g e => ?_, fun g e => ?_⟩
  · obtain ⟨cs, hg⟩ := h.row.ty g e
    refine ⟨ty_ne hg h.blk (by decide), ty_ne hg hs (by decide), fun e2 => ?_⟩
    obtain ⟨cs2, hg2⟩ := row_ty h.set.row g e2
    exact ty_ne hg hg2 (by decide) rfl
  · obtain ⟨cs2, hg2⟩ := row_ty h.set.row g e
    exact ⟨ty_ne hg2 h.blk (by decide), ty_ne hg2 hs (by decide)⟩
theorem row_kept {w w' : World} {v : Value} {L : List Sp} (h : Row w v L) (ho : ∀ g, v.ownBlock = some g → w'.heap[g]? = w.heap[g]?) : Row w' v L := by
  refine ⟨h.1, ?_⟩
  rcases h.2 with q | ⟨g, c, cur, e1, q1, q2, q3⟩
  · exact .inl q
  · exact .inr ⟨g, c, cur, e1, q1, (ho g (by rw [e1]; rfl)).trans q2, q3⟩
theorem row_lt {w : World} {v : Value} {L : List Sp} (h : Row w v L) : ∀ g, v.ownBlock = some g → g < w.heap.size := fun g e => by
  obtain ⟨cs, hg⟩ := row_ty h g e
  exact hg.lt
theorem SetAt.kept {w w' : World} {b : Nat} {most : Int} {v : Value} {L : List Sp} (h : SetAt w b most v L) (hb : w'.heap[b]? = w.heap[b]?) (ho : ∀ g, v.ownBlock = some g → w'.heap[g]? = w.heap[g]?) : SetAt w' b most v L := ⟨hb.trans h.blk, row_kept h.row ho⟩
/-- A ledger whose blocks nobody wrote. -/
theorem LgAt.kept {R : Nat → Prop} {W W' : World} {b q : Nat} {kv va : Value} {l : Lg} (h : LgAt R W b q kv va l) {S : Nat → Prop} (k : Kp S W W') (hs : ∀ g, S g → ¬ R g ∧ g ≠ b ∧ g ≠ q ∧ kv.ownBlock ≠ some g ∧ va.ownBlock ≠ some g) : LgAt R W' b q kv va l := by
  have hq : Blk W q _ 116 := h.set.blk
  exact ⟨(k.block b h.blk.lt (fun e => (hs b e).2.1 rfl)).trans h.blk, h.set.kept (k.block q hq.lt (fun e => (hs q e).2.2.1 rfl)) (fun g e => k.block g (row_lt h.set.row g e) (fun e2 => (hs g e2).2.2.2.2 e)), h.row.kept (fun g hg => k.block g (h.low g hg) (fun e => (hs g e).1 hg)) (fun g e => k.block g (h.row.lt g e) (fun e2 => (hs g e2).2.2.2.1 e)), fun g hg => Nat.lt_of_lt_of_le (h.low g hg) k.size, h.nb, h.nq, h.nk, h.na⟩

/-- What is left. -/
def Lg.left (l : Lg) (M : Int → Bool) : Lg := { l with ks := l.ks.filter (fun s => !M s.nu) }
/-- What take leaves. -/
def TkP (R : Nat → Prop) (w : World) (b q : Nat) (kv va : Value) (l : Lg) (M : Int → Bool) (e : Ending) (w' : World) : Prop :=
  ∃ ov Ro kv', e = .returned ov ∧ KvAt Ro w' ov (l.ks.filter (fun s => M s.nu)) ∧ (∀ g, Ro g → w.heap.size ≤ g ∧ g < w'.heap.size) ∧ (∀ g, ov.ownBlock = some g → w.heap.size ≤ g ∧ ¬ Ro g) ∧ LgAt R w' b q kv' va (l.left M) ∧ kv'.ownBlock = kv.ownBlock ∧ Kp (fun x => x = b ∨ kv.ownBlock = some x) w w'

theorem idx_nil (v : Value) (W : World) : Calls Tryz.prog 99 #[.slice none 0 0, v] W fun e W' => e = .returned (.int .i64 (-1)) ∧ W' = W := by
  go_enter Tryz.func99, Tryz.ntmps99
  go_wp2
  go_loopw [8] (fun iv wr => iv = .int .i64 0 ∧ wr = W) (fun _ _ => 0)
  case atStart => exact ⟨rfl, rfl⟩
  case round =>
    obtain ⟨rfl, rfl⟩ := hrel
    go_wp2
    go_ret
    exact ⟨rfl, rfl⟩
theorem del_nil (v : Value) (W : World) : Calls Tryz.prog 72 #[.slice none 0 0, v] W fun e W' => e = .returned (.slice none 0 0) ∧ W' = W := by
  have h := idx_nil v W
  go_enter Tryz.func72, Tryz.ntmps72
  go_wp2_with (refine h.mono ?_; rintro e X ⟨rfl, rfl⟩)
  all_goals go_ret
  all_goals exact ⟨rfl, rfl⟩

theorem take_any (b q : Nat) (kv va : Value) (l : Lg) (R : Nat → Prop) (w : World) (f : FuncId) (pre cb : Array Value) (M : Int → Bool) (hM : Mn w kv.ownBlock f pre cb M) (h : LgAt R w b q kv va l) (hn : l.ks.length ≤ 1100000) :
    Calls Tryz.prog 42 #[.pointer (some ⟨b, 0, none⟩), .func (.func f) pre cb] w fun e w' => TkP R w b q kv va l M e w' := by
  obtain ⟨W2, hW2⟩ : ∃ W2, W2 = (w.alloc (.cells #[.func (.func f) pre cb] 105)).alloc (.cells #[.slice none 0 0] 26) := ⟨_, rfl⟩
  have bb := Blk.two w #[.func (.func f) pre cb] #[.slice none 0 0] 105 26
  rw [← hW2] at bb
  obtain ⟨B1, B2, g2⟩ := bb
  obtain ⟨bm, hbm⟩ : ∃ bm, bm = w.heap.size := ⟨_, rfl⟩
  have sz2 : W2.heap.size = bm + 2 := by rw [hW2, hbm]; simp
  rw [← hbm] at B1 B2
  have hb := h.blk.lt
  have TO0 : TO bm W2 (bm + 1) (.slice none 0 0) (fun _ => False) [] := ⟨B2, KvAt.nil _ _, fun g e => e.elim, fun g e => (by cases e), id, by omega⟩
  have h2 := h.grown g2
  have hd : Calls Tryz.prog 72 #[kv, .func (.func 73) #[] #[.pointer (some ⟨bm, 0, none⟩), .pointer (some ⟨bm + 1, 0, none⟩)]] W2 fun e W3 => ∃ ka kn kc, e = .returned (.slice ka kn kc) ∧ KvAt R W3 (.slice ka kn kc) (l.ks.filter (fun s => !M s.nu)) ∧ (∃ v Ro, TO bm W3 (bm + 1) v Ro (l.ks.filter (fun s => M s.nu))) ∧ Kp (fun x => kv.ownBlock = some x ∨ x = bm + 1) W2 W3 ∧ (Value.slice ka kn kc).ownBlock = kv.ownBlock := by
    rcases h.row.sh with ⟨e1, e2⟩ | ⟨g, c, e1, e2⟩
    · rw [e1, e2]
      refine (del_nil _ W2).mono ?_
      rintro e X ⟨rfl, rfl⟩
      exact ⟨none, 0, 0, rfl, KvAt.nil _ _, ⟨_, _, TO0⟩, Kp.refl _ _, rfl⟩
    · subst e1
      refine (del_any bm bm (bm + 1) g c w f pre cb M l.ks R W2 _ hM (grown_any g2 g) B1 h2.row TO0 hn (by have := h.row.lt g rfl; omega) (h.nk g rfl) (fun x hx => by have := h.low x hx; omega) (by omega) (by omega) ⟨by omega, by have := h.row.lt g rfl; omega⟩).mono ?_
      rintro e X ⟨rfl, q1, q2, q3⟩
      refine ⟨_, _, _, rfl, q1, q2, q3.mono (fun x _ e => e.imp (fun e => by rw [e]; rfl) id), rfl⟩
  have c6 : W2.cell? ⟨b, 6, none⟩ = some kv := h2.blk.cell 6 _ rfl
  have HH := hide (And.intro h (And.intro h2 (And.intro g2 (And.intro sz2 (And.intro hb hbm)))))
  obtain ⟨ka, kn, kc, rfl⟩ : ∃ ka kn kc, kv = .slice ka kn kc := by
    rcases h.row.sh with ⟨e1, e2⟩ | ⟨g, c, e1, e2⟩
    · exact ⟨_, _, _, e1⟩
    · exact ⟨_, _, _, e1⟩
  have hd2 : Calls Tryz.prog 72 #[.slice ka kn kc, .func (.func 73) #[] #[.pointer (some ⟨bm, 0, none⟩), .pointer (some ⟨bm + 1, 0, none⟩)]] W2 fun e X => ∃ ka2 kn2 kc2 va2 vn vc Ro, e = .returned (.slice ka2 kn2 kc2) ∧ X.cell? ⟨b, 6, none⟩ = some (.slice ka kn kc) ∧ X.frozen? ⟨b, 6, none⟩ = false ∧ (X.setCell ⟨b, 6, none⟩ (.slice ka2 kn2 kc2)).cell? ⟨bm + 1, 0, none⟩ = some (.slice va2 vn vc) ∧ Hid (KvAt R X (.slice ka2 kn2 kc2) (l.ks.filter (fun s => !M s.nu)) ∧ TO bm X (bm + 1) (.slice va2 vn vc) Ro (l.ks.filter (fun s => M s.nu)) ∧ Kp (fun x => (Value.slice ka kn kc).ownBlock = some x ∨ x = bm + 1) W2 X ∧ (Value.slice ka2 kn2 kc2).ownBlock = (Value.slice ka kn kc).ownBlock ∧ Blk X b (l.cs (.slice ka kn kc) q) 75) := by
    refine hd.mono ?_
    rintro e X ⟨ka2, kn2, kc2, rfl, q1, ⟨v, Ro, qT⟩, qK, qO⟩
    have bX : Blk X b (l.cs (.slice ka kn kc) q) 75 := (qK.block b h2.blk.lt (fun e => e.elim (fun e => (h.diff.kb b e).1 rfl) (fun e => by omega))).trans h2.blk
    obtain ⟨va2, vn, vc, rfl⟩ : ∃ va2 vn vc, v = .slice va2 vn vc := by
      rcases qT.row.sh with ⟨e1, -⟩ | ⟨g, c, e1, -⟩
      · exact ⟨_, _, _, e1⟩
      · exact ⟨_, _, _, e1⟩
    exact ⟨ka2, kn2, kc2, va2, vn, vc, Ro, rfl, bX.cell 6 _ rfl, bX.thaw 6, (qT.blk.setO b 6 _ (by omega)).cell 0 _ rfl, q1, qT, qK, qO, bX⟩
  clear h h2 g2 sz2 hb TO0 B1 B2 hM hd
  go_enter Tryz.func42, Tryz.ntmps42
  go_upto_region 2 with fail
  rw [← hW2, ← hbm]
  replace hW2 := hide hW2
  clear hbm
  go_wp2_with fail
  refine hd2.mono ?_
  rintro e X ⟨ka2, kn2, kc2, va2, vn, vc, Ro, rfl, x6, f6, oX, FIN⟩
  clear hd2 c6 hn
  go_wp2_with fail
  go_ret
  obtain ⟨h, h2, g2, sz2, hb, hbm⟩ := unhide HH
  obtain ⟨q1, qT, qK, qO, bX⟩ := unhide FIN
  have hdf := h.diff
  have sX := qK.size
  have k2 : Kp (fun x => x = b ∨ (Value.slice ka kn kc).ownBlock = some x) w (X.setCell ⟨b, 6, none⟩ (.slice ka2 kn2 kc2)) := by
    refine Kp.set ⟨qK.os.trans g2.os, qK.tape.trans g2.tape, qK.output.trans g2.output, by omega, fun x hx hn => (qK.block x (by omega) (fun e => ?_)).trans (g2.block x hx (by simp))⟩ b 6 _ (fun _ => .inl rfl)
    rcases e with e | e
    · exact hn (.inr e)
    · omega
  refine ⟨_, Ro, .slice ka2 kn2 kc2, rfl, ?_, ?_, ?_, ?_, qO, k2⟩
  · refine qT.row.kept (fun x hx => set_heap _ _ _ _ _ ?_) (fun x e => set_heap _ _ _ _ _ ?_)
    · have := (qT.rg x hx).1; omega
    · have := (qT.og x e).1; omega
  · intro g e
    rw [set_size]
    have := qT.rg g e
    omega
  · intro g e
    have := qT.og g e
    exact ⟨by omega, this.2.1⟩
  · have hne : ∀ x, x ≠ b → (Value.slice ka kn kc).ownBlock ≠ some x → x < w.heap.size → (X.setCell ⟨b, 6, none⟩ (.slice ka2 kn2 kc2)).heap[x]? = w.heap[x]? := fun x h1 h3 h4 => k2.block x h4 (fun e => e.elim h1 h3)
    have hq : Blk w q _ 116 := h.set.blk
    refine ⟨?_, h.set.kept (hne q (Ne.symm hdf.bq) (fun e => (hdf.kb q e).2.1 rfl) hq.lt) (fun g e => hne g (hdf.vb g e).1 (fun e2 => (hdf.kb g e2).2.2 e) (row_lt h.set.row g e)), ?_, fun g hg => Nat.lt_of_lt_of_le (h.low g hg) k2.size, h.nb, h.nq, fun g e => h.nk g (by rw [← qO]; exact e), h.na⟩
    · exact bX.setC 6 _
    · refine q1.kept (fun x hx => set_heap _ _ _ _ _ ?_) (fun x e => set_heap _ _ _ _ _ ?_)
      · rintro rfl; exact h.nb hx
      · rw [qO] at e
        exact (hdf.kb x e).1
end Go.Proofs.YtnflbefbgcbdfaaGreat

namespace Go.Proofs.YtnflbefbgcbdfaaGreat
open Go.RowKit
set_option linter.unusedVariables false
set_option linter.unusedSimpArgs false
set_option maxRecDepth 100000
set_option maxHeartbeats 2000000

theorem TkP.from {R : Nat → Prop} {w w1 : World} {b q : Nat} {kv va : Value} {l : Lg} {M : Int → Bool} {e : Ending} {w' : World} (h : TkP R w1 b q kv va l M e w') (k : Kp (fun x => x = b ∨ kv.ownBlock = some x) w w1) : TkP R w b q kv va l M e w' := by
  obtain ⟨ov, Ro, kv', h1, h2, h3, h4, h5, h6, h7⟩ := h
  have s := k.size
  exact ⟨ov, Ro, kv', h1, h2, fun g hg => ⟨by have := (h3 g hg).1; omega, (h3 g hg).2⟩, fun g hg => ⟨by have := (h4 g hg).1; omega, (h4 g hg).2⟩, h5, h6, k.trans h7⟩

/-- A ledger of which a cell was written. -/
theorem LgAt.set1 {R : Nat → Prop} {W : World} {b q : Nat} {kv va : Value} {l l' : Lg} (h : LgAt R W b q kv va l) (j : Nat) (v : Value) (hcs : (l.cs kv q).setIfInBounds j v = l'.cs kv q) (hk : l'.ks = l.ks) (ha : l'.ac = l.ac) : LgAt R (W.setCell ⟨b, j, none⟩ v) b q kv va l' := by
  have hd := h.diff
  have hne : ∀ x, x ≠ b → (W.setCell ⟨b, j, none⟩ v).heap[x]? = W.heap[x]? := fun x hx => set_heap W b j v x hx
  refine ⟨by rw [← hcs]; exact h.blk.setC j v, ?_, ?_, fun g hg => by rw [set_size]; exact h.low g hg, h.nb, h.nq, h.nk, h.na⟩
  · rw [ha]
    exact h.set.kept (hne q (Ne.symm hd.bq)) (fun g e => hne g (hd.vb g e).1)
  · rw [hk]
    exact h.row.kept (fun x hx => hne x (fun e => h.nb (e ▸ hx))) (fun g e => hne g (hd.kb g e).1)

theorem drop1_any (w : World) (k : Int) : Calls Tryz.prog 57 #[.int .i64 k] w fun e w' => e = .returned (.bool true) ∧ w.grownBy w' none := by
  go_enter Tryz.func57, Tryz.ntmps57
  go_wp2
  go_ret
  exact ⟨rfl, grown_self _ _⟩

theorem drop_any (b q : Nat) (kv va : Value) (l : Lg) (R : Nat → Prop) (w : World) (h : LgAt R w b q kv va l) (hn : l.ks.length ≤ 1100000) :
    Calls Tryz.prog 26 #[.pointer (some ⟨b, 0, none⟩)] w fun e w' => TkP R w b q kv va { l with op := false } (fun _ => true) e w' := by
  have hM : Mn (w.setCell ⟨b, 0, none⟩ (.bool false)) kv.ownBlock 57 #[] #[] (fun _ => true) := ⟨Go.Proofs.enters_of Tryz.func57 (by kernel_rfl) rfl, fun Z k _ => drop1_any Z k⟩
  have h1 : LgAt R (w.setCell ⟨b, 0, none⟩ (.bool false)) b q kv va { l with op := false } := h.set1 0 _ rfl rfl rfl
  have ht := take_any b q kv va _ R _ _ _ _ _ hM h1 hn
  have c0 : w.cell? ⟨b, 0, none⟩ = some (.bool l.op) := h.blk.cell 0 _ rfl
  have f0 := h.blk.thaw 0
  have KW : Hid (Kp (fun x => x = b ∨ kv.ownBlock = some x) w (w.setCell ⟨b, 0, none⟩ (.bool false))) := Kp.set (Kp.refl _ _) b 0 _ (fun _ => .inl rfl)
  clear hM h1 h hn
  go_enter Tryz.func26, Tryz.ntmps26
  go_wp2_with fail
  refine ht.mono ?_
  intro e X hP
  have hP := hP.from (unhide KW)
  obtain ⟨ov, Ro, kv', rfl, rest⟩ := hP
  have FIN := hide rest
  clear ht rest KW c0 f0
  go_wp2_with fail
  go_ret
  exact ⟨ov, Ro, kv', rfl, unhide FIN⟩
end Go.Proofs.YtnflbefbgcbdfaaGreat
