/- Ledger: DeleteFunc with take's function. -/
import Derived.Test.YtnflbefbgcbdfaaL4D
namespace Go.Proofs.Ytnflbefbgcbdfaa
open Go.RowKit
set_option linter.unusedVariables false
set_option linter.unusedSimpArgs false
set_option maxRecDepth 100000
set_option maxHeartbeats 2000000

theorem grown_kp {w0 W Z : World} {g bo n0 : Nat} (h : w0.grownBy W (some g)) (k : Kp (fun x => x = g ∨ x = bo) W Z) (h1 : w0.heap.size ≤ n0) (h2 : n0 ≤ bo) : w0.grownBy Z (some g) :=
  ⟨k.os.trans h.os, k.tape.trans h.tape, k.output.trans h.output, Nat.le_trans h.size k.size, fun x hx hn => (k.block x (Nat.lt_of_lt_of_le hx h.size) (fun e => e.elim (fun e => hn (by rw [e])) (fun e => by omega))).trans (h.block x hx hn)⟩

/-- Between two rounds. -/
structure DJ (n0 : Nat) (R : Nat → Prop) (M : Int → Bool) (W : World) (g c bo : Nat) (ps : List (St × Value)) (j : Nat) (K : List (St × Value)) (v : Value) (Ro : Nat → Prop) (wr : World) : Prop where
  di : DI R M wr g c ps j K
  to_ : TO n0 wr bo v Ro (((ps.take j).map Prod.fst).filter (fun s => M s.nu))
  kp : Kp (fun x => x = g ∨ x = bo) W wr
  ow : ∀ x, v.ownBlock = some x → W.heap.size ≤ x
section
variable {n0 : Nat} {R : Nat → Prop} {M : Int → Bool} {W : World} {g c bo : Nat} {ps : List (St × Value)} {j : Nat} {K : List (St × Value)} {v : Value} {Ro : Nat → Prop} {wr : World}
theorem outs_yes {p : St × Value} (hp : ps[j]? = some p) (hm : M p.1.nu = true) : ((ps.take (j + 1)).map Prod.fst).filter (fun s => M s.nu) = ((ps.take j).map Prod.fst).filter (fun s => M s.nu) ++ [p.1] := by
  rw [take_at hp, List.map_append, List.filter_append]; simp [hm]
theorem outs_no {p : St × Value} (hp : ps[j]? = some p) (hm : M p.1.nu = false) : ((ps.take (j + 1)).map Prod.fst).filter (fun s => M s.nu) = ((ps.take j).map Prod.fst).filter (fun s => M s.nu) := by
  rw [take_at hp, List.map_append, List.filter_append]; simp [hm]
/-- A packet was taken out. -/
theorem DJ.yes {p : St × Value} {Z W2 : World} {v2 : Value} {Ro2 : Nat → Prop} (h : DJ n0 R M W g c bo ps j K v Ro wr) (hp : ps[j]? = some p) (hm : M p.1.nu = true) (gZ : wr.grownBy Z none) (ht : TO n0 W2 bo v2 Ro2 (((ps.take j).map Prod.fst).filter (fun s => M s.nu) ++ [p.1])) (hk : KT Z W2 bo v) (ho : v2.ownBlock = v.ownBlock ∨ ∀ x, v2.ownBlock = some x → Z.heap.size ≤ x) (hg : g < n0) (hR : ∀ b, R b → b < n0) (hw : n0 ≤ W.heap.size) :
    DJ n0 R M W g c bo ps (j + 1) K v2 Ro2 W2 := by
  have s1 := h.kp.size
  have s2 := gZ.size
  have lo := h.to_.lo
  have key : ∀ x, x < n0 → W2.heap[x]? = wr.heap[x]? := fun x hx => (hk.block x (by omega) (fun e => by
    rcases e with e | e
    · omega
    · have := h.ow x e; omega)).trans (gZ.block x (by omega) (by simp))
  refine ⟨(h.di.kept (key g hg) (fun b hb => key b (hR b hb))).skip hp hm, by rw [outs_yes hp hm]; exact ht, ⟨hk.os.trans (gZ.os.trans h.kp.os), hk.tape.trans (gZ.tape.trans h.kp.tape), hk.output.trans (gZ.output.trans h.kp.output), by have := hk.size; omega, fun x hx hn => ?_⟩, fun x e => ?_⟩
  · refine (hk.block x (by omega) (fun e => ?_)).trans ((gZ.block x (by omega) (by simp)).trans (h.kp.block x hx hn))
    rcases e with e | e
    · exact hn (.inr e)
    · have := h.ow x e; omega
  · rcases ho with q | q
    · rw [q] at e; exact h.ow x e
    · have := q x e; omega
/-- A packet was left. -/
theorem DJ.no {p : St × Value} {Z : World} (h : DJ n0 R M W g c bo ps j K v Ro wr) (hp : ps[j]? = some p) (hm : M p.1.nu = false) (gZ : wr.grownBy Z none) (hg : g < n0) (hr : ¬ R g) (hR : ∀ b, R b → b < n0) (hw : n0 ≤ W.heap.size) :
    ∃ X C Y : List Value, Blk Z g (X ++ (C ++ Y)).toArray 36 ∧ K.length * 8 = X.length ∧ C.length = 8 ∧ DJ n0 R M W g c bo ps (j + 1) (K ++ [p]) v Ro (Z.setRow g (X ++ ((p.1.cs p.2).toList ++ Y)).toArray) := by
  have s1 := h.kp.size
  have s2 := gZ.size
  have lo := h.to_.lo
  have hd : DI R M Z g c ps j K := h.di.kept (gZ.block g (by omega) (by simp)) (fun b hb => gZ.block b (by have := hR b hb; omega) (by simp))
  obtain ⟨X, C, Y, h1, h2, h3, h4⟩ := hd.put hp hm hr
  refine ⟨X, C, Y, h1, h2, h3, h4, ?_, ?_, h.ow⟩
  · rw [outs_no hp hm]
    refine (h.to_.grown gZ).kept (Kp.grownS (grown_setRow Z g _) (S := fun x => x = g) rfl) ?_
    rintro x rfl
    exact ⟨fun e => by have := (h.to_.rg x e).1; omega, by omega, fun e => by have := h.ow x e; omega⟩
  · refine Kp.trans h.kp (Kp.trans (Kp.grown gZ _) (Kp.grownS (grown_setRow Z g _) (.inl rfl)))
end

/-- What lies in the slots between two rounds. -/
def DJR (n0 : Nat) (R : Nat → Prop) (M : Int → Bool) (W : World) (g c bo : Nat) (ps : List (St × Value)) (n : Nat) (iv jv : Value) (wr : World) : Prop :=
  ∃ (j : Nat) (K : List (St × Value)) (v : Value) (Ro : Nat → Prop), j ≤ n ∧ K.length < j ∧ iv = .int .i64 K.length ∧ jv = .int .i64 j ∧ Hid (DJ n0 R M W g c bo ps j K v Ro wr)

/-- What DeleteFunc leaves. -/
def DelP (n0 : Nat) (R : Nat → Prop) (M : Int → Bool) (W : World) (g c bo : Nat) (ks : List St) (e : Ending) (W' : World) : Prop :=
  e = .returned (.slice (some ⟨g, 0, none⟩) (ks.filter (fun s => !M s.nu)).length c) ∧ KvAt R W' (.slice (some ⟨g, 0, none⟩) (ks.filter (fun s => !M s.nu)).length c) (ks.filter (fun s => !M s.nu)) ∧ (∃ v Ro, TO n0 W' bo v Ro (ks.filter (fun s => M s.nu))) ∧ Kp (fun x => x = g ∨ x = bo) W W'

theorem Try.sizeSe : (Try.prog.info? 36).map (·.size) = some 8 := by kernel_rfl
theorem zeroSe (w : World) : (zeroValue 36).run Try.prog w = .ok (.agg #[.int .i64 0, .int .i64 0, .int .i64 0, .bool false, .bool false, .bool false, .int .i64 0, .slice none 0 0]) w := by
  obtain ⟨i, hi, hz0, hz1, hz2⟩ := info_parts Try.infoSe
  simp [zeroValue, typeInfo, hi, hz0]

theorem del_any (n0 bm bo g c : Nat) (w0 : World) (f : FuncId) (pre cb : Array Value) (M : Int → Bool) (ks : List St) (R : Nat → Prop) (W : World) (Ro : Nat → Prop)
    (hM : Mn w0 (some g) f pre cb M) (gW : w0.grownBy W (some g)) (hm : Blk W bm #[.func (.func f) pre cb] 72) (hk : KvAt R W (.slice (some ⟨g, 0, none⟩) ks.length c) ks) (h : TO n0 W bo (.slice none 0 0) Ro []) (hn : ks.length ≤ 1100000)
    (hg : g < n0) (hr : ¬ R g) (hR : ∀ b, R b → b < n0) (hw : n0 ≤ W.heap.size) (h0 : w0.heap.size ≤ n0) (hbm : bm ≠ bo ∧ bm ≠ g) :
    Calls Try.prog 44 #[.slice (some ⟨g, 0, none⟩) ks.length c, .func (.func 45) #[] #[.pointer (some ⟨bm, 0, none⟩), .pointer (some ⟨bo, 0, none⟩)]] W fun e W' => DelP n0 R M W g c bo ks e W' := by
  have hix := idx_any n0 bm bo g c w0 f pre cb M ks R W (.slice none 0 0) Ro hM gW (hm.cell 0 _ rfl) hk h hn
  obtain ⟨hcm, hcn⟩ : c ≤ maxLen ∧ ks.length ≤ c := by
    obtain ⟨fvs, -, e2, -⟩ := hk
    rcases e2.2 with ⟨q, -⟩ | ⟨g', c', cur, q1, q2, q3, q4, q5, -⟩
    · cases q
    · injection q1 with q1 q1b q1c
      subst q1c
      exact ⟨q5, q4⟩
  obtain ⟨n, hnn⟩ : ∃ n, n = ks.length := ⟨_, rfl⟩
  have HM := hide hM
  have GW := hide gW
  have HK := hide hk
  have HT := hide h
  have HB := hide hm
  have SD := hide (And.intro hg (And.intro hr (And.intro hR (And.intro hw (And.intro h0 hbm)))))
  have lenI : ¬ (9223372036854775807 : Int) < (n : Int) := by omega
  rw [← hnn] at hix ⊢
  clear hM gW hk h hm hg hr hR hw h0 hbm
  have HN := hide hnn
  rw [← hnn] at hcn hn
  clear hnn
  have CN := hide (And.intro hcm (And.intro hcn hn))
  go_enter Try.func44, Try.ntmps44
  go_upto_region 1 with fail
  clear hcm hcn hn
  go_upto_region 2 with (refine hix.mono ?_)
  intro e X hP
  clear hix
  rcases hP with ⟨rfl, hno, gX⟩ | ⟨k, s, rfl, hs, hp, hall, v2, Ro2, t2, k2, o2⟩
  · have FIN := hide (And.intro hno gX)
    clear hno gX
    go_wp2
    all_goals go_ret
    all_goals
      obtain ⟨hno, gX⟩ := unhide FIN
      have e1 : ks.filter (fun s => !M s.nu) = ks := List.filter_eq_self.2 (fun s hs => by simp [hno s hs])
      have e2 : ks.filter (fun s => M s.nu) = [] := List.filter_eq_nil_iff.2 (fun s hs => by simp [hno s hs])
      unfold DelP
      rw [e1, e2, unhide HN]
      exact ⟨rfl, (unhide HK).grown gX, ⟨_, _, (unhide HT).grown gX⟩, Kp.grown gX _⟩
  · obtain ⟨hg, hr, hR, hw, h0, hbm⟩ := unhide SD
    have lo := (unhide HT).lo
    have keyX : ∀ x, x < n0 → X.heap[x]? = W.heap[x]? := fun x hx => k2.block x (by omega) (fun e => by
      rcases e with e | e
      · omega
      · cases e)
    have kX := (unhide HK).kept (fun b hb => keyX b (hR b hb)) (fun x e => by cases e; exact keyX _ hg)
    obtain ⟨ps, K0, eps, hK0, hD0⟩ := DI.start kX hs hall hp
    have lps : ps.length = n := by rw [unhide HN, ← eps, List.length_map]
    have hks : k < n := by rw [unhide HN]; exact (List.getElem?_eq_some_iff.1 hs).1
    have I0 : Hid (DJ n0 R M W g c bo ps (k + 1) K0 v2 Ro2 X) := by
      refine ⟨hD0, ?_, ⟨k2.os, k2.tape, k2.output, k2.size, fun x hx hn => k2.block x hx (fun e => ?_)⟩, fun x e => ?_⟩
      · rw [List.map_take, eps, take_at hs, List.filter_append, List.filter_eq_nil_iff.2 (fun s hs => by simp [hall s hs])]
        simpa [hp] using t2
      · rcases e with e | e
        · exact hn (.inr e)
        · cases e
      · rcases o2 with q | q
        · rw [q] at e; cases e
        · exact q x e
    have LPS := hide (And.intro lps eps)
    have hkI : ¬ (k : Int) = -1 := by omega
    have hk63 : (k : Int) ≤ 1100000 := by have := (unhide CN).2.2; omega
    have HK0 := hide hK0
    clear hg hr hR hw h0 hbm lo keyX kX hD0 hs hall hp t2 k2 o2 lps eps hK0
    go_upto_region 5 with fail
    generalize ((k : Int) == -1) = bq
    clear hkI
    go_loopw [5, 6] (fun iv jv wr => DJR n0 R M W g c bo ps n iv jv wr) (fun _ jv _ => n - (intOf jv).toNat)
    case atStart => exact ⟨k + 1, K0, v2, Ro2, by omega, by rw [unhide HK0]; omega, by rw [unhide HK0], by go_num, I0⟩
    case round =>
      clear I0
      obtain ⟨j, K, v, Ro3, hj, hKj, rfl, rfl, I⟩ := hrel
      by_cases hlt : j < n
      · have hjI : (j : Int) < (n : Int) := by omega
        have hj0 : (0 : Int) ≤ (j : Int) := by omega
        have hKI : (K.length : Int) < (n : Int) := by omega
        have hK0 : (0 : Int) ≤ (K.length : Int) := by omega
        obtain ⟨hg, hr, hR, hw, h0, hbm⟩ := unhide SD
        have dj := unhide I
        obtain ⟨p, hp⟩ : ∃ p, ps[j]? = some p := ⟨_, List.getElem?_eq_getElem (by rw [(unhide LPS).1]; exact hlt)⟩
        have hc := dj.di.get hp
        have hfv := dj.di.fv p (List.mem_of_getElem? hp)
        obtain ⟨s, fv⟩ := p
        have HF := hide hfv
        obtain ⟨-, fa, fc, css, e9, -⟩ := hfv
        simp only at e9
        subst e9
        have y0 : wr.cell? ⟨g, j * 8, none⟩ = some (.int .i64 s.nu) := hc 0 _ rfl
        have y1 : wr.cell? ⟨g, j * 8 + 1, none⟩ = some (.int .i64 s.ti) := hc 1 _ rfl
        have y2 : wr.cell? ⟨g, j * 8 + 2, none⟩ = some (.int .i64 s.si) := hc 2 _ rfl
        have y3 : wr.cell? ⟨g, j * 8 + 3, none⟩ = some (.bool s.el) := hc 3 _ rfl
        have y4 : wr.cell? ⟨g, j * 8 + 4, none⟩ = some (.bool s.co) := hc 4 _ rfl
        have y5 : wr.cell? ⟨g, j * 8 + 5, none⟩ = some (.bool s.pr) := hc 5 _ rfl
        have y6 : wr.cell? ⟨g, j * 8 + 6, none⟩ = some (.int .i64 s.tl) := hc 6 _ rfl
        have y7 : wr.cell? ⟨g, j * 8 + 7, none⟩ = some (.slice fa s.fs.length fc) := hc 7 _ rfl
        obtain ⟨Z, hZ⟩ : ∃ Z, Z = wr.alloc (.cells #[.int .i64 s.nu, .int .i64 s.ti, .int .i64 s.si, .bool s.el, .bool s.co, .bool s.pr, .int .i64 s.tl, .slice fa s.fs.length fc] 36) := ⟨_, rfl⟩
        have gZ : wr.grownBy Z none := by rw [hZ]; exact grown_alloc _ _
        have bZ : Blk Z wr.heap.size #[.int .i64 s.nu, .int .i64 s.ti, .int .i64 s.si, .bool s.el, .bool s.co, .bool s.pr, .int .i64 s.tl, .slice fa s.fs.length fc] 36 := by rw [hZ]; exact Blk.new wr _ _
        have gww : w0.grownBy wr (some g) := grown_kp (unhide GW) dj.kp h0 dj.to_.lo
        have mw : Blk wr bm #[.func (.func f) pre cb] 72 := (dj.kp.block bm (unhide HB).lt (fun e => e.elim hbm.2 hbm.1)).trans (unhide HB)
        have mZ : Z.cell? ⟨bm, 0, none⟩ = some (.func (.func f) pre cb) := (mw.grown gZ).cell 0 _ rfl
        have tZ := dj.to_.grown gZ
        have lenO : (((ps.take j).map Prod.fst).filter (fun s => M s.nu)).length ≤ 1100000 := by
          refine Nat.le_trans (List.length_filter_le _ _) ?_
          rw [List.length_map, List.length_take]
          have := (unhide CN).2.2
          omega
        obtain ⟨zs, hzs⟩ : ∃ zs, zs = wr.heap.size := ⟨_, rfl⟩
        rw [← hzs] at bZ
        have z0 := cells8 bZ
        obtain ⟨z0, z1, z2, z3, z4, z5, z6, z7⟩ := z0
        have ne : zs ≠ bo ∧ v.ownBlock ≠ some zs := ⟨by have := dj.to_.blk.lt; omega, fun e => by have := dj.to_.row.lt zs e; omega⟩
        have HP := hide hp
        have GZ := hide gZ
        have BZ := hide (And.intro bZ ne)
        by_cases hq : M s.nu = true
        · have hc1 := take1_yes n0 bm bo f pre cb s R fa fc Z v Ro3 _ (unhide HM).en mZ (fun Y gY => by have := (unhide HM).ca Y s.nu (grown_trans (grown_trans gww gZ) gY); rw [hq] at this; exact this) ((unhide HF).grown gZ) tZ lenO
          have HQ := hide hq
          clear hc HF mZ mw gww tZ lenO hq gZ bZ ne dj hg hr hR hw h0 hbm hp
          simp only [St.cs] at hc1
          go_upto_region 8 with fail
          rw [← hZ, ← hzs]
          replace hZ := hide hZ
          replace hzs := hide hzs
          clear y0 y1 y2 y3 y4 y5 y6 y7
          go_wp2_with (refine hc1.mono ?_; rintro e X2 ⟨rfl, v4, Ro4, t4, k4, o4⟩)
          all_goals go_roundw
          case rel =>
            obtain ⟨hg, hr, hR, hw, h0, hbm⟩ := unhide SD
            exact ⟨j + 1, K, v4, Ro4, hlt, by omega, rfl, by go_num, (unhide I).yes (unhide HP) (unhide HQ) (unhide GZ) t4 k4 o4 hg hR hw⟩
          case measure => simp [intOf]; omega
        · have hq : M s.nu = false := by simpa using hq
          have hc1 := take1_no bm bo f pre cb s fa fc Z (unhide HM).en mZ (fun Y gY => by have := (unhide HM).ca Y s.nu (grown_trans (grown_trans gww gZ) gY); rw [hq] at this; exact this)
          have HQ := hide hq
          clear hc HF mZ mw gww tZ lenO hq gZ bZ ne dj hg hr hR hw h0 hbm hp
          simp only [St.cs] at hc1
          go_upto_region 8 with fail
          rw [← hZ, ← hzs]
          replace hZ := hide hZ
          replace hzs := hide hzs
          clear y0 y1 y2 y3 y4 y5 y6 y7
          go_upto_region 9 with (refine hc1.mono ?_; rintro e X2 ⟨rfl, gX2⟩)
          obtain ⟨hg, hr, hR, hw, h0, hbm⟩ := unhide SD
          obtain ⟨X, C, Y, b1, b2, b3, b4⟩ := (unhide I).no (unhide HP) (unhide HQ) (grown_trans (unhide GZ) gX2) hg hr hR hw
          obtain ⟨x0, x1, x2, x3, x4, x5, x6, x7⟩ := cells8 ((unhide BZ).1.grown gX2)
          have B1 := hide b1
          have B2 := hide b2
          have B3 := hide b3
          have B4 := hide b4
          clear b1 b2 b3 b4 hg hr hR hw h0 hbm z0 z1 z2 z3 z4 z5 z6 z7 hc1 gX2
          go_wp2_with (refine wpList_store_mid rfl 36 _ _ rfl g (K.length * 8) #[.int .i64 s.nu, .int .i64 s.ti, .int .i64 s.si, .bool s.el, .bool s.co, .bool s.pr, .int .i64 s.tl, .slice fa s.fs.length fc] rfl rfl 36 X C Y (unhide B1) (unhide B2) (unhide B3) Try.sizeSe (by simp [Value.oneCell']) ?_)
          all_goals go_roundw
          case rel => exact ⟨j + 1, K ++ [(s, .slice fa s.fs.length fc)], v, Ro3, hlt, by simp; omega, by simp, by go_num, B4⟩
          case measure => simp [intOf]; omega
      · obtain rfl : j = n := by omega
        have hjI : ¬ (j : Int) < (j : Int) := by omega
        obtain ⟨hg, hr, hR, hw, h0, hbm⟩ := unhide SD
        have dj := unhide I
        obtain ⟨X, C, Y, b1, b2, b3, b4⟩ := dj.di.ends (unhide LPS).1.symm hr (unhide CN).1
        obtain ⟨Zc, hzl, hcl⟩ := run_clearN 8 (by decide) wr 49 36 _ Try.underlying49 zeroSe rfl (by intro u hu; simp [Value.cells] at hu; rcases hu with rfl | rfl | rfl | rfl <;> rfl) g (K.length * 8) (j - K.length) X C Y 36 b1 b2 b3
        have FIN := hide (b4 Zc hzl)
        have hKI : (K.length : Int) ≤ (j : Int) := by omega
        have hKn : K.length ≤ j := by omega
        have hcn := (unhide CN).2.1
        clear b1 b2 b3 b4 hg hr hR hw h0 hbm hzl dj
        go_upto_region 11 with fail
        go_wp2_with (at_builtin; refine wpList_clear_run _ rfl _ 49 rfl _ rfl (hcl _ _) ?_)
        go_ret
        obtain ⟨hg, hr, hR, hw, h0, hbm⟩ := unhide SD
        have dj := unhide I
        have hks := (unhide LPS).2
        have hl : (ks.filter (fun s => !M s.nu)).length = K.length := by
          rw [← hks, List.filter_map, List.length_map, dj.di.hK, List.take_of_length_le (by rw [(unhide LPS).1]; exact Nat.le_refl _)]
          rfl
        unfold DelP
        rw [hl]
        have F := unhide FIN
        rw [hks] at F
        have kset : Kp (fun x => x = g) wr (wr.setRow g (X ++ (Zc ++ Y)).toArray) := Kp.grownS (grown_setRow wr g _) rfl
        refine ⟨rfl, F, ⟨v, Ro3, ?_⟩, Kp.trans dj.kp (kset.mono fun x _ e => .inl e)⟩
        have ht := dj.to_
        rw [List.take_of_length_le (by rw [(unhide LPS).1]; exact Nat.le_refl _), hks] at ht
        refine ht.kept kset ?_
        rintro x rfl
        exact ⟨fun e => by have := (ht.rg x e).1; omega, by have := ht.lo; omega, fun e => by have := dj.ow x e; omega⟩
end Go.Proofs.Ytnflbefbgcbdfaa
