/- PacketEncodes: the walk. -/
import Derived.Test.YtdmjejfnohhpiaaKE4
import Derived.Test.YtdmjejfnohhpiaaKL4
import Derived.Test.YtdmjejfnohhpiaaKWP
namespace Go.Proofs.Ytdmjejfnohhpiaa
open Go.RowKit
set_option linter.unusedVariables false
set_option maxRecDepth 100000
set_option maxHeartbeats 4000000

theorem code_any (n : Int) (w : World) : Calls Try.prog 17 #[.int .i64 n] w fun e w' => e = .returned (.int .i64 n) ∧ w' = w := by
  go_enter Try.func17, Try.ntmps17
  go_wp2
  go_ret
  exact ⟨rfl, rfl⟩

/-- Bytes that came out, told with their error. -/
def EncOwn (w : World) (E : Int) (l : List Int) (e : Ending) (w' : World) : Prop :=
  ∃ a c, e = .returned (.tuple #[.slice a l.length c, .int .i64 E]) ∧ OwnB w.heap.size w' (.slice a l.length c) l ∧ w.grownBy w' none

theorem encB_len (p : Pk) : (encB p).length ≤ p.payload.length + 60 := by
  unfold encB
  split
  · rename_i h; exact bytesP_lt p (enc_good h)
  · simp
theorem encB_byte (p : Pk) (hd : ∀ x ∈ p.dst, IsB x) (hs : ∀ x ∈ p.src, IsB x) (hy : ∀ x ∈ p.payload, IsB x) : ∀ x ∈ encB p, IsB x := by
  unfold encB
  split
  · rename_i h; exact bytesP_byte (enc_good h) hd hs hy
  · simp

theorem EncPost.own {w : World} {p : Pk} {e : Ending} {w' : World} (h : EncPost w p e w') (hm : p.payload.length ≤ 140737488351232) : EncOwn w (encE p) (encB p) e w' := by
  obtain ⟨⟨h1, rfl⟩ | ⟨h0, good, g, h2, rfl, h3⟩, gr⟩ := h
  · have : encB p = [] := by unfold encB; rw [if_neg h1]
    rw [this]
    exact ⟨none, 0, rfl, OwnB.nil _ _, gr⟩
  · have : encB p = bytesP p := by unfold encB; rw [if_pos h0]
    rw [this, h0]
    have hl := bytesP_lt p good
    exact ⟨_, _, rfl, bts_own _ h3 h2 (by unfold maxLen; omega), gr⟩

theorem enc_own (p : Pk) (d s y : Value) (w : World) (hd : InB w d p.dst) (hs : InB w s p.src) (hy : InB w y p.payload) (l1 : p.dst.length ≤ 140737488351232) (l2 : p.src.length ≤ 140737488351232) (l3 : p.payload.length ≤ 140737488351232) :
    Calls Try.prog 13 #[p.val d s y] w (EncOwn w (encE p) (encB p)) :=
  (encode_any p d s y w hd hs hy (by omega) (by omega) (by omega)).mono fun e w' h => h.own l3
theorem renc_own (p : Pk) (d s y : Value) (w : World) (hd : InB w d p.dst) (hs : InB w s p.src) (hy : InB w y p.payload) (l1 : p.dst.length ≤ 140737488351232) (l2 : p.src.length ≤ 140737488351232) (l3 : p.payload.length ≤ 140737488351232) :
    Calls Try.prog 11 #[p.val d s y] w (EncOwn w (encE p) (encB p)) :=
  (renc_any p d s y w hd hs hy l1 l2 l3).mono fun e w' ⟨v, he, ho, g⟩ => by
    obtain ⟨a, c, e2⟩ := ho.shape
    exact ⟨a, c, by rw [he, e2], by rw [← e2]; exact ho, g⟩

theorem OwnB.kpt {base : Nat} {w w' : World} {v : Value} {d : List Int} (h : OwnB base w v d) (hk : ∀ g, v.ownBlock = some g → w'.heap[g]? = w.heap[g]?) : OwnB base w' v d := by
  refine ⟨h.1, ?_⟩
  rcases h.2 with h2 | ⟨g, cap, cur, rfl, q1, q2, q3⟩
  · exact .inl h2
  · exact .inr ⟨g, cap, cur, rfl, q1, by rw [hk g rfl]; exact q2, q3⟩
theorem OwnB.ltb {base : Nat} {w : World} {v : Value} {d : List Int} (h : OwnB base w v d) : ∀ g, v.ownBlock = some g → base ≤ g ∧ g < w.heap.size := World.ownsRow.lt h
theorem own_sep {b1 b2 : Nat} {w1 w2 : World} {v1 v2 : Value} {d1 d2 : List Int} (h1 : OwnB b1 w1 v1 d1) (h2 : OwnB b2 w2 v2 d2) (h : w1.heap.size ≤ b2) : v1.ownBlock = none ∨ v1.ownBlock ≠ v2.ownBlock := by
  cases e : v1.ownBlock with
  | none => exact .inl rfl
  | some g =>
    right
    intro e2
    have := (h1.ltb g e).2
    have := (h2.ltb g e2.symm).1
    omega

theorem encE_same {p q : Pk} (h1 : q.space = p.space) (h2 : q.number = p.number) (h3 : q.width = p.width) (h4 : q.dst.length = p.dst.length) (h5 : q.src.length = p.src.length) (h6 : q.payload.length = p.payload.length) : encE q = encE p := by
  have k1 : badK q ↔ badK p := by unfold badK; rw [h1]
  have k2 : badF q ↔ badF p := by unfold badF; rw [h1, h3, h4, h5]
  have k3 : badN q ↔ badN p := by unfold badN; rw [h1, h2, h3, h6]
  unfold encE
  simp only [k1, k2, k3]

theorem encodes_walk (p : Pk) (d s y : Value) (w : World) (hd : InB w d p.dst) (hs : InB w s p.src) (hy : InB w y p.payload) (l1 : p.dst.length ≤ 140737488351232) (l2 : p.src.length ≤ 140737488351232) (l3 : p.payload.length ≤ 140737488351232) :
    Calls Try.prog 3 #[p.val d s y] w fun e w' => e = .returned (.bool true) ∧ w.grownBy w' none := by
  have hdb := hd.bytes; have hsb := hs.bytes; have hyb := hy.bytes
  obtain ⟨a1, c1, rfl, -⟩ := id hd
  obtain ⟨a2, c2, rfl, -⟩ := id hs
  obtain ⟨a3, c3, rfl, -⟩ := id hy
  have b0 := Blk.new w (p.cs (.slice a1 p.dst.length c1) (.slice a2 p.src.length c2) (.slice a3 p.payload.length c3)) 24
  have g0 := World.grownBy_alloc w (.cells (p.cs (.slice a1 p.dst.length c1) (.slice a2 p.src.length c2) (.slice a3 p.payload.length c3)) 24) none
  have hbE := encB_byte p hdb hsb hyb
  have hlE := encB_len p
  have HBE := hide hbE
  go_enter Try.func3, Try.ntmps3
  go_wp2_with fail
  refine (awake_any _).mono ?_
  rintro e W1 ⟨rfl, g1⟩
  have gA := g0.trans g1
  have b1 := b0.grown g1
  have x10 := b1.cell 0 (.int .i64 p.space) rfl
  have x11 := b1.cell 1 (.slice a1 p.dst.length c1) rfl
  have x12 := b1.cell 2 (.slice a2 p.src.length c2) rfl
  have x13 := b1.cell 3 (.int .i64 p.number) rfl
  have x14 := b1.cell 4 (.int .i64 p.width) rfl
  have x15 := b1.cell 5 (.slice a3 p.payload.length c3) rfl
  have ld := lend05 w w.heap.size p _ _ _ W1 (hd.grown gA) (hs.grown gA) (hy.grown gA) l1 l2 l3 (grown_bel gA) gA.size
  clear b0 g0 g1 hdb hsb hyb hbE
  go_wp2_with fail
  refine ld.mono ?_
  intro e W2 hld
  obtain ⟨gl, t1, t2, t3, u1, u2, u3, rfl, L, g2⟩ := hld
  have b2 := b1.grown g2
  have gB := gA.trans g2
  have x20 := b2.cell 0 (.int .i64 p.space) rfl
  have x21 := b2.cell 1 (.slice a1 p.dst.length c1) rfl
  have x22 := b2.cell 2 (.slice a2 p.src.length c2) rfl
  have x23 := b2.cell 3 (.int .i64 p.number) rfl
  have x24 := b2.cell 4 (.int .i64 p.width) rfl
  have x25 := b2.cell 5 (.slice a3 p.payload.length c3) rfl
  have re := renc_own p _ _ _ W2 (hd.grown gB) (hs.grown gB) (hy.grown gB) l1 l2 l3
  have hmine : ∀ i, LoanD.mine gl t1 t2 t3 i → i < W2.heap.size := fun i hm => by
    have q0 := L.blk.lt
    obtain ⟨-, -, -, -, q1, q2⟩ := L.k1.lts
    obtain ⟨-, -, -, -, q3, q4⟩ := L.k2.lts
    obtain ⟨-, -, -, -, q5, q6⟩ := L.k3.lts
    unfold LoanD.mine at hm
    rcases hm with rfl | rfl | rfl | rfl | rfl | rfl | rfl <;> assumption
  have HM := hide hmine
  have L2 := hide L
  clear ld b1 gA g2 x10 x11 x12 x13 x14 x15 hmine L
  go_wp2_with fail
  refine re.mono ?_
  intro e W3 hre
  obtain ⟨wa, wc, rfl, ow, g3⟩ := hre
  have b3 := b2.grown g3
  have gC := gB.trans g3
  have x30 := b3.cell 0 (.int .i64 p.space) rfl
  have x31 := b3.cell 1 (.slice a1 p.dst.length c1) rfl
  have x32 := b3.cell 2 (.slice a2 p.src.length c2) rfl
  have x33 := b3.cell 3 (.int .i64 p.number) rfl
  have x34 := b3.cell 4 (.int .i64 p.width) rfl
  have x35 := b3.cell 5 (.slice a3 p.payload.length c3) rfl
  have ro := rover_any p _ _ _ W3 (hd.grown gC) (hs.grown gC) ⟨a3, p.payload.length, c3, rfl⟩ l1 l2
  have L3 := hide ((unhide L2).grown g3)
  clear re b2 gB x20 x21 x22 x23 x24 x25 L2
  go_wp2_with fail
  refine ro.mono ?_
  rintro e W4 ⟨rfl, g4⟩
  have gD := gC.trans g4
  have ow4 := ow.far g4 (fun q e => by cases e)
  have L4 := hide ((unhide L3).grown g4)
  have i1 := (unhide L4).k1.inB
  have i2 := (unhide L4).k2.inB
  have i3 := (unhide L4).k3.inB
  rw [(unhide L4).e1] at i1
  rw [(unhide L4).e2] at i2
  rw [(unhide L4).e3] at i3
  have y0 := (unhide L4).blk.cell 0 (.int .i64 p.space) rfl
  have y1 := (unhide L4).blk.cell 1 t1.v rfl
  have y2 := (unhide L4).blk.cell 2 t2.v rfl
  have y3 := (unhide L4).blk.cell 3 (.int .i64 p.number) rfl
  have y4 := (unhide L4).blk.cell 4 (.int .i64 p.width) rfl
  have y5 := (unhide L4).blk.cell 5 t3.v rfl
  have en := enc_own p t1.v t2.v t3.v W4 i1 i2 i3 l1 l2 l3
  have h24 : W2.heap.size ≤ W4.heap.size := Nat.le_trans g3.size g4.size
  clear ro b3 gC x30 x31 x32 x33 x34 x35 L3 ow g3 g4 hd hs hy
  have hn1 : t1.n = p.dst.length := by rw [← (unhide L4).e1]; exact (unhide L4).k1.len.symm
  have hn2 : t2.n = p.src.length := by rw [← (unhide L4).e2]; exact (unhide L4).k2.len.symm
  have hov : ovF p = ovG p.space t1.n t2.n p.width := by rw [ovF_G, hn1, hn2]
  have HN := hide (And.intro hn1 hn2)
  have HOV := hide hov
  clear hn1 hn2 hov
  generalize ovF p = OV at *
  go_wp2_with fail
  refine en.mono ?_
  intro e W5 hen
  obtain ⟨aa, ac, rfl, oa, g5⟩ := hen
  have gE := gD.trans g5
  have ow5 := ow4.far g5 (fun q e => by cases e)
  have L5 := hide ((unhide L4).grown g5)
  have en2 := enc_own p t1.v t2.v t3.v W5 (i1.grown g5) (i2.grown g5) (i3.grown g5) l1 l2 l3
  have z0 := cell_grown y0 g5
  have z1 := cell_grown y1 g5
  have z2 := cell_grown y2 g5
  have z3 := cell_grown y3 g5
  have z4 := cell_grown y4 g5
  have z5 := cell_grown y5 g5
  clear en gD ow4 L4 y0 y1 y2 y3 y4 y5
  go_wp2_with fail
  refine en2.mono ?_
  intro e W6 hen
  obtain ⟨ba, bc, rfl, ob, g6⟩ := hen
  have gF := gE.trans g6
  have ow6 := ow5.far g6 (fun q e => by cases e)
  have oa6 := oa.far g6 (fun q e => by cases e)
  have sab := own_sep oa ob (Nat.le_refl _)
  have L6 := hide ((unhide L5).grown g6)
  have y0 := cell_grown z0 g6
  have y1 := cell_grown z1 g6
  have y2 := cell_grown z2 g6
  have y3 := cell_grown z3 g6
  have y4 := cell_grown z4 g6
  have y5 := cell_grown z5 g6
  have hsz5 : W4.heap.size ≤ W5.heap.size := g5.size
  clear en2 gE ow5 L5 z0 z1 z2 z3 z4 z5 oa
  have hv1 := overhead_raw p.space p.number p.width t1.n t2.n (some ⟨t1.gf, 0, none⟩) (some ⟨t2.gf, 0, none⟩) t1.cf t2.cf t3.v W6 (by have := (unhide HN).1; omega) (by have := (unhide HN).2; omega) OV (unhide HOV)
  clear HOV
  go_wp2_with fail
  refine hv1.mono ?_
  rintro e W7 ⟨rfl, g7⟩
  have gG := gF.trans g7
  have ow7 := ow6.far g7 (fun q e => by cases e)
  have oa7 := oa6.far g7 (fun q e => by cases e)
  have ob7 := ob.far g7 (fun q e => by cases e)
  have L7 := hide ((unhide L6).grown g7)
  have sm1 := sameB _ _ (encB p) W7 (oa7.inB (unhide HBE)) (ow7.inB (unhide HBE))
  clear hv1 gF ow6 L6 oa6 y0 y1 y2 y3 y4 y5
  go_wp2_with fail
  refine sm1.mono ?_
  rintro e W8 ⟨rfl, g8⟩
  have gH := gG.trans g8
  have ow8 := ow7.far g8 (fun q e => by cases e)
  have oa8 := oa7.far g8 (fun q e => by cases e)
  have ob8 := ob7.far g8 (fun q e => by cases e)
  have L8 := hide ((unhide L7).grown g8)
  have sm2 := sameB _ _ (encB p) W8 (ob8.inB (unhide HBE)) (ow8.inB (unhide HBE))
  clear sm1 gG ow7 L7 oa7 ob7
  go_wp2_with fail
  refine sm2.mono ?_
  rintro e W9 ⟨rfl, g9⟩
  have gI := gH.trans g9
  have oa9 := oa8.far g9 (fun q e => by cases e)
  have ob9 := ob8.far g9 (fun q e => by cases e)
  have L9 := hide ((unhide L8).grown g9)
  have kp := kept05 w w.heap.size W9 gl p t1 t2 t3 u1 u2 u3 (unhide L9)
  clear sm2 gH ow8 L8 oa8 ob8
  go_wp2_with fail
  refine kp.mono ?_
  rintro e Wa ⟨rfl, ga⟩
  have gJ := gI.trans ga
  have oaa := oa9.far ga (fun q e => by cases e)
  have oba := ob9.far ga (fun q e => by cases e)
  have La := hide ((unhide L9).grown ga)
  have tu := turn05 w w.heap.size Wa gl p t1 t2 t3 u1 u2 u3 (unhide La) l1 l2 l3
  have hsA : W4.heap.size ≤ Wa.heap.size := by have := g5.size; have := g6.size; have := g7.size; have := g8.size; have := g9.size; have := ga.size; omega
  have hsB : W5.heap.size ≤ Wa.heap.size := by have := g6.size; have := g7.size; have := g8.size; have := g9.size; have := ga.size; omega
  have hgA : w.heap.size ≤ W4.heap.size := by have := gJ.size; have := ((unhide La).k1.lts).1; exact Nat.le_trans (Nat.le_trans (unhide La).low (Nat.le_of_lt (unhide HM gl (.inl rfl)))) h24
  have tE : (encE p != encE p) = false := by simp
  have tO1 : (OV.1 != OV.1) = false := by simp
  have tO2 : (OV.2 != OV.2) = false := by simp
  have SAB := hide sab
  have HLE := hide hlE
  clear kp gI L9 oa9 ob9 i1 i2 i3 sab hlE g5 g6 g7 g8 g9 ga
  obtain ⟨E, hE⟩ : ∃ E, encE p = E := ⟨_, rfl⟩
  rw [hE]
  rw [hE] at tE
  have HE := hide hE
  clear hE
  go_wp2_with (first | (go_at_call 17; refine (code_any _ _).mono ?_; rintro e w' ⟨rfl, hw'⟩; subst hw'))
  refine tu.mono ?_
  intro e Wb htu
  obtain ⟨p', F1, F2, F3, v1, v2, v3, rfl, Lb, ⟨m4, m5, m6, ln1, ln2, ln3⟩, hsz, keep⟩ := htu
  have oab := oaa.kpt (fun g e => keep g (oaa.ltb g e).2 (fun hm => by have := (oaa.ltb g e).1; have := unhide HM g hm; omega))
  have obb := oba.kpt (fun g e => keep g (oba.ltb g e).2 (fun hm => by have := (oba.ltb g e).1; have := unhide HM g hm; omega))
  have gK : w.grownBy Wb none := below_grown Lb.bel
  have i1 := Lb.k1.inB
  have i2 := Lb.k2.inB
  have i3 := Lb.k3.inB
  have hb1 := Lb.k1.bytes
  have hb2 := Lb.k2.bytes
  have hb3 := Lb.k3.bytes
  rw [Lb.e1] at i1 hb1
  rw [Lb.e2] at i2 hb2
  rw [Lb.e3] at i3 hb3
  have hE' : encE p' = E := (encE_same m4 m5 m6 ln1 ln2 ln3).trans (unhide HE)
  have hlE' := encB_len p'
  have HBE' := hide (encB_byte p' hb1 hb2 hb3)
  have y0 := Lb.blk.cell 0 (.int .i64 p'.space) rfl
  have y1 := Lb.blk.cell 1 t1.v rfl
  have y2 := Lb.blk.cell 2 t2.v rfl
  have y3 := Lb.blk.cell 3 (.int .i64 p'.number) rfl
  have y4 := Lb.blk.cell 4 (.int .i64 p'.width) rfl
  have y5 := Lb.blk.cell 5 t3.v rfl
  have cp := copied05 p' t1.v t2.v t3.v Wb i1 i2 i3 (by omega) (by omega) (by omega)
  have LB := hide Lb
  have HB := hide (And.intro hb1 (And.intro hb2 hb3))
  have LN := hide (And.intro ln1 (And.intro ln2 ln3))
  have k1' : p'.dst.length ≤ 140737488351232 := by omega
  have k2' : p'.src.length ≤ 140737488351232 := by omega
  have k3' : p'.payload.length ≤ 140737488351232 := by omega
  have hss := hsz
  clear tu keep Lb hb1 hb2 hb3 m4 m5 m6 ln1 ln2 ln3 hsz oaa oba La gJ HE tE tO1 tO2
  go_wp2_with fail
  refine cp.mono ?_
  intro e Wc hc
  obtain ⟨d1, f1, d2, f2, d3, f3, rfl, o1, o2, o3, gc⟩ := hc
  have re := renc_own p' _ _ _ Wc (o1.inB (unhide HB).1) (o2.inB (unhide HB).2.1) (o3.inB (unhide HB).2.2) k1' k2' k3'
  rw [hE'] at re
  have oac := oab.far gc (fun q e => by cases e)
  have obc := obb.far gc (fun q e => by cases e)
  have Lc := hide ((unhide LB).grown gc)
  have gL := gK.trans gc
  clear cp o1 o2 o3 oab obb LB gK
  go_wp2_with fail
  refine re.mono ?_
  intro e Wd hre
  obtain ⟨ta, tc, rfl, ot, gd⟩ := hre
  have gM := gL.trans gd
  have gcd := gc.trans gd
  have oad := oac.far gd (fun q e => by cases e)
  have obd := obc.far gd (fun q e => by cases e)
  have Ld := hide ((unhide Lc).grown gd)
  have z0 := cell_grown y0 gcd
  have z1 := cell_grown y1 gcd
  have z2 := cell_grown y2 gcd
  have z3 := cell_grown y3 gcd
  have z4 := cell_grown y4 gcd
  have z5 := cell_grown y5 gcd
  have en := enc_own p' t1.v t2.v t3.v Wd (i1.grown gcd) (i2.grown gcd) (i3.grown gcd) k1' k2' k3'
  rw [hE'] at en
  have hbd : Wb.heap.size ≤ Wd.heap.size := gcd.size
  clear re oac obc Lc gL y0 y1 y2 y3 y4 y5 i1 i2 i3 gc
  go_wp2_with fail
  refine en.mono ?_
  intro e We hen
  obtain ⟨ca, cc, rfl, oc, ge⟩ := hen
  have gN := gM.trans ge
  have oae := oad.far ge (fun q e => by cases e)
  have obe := obd.far ge (fun q e => by cases e)
  have ote := ot.far ge (fun q e => by cases e)
  have Le := hide ((unhide Ld).grown ge)
  have sac := own_sep oad oc (Nat.le_refl _)
  have sbc := own_sep obd oc (Nat.le_refl _)
  have sm := sameB _ _ (encB p') We (oc.inB (unhide HBE')) (ote.inB (unhide HBE'))
  clear en oad obd Ld gM z0 z1 z2 z3 z4 z5 ot gd gcd
  go_wp2_with fail
  refine sm.mono ?_
  rintro e Wf ⟨rfl, gf⟩
  have gO := gN.trans gf
  have oaf := oae.far gf (fun q e => by cases e)
  have obf := obe.far gf (fun q e => by cases e)
  have ocf := oc.far gf (fun q e => by cases e)
  have Lf := hide ((unhide Le).grown gf)
  have kp := kept05 w w.heap.size Wf gl p' _ _ _ v1 v2 v3 (unhide Lf)
  clear sm oae obe ote oc Le gN
  go_wp2_with fail
  refine kp.mono ?_
  rintro e Wg ⟨rfl, gg⟩
  have gP := gO.trans gg
  have oag := oaf.far gg (fun q e => by cases e)
  have obg := obf.far gg (fun q e => by cases e)
  have ocg := ocf.far gg (fun q e => by cases e)
  have tE : (E != E) = false := by simp
  have gQ := World.grownBy_alloc Wg (.cells #[.slice aa (encB p).length ac, .slice ba (encB p).length bc, .slice ca (encB p').length cc] 22) none
  have oah := (oag.far gQ (fun q e => by cases e)).mono (base' := w.heap.size) hgA
  have obh := (obg.far gQ (fun q e => by cases e)).mono (base' := w.heap.size) (by omega)
  have och := (ocg.far gQ (fun q e => by cases e)).mono (base' := w.heap.size) (by omega)
  have hl0 := unhide HLE
  have hln := unhide LN
  have ap := apart_list [.slice aa (encB p).length ac, .slice ba (encB p).length bc, .slice ca (encB p').length cc] w (Wg.alloc (.cells #[.slice aa (encB p).length ac, .slice ba (encB p).length bc, .slice ca (encB p').length cc] 22)) w.heap.size Wg.heap.size 3 gP.size (heap_alloc_new Wg _)
    (fun v hv => by
      simp only [List.mem_cons, List.not_mem_nil, or_false] at hv
      rcases hv with rfl | rfl | rfl
      · exact ⟨_, _, oah, by omega⟩
      · exact ⟨_, _, obh, by omega⟩
      · exact ⟨_, _, och, by omega⟩)
    (by
      refine List.pairwise_cons.2 ⟨fun v hv => ?_, List.pairwise_cons.2 ⟨fun v hv => ?_, List.pairwise_singleton _ _⟩⟩
      · simp only [List.mem_cons, List.not_mem_nil, or_false] at hv
        rcases hv with rfl | rfl
        · exact unhide SAB
        · exact sac
      · simp only [List.mem_cons, List.not_mem_nil, or_false] at hv
        rcases hv with rfl
        exact sbc)
    (by simp) (grown_bel (gP.trans gQ))
  have AP := hide ap
  clear ap oah obh och oag obg ocg oaf obf ocf kp gO gP gQ gg gf ge Lf sac sbc SAB hl0 hln LN HLE HM HB HBE HBE' hE'
  generalize (encB p).length = n1 at *
  generalize (encB p').length = n2 at *
  go_wp2_with fail
  refine (unhide AP).mono ?_
  rintro e Wh ⟨rfl, bel⟩
  go_wp2_with fail
  go_ret
  exact ⟨rfl, below_grown bel⟩
end Go.Proofs.Ytdmjejfnohhpiaa
