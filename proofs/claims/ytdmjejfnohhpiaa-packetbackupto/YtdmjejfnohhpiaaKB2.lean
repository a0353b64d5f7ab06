/- PacketBack: the walk. -/
import Derived.Test.YtdmjejfnohhpiaaKB1
import Derived.Test.YtdmjejfnohhpiaaKC5
import Derived.Deep.RegionHeld3
import Derived.Deep.DeepCutAuto
namespace Go.Proofs.Ytdmjejfnohhpiaa
open Go.RowKit
set_option linter.unusedVariables false
set_option maxRecDepth 100000
set_option maxHeartbeats 1000000

theorem OwnB.farT {base : Nat} {w W : World} {v : Value} {d : List Int} {gq : Nat} {cs : Array Value} {t : TypeId} (h : OwnB base w v d) (hq : Blk w gq cs t) (ht : t ≠ 5) (hg : w.grownBy W (some gq)) : OwnB base W v d := by
  refine World.ownsRow.kept h hg ?_
  rcases h.2 with ⟨rfl, -⟩ | ⟨g, cap, cur, rfl, -, hh, -⟩
  · exact .inl rfl
  · right
    intro e
    have e' : g = gq := by simpa [Value.ownBlock] using e
    subst e'
    have hq' : w.heap[g]? = some (.cells cs t (0, 0)) := hq
    rw [hh] at hq'
    simp only [Option.some.injEq, Obj.cells.injEq, and_true] at hq'
    exact ht hq'.2.symm

theorem okTo_step {G : Lg} {k : Nat} (hk : k < 3) (ho : okTo G k) {w : World} {g : Nat} {t : TypeId} (b : Blk w g #[.int .i64 G.1, .int .i64 G.2.1, .int .i64 G.2.2] t) :
    ∃ v, w.cell? ⟨g, k, none⟩ = some (.int .i64 v) ∧ Hid (okN v → okTo G (k + 1)) := by
  obtain rfl | rfl | rfl : k = 0 ∨ k = 1 ∨ k = 2 := by omega
  · exact ⟨_, b.cell 0 _ rfl, fun h => h⟩
  · exact ⟨_, b.cell 1 _ rfl, fun h => ⟨ho, h⟩⟩
  · exact ⟨_, b.cell 2 _ rfl, fun h => ⟨ho.1, ho.2, h⟩⟩

theorem back_walk (p : Pk) (d s y : Value) (G : Lg) (vA vB : Value) (la lb : List Int) (w : World) (hd : InB w d p.dst) (hs : InB w s p.src) (hy : InB w y p.payload) (hA : InB w vA la) (hB : InB w vB lb) (l1 : p.dst.length ≤ 140737488351232) (l2 : p.src.length ≤ 140737488351232) (l3 : p.payload.length ≤ 1048576) (l4 : la.length ≤ 1048576) (l5 : lb.length ≤ 1048576) :
    Calls Try.prog 6 #[p.val d s y, G.v, vA, vB] w fun e w' => e = .returned (.bool true) ∧ w.grownBy w' none := by
  have aw := fun W => awake_any W
  have hdb := hd.bytes; have hsb := hs.bytes; have hyb := hy.bytes; have hab := hA.bytes
  obtain ⟨a1, c1, rfl, -⟩ := id hd
  obtain ⟨a2, c2, rfl, -⟩ := id hs
  obtain ⟨a3, c3, rfl, -⟩ := id hy
  obtain ⟨aA, cA, rfl, -⟩ := id hA
  obtain ⟨aB, cB, rfl, -⟩ := id hB
  obtain ⟨b0, bG0, g0⟩ := Blk.two w (p.cs (.slice a1 p.dst.length c1) (.slice a2 p.src.length c2) (.slice a3 p.payload.length c3)) #[.int .i64 G.1, .int .i64 G.2.1, .int .i64 G.2.2] 24 46
  have hov := fun W => overhead_any p a1 a2 c1 c2 (.slice a3 p.payload.length c3) W (by omega) (by omega)
  go_enter Try.func6, Try.ntmps6
  go_wp2_with fail
  refine (aw _).mono ?_
  rintro e W1 ⟨rfl, g1⟩
  have gA := g0.trans g1
  have b1 := b0.grown g1
  have bG1 := bG0.grown g1
  have x0 := b1.cell 0 (.int .i64 p.space) rfl
  have x1 := b1.cell 1 (.slice a1 p.dst.length c1) rfl
  have x2 := b1.cell 2 (.slice a2 p.src.length c2) rfl
  have x3 := b1.cell 3 (.int .i64 p.number) rfl
  have x4 := b1.cell 4 (.int .i64 p.width) rfl
  have x5 := b1.cell 5 (.slice a3 p.payload.length c3) rfl
  have en := encode_any p _ _ _ W1 (hd.grown gA) (hs.grown gA) (hy.grown gA) (by omega) (by omega) (by omega)
  clear b0 bG0 g0 g1 aw
  go_wp2_with fail
  refine en.mono ?_
  intro e W2 he
  by_cases hz : encE p = 0
  · have good := enc_good hz
    have hbb := bytesP_byte good hdb hsb hyb
    have hlt := bytesP_lt p good
    have hN := bytesP_len p good
    rw [ov_good good] at hov
    obtain ⟨g, rfl, ib, g2⟩ := he.ok good hbb (by unfold maxLen; omega)
    have b2 := b1.grown g2
    have bG2 := bG1.grown g2
    have z0 := b2.cell 0 (.int .i64 p.space) rfl
    have z1 := b2.cell 1 (.slice a1 p.dst.length c1) rfl
    have z2 := b2.cell 2 (.slice a2 p.src.length c2) rfl
    have z3 := b2.cell 3 (.int .i64 p.number) rfl
    have z4 := b2.cell 4 (.int .i64 p.width) rfl
    have z5 := b2.cell 5 (.slice a3 p.payload.length c3) rfl
    have gB := gA.trans g2
    have how := over_in good
    have HGOOD := hide good
    have HBB := hide hbb
    -- what stands behind
    obtain ⟨aR, lR, cR, HR, hR2, hRn, l6⟩ : ∃ aR lR cR, Hid (InB w (.slice aR lR.length cR) lR) ∧ Hid (p.space = 2 → lR = []) ∧ Hid (Value.slice aR lR.length cR = if p.space = 2 then nilV else .slice aB lb.length cB) ∧ lR.length ≤ 1048576 := by
      by_cases h2 : p.space = 2
      · exact ⟨none, [], 0, InX.nil _ _, fun _ => rfl, by show _ = _; rw [if_pos h2]; rfl, by simp⟩
      · exact ⟨aB, lb, cB, hB, fun h => absurd h h2, by show _ = _; rw [if_neg h2], l5⟩
    have hww : IntKind.i64.wrap (overP p + (p.payload.length : Int)) = overP p + (p.payload.length : Int) := by rw [IntKind.wrap_i64]; omega
    have t1 : (overP p + (p.payload.length : Int) != ((bytesP p).length : Int)) = false := by rw [hN]; simp
    have hml : ¬ (9223372036854775807 : Int) < ((bytesP p).length : Int) := by omega
    have HLT := hide hlt
    clear en he b1 bG1 x0 x1 x2 x3 x4 x5 g2 gA hbb hyb hdb hsb hz good hB hN hlt
    go_wp2_with fail
    refine (hov _).mono ?_
    rintro e W3 ⟨rfl, g3⟩
    clear hov z0 z1 z2 z3 z4 z5
    have b3 := b2.grown g3
    have bG3 := bG2.grown g3
    have gC := gB.trans g3
    have ib3 := ib.grown g3
    have z0 := b3.cell 0 (.int .i64 p.space) rfl
    have z1 := b3.cell 1 (.slice a1 p.dst.length c1) rfl
    have z5 := b3.cell 5 (.slice a3 p.payload.length c3) rfl
    clear b2 bG2 gB g3 ib
    go_upto_if 54 with fail
    go_cut [14] (fun v wc => v = .slice aR lR.length cR ∧ wc = W3)
    case first =>
      by_cases h2 : p.space = 2
      · have t2 : (p.space == 2) = true := by simpa using h2
        have E := hide ((unhide hRn).trans (if_pos h2))
        clear hRn h2
        go_wp2_with fail
        go_meet
        exact ⟨(unhide E).symm, rfl⟩
      · have t2 : (p.space == 2) = false := by simpa using h2
        have E := hide ((unhide hRn).trans (if_neg h2))
        clear hRn h2
        go_wp2_with fail
        go_meet
        exact ⟨(unhide E).symm, rfl⟩
    case rest =>
      obtain ⟨hv, hwc⟩ := hcut
      subst hv
      subst hwc
      clear hRn
      generalize wc = W6 at *
      generalize hgp : w.heap.size = gp at *
      go_wp2_with fail
      go_loopw [15] (fun i wr => ∃ k : Nat, k ≤ 3 ∧ i = .int .i64 k ∧ Hid (okTo G k) ∧ wr = W6) (fun i _ => 3 - (intOf i).toNat)
      case atStart => exact ⟨0, by omega, rfl, trivial, rfl⟩
      case round =>
        obtain ⟨k, hk, rfl, ho, rfl⟩ := hrel
        by_cases hk3 : k = 3
        · subst hk3
          have hG : okG G := ho
          have good := unhide HGOOD
          have hdl := good.d
          have hX := dec_enc la lR p good G hG p.dst.length ⟨by omega, by omega⟩ (fun c => ⟨rfl, unhide hR2 c⟩)
          have hfd := fun W => found_any p good G hG (.slice a1 p.dst.length c1) (.slice a2 p.src.length c2) (.slice a3 p.payload.length c3) W
          have hRi := (unhide HR).grown gC
          have hAi := hA.grown gC
          have hlX : (la ++ bytesP p ++ lR).length ≤ 140737488355328 := by have := unhide HLT; simp only [List.length_append]; omega
          have hbX : ∀ x ∈ la ++ bytesP p ++ lR, IsB x := fun x hx => by
            rcases List.mem_append.1 hx with hx | hx
            · rcases List.mem_append.1 hx with hx | hx
              · exact hab x hx
              · exact unhide HBB x hx
            · exact (unhide HR).bytes x hx
          have ar : ∀ W, wr.grownBy W none → Calls Try.prog 33 #[.slice aA la.length cA, .slice (some ⟨g, 0, none⟩) (bytesP p).length (bytesP p).length, .slice aR lR.length cR] W fun e w' => ∃ ac cc, e = .returned (.slice ac (la ++ bytesP p ++ lR).length cc) ∧ OwnB W.heap.size w' (.slice ac (la ++ bytesP p ++ lR).length cc) (la ++ bytesP p ++ lR) ∧ W.grownBy w' none := fun W gW => (around_any _ _ _ la (bytesP p) lR W (hAi.grown gW) (ib3.grown gW) (hRi.grown gW) (by have := unhide HLT; omega)).mono fun e w' ⟨v', he, ho, hg⟩ => by
            obtain ⟨ac, cc, e2⟩ := ho.shape
            exact ⟨ac, cc, by rw [he, e2], by rw [← e2]; exact ho, hg⟩
          have de : ∀ W v, InB W v (la ++ bytesP p ++ lR) → Calls Try.prog 24 #[v, .int .i64 (la.length : Int), .int .i64 (p.dst.length : Int), G.v] W (DecPost W (decP (la ++ bytesP p ++ lR) la.length p.dst.length G)) := fun W v hv => decode_in v _ _ _ G W hv hlX
          have n0 := bG3.cell 0 (.int .i64 G.1) rfl
          have n1 := bG3.cell 1 (.int .i64 G.2.1) rfl
          have n2 := bG3.cell 2 (.int .i64 G.2.2) rfl
          have hml2 : ¬ (9223372036854775807 : Int) < (p.dst.length : Int) := by omega
          have hml3 : ¬ (9223372036854775807 : Int) < (la.length : Int) := by omega
          have AR := hide ar; have DE := hide de; have HX := hide hX; have HBX := hide hbX; have BP := hide b3; have BG := hide bG3; have GC := hide gC; have HD := hide hd; have HS := hide hs; have HY := hide hy
          have FD := hide hfd
          have hNl : (bytesP p).length ≤ 1048636 := by have := unhide HLT; omega
          have HGP := hide hgp
          clear ar de hX hbX b3 bG3 ib3 gC hfd hRi hAi hd hs hy hA ho hG good hlX HR hR2 hgp
          generalize decP (la ++ bytesP p ++ lR) la.length p.dst.length G = r at *
          generalize (la ++ bytesP p ++ lR).length = M at *
          generalize la ++ bytesP p ++ lR = X at *
          generalize hNN : (bytesP p).length = N at *
          clear hNN
          go_upto_region 19 with fail
          go_cut [17, 18, 19] (fun v17 v18 v19 wx => QPost wr r v17 v18 v19 wx)
          case first =>
            have lw2 := cell_ltb n0
            have nw2 := Nat.ne_of_lt lw2
            have nw4 := Ne.symm nw2
            clear HX BP BG GC HD HS HY FD z0 z1 z5
            obtain ⟨P, rE, rF⟩ := r
            go_region_held3 (fun W => W.cell? ⟨gp + 1, 0, none⟩ = some (.int .i64 G.1) ∧ W.cell? ⟨gp + 1, 1, none⟩ = some (.int .i64 G.2.1) ∧ W.cell? ⟨gp + 1, 2, none⟩ = some (.int .i64 G.2.2)) (go_keep) (first
              | (go_at_call 33; first
                | (with_reducible show Calls _ _ _ (World.alloc _ _) _; refine (unhide AR _ ((grown_drewN (World.grownBy.refl _ none)).trans (World.grownBy_alloc _ _ none))).mono ?_; rintro e Wc ⟨ac, cc, rfl, oc, gc⟩; have gc' := ((grown_drewN (World.grownBy.refl wr none)).trans (World.grownBy_alloc _ _ none)).trans gc; have bq0 := (Blk.new _ (pcs 0 nilV nilV 0 0 nilV) 24).grown gc; have n0c := cell_grown n0 gc'; have n1c := cell_grown n1 gc'; have n2c := cell_grown n2 gc'; have lc2 := cell_ltb n0c; have ne2 := Nat.ne_of_lt lc2; have ne4 := Ne.symm ne2)
                | (with_reducible show Calls _ _ _ (World.drew (World.alloc _ _)) _; refine (unhide AR _ (grown_drew' (World.grownBy_alloc _ _ none))).mono ?_; rintro e Wc ⟨ac, cc, rfl, oc, gc⟩; have gc' := (grown_drew' (World.grownBy_alloc wr _ none)).trans gc; have bq0 := ((Blk.new wr (pcs 0 nilV nilV 0 0 nilV) 24).drew).grown gc; have n0c := cell_grown n0 gc'; have n1c := cell_grown n1 gc'; have n2c := cell_grown n2 gc'; have lc2 := cell_ltb n0c; have ne2 := Nat.ne_of_lt lc2; have ne4 := Ne.symm ne2)
                | (refine (unhide AR _ (grown_drewN (World.grownBy.refl _ none))).mono ?_; rintro e Wc ⟨ac, cc, rfl, oc, gc⟩; have gc' := (grown_drewN (World.grownBy.refl wr none)).trans gc; have n0c := cell_grown n0 gc'; have n1c := cell_grown n1 gc'; have n2c := cell_grown n2 gc'; have lc2 := cell_ltb n0c; have ne2 := Nat.ne_of_lt lc2; have ne4 := Ne.symm ne2))
              | (go_at_call 24; first
                | (with_reducible show Calls _ _ _ (World.alloc _ _) _; refine (unhide DE _ _ ((oc.inB (unhide HBX)).grown (World.grownBy_alloc _ _ none))).mono ?_; intro e Wd hd; obtain ⟨b1, m1, f1, b2, m2, f2, b3, m3, f3, rfl, o1, o2, o3, gd, q1, q2, q3⟩ := hd.parts; have gd' := (gc'.trans (World.grownBy_alloc _ _ none)).trans gd; have n0d := cell_grown n0 gd'; have n1d := cell_grown n1 gd'; have n2d := cell_grown n2 gd'; have ld2 := cell_ltb n0d; have bq := (Blk.new Wc (pcs 0 nilV nilV 0 0 nilV) 24).grown gd; have m0 := bq.cell 0 (.int .i64 0) rfl; have m1 := bq.cell 1 nilV rfl; have m2 := bq.cell 2 nilV rfl; have m3 := bq.cell 3 (.int .i64 0) rfl; have m4 := bq.cell 4 (.int .i64 0) rfl; have m5 := bq.cell 5 nilV rfl; have mt := bq.thaws)
                | (refine (unhide DE Wc _ (oc.inB (unhide HBX))).mono ?_; intro e Wd hd; obtain ⟨b1, m1, f1, b2, m2, f2, b3, m3, f3, rfl, o1, o2, o3, gd, q1, q2, q3⟩ := hd.parts; have gd' := gc'.trans gd; have n0d := cell_grown n0 gd'; have n1d := cell_grown n1 gd'; have n2d := cell_grown n2 gd'; have ld2 := cell_ltb n0d; (try (have bq := bq0.grown gd; have m0 := bq.cell 0 (.int .i64 0) rfl; have m1 := bq.cell 1 nilV rfl; have m2 := bq.cell 2 nilV rfl; have m3 := bq.cell 3 (.int .i64 0) rfl; have m4 := bq.cell 4 (.int .i64 0) rfl; have m5 := bq.cell 5 nilV rfl; have mt := bq.thaws)))))
            all_goals (go_wp2_with fail; go_meet)
            · subst q1 q2 q3; exact QPost.a (r := (P, rE, rF)) o1 o2 o3 gc' gd rfl rfl rfl
            · subst q1 q2 q3; exact QPost.b (r := (P, rE, rF)) o1 o2 o3 (gc'.trans (World.grownBy_alloc _ _ none)) gd rfl rfl rfl bq gc'.size (by rw [alloc_size]; omega)
            · subst q1 q2 q3; exact QPost.b (r := (P, rE, rF)) o1 o2 o3 gc' gd rfl rfl rfl bq (Nat.le_refl _) bq0.lt
          case rest =>
            obtain ⟨gq, b1, m1, f1, b2, m2, f2, b3, m3, f3, rfl, rfl, rfl, bq, hgq, o1, o2, o3, gx, q1, q2, q3⟩ := hcut
            have HX2 : r = (foundP p G, (la.length : Int) + (N : Int), 0) := by rw [unhide HX]; congr 2
            clear HX
            subst HX2
            have hdb := (unhide HD).bytes; have hsb := (unhide HS).bytes; have hyb := (unhide HY).bytes
            have hlw : gp < wr.heap.size := (unhide BP).lt
            have ngq : gq ≠ gp := by omega
            have hwq : w.heap.size ≤ gq := Nat.le_trans (unhide GC).size hgq
            have bP' := (unhide BP).grown gx
            have bG' := (unhide BG).grown gx
            have gT := (unhide GC).trans gx
            have o1' : OwnB wr.heap.size wc (.slice b1 m1 f1) p.dst := o1
            have o2' : OwnB wr.heap.size wc (.slice b2 m2 f2) p.src := o2
            have o3' : OwnB wr.heap.size wc (.slice b3 m3 f3) p.payload := o3
            have i1 := (unhide HD).grown gT
            have i2 := (unhide HS).grown gT
            have i3 := (unhide HY).grown gT
            have x0 := bP'.cell 0 (.int .i64 p.space) rfl
            have x1 := bP'.cell 1 (.slice a1 p.dst.length c1) rfl
            have x2 := bP'.cell 2 (.slice a2 p.src.length c2) rfl
            have x3 := bP'.cell 3 (.int .i64 p.number) rfl
            have x4 := bP'.cell 4 (.int .i64 p.width) rfl
            have x5 := bP'.cell 5 (.slice a3 p.payload.length c3) rfl
            have y0 := bG'.cell 0 (.int .i64 G.1) rfl
            have y1 := bG'.cell 1 (.int .i64 G.2.1) rfl
            have y2 := bG'.cell 2 (.int .i64 G.2.2) rfl
            have hwe : IntKind.i64.wrap ((la.length : Int) + (N : Int)) = (la.length : Int) + (N : Int) := by rw [IntKind.wrap_i64]; omega
            have te : ((la.length : Int) + (N : Int) != (la.length : Int) + (N : Int)) = false := by simp
            have hml4 : ¬ (9223372036854775807 : Int) < (N : Int) := by omega
            clear o1 o2 o3 gx AR DE n0 n1 n2 z0 z1 z5 BP BG GC q1 q2 q3 bG'
            go_wp2_with fail
            refine (unhide FD _).mono ?_
            rintro e W8 ⟨rfl, g8⟩
            have b8 := bP'.grown g8
            have q8 := bq.grown g8
            have gU := gT.trans g8
            have j1 := i1.grown g8
            have j2 := i2.grown g8
            have j3 := i3.grown g8
            have p1 := (o1'.far g8 (fun q e => by cases e))
            have p2 := (o2'.far g8 (fun q e => by cases e))
            have p3 := (o3'.far g8 (fun q e => by cases e))
            have w0 := b8.cell 0 (.int .i64 p.space) rfl
            have w1 := b8.cell 1 (.slice a1 p.dst.length c1) rfl
            have w2 := b8.cell 2 (.slice a2 p.src.length c2) rfl
            have w3 := b8.cell 3 (.int .i64 p.number) rfl
            have w4 := b8.cell 4 (.int .i64 p.width) rfl
            have w5 := b8.cell 5 (.slice a3 p.payload.length c3) rfl
            have v0 := q8.cell 0 (.int .i64 p.space) rfl
            have v1 := q8.cell 1 (.slice b1 m1 f1) rfl
            have v2 := q8.cell 2 (.slice b2 m2 f2) rfl
            have v3 := q8.cell 3 (.int .i64 (foundP p G).number) rfl
            have v4 := q8.cell 4 (.int .i64 p.width) rfl
            have v5 := q8.cell 5 (.slice b3 m3 f3) rfl
            clear x0 x1 x2 x3 x4 x5 y0 y1 y2 bP' bq gT i1 i2 i3 o1' o2' o3' g8 FD
            by_cases hv : wholeV (G.at p.space) (p.number % st p.width) p.width = p.number
            · rw [decide_eq_true hv]
              have fn : (foundP p G).number = p.number := hv
              rw [fn] at v3
              have sm := same05 p _ _ _ _ _ _ W8 (p1.inB hdb) (p2.inB hsb) (p3.inB hyb) j1 j2 j3
              have HU := hide gU
              clear hv fn gU j1 j2 j3 p1 p2 p3 b8 q8
              go_wp2_with fail
              refine sm.mono ?_
              rintro e W9 ⟨rfl, g9⟩
              go_wp2_with fail
              go_ret
              exact ⟨rfl, (unhide HU).trans g9⟩
            · rw [decide_eq_false hv]
              have gs := grown_at (World.grownBy.refl W8 (some gq)) 3 (.int .i64 p.number)
              have k1 := (p1.farT q8 (by decide) gs)
              have k2 := (p2.farT q8 (by decide) gs)
              have k3 := (p3.farT q8 (by decide) gs)
              have gV := grown_set gU gq 3 (.int .i64 p.number) hwq
              have qs := q8.setC 3 (.int .i64 p.number)
              have bs := b8.setO gq 3 (.int .i64 p.number) ngq
              have mt := q8.thaws
              have sm := same05 p _ _ _ _ _ _ (W8.setCell ⟨gq, 3, none⟩ (.int .i64 p.number)) (k1.inB hdb) (k2.inB hsb) (k3.inB hyb) ((unhide HD).grown gV) ((unhide HS).grown gV) ((unhide HY).grown gV)
              have r0 := qs.cell 0 (.int .i64 p.space) rfl
              have r1 := qs.cell 1 (.slice b1 m1 f1) rfl
              have r2 := qs.cell 2 (.slice b2 m2 f2) rfl
              have r3 := qs.cell 3 (.int .i64 p.number) rfl
              have r4 := qs.cell 4 (.int .i64 p.width) rfl
              have r5 := qs.cell 5 (.slice b3 m3 f3) rfl
              have s0 := bs.cell 0 (.int .i64 p.space) rfl
              have s1 := bs.cell 1 (.slice a1 p.dst.length c1) rfl
              have s2 := bs.cell 2 (.slice a2 p.src.length c2) rfl
              have s3 := bs.cell 3 (.int .i64 p.number) rfl
              have s4 := bs.cell 4 (.int .i64 p.width) rfl
              have s5 := bs.cell 5 (.slice a3 p.payload.length c3) rfl
              have HU := hide gV
              clear hv gU gV j1 j2 j3 p1 p2 p3 b8 q8 k1 k2 k3 gs qs bs
              go_wp2_with fail
              refine sm.mono ?_
              rintro e W9 ⟨rfl, g9⟩
              go_wp2_with fail
              go_ret
              exact ⟨rfl, (unhide HU).trans g9⟩
        · have hlt3 : (k : Int) < 3 := by omega
          obtain ⟨v, hc, hs⟩ := okTo_step (by omega) (unhide ho) bG3
          have GE := hide gC
          clear ho b3 bG3 ib3 gC hk3
          by_cases h1 : v < -1
          · go_wp2_with fail
            go_ret
            exact ⟨rfl, unhide GE⟩
          · by_cases h2 : 4611686018427387903 < v
            · go_wp2_with fail
              go_ret
              exact ⟨rfl, unhide GE⟩
            · have ho := hide (unhide hs (by unfold okN MAXP; omega))
              clear hs
              go_wp2_with fail
              exact ⟨⟨k + 1, by omega, by go_num, ho, trivial⟩, by simp [intOf]; omega⟩
  · obtain ⟨⟨hne, rfl⟩ | ⟨h0, -⟩, g2⟩ := he
    · have tE : (encE p != 0) = true := by simpa using hz
      have GE := hide (gA.trans g2)
      clear hov en hne hz b1 x0 x1 x2 x3 x4 x5 g2 gA
      generalize encE p = E at *
      go_wp2_with fail
      go_ret
      exact ⟨rfl, unhide GE⟩
    · exact absurd h0 hz

end Go.Proofs.Ytdmjejfnohhpiaa
