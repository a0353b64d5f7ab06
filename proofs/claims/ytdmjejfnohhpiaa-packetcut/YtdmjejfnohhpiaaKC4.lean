/- PacketCut: the walk. -/
import Derived.Test.YtdmjejfnohhpiaaKC3
import Derived.Test.YtdmjejfnohhpiaaKC2
import Derived.Test.YtdmjejfnohhpiaaKC5
import Derived.Deep.RegionHeld3
import Derived.Deep.DeepCutAuto
namespace Go.Proofs.Ytdmjejfnohhpiaa
open Go.RowKit
set_option linter.unusedVariables false
set_option maxRecDepth 100000
set_option maxHeartbeats 1000000

theorem cut_walk (p : Pk) (d s y : Value) (most : Int) (w : World) (hd : InB w d p.dst) (hs : InB w s p.src) (hy : InB w y p.payload) (l1 : p.dst.length ≤ 140737488351232) (l2 : p.src.length ≤ 140737488351232) (l3 : p.payload.length ≤ 140737488351232) :
    Calls Try.prog 8 #[p.val d s y, .int .i64 most] w fun e w' => e = .returned (.bool true) ∧ w.grownBy w' none := by
  have aw := fun W => awake_any W
  have hdb := hd.bytes; have hsb := hs.bytes; have hyb := hy.bytes
  obtain ⟨a1, c1, rfl, -⟩ := id hd
  obtain ⟨a2, c2, rfl, -⟩ := id hs
  obtain ⟨a3, c3, rfl, -⟩ := id hy
  have b0 := Blk.new w (p.cs (.slice a1 p.dst.length c1) (.slice a2 p.src.length c2) (.slice a3 p.payload.length c3)) 24
  have g0 := World.grownBy_alloc w (.cells (p.cs (.slice a1 p.dst.length c1) (.slice a2 p.src.length c2) (.slice a3 p.payload.length c3)) 24) none
  have hov := fun W => overhead_any p a1 a2 c1 c2 (.slice a3 p.payload.length c3) W (by omega) (by omega)
  go_enter Try.func8, Try.ntmps8
  go_wp2_with fail
  refine (aw _).mono ?_
  rintro e W1 ⟨rfl, g1⟩
  have gA := g0.trans g1
  have b1 := b0.grown g1
  have x0 := b1.cell 0 (.int .i64 p.space) rfl
  have x1 := b1.cell 1 (.slice a1 p.dst.length c1) rfl
  have x2 := b1.cell 2 (.slice a2 p.src.length c2) rfl
  have x3 := b1.cell 3 (.int .i64 p.number) rfl
  have x4 := b1.cell 4 (.int .i64 p.width) rfl
  have x5 := b1.cell 5 (.slice a3 p.payload.length c3) rfl
  have en := encode_any p _ _ _ W1 (hd.grown gA) (hs.grown gA) (hy.grown gA) (by omega) (by omega) (by omega)
  clear b0 g0 g1 aw
  go_wp2_with fail
  refine en.mono ?_
  intro e W2 he
  by_cases hz : encE p = 0
  · have good := enc_good hz
    have hbb := bytesP_byte good hdb hsb hyb
    have hlt := bytesP_lt p good
    rw [ov_good good] at hov
    obtain ⟨g, rfl, ib, g2⟩ := he.ok good hbb (by unfold maxLen; omega)
    have b2 := b1.grown g2
    have z0 := b2.cell 0 (.int .i64 p.space) rfl
    have z1 := b2.cell 1 (.slice a1 p.dst.length c1) rfl
    have z2 := b2.cell 2 (.slice a2 p.src.length c2) rfl
    have z3 := b2.cell 3 (.int .i64 p.number) rfl
    have z4 := b2.cell 4 (.int .i64 p.width) rfl
    have z5 := b2.cell 5 (.slice a3 p.payload.length c3) rfl
    have gB := gA.trans g2
    have cutN := fun k h1 h2 => enc_cut p good hbb k h1 h2
    have cut2 := fun k h1 h2 h3 => enc_cut2 p good k h1 h2 h3
    have HCN := hide cutN; have HC2 := hide cut2; have HIB := hide ib
    have HBB := hide hbb; have HYB := hide hyb; have HDB := hide hdb; have HSB := hide hsb; have HS2 := hide good.s2
    have hdl := good.d
    have how := over_in good
    have hsp := good.sp
    clear en he b1 x0 x1 x2 x3 x4 x5 g2 gA cutN cut2 ib hbb hyb hdb hsb hz good
    generalize hN : (bytesP p).length = N at *
    go_wp2_with fail
    refine (hov _).mono ?_
    rintro e W3 ⟨rfl, g3⟩
    clear hov z0 z1 z2 z3 z4 z5
    have b3 := b2.grown g3
    have gC := gB.trans g3
    have ib3 := (unhide HIB).grown g3
    clear b2 gB g3 HIB
    generalize overP p = O at *
    go_wp2_with fail
    have bN := Blk.new W3 #[.int .i64 (-1), .int .i64 (-1), .int .i64 (-1)] 46
    have bP := b3.alloc (.cells #[.int .i64 (-1), .int .i64 (-1), .int .i64 (-1)] 46)
    have gN := World.grownBy_alloc W3 (.cells #[.int .i64 (-1), .int .i64 (-1), .int .i64 (-1)] 46) none
    have ib5 := ib3.grown gN
    have gD := gC.trans gN
    clear b3 ib3 gC gN hd hs hy
    generalize W3.alloc (.cells #[.int .i64 (-1), .int .i64 (-1), .int .i64 (-1)] 46) = W5 at *
    generalize W3.heap.size = gn at *
    generalize hgp : w.heap.size = gp at *
    go_loopw [11] (fun i wr => ∃ k : Nat, k ≤ N ∧ i = .int .i64 k ∧ W5.grownBy wr none) (fun i _ => N - (intOf i).toNat)
    case atStart => exact ⟨0, Nat.zero_le _, rfl, World.grownBy.refl W5 none⟩
    case round =>
      obtain ⟨k, hk, rfl, gw⟩ := hrel
      have hml : ¬ (9223372036854775807 : Int) < (N : Int) := by omega
      by_cases hlt : k < N
      · have kN : (k : Int) < (N : Int) := by omega
        have hsub : IntKind.i64.wrap ((N : Int) - 2) = (N : Int) - 2 := by rw [IntKind.wrap_i64]; omega
        have HCD := hide (And.intro hk (And.intro hlt gw))
        go_upto_region 10 with fail
        go_cut [53] (fun v wc => v = .bool (decide ((80 : Int) < (k : Int) ∧ ¬ (k : Int) = most ∧ (k : Int) < (N : Int) - 2)) ∧ wc = wr)
        case first =>
          clear HCN HC2 ib5 bN bP gw
          by_cases h1 : (80 : Int) < (k : Int)
          · by_cases h2 : (k : Int) = most
            · have t2 : ((k : Int) != most) = false := by simpa using h2
              have E := hide (decide_eq_false (p := (80 : Int) < (k : Int) ∧ ¬ (k : Int) = most ∧ (k : Int) < (N : Int) - 2) (fun h => h.2.1 h2))
              clear h2
              go_wp2_with fail
              go_meet
              exact ⟨by rw [unhide E], rfl⟩
            · have t2 : ((k : Int) != most) = true := by simpa using h2
              by_cases h3 : (k : Int) < (N : Int) - 2
              · have E := hide (decide_eq_true (p := (80 : Int) < (k : Int) ∧ ¬ (k : Int) = most ∧ (k : Int) < (N : Int) - 2) ⟨h1, h2, h3⟩)
                clear h2
                go_wp2_with fail
                go_meet
                exact ⟨by rw [unhide E], rfl⟩
              · have E := hide (decide_eq_false (p := (80 : Int) < (k : Int) ∧ ¬ (k : Int) = most ∧ (k : Int) < (N : Int) - 2) (fun h => h3 h.2.2))
                clear h2
                go_wp2_with fail
                go_meet
                exact ⟨by rw [unhide E], rfl⟩
          · have E := hide (decide_eq_false (p := (80 : Int) < (k : Int) ∧ ¬ (k : Int) = most ∧ (k : Int) < (N : Int) - 2) (fun h => h1 h.1))
            go_wp2_with fail
            go_meet
            exact ⟨by rw [unhide E], rfl⟩
        case rest =>
          obtain ⟨hb, hwc⟩ := hcut
          subst hb
          subst hwc
          generalize wc = W6 at *
          by_cases hskip : (80 : Int) < (k : Int) ∧ ¬ (k : Int) = most ∧ (k : Int) < (N : Int) - 2
          · have hd1 := decide_eq_true hskip
            rw [hd1]
            clear HCN HC2 ib5 bN bP hd1 hskip
            go_wp2_with fail
            exact ⟨⟨k + 1, hlt, by go_num, gw⟩, by simp [intOf]; omega⟩
          · have hd1 := decide_eq_false hskip
            rw [hd1]
            clear hd1 hskip
            have ibk := (ib5.grown gw).cut k hk
            have hlk : ((bytesP p).take k).length = k := by simp; omega
            have cp : ∀ W, W6.grownBy W none → Calls Try.prog 35 #[.slice (some ⟨g, 0, none⟩) k N] W fun e w' => ∃ ac cc, e = .returned (.slice ac k cc) ∧ OwnB W.heap.size w' (.slice ac k cc) ((bytesP p).take k) ∧ W.grownBy w' none := fun W gW => (copied_any _ _ W (ibk.grown gW) (by omega)).mono fun e w' ⟨v', he, ho, hg⟩ => by
              obtain ⟨ac, cc, e2⟩ := ho.shape
              rw [hlk] at e2
              exact ⟨ac, cc, by rw [he, e2], by rw [← e2]; exact ho, hg⟩
            have hbk : ∀ x ∈ (bytesP p).take k, IsB x := fun x hx => unhide HBB x (List.mem_of_mem_take hx)
            have de : ∀ W v, InB W v ((bytesP p).take k) → Calls Try.prog 24 #[v, .int .i64 0, .int .i64 (p.dst.length : Int), noneG.v] W (DecPost W (decP ((bytesP p).take k) 0 p.dst.length noneG)) := fun W v hv => decode_in v _ 0 _ noneG W hv (by omega)
            have bP' := bP.grown gw
            have bN' := bN.grown gw
            have y1 := bP'.cell 1 (.slice a1 p.dst.length c1) rfl
            have n0 := bN'.cell 0 (.int .i64 (-1)) rfl
            have n1 := bN'.cell 1 (.int .i64 (-1)) rfl
            have n2 := bN'.cell 2 (.int .i64 (-1)) rfl
            have CP := hide cp; have DE := hide de; have HBK := hide hbk; have GW := hide gw; have BP := hide bP'; have HGD := hide gD
            have hml2 : ¬ (9223372036854775807 : Int) < (p.dst.length : Int) := by omega
            have hr : (p.space = 2 ∧ O ≤ (k : Int) ∧ ∃ q, decP ((bytesP p).take k) 0 p.dst.length noneG = (q, (k : Int), 0) ∧ (q.payload.length : Int) = k - O) ∨ (¬ (p.space = 2 ∧ O ≤ (k : Int)) ∧ decP ((bytesP p).take k) 0 p.dst.length noneG = (noP, 0, 50)) := by
              by_cases hA : p.space = 2 ∧ O ≤ (k : Int)
              · obtain ⟨q, e1, e2, -⟩ := unhide HC2 k hlt hA.1 hA.2
                exact .inl ⟨hA.1, hA.2, q, e1, e2⟩
              · exact .inr ⟨hA, unhide HCN k hlt hA⟩
            have HRR := hide hr
            have HKN := hide (And.intro hk (And.intro hlt hml))
            clear cp de hbk ibk ib5 gw bP' bN' HCN HC2 bP bN gD hlk hN hr hgp HCD
            generalize decP ((bytesP p).take k) 0 p.dst.length noneG = r at *
            generalize (bytesP p).take k = L at *
            go_upto_region 11 with fail
            go_cut [12, 13, 14] (fun v12 v13 v14 wx => QPost W6 r v12 v13 v14 wx)
            case first =>
              clear HRR GW BP
              have lw1 := cell_ltb y1
              have lw2 := cell_ltb n0
              have nw1 := Nat.ne_of_lt lw1
              have nw2 := Nat.ne_of_lt lw2
              have nw3 := Ne.symm nw1
              have nw4 := Ne.symm nw2
              obtain ⟨P, rE, rF⟩ := r
              go_region_held3 (fun W => W.cell? ⟨gp, 1, none⟩ = some (.slice a1 p.dst.length c1) ∧ W.cell? ⟨gn, 0, none⟩ = some (.int .i64 (-1)) ∧ W.cell? ⟨gn, 1, none⟩ = some (.int .i64 (-1)) ∧ W.cell? ⟨gn, 2, none⟩ = some (.int .i64 (-1))) (go_keep) (first
                | (go_at_call 35; first
                  | (with_reducible show Calls _ _ _ (World.alloc _ _) _; refine (unhide CP _ ((grown_drewN (World.grownBy.refl _ none)).trans (World.grownBy_alloc _ _ none))).mono ?_; rintro e Wc ⟨ac, cc, rfl, oc, gc⟩; have gc' := ((grown_drewN (World.grownBy.refl W6 none)).trans (World.grownBy_alloc _ _ none)).trans gc; have bq0 := (Blk.new _ (pcs 0 nilV nilV 0 0 nilV) 24).grown gc; have y1c := cell_grown y1 gc'; have n0c := cell_grown n0 gc'; have n1c := cell_grown n1 gc'; have n2c := cell_grown n2 gc'; have lc1 := cell_ltb y1c; have lc2 := cell_ltb n0c; have ne1 := Nat.ne_of_lt lc1; have ne2 := Nat.ne_of_lt lc2; have ne3 := Ne.symm ne1; have ne4 := Ne.symm ne2)
                  | (with_reducible show Calls _ _ _ (World.drew (World.alloc _ _)) _; refine (unhide CP _ (grown_drew' (World.grownBy_alloc _ _ none))).mono ?_; rintro e Wc ⟨ac, cc, rfl, oc, gc⟩; have gc' := (grown_drew' (World.grownBy_alloc W6 _ none)).trans gc; have bq0 := ((Blk.new W6 (pcs 0 nilV nilV 0 0 nilV) 24).drew).grown gc; have y1c := cell_grown y1 gc'; have n0c := cell_grown n0 gc'; have n1c := cell_grown n1 gc'; have n2c := cell_grown n2 gc'; have lc1 := cell_ltb y1c; have lc2 := cell_ltb n0c; have ne1 := Nat.ne_of_lt lc1; have ne2 := Nat.ne_of_lt lc2; have ne3 := Ne.symm ne1; have ne4 := Ne.symm ne2)
                  | (refine (unhide CP _ (grown_drewN (World.grownBy.refl _ none))).mono ?_; rintro e Wc ⟨ac, cc, rfl, oc, gc⟩; have gc' := (grown_drewN (World.grownBy.refl W6 none)).trans gc; have y1c := cell_grown y1 gc'; have n0c := cell_grown n0 gc'; have n1c := cell_grown n1 gc'; have n2c := cell_grown n2 gc'; have lc1 := cell_ltb y1c; have lc2 := cell_ltb n0c; have ne1 := Nat.ne_of_lt lc1; have ne2 := Nat.ne_of_lt lc2; have ne3 := Ne.symm ne1; have ne4 := Ne.symm ne2))
                | (go_at_call 24; first
                  | (with_reducible show Calls _ _ _ (World.alloc _ _) _; refine (unhide DE _ _ ((oc.inB (unhide HBK)).grown (World.grownBy_alloc _ _ none))).mono ?_; intro e Wd hd; obtain ⟨b1, m1, f1, b2, m2, f2, b3, m3, f3, rfl, o1, o2, o3, gd, q1, q2, q3⟩ := hd.parts; have gd' := (gc'.trans (World.grownBy_alloc _ _ none)).trans gd; have y1d := cell_grown y1 gd'; have n0d := cell_grown n0 gd'; have n1d := cell_grown n1 gd'; have n2d := cell_grown n2 gd'; have ld1 := cell_ltb y1d; have ld2 := cell_ltb n0d; have bq := (Blk.new Wc (pcs 0 nilV nilV 0 0 nilV) 24).grown gd; have m0 := bq.cell 0 (.int .i64 0) rfl; have m1 := bq.cell 1 nilV rfl; have m2 := bq.cell 2 nilV rfl; have m3 := bq.cell 3 (.int .i64 0) rfl; have m4 := bq.cell 4 (.int .i64 0) rfl; have m5 := bq.cell 5 nilV rfl; have mt := bq.thaws)
                  | (refine (unhide DE Wc _ (oc.inB (unhide HBK))).mono ?_; intro e Wd hd; obtain ⟨b1, m1, f1, b2, m2, f2, b3, m3, f3, rfl, o1, o2, o3, gd, q1, q2, q3⟩ := hd.parts; have gd' := gc'.trans gd; have y1d := cell_grown y1 gd'; have n0d := cell_grown n0 gd'; have n1d := cell_grown n1 gd'; have n2d := cell_grown n2 gd'; have ld1 := cell_ltb y1d; have ld2 := cell_ltb n0d; (try (have bq := bq0.grown gd; have m0 := bq.cell 0 (.int .i64 0) rfl; have m1 := bq.cell 1 nilV rfl; have m2 := bq.cell 2 nilV rfl; have m3 := bq.cell 3 (.int .i64 0) rfl; have m4 := bq.cell 4 (.int .i64 0) rfl; have m5 := bq.cell 5 nilV rfl; have mt := bq.thaws)))))
              all_goals (go_wp2_with fail; go_meet)
              · subst q1 q2 q3; exact QPost.a (r := (P, rE, rF)) o1 o2 o3 gc' gd rfl rfl rfl
              · subst q1 q2 q3; exact QPost.b (r := (P, rE, rF)) o1 o2 o3 (gc'.trans (World.grownBy_alloc _ _ none)) gd rfl rfl rfl bq gc'.size (by rw [alloc_size]; omega)
              · subst q1 q2 q3; exact QPost.b (r := (P, rE, rF)) o1 o2 o3 gc' gd rfl rfl rfl bq (Nat.le_refl _) bq0.lt
            case rest =>
              obtain ⟨gq, b1, m1, f1, b2, m2, f2, b3, m3, f3, rfl, rfl, rfl, bq, hgq, o1, o2, o3, gx, q1, q2, q3⟩ := hcut
              have x0 := ((unhide BP).grown gx).cell 0 (.int .i64 p.space) rfl
              have HX := hide ((unhide GW).trans gx)
              have z0 := bq.cell 0 (.int .i64 r.1.space) rfl
              have z1 := bq.cell 1 (.slice b1 m1 f1) rfl
              have z2 := bq.cell 2 (.slice b2 m2 f2) rfl
              have z3 := bq.cell 3 (.int .i64 r.1.number) rfl
              have z4 := bq.cell 4 (.int .i64 r.1.width) rfl
              have z5 := bq.cell 5 (.slice b3 m3 f3) rfl
              clear CP DE n0 n1 n2 y1 BP GW
              rcases unhide HRR with ⟨hs2, hOk, q, rfl, hql⟩ | ⟨hA, rfl⟩
              · have h2b : (p.space == 2) = true := by simpa using hs2
                simp only at q3
                have hs : IntKind.i64.wrap ((k : Int) - O) = (k : Int) - O := by rw [IntKind.wrap_i64]; omega
                have t1 : ((m3 : Int) != (k : Int) - O) = false := by rw [q3, hql]; simp
                have t2 : ¬ (9223372036854775807 : Int) < (m3 : Int) := by omega
                have t3 : ((k : Int) != (k : Int)) = false := by simp
                clear HRR hql q1 q2 q3 hs2 o1 o2 o3 gx bq
                go_wp2_with fail
                exact ⟨⟨k + 1, (unhide HKN).2.1, by go_num, unhide HX⟩, by simp [intOf]; omega⟩
              · have nb : ∀ x ∈ ([] : List Int), IsB x := by simp
                have sm := same05 noP _ _ _ nilV nilV nilV _ (o1.inB nb) (o2.inB nb) (o3.inB nb) (InX.nil _ _) (InX.nil _ _) (InX.nil _ _)
                by_cases hs2 : p.space = 2
                · have h2b : (p.space == 2) = true := by simpa using hs2
                  have hOk : ¬ O ≤ (k : Int) := fun h => hA ⟨hs2, h⟩
                  clear HRR q1 q2 q3 hs2 o1 o2 o3 gx bq hA
                  go_wp2_with fail
                  refine sm.mono ?_
                  rintro e Ws ⟨rfl, gs⟩
                  have HY := hide ((unhide HX).trans gs)
                  go_wp2_with fail
                  exact ⟨⟨k + 1, (unhide HKN).2.1, by go_num, unhide HY⟩, by simp [intOf]; omega⟩
                · have h2b : (p.space == 2) = false := by simpa using hs2
                  clear HRR q1 q2 q3 hs2 o1 o2 o3 gx bq hA
                  go_wp2_with fail
                  refine sm.mono ?_
                  rintro e Ws ⟨rfl, gs⟩
                  have HY := hide ((unhide HX).trans gs)
                  go_wp2_with fail
                  exact ⟨⟨k + 1, (unhide HKN).2.1, by go_num, unhide HY⟩, by simp [intOf]; omega⟩
      · obtain rfl : k = N := by omega
        have kN : ¬ (k : Int) < (k : Int) := by omega
        have GE := hide (gD.trans gw)
        clear HCN HC2 ib5 bN bP gw
        go_wp2_with fail
        go_ret
        exact ⟨rfl, unhide GE⟩
  · obtain ⟨⟨hne, rfl⟩ | ⟨h0, -⟩, g2⟩ := he
    · have b2 := b1.grown g2
      have z0 := b2.cell 0 (.int .i64 p.space) rfl
      have z1 := b2.cell 1 (.slice a1 p.dst.length c1) rfl
      have z2 := b2.cell 2 (.slice a2 p.src.length c2) rfl
      have z3 := b2.cell 3 (.int .i64 p.number) rfl
      have z4 := b2.cell 4 (.int .i64 p.width) rfl
      have z5 := b2.cell 5 (.slice a3 p.payload.length c3) rfl
      have gB := gA.trans g2
      clear en b1 x0 x1 x2 x3 x4 x5 g2 gA
      generalize encE p = E at *
      go_wp2_with fail
      refine (hov _).mono ?_
      rintro e W3 ⟨rfl, g3⟩
      clear hov z0 z1 z2 z3 z4 z5
      have gC := gB.trans g3
      generalize ovF p = r at *
      go_wp2_with fail
      have gN := World.grownBy_alloc W3 (.cells #[.int .i64 (-1), .int .i64 (-1), .int .i64 (-1)] 46) none
      have GE := hide (gC.trans gN)
      clear gN gC g3 hne gB b2
      go_loopw [11] (fun i wr => i = .int .i64 0 ∧ w.grownBy wr none) (fun i _ => 0)
      case atStart => exact ⟨rfl, unhide GE⟩
      case round =>
        obtain ⟨rfl, gw⟩ := hrel
        go_wp2_with fail
        go_ret
        exact ⟨rfl, gw⟩
    · exact absurd h0 hz

end Go.Proofs.Ytdmjejfnohhpiaa
