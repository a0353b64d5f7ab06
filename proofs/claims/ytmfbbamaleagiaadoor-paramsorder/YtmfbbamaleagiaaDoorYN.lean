/- ParamsOrder: the walk. -/
import Derived.Test.YtmfbbamaleagiaaDoorYP
import Derived.Test.YtmfbbamaleagiaaDoorYR
import Derived.Deep.RegionHeld3
import Derived.Deep.DeepCutAuto
namespace Go.Proofs.YtmfbbamaleagiaaDoor
open Go.RowKit
set_option linter.unusedVariables false
set_option maxRecDepth 100000
set_option maxHeartbeats 4000000

theorem tmod9 (z : Int) : -9 < Int.tmod z 9 ∧ Int.tmod z 9 < 9 := by
  rcases Int.le_total 0 z with h | h
  · rw [Int.tmod_eq_emod_of_nonneg h]; omega
  · have e : z = -(-z) := by omega
    rw [e, Int.neg_tmod, Int.tmod_eq_emod_of_nonneg (by omega)]; omega
theorem own9_cell {base : Nat} {w : World} {g c : Nat} {xs : List Value} (h : w.ownsRow base 3 1 (.slice (some ⟨g, 0, none⟩) 9 c) 9 xs) (i : Nat) (hi : i < 9) : ∃ u, w.cell? ⟨g, i, none⟩ = some u ∧ w.frozen? ⟨g, i, none⟩ = false := by
  rcases h.2 with ⟨h1, -⟩ | ⟨g', cap, cur, e1, -, hgg, hc, hm, hs, -⟩
  · cases h1
  · cases e1
    exact ⟨_, (show Blk w g cur 3 from hgg).cell i _ (Array.getElem?_eq_getElem (by omega)), (show Blk w g cur 3 from hgg).thaw i⟩

theorem OwnF.grown {base n : Nat} {w W : World} {v : Value} {f : Nat → Nat} (h : OwnF base w v f n) (g : w.grownBy W none) : OwnF base W v f n := World.ownsRow.kept h g (by cases v.ownBlock <;> simp)

theorem order_yes (p : Ps) (ao : Option Addr) (lo co : Nat) (zs : List Int) (ab : Option Addr) (ob : List Int) (nb cb : Nat) (t : Int) (w : World) (h : Tb w) (hc : checkF p = 0) (hlo : lo ≤ co) (hco : co ≤ maxLen) (hord : OrdR w ao lo zs)
    (hrb : Rd w ab ob) (hnb : ob.length = nb) (hcb : nb ≤ cb) (hcm : cb ≤ maxLen) (hbs : ob.length ≤ 140737488351232) :
    Calls Tryd.prog 8 #[.agg p.cs, .slice ao lo co, .slice ab nb cb, .int .i64 t] w fun e w' => e = .returned (.bool true) ∧ w.grownBy w' none := by
  subst hnb
  have hok := (checkF_ok p).1 hc
  have G0 := World.grownBy_alloc w (.cells p.cs 23) none
  have B0 := Blk.new w p.cs 23
  have T0 := h.grown G0
  have aw := fun W (hW : Tb W) => awake_any W hW
  have ck := fun W (hW : Tb W) => check_any p W hW
  rw [hc] at ck
  have hlo' : (lo : Int) ≤ 9223372036854775807 := by unfold maxLen at hco; omega
  go_enter Tryd.func8, Tryd.ntmps8
  go_wp2_with (first
    | (go_at_call 9; refine (aw _ T0).mono ?_; rintro e W1 ⟨rfl, g1⟩; have B1 := B0.grown g1; have G1 := G0.trans g1; have T1 := T0.grown g1; clear g1 B0 G0 T0 aw)
    | (refine wpList_load_row rfl _ _ rfl w.heap.size rfl 23 p.cs (0, 0) _ B1 Tryd.underlying23 rfl Tryd.sizePs ?_)
    | (go_at_call 11; refine (ck _ T1).mono ?_; rintro e W2 ⟨rfl, g2⟩; have B2 := B1.grown g2; have G2 := G1.trans g2; have T2 := T1.grown g2; clear g2 B1 G1 T1 ck))
  have HB := hide B2; have HG := hide G2; have HT := hide T2
  have HO := hide (hord.grown G2); have HR := hide (rd_below hrb (grown_bel G2))
  have HK := hide hok
  clear B2 G2 T2 hord hrb hok hc h
  generalize w.heap.size = gb at *
  go_loopw [12, 11] (fun i v wr => ∃ j : Nat, j ≤ 9 ∧ i = .int .i64 j ∧ OwnF W2.heap.size wr v (fun x => x) j ∧ W2.grownBy wr none) (fun i _ _ => 9 - (intOf i).toNat)
  case atStart => exact ⟨0, by omega, rfl, World.ownsRow_nil _ _ _ _, World.grownBy.refl W2 none⟩
  case round =>
    obtain ⟨j, hj, rfl, ho, hg⟩ := hrel
    by_cases hj9 : j = 9
    · subst hj9
      obtain ⟨gl, cl, rfl, hgl, -, hcl, hcl2⟩ := ho.open9
      have F := hide (And.intro ho hg)
      clear ho hg
      go_wp2_with fail
      go_loopw [13, 14] (fun i _ wr => ∃ (j : Nat) (f : Nat → Nat), j ≤ 9 ∧ i = .int .i64 j ∧ Bij f ∧ OwnF W2.heap.size wr (.slice (some ⟨gl, 0, none⟩) 9 cl) f 9 ∧ W2.grownBy wr none) (fun i _ _ => 9 - (intOf i).toNat)
      case atStart => exact ⟨0, fun x => x, by omega, rfl, Bij.start, (unhide F).1, (unhide F).2⟩
      case round =>
        obtain ⟨j, f, hj, rfl, hf, ho, hg⟩ := hrel
        clear F
        by_cases hgo : j < 9 ∧ j < lo
        · obtain ⟨ha, hb2⟩ := hgo
          have i1 : (j : Int) < 9 := by omega
          have i2 : (j : Int) < (lo : Int) := by omega
          obtain ⟨b, o, rfl, c1, z1, z2⟩ := (unhide HO).grown hg j hb2
          generalize hz : zs.getD j 0 = z at *
          obtain ⟨q, hq⟩ : ∃ q : Int, Int.tmod z 9 = q := ⟨_, rfl⟩
          have q1 := tmod9 z
          rw [hq] at q1
          have IDX : ∃ k : Nat, k < 9 ∧ ((q < 0 ∧ q + 9 = (k : Int)) ∨ (¬ q < 0 ∧ q = (k : Int))) := by
            by_cases c : q < 0
            · exact ⟨(q + 9).toNat, by omega, .inl ⟨c, by omega⟩⟩
            · exact ⟨q.toNat, by omega, .inr ⟨c, by omega⟩⟩
          obtain ⟨k, hk9, hcase⟩ := IDX
          have d1 := ho.cell j ha
          have d2 := ho.cell k hk9
          have t1 := ho.thaw j
          obtain ⟨s1, s2⟩ := World.ownsRow.stored ho j (.int .i64 ((f k : Nat) : Int))
          obtain ⟨x1, e1, e2⟩ := own9_cell s1 k hk9
          obtain ⟨s3, s4⟩ := World.ownsRow.stored s1 k (.int .i64 ((f j : Nat) : Int))
          rw [rowF_swap f j k ha hk9] at s3
          have FF : Hid (Bij (swapF f j k) ∧ OwnF W2.heap.size ((wr.setCell ⟨gl, j, none⟩ (.int .i64 ((f k : Nat) : Int))).setCell ⟨gl, k, none⟩ (.int .i64 ((f j : Nat) : Int))) (.slice (some ⟨gl, 0, none⟩) 9 cl) (swapF f j k) 9 ∧ W2.grownBy ((wr.setCell ⟨gl, j, none⟩ (.int .i64 ((f k : Nat) : Int))).setCell ⟨gl, k, none⟩ (.int .i64 ((f j : Nat) : Int))) none) :=
            ⟨hf.swap j k ha hk9, s3, grown_set (grown_set hg _ _ _ hgl) _ _ _ hgl⟩
          have hk9' : (k : Int) < 9 := by omega
          clear s1 s2 s3 s4 hz ho hg hf HB HG HT HO HR HK hbs
          generalize (f j : Nat) = fj at *
          generalize (f k : Nat) = fk at *
          rcases hcase with ⟨c, hqk⟩ | ⟨c, hqk⟩
          · go_wp2_with fail
            exact ⟨⟨j + 1, swapF f j k, by omega, rfl, unhide FF⟩, by simp [intOf]; omega⟩
          · subst hqk
            go_wp2_with fail
            exact ⟨⟨j + 1, swapF f j k, by omega, rfl, unhide FF⟩, by simp [intOf]; omega⟩
        · have hx : ¬ (j : Int) < 9 ∨ ((j : Int) < 9 ∧ ¬ (j : Int) < (lo : Int)) := by omega
          have hf9 : ∀ i, i < 9 → f i < 9 := by obtain ⟨g, h1, -⟩ := hf; exact fun i hi => (h1 i hi).1
          have HB3 := hide ((unhide HB).grown hg); have HG3 := hide ((unhide HG).trans hg); have HT3 := hide ((unhide HT).grown hg); have HR3 := hide (rd_below (unhide HR) (grown_bel hg))
          have HO3 := hide ho; have HF := hide hf; have HF9 := hide hf9
          clear HB HG HT HR HO hg ho hf hf9 hgo
          generalize hW3 : wr = W3 at *
          clear hW3
          rcases hx with i1 | ⟨i1, i2⟩
          all_goals
            go_wp2_with fail
            go_loopw [18, 16, 17] (fun i b ag wr => ∃ j : Nat, j ≤ 9 ∧ i = .int .i64 j ∧ OwnB W3.heap.size wr b (flat p (segsK f ob j)) ∧ W3.grownBy wr none ∧ AG p f wr b ag j) (fun i _ _ _ => 9 - (intOf i).toNat)
            case atStart => exact ⟨0, by omega, rfl, World.ownsRow_nil _ _ _ _, World.grownBy.refl W3 none, ⟨none, 0, 0, rfl, .inl rfl⟩⟩
            case round =>
              obtain ⟨j, hj, rfl, ho, hg, hag⟩ := hrel
              by_cases hj9 : j = 9
              · subst hj9
                have fb := flat_bytes p (unhide HK) f (unhide HF9) ob (by omega) (unhide HR3).1 9 (Nat.le_refl _)
                have fl := flat_len p (unhide HK) f (unhide HF9) ob (by omega) 9 (Nat.le_refl _)
                have snd := segs_nodup f (unhide HF) ob 9 (Nat.le_refl _)
                have sok := segs_ok p f (unhide HF) ob (by omega) 9 (Nat.le_refl _)
                have d1 := dec_segs p (unhide HK) (segsK f ob 9) sok snd (segs_all f (unhide HF) ob)
                have d2 := fun id r h0 h1 hc => dec_twice p (unhide HK) (segsK f ob 9) sok snd id r h0 h1 hc
                have hoth : Seg.oth ob ∈ segsK f ob 9 := (segs_mem f ob 9 _).2 (.inr ⟨by omega, rfl⟩)
                have hpar : ∀ q, q < 9 → Seg.par (f q) ∈ segsK f ob 9 := fun q hq => (segs_mem f ob 9 _).2 (.inl ⟨q, hq, rfl⟩)
                have hnum : ∀ q, q < 9 → 0 ≤ numT (f q) ∧ numT (f q) ≤ 11 := fun q hq => by have := (most_small _ (unhide HF9 q hq)).2; omega
                generalize hFL : flat p (segsK f ob 9) = FL at *
                obtain ⟨ax, cx, rfl, rx⟩ := OwnB.rd ho fb
                have px := own_pl ho
                have dd1 := decode_any ax FL cx wr ((unhide HT3).grown hg) rx px.1 px.2.1 px.2.2
                rw [d1] at dd1
                obtain ⟨aA, nA, cA, rfl, hA⟩ := hag
                -- what is laid behind, and how it is read
                have TW : Hid (∀ W a2 L2 c2, wr.grownBy W none → Rd W a2 L2 → (∃ id r, L2 = sh id ++ r ∧ L2.length ≤ 40 ∧ 0 ≤ id ∧ id ≤ 4611686018427387903 ∧ ((∃ k, Seg.par k ∈ segsK f ob 9 ∧ p.l.getD k 0 ≠ untT k ∧ id = numT k) ∨ (∃ ob', Seg.oth ob' ∈ segsK f ob 9 ∧ id = 40))) →
                    ∃ a3 n3 c3 y3, (∀ ty, (Builtin.append_ #[31, 31] ty #[.slice ax FL.length cx, .slice a2 L2.length c2]).run Tryd.prog W = .ok (.slice a3 n3 c3) y3) ∧ W3.grownBy y3 none ∧
                      Calls Tryd.prog 22 #[.slice a3 n3 c3] y3 fun e w' => e = .returned (.tuple #[.agg zeroP.cs, .int .i64 61]) ∧ y3.grownBy w' none) := by
                  rintro W a2 L2 c2 gW r2 ⟨id, r, e2, hl2, h0, h1, hc⟩
                  obtain ⟨x3, y3, e3, o3, g3⟩ := app_grown W3 W (.slice ax FL.length cx) FL L2 a2 c2 (World.ownsRow.kept ho gW (by cases (Value.slice ax FL.length cx).ownBlock <;> simp)) (hg.trans gW) r2 (by omega)
                  have bb : ∀ x ∈ FL ++ L2, IsB x := by
                    intro x hx
                    rcases List.mem_append.1 hx with hx | hx
                    · exact fb x hx
                    · exact r2.1 x hx
                  obtain ⟨a3, c3, rfl, r3⟩ := OwnB.rd o3 bb
                  have p3 := own_pl o3
                  have dd := decode_any a3 (FL ++ L2) c3 y3 ((unhide HT3).grown g3) r3 p3.1 p3.2.1 p3.2.2
                  rw [e2, d2 id r h0 h1 hc, ← e2] at dd
                  exact ⟨a3, _, c3, y3, e3, g3, dd⟩
                have HBW := hide ((unhide HB3).grown hg)
                have HGW := hide ((unhide HG3).trans hg)
                have AGN : Hid (nA = 0 ∨ ∃ q, q < 9 ∧ p.l.getD (f q) 0 ≠ untT (f q) ∧ nA = (partB (numT (f q)) (p.l.getD (f q) 0)).length ∧ (partB (numT (f q)) (p.l.getD (f q) 0)).length ≤ 24 ∧ Rd wr aA (partB (numT (f q)) (p.l.getD (f q) 0))) := by
                  refine hA.imp id ?_
                  rintro ⟨q, hq, hv, hn, hk⟩
                  have pl := part_len (f q) (unhide HF9 q hq) _ (unhide HK _ (unhide HF9 q hq))
                  unfold partK at hn hk pl
                  rw [if_neg hv] at hn hk pl
                  exact ⟨q, hq, hv, hn, pl, hk.1⟩
                have HN := hide (And.intro hoth (And.intro hpar hnum))
                have HG3' := hide (unhide HG3)
                clear fb snd sok d1 d2 hoth hpar hnum rx px hA ho hg HK HF HF9 HB3 HT3 HR3 HO3 HG3 hFL hbs
                have hfl0 : FL.length = FL.length := rfl
                generalize FL.length = nx at *
                clear hfl0
                rcases unhide AGN with h0 | ⟨q, hq, hv, hn, hpl, hrA⟩
                · subst h0
                  go_upto_region 42 with (first
                    | (go_at_call 22; refine dd1.mono ?_; rintro e W8 ⟨rfl, g8⟩; clear dd1)
                    | (refine wpList_store_row rfl _ _ _ rfl W8.heap.size p.cs rfl rfl 23 _ (Blk.new W8 zero9 23) Tryd.sizePs rfl (Ps.one _) ?_; rw [World.setRow_alloc_new]; obtain ⟨n0, n1, n2, n3, n4, n5, n6, n7, n8⟩ := (((unhide HBW).grown g8).alloc (.cells p.cs 23)).nine; obtain ⟨o0, o1, o2, o3, o4, o5, o6, o7, o8⟩ := (Blk.new W8 p.cs 23).nine; have G9 := hide (g8.trans (World.grownBy_alloc W8 (.cells p.cs 23) none)); clear g8 HBW; generalize hW9 : W8.alloc (.cells p.cs 23) = W9 at *))
                  obtain ⟨a3, n3', c3, y3, e3, g3, dd⟩ := unhide TW (W9.alloc (.cells #[.int .u8 40, .int .u8 0] 5)) (some ⟨W9.heap.size, 0, none⟩) [40, 0] 2 ((unhide G9).trans (World.grownBy_alloc W9 (.cells #[.int .u8 40, .int .u8 0] 5) none)) (rd_at (l := [40, 0]) (heap_alloc_new W9 _) (by simp [IsB])) ⟨40, [0], by decide, by decide, by decide, by decide, .inr ⟨ob, (unhide HN).1, rfl⟩⟩
                  rw [zeroP_cs] at dd
                  have HG4 := hide ((unhide HG3').trans g3)
                  clear TW AGN HN HG3' HGW G9 g3 n0 n1 n2 n3 n4 n5 n6 n7 n8 o0 o1 o2 o3 o4 o5 o6 o7 o8 hW9
                  go_wp2_with (first
                    | (at_builtin; refine Lib.wpList_append_run _ rfl _ _ _ _ rfl _ _ rfl rfl _ _ (e3 _) ?_)
                    | (go_at_call 22; refine dd.mono ?_; rintro e W11 ⟨rfl, g11⟩; have HG5 := hide ((unhide HG4).trans (g11.trans (World.grownBy_alloc W11 (.cells #[.int .i64 0, .int .i64 0, .int .i64 0, .int .i64 0, .int .i64 0, .int .i64 0, .int .i64 0, .int .i64 0, .int .i64 0] 23) none))); clear dd g11 HG4))
                  go_ret
                  exact ⟨rfl, unhide HG5⟩
                · have hnp : 0 < nA := by
                    rw [hn]
                    have := sizeF_pos (numT (f q)) (by have := (unhide HN).2.2 q hq; omega)
                    simp only [partB, List.length_append, sh_length]; omega
                  have hnb : ((nA : Int) == 0) = false := by simp; omega
                  have hnc : (nA == 0) = false := by simp; omega
                  have HX := hide (And.intro hq (And.intro hv (And.intro hn (And.intro hpl hrA))))
                  clear hq hv hn hpl hrA
                  go_upto_region 42 with (first
                    | (go_at_call 22; refine dd1.mono ?_; rintro e W8 ⟨rfl, g8⟩; clear dd1)
                    | (refine wpList_store_row rfl _ _ _ rfl W8.heap.size p.cs rfl rfl 23 _ (Blk.new W8 zero9 23) Tryd.sizePs rfl (Ps.one _) ?_; rw [World.setRow_alloc_new]; obtain ⟨n0, n1, n2, n3, n4, n5, n6, n7, n8⟩ := (((unhide HBW).grown g8).alloc (.cells p.cs 23)).nine; obtain ⟨o0, o1, o2, o3, o4, o5, o6, o7, o8⟩ := (Blk.new W8 p.cs 23).nine; have G9 := hide (g8.trans (World.grownBy_alloc W8 (.cells p.cs 23) none)); clear g8 HBW; generalize hW9 : W8.alloc (.cells p.cs 23) = W9 at *))
                  obtain ⟨hq, hv, hn, hpl, hrA⟩ := unhide HX
                  obtain ⟨a3, n3', c3, y3, e3, g3, dd⟩ := unhide TW W9 aA (partB (numT (f q)) (p.l.getD (f q) 0)) cA (unhide G9) (rd_below hrA (grown_bel (unhide G9))) ⟨numT (f q), sh (sizeF (p.l.getD (f q) 0)) ++ sh (p.l.getD (f q) 0), by simp [partB], by omega, ((unhide HN).2.2 q hq).1, by have := (unhide HN).2.2 q hq; omega, .inl ⟨f q, (unhide HN).2.1 q hq, hv, rfl⟩⟩
                  rw [← hn] at e3
                  clear hq hv hn hpl hrA HX
                  rw [zeroP_cs] at dd
                  have HG4 := hide ((unhide HG3').trans g3)
                  clear TW AGN HN HG3' HGW G9 g3 n0 n1 n2 n3 n4 n5 n6 n7 n8 o0 o1 o2 o3 o4 o5 o6 o7 o8 hW9
                  go_wp2_with (first
                    | (at_builtin; refine Lib.wpList_append_run _ rfl _ _ _ _ rfl _ _ rfl rfl _ _ (e3 _) ?_)
                    | (go_at_call 22; refine dd.mono ?_; rintro e W11 ⟨rfl, g11⟩; have HG5 := hide ((unhide HG4).trans (g11.trans (World.grownBy_alloc W11 (.cells #[.int .i64 0, .int .i64 0, .int .i64 0, .int .i64 0, .int .i64 0, .int .i64 0, .int .i64 0, .int .i64 0, .int .i64 0] 23) none))); clear dd g11 HG4))
                  go_ret
                  exact ⟨rfl, unhide HG5⟩
              · have hlt : (j : Int) < 9 := by omega
                obtain ⟨PL, hPL⟩ : ∃ PL, PL = partK (f j) (p.l.getD (f j) 0) := ⟨_, rfl⟩
                have pll : PL.length ≤ 24 := by rw [hPL]; exact part_len _ (unhide HF9 j (by omega)) _ (unhide HK _ (unhide HF9 j (by omega)))
                have fll := flat_len p (unhide HK) f (unhide HF9) ob (by omega) j (by omega)
                have fl4 : j = 4 → (flat p (segsK f ob j)).length ≤ 96 := fun e => by have := flat_len' p (unhide HK) f (unhide HF9) ob (by omega) j (by omega); rw [if_neg (by omega)] at this; omega
                have AL : Hid (∀ W, wr.grownBy W none → Calls Tryd.prog 25 #[.agg #[.int .i64 p.a0, .int .i64 p.a1, .int .i64 p.a2, .int .i64 p.a3, .int .i64 p.a4, .int .i64 p.a5, .int .i64 p.a6, .int .i64 p.a7, .int .i64 p.a8], .int .i64 ((f j : Nat) : Int)] W fun e w' => ∃ a c, e = .returned (.tuple #[.slice a PL.length c, .bool true]) ∧ Rd w' a PL ∧ OwnB W.heap.size w' (.slice a PL.length c) PL ∧ W.grownBy w' none) := by
                  rw [hPL]; exact fun W gW => alone_any p (unhide HK) (f j) (unhide HF9 j (by omega)) W ((unhide HT3).grown (hg.trans gW))
                obtain ⟨n0, n1, n2, n3, n4, n5, n6, n7, n8⟩ := ((unhide HB3).grown hg).nine
                have cl1 := (OwnF.grown (unhide HO3) hg).cell j (by omega)
                have HBW := hide ((unhide HB3).grown hg)
                have HOW := hide (OwnF.grown (unhide HO3) hg)
                have HO1 := hide ho; have HG1 := hide hg; have HA1 := hide hag
                have HPL := hide hPL
                clear ho hg hag hj9 hPL
                go_wp2_with fail
                go_region_held3 (fun W => W.cell? ⟨gb, 0, none⟩ = some (.int .i64 p.a0) ∧ W.cell? ⟨gb, 1, none⟩ = some (.int .i64 p.a1) ∧ W.cell? ⟨gb, 2, none⟩ = some (.int .i64 p.a2) ∧ W.cell? ⟨gb, 3, none⟩ = some (.int .i64 p.a3) ∧ W.cell? ⟨gb, 4, none⟩ = some (.int .i64 p.a4) ∧ W.cell? ⟨gb, 5, none⟩ = some (.int .i64 p.a5) ∧ W.cell? ⟨gb, 6, none⟩ = some (.int .i64 p.a6) ∧ W.cell? ⟨gb, 7, none⟩ = some (.int .i64 p.a7) ∧ W.cell? ⟨gb, 8, none⟩ = some (.int .i64 p.a8) ∧ W.cell? ⟨gl, j, none⟩ = some (.int .i64 ((f j : Nat) : Int))) (go_keep)
                  (first | (go_at_call 25; refine (unhide AL _ (by first | with_reducible exact World.grownBy.refl _ none | with_reducible exact grown_drew' (World.grownBy.refl _ none) | with_reducible exact grown_drewN (World.grownBy.refl _ none))).mono ?_; rintro e W5 ⟨a1, c1, rfl, r1, o1, g5⟩; have gd5 : World.grownBy wr W5 none := World.grownBy.trans (by first | with_reducible exact World.grownBy.refl _ none | with_reducible exact grown_drew' (World.grownBy.refl _ none) | with_reducible exact grown_drewN (World.grownBy.refl _ none)) g5; have zz := ((unhide HBW).grown gd5).nine; obtain ⟨z0, z1, z2, z3, z4, z5, z6, z7, z8⟩ := zz; have z9 := (OwnF.grown (unhide HOW) gd5).cell j (by omega); have O5 := hide (OwnB.mono o1 (show wr.heap.size ≤ _ from Nat.le_refl _)); have R5 := hide r1; have G5 := hide gd5; clear r1 o1 g5 gd5))
                have hPL := unhide HPL
                have K5 := KB.new (unhide HO1) (unhide R5) (unhide O5)
                obtain ⟨b1, W6, e6, o6, g6, m6⟩ := app_moved W3 W5 u16 (flat p (segsK f ob j)) PL a1 c1 (World.ownsRow.kept (unhide HO1) (unhide G5) (by cases u16.ownBlock <;> simp)) ((unhide HG1).trans (unhide G5)) (unhide R5) (by omega)
                have K6 := K5.moved m6
                have A6 := (unhide HA1).to (Nat.le_succ j) (fun a L k => (k.grown (unhide G5)).moved m6)
                have x9 := (OwnF.grown (unhide HO3) g6).cell j (by omega)
                have NE : 0 < PL.length → p.l.getD (f j) 0 ≠ untT (f j) := by
                  intro h0 e
                  rw [hPL] at h0
                  unfold partK at h0
                  rw [if_pos e] at h0
                  simp at h0
                have FL : flat p (segsK f ob (j + 1)) = flat p (segsK f ob j) ++ (PL ++ (if j = 4 then sh 40 ++ sh ob.length ++ ob else [])) := by
                  rw [segsK, flat_app, hPL]
                  by_cases c : j = 4
                  · rw [if_pos c, if_pos c]; simp [flat, Seg.bytes]
                  · rw [if_neg c, if_neg c]; simp [flat, Seg.bytes]
                have AN : ∀ W v, KB W v a1 PL → 0 < PL.length → AG p f W v (.slice a1 PL.length c1) (j + 1) := fun W v hk h0 => ⟨a1, _, c1, rfl, .inr ⟨j, Nat.lt_succ_self j, NE h0, by rw [hPL], by rw [← hPL]; exact hk⟩⟩
                clear z0 z1 z2 z3 z4 z5 z6 z7 z8 z9 n0 n1 n2 n3 n4 n5 n6 n7 n8 cl1 HBW HOW HO1 HA1 O5 R5 HG1 G5 AL K5 m6 NE HPL
                by_cases hj4 : j = 4
                · rw [if_pos hj4] at FL
                  have hj4b : ((j : Int) == 4) = true := by simp; omega
                  have hj4c : (j == 4) = true := by simp; omega
                  obtain ⟨x1, y1, x2, y2, x3, y3, f1, f2, f3, oo, gg, kk⟩ := app_oth W3 W6 b1 (flat p (segsK f ob j) ++ PL) ob ab cb o6 g6 (unhide HR3) (by have := fl4 hj4; rw [List.length_append]; omega)
                  rw [List.append_assoc, ← FL] at oo
                  have pp := put_ok (ob.length : Int) W6 (by omega) (by omega)
                  have hwl : IntKind.u64.wrap (ob.length : Int) = (ob.length : Int) := by rw [IntKind.wrap_u64]; omega
                  have x9' := (OwnF.grown (unhide HO3) gg).cell j (by omega)
                  have A7 := A6.to (Nat.le_refl (j + 1)) kk
                  have K7 := kk _ _ K6
                  by_cases ht : t = ((f j : Nat) : Int)
                  · have htb : (t == ((f j : Nat) : Int)) = true := by simpa using ht
                    by_cases h0 : 0 < PL.length
                    · have h0b : (0 : Int) < (PL.length : Int) := by omega
                      have NX := hide (And.intro oo (And.intro gg (AN _ _ K7 h0)))
                      clear o6 g6 A6 AN K6 FL hPL ht HK HF HF9 HB3 HG3 HT3 HR3 HO3 oo gg kk A7 K7 hj4
                      go_upto_region 32 with (first | (at_builtin; refine Lib.wpList_append_run _ rfl _ _ _ _ rfl _ _ rfl rfl _ _ (e6 _) ?_) | (go_at_call 26; refine pp.mono ?_; rintro e W7 ⟨rfl, rfl⟩; clear pp))
                      go_upto_region 33 with (at_builtin; refine Lib.wpList_append_run _ rfl _ _ _ _ rfl _ _ rfl rfl _ _ (f1 _) ?_)
                      go_upto_region 34 with (at_builtin; refine Lib.wpList_append_run _ rfl _ _ _ _ rfl _ _ rfl rfl _ _ (f2 _) ?_)
                      go_wp2_with (at_builtin; refine Lib.wpList_append_run _ rfl _ _ _ _ rfl _ _ rfl rfl _ _ (f3 _) ?_)
                      exact ⟨⟨j + 1, by omega, rfl, unhide NX⟩, by simp [intOf]; omega⟩
                    · have h0b : ¬ (0 : Int) < (PL.length : Int) := by omega
                      have NX := hide (And.intro oo (And.intro gg A7))
                      clear o6 g6 A6 AN K6 FL hPL ht HK HF HF9 HB3 HG3 HT3 HR3 HO3 oo gg kk A7 K7 hj4
                      go_upto_region 32 with (first | (at_builtin; refine Lib.wpList_append_run _ rfl _ _ _ _ rfl _ _ rfl rfl _ _ (e6 _) ?_) | (go_at_call 26; refine pp.mono ?_; rintro e W7 ⟨rfl, rfl⟩; clear pp))
                      go_upto_region 33 with (at_builtin; refine Lib.wpList_append_run _ rfl _ _ _ _ rfl _ _ rfl rfl _ _ (f1 _) ?_)
                      go_upto_region 34 with (at_builtin; refine Lib.wpList_append_run _ rfl _ _ _ _ rfl _ _ rfl rfl _ _ (f2 _) ?_)
                      go_wp2_with (at_builtin; refine Lib.wpList_append_run _ rfl _ _ _ _ rfl _ _ rfl rfl _ _ (f3 _) ?_)
                      exact ⟨⟨j + 1, by omega, rfl, unhide NX⟩, by simp [intOf]; omega⟩
                  · have htb : (t == ((f j : Nat) : Int)) = false := by simpa using ht
                    have NX := hide (And.intro oo (And.intro gg A7))
                    clear o6 g6 A6 AN K6 FL hPL ht HK HF HF9 HB3 HG3 HT3 HR3 HO3 oo gg kk A7 K7 hj4
                    go_upto_region 32 with (first | (at_builtin; refine Lib.wpList_append_run _ rfl _ _ _ _ rfl _ _ rfl rfl _ _ (e6 _) ?_) | (go_at_call 26; refine pp.mono ?_; rintro e W7 ⟨rfl, rfl⟩; clear pp))
                    go_upto_region 33 with (at_builtin; refine Lib.wpList_append_run _ rfl _ _ _ _ rfl _ _ rfl rfl _ _ (f1 _) ?_)
                    go_upto_region 34 with (at_builtin; refine Lib.wpList_append_run _ rfl _ _ _ _ rfl _ _ rfl rfl _ _ (f2 _) ?_)
                    go_wp2_with (at_builtin; refine Lib.wpList_append_run _ rfl _ _ _ _ rfl _ _ rfl rfl _ _ (f3 _) ?_)
                    exact ⟨⟨j + 1, by omega, rfl, unhide NX⟩, by simp [intOf]; omega⟩
                · rw [if_neg hj4, List.append_nil] at FL
                  have hj4b : ((j : Int) == 4) = false := by simp; omega
                  have hj4c : (j == 4) = false := by simp; omega
                  rw [← FL] at o6
                  by_cases ht : t = ((f j : Nat) : Int)
                  · have htb : (t == ((f j : Nat) : Int)) = true := by simpa using ht
                    by_cases h0 : 0 < PL.length
                    · have h0b : (0 : Int) < (PL.length : Int) := by omega
                      have NX := hide (And.intro o6 (And.intro g6 (AN _ _ K6 h0)))
                      clear o6 g6 A6 AN K6 FL hPL ht HK HF HF9 HB3 HG3 HT3 HR3 HO3
                      go_wp2_with (at_builtin; refine Lib.wpList_append_run _ rfl _ _ _ _ rfl _ _ rfl rfl _ _ (e6 _) ?_)
                      exact ⟨⟨j + 1, by omega, rfl, unhide NX⟩, by simp [intOf]; omega⟩
                    · have h0b : ¬ (0 : Int) < (PL.length : Int) := by omega
                      have NX := hide (And.intro o6 (And.intro g6 A6))
                      clear o6 g6 A6 AN K6 FL hPL ht HK HF HF9 HB3 HG3 HT3 HR3 HO3
                      go_wp2_with (at_builtin; refine Lib.wpList_append_run _ rfl _ _ _ _ rfl _ _ rfl rfl _ _ (e6 _) ?_)
                      exact ⟨⟨j + 1, by omega, rfl, unhide NX⟩, by simp [intOf]; omega⟩
                  · have htb : (t == ((f j : Nat) : Int)) = false := by simpa using ht
                    have NX := hide (And.intro o6 (And.intro g6 A6))
                    clear o6 g6 A6 AN K6 FL hPL ht HK HF HF9 HB3 HG3 HT3 HR3 HO3
                    go_wp2_with (at_builtin; refine Lib.wpList_append_run _ rfl _ _ _ _ rfl _ _ rfl rfl _ _ (e6 _) ?_)
                    exact ⟨⟨j + 1, by omega, rfl, unhide NX⟩, by simp [intOf]; omega⟩
    · have hlt : (j : Int) < 9 := by omega
      obtain ⟨v', w', hr, ho', hg'⟩ := app_int W2 wr u11 j ho hg (by omega)
      have F := hide (And.intro ho' hg')
      clear ho hg ho' hg' HB HG HT HO HR HK hbs
      go_wp2_with (at_builtin; refine Lib.wpList_append_run _ rfl _ _ _ _ rfl _ _ rfl rfl _ _ (hr _) ?_)
      exact ⟨⟨j + 1, by omega, rfl, (unhide F).1, (unhide F).2⟩, by simp [intOf]; omega⟩
end Go.Proofs.YtmfbbamaleagiaaDoor
