/- The document's Decode. -/
import Derived.Test.YtmfbbamaleagiaaDoorYD
import Derived.Test.YtmfbbamaleagiaaDoorYE
import Derived.Maps.RangeWalk
namespace Go.Proofs.YtmfbbamaleagiaaDoor
open Go.RowKit
set_option linter.unusedVariables false
set_option maxRecDepth 100000
set_option maxHeartbeats 2000000

/-- What holds while it reads: the parameters so far, the numbers that came; the bytes from w0. -/
structure DR (w0 wr : World) (gp : Nat) (v : Value) (a : Option Addr) (l : List Int) (s : St) : Prop where
  par : Blk wr gp s.vs.cs 23
  came : OwnU w0.heap.size wr v s.cm
  rd0 : Rd w0 a l
  at_ : s.k ≤ l.length
  low : w0.heap.size ≤ gp
  gr : w0.grownBy wr none
  few : s.cm.length ≤ s.k

section
variable {w0 wr : World} {gp : Nat} {v : Value} {a : Option Addr} {l : List Int} {s : St}
theorem DR.rd (h : DR w0 wr gp v a l s) : Rd wr a l := rd_below h.rd0 (grown_bel h.gr)
theorem DR.grown {W : World} (h : DR w0 wr gp v a l s) (g : wr.grownBy W none) : DR w0 W gp v a l s :=
  ⟨h.par.grown g, World.ownsRow.kept h.came g (by cases v.ownBlock <;> simp), h.rd0, h.at_, h.low, h.gr.trans g, h.few⟩
/-- The row of numbers is another block. -/
theorem DR.ne (h : DR w0 wr gp v a l s) : v.ownBlock ≠ some gp := by
  intro e
  rcases h.came.2 with ⟨h1, -⟩ | ⟨g, cap, cur, e1, hb, hgg, -⟩
  · rw [h1] at e; cases e
  · rw [e1] at e
    simp [Value.ownBlock] at e
    subst e
    have := h.par
    unfold Blk at this
    rw [hgg] at this
    injection this with this
    injection this with _ this
    exact absurd this (by decide)
theorem DR.seek (h : DR w0 wr gp v a l s) (k : Nat) (h1 : k ≤ l.length) (h2 : s.cm.length ≤ k) : DR w0 wr gp v a l ⟨k, s.cm, s.vs⟩ := ⟨h.par, h.came, h.rd0, h1, h.low, h.gr, h2⟩
theorem DR.setP (h : DR w0 wr gp v a l s) (q : Ps) : DR w0 (wr.setRow gp q.cs) gp v a l ⟨s.k, s.cm, q⟩ := by
  have gg : wr.grownBy (wr.setRow gp q.cs) (some gp) := by
    refine ⟨rfl, rfl, rfl, ?_, fun i hi hn => ?_⟩
    · show wr.heap.size ≤ (wr.heap.modify gp _).size
      rw [Array.size_modify]; exact Nat.le_refl _
    · show (wr.heap.modify gp _)[i]? = _
      rw [Array.getElem?_modify, if_neg (fun e => hn (by rw [e]))]
  exact ⟨h.par.row _, World.ownsRow.kept h.came gg (.inr h.ne), h.rd0, h.at_, h.low, grown_row h.gr _ _ h.low, h.few⟩
theorem DR.push (h : DR w0 wr gp v a l s) (id : Int) (hm : s.cm.length + 1 ≤ 17592186044416) (hk : s.cm.length + 1 ≤ s.k) :
    ∃ v' w', (∀ ty, (Builtin.append_ #[69, 69] ty #[v, .slice (some ⟨wr.heap.size, 0, none⟩) 1 1]).run Tryd.prog (wr.alloc (.cells #[.int .u64 id] 52)) = .ok v' w') ∧ DR w0 w' gp v' a l ⟨s.k, s.cm ++ [id], s.vs⟩ := by
  obtain ⟨v', w', hr, ho, hmv⟩ := app_u64 w0 wr v s.cm id h.came h.gr hm
  have ga := World.grownBy_alloc wr (.cells #[.int .u64 id] 52) none
  have ha := h.grown ga
  refine ⟨v', w', hr, ?_, ho, h.rd0, h.at_, h.low, ?_, by simpa using hk⟩
  · rcases hmv with ⟨-, g⟩ | ⟨-, g, -⟩
    · exact (g.block gp ha.par.lt (Ne.symm h.ne)).trans ha.par
    · exact (g.block gp ha.par.lt (by simp)).trans ha.par
  · refine bel_grown (hmv.below (grown_bel ha.gr) ha.gr.size (fun k hk => ?_))
    rcases h.came.2 with ⟨h1, -⟩ | ⟨g, cap, cur, e1, hb, -⟩
    · subst h1; cases hk
    · subst e1; simp [Value.ownBlock] at hk; omega
end

/-- One parameter by the document's words. -/
theorem stepR (l : List Int) (hb : ∀ x ∈ l, IsB x) (s : St) :
    ((getF l s.k).2.2 ≠ 0 → stepP l s = .error 60) ∧
    ((getF l s.k).2.2 = 0 → s.cm.contains (getF l s.k).1 = true → stepP l s = .error 61) ∧
    ((getF l s.k).2.2 = 0 → s.cm.contains (getF l s.k).1 = false → ((getF l (getF l s.k).2.1).2.2 ≠ 0 ∨ (l.length : Int) - (getF l (getF l s.k).2.1).2.1 < (getF l (getF l s.k).2.1).1) → stepP l s = .error 60) := by
  refine ⟨fun h => ?_, fun h h2 => ?_, fun h h2 h3 => ?_⟩
  · unfold stepP; rw [if_pos h]
  · unfold stepP; rw [if_neg (by omega), if_pos h2]
  · unfold stepP; rw [if_neg (by omega), if_neg (by rw [h2]; simp)]
    rcases h3 with h3 | h3
    · rw [if_pos h3]
    · by_cases c : (getF l (getF l s.k).2.1).2.2 ≠ 0
      · rw [if_pos c]
      · rw [if_neg c, if_pos h3]
theorem stepR_un (l : List Int) (s : St) (t : Int × Int × Int) (N U : Nat) (ht : getF l s.k = t) (h0 : t.2.2 = 0) (hc : s.cm.contains t.1 = false) (hu : getF l t.2.1 = ((N : Int), (U : Int), 0)) (hn : U + N ≤ l.length) (hp : placeF t.1 = none) :
    stepP l s = .ok ⟨U + N, s.cm ++ [t.1], s.vs⟩ := by
  unfold stepP
  rw [ht]
  simp only [hu]
  rw [if_neg (by omega), if_neg (by rw [hc]; simp), if_neg (by simp), if_neg (by omega), hp]
  simp only
  rw [show ((U : Int) + (N : Int)).toNat = U + N by omega]
theorem stepR_kn (l : List Int) (s : St) (t : Int × Int × Int) (N U i : Nat) (ht : getF l s.k = t) (h0 : t.2.2 = 0) (hc : s.cm.contains t.1 = false) (hu : getF l t.2.1 = ((N : Int), (U : Int), 0)) (hn : U + N ≤ l.length) (hp : placeF t.1 = some i) :
    ((getF l U).2.2 ≠ 0 ∨ (getF l U).2.1 ≠ (U : Int) + N ∨ mostT i < (getF l U).1 → stepP l s = .error 62) ∧
    ((getF l U).2.2 = 0 → (getF l U).2.1 = (U : Int) + N → ¬ mostT i < (getF l U).1 → stepP l s = .ok ⟨U + N, s.cm ++ [t.1], s.vs.set i (getF l U).1⟩) := by
  obtain ⟨q1, q2⟩ := get_sub l U N hn
  have E : stepP l s = if (getF ((l.drop U).take N) 0).2.2 ≠ 0 ∨ (getF ((l.drop U).take N) 0).2.1 ≠ (N : Int) ∨ mostT i < (getF ((l.drop U).take N) 0).1 then .error 62 else .ok ⟨U + N, s.cm ++ [t.1], s.vs.set i (getF ((l.drop U).take N) 0).1⟩ := by
    unfold stepP
    rw [ht]
    simp only [hu]
    rw [if_neg (by omega), if_neg (by rw [hc]; simp), if_neg (by simp), if_neg (by omega), hp]
    simp only [Int.toNat_natCast]
    rw [show ((U : Int) + (N : Int)).toNat = U + N by omega]
  rw [E]
  constructor
  · intro h
    refine if_pos ?_
    by_cases c : (getF ((l.drop U).take N) 0).2.2 = 0 ∧ (getF ((l.drop U).take N) 0).2.1 = N
    · have c2 := q1.1 c
      have c3 := q2 c2.1 c2.2
      rcases h with h | h | h
      · exact absurd c2.1 h
      · exact absurd c2.2 h
      · right; right; rw [c3]; exact h
    · by_cases d : (getF ((l.drop U).take N) 0).2.2 = 0
      · right; left; intro d2; exact c ⟨d, d2⟩
      · left; exact d
  · intro h1 h2 h3
    have c := q1.2 ⟨h1, h2⟩
    have c3 := q2 h1 h2
    rw [if_neg (by rintro (x | x | x); exact x c.1; exact x c.2; rw [c3] at x; exact h3 x), c3]

theorem rget_grown (a : Option Addr) (l : List Int) (cap : Nat) (i : Int) (w : World) (hr : Rd w a l) (hm : l.length ≤ maxLen) :
    Calls Tryd.prog 35 #[.slice a l.length cap, .int .i64 i] w fun e w' => e = .returned (.tuple #[.int .u64 (getF l i).1, .int .i64 (getF l i).2.1, .int .i64 (getF l i).2.2]) ∧ w.grownBy w' none :=
  (rget_any a l cap i w hr hm).mono fun e w' ⟨he, hb⟩ => ⟨he, bel_grown hb⟩

/-- How many came. -/
structure Cnt (s : St) : Prop where
  nd : s.cm.Nodup
  nn : ∀ x ∈ s.cm, 0 ≤ x ∧ x ≤ 4611686018427387903
  wt : wsum s.cm ≤ s.k

theorem zeroP_9 : zeroP.cs = zero9 := rfl

theorem rdecode_any (a : Option Addr) (l : List Int) (n c : Nat) (w : World) (hr : Rd w a l) (hn : l.length = n) (h1 : n ≤ c) (h2 : c ≤ maxLen) (hs : l.length ≤ 140737488351232) :
    Calls Tryd.prog 20 #[.slice a n c] w fun e w' => e = .returned (.tuple #[.agg (dec l).1.cs, .int .i64 (dec l).2]) ∧ w.grownBy w' none := by
  subst hn
  have hb := hr.1
  have G0 := World.grownBy_alloc w (.cells zeroP.cs 23) none
  have B0 := Blk.new w zeroP.cs 23
  have r0 := rd_below hr (grown_bel G0)
  have e0 : (.cells #[.int .i64 0, .int .i64 0, .int .i64 0, .int .i64 0, .int .i64 0, .int .i64 0, .int .i64 0, .int .i64 0, .int .i64 0] 23 : Obj) = .cells zeroP.cs 23 := rfl
  have hml : l.length ≤ maxLen := by omega
  go_enter Tryd.func20, Tryd.ntmps20
  go_wp2_with (first | (go_at_call 13; generalize hW0 : w.alloc (.cells zeroP.cs 23) = W0 at *; refine (rdefault_any _).mono ?_; rintro e W1 ⟨rfl, g1⟩) | (refine wpList_store_row rfl _ _ _ rfl W1.heap.size dflt.cs rfl rfl 23 _ (Blk.new W1 zero9 23) Tryd.sizePs rfl (Ps.one _) ?_; rw [World.setRow_alloc_new]))
  have D0 : DR W0 (W1.alloc (.cells dflt.cs 23)) W1.heap.size (.slice none 0 0) a l ⟨0, [], dflt⟩ :=
    ⟨Blk.new _ _ _, World.ownsRow_nil _ _ _ _, r0, Nat.zero_le _, g1.size, g1.trans (World.grownBy_alloc _ _ none), Nat.le_refl _⟩
  have HD0 := hide D0
  clear D0 g1
  generalize W1.alloc (.cells dflt.cs 23) = W4 at *
  generalize W1.heap.size = gp at *
  go_loopw [6, 5] (fun i v wr => ∃ (f : Nat) (s : St), DR W0 wr gp v a l s ∧ i = .int .i64 s.k ∧ dec l = decF l f s ∧ l.length - s.k < f ∧ Cnt s) (fun i _ _ => l.length - (intOf i).toNat)
  case atStart => exact ⟨l.length + 1, ⟨0, [], dflt⟩, unhide HD0, rfl, rfl, by simp, ⟨List.nodup_nil, by simp, Nat.le_refl _⟩⟩
  case round =>
    obtain ⟨f, s, D, rfl, hd, hf, hct⟩ := hrel
    have hcm := count_small s.cm hct.nd hct.nn s.k hct.wt (by have := D.at_; omega)
    obtain ⟨av, cv, rfl, -, -, -⟩ := D.came.shape
    obtain ⟨f, rfl⟩ : ∃ f', f = f' + 1 := ⟨f - 1, by omega⟩
    unfold decF at hd
    clear HD0
    have hk := D.at_
    by_cases hkl : s.k = l.length
    · rw [if_pos hkl] at hd
      have HDD := hide hd
      have hnlt : ¬ (s.k : Int) < (l.length : Int) := by omega
      have K : Hid (Blk wr gp s.vs.cs 23 ∧ Blk wr w.heap.size zeroP.cs 23 ∧ w.grownBy wr none) := ⟨D.par, B0.grown D.gr, G0.trans D.gr⟩
      clear D hd hr r0 B0 G0
      go_wp2_with (first | (refine wpList_load_row rfl _ _ rfl gp rfl 23 s.vs.cs (0, 0) _ (unhide K).1 Tryd.underlying23 rfl Tryd.sizePs ?_) | (refine wpList_store_row rfl _ _ _ rfl w.heap.size s.vs.cs rfl rfl 23 _ (unhide K).2.1 Tryd.sizePs rfl (Ps.one _) ?_))
      refine bodyPost_ret (results_ct rfl _ _ w.heap.size s.vs.cs _ rfl ((unhide K).2.1.row _) Tryd.underlying23 rfl Tryd.sizePs) rfl ?_
      rw [unhide HDD]
      exact ⟨rfl, grown_row (unhide K).2.2 _ _ (Nat.le_refl _)⟩
    · rw [if_neg hkl] at hd
      have hlt : (s.k : Int) < (l.length : Int) := by omega
      -- every way out with an error
      have BAD : Hid (∀ x, stepP l s = .error x → ∀ W, W0.grownBy W none → dec l = (zeroP, x) ∧ Blk W w.heap.size zeroP.cs 23 ∧ w.grownBy W none) := by
        intro x hx W gW
        rw [hx] at hd
        exact ⟨hd, B0.grown gW, G0.trans gW⟩
      have GET := fun i W (gW : wr.grownBy W none) => rget_grown a l c i W (D.grown gW).rd hml
      obtain ⟨st1, st2, st3⟩ := stepR l hb s
      by_cases q1 : (getF l s.k).2.2 ≠ 0
      · have HB := hide (unhide BAD _ (st1 q1))
        have g1 := GET s.k wr (World.grownBy.refl wr none)
        have hd1 : ((getF l s.k).2.2 != 0) = true := by simpa using q1
        have g0 := D.gr
        generalize getF l s.k = t at *
        clear BAD GET st1 st2 st3 D q1 hd
        go_wp2_with (first | (go_at_call 35; refine g1.mono ?_; rintro e W5 ⟨rfl, g5⟩; have K3 := hide (unhide HB _ (g0.trans g5)); clear HB g5 g1) | (refine wpList_store_row rfl _ _ _ rfl w.heap.size zeroP.cs rfl rfl 23 _ (unhide K3).2.1 Tryd.sizePs rfl (Ps.one _) ?_))
        refine bodyPost_ret (results_ct rfl _ _ w.heap.size zeroP.cs _ rfl ((unhide K3).2.1.row _) Tryd.underlying23 rfl Tryd.sizePs) rfl ?_
        rw [(unhide K3).1]
        exact ⟨rfl, grown_row (unhide K3).2.2 _ _ (Nat.le_refl _)⟩
      · have q1' : (getF l s.k).2.2 = 0 := by omega
        obtain ⟨-, p1, p2, p3, p4⟩ := getF_good l hb _ q1'
        have g1 := GET s.k wr (World.grownBy.refl wr none)
        have AM : Hid (∀ W, wr.grownBy W none → Calls Tryd.prog 36 #[.int .u64 (getF l s.k).1, .slice av s.cm.length cv] W fun e w' => e = .returned (.bool (s.cm.contains (getF l s.k).1)) ∧ w' = W) := by
          intro W gW
          obtain ⟨a', c', e, m1, m2, m3⟩ := (D.grown gW).came.shape
          cases e
          exact among_any _ av s.cm _ cv W rfl m1 m2 m3
        have gsz := getF_size' l hb s.k q1'
        generalize ht : getF l s.k = t at *
        by_cases q2 : s.cm.contains t.1 = true
        · have HB := hide (unhide BAD _ (st2 q1' q2))
          have g0 := D.gr
          rw [q2] at AM
          rw [q1'] at g1
          clear BAD GET st1 st2 st3 D q1 hd q2
          go_wp2_with (first | (go_at_call 35; refine g1.mono ?_; rintro e W5 ⟨rfl, g5⟩; have K3 := hide (unhide HB _ (g0.trans g5)); have am := unhide AM _ g5; clear HB g5 g1 AM) | (go_at_call 36; refine am.mono ?_; rintro e W6 ⟨rfl, hW⟩; replace hW := hW.symm; subst hW; clear am) | (refine wpList_store_row rfl _ _ _ rfl w.heap.size zeroP.cs rfl rfl 23 _ (unhide K3).2.1 Tryd.sizePs rfl (Ps.one _) ?_))
          refine bodyPost_ret (results_ct rfl _ _ w.heap.size zeroP.cs _ rfl ((unhide K3).2.1.row _) Tryd.underlying23 rfl Tryd.sizePs) rfl ?_
          rw [(unhide K3).1]
          exact ⟨rfl, grown_row (unhide K3).2.2 _ _ (Nat.le_refl _)⟩
        · have q2' : s.cm.contains t.1 = false := by simpa using q2
          obtain ⟨K, hK⟩ : ∃ K : Nat, t.2.1 = K := ⟨t.2.1.toNat, by omega⟩
          have CT : Hid (∀ k' vs', K < k' → Cnt ⟨k', s.cm ++ [t.1], vs'⟩) := by
            intro k' vs' hk'
            refine ⟨?_, ?_, ?_⟩
            · refine List.nodup_append.2 ⟨hct.nd, by simp, ?_⟩
              intro x hx y hy e
              simp at hy
              rw [e, hy] at hx
              have : s.cm.contains t.1 = true := by simpa using hx
              rw [q2'] at this
              cases this
            · intro x hx
              rcases List.mem_append.1 hx with hx | hx
              · exact hct.nn x hx
              · simp at hx; rw [hx]; omega
            · have := hct.wt
              simp only [wsum_snoc]
              rw [hK] at gsz
              omega
          have PUSH : Hid (∀ W, wr.grownBy W none → ∃ v' w', (∀ ty, (Builtin.append_ #[69, 69] ty #[.slice av s.cm.length cv, .slice (some ⟨W.heap.size, 0, none⟩) 1 1]).run Tryd.prog (W.alloc (.cells #[.int .u64 t.1] 52)) = .ok v' w') ∧ DR W0 w' gp v' a l ⟨K, s.cm ++ [t.1], s.vs⟩) := by
            intro W gW
            have D1 := (D.grown gW).seek K (by omega) (by have := D.few; omega)
            exact D1.push t.1 hcm (by have := D.few; simp only; omega)
          rw [q2'] at AM
          rw [q1'] at g1
          have GET2 : Hid (∀ i W v' s', DR W0 W gp v' a l s' → Calls Tryd.prog 35 #[.slice a l.length c, .int .i64 i] W fun e w' => e = .returned (.tuple #[.int .u64 (getF l i).1, .int .i64 (getF l i).2.1, .int .i64 (getF l i).2.2]) ∧ W.grownBy w' none) := fun i W v' s' D' => rget_grown a l c i W D'.rd hml
          have st3' := st3 q1' q2'
          rw [hK] at st3' g1
          clear GET st1 st2 st3 q1 q2
          by_cases q3 : (getF l K).2.2 ≠ 0
          · have HB := hide (unhide BAD _ (st3' (.inl q3)))
            have hd1 : ((getF l K).2.2 != 0) = true := by simpa using q3
            have G2 := hide (fun W v' s' D' => unhide GET2 K W v' s' D')
            clear BAD D hd st3' GET2
            generalize getF l K = u at *
            go_wp2_with (first | (go_at_call 35; refine g1.mono ?_; rintro e W5 ⟨rfl, g5⟩; have am := unhide AM _ g5; obtain ⟨v', W7, hr7, D7⟩ := unhide PUSH _ g5; have gg := unhide G2 _ _ _ D7; have g7 := hide D7.gr; clear g5 g1 AM PUSH D7 G2) | (go_at_call 36; refine am.mono ?_; rintro e W6 ⟨rfl, hW⟩; replace hW := hW.symm; subst hW; clear am) | (at_builtin; refine Lib.wpList_append_run _ rfl _ _ _ _ rfl _ _ rfl rfl _ _ (hr7 _) ?_) | (go_at_call 35; refine gg.mono ?_; rintro e W8 ⟨rfl, g8⟩; have K3 := hide (unhide HB _ ((unhide g7).trans g8)); clear HB g8 gg) | (refine wpList_store_row rfl _ _ _ rfl w.heap.size zeroP.cs rfl rfl 23 _ (unhide K3).2.1 Tryd.sizePs rfl (Ps.one _) ?_))
            refine bodyPost_ret (results_ct rfl _ _ w.heap.size zeroP.cs _ rfl ((unhide K3).2.1.row _) Tryd.underlying23 rfl Tryd.sizePs) rfl ?_
            rw [(unhide K3).1]
            exact ⟨rfl, grown_row (unhide K3).2.2 _ _ (Nat.le_refl _)⟩
          · have q3' : (getF l K).2.2 = 0 := by omega
            obtain ⟨-, u1, u2, u3, u4⟩ := getF_good l hb _ q3'
            have G2 := hide (fun W v' s' D' => unhide GET2 K W v' s' D')
            obtain ⟨U, hU⟩ : ∃ U : Nat, (getF l K).2.1 = U := ⟨(getF l K).2.1.toNat, by omega⟩
            obtain ⟨N, hN⟩ : ∃ N : Nat, (getF l K).1 = N := ⟨(getF l K).1.toNat, by omega⟩
            have hu : getF l t.2.1 = ((N : Int), (U : Int), 0) := by
              rw [hK]
              generalize getF l K = u at *
              obtain ⟨x, y, z⟩ := u
              simp only at hU hN q3'
              rw [hU, hN, q3']
            have st3'' := fun h => st3' (.inr h)
            rw [hU, hN] at st3''
            rw [hU] at u1 u2
            rw [hU, hN, q3'] at G2
            clear st3' q3
            have hw1 : IntKind.i64.wrap ((l.length : Int) - U) = (l.length : Int) - U := by rw [IntKind.wrap_i64]; omega
            have hw2 : IntKind.u64.wrap ((l.length : Int) - U) = (l.length : Int) - U := by rw [IntKind.wrap_u64]; omega
            by_cases q4 : (l.length : Int) - U < N
            · have HB := hide (unhide BAD _ (st3'' q4))
              clear BAD D hd st3'' GET2 hu hU hN q3'
              generalize hL : (l.length : Int) - (U : Int) = M at *
              go_wp2_with (first | (go_at_call 35; refine g1.mono ?_; rintro e W5 ⟨rfl, g5⟩; have am := unhide AM _ g5; obtain ⟨v', W7, hr7, D7⟩ := unhide PUSH _ g5; have gg := unhide G2 _ _ _ D7; have g7 := hide D7.gr; clear D7; clear g5 g1 AM PUSH G2) | (go_at_call 36; refine am.mono ?_; rintro e W6 ⟨rfl, hW⟩; replace hW := hW.symm; subst hW; clear am) | (at_builtin; refine Lib.wpList_append_run _ rfl _ _ _ _ rfl _ _ rfl rfl _ _ (hr7 _) ?_) | (go_at_call 35; refine gg.mono ?_; rintro e W8 ⟨rfl, g8⟩; have K3 := hide (unhide HB _ ((unhide g7).trans g8)); clear HB g8 gg) | (refine wpList_store_row rfl _ _ _ rfl w.heap.size zeroP.cs rfl rfl 23 _ (unhide K3).2.1 Tryd.sizePs rfl (Ps.one _) ?_))
              refine bodyPost_ret (results_ct rfl _ _ w.heap.size zeroP.cs _ rfl ((unhide K3).2.1.row _) Tryd.underlying23 rfl Tryd.sizePs) rfl ?_
              rw [(unhide K3).1]
              exact ⟨rfl, grown_row (unhide K3).2.2 _ _ (Nat.le_refl _)⟩
            · have hUN : U + N ≤ l.length := by omega
              have q4' : (N : Int) ≤ (l.length : Int) - U := by omega
              have hw3 : IntKind.i64.wrap (N : Int) = N := by rw [IntKind.wrap_i64]; omega
              have hw4 : IntKind.i64.wrap ((U : Int) + N) = (U : Int) + N := by rw [IntKind.wrap_i64]; omega
              have KN := fun W => known_any t.1 W (by omega)
              obtain ⟨pk1, pk2⟩ := place_known t.1 (by omega)
              have hKU : K < U := by omega
              cases hkn : knownB t.1 with
              | false =>
                have hst := stepR_un l s t N U ht q1' q2' hu hUN (pk2 hkn)
                rw [hst] at hd
                simp only at hd
                rw [hkn] at KN
                have HDD := hide hd
                have SEEK : Hid (∀ W v', DR W0 W gp v' a l ⟨K, s.cm ++ [t.1], s.vs⟩ → DR W0 W gp v' a l ⟨U + N, s.cm ++ [t.1], s.vs⟩) := fun W v' D' => D'.seek (U + N) hUN (by have := D'.few; simp only at this ⊢; omega)
                clear BAD D hd st3'' GET2 hu hU hN q3' hst pk1 pk2 hkn
                go_wp2_with (first | (go_at_call 35; refine g1.mono ?_; rintro e W5 ⟨rfl, g5⟩; have am := unhide AM _ g5; obtain ⟨v', W7, hr7, D7⟩ := unhide PUSH _ g5; have gg := unhide G2 _ _ _ D7; have HD7 := hide D7; clear D7; clear g5 g1 AM PUSH G2) | (go_at_call 36; refine am.mono ?_; rintro e W6 ⟨rfl, hW⟩; replace hW := hW.symm; subst hW; clear am) | (at_builtin; refine Lib.wpList_append_run _ rfl _ _ _ _ rfl _ _ rfl rfl _ _ (hr7 _) ?_) | (go_at_call 35; refine gg.mono ?_; rintro e W8 ⟨rfl, g8⟩; have D8 := hide (unhide SEEK _ _ ((unhide HD7).grown g8)); clear g8 gg HD7 SEEK) | (go_at_call 30; refine (KN _).mono ?_; rintro e W9 ⟨rfl, hW⟩; replace hW := hW.symm; subst hW; clear KN))
                exact ⟨⟨f, ⟨U + N, s.cm ++ [t.1], s.vs⟩, unhide D8, by simp, unhide HDD, by simp only; omega, unhide CT _ _ (by omega)⟩, by simp [intOf]; omega⟩
              | true =>
                obtain ⟨k1, k2, hpl⟩ := pk1 hkn
                obtain ⟨I, hI⟩ : ∃ I : Nat, t.1 = I := ⟨t.1.toNat, by omega⟩
                rw [hI, Int.toNat_natCast] at hpl
                obtain ⟨hnum, hix⟩ := num_ix I (by omega) (by rw [← hI]; exact hkn)
                obtain ⟨kn1, kn2⟩ := stepR_kn l s t N U (ixF I) ht q1' q2' hu hUN (by rw [hI]; exact hpl)
                have MO := fun W => most_any I (by omega) W
                unfold mostR at MO
                rw [show knownB (I : Int) = true by rw [← hI]; exact hkn] at MO
                simp only [if_true] at MO
                have hm := (most_small _ hix).1
                have hm0 : 0 ≤ mostT (ixF I) := by
                  obtain h | h | h | h | h | h | h | h | h : ixF I = 0 ∨ ixF I = 1 ∨ ixF I = 2 ∨ ixF I = 3 ∨ ixF I = 4 ∨ ixF I = 5 ∨ ixF I = 6 ∨ ixF I = 7 ∨ ixF I = 8 := by omega
                  all_goals rw [h]; decide
                have hwm : IntKind.u64.wrap (mostT (ixF I)) = mostT (ixF I) := by rw [IntKind.wrap_u64]; omega
                have G3 := hide (fun W v' s' D' => unhide GET2 U W v' s' D')
                have gU := getF_good l hb U
                rw [hkn] at KN
                rw [hI] at KN AM g1 PUSH kn2 CT
                generalize hy : getF l U = y at *
                obtain ⟨y1, y2, y3⟩ := y
                simp only at *
                have SEEK : Hid (∀ W v', DR W0 W gp v' a l ⟨K, s.cm ++ [(I : Int)], s.vs⟩ → DR W0 W gp v' a l ⟨U + N, s.cm ++ [(I : Int)], s.vs⟩) := fun W v' D' => D'.seek (U + N) hUN (by have := D'.few; simp only at this ⊢; omega)
                have hkI : knownB (I : Int) = true := by rw [← hI]; exact hkn
                have SET := fun W => rset_any s.vs I (by omega) hkI y1 W
                generalize mostT (ixF I) = M at *
                by_cases b1 : y3 = 0
                · subst b1
                  have gU' := gU rfl
                  by_cases b2 : y2 = (U : Int) + N
                  · subst b2
                    have hbb : ((U : Int) + N != (U : Int) + N) = false := by simp
                    by_cases b3 : M < y1
                    · have HB := hide (unhide BAD _ (kn1 (.inr (.inr b3))))
                      clear BAD D hd st3'' GET2 hu hU hN q3' pk1 pk2 hkn kn1 kn2 SEEK SET hy gU hpl hkI
                      go_wp2_with (first | (go_at_call 35; refine g1.mono ?_; rintro e W5 ⟨rfl, g5⟩; have am := unhide AM _ g5; obtain ⟨v', W7, hr7, D7⟩ := unhide PUSH _ g5; have gg := unhide G2 _ _ _ D7; have HD7 := hide D7; clear D7; clear g5 g1 AM PUSH G2) | (go_at_call 36; refine am.mono ?_; rintro e W6 ⟨rfl, hW⟩; replace hW := hW.symm; subst hW; clear am) | (at_builtin; refine Lib.wpList_append_run _ rfl _ _ _ _ rfl _ _ rfl rfl _ _ (hr7 _) ?_) | (go_at_call 35; refine gg.mono ?_; rintro e W8 ⟨rfl, g8⟩; have D8 := hide ((unhide HD7).grown g8); have gg2 := unhide G3 _ _ _ (unhide D8); clear g8 gg HD7 G3) | (go_at_call 30; refine (KN _).mono ?_; rintro e W9 ⟨rfl, hW⟩; replace hW := hW.symm; subst hW; clear KN) | (go_at_call 35; refine gg2.mono ?_; rintro e W10 ⟨rfl, g10⟩; have K3 := hide (unhide HB _ ((unhide D8).gr.trans g10)); clear D8 HB; clear g10 gg2) | (go_at_call 32; refine (MO _).mono ?_; rintro e W11 ⟨rfl, hW⟩; replace hW := hW.symm; subst hW; clear MO) | (refine wpList_store_row rfl _ _ _ rfl w.heap.size zeroP.cs rfl rfl 23 _ (unhide K3).2.1 Tryd.sizePs rfl (Ps.one _) ?_))
                      refine bodyPost_ret (results_ct rfl _ _ w.heap.size zeroP.cs _ rfl ((unhide K3).2.1.row _) Tryd.underlying23 rfl Tryd.sizePs) rfl ?_
                      rw [(unhide K3).1]
                      exact ⟨rfl, grown_row (unhide K3).2.2 _ _ (Nat.le_refl _)⟩
                    · have hst := kn2 rfl rfl b3
                      rw [hst] at hd
                      simp only at hd
                      have HDD := hide hd
                      have b4 : y1 ≤ M := by omega
                      have hc1 : IntKind.i64.wrap y1 = y1 := by rw [IntKind.wrap_i64]; omega
                      clear BAD D hd st3'' GET2 hu hU hN q3' pk1 pk2 hkn kn1 kn2 hy gU hpl hkI hst b3
                      go_wp2_with (first | (go_at_call 35; refine g1.mono ?_; rintro e W5 ⟨rfl, g5⟩; have am := unhide AM _ g5; obtain ⟨v', W7, hr7, D7⟩ := unhide PUSH _ g5; have gg := unhide G2 _ _ _ D7; have HD7 := hide D7; clear D7; clear g5 g1 AM PUSH G2) | (go_at_call 36; refine am.mono ?_; rintro e W6 ⟨rfl, hW⟩; replace hW := hW.symm; subst hW; clear am) | (at_builtin; refine Lib.wpList_append_run _ rfl _ _ _ _ rfl _ _ rfl rfl _ _ (hr7 _) ?_) | (go_at_call 35; refine gg.mono ?_; rintro e W8 ⟨rfl, g8⟩; have D8 := hide ((unhide HD7).grown g8); have gg2 := unhide G3 _ _ _ (unhide D8); clear g8 gg HD7 G3) | (go_at_call 30; refine (KN _).mono ?_; rintro e W9 ⟨rfl, hW⟩; replace hW := hW.symm; subst hW; clear KN) | (go_at_call 35; refine gg2.mono ?_; rintro e W10 ⟨rfl, g10⟩; have D10 := hide (unhide SEEK _ _ ((unhide D8).grown g10)); clear D8 SEEK; clear g10 gg2) | (go_at_call 32; refine (MO _).mono ?_; rintro e W11 ⟨rfl, hW⟩; replace hW := hW.symm; subst hW; clear MO) | (refine wpList_load_row rfl _ _ rfl gp rfl 23 s.vs.cs (0, 0) _ (unhide D10).par Tryd.underlying23 rfl Tryd.sizePs ?_) | (go_at_call 37; refine (SET _).mono ?_; rintro e W12 ⟨rfl, g12⟩; have D12 := hide ((unhide D10).grown g12); clear SET g12 D10) | (refine wpList_store_row rfl _ _ _ rfl gp (s.vs.set (ixF I) y1).cs rfl rfl 23 _ (unhide D12).par Tryd.sizePs rfl (Ps.one _) ?_; go_frame))
                      exact ⟨⟨f, ⟨U + N, s.cm ++ [(I : Int)], s.vs.set (ixF I) y1⟩, (unhide D12).setP _, by simp, unhide HDD, by simp only; omega, unhide CT _ _ (by omega)⟩, by simp [intOf]; omega⟩
                  · have HB := hide (unhide BAD _ (kn1 (.inr (.inl b2))))
                    have hbb : (y2 != (U : Int) + N) = true := by simpa using b2
                    clear BAD D hd st3'' GET2 hu hU hN q3' pk1 pk2 hkn kn1 kn2 SEEK SET hy gU hpl hkI b2 gU'
                    go_wp2_with (first | (go_at_call 35; refine g1.mono ?_; rintro e W5 ⟨rfl, g5⟩; have am := unhide AM _ g5; obtain ⟨v', W7, hr7, D7⟩ := unhide PUSH _ g5; have gg := unhide G2 _ _ _ D7; have HD7 := hide D7; clear D7; clear g5 g1 AM PUSH G2) | (go_at_call 36; refine am.mono ?_; rintro e W6 ⟨rfl, hW⟩; replace hW := hW.symm; subst hW; clear am) | (at_builtin; refine Lib.wpList_append_run _ rfl _ _ _ _ rfl _ _ rfl rfl _ _ (hr7 _) ?_) | (go_at_call 35; refine gg.mono ?_; rintro e W8 ⟨rfl, g8⟩; have D8 := hide ((unhide HD7).grown g8); have gg2 := unhide G3 _ _ _ (unhide D8); clear g8 gg HD7 G3) | (go_at_call 30; refine (KN _).mono ?_; rintro e W9 ⟨rfl, hW⟩; replace hW := hW.symm; subst hW; clear KN) | (go_at_call 35; refine gg2.mono ?_; rintro e W10 ⟨rfl, g10⟩; have K3 := hide (unhide HB _ ((unhide D8).gr.trans g10)); clear D8 HB; clear g10 gg2) | (go_at_call 32; refine (MO _).mono ?_; rintro e W11 ⟨rfl, hW⟩; replace hW := hW.symm; subst hW; clear MO) | (refine wpList_store_row rfl _ _ _ rfl w.heap.size zeroP.cs rfl rfl 23 _ (unhide K3).2.1 Tryd.sizePs rfl (Ps.one _) ?_))
                    refine bodyPost_ret (results_ct rfl _ _ w.heap.size zeroP.cs _ rfl ((unhide K3).2.1.row _) Tryd.underlying23 rfl Tryd.sizePs) rfl ?_
                    rw [(unhide K3).1]
                    exact ⟨rfl, grown_row (unhide K3).2.2 _ _ (Nat.le_refl _)⟩
                · have HB := hide (unhide BAD _ (kn1 (.inl b1)))
                  have hbb : (y3 != 0) = true := by simpa using b1
                  clear BAD D hd st3'' GET2 hu hU hN q3' pk1 pk2 hkn kn1 kn2 SEEK SET hy gU hpl hkI b1
                  go_wp2_with (first | (go_at_call 35; refine g1.mono ?_; rintro e W5 ⟨rfl, g5⟩; have am := unhide AM _ g5; obtain ⟨v', W7, hr7, D7⟩ := unhide PUSH _ g5; have gg := unhide G2 _ _ _ D7; have HD7 := hide D7; clear D7; clear g5 g1 AM PUSH G2) | (go_at_call 36; refine am.mono ?_; rintro e W6 ⟨rfl, hW⟩; replace hW := hW.symm; subst hW; clear am) | (at_builtin; refine Lib.wpList_append_run _ rfl _ _ _ _ rfl _ _ rfl rfl _ _ (hr7 _) ?_) | (go_at_call 35; refine gg.mono ?_; rintro e W8 ⟨rfl, g8⟩; have D8 := hide ((unhide HD7).grown g8); have gg2 := unhide G3 _ _ _ (unhide D8); clear g8 gg HD7 G3) | (go_at_call 30; refine (KN _).mono ?_; rintro e W9 ⟨rfl, hW⟩; replace hW := hW.symm; subst hW; clear KN) | (go_at_call 35; refine gg2.mono ?_; rintro e W10 ⟨rfl, g10⟩; have K3 := hide (unhide HB _ ((unhide D8).gr.trans g10)); clear D8 HB; clear g10 gg2) | (go_at_call 32; refine (MO _).mono ?_; rintro e W11 ⟨rfl, hW⟩; replace hW := hW.symm; subst hW; clear MO) | (refine wpList_store_row rfl _ _ _ rfl w.heap.size zeroP.cs rfl rfl 23 _ (unhide K3).2.1 Tryd.sizePs rfl (Ps.one _) ?_))
                  refine bodyPost_ret (results_ct rfl _ _ w.heap.size zeroP.cs _ rfl ((unhide K3).2.1.row _) Tryd.underlying23 rfl Tryd.sizePs) rfl ?_
                  rw [(unhide K3).1]
                  exact ⟨rfl, grown_row (unhide K3).2.2 _ _ (Nat.le_refl _)⟩
end Go.Proofs.YtmfbbamaleagiaaDoor
