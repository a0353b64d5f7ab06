/- RoadTakes. -/
import Derived.Test.YtbdjlhkgpblebaaDoorY2V
namespace Go.Proofs.YtbdjlhkgpblebaaDoor
open Go.RowKit Go.Shelf Go.Maps
set_option linter.unusedVariables false
set_option linter.unusedSimpArgs false
set_option maxRecDepth 100000
set_option maxHeartbeats 1000000

/-- Between two rounds: both have the same under way. -/
def TkL (w0 : World) (r s k : Nat) (w : World) : Prop := ∃ S1 S2 R, TW w0 w S1 r R S2 s R ∧ R.nx ≤ k + 1
theorem tkl_begin {w0 w1 w2 : World} {r s : Nat} (ht : Tb w0) (h1 : NewP w0.heap.size w0 0 100 r w1) (h2 : NewP w0.heap.size w1 0 100 s w2) : ∃ S1 S2, TW w0 w2 S1 r ⟨0, 100, 0, []⟩ S2 s ⟨0, 100, 0, []⟩ := by
  obtain ⟨S1, q1, l1, g1⟩ := h1
  obtain ⟨S2, q2, l2, g2⟩ := h2
  have g := g1.trans g2
  refine ⟨S1, S2, q1.grown g2, q2, fun x hx hy => ?_, grown_bel g, ht.grown g⟩
  have := (q1.lt x hx).2
  have := l2 x hy
  omega
theorem tkl_put {w0 w : World} {r s : Nat} {S1 S2 : Nat → Prop} (h : TW w0 w S1 r ⟨0, 100, 0, []⟩ S2 s ⟨0, 100, 0, []⟩) (h0 : 0 < w0.heap.size) :
    Calls Tryd.prog 7 #[ptr r, .int .i64 0, .int .i64 1, .slice (some ⟨w.heap.size, 0, none⟩) 1 1, .int .i64 1] (w.alloc (.cells #[.int .u8 7] 5)) fun e w' => e = .returned (.tuple #[.int .i64 0, .int .i64 0]) ∧ Hid (∃ S1', TW w0 w' S1' r ⟨0, 100, 1, [⟨0, 1, 100, [7], 1⟩]⟩ S2 s ⟨0, 100, 0, []⟩) := by
  have gA : w.grownBy (w.alloc (.cells #[.int .u8 7] 5)) none := World.grownBy_alloc w _ none
  refine (put_tw (h.grown gA) h0 0 1 1 (some ⟨w.heap.size, 0, none⟩) 1 1 [7] rfl ⟨fun x hx => ?_, fun _ => ⟨_, 0, rfl, fun i hi => ?_⟩⟩ (fun g off _ e hs => ?_) (by decide)).mono ?_
  · simp at hx; subst hx; exact ⟨by decide, by decide⟩
  · have : i = 0 := by simp at hi; exact hi
    subst this
    unfold World.cell?
    rw [heap_alloc_new]
    rfl
  · injection e with e
    injection e with e1 e2
    have := (h.a.lt g hs).2
    omega
  · rintro e w' ⟨rfl, S1', q, -⟩
    exact ⟨rfl, S1', q⟩
theorem tkl_put2 {w0 w : World} {r s : Nat} {S1 S2 : Nat → Prop} (h : TW w0 w S1 r ⟨0, 100, 1, [⟨0, 1, 100, [7], 1⟩]⟩ S2 s ⟨0, 100, 0, []⟩) (h0 : 0 < w0.heap.size) :
    Calls Tryd.prog 7 #[ptr s, .int .i64 0, .int .i64 1, .slice (some ⟨w.heap.size, 0, none⟩) 1 1, .int .i64 1] (w.alloc (.cells #[.int .u8 7] 5)) fun e w' => e = .returned (.tuple #[.int .i64 0, .int .i64 0]) ∧ Hid (∃ S2', TW w0 w' S1 r ⟨0, 100, 1, [⟨0, 1, 100, [7], 1⟩]⟩ S2' s ⟨0, 100, 1, [⟨0, 1, 100, [7], 1⟩]⟩) := by
  have gA : w.grownBy (w.alloc (.cells #[.int .u8 7] 5)) none := World.grownBy_alloc w _ none
  refine (put_tw (h.grown gA).swap h0 0 1 1 (some ⟨w.heap.size, 0, none⟩) 1 1 [7] rfl ⟨fun x hx => ?_, fun _ => ⟨_, 0, rfl, fun i hi => ?_⟩⟩ (fun g off _ e hs => ?_) (by decide)).mono ?_
  · simp at hx; subst hx; exact ⟨by decide, by decide⟩
  · have : i = 0 := by simp at hi; exact hi
    subst this
    unfold World.cell?
    rw [heap_alloc_new]
    rfl
  · injection e with e
    injection e with e1 e2
    have := (h.b.lt g hs).2
    omega
  · rintro e w' ⟨rfl, S1', q, -⟩
    exact ⟨rfl, S1', q.swap⟩
theorem tkl_next {w0 w : World} {r s : Nat} {S1 S2 : Nat → Prop} {R : Rs} (h : TW w0 w S1 r ⟨0, 100, 1, [⟨0, 1, 100, [7], 1⟩]⟩ S2 s R) :
    Calls Tryd.prog 12 #[ptr r] w fun e w' => e = .returned (.int .i64 100) ∧ w.grownBy w' none := by
  refine (next_ri h.a h.tb).mono ?_
  rintro e w' ⟨T, rfl, -, hp, g⟩
  refine ⟨?_, g⟩
  have : T.map Prod.snd = [100] := List.perm_singleton.1 hp
  cases T with
  | nil => cases this
  | cons x t =>
    cases t with
    | nil => simp at this; simp only [nextT, this]; rfl
    | cons y t => simp at this

/-- One round. -/
theorem tkl_puts {w0 w : World} {r s k : Nat} (h : TkL w0 r s k w) (h0 : 0 < w0.heap.size) (hk : k ≤ 4611686018427387000) (at_ to : Int) (a : Option Addr) (n cap : Nat) (tx : List Int) (hl : tx.length = n) (hr : Rd w0 a tx) :
    Calls Tryd.prog 7 #[ptr r, .int .i64 at_, .int .i64 to, .slice a n cap, .int .i64 1] w fun e w1 => (∃ x y, e = .returned (.tuple #[.int .i64 x, .int .i64 y])) ∧ Below w0.heap.size w0 w1 ∧ Hid (∀ X, w1.grownBy X none →
      Calls Tryd.prog 7 #[ptr s, .int .i64 at_, .int .i64 to, .slice a n cap, .int .i64 1] X fun e w2 => (∃ x y, e = .returned (.tuple #[.int .i64 x, .int .i64 y])) ∧ Below w0.heap.size w0 w2 ∧ Hid (
        Calls Tryd.prog 13 #[ptr r, .int .i64 (k : Int), .int .i64 at_] w2 fun e w3 => (∃ x, e = .returned (.int .i64 x)) ∧ Hid (
          Calls Tryd.prog 13 #[ptr s, .int .i64 (k : Int), .int .i64 at_] w3 fun e w4 => (∃ x, e = .returned (.int .i64 x)) ∧ Hid (TkL w0 r s (k + 1) w4 ∧ Below w0.heap.size w0 w4)))) := by
  obtain ⟨S1, S2, R, tw, nx⟩ := h
  have rdb : ∀ X, Below w0.heap.size w0 X → Rd X a tx := fun X b => ⟨hr.1, fun hne => by
    obtain ⟨bb, off, e, hc⟩ := hr.2 hne
    refine ⟨bb, off, e, fun i hi => ?_⟩
    rw [b.cell (World.block_lt_of_cell? _ _ (hc i hi))]
    exact hc i hi⟩
  have alt : ∀ g off, tx ≠ [] → a = some ⟨g, off, none⟩ → g < w0.heap.size := fun g off hne e => by
    obtain ⟨bb, off2, e2, hc⟩ := hr.2 hne
    rw [e] at e2
    injection e2 with e2
    injection e2 with e2
    subst e2
    exact World.block_lt_of_cell? _ _ (hc 0 (List.length_pos_iff.2 hne))
  refine (put_tw tw h0 at_ to 1 a n cap tx hl (rdb w tw.bel) (fun g off hne e hs => by have := alt g off hne e; have := (tw.a.lt g hs).1; omega) (by omega)).mono ?_
  rintro e w1 ⟨rfl, S1', tw1, -⟩
  refine ⟨⟨_, _, rfl⟩, tw1.bel, fun X gX => ?_⟩
  have twX := (tw1.grown gX).swap
  refine (put_tw twX h0 at_ to 1 a n cap tx hl (rdb X twX.bel) (fun g off hne e hs => by have := alt g off hne e; have := (twX.a.lt g hs).1; omega) (by omega)).mono ?_
  rintro e w2 ⟨rfl, S2', tw2, -⟩
  refine ⟨⟨_, _, rfl⟩, tw2.bel, ?_⟩
  have pnx := putS_nx R at_ to tx 1
  refine (delay_tw tw2.swap h0 k at_ (by omega) (by omega)).mono ?_
  rintro e w3 ⟨⟨x, rfl⟩, S3, tw3⟩
  refine ⟨⟨x, rfl⟩, ?_⟩
  refine (delay_tw tw3.swap h0 k at_ (by omega) (by omega)).mono ?_
  rintro e w4 ⟨⟨x, rfl⟩, S4, tw4⟩
  exact ⟨⟨x, rfl⟩, ⟨S3, S4, _, tw4.swap, by rw [delayS_nx]; omega⟩, tw4.bel⟩
theorem takes_walk (a0 : Option Addr) (len cap : Nat) (ol : List OpR) (a b : Int) (w : World) (h : IsOpR w a0 len cap ol) (hbig : len * 72 ≤ 140737488355328) (ht : Tb w) :
    Calls Tryd.prog 4 #[.slice a0 len cap, .int .i64 a, .int .i64 b] w fun e w' => e = .returned (.bool true) ∧ Below w.heap.size w w' := by
  have h0 := ht.lt
  have n1 : Calls Tryd.prog 5 #[.int .i64 0, .int .i64 100] w _ := rnew_any w.heap.size 0 100 (by decide) w (Nat.le_refl _)
  have HO := hide h; have HT := hide ht
  have hl := h.hlen
  have hcap := h.hcap
  clear h ht
  go_enter Tryd.func4, Tryd.ntmps4
  go_wp2_with fail
  refine n1.mono ?_
  rintro e w1 ⟨r, rfl, p1⟩
  have n2 : Calls Tryd.prog 5 #[.int .i64 0, .int .i64 100] w1 _ := rnew_any w.heap.size 0 100 (by decide) w1 (by obtain ⟨S, -, -, g⟩ := p1; exact g.size)
  have P1 := hide p1
  clear n1 p1
  go_wp2_with fail
  refine n2.mono ?_
  rintro e w2 ⟨s, rfl, p2⟩
  obtain ⟨S1, S2, tw⟩ := tkl_begin (unhide HT) (unhide P1) p2
  have TWH := hide tw
  have pt := tkl_put tw h0
  clear n2 p2 P1 tw
  go_upto_region 5 with fail
  go_wp2_with fail
  refine pt.mono ?_
  rintro e w3 ⟨rfl, H3⟩
  obtain ⟨S3, tw3⟩ := unhide H3
  have pt2 := tkl_put2 tw3 h0
  clear pt H3 tw3 TWH
  go_wp2_with fail
  refine pt2.mono ?_
  rintro e w4 ⟨rfl, H4⟩
  obtain ⟨S4, tw4⟩ := unhide H4
  have nx := tkl_next tw4
  have TW4 := hide tw4
  clear pt2 H4 tw4
  go_wp2_with fail
  refine nx.mono ?_
  rintro e w5 ⟨rfl, g5⟩
  have TK : Hid (TkL w r s 0 w5 ∧ Below w.heap.size w w5) := ⟨⟨_, _, _, (unhide TW4).grown g5, Nat.le_refl _⟩, ((unhide TW4).grown g5).bel⟩
  clear nx g5 TW4
  have l63 : ¬ (9223372036854775807 : Int) < (len : Int) := by omega
  go_wp2_with fail
  go_loopw [15] (fun iv wr => ∃ k : Nat, iv = .int .i64 (k : Int) ∧ k ≤ len ∧ Hid (TkL w r s k wr ∧ Below w.heap.size w wr)) (fun iv _ => len - (intOf iv).toNat)
  case atStart => exact ⟨0, rfl, Nat.zero_le _, unhide TK⟩
  case round =>
    obtain ⟨k, rfl, hk, H⟩ := hrel
    clear TK
    by_cases hlt : k < len
    · have kI : (k : Int) < (len : Int) := by omega
      have k0 : ¬ (k : Int) < 0 := by omega
      have io := unhide HO
      obtain ⟨tk, bel⟩ := unhide H
      obtain ⟨x, hx⟩ : ∃ x, ol[k]? = some x := ⟨_, List.getElem?_eq_getElem (by omega)⟩
      have xok := io.ok x (List.mem_of_getElem? hx)
      rcases io.cell with hc | ⟨bb, off, rfl, hc⟩
      · omega
      have cl0 := hc k x hx
      have up : ∀ X, Below w.heap.size w X → X.cell? ⟨bb, off + k * 7 + 1, none⟩ = some (.int .i64 x.to) ∧ X.cell? ⟨bb, off + k * 7 + 6, none⟩ = some (.slice x.da x.dn x.dc) := fun X bX => ⟨(bX.cell (World.block_lt_of_cell? _ _ (cl0 1 _ rfl))).trans (cl0 1 _ rfl), (bX.cell (World.block_lt_of_cell? _ _ (cl0 6 _ rfl))).trans (cl0 6 _ rfl)⟩
      have c4 : wr.cell? ⟨bb, off + k * 7 + 4, none⟩ = some (.int .i64 x.at_) := (bel.cell (World.block_lt_of_cell? _ _ (cl0 4 _ rfl))).trans (cl0 4 _ rfl)
      have c1 := (up wr bel).1
      have c6 := (up wr bel).2
      have pk1 := fun W => pickR x.at_ 3000 xok.a (by omega) W
      have pk2 := fun W => pickR x.to 2 xok.t (by omega) W
      have put := fun X (gX : wr.grownBy X none) => tkl_puts (k := k) (w := X) (by obtain ⟨S1, S2, R, t, q⟩ := tk; exact ⟨S1, S2, R, t.grown gX, q⟩ : TkL w r s k X) h0 (by omega) (pkR x.at_ 3000) (pkR x.to 2) x.da x.dn x.dc x.p xok.len xok.rd
      have UP := hide up
      have PUT := hide put
      clear io tk bel hx xok hc cl0 up put H
      generalize pkR x.at_ 3000 = at_ at *
      generalize pkR x.to 2 = to at *
      go_wp2_with fail
      refine (pk1 _).mono ?_
      rintro e X ⟨rfl, hX⟩
      subst hX
      clear pk1 c4
      go_upto_region 13 with fail
      go_region_held3 (fun Z => Z.cell? ⟨bb, off + k * 7 + 1, none⟩ = some (.int .i64 x.to) ∧ Z.cell? ⟨bb, off + k * 7 + 6, none⟩ = some (.slice x.da x.dn x.dc)) (go_keep) (first
        | (go_at_call 6; refine (pk2 _).mono ?_; rintro e X ⟨rfl, hX⟩; subst hX)
        | (go_at_call 7; refine (unhide PUT _ (by first | with_reducible exact World.grownBy.refl _ _ | with_reducible exact grown_drew' (World.grownBy.refl _ _))).mono ?_; rintro e X1 ⟨⟨y1, y2, rfl⟩, b1, H1⟩; obtain ⟨d1, d6⟩ := unhide UP X1 b1))
      clear PUT c1 c6
      go_upto_region 14 with fail
      have P2 := unhide H1
      clear H1 b1
      go_region_held3 (fun Z => Z.cell? ⟨bb, off + k * 7 + 1, none⟩ = some (.int .i64 x.to) ∧ Z.cell? ⟨bb, off + k * 7 + 6, none⟩ = some (.slice x.da x.dn x.dc)) (go_keep) (first
        | (go_at_call 6; refine (pk2 _).mono ?_; rintro e X ⟨rfl, hX⟩; subst hX)
        | (go_at_call 7; refine (P2 _ (by first | with_reducible exact World.grownBy.refl _ _ | with_reducible exact grown_drew' (World.grownBy.refl _ _))).mono ?_; rintro e X2 ⟨⟨z1, z2, rfl⟩, b2, H2⟩; obtain ⟨f1, f6⟩ := unhide UP X2 b2))
      have P3 := unhide H2
      clear H2 b2 P2 d1 d6 f1 f6 UP pk2
      go_wp2_with fail
      refine P3.mono ?_
      rintro e X3 ⟨⟨v3, rfl⟩, H3⟩
      have P4 := unhide H3
      clear P3 H3
      go_wp2_with fail
      refine P4.mono ?_
      rintro e X4 ⟨⟨v4, rfl⟩, H4⟩
      have E := hide (unhide H4)
      clear P4 H4
      go_wp2_with fail
      exact ⟨⟨k + 1, by go_num, hlt, unhide E⟩, by simp [intOf]; omega⟩
    · obtain rfl : k = len := by omega
      have kI : ¬ (k : Int) < (k : Int) := by omega
      obtain ⟨⟨S1, S2, R, tw, nxl⟩, bel⟩ := unhide H
      have CH := hide (fun X Y hXY => takes_chain tw h0 X Y hXY (by omega))
      clear H tw bel HO HT
      rcases (show b < a ∨ a ≤ b by omega) with hab | hab
      · have CC := unhide CH b a (Int.le_of_lt hab)
        have AB := hide hab
        clear CH
        go_wp2_with fail
        refine CC.mono ?_
        clear CC
        rintro e W4 ⟨a1, m1, c1, rfl, C2⟩
        go_wp2_with fail
        refine (unhide C2).mono ?_
        clear C2
        rintro e W5 ⟨a2, m2, c2, rfl, C3⟩
        obtain ⟨a4, m4, c4, W6, hrun, C4⟩ := unhide C3
        have HRUN := hide hrun
        clear C3 hrun
        go_wp2_with (at_builtin; refine wpList_append_runQ _ rfl _ _ 28 28 rfl _ _ rfl rfl (unhide HRUN) ?_)
        refine (unhide C4).mono ?_
        clear C4 HRUN
        rintro e W7 ⟨a3, m3, c3, rfl, C5⟩
        go_wp2_with fail
        refine (unhide C5).mono ?_
        rintro e W8 ⟨rfl, q8⟩
        have E := hide q8
        clear C5 q8
        go_wp2_with fail
        go_ret
        exact ⟨rfl, unhide E⟩
      · have CC := unhide CH a b hab
        have AB := hide hab
        have nab : ¬ b < a := by omega
        clear CH hab
        go_wp2_with fail
        refine CC.mono ?_
        clear CC
        rintro e W4 ⟨a1, m1, c1, rfl, C2⟩
        go_wp2_with fail
        refine (unhide C2).mono ?_
        clear C2
        rintro e W5 ⟨a2, m2, c2, rfl, C3⟩
        obtain ⟨a4, m4, c4, W6, hrun, C4⟩ := unhide C3
        have HRUN := hide hrun
        clear C3 hrun
        go_wp2_with (at_builtin; refine wpList_append_runQ _ rfl _ _ 28 28 rfl _ _ rfl rfl (unhide HRUN) ?_)
        refine (unhide C4).mono ?_
        clear C4 HRUN
        rintro e W7 ⟨a3, m3, c3, rfl, C5⟩
        go_wp2_with fail
        refine (unhide C5).mono ?_
        rintro e W8 ⟨rfl, q8⟩
        have E := hide q8
        clear C5 q8
        go_wp2_with fail
        go_ret
        exact ⟨rfl, unhide E⟩
end Go.Proofs.YtbdjlhkgpblebaaDoor
