/- The owner: takes. -/
import Derived.Test.YtpkkgmcfificiaaDoorD7J
import Derived.Deep.RegionHeld3
namespace Go.Proofs.YtpkkgmcfificiaaDoor
open Go.RowKit Go.Shelf Go.Maps
set_option linter.unusedVariables false
set_option maxRecDepth 100000
set_option maxHeartbeats 2000000

/-- What takes leaves. -/
def TakePost (B : Nat) (w : World) (V : Nat → Prop) (O : Nat) (es : List En) (lv h1 l3 l4 : Value) (w' : World) : Prop :=
  ∃ (es' : List En) (lv' : Value) (V' : Nat → Prop), OW B w' V' O es' lv' l3 l4 ∧ es'.length = es.length + 2 ∧ VI w' V' ∧ (∀ g, V' g → V g ∨ h1.ownBlock = some g ∨ w.heap.size ≤ g) ∧ Kp (fun x => x = O ∨ lv.ownBlock = some x ∨ h1.ownBlock = some x) w w' ∧ ∀ g, lv'.ownBlock = some g → lv.ownBlock = some g ∨ w.heap.size ≤ g

theorem OW.set {B : Nat} {w : World} {V : Nat → Prop} {O : Nat} {es : List En} {lv hv wv : Value} (h : OW B w V O es lv hv wv) (vi : VI w V) (l3 l4 : Value) : OW B ((w.setCell ⟨O, 1, none⟩ l3).setCell ⟨O, 2, none⟩ l4) V O es lv l3 l4 ∧ VI ((w.setCell ⟨O, 1, none⟩ l3).setCell ⟨O, 2, none⟩ l4) V ∧ Kp (fun x => x = O) w ((w.setCell ⟨O, 1, none⟩ l3).setCell ⟨O, 2, none⟩ l4) := by
  have k : Kp (fun x => x = O) w ((w.setCell ⟨O, 1, none⟩ l3).setCell ⟨O, 2, none⟩ l4) := ((Kp.refl (fun x => x = O) w).set O 1 _ (fun _ => rfl)).set O 2 _ (fun _ => rfl)
  have hr := row_blk h.row h.o (by decide)
  have hv := vi.blk h.o (by decide)
  have sz := k.size
  refine ⟨⟨(h.o.setC 1 l3).setC 2 l4, row_keep h.row (fun g e hl => k.block g hl (fun c => by subst c; exact hr e)), fun e he => (h.ents e he).kept sz (fun g hg hl => k.block g hl (fun c => by subst c; exact hv hg)), Nat.le_trans h.hB sz⟩, vi.kept (fun g hg hl => k.block g hl (fun c => by subst c; exact hv hg)), k⟩

theorem OW.entry {B : Nat} {w : World} {V : Nat → Prop} {O : Nat} {es : List En} {hv wv : Value} {gl c : Nat} (h : OW B w V O es (.slice (some ⟨gl, 0, none⟩) es.length c) hv wv) (k : Nat) (e : En) (hk : es[k]? = some e) : w.cell? ⟨gl, k * 2, none⟩ = some (.slice e.a e.n e.c) ∧ w.cell? ⟨gl, k * 2 + 1, none⟩ = some (.int .i64 e.m) := by
  have hl := (List.getElem?_eq_some_iff.1 hk).1
  have fl : ∀ (L : List En) (k : Nat), L[k]? = some e → ∀ j, j < 2 → (L.flatMap En.cl)[k * 2 + j]? = e.cl[j]? := by
    intro L
    induction L with
    | nil => intro k hk; simp at hk
    | cons a t ih =>
      intro k hk j hj
      rw [List.flatMap_cons]
      cases k with
      | zero =>
        simp at hk; subst hk
        rw [Nat.zero_mul, Nat.zero_add, List.getElem?_append_left (by show j < 2; exact hj)]
      | succ k =>
        have h2 : (En.cl a).length = 2 := rfl
        rw [List.getElem?_append_right (by rw [h2]; omega), h2, show (k + 1) * 2 + j - 2 = k * 2 + j by omega]
        exact ih k (by simpa using hk) j hj
  have c0 := World.ownsRow.cellAt h.row (k * 2) (by omega)
  have c1 := World.ownsRow.cellAt h.row (k * 2 + 1) (by omega)
  have f0 := fl es k hk 0 (by omega)
  have f1 := fl es k hk 1 (by omega)
  rw [Nat.add_zero] at f0
  exact ⟨c0.trans f0, c1.trans f1⟩

theorem takes_any {B : Nat} {w : World} {V : Nat → Prop} {O : Nat} {es : List En} {lv : Value} {a1 a2 a3 a4 : Option Addr} {n1 c1 c2 n3 c3 c4 : Nat} {X1 X3 : List Int} (h : OW B w V O es lv (.slice a1 n1 c1) (.slice a2 n1 c2)) (vi : VI w V) (r1 : w.ownsRow B 3 1 (.slice a1 n1 c1) n1 (intsV X1)) (r2 : w.ownsRow B 3 1 (.slice a2 n1 c2) n1 (intsV X1)) (r3 : w.ownsRow B 3 1 (.slice a3 n3 c3) n3 (intsV X3)) (r4 : w.ownsRow B 3 1 (.slice a4 n3 c4) n3 (intsV X3)) (hV : ∀ g, (Value.slice a1 n1 c1).ownBlock = some g → ¬ V g) (few : es.length ≤ 10000000) (hn : n1 ≤ 100000) :
    Calls Tryd.prog 11 #[ptr O, .slice a3 n3 c3, .slice a4 n3 c4] w fun e w' => e = .returned (.bool true) ∧ TakePost B w V O es lv (.slice a1 n1 c1) (.slice a3 n3 c3) (.slice a4 n3 c4) w' := by
  obtain ⟨d1, l1, p1⟩ := rd_caps r1
  obtain ⟨d2, l2, p2⟩ := rd_caps r2
  obtain ⟨d3, l3, p3⟩ := rd_caps r3
  obtain ⟨d4, l4, p4⟩ := rd_caps r4
  have s1 : Hid (∀ W, w.grownBy W none → Calls Tryd.prog 15 #[.slice a1 n1 c1, .slice a2 n1 c2] W fun e w' => e = .returned (.bool true) ∧ W.grownBy w' none) := fun W g => (same_any a1 a2 X1 X1 n1 n1 c1 c2 l1 l2 W (d1.grown g) (d2.grown g) p1 p2).mono (by rintro e w' ⟨rfl, gg⟩; exact ⟨by simp, gg⟩)
  have s2 : Hid (∀ W, w.grownBy W none → Calls Tryd.prog 15 #[.slice a3 n3 c3, .slice a4 n3 c4] W fun e w' => e = .returned (.bool true) ∧ W.grownBy w' none) := fun W g => (same_any a3 a4 X3 X3 n3 n3 c3 c4 l3 l4 W (d3.grown g) (d4.grown g) p3 p4).mono (by rintro e w' ⟨rfl, gg⟩; exact ⟨by simp, gg⟩)
  have fl : Hid (∀ W, w.grownBy W none → Calls Tryd.prog 29 #[ptr O, .slice a1 n1 c1] W fun e w' => e = .returned (.tuple #[]) ∧ ∃ (es' : List En) (lv' : Value) (V' : Nat → Prop), Blk w' O #[lv', .slice a1 n1 c1, .slice a2 n1 c2] 32 ∧ TakePost B w V O es lv (.slice a1 n1 c1) (.slice a3 n3 c3) (.slice a4 n3 c4) ((w'.setCell ⟨O, 1, none⟩ (.slice a3 n3 c3)).setCell ⟨O, 2, none⟩ (.slice a4 n3 c4)) ∧ OW B ((w'.setCell ⟨O, 1, none⟩ (.slice a3 n3 c3)).setCell ⟨O, 2, none⟩ (.slice a4 n3 c4)) V' O es' lv' (.slice a3 n3 c3) (.slice a4 n3 c4) ∧ 0 < es'.length ∧ es'.length ≤ 100000000) := by
    intro W g
    have szg := g.size
    refine (fill_any (h.kept g.size (fun x _ hl => g.block x hl (by simp))) (vi.kept (fun x _ hl => g.block x hl (by simp))) (trow_kept r1 g) hV few hn).mono ?_
    rintro e w' ⟨rfl, e1, e2, lv', V', ow, vi', -, sub, k, lvn⟩
    obtain ⟨ow2, vi2, k2⟩ := ow.set vi' (.slice a3 n3 c3) (.slice a4 n3 c4)
    have kk := (Kp.grown g (fun x => x = O ∨ lv.ownBlock = some x ∨ (Value.slice a1 n1 c1).ownBlock = some x)).trans (k.trans (k2.mono (fun x _ e => .inl e)))
    exact ⟨rfl, _, _, _, ow.o, ⟨_, _, _, ow2, by simp, vi2, fun x hx => (sub x hx).elim .inl (fun hh => hh.elim (fun e => .inr (.inl e)) (fun e => .inr (.inr (by omega)))), kk, fun g e => (lvn g e).imp id (fun h => by omega)⟩, ow2, by simp, by simp; omega⟩
  have x1 := h.o.cell 1 (.slice a1 n1 c1) rfl
  have x2 := h.o.cell 2 (.slice a2 n1 c2) rfl
  clear d1 d2 d3 d4 r1 r2 r3 r4 h vi hV l1 l2 l3 l4
  go_enter Tryd.func11, Tryd.ntmps11
  go_upto_region 1 with fail
  go_region_held3 (fun W => W.cell? ⟨O, 1, none⟩ = some (.slice a1 n1 c1) ∧ W.cell? ⟨O, 2, none⟩ = some (.slice a2 n1 c2)) (go_keep) (first | (go_at_call 15; refine (unhide s1 _ (by (first | with_reducible exact World.grownBy.refl _ none | with_reducible exact grown_drew' (World.grownBy.refl _ none) | with_reducible exact grown_drewN (World.grownBy.refl _ none) | with_reducible exact World.grownBy_alloc _ _ none | with_reducible exact grown_drew' (World.grownBy_alloc _ _ none) | with_reducible exact (grown_drew' (World.grownBy.refl _ none)).trans (World.grownBy_alloc _ _ none) | with_reducible exact (grown_drewN (World.grownBy.refl _ none)).trans (World.grownBy_alloc _ _ none)))).mono ?_; rintro e Ws ⟨rfl, gs⟩; have gs' : World.grownBy w Ws none := World.grownBy.trans (by (first | with_reducible exact World.grownBy.refl _ none | with_reducible exact grown_drew' (World.grownBy.refl _ none) | with_reducible exact grown_drewN (World.grownBy.refl _ none) | with_reducible exact World.grownBy_alloc _ _ none | with_reducible exact grown_drew' (World.grownBy_alloc _ _ none) | with_reducible exact (grown_drew' (World.grownBy.refl _ none)).trans (World.grownBy_alloc _ _ none) | with_reducible exact (grown_drewN (World.grownBy.refl _ none)).trans (World.grownBy_alloc _ _ none))) gs; have y1 := gs'.cell x1 (by simp); have y2 := gs'.cell x2 (by simp)))
  have g1 := gs'
  clear gs gs' x1 x2 s1
  go_wp2_with fail
  refine (unhide s2 _ g1).mono ?_
  rintro e W2 ⟨rfl, g2⟩
  have z1 := g2.cell y1 (by simp)
  have F := unhide fl _ (g1.trans g2)
  clear s2 fl y1 y2
  go_wp2_with fail
  refine F.mono ?_
  rintro e W3 ⟨rfl, es', lv', V', bO, TP, ow, hpos, hlen⟩
  obtain ⟨gl, cl, rfl⟩ : ∃ gl cl, lv' = .slice (some ⟨gl, 0, none⟩) es'.length cl := by
    rcases ow.row.2 with ⟨e1, e2⟩ | ⟨g, cap, cur, e1, -⟩
    · omega
    · exact ⟨_, _, e1⟩
  have b0 := bO.cell 0 (.slice (some ⟨gl, 0, none⟩) es'.length cl) rfl
  have b1 := bO.cell 1 (.slice a1 n1 c1) rfl
  have b2 := bO.cell 2 (.slice a2 n1 c2) rfl
  have t1 := bO.thaw 1
  have bO2 := bO.setC 1 (.slice a3 n3 c3)
  have b3 := bO2.cell 2 (.slice a2 n1 c2) rfl
  have t2 := bO2.thaw 2
  have HTP := hide TP; have HOW := hide ow
  clear F z1 g1 g2 TP ow bO bO2
  go_wp2_with fail
  generalize (W3.setCell ⟨O, 1, none⟩ (.slice a3 n3 c3)).setCell ⟨O, 2, none⟩ (.slice a4 n3 c4) = W5 at *
  have q0 := (unhide HOW).o.cell 0 (.slice (some ⟨gl, 0, none⟩) es'.length cl) rfl
  have qc : es'.length ≤ cl ∧ cl ≤ 9223372036854775807 := by
    rcases (unhide HOW).row.2 with ⟨e1, e2⟩ | ⟨g, cap, cur, e1, -, -, q3, q4, -⟩
    · omega
    · simp only [Value.slice.injEq] at e1
      unfold maxLen at q4
      omega
  have ENT := hide (fun (i : Nat) (e : En) (he : es'[i]? = some e) => And.intro ((unhide HOW).entry i e he) ((unhide HOW).ents e (List.mem_of_getElem? he)))
  have eI : ¬ (9223372036854775807 : Int) < (es'.length : Int) := by omega
  clear b0 b1 b2 b3 t1 t2 HOW hpos
  generalize hNE : es'.length = N at *
  have HNE := hide hNE
  clear hNE
  go_loopw [9] (fun iv wr => ∃ i : Nat, i ≤ N ∧ iv = .int .i64 i ∧ Hid (W5.grownBy wr none)) (fun iv _ => N - (intOf iv).toNat)
  case atStart => exact ⟨0, Nat.zero_le _, rfl, World.grownBy.refl _ _⟩
  case round =>
    obtain ⟨i, hi, rfl, G⟩ := hrel
    have z0 := (unhide G).cell q0 (by simp)
    by_cases hlt : i < N
    · have iN : (i : Int) < (N : Int) := by omega
      obtain ⟨e, he⟩ : ∃ e, es'[i]? = some e := ⟨es'[i]'(by have := unhide HNE; omega), by simp⟩
      obtain ⟨⟨w0, w1⟩, ek⟩ := unhide ENT i e he
      have cap := ek.cap
      have EK := hide ek.at_
      obtain ⟨ea, en, ec, em⟩ := e
      dsimp only at w0 w1 cap
      have nI : ¬ (9223372036854775807 : Int) < (en : Int) := by omega
      clear ek he
      go_wp2_with fail
      clear z0
      go_loopw [10] (fun kv wr => ∃ k : Nat, k ≤ en ∧ kv = .int .i64 k ∧ Hid (W5.grownBy wr none)) (fun kv _ => en - (intOf kv).toNat)
      case atStart => exact ⟨0, Nat.zero_le _, rfl, unhide G⟩
      case round =>
        obtain ⟨k, hk, rfl, G2⟩ := hrel
        have z0 := (unhide G2).cell q0 (by simp)
        have z1 := (unhide G2).cell w0 (by simp)
        have z2 := (unhide G2).cell w1 (by simp)
        by_cases hk2 : k < en
        · have kN : (k : Int) < (en : Int) := by omega
          obtain ⟨g, rfl, -, -, hc⟩ := (unhide EK).resolve_left (by omega)
          have z3 := (unhide G2).cell (hc k hk2) (by simp)
          have mm : (em != em) = false := by simp
          clear hc
          go_wp2_with fail
          go_quiet (fail)
          have E := hide (grown_drewN (q := nq) (unhide G2))
          clear G2 z0 z1 z2 z3
          go_wp2_with fail
          exact ⟨⟨k + 1, by omega, by go_num, E⟩, by simp [intOf]; omega⟩
        · have kN : ¬ (k : Int) < (en : Int) := by omega
          go_wp2_with fail
          exact ⟨⟨i + 1, by omega, by go_num, G2⟩, by simp [intOf]; omega⟩
    · have iN : ¬ (i : Int) < (N : Int) := by omega
      have E : Hid (TakePost B w V O es lv (.slice a1 n1 c1) (.slice a3 n3 c3) (.slice a4 n3 c4) wr) := by
        obtain ⟨es2, lv2, V2, ow, hl, vi, sub, k, lvn⟩ := unhide HTP
        have g := unhide G
        exact ⟨es2, lv2, V2, ow.kept g.size (fun x _ hl => g.block x hl (by simp)), hl, vi.kept (fun x _ hl => g.block x hl (by simp)), sub, k.trans (Kp.grown g _), lvn⟩
      clear G HTP
      go_wp2_with fail
      go_ret
      exact ⟨rfl, unhide E⟩
end Go.Proofs.YtpkkgmcfificiaaDoor
