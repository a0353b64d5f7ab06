/- The owner: fill. -/
import Derived.Test.YtpkkgmcfificiaaDoorD7G
namespace Go.Proofs.YtpkkgmcfificiaaDoor
open Go.RowKit Go.Shelf Go.Maps
set_option linter.unusedVariables false
set_option maxRecDepth 100000
set_option maxHeartbeats 2000000

theorem Tryd.infoOwn : (Tryd.prog.info? 67).map (fun i => (i.zero, i.size, i.bytes)) = some (some (.agg #[.slice none 0 0, .int .i64 0]), 2, 32) := by kernel_rfl

theorem row_keep {base n : Nat} {e : TypeId} {sz : Nat} {w w' : World} {v : Value} {xs : List Value} (h : w.ownsRow base e sz v n xs) (hk : ∀ g, v.ownBlock = some g → g < w.heap.size → w'.heap[g]? = w.heap[g]?) : w'.ownsRow base e sz v n xs := by
  have hl := h.lt
  refine ⟨h.1, ?_⟩
  rcases h.2 with h2 | ⟨g', cap, cur, rfl, q1, q2, q3⟩
  · exact .inl h2
  · exact .inr ⟨g', cap, cur, rfl, q1, by rw [hk g' rfl (hl g' rfl).2]; exact q2, q3⟩
theorem row_apart {w : World} {b1 b2 s1 s2 n1 n2 : Nat} {e1 e2 : TypeId} {v1 v2 : Value} {x1 x2 : List Value} (h1 : w.ownsRow b1 e1 s1 v1 n1 x1) (h2 : w.ownsRow b2 e2 s2 v2 n2 x2) (he : e1 ≠ e2) {g : Nat} (hg : v1.ownBlock = some g) : v2.ownBlock ≠ some g := by
  intro e
  rcases h1.2 with ⟨rfl, -⟩ | ⟨g1, _, c1, rfl, -, q1, -⟩
  · cases hg
  · rcases h2.2 with ⟨rfl, -⟩ | ⟨g2, _, c2, rfl, -, q2, -⟩
    · cases e
    · cases hg
      have e' : g2 = g1 := by simpa [Value.ownBlock] using e
      subst e'
      rw [q1] at q2
      simp only [Option.some.injEq, Obj.cells.injEq] at q2
      exact he q2.2.1
theorem row_blk {w : World} {b1 s1 n1 O : Nat} {e1 t : TypeId} {v1 : Value} {x1 : List Value} {cs : Array Value} (h1 : w.ownsRow b1 e1 s1 v1 n1 x1) (b : Blk w O cs t) (he : e1 ≠ t) : v1.ownBlock ≠ some O := by
  intro e
  rcases h1.2 with ⟨rfl, -⟩ | ⟨g1, _, c1, rfl, -, q1, -⟩
  · cases e
  · cases e
    have b' : w.heap[g1]? = some (.cells cs t (0, 0)) := b
    rw [q1] at b'
    simp only [Option.some.injEq, Obj.cells.injEq] at b'
    exact he b'.2.1

/-- The owner at O: its lists es, in blocks of V. -/
structure OW (B : Nat) (w : World) (V : Nat → Prop) (O : Nat) (es : List En) (lv hv wv : Value) : Prop where
  o : Blk w O #[lv, hv, wv] 32
  row : w.ownsRow B 67 2 lv es.length (es.flatMap En.cl)
  ents : ∀ e ∈ es, EOk w V e
  hB : B ≤ w.heap.size

theorem OW.kept {B : Nat} {w w' : World} {V : Nat → Prop} {O : Nat} {es : List En} {lv hv wv : Value} (h : OW B w V O es lv hv wv) (hs : w.heap.size ≤ w'.heap.size) (hk : ∀ g, g = O ∨ lv.ownBlock = some g ∨ V g → g < w.heap.size → w'.heap[g]? = w.heap[g]?) : OW B w' V O es lv hv wv :=
  ⟨(hk O (.inl rfl) h.o.lt).trans h.o, row_keep h.row (fun g e hl => hk g (.inr (.inl e)) hl), fun e he => (h.ents e he).kept hs (fun g hv hl => hk g (.inr (.inr hv)) hl), Nat.le_trans h.hB hs⟩

/-- One list more. -/
theorem OW.push {B : Nat} {w : World} {V V' : Nat → Prop} {O : Nat} {es : List En} {lv hv wv : Value} (h : OW B w V O es lv hv wv) (e : En) (few : es.length ≤ 100000000) (hVO : ¬ V' O) (hV3 : ∀ g, V' g → lv.ownBlock ≠ some g) (hV : ∀ g, V g → V' g) (he : EOk w V' e) (hVl : ∀ g, V' g → g < w.heap.size) :
    ∃ g c w', (Builtin.append_ #[29, 29] 29 #[lv, .slice (some ⟨w.heap.size, 0, none⟩) 1 1]).run Tryd.prog (w.alloc (.cells #[.slice e.a e.n e.c, .int .i64 e.m] 67)) = .ok (.slice (some ⟨g, 0, none⟩) (es.length + 1) c) w'
      ∧ Blk w' O #[lv, hv, wv] 32 ∧ (lv.ownBlock = some g ∨ w.heap.size ≤ g) ∧ OW B (w'.setCell ⟨O, 0, none⟩ (.slice (some ⟨g, 0, none⟩) (es.length + 1) c)) V' O (es ++ [e]) (.slice (some ⟨g, 0, none⟩) (es.length + 1) c) hv wv ∧ Kp (fun x => x = O ∨ lv.ownBlock = some x) w (w'.setCell ⟨O, 0, none⟩ (.slice (some ⟨g, 0, none⟩) (es.length + 1) c)) := by
  obtain ⟨inf, hi0, hz0, hz1, hz2⟩ := info_parts Tryd.infoOwn
  have hsz : (w.alloc (.cells #[.slice e.a e.n e.c, .int .i64 e.m] 67)).heap.size = w.heap.size + 1 := by show (w.heap.push _).size = _; simp
  have gA := World.grownBy_alloc w (.cells #[.slice e.a e.n e.c, .int .i64 e.m] 67) none
  have h1 := trow_kept h.row gA
  have hB := h.hB
  have hOl := h.o.lt
  have hnO := row_blk h.row h.o (by decide)
  obtain ⟨v5, W5, hrun, o5, mv, -⟩ := app_keepS (P := Tryd.prog) (w.alloc (.cells #[.slice e.a e.n e.c, .int .i64 e.m] 67)) B 29 29 67 inf (.agg #[.slice none 0 0, .int .i64 0]) 2 32 Tryd.underlying29 hi0 hz0 hz1 hz2 rfl (by decide) lv es.length (es.flatMap En.cl) h1 ⟨w.heap.size, 0, none⟩ 1 1 e.cl rfl (fun i u hu => by
    rw [show (⟨w.heap.size, 0, none⟩ : Addr).add i = ⟨w.heap.size, i, none⟩ by simp [Addr.add]; exact fun e => e.symm]
    simp only [World.cell?, heap_alloc_new]
    rw [← hu]
    simp [En.cl]) (fun u hu => by
    simp only [En.cl, List.mem_cons, List.not_mem_nil, or_false] at hu
    rcases hu with rfl | rfl <;> rfl) (by omega) (by unfold maxLen; omega) (by omega) (by omega)
  obtain ⟨h5, c5, rfl⟩ : ∃ h5 c5, v5 = .slice (some ⟨h5, 0, none⟩) (es.length + 1) c5 := by
    rcases o5.2 with ⟨-, e⟩ | ⟨g6, cap, cur, e, -⟩
    · omega
    · exact ⟨g6, cap, e⟩
  have k5 : Kp (fun x => lv.ownBlock = some x) w W5 := by
    refine (Kp.grown gA _).trans ?_
    rcases mv with ⟨-, gg⟩ | ⟨-, gg, -⟩
    · exact ⟨gg.os, gg.tape, gg.output, gg.size, fun x hx hn => gg.block x hx (fun e => hn e.symm)⟩
    · exact Kp.grown gg _
  have hg5 : lv.ownBlock = some h5 ∨ w.heap.size ≤ h5 := by
    rcases mv with ⟨e1, -⟩ | ⟨e1, -, -⟩
    · exact .inl e1.symm
    · right
      have : h5 = (w.alloc (.cells #[.slice e.a e.n e.c, .int .i64 e.m] 67)).heap.size := by
        have e2 : some h5 = some (w.alloc (.cells #[.slice e.a e.n e.c, .int .i64 e.m] 67)).heap.size := e1
        exact Option.some.inj e2
      omega
  have bO : Blk W5 O #[lv, hv, wv] 32 := (k5.block O hOl (fun e => hnO e)).trans h.o
  have ks : Kp (fun x => x = O) W5 (W5.setCell ⟨O, 0, none⟩ (.slice (some ⟨h5, 0, none⟩) (es.length + 1) c5)) := (Kp.refl _ W5).set O 0 _ (fun _ => rfl)
  have hnO5 := row_blk o5 bO (by decide)
  have sz5 := k5.size
  refine ⟨h5, c5, W5, hrun, bO, hg5, ⟨bO.setC 0 _, ?_, fun x hx => ?_, by have := ks.size; omega⟩, (k5.mono (fun x _ e => .inr e)).trans (ks.mono (fun x _ e => .inl e))⟩
  · have e1 : (es ++ [e]).length = es.length + 1 := by simp
    have e2 : (es ++ [e]).flatMap En.cl = es.flatMap En.cl ++ e.cl := by simp
    rw [e1, e2]
    exact row_keep o5 (fun g eg hl => ks.block g hl (fun c => by subst c; exact hnO5 eg))
  · have kk : EOk w V' x := by
      rcases List.mem_append.1 hx with hx | hx
      · exact (h.ents x hx).mono hV
      · simp only [List.mem_singleton] at hx; subst hx; exact he
    have szk := ks.size
    exact kk.kept (by omega) (fun g hg hl => (ks.block g (by omega) (fun c => by subst c; exact hVO hg)).trans (k5.block g hl (hV3 g hg)))
end Go.Proofs.YtpkkgmcfificiaaDoor
