/- The owner: fill, walked. -/
import Derived.Test.YtpkkgmcfificiaaDoorD7H
namespace Go.Proofs.YtpkkgmcfificiaaDoor
open Go.RowKit Go.Shelf Go.Maps
set_option linter.unusedVariables false
set_option maxRecDepth 100000
set_option maxHeartbeats 2000000

/-- Blocks of integers. -/
def VI (w : World) (V : Nat → Prop) : Prop := ∀ g, V g → ∃ cs, w.heap[g]? = some (.cells cs 3 (0, 0))
theorem VI.lt {w : World} {V : Nat → Prop} (h : VI w V) {g : Nat} (hg : V g) : g < w.heap.size := by
  obtain ⟨cs, e⟩ := h g hg
  exact Blk.lt (cs := cs) (t := 3) e
theorem VI.kept {w w' : World} {V : Nat → Prop} (h : VI w V) (hk : ∀ g, V g → g < w.heap.size → w'.heap[g]? = w.heap[g]?) : VI w' V := fun g hg => by
  obtain ⟨cs, e⟩ := h g hg
  exact ⟨cs, (hk g hg (h.lt hg)).trans e⟩
theorem VI.blk {w : World} {V : Nat → Prop} (h : VI w V) {O : Nat} {cs : Array Value} {t : TypeId} (b : Blk w O cs t) (ht : (3 : TypeId) ≠ t) : ¬ V O := fun hg => by
  obtain ⟨cs', e⟩ := h O hg
  have b' : w.heap[O]? = some (.cells cs t (0, 0)) := b
  rw [e] at b'
  simp only [Option.some.injEq, Obj.cells.injEq] at b'
  exact ht b'.2.1
theorem VI.row {w : World} {V : Nat → Prop} (h : VI w V) {B sz n : Nat} {e : TypeId} {v : Value} {xs : List Value} (r : w.ownsRow B e sz v n xs) (he : (3 : TypeId) ≠ e) {g : Nat} (hg : V g) : v.ownBlock ≠ some g := by
  intro eb
  rcases r.2 with ⟨rfl, -⟩ | ⟨g1, _, c1, rfl, -, q1, -⟩
  · cases eb
  · cases eb
    exact h.blk (O := g1) (cs := c1) (t := e) q1 he hg
theorem vi_row {w : World} {B n : Nat} {v : Value} {xs : List Value} (r : w.ownsRow B 3 1 v n xs) : VI w (fun g => v.ownBlock = some g) := fun g e => by
  rcases r.2 with ⟨rfl, -⟩ | ⟨g1, _, c1, rfl, -, q1, -⟩
  · cases e
  · cases e
    exact ⟨_, q1⟩
theorem VI.or {w : World} {V V' : Nat → Prop} (h : VI w V) (h' : VI w V') : VI w (fun g => V g ∨ V' g) := fun g hg => hg.elim (h g) (h' g)

theorem marks_set {j : Nat} {M : Int} {xs : List Value} (hj : j < xs.length) : (marks j M ++ xs.drop j).set j (.int .i64 M) = marks (j + 1) M ++ xs.drop (j + 1) := by
  rw [List.set_append_right _ _ (by simp)]
  simp [marks, List.replicate_succ']
  rw [List.drop_eq_getElem_cons hj]; rfl

/-- While the held list is written over. -/
structure F1 (B : Nat) (w : World) (V : Nat → Prop) (O : Nat) (es : List En) (lv hv wv : Value) (a : Option Addr) (n c : Nat) (xs : List Value) (M : Int) (wr : World) (j : Nat) : Prop where
  ow : OW B wr V O es lv hv wv
  vi : VI wr V
  row : wr.ownsRow B 3 1 (.slice a n c) n (marks j M ++ xs.drop j)
  nv : ∀ g, (Value.slice a n c).ownBlock = some g → ¬ V g
  kp : Kp (fun x => x = O ∨ lv.ownBlock = some x ∨ (Value.slice a n c).ownBlock = some x) w wr

theorem F1.store {B : Nat} {w wr : World} {V : Nat → Prop} {O : Nat} {es : List En} {lv hv wv : Value} {g n c : Nat} {xs : List Value} {M : Int} {j : Nat} (h : F1 B w V O es lv hv wv (some ⟨g, 0, none⟩) n c xs M wr j) (hj : j < n) (hx : xs.length = n) :
    F1 B w V O es lv hv wv (some ⟨g, 0, none⟩) n c xs M (wr.setCell ⟨g, j, none⟩ (.int .i64 M)) (j + 1) := by
  obtain ⟨r1, g1⟩ := World.ownsRow.stored h.row j (.int .i64 M)
  rw [marks_set (by omega)] at r1
  have hgO : O ≠ g := fun e => row_blk h.row h.ow.o (by decide) (by rw [e]; rfl)
  have hgl : lv.ownBlock ≠ some g := row_apart h.row h.ow.row (by decide) rfl
  have ks : Kp (fun x => x = g) wr (wr.setCell ⟨g, j, none⟩ (.int .i64 M)) := (Kp.refl _ wr).set g j _ (fun _ => rfl)
  refine ⟨h.ow.kept ks.size (fun x hx hl => ks.block x hl (fun e => ?_)), h.vi.kept (fun x hx hl => ks.block x hl (fun e => by subst e; exact h.nv x rfl hx)), r1, h.nv, h.kp.trans (ks.mono (fun x _ e => by subst e; exact .inr (.inr rfl)))⟩
  subst e
  rcases hx with hx | hx | hx
  · exact hgO hx.symm
  · exact hgl hx
  · exact h.nv x rfl hx

/-- The owner, its last list told apart. -/
structure OX (B : Nat) (w : World) (V : Nat → Prop) (O : Nat) (es all : List En) (lv hv wv : Value) : Prop where
  o : Blk w O #[lv, hv, wv] 32
  row : w.ownsRow B 67 2 lv all.length (all.flatMap En.cl)
  ents : ∀ e ∈ es, EOk w V e
  hB : B ≤ w.heap.size
theorem OX.kept {B : Nat} {w w' : World} {V : Nat → Prop} {O : Nat} {es all : List En} {lv hv wv : Value} (h : OX B w V O es all lv hv wv) (hs : w.heap.size ≤ w'.heap.size) (hk : ∀ g, g = O ∨ lv.ownBlock = some g ∨ V g → g < w.heap.size → w'.heap[g]? = w.heap[g]?) : OX B w' V O es all lv hv wv :=
  ⟨(hk O (.inl rfl) h.o.lt).trans h.o, row_keep h.row (fun g e hl => hk g (.inr (.inl e)) hl), fun e he => (h.ents e he).kept hs (fun g hv hl => hk g (.inr (.inr hv)) hl), Nat.le_trans h.hB hs⟩

/-- While it is grown. -/
structure F2 (B : Nat) (w : World) (V : Nat → Prop) (O : Nat) (es : List En) (lv hv wv : Value) (e1 : En) (K : Nat → Prop) (M : Int) (l2 : Value) (wr : World) (j : Nat) : Prop where
  ow : OX B wr V O es (es ++ [e1]) lv hv wv
  vi : VI wr V
  row : wr.ownsRow B 3 1 l2 j (marks j M)
  nv : ∀ g, l2.ownBlock = some g → ¬ V g
  ex1 : ∃ V1, EOk wr V1 e1 ∧ VI wr V1 ∧ ∀ g, V1 g → (Value.slice e1.a e1.n e1.c).ownBlock = some g
  hk : ∀ g, (Value.slice e1.a e1.n e1.c).ownBlock = some g → K g
  en : e1.n ≤ j ∧ e1.m = M
  kb : ∀ g, l2.ownBlock = some g → (Value.slice e1.a e1.n e1.c).ownBlock = some g ∨ w.heap.size ≤ g
  kp : Kp K w wr

theorem F2.push {B : Nat} {w wr : World} {V : Nat → Prop} {O : Nat} {es : List En} {lv hv wv : Value} {e1 : En} {K : Nat → Prop} {M : Int} {l2 : Value} {j : Nat} (h : F2 B w V O es lv hv wv e1 K M l2 wr j) (few : j ≤ 1000000) :
    ∃ g c w', (Builtin.append_ #[30, 30] 30 #[l2, .slice (some ⟨wr.heap.size, 0, none⟩) 1 1]).run Tryd.prog (wr.alloc (.cells #[.int .i64 M] 3)) = .ok (.slice (some ⟨g, 0, none⟩) (j + 1) c) w' ∧ F2 B w V O es lv hv wv e1 K M (.slice (some ⟨g, 0, none⟩) (j + 1) c) w' (j + 1) := by
  obtain ⟨V1, he, vi1, hK⟩ := h.ex1
  obtain ⟨g, c, w', hr, ho, he', hg, k, ty⟩ := mark_push h.row he h.en.1 h.en.2 few h.ow.hB
  have hO := row_blk h.row h.ow.o (by decide)
  have hl : ∀ x, lv.ownBlock = some x → l2.ownBlock ≠ some x := fun x e => row_apart h.ow.row h.row (by decide) e
  have szk := h.kp.size
  refine ⟨g, c, w', hr, h.ow.kept k.size (fun x hx hl' => k.block x hl' (fun e => ?_)), h.vi.kept (fun x hx hl' => k.block x hl' (fun e => h.nv x e hx)), ho, fun x e hx => ?_, ⟨V1, he', fun x hx => by obtain ⟨cs, e⟩ := vi1 x hx; exact ty x cs e, hK⟩, h.hk, ⟨by have := h.en.1; omega, h.en.2⟩, fun x e => ?_, ?_⟩
  · rcases hx with rfl | hx | hx
    · exact hO e
    · exact hl x hx e
    · exact h.nv x e hx
  · obtain rfl : x = g := by cases e; rfl
    rcases hg with hg | hg
    · exact h.nv _ hg hx
    · have := h.vi.lt hx; omega
  · obtain rfl : x = g := by cases e; rfl
    rcases hg with hg | hg
    · exact h.kb _ hg
    · exact .inr (by omega)
  · refine ⟨k.os.trans h.kp.os, k.tape.trans h.kp.tape, k.output.trans h.kp.output, Nat.le_trans szk k.size, fun x hx hn => ?_⟩
    refine (k.block x (by omega) (fun e => ?_)).trans (h.kp.block x hx hn)
    rcases h.kb x e with h1 | h1
    · exact hn (h.hk x h1)
    · omega
end Go.Proofs.YtpkkgmcfificiaaDoor
