/- PacketRow: what holds between rounds, and the two appends. -/
import Derived.Test.YtnglgedcpmbbjaaRI
namespace Go.Proofs.Ytnglgedcpmbbjaa
open Go.RowKit
set_option linter.unusedVariables false
set_option maxRecDepth 100000
set_option maxHeartbeats 1000000

abbrev lay (qs : List PV) : List Int := (qs.map PV.p).flatMap bytesP
def Lists (w : World) (x : PV) : Prop := InB w x.d x.p.dst ∧ InB w x.s x.p.src ∧ InB w x.y x.p.payload

structure RowI (w : World) (gG : Nat) (G : Lg) (xs : List PV) (wr : World) (k : Nat) (bv wv : Value) (n : Int) (s : Bool) (qs : List PV) : Prop where
  hb : OwnB (gG + 1) wr bv (lay qs)
  row : wr.ownsRow (gG + 1) 30 6 wv qs.length (qs.flatMap PV.cl)
  in_ : ∀ x ∈ qs, Lists w x
  few : qs.length ≤ k
  tt : (lay qs).length + tot (xs.drop k) ≤ tot xs
  ld : Rw.Laid n G s (qs.map PV.p)
  ns : s = false → n = 0 ∧ LaidF G (qs.map PV.p)
  n20 : 0 ≤ n ∧ n ≤ 20
  bG : Blk wr gG #[.int .i64 G.1, .int .i64 G.2.1, .int .i64 G.2.2] 23
  gr : w.grownBy wr none
  hB : gG + 1 ≤ wr.heap.size

theorem drop_at {xs : List PV} {k : Nat} {x : PV} (hx : xs[k]? = some x) : xs.drop k = x :: xs.drop (k + 1) := by
  obtain ⟨h, e⟩ := List.getElem?_eq_some_iff.1 hx
  rw [List.drop_eq_getElem_cons h, e]

theorem RowI.next {w wr W : World} {gG k : Nat} {G : Lg} {xs qs : List PV} {bv wv : Value} {n : Int} {s : Bool} (h : RowI w gG G xs wr k bv wv n s qs) (gW : wr.grownBy W none) {x : PV} (hx : xs[k]? = some x) : RowI w gG G xs W (k + 1) bv wv n s qs := by
  have ht := h.tt
  rw [drop_at hx] at ht
  simp only [tot] at ht
  exact ⟨h.hb.kept (fun g e => gW.block g (h.hb.lt g e).2 (by simp)), row_kpt h.row (fun i _ hi _ => gW.block i hi (by simp)), h.in_, Nat.le_succ_of_le h.few, by omega, h.ld, h.ns, h.n20, h.bG.grown gW, h.gr.trans gW, Nat.le_trans h.hB gW.size⟩

theorem lay_snoc (qs : List PV) (x : PV) : lay (qs ++ [x]) = lay qs ++ bytesP x.p := by simp [lay]

theorem row_step {w wr W : World} {gG k : Nat} {G : Lg} {xs qs : List PV} {bv wv : Value} {n : Int} (h : RowI w gG G xs wr k bv wv n false qs) (hg : gG = w.heap.size) {x : PV} (hx : xs[k]? = some x) (ix : Lists w x) (g : Good x.p) (hf : foundB x.p G = true) (gW : wr.grownBy W none) {cv : Value} (hc : InB W cv (bytesP x.p)) (ht : tot xs ≤ 70000000) (hk : k ≤ 1048576) :
    ∃ v' W1, (Builtin.append_ #[24, 24] 24 #[bv, cv]).run Try.prog W = .ok v' W1 ∧ w.grownBy W1 none ∧
      ∃ g' c' W2, (Builtin.append_ #[22, 22] 22 #[wv, .slice (some ⟨W1.heap.size, 0, none⟩) 1 1]).run Try.prog (W1.alloc (.cells (x.p.cs x.d x.s x.y) 30)) = .ok (.slice (some ⟨g', 0, none⟩) (qs.length + 1) c') W2 ∧ w.grownBy W2 none ∧
        (x.p.space ≠ 2 → RowI w gG G xs W2 (k + 1) v' (.slice (some ⟨g', 0, none⟩) (qs.length + 1) c') 0 false (qs ++ [x])) ∧ (x.p.space = 2 → RowI w gG G xs W2 (k + 1) v' (.slice (some ⟨g', 0, none⟩) (qs.length + 1) c') (x.p.dst.length : Int) true (qs ++ [x])) := by
  have tt := h.tt
  rw [drop_at hx] at tt
  simp only [tot] at tt
  have bl := bytesP_lt x.p g
  have hbW : OwnB (gG + 1) W bv (lay qs) := h.hb.kept (fun g e => gW.block g (h.hb.lt g e).2 (by simp))
  have hrW := row_kpt h.row (w' := W) (fun i _ hi _ => gW.block i hi (by simp))
  have hBW := Nat.le_trans h.hB gW.size
  obtain ⟨v', W1, r1, o1, g1⟩ := app_rd W (gG + 1) 24 bv (lay qs) hbW cv (bytesP x.p) hc (by omega) hBW
  have b1 : Below (gG + 1) W W1 := (Below.refl (gG + 1) W).grown g1 hBW (fun k e => (World.ownsRow.lt hbW k e).1)
  have row1 := row_kpt hrW (w' := W1) (fun g _ hl e => g1.block g hl (row_ne hrW hbW (by decide) e))
  have hB1 := Nat.le_trans hBW b1.size
  have one : ∀ u ∈ x.cl, u.oneCell' = true := fun u hu => by
    simp only [PV.cl, List.mem_cons, List.not_mem_nil, or_false] at hu
    rcases hu with rfl | rfl | rfl | rfl | rfl | rfl
    · rfl
    · exact InB.one ix.1
    · exact InB.one ix.2.1
    · rfl
    · rfl
    · exact InB.one ix.2.2
  obtain ⟨g', c', W2, r2, o2, b2, k2⟩ := row_push row1 x one (by have := h.few; omega) hB1
  have B1 : Below w.heap.size w W1 := (grown_bel (h.gr.trans gW)).trans (b1.mono (by omega))
  have B2 : Below w.heap.size w W2 := B1.trans (b2.mono (by omega))
  have bG2 : Blk W2 gG #[.int .i64 G.1, .int .i64 G.2.1, .int .i64 G.2.2] 23 := (b2.block gG (Nat.lt_succ_self _)).trans ((b1.block gG (Nat.lt_succ_self _)).trans (h.bG.grown gW))
  have hb2 : OwnB (gG + 1) W2 v' (lay (qs ++ [x])) := by rw [lay_snoc]; exact k2 _ _ _ o1
  have in2 : ∀ y ∈ qs ++ [x], Lists w y := fun y hy => by
    rcases List.mem_append.1 hy with hy | hy
    · exact h.in_ y hy
    · simp only [List.mem_singleton] at hy; subst hy; exact ix
  have tt2 : (lay (qs ++ [x])).length + tot (xs.drop (k + 1)) ≤ tot xs := by rw [lay_snoc, List.length_append]; omega
  have few2 : (qs ++ [x]).length ≤ k + 1 := by have := h.few; simp; omega
  have em : (qs ++ [x]).map PV.p = qs.map PV.p ++ [x.p] := by simp
  have fp := found_p hf
  refine ⟨v', W1, r1, below_grown B1, g', c', W2, r2, below_grown B2, fun h2 => ?_, fun h2 => ?_⟩
  · have L : LaidF G ((qs ++ [x]).map PV.p) := by rw [em]; exact (h.ns rfl).2.snoc g fp h2
    exact ⟨hb2, o2, in2, few2, tt2, laid_of L, fun _ => ⟨rfl, L⟩, ⟨by omega, by omega⟩, bG2, below_grown B2, Nat.le_trans hB1 b2.size⟩
  · have gd := g.d
    exact ⟨hb2, o2, in2, few2, tt2, by rw [em]; exact laid_last g fp h2 (h.ns rfl).2, (fun e => by cases e), ⟨by omega, by omega⟩, bG2, below_grown B2, Nat.le_trans hB1 b2.size⟩

theorem laid_good {n : Int} {G : Lg} {s : Bool} {ps : List Pk} (h : Rw.Laid n G s ps) : ∀ p ∈ ps, Good p := by
  induction h with
  | nil => intro p hp; cases hp
  | last p h hf h2 hn => intro q hq; simp only [List.mem_singleton] at hq; subst hq; exact h
  | cons s p ps h hf h2 t ih =>
    intro q hq
    rcases List.mem_cons.1 hq with rfl | hq
    · exact h
    · exact ih q hq
theorem lay_count : ∀ (ps : List Pk), (∀ p ∈ ps, Good p) → ps.length ≤ (ps.flatMap bytesP).length
  | [], _ => Nat.le_refl _
  | p :: ps, h => by
    have h1 := Rw.bytesP_pos p (h p (by simp))
    have h2 := lay_count ps (fun q hq => h q (by simp [hq]))
    simp only [List.flatMap_cons, List.length_append, List.length_cons]
    omega

structure TailI (w : World) (gG : Nat) (G : Lg) (n : Int) (s : Bool) (qs : List PV) (R : List Int) (wv : Value) (v : Value) (wc : World) : Prop where
  hb : OwnB (gG + 1) wc v (lay qs ++ R)
  row : wc.ownsRow (gG + 1) 30 6 wv qs.length (qs.flatMap PV.cl)
  in_ : ∀ x ∈ qs, Lists w x
  ld : Rw.Laid n G s (qs.map PV.p)
  n20 : 0 ≤ n ∧ n ≤ 20
  bG : Blk wc gG #[.int .i64 G.1, .int .i64 G.2.1, .int .i64 G.2.2] 23
  gr : w.grownBy wc none
  hs : s = true → R = []
  hR : R = [] ∨ ∃ x R', R = x :: R' ∧ 0 ≤ x ∧ x < 64
  by_ : ∀ x ∈ R, IsB x
  ln : (lay qs ++ R).length ≤ 80000000

theorem lay_bytes {w : World} {qs : List PV} (hg : ∀ p ∈ qs.map PV.p, Good p) (hi : ∀ x ∈ qs, Lists w x) : ∀ x ∈ lay qs, IsB x := by
  intro x hx
  obtain ⟨p, hp, hx⟩ := List.mem_flatMap.1 hx
  have g := hg p hp
  obtain ⟨y, hy, rfl⟩ := List.mem_map.1 hp
  obtain ⟨i1, i2, i3⟩ := hi y hy
  exact bytesP_byte g i1.bytes i2.bytes i3.bytes x hx

theorem row_shape {B : Nat} {w : World} {wv : Value} {n : Nat} {e : TypeId} {sz : Nat} {xs : List Value} (h : w.ownsRow B e sz wv n xs) : ∃ a c, wv = .slice a n c := by
  rcases h.2 with ⟨rfl, rfl⟩ | ⟨g, cap, cur, rfl, -⟩
  · exact ⟨_, _, rfl⟩
  · exact ⟨_, _, rfl⟩

theorem row_tail {w wc : World} {gG : Nat} {G : Lg} {n : Int} {s : Bool} {qs : List PV} {R : List Int} {wv v : Value} (t : TailI w gG G n s qs R wv v wc) (hG : okG G) :
    Calls Try.prog 7 #[v, .int .i64 n, G.v] wc fun e w' => ∃ a m c, e = .returned (.tuple #[.slice a m c, .int .i64 ((lay qs).length : Int)]) ∧ Hid (Calls Try.prog 8 #[.slice a m c, wv] w' fun e w'' => e = .returned (.bool true) ∧ w.grownBy w'' none) := by
  have gd := laid_good t.ld
  have hbb : ∀ x ∈ lay qs ++ R, IsB x := fun x hx => by
    rcases List.mem_append.1 hx with hx | hx
    · exact lay_bytes gd t.in_ x hx
    · exact t.by_ x hx
  have ln := t.ln
  have cnt := lay_count (qs.map PV.p) gd
  have sp := Rw.split_row n G hG t.n20 R s (qs.map PV.p) t.ld [] ((lay qs ++ R).length + 1) (by simp only [List.length_append]; show _ ≤ (lay qs).length + _ + 1; have : (qs.map PV.p).length ≤ (lay qs).length := cnt; omega) t.hs t.hR
  simp only [List.nil_append, List.length_nil, Nat.zero_add] at sp
  refine (split_any v (lay qs ++ R) n G wc (t.hb.inB hbb) (by omega)).mono ?_
  rintro e w' ⟨a, m, c, ps, rfl, h1, h2, h3, h4, h5, h6, h7⟩
  have eA : splF (lay qs ++ R) n G ((lay qs ++ R).length + 1) 0 = (qs.map PV.p, (lay qs).length) := by rw [spl_eq]; exact sp
  rw [eA] at h5
  refine ⟨a, m, c, by rw [eA], ?_⟩
  have hm : qs.length = m := by
    have e : (ps.map PV.p).length = (qs.map PV.p).length := by rw [h5]
    rw [List.length_map, List.length_map] at e
    omega
  have rw' := row_kpt t.row (w' := w') (fun i _ hi _ => h7.block i hi (by simp))
  obtain ⟨a2, c2, rfl⟩ := row_shape t.row
  rw [hm] at rw' ⊢
  refine (samePk_in wc.heap.size (gG + 1) a a2 m c c2 ps qs w' h3 (by rw [hm]; exact rw') (fun y hy => ?_) h1 h5 h6 (by omega)).mono ?_
  · have gg := t.gr.trans h7
    exact ⟨(t.in_ y hy).1.grown gg, (t.in_ y hy).2.1.grown gg, (t.in_ y hy).2.2.grown gg⟩
  · rintro e w2 ⟨rfl, g2⟩
    exact ⟨rfl, (t.gr.trans h7).trans g2⟩
end Go.Proofs.Ytnglgedcpmbbjaa
