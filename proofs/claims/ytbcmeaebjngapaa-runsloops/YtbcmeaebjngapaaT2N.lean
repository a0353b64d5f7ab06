/- RunsLoops: its boxes. -/
import Derived.Test.YtbcmeaebjngapaaT2M
namespace Go.Proofs.Ytbcmeaebjngapaa
open Go.RowKit Go.Shelf
set_option linter.unusedVariables false
set_option maxHeartbeats 1000000
set_option maxRecDepth 100000

/-- Where the boxes lie. -/
structure Pl where
  N : Nat
  P : Nat
  u : Nat
  d : Nat
  t : Nat
  q : Nat
  b : Nat
def Pl.i (p : Pl) : Nat := p.q + 1
def Pl.r (p : Pl) : Nat := p.N + 1 + 1
structure Pl.Ok (p : Pl) : Prop where
  h1 : p.N + 1 + 1 < p.P
  h2 : p.P < p.u
  h3 : p.u < p.d
  h4 : p.d < p.t
  h5 : p.t < p.q
def Pl.Bx (p : Pl) (g : Nat) : Prop := g = p.N ∨ g = p.N + 1 ∨ g = p.N + 1 + 1 ∨ g = p.P ∨ g = p.u ∨ g = p.d ∨ g = p.t ∨ g = p.q ∨ g = p.q + 1

/-- The boxes, the set (v, L) and the list that is held against it (a, c, M). -/
structure FA (p : Pl) (m : Value) (lv : Int) (v : Value) (L : List Sp) (a : Option Addr) (c : Nat) (M : List Sp) (iv : Int) (X : World) : Prop where
  bm : Boxed X p.N 22 m
  bl : Boxed X (p.N + 1) 3 (.int .i64 lv)
  br : Boxed X (p.N + 1 + 1) 4 (.bool false)
  bs : Boxed X p.P 24 (.pointer (some ⟨p.b, 0, none⟩))
  bu : Boxed X p.u 24 (.pointer (some ⟨p.b, 0, none⟩))
  bd : Boxed X p.d 24 (.pointer (some ⟨p.b, 0, none⟩))
  bt : Boxed X p.t 37 (dnV p.d)
  bq : Boxed X p.q 26 (.slice a M.length c)
  bi : Boxed X (p.q + 1) 3 (.int .i64 iv)
  st : SetAt X p.b 0 v L
  good : Good (-9223372036854775808) 9223372036854775807 L
  sep : ∀ g, g = p.b ∨ v.ownBlock = some g → ¬ p.Bx g
  rl : RdK X p.b 0 a c M
  lsep : ∀ g, a = some ⟨g, 0, none⟩ → M ≠ [] → ¬ p.Bx g ∧ g ≠ p.b
theorem FA.blt {p : Pl} {m : Value} {lv : Int} {v : Value} {L : List Sp} {a : Option Addr} {c : Nat} {M : List Sp} {iv : Int} {X : World} (h : FA p m lv v L a c M iv X) : p.b < X.heap.size := (Array.getElem?_eq_some_iff.1 h.st.blk).1
theorem RdK.own {w w' : World} {b n c B : Nat} {a : Option Addr} {L : List Sp} {row : Option Nat} (h : RdK w b n a c L) (g : w.grownBy w' row) (hr : Rec B w row) (hb : ∃ cs t, w.heap[b]? = some (.cells cs t (0, 0))) : RdK w' b n a c L := by
  refine ⟨h.cap, h.at_.imp id ?_⟩
  rintro ⟨x, e, hn, ho, cs, t, hx, hc⟩
  have hx' : w'.heap[x]? = w.heap[x]? := g.block x (Array.getElem?_eq_some_iff.1 hx).1 (hr.ne_blk hx)
  obtain ⟨cs2, t2, hbb⟩ := hb
  have hb' : ownS w' b = ownS w b := ownS_same (g.block b (Array.getElem?_eq_some_iff.1 hbb).1 (hr.ne_blk hbb))
  have cc : ∀ o, w'.cell? ⟨x, o, none⟩ = w.cell? ⟨x, o, none⟩ := fun o => by simp only [World.cell?, hx']
  exact ⟨x, e, hn, by rw [hb']; exact ho, cs, t, hx'.trans hx, fun i y hy => ⟨(cc _).trans (hc i y hy).1, (cc _).trans (hc i y hy).2⟩⟩
theorem RdK.kpt {S : Nat → Prop} {w w' : World} {b n c : Nat} {a : Option Addr} {L : List Sp} (h : RdK w b n a c L) (k : Kp S w w') (hb : b < w.heap.size) (hSb : ¬ S b) (hS : ∀ g, a = some ⟨g, 0, none⟩ → L ≠ [] → ¬ S g) : RdK w' b n a c L := by
  by_cases hL : L = []
  · exact ⟨h.cap, .inl hL⟩
  · refine ⟨h.cap, h.at_.imp id ?_⟩
    rintro ⟨x, e, hn, ho, cs, t, hx, hc⟩
    have hx' : w'.heap[x]? = w.heap[x]? := k.block x (Array.getElem?_eq_some_iff.1 hx).1 (hS x e hL)
    have cc : ∀ o, w'.cell? ⟨x, o, none⟩ = w.cell? ⟨x, o, none⟩ := fun o => by simp only [World.cell?, hx']
    exact ⟨x, e, hn, by rw [ownS_same (k.block b hb hSb)]; exact ho, cs, t, hx'.trans hx, fun i y hy => ⟨(cc _).trans (hc i y hy).1, (cc _).trans (hc i y hy).2⟩⟩
theorem FA.own {p : Pl} {m : Value} {lv : Int} {v : Value} {L : List Sp} {a : Option Addr} {c : Nat} {M : List Sp} {iv : Int} {X X' : World} {B : Nat} {row : Option Nat} (h : FA p m lv v L a c M iv X) (g : X.grownBy X' row) (hr : Rec B X row) : FA p m lv v L a c M iv X' :=
  ⟨bxOwn h.bm g hr, bxOwn h.bl g hr, bxOwn h.br g hr, bxOwn h.bs g hr, bxOwn h.bu g hr, bxOwn h.bd g hr, bxOwn h.bt g hr, bxOwn h.bq g hr, bxOwn h.bi g hr, h.st.own g hr, h.good, h.sep, h.rl.own g hr ⟨_, _, h.st.blk⟩, h.lsep⟩
theorem FA.grown {p : Pl} {m : Value} {lv : Int} {v : Value} {L : List Sp} {a : Option Addr} {c : Nat} {M : List Sp} {iv : Int} {X X' : World} (h : FA p m lv v L a c M iv X) (g : X.grownBy X' none) : FA p m lv v L a c M iv X' := h.own (B := 0) g (fun r e => by cases e)
/-- The count is written. -/
theorem FA.seti {p : Pl} (ok : p.Ok) {m : Value} {lv : Int} {v : Value} {L : List Sp} {a : Option Addr} {c : Nat} {M : List Sp} {iv : Int} {X : World} (h : FA p m lv v L a c M iv X) (jv : Int) : FA p m lv v L a c M jv (X.setCell ⟨p.q + 1, 0, none⟩ (.int .i64 jv)) ∧ Kp (fun g => g = p.q + 1) X (X.setCell ⟨p.q + 1, 0, none⟩ (.int .i64 jv)) := by
  have k : Kp (fun g => g = p.q + 1) X (X.setCell ⟨p.q + 1, 0, none⟩ (.int .i64 jv)) := (Kp.refl _ X).set _ _ _ (fun _ => rfl)
  obtain ⟨h1, h2, h3, h4, h5⟩ := ok
  have sb : ∀ g, g = p.b ∨ v.ownBlock = some g → g ≠ p.q + 1 := fun g hg e => h.sep g hg (by unfold Pl.Bx; omega)
  exact ⟨⟨bxKp h.bm k (by omega), bxKp h.bl k (by omega), bxKp h.br k (by omega), bxKp h.bs k (by omega), bxKp h.bu k (by omega), bxKp h.bd k (by omega), bxKp h.bt k (by omega), bxKp h.bq k (by omega), Boxed.set _ h.bi, h.st.kpt k (sb _ (.inl rfl)) (fun g hg => sb g (.inr hg)), h.good, h.sep, h.rl.kpt k h.blt (sb _ (.inl rfl)) (fun g e hM e2 => (h.lsep g e hM).1 (by unfold Pl.Bx; omega)), h.lsep⟩, k⟩
/-- The set has changed. -/
theorem FA.chg {p : Pl} {m : Value} {lv : Int} {v v' : Value} {L L' : List Sp} {a : Option Addr} {c : Nat} {M : List Sp} {iv : Int} {X X' : World} (h : FA p m lv v L a c M iv X) (k : Kp (fun g => g = p.b ∨ v.ownBlock = some g) X X') (s : SetAt X' p.b 0 v' L') (ho : v'.ownBlock = v.ownBlock ∨ Fresh X v') (hg : Good (-9223372036854775808) 9223372036854775807 L') : FA p m lv v' L' a c M iv X' := by
  have nb : ∀ {x : Nat}, p.Bx x → ¬ (x = p.b ∨ v.ownBlock = some x) := fun {x} hx hh => h.sep x hh hx
  have nx : ∀ {x : Nat} {t : TypeId} {u : Value}, Boxed X x t u → p.Bx x → Boxed X' x t u := fun hb hx => bxKp hb k (nb hx)
  have bl : ∀ x, p.Bx x → x < X.heap.size := fun x hx => by
    rcases hx with e | e | e | e | e | e | e | e | e
    · rw [e]; exact h.bm.lt
    · rw [e]; exact h.bl.lt
    · rw [e]; exact h.br.lt
    · rw [e]; exact h.bs.lt
    · rw [e]; exact h.bu.lt
    · rw [e]; exact h.bd.lt
    · rw [e]; exact h.bt.lt
    · rw [e]; exact h.bq.lt
    · rw [e]; exact h.bi.lt
  refine ⟨nx h.bm (by unfold Pl.Bx; simp), nx h.bl (by unfold Pl.Bx; simp), nx h.br (by unfold Pl.Bx; simp), nx h.bs (by unfold Pl.Bx; simp), nx h.bu (by unfold Pl.Bx; simp), nx h.bd (by unfold Pl.Bx; simp), nx h.bt (by unfold Pl.Bx; simp), nx h.bq (by unfold Pl.Bx; simp), nx h.bi (by unfold Pl.Bx; simp), s, hg, fun g hh hx => ?_, ?_, h.lsep⟩
  · rcases hh with e | e
    · exact h.sep g (.inl e) hx
    · rcases ho with e2 | e2
      · exact h.sep g (.inr (by rw [← e2]; exact e)) hx
      · have := e2 g e; have := bl g hx; omega
  · by_cases hM : M = []
    · exact ⟨h.rl.cap, .inl hM⟩
    · obtain ⟨x, e, hn, hoo, cs, t, hx, hc⟩ := h.rl.at_.resolve_left hM
      have hne : ¬ (x = p.b ∨ v.ownBlock = some x) := fun hh => by
        rcases hh with e2 | e2
        · exact (h.lsep x e hM).2 e2
        · exact hoo (by rw [h.st.ownS]; exact e2)
      have hx' : X'.heap[x]? = X.heap[x]? := k.block x (Array.getElem?_eq_some_iff.1 hx).1 hne
      have cc : ∀ o, X'.cell? ⟨x, o, none⟩ = X.cell? ⟨x, o, none⟩ := fun o => by simp only [World.cell?, hx']
      refine ⟨h.rl.cap, .inr ⟨x, e, hn, fun e2 => ?_, cs, t, hx'.trans hx, fun i y hy => ⟨(cc _).trans (hc i y hy).1, (cc _).trans (hc i y hy).2⟩⟩⟩
      rw [s.ownS] at e2
      rcases ho with e3 | e3
      · exact hne (.inr (by rw [← e3]; exact e2))
      · have := e3 x e2; have := (Array.getElem?_eq_some_iff.1 hx).1; omega
end Go.Proofs.Ytbcmeaebjngapaa
