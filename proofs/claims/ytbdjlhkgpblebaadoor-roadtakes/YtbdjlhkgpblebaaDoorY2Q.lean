/- Road: Take, its beginning, its middle, its end. -/
import Derived.Test.YtbdjlhkgpblebaaDoorY2P
namespace Go.Proofs.YtbdjlhkgpblebaaDoor
open Go.RowKit Go.Shelf Go.Maps
set_option linter.unusedVariables false
set_option linter.unusedSimpArgs false
set_option maxRecDepth 100000
set_option maxHeartbeats 1000000

def clF (L : List Fl) : List Value := (L.map fun f => f.cs.toList).flatten
theorem clF_len (L : List Fl) : (clF L).length = L.length * 5 := by
  induction L with
  | nil => rfl
  | cons g L ih => simp [clF, Fl.cs] at ih ⊢; omega
theorem clF_app (a b : List Fl) : clF (a ++ b) = clF a ++ clF b := by simp [clF]
theorem clF_get : ∀ (L : List Fl) (k : Nat) (g : Fl) (j : Nat) (v : Value), L[k]? = some g → g.cs[j]? = some v → (clF L)[k * 5 + j]? = some v
  | [], k, g, j, v, h, _ => by simp at h
  | x :: L, 0, g, j, v, h, hv => by
    simp at h; subst h
    have hj := (Array.getElem?_eq_some_iff.1 hv).1
    rw [show clF (x :: L) = x.cs.toList ++ clF L by simp [clF], Nat.zero_mul, Nat.zero_add, List.getElem?_append_left (by simpa using hj)]
    simpa using hv
  | x :: L, k + 1, g, j, v, h, hv => by
    have h5 : x.cs.toList.length = 5 := rfl
    rw [show clF (x :: L) = x.cs.toList ++ clF L by simp [clF], List.getElem?_append_right (by omega), show (k + 1) * 5 + j - x.cs.toList.length = k * 5 + j by omega]
    exact clF_get L k g j v (by simpa using h) hv
/-- One more that is told. -/
theorem app_fl {b : Nat} {W : World} {v : Value} {L : List Fl} {n : Nat} (hn : L.length = n) (h : W.ownsRow b 35 5 v n (clF L)) (hb : b ≤ W.heap.size) (hl : n ≤ 100000) (f : Fl) (g0 sc : Nat) (hc : ∀ j v, f.cs[j]? = some v → W.cell? ⟨g0, j, none⟩ = some v) (t : TypeId) :
    ∃ a' c' W', (Builtin.append_ #[28, 28] t #[v, .slice (some ⟨g0, 0, none⟩) 1 sc]).run Tryd.prog W = .ok (.slice a' (n + 1) c') W' ∧ W'.ownsRow b 35 5 (.slice a' (n + 1) c') (n + 1) (clF (L ++ [f])) ∧ W.grownBy W' v.ownBlock ∧ ((Value.slice a' (n + 1) c').ownBlock = v.ownBlock ∨ (Value.slice a' (n + 1) c').ownBlock = some W.heap.size) := by
  obtain ⟨i, hi, hz0, hz1, hz2⟩ := info_parts Tryd.infoFl
  obtain ⟨v', W', hrun, ho, hgr, hnil, hob⟩ := run_append_own_at (P := Tryd.prog) W b 28 t 35 i _ 5 56 Tryd.underlying28 hi hz0 hz1 hz2 rfl (by decide) v n _ h ⟨g0, 0, none⟩ 1 sc f.cs.toList rfl (fun j u hj => by
      rw [Addr.add_lit, Nat.zero_add]
      exact hc j u (by simpa using hj)) (Fl.one f) (by unfold maxLen; omega) (by omega) hb
  have e : clF L ++ f.cs.toList = clF (L ++ [f]) := by rw [clF_app]; simp [clF]
  rw [e] at ho
  have sh : ∃ a' c', v' = .slice a' (n + 1) c' := by
    rcases ho.2 with ⟨e1, e2⟩ | ⟨g', c', cur, e1, -⟩
    · omega
    · exact ⟨_, _, e1⟩
  obtain ⟨a', c', rfl⟩ := sh
  exact ⟨a', c', W', hrun, ho, hgr, hob⟩

section
variable {b : Nat} {w : World} {S : Nat → Prop} {n0 n1 r W mb : Nat} {vl vf : Value} {Sw : Nat → Prop} {c : Nat} {T : List Tm} {A : List (Gm × Nat)} {LY : List Gm} {FR : List Nat} {now sp nx : Nat} {D : List Nat} {da : Option Addr} {dc k : Nat} {wr : World} {aa : Option Addr} {ac : Nat} {R : Rs}

/-- What is due, by places. -/
def dueP (T : List Tm) (t : Nat) : List Nat := (dueT T t).map Prod.fst
theorem dueP_mem {b : Nat} {w : World} (h : RP b w r W mb vl vf Sw c T A LY FR 0 now sp nx) (hT : T.Perm (tmA A)) {q : Gm × Nat} (hq : q ∈ A) (t : Nat) : q.2 ∈ dueP T t ↔ q.1.at_ ≤ t := by
  unfold dueP dueT
  constructor
  · intro hm
    obtain ⟨x, hx, e⟩ := List.mem_map.1 hm
    obtain ⟨h1, h2⟩ := List.mem_filter.1 hx
    have := hT.mem_iff.1 h1
    unfold tmA at this
    obtain ⟨y, hy, rfl⟩ := List.mem_map.1 this
    have := h.pl2 y hy q hq e
    subst this
    simpa using h2
  · intro hle
    refine List.mem_map.2 ⟨(q.2, q.1.at_), List.mem_filter.2 ⟨hT.mem_iff.2 (List.mem_map.2 ⟨q, hq, rfl⟩), by simpa using hle⟩, rfl⟩
theorem left_late {b : Nat} {w : World} (h : RP b w r W mb vl vf Sw c T A LY FR 0 now sp nx) (hT : T.Perm (tmA A)) (t : Nat) : leftA A (dueP T t) = A.filter fun q => decide (t < q.1.at_) := by
  unfold leftA
  apply List.filter_congr
  intro q hq
  have := dueP_mem h hT hq t
  by_cases c : q.1.at_ ≤ t
  · rw [decide_eq_true (this.2 c), decide_eq_false (by omega)]; rfl
  · have n := fun e => c (this.1 e)
    rw [decide_eq_false n, decide_eq_true (by omega)]; rfl
theorem dueP_nodup {b : Nat} {w : World} (h : RP b w r W mb vl vf Sw c T A LY FR 0 now sp nx) (hT : T.Perm (tmA A)) (t : Nat) : (dueP T t).Nodup ∧ ∀ x ∈ dueP T t, x ∈ A.map Prod.snd := by
  have nd := h.nd
  rw [List.nodup_append] at nd
  have e : (T.map Prod.fst).Perm (A.map Prod.snd) := by
    have := hT.map Prod.fst
    unfold tmA at this
    rw [List.map_map] at this
    exact this
  refine ⟨?_, fun x hx => ?_⟩
  · unfold dueP dueT
    exact (e.nodup_iff.2 nd.1).sublist (List.filter_sublist.map Prod.fst)
  · unfold dueP dueT at hx
    obtain ⟨y, hy, rfl⟩ := List.mem_map.1 hx
    exact e.mem_iff.1 (List.mem_map.2 ⟨y, (List.mem_filter.1 hy).1, rfl⟩)
theorem idT_plV (T : List Tm) : idT T = plV (T.map Prod.fst) := by simp [idT, plV, List.map_map, Function.comp_def]

theorem take_begin {w1 : World} (h1 : RP b w1 r W mb vl vf Sw c T A LY FR 0 now sp nx) (hS : ∀ g, Sw g ∨ OW r mb vl vf g → S g) (hlt : ∀ g, S g → g < w1.heap.size) (st : Kp S w w1) (ht : Tb w1) (X : World) (gX : w1.grownBy X none) (eX : X.heap.size = w1.heap.size) :
    Calls Tryd.prog 24 #[ptr W, .int .i64 (now : Int)] X fun e W2 => ∃ a m c', e = .returned (.slice a m c') ∧ W2.cell? ⟨r, 0, none⟩ = some (.int .i64 (now : Int)) ∧ W2.cell? ⟨r, 3, none⟩ = some (ptr W) ∧ Hid ((dueP T now).length = m ∧ TkI b w S w1.heap.size W2.heap.size r W mb vl Sw now (lateT T now) A now sp nx (dueP T now) a c' 0 W2 none 0) := by
  have hadv : adv c (now : Int) = now := by unfold adv; have := h1.ck; have := h1.n50; omega
  have hx := h1.grown gX
  have hc := wl_adv b X Sw W c T hx.wl (ht.grown gX) (now : Int)
  rw [hadv] at hc
  refine hc.mono ?_
  rintro e W2 ⟨a, m, c', rfl, hm, ro, wl2, k2⟩
  have keep : ∀ i, i < w1.heap.size → ¬ Sw i → W2.heap[i]? = X.heap[i]? := fun i h2 h3 => k2.block i (by omega) h3
  have ns := hx.nes
  have b2 : Blk W2 r (rdc now sp nx W mb vl vf) 51 := (keep r h1.blk.lt h1.ne1).trans hx.blk
  have el : (dueP T now).length = m := by unfold dueP; rw [List.length_map]; exact hm
  rw [idT_plV] at ro
  have rp2 : RP b W2 r W mb vl vf Sw now (lateT T now) A LY FR 0 now sp nx := { hx with blk := b2, wl := wl2, mp := hx.mp.kept (keep mb h1.mp.lt h1.ne2), ly := rows_kept hx.ly (fun i e => keep i (h1.ly.lt i e).2 (h1.ne3 i e)), fr := rows_kept hx.fr (fun i e => keep i (h1.fr.lt i e).2 (h1.ne4 i e)), ck := Nat.le_refl _ }
  have gs := gX.size
  have ks := k2.size
  refine ⟨a, m, c', rfl, b2.cell 0 _ rfl, b2.cell 3 _ rfl, el, ⟨⟨vf, LY, FR, [], ?_, ?_, rfl, World.ownsRow_nil _ _ _ _, fun g e => ?_⟩, ?_, fun g e => ?_, ?_, ⟨st.size, by omega, Nat.le_refl _⟩, ⟨hS r (.inr (.inl rfl)), h1.blk.lt, hS mb (.inr (.inr (.inl rfl))), h1.mp.lt, fun g hg => ⟨hS g (.inl hg), (h1.wl.lt g hg).2⟩, fun g e => ⟨hS g (.inr (.inr (.inr (.inl e)))), (h1.ly.lt g e).2⟩⟩⟩⟩
  · rw [List.take_zero, leftA_nil]; exact rp2
  · rw [List.take_zero, leftA_nil]; exact List.Perm.refl _
  · exact .inl ⟨hS g (.inr (.inr (.inr (.inr e)))), (h1.fr.lt g e).2⟩
  · rw [el, ← eX]; exact ro
  · rw [el] at e; exact (ro.lt g e).2
  · refine ⟨k2.os.trans (gX.os.trans st.os), k2.tape.trans (gX.tape.trans st.tape), k2.output.trans (gX.output.trans st.output), by have := st.size; omega, fun i hi hn => ?_⟩
    have := st.size
    exact (keep i (by omega) (fun e => hn (hS i (.inl e)))).trans ((gX.block i (by omega) (by simp)).trans (st.block i hi hn))

/-- What Take's first loop leaves. -/
def MidP (b : Nat) (w : World) (S : Nat → Prop) (n1 r : Nat) (R' : Rs) (due : List Gm) (aa : Option Addr) (k ac : Nat) (wr : World) : Prop :=
  ∃ arr S2, arr.length = k ∧ arr.Perm due ∧ wr.ownsRow n1 56 5 (.slice aa k ac) k (clG arr) ∧ RI b wr S2 r R' ∧ St w wr S S2 ∧ w.heap.size ≤ n1 ∧ n1 ≤ wr.heap.size ∧ ∀ g, (Value.slice aa k ac).ownBlock = some g → ¬ S2 g
theorem take_mid {w1 : World} (h1 : RP b w1 r W mb vl vf Sw c T A LY FR 0 R.now R.sp R.nx) (hT : T.Perm (tmA A)) (hB : A.map Prod.fst = R.B) (hSl : ∀ g, S g → b ≤ g ∧ g < w.heap.size)
    (h : TkI b w S n0 n1 r W mb vl Sw R.now (lateT T R.now) A R.now R.sp R.nx (dueP T R.now) da dc k wr aa ac) (hk : k = (dueP T R.now).length) :
    MidP b w S n1 r { R with B := lateB R.B R.now } (dueB R.B R.now) aa k ac wr := by
  obtain ⟨vf', LY', FR', arr, rp, pm, al, ro, vfn⟩ := h.ex
  rw [hk, List.take_length, left_late h1 hT] at rp pm
  have eL : (A.filter fun q => decide (R.now < q.1.at_)).map Prod.fst = lateB R.B R.now := by
    unfold lateB
    rw [← hB, List.filter_map]
    rfl
  have eD : (A.filter fun q => !decide (R.now < q.1.at_)).map Prod.fst = dueB R.B R.now := by
    unfold dueB
    rw [← hB, List.filter_map]
    rfl
  have pm2 : arr.Perm (dueB R.B R.now) := by
    have q : ((A.filter fun q => !decide (R.now < q.1.at_)).map Prod.fst ++ (A.filter fun q => decide (R.now < q.1.at_)).map Prod.fst).Perm (A.map Prod.fst) := by
      rw [← List.map_append]
      refine List.Perm.map _ ?_
      have := List.filter_append_perm (fun q : Gm × Nat => decide (R.now < q.1.at_)) A
      exact (List.perm_append_comm).trans this
    rw [eD] at q
    exact (List.perm_append_right_iff _).1 (pm.trans q.symm)
  have hsz := h.sz
  refine ⟨arr, fun g => S g ∨ (Sw g ∨ OW r mb vl vf' g), al, pm2, ro, ⟨⟨W, mb, vl, vf', Sw, R.now, lateT T R.now, _, LY', FR', rp, ?_, eL, fun g hg => .inr hg⟩, fun g hg => ?_⟩, ⟨h.kp, fun g hg => .inl hg, fun g hg => ?_⟩, by omega, by omega, fun g e hs => ?_⟩
  · unfold lateT
    refine (hT.filter _).trans ?_
    unfold tmA
    rw [List.filter_map]
    exact List.Perm.refl _
  · rcases hg with hg | hg
    · have := hSl g hg; exact ⟨this.1, by omega⟩
    · exact rp.olt g hg
  · rcases hg with hg | hg | rfl | rfl | e | e
    · exact .inl hg
    · exact .inl (h.own.2.2.2.2.1 g hg).1
    · exact .inl h.own.1
    · exact .inl h.own.2.2.1
    · exact .inl (h.own.2.2.2.2.2 g e).1
    · rcases vfn g e with q | q
      · exact .inl q.1
      · exact .inr (by omega)
  · have lo := (ro.lt g e).1
    obtain ⟨cur, hb⟩ := row_blk ro e
    rcases hs with hs | hs | rfl | rfl | e2 | e2
    · have := (hSl g hs).2; omega
    · have := (h.own.2.2.2.2.1 g hs).2; omega
    · have := h.own.2.1; omega
    · have := h.own.2.2.2.1; omega
    · have := (h.own.2.2.2.2.2 g e2).2; omega
    · obtain ⟨cur2, hb2⟩ := row_blk rp.fr e2
      exact blk_ne hb hb2 (by decide) rfl
end

/-- While those that have arrived are told: i of them are. -/
structure T2I (b : Nat) (w : World) (S S2 : Nat → Prop) (r : Nat) (R2 : Rs) (n1 n2 : Nat) (P : List Gm) (aa : Option Addr) (ac i : Nat) (wr : World) (la : Option Addr) (lc : Nat) : Prop where
  ex : ∃ L : List Fl, L.map Fl.g = P.take i ∧ L.length = i ∧ wr.ownsRow n2 35 5 (.slice la i lc) i (clF L) ∧ ∀ f ∈ L, FlOk n2 wr f
  ri : RI b wr S2 r R2
  row : wr.ownsRow n1 56 5 (.slice aa P.length ac) P.length (clG P)
  st : St w wr S S2
  sz : w.heap.size ≤ n2 ∧ n2 ≤ wr.heap.size
  s2 : ∀ g, S2 g → g < n2
  rlt : ∀ g, (Value.slice aa P.length ac).ownBlock = some g → g < n2
section
variable {b : Nat} {w : World} {S S2 : Nat → Prop} {r : Nat} {R2 : Rs} {n1 n2 : Nat} {P : List Gm} {aa : Option Addr} {ac i : Nat} {wr : World} {la : Option Addr} {lc : Nat}
theorem T2I.grown {X : World} (h : T2I b w S S2 r R2 n1 n2 P aa ac i wr la lc) (g : wr.grownBy X none) : T2I b w S S2 r R2 n1 n2 P aa ac i X la lc := by
  obtain ⟨L, h1, h2, h3, h4⟩ := h.ex
  exact ⟨⟨L, h1, h2, rows_kept h3 (fun j e => g.block j (h3.lt j e).2 (by simp)), fun f hf => (h4 f hf).grown g⟩, h.ri.grown g, rows_kept h.row (fun j e => g.block j (h.row.lt j e).2 (by simp)), h.st.tr ⟨Kp.grown g _, fun _ h => h, fun _ h => .inl h⟩, ⟨h.sz.1, by have := g.size; have := h.sz; omega⟩, h.s2, h.rlt⟩
theorem T2I.round {X : World} (h : T2I b w S S2 r R2 n1 n2 P aa ac i wr la lc) (g : Gm) (hg : P[i]? = some g) (hok : g.Ok) (gX : wr.grownBy X none) (hl : P.length ≤ 4096) :
    Calls Tryd.prog 26 #[.agg #[.int .i64 (g.id : Int), .int .i64 g.to, .int .i64 (g.at_ : Int), .string (strOfNums g.tx), .int .i64 g.mark]] X fun e W3 => ∃ f : Fl, e = .returned (.agg #[.int .i64 (f.g.id : Int), .int .i64 f.g.to, .int .i64 (f.g.at_ : Int), .slice (some ⟨f.db, 0, none⟩) f.g.tx.length f.cap, .int .i64 f.g.mark]) ∧
      Hid (∃ a' c' W4, (Builtin.append_ #[28, 28] 28 #[.slice la i lc, .slice (some ⟨W3.heap.size, 0, none⟩) 1 1]).run Tryd.prog (W3.alloc (.cells #[.int .i64 (f.g.id : Int), .int .i64 f.g.to, .int .i64 (f.g.at_ : Int), .slice (some ⟨f.db, 0, none⟩) f.g.tx.length f.cap, .int .i64 f.g.mark] 35)) = .ok (.slice a' (i + 1) c') W4 ∧
        T2I b w S S2 r R2 n1 n2 P aa ac (i + 1) W4 a' c') := by
  refine (flight_any g hok X).mono ?_
  rintro e W3 ⟨f, hf, rfl, g3, fok⟩
  refine ⟨f, rfl, ?_⟩
  have ilt := (List.getElem?_eq_some_iff.1 hg).1
  have h3 := (h.grown gX).grown g3
  have gA : W3.grownBy (W3.alloc (.cells f.cs 35)) none := World.grownBy_alloc W3 _ none
  have szA := alloc_size W3 (.cells f.cs 35)
  have h4 := h3.grown gA
  obtain ⟨L, l1, l2, l3, l4⟩ := h4.ex
  obtain ⟨a', c', W4, hrun, ro5, gr5, ob5⟩ := app_fl l2 l3 h4.sz.2 (by omega) f W3.heap.size 1 (fun j v hj => by
    unfold World.cell?
    rw [heap_alloc_new]
    exact hj) 28
  refine ⟨a', c', W4, hrun, ?_⟩
  have keep : ∀ j, j < (W3.alloc (.cells f.cs 35)).heap.size → (Value.slice la i lc).ownBlock ≠ some j → W4.heap[j]? = (W3.alloc (.cells f.cs 35)).heap[j]? := fun j h1 h2 => gr5.block j h1 (fun e => h2 e.symm)
  have lo : ∀ j, (Value.slice la i lc).ownBlock = some j → n2 ≤ j := fun j e => (l3.lt j e).1
  have f4 : FlOk n2 (W3.alloc (.cells f.cs 35)) f := (fok.mono (by have := gX.size; have := h.sz; omega)).grown gA
  have nf : ∀ f : Fl, FlOk n2 (W3.alloc (.cells f.cs 35)) f → True := fun _ _ => trivial
  have far : ∀ f' : Fl, FlOk n2 (W3.alloc (.cells f.cs 35)) f' → (Value.slice la i lc).ownBlock ≠ some f'.db := fun f' hf' e => by
    obtain ⟨cur, hb⟩ := row_blk l3 e
    obtain ⟨cs, hc, -⟩ := hf'.blk
    unfold Blk at hb
    rw [hc] at hb
    injection hb with hb
    injection hb with q1 q2 q3
    exact absurd q2 (by decide)
  have kS : Kp (fun _ => False) (W3.alloc (.cells f.cs 35)) W4 ∨ True := .inr trivial
  refine ⟨⟨L ++ [f], ?_, by rw [List.length_append, l2]; rfl, ro5, fun f' hf' => ?_⟩, ?_, ?_, ?_, ⟨h4.sz.1, Nat.le_trans h4.sz.2 gr5.size⟩, h.s2, h.rlt⟩
  · rw [List.map_append, l1, List.take_add_one, hg, List.map_cons, List.map_nil, hf]; rfl
  · rcases List.mem_append.1 hf' with hm | hm
    · exact (l4 f' hm).kept gr5.size (keep _ (l4 f' hm).lt (far f' (l4 f' hm)))
    · simp only [List.mem_cons, List.not_mem_nil, or_false] at hm
      subst hm
      exact f4.kept gr5.size (keep _ f4.lt (far f' f4))
  · exact h4.ri.other (S2 := fun j => (Value.slice la i lc).ownBlock = some j) ⟨gr5.os, gr5.tape, gr5.output, gr5.size, fun j h1 h2 => keep j h1 (fun e => h2 e)⟩ (fun j hj e => by have := h.s2 j hj; have := lo j e; omega)
  · exact rows_kept h4.row (fun j e => keep j (h4.row.lt j e).2 (fun e2 => by have := h.rlt j e; have := lo j e2; omega))
  · refine ⟨⟨gr5.os.trans h4.st.kp.os, gr5.tape.trans h4.st.kp.tape, gr5.output.trans h4.st.kp.output, Nat.le_trans h4.st.kp.size gr5.size, fun j h1 h2 => ?_⟩, h4.st.up, h4.st.dn⟩
    have := h.sz.1
    have := h4.st.kp.size
    exact (keep j (by omega) (fun e => by have := lo j e; omega)).trans (h4.st.kp.block j h1 h2)
end
/-- What Take leaves. -/
def TakeP (b : Nat) (w : World) (S : Nat → Prop) (r : Nat) (R : Rs) (t : Int) (e : Ending) (w' : World) : Prop :=
  ∃ a m c' n2 S2 L, e = .returned (.slice a m c') ∧ L.length = m ∧ w.heap.size ≤ n2 ∧ n2 ≤ w'.heap.size ∧ w'.ownsRow n2 35 5 (.slice a m c') m (clF L) ∧ (∀ f ∈ L, FlOk n2 w' f) ∧ Told R.B (adv R.now t) (L.map Fl.g) ∧ RI b w' S2 r (takeS R t) ∧ St w w' S S2 ∧ (∀ g, S2 g → g < n2)
end Go.Proofs.YtbdjlhkgpblebaaDoor
