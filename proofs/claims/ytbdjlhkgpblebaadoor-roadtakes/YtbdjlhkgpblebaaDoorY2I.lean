/- Road: clear. -/
import Derived.Test.YtbdjlhkgpblebaaDoorY2H
import Derived.Laws.Rows
namespace Go.Proofs.YtbdjlhkgpblebaaDoor
open Go.RowKit Go.Shelf Go.Maps
set_option linter.unusedVariables false
set_option linter.unusedSimpArgs false
set_option maxRecDepth 100000
set_option maxHeartbeats 1000000
section
variable {b : Nat} {w w' : World} {r W mb : Nat} {vl vf : Value} {Sw : Nat → Prop} {c : Nat} {T : List Tm} {A : List (Gm × Nat)} {LY : List Gm} {FR : List Nat} {k now sp nx : Nat}

theorem places_nodup (h : RP b w r W mb vl vf Sw c T A LY FR k now sp nx) : ((A.map fun p => (p.1.id, p.2)).map Prod.fst).Nodup := by
  rw [List.map_map]
  unfold List.Nodup
  rw [List.pairwise_map]
  exact h.asc.imp (fun hab => by simp only [Function.comp_def]; omega)
theorem rest_map (h : RP b w r W mb vl vf Sw c T A LY FR k now sp nx) {q : Gm × Nat} (hq : q ∈ A) : sansQ (A.map fun p => (p.1.id, p.2)) (q.1.id, q.2) = (rest A q.2).map fun p => (p.1.id, p.2) := by
  unfold sansQ rest
  rw [List.filter_map]
  congr 1
  apply List.filter_congr
  intro x hx
  simp only [Function.comp_def]
  by_cases e : x.1.id = q.1.id
  · have := h.ids2 x hx q hq e
    subst this; simp
  · have : x.2 ≠ q.2 := fun e2 => e (by rw [h.pl2 x hx q hq e2])
    simp [e, this]
theorem rest_len {A : List (Gm × Nat)} {p : Nat} (hnd : (A.map Prod.snd).Nodup) (h : p ∈ A.map Prod.snd) : (rest A p).length + 1 = A.length := by
  induction A with
  | nil => simp at h
  | cons a A ih =>
    rw [List.map_cons, List.nodup_cons] at hnd
    unfold rest
    by_cases e : a.2 = p
    · have : ∀ x ∈ A, x.2 ≠ p := fun x hx e2 => hnd.1 (by rw [e, ← e2]; exact List.mem_map.2 ⟨x, hx, rfl⟩)
      rw [List.filter_cons, if_neg (by simp [e]), List.filter_eq_self.2 (fun x hx => by simpa using this x hx)]
      rfl
    · rw [List.filter_cons, if_pos (by simpa using e)]
      have h2 : p ∈ A.map Prod.snd := by
        rw [List.map_cons] at h
        rcases List.mem_cons.1 h with h | h
        · exact absurd h.symm e
        · exact h
      have := ih hnd.2 h2
      unfold rest at this
      simp only [List.length_cons]; omega

/-- What clear leaves behind is a road. -/
theorem clear_fin (h : RP b w r W mb vl vf Sw c T A LY FR 0 now sp nx) {q : Gm × Nat} (hq : q ∈ A) {X : World} {vf' : Value} (sz : w.heap.size ≤ X.heap.size)
    (hr : Blk X r (rdc now sp nx W mb vl vf') 51) (hw : ∀ g, Sw g → X.heap[g]? = w.heap[g]?) (hm : Mq X mb (sansQ (A.map fun p => (p.1.id, p.2)) (q.1.id, q.2)))
    (hl : X.ownsRow b 56 5 vl (LY.set q.2 zGm).length (clG (LY.set q.2 zGm))) (hf : X.ownsRow b 3 1 vf' (FR ++ [q.2]).length (plV (FR ++ [q.2]))) (hn : ∀ g, vf'.ownBlock = some g → ¬ Sw g) :
    RP b X r W mb vl vf' Sw c T (rest A q.2) (LY.set q.2 zGm) (FR ++ [q.2]) 0 now sp nx := by
  have sub : ∀ x ∈ rest A q.2, x ∈ A ∧ x.2 ≠ q.2 := fun x hx => by
    have := List.mem_filter.1 hx
    exact ⟨this.1, by simpa using this.2⟩
  have nd := h.nd
  rw [List.nodup_append] at nd
  have lenr := rest_len nd.1 (List.mem_map.2 ⟨q, hq, rfl⟩)
  refine { h with blk := hr, wl := h.wl.kept sz hw, mp := ?_, ly := hl, fr := hf, ids := fun x hx => h.ids x (sub x hx).1, asc := h.asc.filter _, at_ := fun x hx => ?_, nd := ?_, lt := fun x hx => ?_, len := ?_, l4 := ?_, gm := fun x hx => h.gm x (sub x hx).1, ne4 := hn }
  · rw [← rest_map h hq]; exact hm
  · rw [List.getElem?_set_ne (Ne.symm (sub x hx).2)]; exact h.at_ x (sub x hx).1
  · rw [← List.append_assoc, List.nodup_append, List.nodup_append]
    refine ⟨⟨nd.1.sublist ((List.filter_sublist).map Prod.snd), nd.2.1, fun x hx y hy => nd.2.2 x (((List.filter_sublist).map Prod.snd).subset hx) y hy⟩, by simp, fun x hx y hy => ?_⟩
    simp only [List.mem_cons, List.not_mem_nil, or_false] at hy
    subst hy
    rcases List.mem_append.1 hx with hx | hx
    · obtain ⟨z, hz, rfl⟩ := List.mem_map.1 hx
      exact (sub z hz).2
    · exact fun e => nd.2.2 q.2 (List.mem_map.2 ⟨q, hq, rfl⟩) x hx e.symm
  · rw [List.length_set]
    rcases List.mem_append.1 hx with hx | hx
    · exact h.lt x hx
    · simp only [List.mem_cons, List.not_mem_nil, or_false] at hx
      subst hx; exact (h.places q hq).1
  · have := h.len
    rw [List.length_set, List.length_append, List.length_cons, List.length_nil]; omega
  · rw [List.length_set]; exact h.l4

theorem clear_any (h : RP b w r W mb vl vf Sw c T A LY FR 0 now sp nx) (g : Gm) (p : Nat) (hq : (g, p) ∈ A) (hnx : nx ≤ 4611686018427387904) :
    Calls Tryd.prog 22 #[ptr r, .int .i64 (p : Int)] w fun e w' => e = .returned (.agg g.cs) ∧ ClearP b w r W mb vl vf Sw c T A now sp nx p w' := by
  have hp := h.at_ _ hq
  simp only at hp
  obtain ⟨gl, cl, hvl, lcl, c63, bgl, gllt, X, Y, bl, hXl, SET⟩ := ly_mid h.ly hp
  have plt := (List.getElem?_eq_some_iff.1 hp).1
  have ns := h.nes
  have cs := h.cells
  have rlt := h.blk.lt
  have mlt := h.mp.lt
  -- the worlds
  obtain ⟨W2, hW2⟩ : ∃ W2, W2 = (w.alloc (.cells zGm.cs 56)).alloc (.cells g.cs 56) := ⟨_, rfl⟩
  obtain ⟨bR, bL, g2⟩ := Blk.two w zGm.cs g.cs 56 56
  rw [← hW2] at bR bL g2
  have sz2 : W2.heap.size = w.heap.size + 2 := by rw [hW2, alloc_size, alloc_size]
  obtain ⟨W3, hW3⟩ : ∃ W3, W3 = W2.setRow gl (X ++ (zGm.cs.toList ++ Y)).toArray := ⟨_, rfl⟩
  have bl2 := bl.grown g2
  have bl3 : Blk W3 gl (X ++ (zGm.cs.toList ++ Y)).toArray 56 := by rw [hW3]; exact bl2.row _
  have o3 : ∀ i, i ≠ gl → W3.heap[i]? = W2.heap[i]? := fun i hi => by rw [hW3]; exact setRow_other W2 gl i _ hi
  have sz3 : W3.heap.size = w.heap.size + 2 := by rw [hW3, ← sz2]; simp
  have keep3 : ∀ i, i < w.heap.size → i ≠ gl → W3.heap[i]? = w.heap[i]? := fun i h1 h2 => (o3 i h2).trans (g2.block i h1 (by simp))
  have hrl : r ≠ gl := fun e => ns.2.1 (by rw [hvl, e]; rfl)
  have hml : mb ≠ gl := fun e => ns.2.2.2.1 (by rw [hvl, e]; rfl)
  have hfl : ∀ i, vf.ownBlock = some i → i ≠ gl := fun i e e2 => ns.2.2.2.2.2 gl (by rw [hvl]; rfl) (by rw [e, e2])
  have fr3 : W3.ownsRow b 3 1 vf FR.length (plV FR) := rows_kept h.fr (fun i e => keep3 i (h.fr.lt i e).2 (hfl i e))
  have g4 : W3.grownBy (W3.alloc (.cells #[.int .i64 (p : Int)] 3)) none := World.grownBy_alloc W3 _ none
  have fr4 := rows_kept fr3 (w' := W3.alloc (.cells #[.int .i64 (p : Int)] 3)) (fun i e => g4.block i (fr3.lt i e).2 (by simp))
  have sz4 := alloc_size W3 (.cells #[.int .i64 (p : Int)] 3)
  obtain ⟨va, vc, W5, hrun, ro5, gr5, ob5⟩ := app_pl fr4 (by rw [sz4, sz3]; have := h.low.1; omega) (by have := h.len; have := h.l4; omega) p W3.heap.size 1 (by unfold World.cell?; rw [heap_alloc_new]; rfl) 49
  rw [sz4] at ob5
  have keep5 : ∀ i, i < W3.heap.size → vf.ownBlock ≠ some i → W5.heap[i]? = W3.heap[i]? := fun i h1 h2 => (gr5.block i (by rw [sz4]; omega) (fun e => h2 e.symm)).trans (g4.block i h1 (by simp))
  have b5 : Blk W5 r (rdc now sp nx W mb vl vf) 51 := (keep5 r (by omega) ns.2.2.1).trans ((keep3 r rlt hrl).trans h.blk)
  obtain ⟨vf', hvf'⟩ : ∃ vf', vf' = Value.slice va (FR.length + 1) vc := ⟨_, rfl⟩
  rw [← hvf'] at hrun ro5 ob5
  have vner : vf'.ownBlock ≠ some r := by
    rcases ob5 with e | e
    · rw [e]; exact ns.2.2.1
    · rw [e]; intro e2; injection e2 with e2; omega
  obtain ⟨W6, hW6⟩ : ∃ W6, W6 = W5.setCell ⟨r, 6, none⟩ vf' := ⟨_, rfl⟩
  have b6 : Blk W6 r (rdc now sp nx W mb vl vf') 51 := by rw [hW6]; exact b5.setC 6 vf'
  have o6 : ∀ i, i ≠ r → W6.heap[i]? = W5.heap[i]? := fun i hi => by rw [hW6]; exact set_heap W5 r 6 _ i hi
  have sz6 : w.heap.size + 3 ≤ W6.heap.size := by rw [hW6, set_size]; have := gr5.size; omega
  -- kept, all in all, up to W6
  have keep6 : ∀ i, i < w.heap.size → i ≠ gl → i ≠ r → vf.ownBlock ≠ some i → W6.heap[i]? = w.heap[i]? := fun i h1 h2 h3 h4 => (o6 i h3).trans ((keep5 i (by omega) h4).trans (keep3 i h1 h2))
  have mp6 : Mq W6.drew mb (A.map fun p => (p.1.id, p.2)) := h.mp.kept (keep6 mb mlt hml ns.1.symm ns.2.2.2.2.1)
  obtain ⟨W7, hdel, mp7, gr7⟩ := mp6.dropR (places_nodup h) (g.id, p) (List.mem_map.2 ⟨(g, p), hq, rfl⟩) (by have := h.ids _ hq; simp only at this ⊢; omega)
  have o7 : ∀ i, i < W6.heap.size → i ≠ mb → W7.heap[i]? = W6.heap[i]? := fun i h1 h2 => gr7.block i h1 (fun e => h2 (by injection e with e))
  have newb : ∀ i, i = w.heap.size ∨ i = w.heap.size + 1 → i ≠ gl ∧ i ≠ r ∧ i ≠ mb ∧ vf.ownBlock ≠ some i ∧ i < W3.heap.size ∧ i < W6.heap.size := fun i hi => by
    refine ⟨by omega, by omega, by omega, fun e => ?_, by omega, by omega⟩
    have := (h.fr.lt i e).2; omega
  have locK : ∀ i, i = w.heap.size ∨ i = w.heap.size + 1 → W6.heap[i]? = W2.heap[i]? := fun i hi => by
    obtain ⟨n1, n2, n3, n4, n5, n6⟩ := newb i hi
    exact (o6 i n2).trans ((keep5 i n5 n4).trans (o3 i n1))
  have bL6 : Blk W6 (w.heap.size + 1) g.cs 56 := (locK _ (.inr rfl)).trans bL
  have bL7 : Blk W7 (w.heap.size + 1) g.cs 56 := (o7 _ (newb _ (.inr rfl)).2.2.2.2.2 (newb _ (.inr rfl)).2.2.1).trans bL6
  have bR7 : Blk W7 w.heap.size zGm.cs 56 := (o7 _ (newb _ (.inl rfl)).2.2.2.2.2 (newb _ (.inl rfl)).2.2.1).trans ((locK _ (.inl rfl)).trans bR)
  have bX : Blk (W7.setRow w.heap.size g.cs) w.heap.size g.cs 56 := bR7.row g.cs
  have FIN : Hid (ClearP b w r W mb vl vf Sw c T A now sp nx p (W7.setRow w.heap.size g.cs)) := by
    have oX : ∀ i, i ≠ w.heap.size → (W7.setRow w.heap.size g.cs).heap[i]? = W7.heap[i]? := fun i hi => setRow_other W7 w.heap.size i _ hi
    have szX : W6.heap.size ≤ (W7.setRow w.heap.size g.cs).heap.size := by have := gr7.size; simp; exact this
    have keepX : ∀ i, i < w.heap.size → i ≠ gl → i ≠ r → vf.ownBlock ≠ some i → i ≠ mb → (W7.setRow w.heap.size g.cs).heap[i]? = w.heap[i]? := fun i h1 h2 h3 h4 h5 => (oX i (by omega)).trans ((o7 i (by omega) h5).trans (keep6 i h1 h2 h3 h4))
    have blX : Blk (W7.setRow w.heap.size g.cs) gl (X ++ (zGm.cs.toList ++ Y)).toArray 56 := (oX gl (by omega)).trans ((o7 gl (by omega) hml.symm).trans ((o6 gl hrl.symm).trans ((keep5 gl (by omega) (fun e => hfl gl e rfl)).trans bl3)))
    have brX : Blk (W7.setRow w.heap.size g.cs) r (rdc now sp nx W mb vl vf') 51 := (oX r (by omega)).trans ((o7 r (by omega) ns.1).trans b6)
    have vfb : ∀ i, vf'.ownBlock = some i → vf.ownBlock = some i ∨ w.heap.size + 2 < i := fun i e => by
      rcases ob5 with e2 | e2
      · exact .inl (by rw [← e2]; exact e)
      · rw [e2] at e; injection e with e; exact .inr (by omega)
    refine ⟨vf', LY.set p zGm, FR ++ [p], clear_fin h hq (q := (g, p)) (by omega) brX (fun i hi => ?_) ?_ ?_ ?_ ?_, ?_, ?_⟩
    · have hi2 := (h.wl.lt i hi).2
      exact keepX i hi2 (fun e => h.ne3 i (by rw [hvl, e]; rfl) hi) (fun e => h.ne1 (e ▸ hi)) (fun e => h.ne4 i e hi) (fun e => h.ne2 (e ▸ hi))
    · exact mp7.kept (oX mb (by omega))
    · exact SET _ zGm blX
    · refine rows_kept ro5 (fun i e => ?_)
      have i2 : i ≠ w.heap.size ∧ i ≠ mb ∧ i ≠ r ∧ i < W6.heap.size := by
        have l5 := (ro5.lt i e).2
        have l6 : W6.heap.size = W5.heap.size := by rw [hW6, set_size]
        rcases vfb i e with e2 | e2
        · have := (h.fr.lt i e2).2
          exact ⟨by omega, fun e3 => ns.2.2.2.2.1 (e3 ▸ e2), fun e3 => ns.2.2.1 (e3 ▸ e2), by omega⟩
        · exact ⟨by omega, by omega, by omega, by omega⟩
      exact (oX i i2.1).trans ((o7 i i2.2.2.2 i2.2.1).trans (o6 i i2.2.2.1))
    · intro i e hi
      rcases vfb i e with e2 | e2
      · exact h.ne4 i e2 hi
      · have := (h.wl.lt i hi).2; omega
    · refine ⟨?_, ?_, ?_, by omega, fun i hi hn => keepX i hi (fun e => hn (.inr (.inr (.inl (by rw [hvl, e]; rfl))))) (fun e => hn (.inl e)) (fun e => hn (.inr (.inr (.inr e)))) (fun e => hn (.inr (.inl e)))⟩
      · exact gr7.os.trans (by rw [show W6.drew.os = W5.os by rw [hW6]; rfl]; exact gr5.os.trans (by rw [show (W3.alloc (.cells #[.int .i64 (p : Int)] 3)).os = W2.os by rw [hW3]; rfl]; exact g2.os))
      · exact gr7.tape.trans (by rw [show W6.drew.tape = W5.tape by rw [hW6]; rfl]; exact gr5.tape.trans (by rw [show (W3.alloc (.cells #[.int .i64 (p : Int)] 3)).tape = W2.tape by rw [hW3]; rfl]; exact g2.tape))
      · exact gr7.output.trans (by rw [show W6.drew.output = W5.output by rw [hW6]; rfl]; exact gr5.output.trans (by rw [show (W3.alloc (.cells #[.int .i64 (p : Int)] 3)).output = W2.output by rw [hW3]; rfl]; exact g2.output))
    · intro i hi
      rcases hi with e | e | e | e
      · exact .inl (.inl e)
      · exact .inl (.inr (.inl e))
      · exact .inl (.inr (.inr (.inl e)))
      · rcases vfb i e with e2 | e2
        · exact .inl (.inr (.inr (.inr e2)))
        · exact .inr (by omega)
  subst hvf'
  have c5 : w.cell? ⟨r, 5, none⟩ = some (.slice (some ⟨gl, 0, none⟩) LY.length cl) := by rw [cs.2.2.2.2.2.1, hvl]
  have HSH : ∃ fa fc, vf = .slice fa FR.length fc := by
    rcases h.fr.2 with ⟨e1, e2⟩ | ⟨g', c', cur, e1, -⟩
    · exact ⟨none, 0, by rw [e1, e2]⟩
    · exact ⟨_, _, e1⟩
  have L0 := bl.cell
  have lyc : ∀ j v, g.cs[j]? = some v → w.cell? ⟨gl, p * 5 + j, none⟩ = some v := by
    obtain ⟨gl', cl', e1, -, -, -, q⟩ := ly_cell h.ly hp
    rw [hvl] at e1
    injection e1 with e1
    injection e1 with e1
    injection e1 with e1
    subst e1
    exact q
  have y5 : W2.cell? ⟨r, 5, none⟩ = some (.slice (some ⟨gl, 0, none⟩) LY.length cl) := cell_grown c5 g2
  have b3 : Blk W3 r (rdc now sp nx W mb vl vf) 51 := (keep3 r rlt hrl).trans h.blk
  have y36 : W3.cell? ⟨r, 6, none⟩ = some vf := b3.cell 6 _ rfl
  clear b3
  have y56 := b5.cell 6 vf rfl
  have f56 := b5.thaw 6
  have y64 := b6.cell 4 (.map (some mb)) rfl
  have b7 : Blk W7 r (rdc now sp nx W mb vl (.slice va (FR.length + 1) vc)) 51 := (o7 r (by omega) ns.1).trans b6
  have z64 : W7.cell? ⟨r, 4, none⟩ = some (.map (some mb)) := b7.cell 4 _ rfl
  clear b7
  have y60 : W6.cell? ⟨w.heap.size + 1, 0, none⟩ = some (.int .i64 (g.id : Int)) := bL6.cell 0 _ rfl
  have BR7 := hide bR7; have BX := hide bX; have HRUN := hide hrun; have HDEL := hide hdel
  have BL2 := hide bl2
  have p0 : ¬ (p : Int) < 0 := by omega
  have p1 : (p : Int) < (LY.length : Int) := by omega
  have a0 : w.cell? ⟨gl, p * 5, none⟩ = some (.int .i64 (g.id : Int)) := lyc 0 _ rfl
  have a1 : w.cell? ⟨gl, p * 5 + 1, none⟩ = some (.int .i64 g.to) := lyc 1 _ rfl
  have a2 : w.cell? ⟨gl, p * 5 + 2, none⟩ = some (.int .i64 (g.at_ : Int)) := lyc 2 _ rfl
  have a3 : w.cell? ⟨gl, p * 5 + 3, none⟩ = some (.string (strOfNums g.tx)) := lyc 3 _ rfl
  have a4 : w.cell? ⟨gl, p * 5 + 4, none⟩ = some (.int .i64 g.mark) := lyc 4 _ rfl
  have z0 : W7.cell? ⟨w.heap.size + 1, 0, none⟩ = some (.int .i64 (g.id : Int)) := bL7.cell 0 _ rfl
  have z1 : W7.cell? ⟨w.heap.size + 1, 1, none⟩ = some (.int .i64 g.to) := bL7.cell 1 _ rfl
  have z2 : W7.cell? ⟨w.heap.size + 1, 2, none⟩ = some (.int .i64 (g.at_ : Int)) := bL7.cell 2 _ rfl
  have z3 : W7.cell? ⟨w.heap.size + 1, 3, none⟩ = some (.string (strOfNums g.tx)) := bL7.cell 3 _ rfl
  have z4 : W7.cell? ⟨w.heap.size + 1, 4, none⟩ = some (.int .i64 g.mark) := bL7.cell 4 _ rfl
  have HW2 := hide hW2; have HW3 := hide hW3; have HW6 := hide hW6
  obtain ⟨id, to, at_, tx, mk⟩ := g
  unfold Gm.cs at HW2 HW3 BR7 BX FIN BL2 ⊢
  simp only at HW2 HW3 BR7 BX FIN BL2 y60 a0 a1 a2 a3 a4 z0 z1 z2 z3 z4 HDEL ⊢
  generalize strOfNums tx = st at *
  obtain ⟨fa, fc, rfl⟩ := HSH
  have HXL := hide hXl
  clear h hq hp bl SET ns cs bR bL g2 bl2 bl3 o3 sz3 keep3 fr3 g4 fr4 sz4 ro5 gr5 ob5 keep5 b5 vner b6 o6 sz6 keep6 mp6 hdel mp7 gr7 o7 newb locK bL6 bL7 bR7 bX L0 lyc hrun hnx hvl hXl hW2 hW3 hW6 hfl sz2
  go_enter Tryd.func22, Tryd.ntmps22
  go_upto_region 2 with fail
  have e2 : (w.alloc (.cells #[.int .i64 0, .int .i64 0, .int .i64 0, .string ⟨#[]⟩, .int .i64 0] 56)).alloc (.cells #[.int .i64 (id : Int), .int .i64 to, .int .i64 (at_ : Int), .string st, .int .i64 mk] 56) = W2 := (unhide HW2).symm
  rw [e2]
  replace e2 := hide e2
  clear a0 a1 a2 a3 a4 c5
  go_upto_region 3 with (refine wpList_store_midG rfl _ _ _ rfl gl (p * 5) #[.int .i64 0, .int .i64 0, .int .i64 0, .string ⟨#[]⟩, .int .i64 0] rfl rfl 56 X _ Y (unhide BL2) (unhide HXL) rfl Tryd.sizeGm (fun v hv => Gm.one zGm v hv) ?_)
  have e3 : W2.setRow gl (X ++ ((#[.int .i64 0, .int .i64 0, .int .i64 0, .string ⟨#[]⟩, .int .i64 0] : Array Value).toList ++ Y)).toArray = W3 := (unhide HW3).symm
  rw [e3]
  replace e3 := hide e3
  clear y5 BL2
  go_upto_region 4 with (at_builtin; refine wpList_append_runQ _ rfl _ _ 49 49 rfl _ _ rfl rfl (unhide HRUN) ?_)
  have e6 : W5.setCell ⟨r, 6, none⟩ (.slice va (FR.length + 1) vc) = W6 := (unhide HW6).symm
  rw [e6]
  replace e6 := hide e6
  clear y36 y56 f56 HRUN
  go_region_held_law (fun Z => Z.cell? ⟨r, 4, none⟩ = some (.map (some mb)) ∧ Z.cell? ⟨w.heap.size + 1, 0, none⟩ = some (.int .i64 (id : Int))) (go_keep) (refine step_delete_run rfl _ _ 47 3 rfl _ _ (by simp [Act.eval]) (by simp [Act.eval]) (unhide HDEL) ?_)
  go_wp2_with (refine wpList_store_row rfl _ _ _ rfl w.heap.size #[.int .i64 (id : Int), .int .i64 to, .int .i64 (at_ : Int), .string st, .int .i64 mk] rfl rfl 56 _ (unhide BR7) Tryd.sizeGm rfl (by simp [Value.oneCell']) ?_)
  refine bodyPost_ret (results_cell_row rfl _ _ w.heap.size 56 #[.int .i64 (id : Int), .int .i64 to, .int .i64 (at_ : Int), .string st, .int .i64 mk] (0, 0) _ rfl (unhide BX) Tryd.underlying56 rfl Tryd.sizeGm) rfl ?_
  exact ⟨rfl, unhide FIN⟩
end
end Go.Proofs.YtbdjlhkgpblebaaDoor
