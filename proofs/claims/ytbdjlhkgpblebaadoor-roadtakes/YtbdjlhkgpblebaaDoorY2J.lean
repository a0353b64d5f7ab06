/- Road: one more is laid. -/
import Derived.Test.YtbdjlhkgpblebaaDoorY2I
namespace Go.Proofs.YtbdjlhkgpblebaaDoor
open Go.RowKit Go.Shelf Go.Maps
set_option linter.unusedVariables false
set_option linter.unusedSimpArgs false
set_option maxRecDepth 100000
set_option maxHeartbeats 1000000

theorem step_store_run {P : Program} {ops : Array Oper} {o : Oper} {a : Act} {w : World} {K : Act → World → Prop} {Q : Exit → Act → World → Prop} {E : Prop}
    (hg : o.guard = none) (ty : TypeId) (x y : Operand) (ho : o.op = .store ty x y) (p : Addr) (v : Value) (hx : a.eval x = .pointer (some p)) (hy : a.eval y = v) {w' : World} (hr : (storeVar ty p v).run P w = .ok () w') (hK : K (a.put o.dst undef) w') :
    if Region.wanted o (yielded ops a.tmps) = true then Oper.wp P o a w K Q else E := by
  have hw : Region.wanted o (yielded ops a.tmps) = true := by simp [Region.wanted, hg]
  rw [if_pos hw]
  unfold Oper.wp execOp
  simp only [ho, hx, hy, Instr.storeAt, Instr.sureAddr, Sem.run_bind, Sem.run_pure, Result.andThen_ok, hr]
  exact hK

theorem insT_perm (x : Tm) : ∀ T : List Tm, (insT x T).Perm (x :: T)
  | [] => List.Perm.refl _
  | m :: t => by
    unfold insT
    split
    · exact List.Perm.refl _
    · exact ((insT_perm x t).cons m).trans (List.Perm.swap x m t)
theorem armT_perm {T : List Tm} {A : List (Gm × Nat)} (hT : T.Perm (tmA A)) (p at_ : Nat) (hp : p < 4096) (ha : at_ < 4611686018427387904) : (armT T p at_).Perm ((p, at_) :: tmA (rest A p)) := by
  have ok : armOk (p : Int) (at_ : Int) := ⟨by omega, by omega, by omega, by omega⟩
  unfold armT
  rw [if_pos ok]
  refine (insT_perm _ _).trans ?_
  refine List.Perm.cons _ ?_
  unfold delT
  refine (hT.filter _).trans ?_
  unfold tmA rest
  rw [List.filter_map]
  refine List.Perm.of_eq ?_
  congr 1
  apply List.filter_congr
  intro x _
  simp only [Function.comp_def, ne_eq, decide_not]
  congr 1
  rw [decide_eq_decide]
  omega
theorem rest_none {A : List (Gm × Nat)} {p : Nat} (h : ∀ q ∈ A, q.2 ≠ p) : rest A p = A := List.filter_eq_self.2 (fun q hq => by simpa using h q hq)

def gid (g : Gm) (n : Nat) : Gm := { g with id := n }

section
variable {b : Nat} {w w' : World} {r W mb : Nat} {vl vf : Value} {Sw : Nat → Prop} {c : Nat} {T : List Tm} {A : List (Gm × Nat)} {LY : List Gm} {FR : List Nat} {k now sp nx : Nat} {S : Nat → Prop} {R : Rs}

theorem lay_full (h : RI b w S r R) (hB : R.B.length = 4096) (g : Gm) : Calls Tryd.prog 20 #[ptr r, .agg g.cs] w fun e w' => e = .returned (.tuple #[.int .i64 0, .int .i64 3]) ∧ w.grownBy w' none := by
  obtain ⟨W, mb, vl, vf, Sw, c, T, A, LY, FR, h1, h2, h3, h4⟩ := h.ex
  have hA : A.length = 4096 := by rw [← h3, List.length_map] at hB; exact hB
  have gA : w.grownBy (w.alloc (.cells g.cs 56)) none := World.grownBy_alloc w _ none
  have hg := h1.grown gA
  have mp := hg.mp
  have c4 := hg.cells.2.2.2.2.1
  have el : ((A.map fun p => (p.1.id, p.2)).length : Int) = 4096 := by rw [List.length_map, hA]; rfl
  have GA := hide gA
  unfold Gm.cs at mp c4 GA ⊢
  have MP := hide mp
  clear hg h1 h h2 h3 h4 hA hB gA mp
  obtain ⟨id, to, at_, tx, mk⟩ := g
  simp only at MP c4 GA ⊢
  generalize strOfNums tx = st at *
  go_enter Tryd.func20, Tryd.ntmps20
  go_wp2_with (at_len; refine wpList_countQ _ rfl _ rfl mb _ (unhide MP) rfl ?_; rw [el])
  go_ret2
  exact ⟨rfl, unhide GA⟩

/-- What lay leaves. -/
def LayP (b : Nat) (w : World) (S : Nat → Prop) (r : Nat) (R' : Rs) (w' : World) : Prop := ∃ S', RI b w' S' r R' ∧ St w w' S S'

theorem lay_after {W3 W4 : World} (bx n p : Nat) (g' : Gm) (hok : g'.Ok) (hid : g'.id = n) (h3 : RP b W3 r W mb vl vf Sw c T A LY FR 0 now sp (n + 1)) (hids : ∀ q ∈ A, q.1.id < n) (hn : n < 4611686018427387904) (hT : T.Perm (tmA A))
    (hbx : Blk W3 bx g'.cs 56) (nbx : ¬ OW r mb vl vf bx) (nbs : ¬ Sw bx) (hr : RoomP b W3 r W mb vl vf Sw c T A now sp (n + 1) p W4) :
    ∃ gl m cl W5 W6, Blk W4 bx g'.cs 56 ∧ W4.cell? ⟨r, 4, none⟩ = some (.map (some mb)) ∧ (Instr.mapUpdate 47 (.map (some mb)) (.int .i64 (n : Int)) (.int .i64 (p : Int))).run Tryd.prog W4.drew = .ok () W5 ∧
      W5.cell? ⟨r, 4, none⟩ = some (.map (some mb)) ∧ W5.cell? ⟨r, 5, none⟩ = some (.slice (some ⟨gl, 0, none⟩) m cl) ∧ Blk W5 bx g'.cs 56 ∧ p < m ∧ m ≤ 4096 ∧
      (storeVar 56 ⟨gl, p * 5, none⟩ (.agg g'.cs)).run Tryd.prog W5.drew = .ok () W6 ∧ W6.cell? ⟨r, 5, none⟩ = some (.slice (some ⟨gl, 0, none⟩) m cl) ∧ Blk W6 bx g'.cs 56 ∧
      Calls Tryd.prog 28 #[ptr r, .int .i64 (p : Int)] W6 fun e W7 => e = .returned (.tuple #[]) ∧ W7.cell? ⟨bx, 0, none⟩ = some (.int .i64 (n : Int)) ∧
        Hid (∃ Sw7 vl' vf' LY' FR' T', RP b W7 r W mb vl' vf' Sw7 c T' (A ++ [(g', p)]) LY' FR' 0 now sp (n + 1) ∧ T'.Perm (tmA (A ++ [(g', p)])) ∧ Kp (fun i => Sw i ∨ OW r mb vl vf i) W3 W7 ∧ ∀ i, Sw7 i ∨ OW r mb vl' vf' i → (Sw i ∨ OW r mb vl vf i) ∨ W3.heap.size ≤ i) := by
  obtain ⟨vl', vf', LY', FR', h4, plt, hpA, hpF, k4, up4⟩ := hr
  have bxlt := hbx.lt
  have nbx4 : ¬ OW r mb vl' vf' bx := fun e => by rcases up4 bx e with e | e; exact nbx e; omega
  have b4 : Blk W4 bx g'.cs 56 := (k4.block bx bxlt nbx).trans hbx
  have ns := h4.nes
  have cs := h4.cells
  have mp4 : Mq W4.drew mb (A.map fun q => (q.1.id, q.2)) := h4.mp.kept rfl
  have hlen := h4.len
  have hl4 := h4.l4
  obtain ⟨W5, hup, mp5, gr5⟩ := mp4.putR (by rw [List.length_map]; omega) (n, p) (fun k hk => by
    obtain ⟨q, hq, rfl⟩ := List.mem_map.1 hk
    have := hids q hq
    simp only; omega) hn
  have sz4 : W3.heap.size ≤ W4.heap.size := k4.size
  have sz5 : W4.heap.size ≤ W5.heap.size := gr5.size
  have o5 : ∀ i, i < W4.heap.size → i ≠ mb → W5.heap[i]? = W4.heap[i]? := fun i h1 h2 => gr5.block i h1 (fun e => h2 (by injection e with e))
  have olt := h4.olt
  have r5 : Blk W5 r (rdc now sp (n + 1) W mb vl' vf') 51 := (o5 r h4.blk.lt ns.1).trans h4.blk
  have bx5 : Blk W5 bx g'.cs 56 := (o5 bx b4.lt (fun e => nbx (.inr (.inl e)))).trans b4
  have ly5 := rows_kept h4.ly (fun i e => o5 i (h4.ly.lt i e).2 (fun e2 => ns.2.2.2.1 (e2 ▸ e)))
  obtain ⟨old, hold⟩ : ∃ g, LY'[p]? = some g := ⟨_, List.getElem?_eq_getElem plt⟩
  obtain ⟨gl, cl, hvl, lcl, c63, bgl, gllt, X, Y, bl, hXl, SET⟩ := ly_mid ly5 hold
  have hgl : ∀ i, vl'.ownBlock ≠ some i → i ≠ gl := fun i h e => h (by rw [hvl, e]; rfl)
  have rgl := hgl r ns.2.1
  have bxgl : bx ≠ gl := hgl bx (fun e => nbx4 (.inr (.inr (.inl e))))
  have hst := run_store_mid (P := Tryd.prog) (w := W5.drew) 56 gl (p * 5) g'.cs 56 X old.cs.toList Y bl hXl rfl Tryd.sizeGm (Gm.one g')
  obtain ⟨W6, hW6⟩ : ∃ W6, W6 = W5.drew.setRow gl (X ++ (g'.cs.toList ++ Y)).toArray := ⟨_, rfl⟩
  rw [← hW6] at hst
  have o6 : ∀ i, i ≠ gl → W6.heap[i]? = W5.heap[i]? := fun i hi => by rw [hW6]; exact setRow_other W5.drew gl i _ hi
  have sz6 : W6.heap.size = W5.heap.size := by rw [hW6]; simp
  have bl6 : Blk W6 gl (X ++ (g'.cs.toList ++ Y)).toArray 56 := by rw [hW6]; exact Blk.row (w := W5.drew) bl _
  have ly6 := SET W6 g' bl6
  have r6 : Blk W6 r (rdc now sp (n + 1) W mb vl' vf') 51 := (o6 r rgl).trans r5
  have bx6 : Blk W6 bx g'.cs 56 := (o6 bx bxgl).trans bx5
  have keep6 : ∀ i, i < W4.heap.size → i ≠ mb → vl'.ownBlock ≠ some i → W6.heap[i]? = W4.heap[i]? := fun i h1 h2 h3 => (o6 i (hgl i h3)).trans (o5 i h1 h2)
  have wl6 : Wl b W6 Sw W c T := h4.wl.kept (by omega) (fun i hi => keep6 i (h4.wl.lt i hi).2 (fun e => h4.ne2 (e ▸ hi)) (fun e => h4.ne3 i e hi))
  have mp6 : Mq W6 mb ((n, p) :: A.map fun q => (q.1.id, q.2)) := mp5.kept (o6 mb (hgl mb ns.2.2.2.1))
  have fr6 := rows_kept h4.fr (fun i e => keep6 i (h4.fr.lt i e).2 (fun e2 => ns.2.2.2.2.1 (e2 ▸ e)) (fun e2 => ns.2.2.2.2.2 i e2 e))
  have hp2 : (LY'.set p g')[p]? = some g' := by rw [List.getElem?_set_self]; exact plt
  have ARM := arm_any (b := b) (w := W6) (r := r) (W := W) (mb := mb) (vl := vl') (vf := vf') (Sw := Sw) (c := c) (T := T) (LY := LY'.set p g') (now := now) (sp := sp) (nx := n + 1) h4.ne1 h4.ne3 r6 wl6 ly6 p g' hp2 (by rw [List.length_set]; exact hl4)
  refine ⟨gl, LY'.length, cl, W5, W6, b4, cs.2.2.2.2.1, hup, r5.cell 4 _ rfl, by rw [← hvl]; exact r5.cell 5 _ rfl, bx5, plt, hl4, hst, by rw [← hvl]; exact r6.cell 5 _ rfl, bx6, ARM.mono ?_⟩
  rintro e W7 ⟨rfl, Sw7, wl7, st7⟩
  have keep7 : ∀ i, i < W6.heap.size → ¬ Sw i → W7.heap[i]? = W6.heap[i]? := fun i h1 h2 => st7.kp.block i h1 h2
  have bx7 : Blk W7 bx g'.cs 56 := (keep7 bx bx6.lt nbs).trans bx6
  have olt6 : ∀ i, i < W4.heap.size → i < W6.heap.size := fun i hi => by omega
  have ns7 : ∀ i, i < W4.heap.size → ¬ Sw i → ¬ Sw7 i := fun i hi hs h => by
    rcases st7.dn i h with h | h
    · exact hs h
    · omega
  refine ⟨rfl, ?_, Sw7, vl', vf', LY'.set p g', FR', armT T p g'.at_, ⟨(keep7 r r6.lt h4.ne1).trans r6, wl7, ?_, rows_kept ly6 (fun i e => keep7 i (ly6.lt i e).2 (h4.ne3 i e)), rows_kept fr6 (fun i e => keep7 i (fr6.lt i e).2 (h4.ne4 i e)), ?_, ?_, ?_, ?_, ?_, ?_, ?_, ?_, h4.ck, h4.n50, h4.s36, h4.low, ns7 r h4.blk.lt h4.ne1, ns7 mb h4.mp.lt h4.ne2, fun i e => ns7 i (h4.ly.lt i e).2 (h4.ne3 i e), fun i e => ns7 i (h4.fr.lt i e).2 (h4.ne4 i e)⟩, ?_, ?_, ?_⟩
  · rw [← hid]; exact bx7.cell 0 _ rfl
  · refine (mp6.kept (keep7 mb mp6.lt h4.ne2)).perm ?_
    rw [List.map_append, List.map_cons, List.map_nil]
    simp only [hid]
    exact (List.perm_append_singleton _ _).symm
  · intro q hq
    rcases List.mem_append.1 hq with hq | hq
    · have := hids q hq; omega
    · simp only [List.mem_cons, List.not_mem_nil, or_false] at hq
      subst hq
      simp only; omega
  · rw [List.pairwise_append]
    refine ⟨h4.asc, List.pairwise_singleton _ _, fun x hx y hy => ?_⟩
    simp only [List.mem_cons, List.not_mem_nil, or_false] at hy
    subst hy
    have := hids x hx
    simp only; omega
  · intro q hq
    rcases List.mem_append.1 hq with hq | hq
    · rw [List.getElem?_set_ne (Ne.symm (hpA q hq))]; exact h4.at_ q hq
    · simp only [List.mem_cons, List.not_mem_nil, or_false] at hq
      subst hq
      exact hp2
  · rw [List.map_append, List.append_assoc]
    have nd := h4.nd
    rw [List.nodup_append] at nd ⊢
    refine ⟨nd.1, ?_, fun x hx y hy => ?_⟩
    · simp only [List.map_cons, List.map_nil, List.singleton_append, List.nodup_cons]
      exact ⟨hpF, nd.2.1⟩
    · simp only [List.map_cons, List.map_nil, List.singleton_append, List.mem_cons] at hy
      rcases hy with rfl | hy
      · obtain ⟨q, hq, rfl⟩ := List.mem_map.1 hx
        exact hpA q hq
      · exact nd.2.2 x hx y hy
  · rw [List.length_set]; exact h4.lt
  · rw [List.length_set, List.length_append, List.length_cons, List.length_nil]; omega
  · rw [List.length_set]; exact hl4
  · intro q hq
    rcases List.mem_append.1 hq with hq | hq
    · exact h4.gm q hq
    · simp only [List.mem_cons, List.not_mem_nil, or_false] at hq
      subst hq
      exact hok
  · have := armT_perm hT p g'.at_ (by omega) hok.t
    rw [rest_none hpA] at this
    refine this.trans ?_
    unfold tmA
    rw [List.map_append]
    exact (List.perm_append_singleton _ _).symm
  · have e6o : W6.os = W5.os ∧ W6.tape = W5.tape ∧ W6.output = W5.output := by rw [hW6]; exact ⟨rfl, rfl, rfl⟩
    refine ⟨?_, ?_, ?_, ?_, fun i hi hn => ?_⟩
    · rw [st7.kp.os, e6o.1, gr5.os]; exact k4.os
    · rw [st7.kp.tape, e6o.2.1, gr5.tape]; exact k4.tape
    · rw [st7.kp.output, e6o.2.2, gr5.output]; exact k4.output
    · have := st7.kp.size; omega
    · have n1 : ¬ Sw i := fun e => hn (.inl e)
      have n2 : ¬ OW r mb vl vf i := fun e => hn (.inr e)
      rw [keep7 i (by omega) n1, keep6 i (by omega) (fun e => n2 (.inr (.inl e))) (fun e => by
        rcases up4 i (.inr (.inr (.inl e))) with e2 | e2
        · exact n2 e2
        · omega)]
      exact k4.block i hi n2
  · intro i hi
    rcases hi with hi | hi
    · rcases st7.dn i hi with h | h
      · exact .inl (.inl h)
      · exact .inr (by omega)
    · rcases up4 i hi with h | h
      · exact .inl (.inr h)
      · exact .inr h

theorem lay_put (h : RI b w S r R) (hB : R.B.length < 4096) (g : Gm) (hg : g.Ok) (hnx : R.nx < 4611686018427387904) : Calls Tryd.prog 20 #[ptr r, .agg g.cs] w fun e w' => e = .returned (.tuple #[.int .i64 (R.nx : Int), .int .i64 0]) ∧ LayP b w S r { R with nx := R.nx + 1, B := R.B ++ [gid g R.nx] } w' := by
  obtain ⟨W, mb, vl, vf, Sw, c, T, A, LY, FR, h1, h2, h3, h4⟩ := h.ex
  have hA : A.length < 4096 := by rw [← h3, List.length_map] at hB; exact hB
  obtain ⟨nx, hnxe⟩ : ∃ nx, nx = R.nx := ⟨_, rfl⟩
  obtain ⟨now, hnow⟩ : ∃ n, n = R.now := ⟨_, rfl⟩
  obtain ⟨sp, hsp⟩ : ∃ n, n = R.sp := ⟨_, rfl⟩
  rw [← hnxe] at h1 hnx ⊢
  rw [← hnow, ← hsp] at h1
  -- the box, with its number
  obtain ⟨g', hg'⟩ : ∃ g', g' = gid g nx := ⟨_, rfl⟩
  have olt := h1.olt
  have ns := h1.nes
  have rlt := h1.blk.lt
  obtain ⟨W2, hW2⟩ : ∃ W2, W2 = w.setCell ⟨r, 2, none⟩ (.int .i64 ((nx : Int) + 1)) := ⟨_, rfl⟩
  have st2 := h1.setR 2 (.int .i64 ((nx : Int) + 1)) (now' := now) (sp' := sp) (nx' := nx + 1) (vl' := vl) (vf' := vf) rfl
  rw [← hW2] at st2
  have sz2 : W2.heap.size = w.heap.size := by rw [hW2, set_size]
  have h2' : RP b W2 r W mb vl vf Sw c T A LY FR 0 now sp (nx + 1) := by
    refine { h1 with blk := st2.1, wl := ?_, mp := ?_, ly := ?_, fr := ?_, ids := fun p hp => by have := h1.ids p hp; omega }
    · exact h1.wl.kept (by omega) (fun i hi => st2.2 i (fun e => h1.ne1 (e ▸ hi)))
    · exact h1.mp.kept (st2.2 mb ns.1.symm)
    · exact rows_kept h1.ly (fun i e => st2.2 i (fun e2 => ns.2.1 (e2 ▸ e)))
    · exact rows_kept h1.fr (fun i e => st2.2 i (fun e2 => ns.2.2.1 (e2 ▸ e)))
  obtain ⟨W3, hW3⟩ : ∃ W3, W3 = W2.alloc (.cells g'.cs 56) := ⟨_, rfl⟩
  have g3 : W2.grownBy W3 none := by rw [hW3]; exact World.grownBy_alloc W2 _ none
  have sz3 : W3.heap.size = w.heap.size + 1 := by rw [hW3, alloc_size, sz2]
  have h3' := h2'.grown g3
  have bB3 : Blk W3 w.heap.size g'.cs 56 := by
    have := Blk.new W2 g'.cs 56
    rw [sz2] at this
    rw [hW3]; exact this
  have room := room_any h3' hA
  have K23 : Kp (fun i => i = r) w W3 := by
    refine Kp.trans (w2 := W2) ?_ (Kp.grown g3 _)
    rw [hW2]; exact (Kp.refl _ _).set r 2 _ (fun _ => rfl)
  have nbx : ¬ OW r mb vl vf w.heap.size := fun e => by have := (olt _ (.inr e)).2; omega
  have nbs : ¬ Sw w.heap.size := fun e => by have := (olt _ (.inl e)).2; omega
  have hok : g'.Ok := by rw [hg']; exact ⟨hg.b, hg.l, hg.t⟩
  have AFT := hide (fun p W4 hr => lay_after (W3 := W3) (W4 := W4) w.heap.size nx p g' hok (by rw [hg']; rfl) h3' (fun q hq => h1.ids q hq) hnx h2 bB3 nbx nbs hr)
  have FIN : Hid (∀ W7, (∃ Sw7 vl' vf' LY' FR' T' p, RP b W7 r W mb vl' vf' Sw7 c T' (A ++ [(g', p)]) LY' FR' 0 now sp (nx + 1) ∧ T'.Perm (tmA (A ++ [(g', p)])) ∧ Kp (fun i => Sw i ∨ OW r mb vl vf i) W3 W7 ∧ ∀ i, Sw7 i ∨ OW r mb vl' vf' i → (Sw i ∨ OW r mb vl vf i) ∨ W3.heap.size ≤ i) → LayP b w S r { R with nx := nx + 1, B := R.B ++ [g'] } W7) := by
    rintro W7 ⟨Sw7, vl', vf', LY', FR', T', p, q1, q2, q3, q4⟩
    have sz := q3.size
    refine ⟨fun i => S i ∨ (Sw7 i ∨ OW r mb vl' vf' i), ⟨⟨W, mb, vl', vf', Sw7, c, T', A ++ [(g', p)], LY', FR', by rw [← hnow, ← hsp]; exact q1, q2, by rw [List.map_append, h3]; rfl, fun i hi => .inr hi⟩, fun i hi => ?_⟩, ⟨⟨?_, ?_, ?_, by omega, fun i h5 h6 => ?_⟩, fun i hi => .inl hi, fun i hi => ?_⟩⟩
    · rcases hi with hi | hi
      · have := h.lt i hi; exact ⟨this.1, by omega⟩
      · exact q1.olt i hi
    · exact q3.os.trans K23.os
    · exact q3.tape.trans K23.tape
    · exact q3.output.trans K23.output
    · have n1 : ¬ (Sw i ∨ OW r mb vl vf i) := fun e => h6 (h4 i e)
      exact (q3.block i (by omega) n1).trans (K23.block i h5 (fun e => n1 (.inr (.inl e))))
    · rcases hi with hi | hi
      · exact .inl hi
      · rcases q4 i hi with e | e
        · exact .inl (h4 i e)
        · exact .inr (by omega)
  have el : ((A.map fun p => (p.1.id, p.2)).length : Int) = (A.length : Int) := by rw [List.length_map]
  have hA1 : ((A.length : Int) == 4096) = false := by simp; omega
  have mpB : Mq (w.alloc (.cells g.cs 56)) mb (A.map fun p => (p.1.id, p.2)) := h1.mp.kept ((World.grownBy_alloc w _ none).block mb h1.mp.lt (by simp))
  have c4 := h1.cells.2.2.2.2.1
  have c2 := h1.cells.2.2.1
  have f2 := h1.blk.thaw 2
  have n63 : IntKind.i64.wrap ((nx : Int) + 1) = (nx : Int) + 1 := by rw [IntKind.wrap_i64]; omega
  have MP := hide mpB
  have HW3 := hide hW3
  have HW2 := hide hW2
  have gcs : g'.cs = #[.int .i64 (nx : Int), .int .i64 g.to, .int .i64 (g.at_ : Int), .string (strOfNums g.tx), .int .i64 g.mark] := by rw [hg']; rfl
  rw [gcs] at HW3 AFT
  have HGC := hide gcs
  rw [hg'] at FIN
  obtain ⟨id, to, at_, tx, mk⟩ := g
  unfold Gm.cs at MP ⊢
  simp only at MP HW3 AFT FIN HGC ⊢
  generalize strOfNums tx = st at *
  generalize A.length = al at *
  clear h h1 h2 h3 h4 hA hB hok nbx nbs bB3 K23 st2 ns h2' g3 olt h3' hg mpB hnow hsp hW2 hW3 gcs sz2 sz3
  replace hnxe := hide hnxe
  replace hg' := hide hg'
  go_enter Tryd.func20, Tryd.ntmps20
  go_upto_region 5 with (at_len; refine wpList_countQ _ rfl _ rfl mb _ (unhide MP) rfl ?_; rw [el])
  have e3 : (w.setCell ⟨r, 2, none⟩ (.int .i64 ((nx : Int) + 1))).alloc (.cells #[.int .i64 (nx : Int), .int .i64 to, .int .i64 (at_ : Int), .string st, .int .i64 mk] 56) = W3 := by rw [unhide HW3, unhide HW2]
  rw [e3]
  replace e3 := hide e3
  clear c4 c2 f2 n63 rlt MP el
  go_wp2_with fail
  refine room.mono ?_
  rintro e W4 ⟨p, rfl, hr⟩
  obtain ⟨gl, m, cl, W5, W6, b4, q4, hup, q5, q5b, b5, plt, m4, hst, q6, b6, arm⟩ := unhide AFT p W4 hr
  have HUP := hide hup; have HST := hide hst; have ARM := hide arm
  have x0 : W4.cell? ⟨w.heap.size, 0, none⟩ = some (.int .i64 (nx : Int)) := b4.cell 0 _ rfl
  have y0 : W5.cell? ⟨w.heap.size, 0, none⟩ = some (.int .i64 (nx : Int)) := b5.cell 0 _ rfl
  have y1 : W5.cell? ⟨w.heap.size, 1, none⟩ = some (.int .i64 to) := b5.cell 1 _ rfl
  have y2 : W5.cell? ⟨w.heap.size, 2, none⟩ = some (.int .i64 (at_ : Int)) := b5.cell 2 _ rfl
  have y3 : W5.cell? ⟨w.heap.size, 3, none⟩ = some (.string st) := b5.cell 3 _ rfl
  have y4 : W5.cell? ⟨w.heap.size, 4, none⟩ = some (.int .i64 mk) := b5.cell 4 _ rfl
  have v0 : W6.cell? ⟨w.heap.size, 0, none⟩ = some (.int .i64 (nx : Int)) := b6.cell 0 _ rfl
  have v1 : W6.cell? ⟨w.heap.size, 1, none⟩ = some (.int .i64 to) := b6.cell 1 _ rfl
  have v2 : W6.cell? ⟨w.heap.size, 2, none⟩ = some (.int .i64 (at_ : Int)) := b6.cell 2 _ rfl
  have v3 : W6.cell? ⟨w.heap.size, 3, none⟩ = some (.string st) := b6.cell 3 _ rfl
  have v4 : W6.cell? ⟨w.heap.size, 4, none⟩ = some (.int .i64 mk) := b6.cell 4 _ rfl
  have p0 : ¬ (p : Int) < 0 := by omega
  have p1 : (p : Int) < (m : Int) := by omega
  clear b4 hup b5 hst b6 arm room AFT hr
  go_upto_region 6 with fail
  have hup := unhide HUP
  go_region_held3 (fun Z => Z.cell? ⟨r, 4, none⟩ = some (.map (some mb)) ∧ Z.cell? ⟨w.heap.size, 0, none⟩ = some (.int .i64 (nx : Int))) (go_keep) (fail)
  clear hup
  go_upto_region 7 with fail
  refine wp_region_held_drew (S := fun Z => Z.cell? ⟨r, 5, none⟩ = some (.slice (some ⟨gl, 0, none⟩) m cl) ∧ Z.cell? ⟨w.heap.size, 0, none⟩ = some (.int .i64 (nx : Int)) ∧ Z.cell? ⟨w.heap.size, 1, none⟩ = some (.int .i64 to) ∧ Z.cell? ⟨w.heap.size, 2, none⟩ = some (.int .i64 (at_ : Int)) ∧ Z.cell? ⟨w.heap.size, 3, none⟩ = some (.string st) ∧ Z.cell? ⟨w.heap.size, 4, none⟩ = some (.int .i64 mk)) (by kernel_rfl) ⟨q5b, y0, y1, y2, y3, y4⟩ (fun hHeld => ?_)
  refine wpAnyH_take (i := 0) (v := ?_) rfl (by as_aux_lemma => kernel_rfl) (by as_aux_lemma => kernel_rfl) (by as_aux_lemma => kernel_rfl) (fun _ _ _ h => h) (Or.inl ⟨by rfl, ?_⟩) (by assumption) ?_
  rotate_left
  · intro wH hSw
    try dsimp only at hSw
    obtain ⟨s0q, s1q, s2q, s3q, s4q, s5q⟩ := hSw
    go_simp
    try with_reducible rfl
  try simp only [Act.put, List.setIfInBounds_toArray, List.set_cons_zero, List.set_cons_succ, List.getElem_toArray, List.getElem_cons_zero, List.getElem_cons_succ]
  refine wpAnyH_take (i := 1) (v := ?_) rfl (by as_aux_lemma => kernel_rfl) (by as_aux_lemma => kernel_rfl) (by as_aux_lemma => kernel_rfl) (fun _ _ _ h => h) (Or.inl ⟨by rfl, ?_⟩) (by assumption) ?_
  rotate_left
  · intro wH hSw
    try dsimp only at hSw
    obtain ⟨s0q, s1q, s2q, s3q, s4q, s5q⟩ := hSw
    go_simp
    try with_reducible rfl
  try simp only [Act.put, List.setIfInBounds_toArray, List.set_cons_zero, List.set_cons_succ, List.getElem_toArray, List.getElem_cons_zero, List.getElem_cons_succ]
  refine wpAnyH_take (i := 2) (v := ?_) rfl (by as_aux_lemma => kernel_rfl) (by as_aux_lemma => kernel_rfl) (by as_aux_lemma => kernel_rfl) (fun _ _ _ h => h) (Or.inl ⟨by rfl, ?_⟩) (by assumption) ?_
  rotate_left
  · intro wH hSw
    try dsimp only at hSw
    obtain ⟨s0q, s1q, s2q, s3q, s4q, s5q⟩ := hSw
    go_simp
    try with_reducible rfl
  try simp only [Act.put, List.setIfInBounds_toArray, List.set_cons_zero, List.set_cons_succ, List.getElem_toArray, List.getElem_cons_zero, List.getElem_cons_succ]
  refine wpAnyH_take (i := 3) (v := ?_) rfl (by as_aux_lemma => kernel_rfl) (by as_aux_lemma => kernel_rfl) (by as_aux_lemma => kernel_rfl) (fun _ _ _ h => h) (Or.inl ⟨by rfl, ?_⟩) (by assumption) ?_
  rotate_left
  · intro wH hSw
    try dsimp only at hSw
    obtain ⟨s0q, s1q, s2q, s3q, s4q, s5q⟩ := hSw
    go_simp
    try with_reducible rfl
  try simp only [Act.put, List.setIfInBounds_toArray, List.set_cons_zero, List.set_cons_succ, List.getElem_toArray, List.getElem_cons_zero, List.getElem_cons_succ]
  refine wpAnyH_take (i := 4) (v := ?_) rfl (by as_aux_lemma => kernel_rfl) (by as_aux_lemma => kernel_rfl) (by as_aux_lemma => kernel_rfl) (fun _ _ _ h => h) (Or.inl ⟨by rfl, ?_⟩) (by assumption) ?_
  rotate_left
  · intro wH hSw
    try dsimp only at hSw
    obtain ⟨s0q, s1q, s2q, s3q, s4q, s5q⟩ := hSw
    go_simp
    try with_reducible rfl
  try simp only [Act.put, List.setIfInBounds_toArray, List.set_cons_zero, List.set_cons_succ, List.getElem_toArray, List.getElem_cons_zero, List.getElem_cons_succ]
  refine wpAnyH_take (i := 5) (v := ?_) rfl (by as_aux_lemma => kernel_rfl) (by as_aux_lemma => kernel_rfl) (by as_aux_lemma => kernel_rfl) (fun _ _ _ h => h) (Or.inl ⟨by rfl, ?_⟩) (by assumption) ?_
  rotate_left
  · intro wH hSw
    try dsimp only at hSw
    obtain ⟨s0q, s1q, s2q, s3q, s4q, s5q⟩ := hSw
    go_simp
    try with_reducible rfl
  try simp only [Act.put, List.setIfInBounds_toArray, List.set_cons_zero, List.set_cons_succ, List.getElem_toArray, List.getElem_cons_zero, List.getElem_cons_succ]
  refine wpAnyH_take (i := 6) (v := ?_) rfl (by as_aux_lemma => kernel_rfl) (by as_aux_lemma => kernel_rfl) (by as_aux_lemma => kernel_rfl) (fun _ _ _ h => h) (Or.inl ⟨by rfl, ?_⟩) (by assumption) ?_
  rotate_left
  · intro wH hSw
    try dsimp only at hSw
    obtain ⟨s0q, s1q, s2q, s3q, s4q, s5q⟩ := hSw
    go_simp
    try with_reducible rfl
  try simp only [Act.put, List.setIfInBounds_toArray, List.set_cons_zero, List.set_cons_succ, List.getElem_toArray, List.getElem_cons_zero, List.getElem_cons_succ]
  refine wpAnyH_ready (rs := [7]) (by as_aux_lemma => kernel_rfl) (by simp) ?_
  refine AllReadyH.cons rfl (fun KH hKH => ?_) AllReadyH.nil
  refine step_store_run rfl 56 _ _ rfl ⟨gl, p * 5, none⟩ (.agg #[.int .i64 (nx : Int), .int .i64 to, .int .i64 (at_ : Int), .string st, .int .i64 mk]) (by simp [Act.eval]) (by simp [Act.eval]) (unhide HST) ?_
  refine hKH.out _ _ ⟨q6, v0, v1, v2, v3, v4⟩ (fun hHeld7 => ?_)
  clear hKH KH
  try simp only [Act.put, List.setIfInBounds_toArray, List.set_cons_zero, List.set_cons_succ, List.getElem_toArray, List.getElem_cons_zero, List.getElem_cons_succ]
  refine wpAnyH_done (by as_aux_lemma => kernel_rfl) ?_ _
  go_wp2_with fail
  refine (unhide ARM).mono ?_
  rintro e W7 ⟨rfl, u0, E⟩
  have HE := hide E
  clear ARM E
  go_wp2_with fail
  go_ret2
  obtain ⟨Sw7, vl7, vf7, LY7, FR7, T7, z1, z2, z3, z4⟩ := unhide (unhide HE)
  refine ⟨rfl, ?_⟩
  have := unhide FIN W7 ⟨Sw7, vl7, vf7, LY7, FR7, T7, p, by rw [← unhide hg']; exact z1, by rw [← unhide hg']; exact z2, z3, z4⟩
  exact this
end
end Go.Proofs.YtbdjlhkgpblebaaDoor
