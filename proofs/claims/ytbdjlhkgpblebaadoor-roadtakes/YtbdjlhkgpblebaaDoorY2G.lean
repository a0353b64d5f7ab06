/- Road: room. -/
import Derived.Test.YtbdjlhkgpblebaaDoorY2F
namespace Go.Proofs.YtbdjlhkgpblebaaDoor
open Go.RowKit Go.Shelf Go.Maps
set_option linter.unusedVariables false
set_option linter.unusedSimpArgs false
set_option maxRecDepth 100000
set_option maxHeartbeats 1000000

/-- What room leaves. -/
def RoomP (b : Nat) (w : World) (r W mb : Nat) (vl vf : Value) (Sw : Nat → Prop) (c : Nat) (T : List Tm) (A : List (Gm × Nat)) (now sp nx p : Nat) (w' : World) : Prop :=
  ∃ vl' vf' LY' FR', RP b w' r W mb vl' vf' Sw c T A LY' FR' 1 now sp nx ∧ p < LY'.length ∧ (∀ q ∈ A, q.2 ≠ p) ∧ p ∉ FR' ∧ Kp (OW r mb vl vf) w w' ∧ (∀ g, OW r mb vl' vf' g → OW r mb vl vf g ∨ w.heap.size ≤ g)

section
variable {b : Nat} {w w' : World} {r W mb : Nat} {vl vf : Value} {Sw : Nat → Prop} {c : Nat} {T : List Tm} {A : List (Gm × Nat)} {LY : List Gm} {FR : List Nat} {k now sp nx : Nat}

theorem fr_shape {n : Nat} (h : w.ownsRow b 3 1 vf n (plV FR)) : ∃ a cf, vf = .slice a n cf ∧ n ≤ cf ∧ cf ≤ 9223372036854775807 ∧ (0 < n → ∃ gf, a = some ⟨gf, 0, none⟩ ∧ gf < w.heap.size ∧ ∀ (j x : Nat), FR[j]? = some x → w.cell? ⟨gf, j, none⟩ = some (.int .i64 (x : Int))) := by
  rcases h.2 with ⟨rfl, rfl⟩ | ⟨gf, cf, cur, rfl, q1, q2, q3, q4, q5, q6⟩
  · exact ⟨none, 0, rfl, Nat.le_refl _, Nat.zero_le _, fun h => absurd h (Nat.lt_irrefl _)⟩
  · refine ⟨_, cf, rfl, q3, q4, fun _ => ⟨gf, rfl, (Array.getElem?_eq_some_iff.1 q2).1, fun j x hx => ?_⟩⟩
    have hl := h.1
    rw [plV_len] at hl
    have hj := (List.getElem?_eq_some_iff.1 hx).1
    have hy : (plV FR)[j]? = some (.int .i64 (x : Int)) := by simp [plV, hx]
    rw [← q6, List.getElem?_take, if_pos (by omega), Array.getElem?_toList] at hy
    unfold World.cell?
    rw [q2]
    exact hy

theorem room_old (p : Nat) (F : List Nat) (h : RP b w r W mb vl vf Sw c T A LY (F ++ [p]) 0 now sp nx) :
    Calls Tryd.prog 30 #[ptr r] w fun e w' => e = .returned (.int .i64 (p : Int)) ∧ RoomP b w r W mb vl vf Sw c T A now sp nx p w' := by
  have hl4 : (F ++ [p]).length ≤ 4096 := by have := h.len; have := h.l4; omega
  have hfr := h.fr
  have cs := h.cells
  obtain ⟨a, cf, rfl, fc, f63, fg⟩ := fr_shape hfr
  obtain ⟨gf, rfl, gflt, cc⟩ := fg (by simp)
  have c6 := cs.2.2.2.2.2.2
  have cp := cc F.length p (by simp)
  have eq1 : (F ++ [p]).length = F.length + 1 := by simp
  have f6 := h.blk.thaw 6
  obtain ⟨q, hq⟩ : ∃ q, q = F.length := ⟨_, rfl⟩
  rw [← hq] at cp eq1
  have st := h.setR 6 (.slice (some ⟨gf, 0, none⟩) q cf) (now' := now) (sp' := sp) (nx' := nx) (vl' := vl) (vf' := .slice (some ⟨gf, 0, none⟩) q cf) rfl
  have FIN : Hid (RoomP b w r W mb vl (.slice (some ⟨gf, 0, none⟩) (F ++ [p]).length cf) Sw c T A now sp nx p (w.setCell ⟨r, 6, none⟩ (.slice (some ⟨gf, 0, none⟩) q cf))) := by
    have ns := h.nes
    have nd := h.nd
    have nd2 : (A.map Prod.snd ++ F).Nodup ∧ (∀ x ∈ A.map Prod.snd ++ F, x ≠ p) := by
      rw [← List.append_assoc, List.nodup_append] at nd
      exact ⟨nd.1, fun x hx => nd.2.2 x hx p (by simp)⟩
    refine ⟨vl, .slice (some ⟨gf, 0, none⟩) q cf, LY, F, { h with blk := st.1, wl := ?_, mp := ?_, ly := ?_, fr := ?_, nd := nd2.1, lt := fun x hx => h.lt x (by simp [hx]), len := ?_, ne4 := fun g e => h.ne4 g e }, h.lt p (by simp), fun x hx => nd2.2 x.2 (List.mem_append_left _ (List.mem_map.2 ⟨x, hx, rfl⟩)), fun hp => nd2.2 p (List.mem_append_right _ hp) rfl, (Kp.refl _ _).set r 6 _ (fun _ => .inl rfl), fun g hg => .inl hg⟩
    · exact h.wl.kept (by rw [set_size]; exact Nat.le_refl _) (fun g hg => st.2 g (fun e => h.ne1 (e ▸ hg)))
    · exact h.mp.kept (st.2 mb ns.1.symm)
    · exact rows_kept h.ly (fun g e => st.2 g (fun e2 => ns.2.1 (e2 ▸ e)))
    · refine rows_kept (w := w) ?_ (fun g e => st.2 g (fun e2 => ns.2.2.1 (e2 ▸ e)))
      rcases hfr.2 with ⟨e1, e2⟩ | ⟨g', c', cur, e1, q1, q2, q3, q4, q5, q6⟩
      · cases e1
      · injection e1 with e1 e2 e3
        injection e1 with e1
        injection e1 with e1
        subst e1 e3
        refine ⟨by rw [plV_len]; omega, .inr ⟨gf, cf, cur, by rw [hq], q1, q2, by omega, q4, q5, ?_⟩⟩
        have : plV F = (plV (F ++ [p])).take F.length := by
          rw [show plV (F ++ [p]) = plV F ++ plV [p] by simp [plV], List.take_left' (plV_len F)]
        rw [this, ← q6, List.take_take]
        congr 1
        simp
    · have := h.len; rw [eq1] at this; omega
  have HQ := hide hq
  generalize (F ++ [p]).length = m at *
  have p0 : ¬ (q : Int) < 0 := by omega
  have p0' : (0 : Int) ≤ (q : Int) := by omega
  have p1 : (q : Int) < (m : Int) := by omega
  have p2 : (q : Int) ≤ (cf : Int) := by omega
  have wr : IntKind.i64.wrap ((m : Int) - 1) = (q : Int) := by rw [IntKind.wrap_i64]; omega
  have hml : ¬ (9223372036854775807 : Int) < (m : Int) := by omega
  clear h hfr cs cc fg hq st fc
  go_enter Tryd.func30, Tryd.ntmps30
  go_wp2_with fail
  go_ret
  exact ⟨rfl, unhide FIN⟩

theorem room_new (h : RP b w r W mb vl vf Sw c T A LY [] 0 now sp nx) (hA : A.length < 4096) :
    Calls Tryd.prog 30 #[ptr r] w fun e w' => e = .returned (.int .i64 (LY.length : Int)) ∧ RoomP b w r W mb vl vf Sw c T A now sp nx LY.length w' := by
  have hfr := h.fr
  have cs := h.cells
  obtain ⟨a, cf, rfl, fc, f63, -⟩ := fr_shape hfr
  have c6 := cs.2.2.2.2.2.2
  have c5 := cs.2.2.2.2.2.1
  have hlen := h.len
  rw [List.length_nil] at hlen
  have gA : w.grownBy (w.alloc (.cells zGm.cs 56)) none := World.grownBy_alloc w _ none
  have hA2 := h.grown gA
  have hlow := h.low.1
  have hrlt := h.blk.lt
  obtain ⟨va, vc, W2, hrun, ro, gr, ob⟩ := app_gm hA2.ly (by rw [alloc_size]; omega) (by omega) zGm w.heap.size 1 (fun j v hj => by
    unfold World.cell?
    rw [heap_alloc_new]
    exact hj) 48
  have sz := alloc_size w (.cells zGm.cs 56)
  rw [sz] at ob
  have ns := h.nes
  have keep : ∀ g, g < w.heap.size → vl.ownBlock ≠ some g → W2.heap[g]? = w.heap[g]? := fun g hg hn => (gr.block g (by rw [sz]; omega) (fun e => hn e.symm)).trans (gA.block g hg (by simp))
  have b2 : Blk W2 r (rdc now sp nx W mb vl (.slice a ([] : List Nat).length cf)) 51 := (keep r hrlt ns.2.1).trans h.blk
  have vne : (Value.slice va (LY.length + 1) vc).ownBlock ≠ some r := by
    rcases ob with e | e
    · rw [e]; exact ns.2.1
    · rw [e]; intro e2; injection e2 with e2; omega
  have st : Blk (W2.setCell ⟨r, 5, none⟩ (.slice va (LY.length + 1) vc)) r (rdc now sp nx W mb (.slice va (LY.length + 1) vc) (.slice a ([] : List Nat).length cf)) 51 := b2.setC 5 _
  have k5 := b2.cell 5 vl rfl
  have f5 := b2.thaw 5
  have n5 : (W2.setCell ⟨r, 5, none⟩ (.slice va (LY.length + 1) vc)).cell? ⟨r, 5, none⟩ = some (.slice va (LY.length + 1) vc) := st.cell 5 _ rfl
  have FIN : Hid (RoomP b w r W mb vl (.slice a ([] : List Nat).length cf) Sw c T A now sp nx LY.length (W2.setCell ⟨r, 5, none⟩ (.slice va (LY.length + 1) vc))) := by
    have keepX : ∀ g, g < w.heap.size → vl.ownBlock ≠ some g → g ≠ r → (W2.setCell ⟨r, 5, none⟩ (.slice va (LY.length + 1) vc)).heap[g]? = w.heap[g]? := fun g h1 h2 h3 => (set_heap W2 r 5 _ g h3).trans (keep g h1 h2)
    have szX : w.heap.size ≤ (W2.setCell ⟨r, 5, none⟩ (.slice va (LY.length + 1) vc)).heap.size := by rw [set_size]; have := gr.size; omega
    refine ⟨.slice va (LY.length + 1) vc, .slice a ([] : List Nat).length cf, LY ++ [zGm], [], { h with blk := st, wl := ?_, mp := ?_, ly := ?_, fr := ?_, at_ := ?_, lt := fun x hx => absurd hx (by simp), len := ?_, l4 := ?_, ne3 := ?_ }, by simp, fun q hq => ?_, by simp, ?_, ?_⟩
    · exact h.wl.kept szX (fun g hg => keepX g (h.wl.lt g hg).2 (fun e => h.ne3 g e hg) (fun e => h.ne1 (e ▸ hg)))
    · exact h.mp.kept (keepX mb h.mp.lt ns.2.2.2.1 ns.1.symm)
    · have := rows_kept ro (w' := W2.setCell ⟨r, 5, none⟩ (.slice va (LY.length + 1) vc)) (fun g e => set_heap W2 r 5 _ g (fun e2 => vne (by rw [← e2]; exact e)))
      exact this
    · exact rows_kept h.fr (fun g e => keepX g (h.fr.lt g e).2 (fun e2 => ns.2.2.2.2.2 g e2 e) (fun e2 => ns.2.2.1 (e2 ▸ e)))
    · intro q hq
      have := h.at_ q hq
      rw [List.getElem?_append_left (List.getElem?_eq_some_iff.1 this).1]; exact this
    · simp only [List.length_append, List.length_cons, List.length_nil]; omega
    · simp only [List.length_append, List.length_cons, List.length_nil]; omega
    · intro g e hs
      have := (h.wl.lt g hs).2
      rcases ob with e2 | e2
      · exact h.ne3 g (by rw [← e2]; exact e) hs
      · rw [e2] at e; injection e with e; omega
    · have := (h.places q hq).1; omega
    · refine ⟨?_, ?_, ?_, szX, fun g hg hn => keepX g hg (fun e => hn (.inr (.inr (.inl e)))) (fun e => hn (.inl e))⟩
      · exact gr.os.trans gA.os
      · exact gr.tape.trans gA.tape
      · exact gr.output.trans gA.output
    · intro g hg
      rcases hg with e | e | e | e
      · exact .inl (.inl e)
      · exact .inl (.inr (.inl e))
      · rcases ob with e2 | e2
        · exact .inl (.inr (.inr (.inl (by rw [← e2]; exact e))))
        · rw [e2] at e; injection e with e; exact .inr (by omega)
      · exact .inl (.inr (.inr (.inr e)))
  have HRUN := hide hrun
  have wr : IntKind.i64.wrap ((LY.length : Int) + 1 - 1) = (LY.length : Int) := by rw [IntKind.wrap_i64]; have := h.l4; omega
  have vsh : ∃ xa xc, vl = .slice xa LY.length xc := by
    rcases h.ly.2 with ⟨e1, e2⟩ | ⟨g', c', cur, e1, -⟩
    · exact ⟨none, 0, by rw [e1, e2]⟩
    · exact ⟨_, _, e1⟩
  obtain ⟨xa, xc, rfl⟩ := vsh
  have l4 := h.l4
  rw [zGm_cs] at HRUN
  clear h hfr cs st b2 gr ro keep vne ns hA2 gA hrun ob fc
  generalize LY.length = m at *
  simp only [List.length_nil] at *
  go_enter Tryd.func30, Tryd.ntmps30
  go_wp2_with (at_builtin; refine wpList_append_runQ _ rfl _ _ 48 48 rfl _ _ rfl rfl (unhide HRUN) ?_)
  go_ret
  exact ⟨rfl, unhide FIN⟩

theorem room_any (h : RP b w r W mb vl vf Sw c T A LY FR 0 now sp nx) (hA : A.length < 4096) :
    Calls Tryd.prog 30 #[ptr r] w fun e w' => ∃ p : Nat, e = .returned (.int .i64 (p : Int)) ∧ RoomP b w r W mb vl vf Sw c T A now sp nx p w' := by
  rcases List.eq_nil_or_concat FR with rfl | ⟨F, p, rfl⟩
  · refine (room_new h hA).mono ?_
    rintro e w' ⟨rfl, q⟩
    exact ⟨_, rfl, q⟩
  · rw [List.concat_eq_append] at h
    refine (room_old p F h).mono ?_
    rintro e w' ⟨rfl, q⟩
    exact ⟨_, rfl, q⟩
end
end Go.Proofs.YtbdjlhkgpblebaaDoor
