/- Road: while those that have arrived are taken out. -/
import Derived.Test.YtbdjlhkgpblebaaDoorY2O
namespace Go.Proofs.YtbdjlhkgpblebaaDoor
open Go.RowKit Go.Shelf Go.Maps
set_option linter.unusedVariables false
set_option linter.unusedSimpArgs false
set_option maxRecDepth 100000
set_option maxHeartbeats 1000000

def leftA (A : List (Gm × Nat)) (D : List Nat) : List (Gm × Nat) := A.filter fun q => !decide (q.2 ∈ D)
theorem leftA_nil (A : List (Gm × Nat)) : leftA A [] = A := List.filter_eq_self.2 (fun q _ => by simp)
theorem leftA_next (A : List (Gm × Nat)) (D : List Nat) (p : Nat) : rest (leftA A D) p = leftA A (D ++ [p]) := by
  unfold rest leftA
  rw [List.filter_filter]
  apply List.filter_congr
  intro q _
  by_cases h1 : q.2 ∈ D
  · simp [h1]
  · by_cases h2 : q.2 = p
    · simp [h1, h2]
    · simp [h1, h2]

/-- While those that are due are taken out: k of them are. -/
structure TkI (b : Nat) (w : World) (S : Nat → Prop) (n0 n1 r W mb : Nat) (vl : Value) (Sw : Nat → Prop) (c : Nat) (T : List Tm) (A0 : List (Gm × Nat)) (now sp nx : Nat) (D : List Nat) (da : Option Addr) (dc k : Nat) (wr : World) (aa : Option Addr) (ac : Nat) : Prop where
  ex : ∃ vf LY FR arr, RP b wr r W mb vl vf Sw c T (leftA A0 (D.take k)) LY FR 0 now sp nx ∧ (arr ++ (leftA A0 (D.take k)).map Prod.fst).Perm (A0.map Prod.fst) ∧ arr.length = k ∧ wr.ownsRow n1 56 5 (.slice aa k ac) k (clG arr) ∧
    (∀ g, vf.ownBlock = some g → (S g ∧ g < n0) ∨ n1 ≤ g)
  row : wr.ownsRow n0 3 1 (.slice da D.length dc) D.length (plV D)
  dlt : ∀ g, (Value.slice da D.length dc).ownBlock = some g → g < n1
  kp : Kp S w wr
  sz : w.heap.size ≤ n0 ∧ n0 ≤ n1 ∧ n1 ≤ wr.heap.size
  own : S r ∧ r < n0 ∧ S mb ∧ mb < n0 ∧ (∀ g, Sw g → S g ∧ g < n0) ∧ ∀ g, vl.ownBlock = some g → S g ∧ g < n0

section
variable {b : Nat} {w : World} {S : Nat → Prop} {n0 n1 r W mb : Nat} {vl : Value} {Sw : Nat → Prop} {c : Nat} {T : List Tm} {A0 : List (Gm × Nat)} {now sp nx : Nat} {D : List Nat} {da : Option Addr} {dc k : Nat} {wr : World} {aa : Option Addr} {ac : Nat}

theorem TkI.round (h : TkI b w S n0 n1 r W mb vl Sw c T A0 now sp nx D da dc k wr aa ac) (p : Nat) (hp : D[k]? = some p) (hD : D.Nodup) (hA : ∀ x ∈ D, x ∈ A0.map Prod.snd) (hnx : nx ≤ 4611686018427387904) (hb : b ≤ n1) (hl : A0.length ≤ 4096) :
    Calls Tryd.prog 22 #[ptr r, .int .i64 (p : Int)] wr fun e W3 => ∃ g : Gm, e = .returned (.agg #[.int .i64 (g.id : Int), .int .i64 g.to, .int .i64 (g.at_ : Int), .string (strOfNums g.tx), .int .i64 g.mark]) ∧
      Hid (∃ a' c' W4, (Builtin.append_ #[48, 48] 48 #[.slice aa k ac, .slice (some ⟨W3.heap.size, 0, none⟩) 1 1]).run Tryd.prog (W3.alloc (.cells #[.int .i64 (g.id : Int), .int .i64 g.to, .int .i64 (g.at_ : Int), .string (strOfNums g.tx), .int .i64 g.mark] 56)) = .ok (.slice a' (k + 1) c') W4 ∧
        TkI b w S n0 n1 r W mb vl Sw c T A0 now sp nx D da dc (k + 1) W4 a' c') := by
  obtain ⟨vf, LY, FR, arr, rp, pm, al, ro, vfn⟩ := h.ex
  have klt := (List.getElem?_eq_some_iff.1 hp).1
  have take1 : D.take (k + 1) = D.take k ++ [p] := by rw [List.take_add_one, hp]; rfl
  have pD : p ∈ D := List.mem_of_getElem? hp
  have pnot : p ∉ D.take k := by
    intro hm
    rw [← List.take_append_drop k D, List.nodup_append] at hD
    refine hD.2.2 p hm p ?_ rfl
    obtain ⟨h1, h2⟩ := List.getElem?_eq_some_iff.1 hp
    rw [List.drop_eq_getElem_cons h1, h2]; simp
  obtain ⟨⟨g, p'⟩, hq0, e⟩ := List.mem_map.1 (hA p pD)
  simp only at e
  subst e
  have hq : (g, p') ∈ leftA A0 (D.take k) := List.mem_filter.2 ⟨hq0, by simpa using pnot⟩
  refine (clear_any rp g p' hq hnx).mono ?_
  rintro e W3 ⟨rfl, vf', LY', FR', rp3, k3, up3⟩
  refine ⟨g, rfl, ?_⟩
  have ns := rp.nes
  have sz3 := k3.size
  have notOW : ∀ (t : TypeId) (x n s : Nat) (v : Value) (xs : List Value), wr.ownsRow x t s v n xs → t = 56 → n1 ≤ x → ∀ i, v.ownBlock = some i → ¬ OW r mb vl vf i := fun t x n s v xs hr ht hx i e ho => by
    obtain ⟨cur, hb⟩ := row_blk hr e
    have lo := (hr.lt i e).1
    have := h.sz
    rcases ho with rfl | rfl | e2 | e2
    · have := h.own.2.1; omega
    · have := h.own.2.2.2.1; omega
    · have := (h.own.2.2.2.2.2 i e2).2; omega
    · obtain ⟨cur2, hb2⟩ := row_blk rp.fr e2
      exact blk_ne hb hb2 (by rw [ht]; decide) rfl
  have ro3 : W3.ownsRow n1 56 5 (.slice aa k ac) k (clG arr) := rows_kept ro (fun i e => k3.block i (ro.lt i e).2 (notOW _ _ _ _ _ _ ro rfl (Nat.le_refl _) i e))
  have gA : W3.grownBy (W3.alloc (.cells g.cs 56)) none := World.grownBy_alloc W3 _ none
  have szA := alloc_size W3 (.cells g.cs 56)
  have ro4 := rows_kept ro3 (w' := W3.alloc (.cells g.cs 56)) (fun i e => gA.block i (ro3.lt i e).2 (by simp))
  rw [← al] at ro4
  have n1sz := h.sz.2.2
  obtain ⟨a', c', W4, hrun, ro5, gr5, ob5⟩ := app_gm ro4 (by rw [szA]; omega) (by have := (leftA A0 (D.take k)).length; have := pm.length_eq; simp only [List.length_append, List.length_map] at this; omega) g W3.heap.size 1 (fun j v hj => by
    unfold World.cell?
    rw [heap_alloc_new]
    exact hj) 48
  rw [al] at hrun ro5 gr5 ob5
  rw [szA] at ob5
  refine ⟨a', c', W4, hrun, ?_⟩
  have keep4 : ∀ i, i < W3.heap.size → (Value.slice aa k ac).ownBlock ≠ some i → W4.heap[i]? = W3.heap[i]? := fun i h1 h2 => (gr5.block i (by rw [szA]; omega) (fun e => h2 e.symm)).trans (gA.block i h1 (by simp))
  have aan : ∀ i, (Value.slice aa k ac).ownBlock = some i → n1 ≤ i := fun i e => (ro.lt i e).1
  have sz4 : W3.heap.size ≤ W4.heap.size := by have := gr5.size; omega
  have own3 : ∀ i, Sw i ∨ OW r mb vl vf' i → i < W3.heap.size ∧ (Value.slice aa k ac).ownBlock ≠ some i := by
    intro i hi
    refine ⟨(rp3.olt i hi).2, fun e => ?_⟩
    have lo := aan i e
    rcases hi with hi | rfl | rfl | hi | hi
    · have := (h.own.2.2.2.2.1 i hi).2; have := h.sz; omega
    · have := h.own.2.1; have := h.sz; omega
    · have := h.own.2.2.2.1; have := h.sz; omega
    · have := (h.own.2.2.2.2.2 i hi).2; have := h.sz; omega
    · obtain ⟨cur, hb⟩ := row_blk ro3 e
      obtain ⟨cur2, hb2⟩ := row_blk rp3.fr hi
      exact blk_ne hb hb2 (by decide) rfl
  have rp4 := rp3.kept sz4 (fun i hi => keep4 i (own3 i hi).1 (own3 i hi).2)
  rw [leftA_next, ← take1] at rp4
  have row3 : W3.ownsRow n0 3 1 (.slice da D.length dc) D.length (plV D) := rows_kept h.row (fun i e => k3.block i (h.row.lt i e).2 (fun ho => by
    have lo := (h.row.lt i e).1
    have hi := h.dlt i e
    rcases ho with rfl | rfl | e2 | e2
    · have := h.own.2.1; omega
    · have := h.own.2.2.2.1; omega
    · have := (h.own.2.2.2.2.2 i e2).2; omega
    · rcases vfn i e2 with q | q
      · omega
      · omega))
  have row4 := rows_kept row3 (w' := W4) (fun i e => keep4 i (row3.lt i e).2 (fun e2 => by have := aan i e2; have := h.dlt i e; omega))
  refine ⟨⟨vf', LY', FR', arr ++ [g], rp4, ?_, by rw [List.length_append, al]; rfl, by rw [List.length_append, al] at ro5; exact ro5, fun i e => ?_⟩, row4, h.dlt, ⟨gr5.os.trans (k3.os.trans h.kp.os), gr5.tape.trans (k3.tape.trans h.kp.tape), gr5.output.trans (k3.output.trans h.kp.output), by have := h.sz; omega, fun i hi hn => ?_⟩, ⟨h.sz.1, h.sz.2.1, by omega⟩, h.own⟩
  · rw [take1, ← leftA_next]
    refine List.Perm.trans ?_ pm
    rw [List.append_assoc]
    refine List.Perm.append_left arr ?_
    have ids := (rest_len (A := leftA A0 (D.take k)) (p := p'))
    have : ∀ (B : List (Gm × Nat)), (g, p') ∈ B → (∀ x ∈ B, x.2 = p' → x = (g, p')) → (B.map Prod.snd).Nodup → ([g] ++ (rest B p').map Prod.fst).Perm (B.map Prod.fst) := by
      intro B
      induction B with
      | nil => intro hm; cases hm
      | cons a B ih =>
        intro hm hu hnd
        rw [List.map_cons, List.nodup_cons] at hnd
        by_cases ea : a.2 = p'
        · have := hu a (by simp) ea
          subst this
          have e2 : rest ((g, p') :: B) p' = B := by
            unfold rest
            rw [List.filter_cons, if_neg (by simp), List.filter_eq_self.2 (fun x hx => by
              simp only [decide_not, Bool.not_eq_eq_eq_not, Bool.not_true, decide_eq_false_iff_not]
              exact fun e3 => hnd.1 (by simp only; rw [← e3]; exact List.mem_map.2 ⟨x, hx, rfl⟩))]
          rw [e2]
          exact List.Perm.refl _
        · have e2 : rest (a :: B) p' = a :: rest B p' := by
            unfold rest
            rw [List.filter_cons, if_pos (by simpa using ea)]
          rw [e2]
          have hm2 : (g, p') ∈ B := by
            rcases List.mem_cons.1 hm with h | h
            · exact absurd (by rw [← h]) ea
            · exact h
          have := ih hm2 (fun x hx => hu x (List.mem_cons_of_mem _ hx)) hnd.2
          rw [List.map_cons, List.map_cons]
          exact (List.perm_middle (l₁ := [g])).trans (this.cons _)
    have nd := rp.nd
    rw [List.nodup_append] at nd
    exact this _ hq (fun x hx ex => rp.pl2 x hx (g, p') hq ex) nd.1
  · rcases up3 i (.inr (.inr (.inr e))) with ho | ho
    · rcases ho with rfl | rfl | e2 | e2
      · exact .inl ⟨h.own.1, h.own.2.1⟩
      · exact .inl ⟨h.own.2.2.1, h.own.2.2.2.1⟩
      · exact .inl (h.own.2.2.2.2.2 i e2)
      · exact vfn i e2
    · exact .inr (by omega)
  · have h0 := h.sz
    have n2 : ¬ OW r mb vl vf i := by
      rintro (rfl | rfl | e2 | e2)
      · exact hn h.own.1
      · exact hn h.own.2.2.1
      · exact hn (h.own.2.2.2.2.2 i e2).1
      · rcases vfn i e2 with q | q
        · exact hn q.1
        · omega
    exact (keep4 i (by omega) (fun e => by have := aan i e; omega)).trans ((k3.block i (by omega) n2).trans (h.kp.block i hi hn))
end
end Go.Proofs.YtbdjlhkgpblebaaDoor
