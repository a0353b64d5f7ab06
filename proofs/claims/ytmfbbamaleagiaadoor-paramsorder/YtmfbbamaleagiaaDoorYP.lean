/- ParamsOrder: what is laid, and what is kept for later. -/
import Derived.Test.YtmfbbamaleagiaaDoorYM
import Derived.Test.YtmfbbamaleagiaaDoorYE
namespace Go.Proofs.YtmfbbamaleagiaaDoor
open Go.RowKit
set_option linter.unusedVariables false
set_option maxRecDepth 100000
set_option maxHeartbeats 1000000

/-- Bytes that an append onto v leaves. -/
def KB (W : World) (v : Value) (a : Option Addr) (L : List Int) : Prop := Rd W a L ∧ ∀ x, a = some x → x.block < W.heap.size ∧ v.ownBlock ≠ some x.block
theorem KB.grown {W W' : World} {v : Value} {a : Option Addr} {L : List Int} (h : KB W v a L) (g : W.grownBy W' none) : KB W' v a L :=
  ⟨rd_below h.1 (grown_bel g), fun x ex => ⟨Nat.lt_of_lt_of_le (h.2 x ex).1 g.size, (h.2 x ex).2⟩⟩
theorem KB.moved {W W' : World} {v v' : Value} {a : Option Addr} {L : List Int} (h : KB W v a L) (hm : Moved W W' v v') : KB W' v' a L := by
  have hs : W.heap.size ≤ W'.heap.size := by rcases hm with ⟨-, g⟩ | ⟨-, g, -⟩ <;> exact g.size
  refine ⟨⟨h.1.1, fun hne => ?_⟩, fun x ex => ⟨Nat.lt_of_lt_of_le (h.2 x ex).1 hs, ?_⟩⟩
  · obtain ⟨b, off, rfl, hc⟩ := h.1.2 hne
    refine ⟨b, off, rfl, fun i hi => ?_⟩
    obtain ⟨h1, h2⟩ := h.2 _ rfl
    have e : W'.heap[b]? = W.heap[b]? := by
      rcases hm with ⟨-, hg⟩ | ⟨-, hg, -⟩
      · exact hg.block b h1 (fun c => h2 c.symm)
      · exact hg.block b h1 (by simp)
    have := hc i hi
    simp only [World.cell?] at this ⊢
    rw [e]; exact this
  · rcases hm with ⟨e, -⟩ | ⟨e, -, -⟩
    · rw [e]; exact (h.2 x ex).2
    · rw [e]; intro c; injection c with c; have := (h.2 x ex).1; omega
theorem own_lt {base : Nat} {w : World} {v : Value} {d : List Int} (h : OwnB base w v d) : ∀ g, v.ownBlock = some g → g < w.heap.size := by
  intro g hg
  rcases h.2 with ⟨h1, -⟩ | ⟨g', cap, cur, e1, -, hgg, -⟩
  · subst h1; cases hg
  · subst e1
    simp [Value.ownBlock] at hg
    subst hg
    by_cases c : g' < w.heap.size
    · exact c
    · rw [Array.getElem?_eq_none (by omega)] at hgg; cases hgg
/-- What lies in newer blocks. -/
theorem KB.new {wr W : World} {v : Value} {a : Option Addr} {L : List Int} {d d' : List Int} {base n c : Nat} (hv : OwnB base wr v d) (hr : Rd W a L) (ho : OwnB wr.heap.size W (.slice a n c) d') : KB W v a L := by
  refine ⟨hr, fun x ex => ?_⟩
  subst ex
  have h1 := own_lt hv
  rcases ho.2 with ⟨e, -⟩ | ⟨g', cap, cur, e1, hb, hgg, -⟩
  · cases e
  · cases e1
    refine ⟨?_, fun cc => by have := h1 _ cc; simp only at this; omega⟩
    by_cases c : g' < W.heap.size
    · exact c
    · rw [Array.getElem?_eq_none (by omega)] at hgg; cases hgg

theorem app_oth (W3 W6 : World) (b1 : Value) (d ob : List Int) (ab : Option Addr) (cb : Nat) (ho : OwnB W3.heap.size W6 b1 d) (hg : W3.grownBy W6 none) (hr : Rd W3 ab ob) (hl : d.length + ob.length + 20 ≤ 140737488355328) :
    ∃ x1 y1 x2 y2 x3 y3, (∀ ty, (Builtin.append_ #[31, 31] ty #[b1, .slice (some ⟨W6.heap.size + 1, 0, none⟩) 1 1]).run Tryd.prog ((W6.alloc (bts (layF ob.length (sizeF ob.length)))).alloc (.cells #[.int .u8 40] 5)) = .ok x1 y1) ∧
      (∀ ty, (Builtin.append_ #[31, 31] ty #[x1, .slice (some ⟨W6.heap.size, 0, none⟩) (sizeF ob.length) (sizeF ob.length)]).run Tryd.prog y1 = .ok x2 y2) ∧
      (∀ ty, (Builtin.append_ #[31, 31] ty #[x2, .slice ab ob.length cb]).run Tryd.prog y2 = .ok x3 y3) ∧ OwnB W3.heap.size y3 x3 (d ++ (sh 40 ++ sh ob.length ++ ob)) ∧ W3.grownBy y3 none ∧ ∀ a L, KB W6 b1 a L → KB y3 x3 a L := by
  have hz := sizeF_pos ob.length (by omega)
  have gA := grown2 W6 (bts (layF ob.length (sizeF ob.length))) (.cells #[.int .u8 40] 5)
  have B1 := (Blk.two W6 (((layF ob.length (sizeF ob.length)).map (Value.int .u8)).toArray) #[.int .u8 40] 5 5)
  have r1 : Rd ((W6.alloc (bts (layF ob.length (sizeF ob.length)))).alloc (.cells #[.int .u8 40] 5)) (some ⟨W6.heap.size + 1, 0, none⟩) [40] := rd_at (l := [40]) B1.2.1 (by simp [IsB])
  have r2 : Rd ((W6.alloc (bts (layF ob.length (sizeF ob.length)))).alloc (.cells #[.int .u8 40] 5)) (some ⟨W6.heap.size, 0, none⟩) (sh ob.length) := rd_at (l := sh ob.length) B1.1 (lay_bytes _ (by omega) (by omega))
  have hlt := own_lt ho
  have hsz : ((W6.alloc (bts (layF ob.length (sizeF ob.length)))).alloc (.cells #[.int .u8 40] 5)).heap.size = W6.heap.size + 1 + 1 := by rw [size_alloc', size_alloc']
  have ho' : OwnB W3.heap.size ((W6.alloc (bts (layF ob.length (sizeF ob.length)))).alloc (.cells #[.int .u8 40] 5)) b1 d := World.ownsRow.kept ho gA (by cases b1.ownBlock <;> simp)
  have k2 : KB ((W6.alloc (bts (layF ob.length (sizeF ob.length)))).alloc (.cells #[.int .u8 40] 5)) b1 (some ⟨W6.heap.size, 0, none⟩) (sh ob.length) :=
    ⟨r2, fun x ex => by cases ex; exact ⟨by rw [hsz]; show W6.heap.size < _; omega, fun c => by have := hlt _ c; simp only at this; omega⟩⟩
  obtain ⟨x1, y1, e1, o1, g1, m1⟩ := app_moved W3 _ b1 d [40] _ 1 ho' (hg.trans gA) r1 (by simp; omega)
  obtain ⟨x2, y2, e2, o2, g2, m2⟩ := app_moved W3 y1 x1 (d ++ [40]) (sh ob.length) _ (sizeF ob.length) o1 g1 (k2.moved m1).1 (by rw [sh_length]; simp; omega)
  obtain ⟨x3, y3, e3, o3, g3, m3⟩ := app_moved W3 y2 x2 (d ++ [40] ++ sh ob.length) ob ab cb o2 g2 (rd_below hr (grown_bel g2)) (by rw [List.length_append, List.length_append, sh_length]; simp; omega)
  rw [sh_length] at e2
  refine ⟨x1, y1, x2, y2, x3, y3, e1, e2, e3, ?_, g3, fun a L hk => (((hk.grown gA).moved m1).moved m2).moved m3⟩
  have h40 : sh 40 = [40] := by decide
  rw [h40]
  simpa using o3

/-- What is kept to stand twice. -/
def AG (p : Ps) (f : Nat → Nat) (wr : World) (b ag : Value) (j : Nat) : Prop :=
  ∃ a n c, ag = .slice a n c ∧ (n = 0 ∨ ∃ q, q < j ∧ p.l.getD (f q) 0 ≠ untT (f q) ∧ n = (partK (f q) (p.l.getD (f q) 0)).length ∧ KB wr b a (partK (f q) (p.l.getD (f q) 0)))
theorem AG.to {p : Ps} {f : Nat → Nat} {wr W : World} {b b' ag : Value} {j j' : Nat} (h : AG p f wr b ag j) (hj : j ≤ j') (hk : ∀ a L, KB wr b a L → KB W b' a L) : AG p f W b' ag j' := by
  obtain ⟨a, n, c, e, h⟩ := h
  refine ⟨a, n, c, e, h.imp id ?_⟩
  rintro ⟨q, h1, h2, h3, h4⟩
  exact ⟨q, by omega, h2, h3, hk _ _ h4⟩
theorem flat_len' (p : Ps) (hp : ∀ j, j < 9 → okV j (p.l.getD j 0)) (f : Nat → Nat) (hf : ∀ i, i < 9 → f i < 9) (ob : List Int) (ho : (ob.length : Int) ≤ 4611686018427387903) : ∀ i, i ≤ 9 → (flat p (segsK f ob i)).length ≤ i * 24 + (if 4 < i then 20 + ob.length else 0) := by
  intro i
  induction i with
  | zero => intro _; simp [segsK, flat]
  | succ i ih =>
    intro hi
    have h1 := ih (by omega)
    have h2 := part_len (f i) (hf i (by omega)) _ (hp _ (hf i (by omega)))
    rw [segsK, flat_app, List.length_append]
    by_cases c : i = 4
    · subst c
      rw [if_pos rfl]
      have z := sizeF_pos ob.length ho
      have z40 : sizeF 40 = 1 := by decide
      simp only [flat, Seg.bytes, List.length_append, List.length_nil, sh_length]
      simp at h1
      rw [if_pos (by omega)]
      omega
    · rw [if_neg c]
      simp only [flat, Seg.bytes, List.length_append, List.length_nil]
      by_cases c2 : 4 < i
      · rw [if_pos c2] at h1; rw [if_pos (by omega)]; omega
      · rw [if_neg c2] at h1; rw [if_neg (by omega)]; omega
theorem flat_len (p : Ps) (hp : ∀ j, j < 9 → okV j (p.l.getD j 0)) (f : Nat → Nat) (hf : ∀ i, i < 9 → f i < 9) (ob : List Int) (ho : (ob.length : Int) ≤ 4611686018427387903) (i : Nat) (hi : i ≤ 9) : (flat p (segsK f ob i)).length ≤ i * 24 + 20 + ob.length := by
  have := flat_len' p hp f hf ob ho i hi
  split at this <;> omega
theorem flat_bytes (p : Ps) (hp : ∀ j, j < 9 → okV j (p.l.getD j 0)) (f : Nat → Nat) (hf : ∀ i, i < 9 → f i < 9) (ob : List Int) (ho : (ob.length : Int) ≤ 4611686018427387903) (hb : ∀ x ∈ ob, IsB x) : ∀ i, i ≤ 9 → ∀ x ∈ flat p (segsK f ob i), IsB x := by
  intro i
  induction i with
  | zero => intro _ x hx; simp [segsK, flat] at hx
  | succ i ih =>
    intro hi x hx
    rw [segsK, flat_app, List.mem_append] at hx
    rcases hx with hx | hx
    · exact ih (by omega) x hx
    · have hpart : ∀ y ∈ partK (f i) (p.l.getD (f i) 0), IsB y := by
        intro y hy
        unfold partK at hy
        split at hy
        · cases hy
        · exact part_byte (f i) (hf i (by omega)) _ (hp _ (hf i (by omega))) y hy
      by_cases c : i = 4
      · rw [if_pos c] at hx
        simp only [flat, Seg.bytes, List.mem_append, List.not_mem_nil, or_false] at hx
        rcases hx with hx | (hx | hx) | hx
        · exact hpart x hx
        · exact lay_bytes 40 (by omega) (by omega) x hx
        · exact lay_bytes _ (by omega) ho x hx
        · exact hb x hx
      · rw [if_neg c] at hx
        simp only [flat, Seg.bytes, List.mem_append, List.not_mem_nil, or_false] at hx
        exact hpart x hx
end Go.Proofs.YtmfbbamaleagiaaDoor
