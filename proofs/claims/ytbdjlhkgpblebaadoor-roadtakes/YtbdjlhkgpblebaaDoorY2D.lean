/- A road in memory. -/
import Derived.Test.YtbdjlhkgpblebaaDoorY2B
import Derived.Test.YtbdjlhkgpblebaaDoorY2C
namespace Go.Proofs.YtbdjlhkgpblebaaDoor
open Go.RowKit Go.Shelf Go.Maps
set_option linter.unusedVariables false
set_option linter.unusedSimpArgs false
set_option maxRecDepth 100000
set_option maxHeartbeats 1000000

theorem rows_kept {base size n : Nat} {e : TypeId} {w w' : World} {v : Value} {xs : List Value} (h : w.ownsRow base e size v n xs) (hk : ∀ g, v.ownBlock = some g → w'.heap[g]? = w.heap[g]?) : w'.ownsRow base e size v n xs := row_kpt h (fun g _ _ e => hk g e)
theorem Wl.kept {B : Nat} {w w' : World} {S : Nat → Prop} {W c : Nat} {T : List Tm} (h : Wl B w S W c T) (hs : w.heap.size ≤ w'.heap.size) (hk : ∀ g, S g → w'.heap[g]? = w.heap[g]?) : Wl B w' S W c T := by
  obtain ⟨mb, L, h1, h2, h3⟩ := h.ex
  exact ⟨⟨mb, L, h1.kept (fun g hg => hk g (h3 g hg)), h2, h3⟩, fun g hg => ⟨(h.lt g hg).1, Nat.lt_of_lt_of_le (h.lt g hg).2 hs⟩⟩
theorem row_blk {w : World} {b n s : Nat} {e : TypeId} {v : Value} {xs : List Value} (h : w.ownsRow b e s v n xs) {g : Nat} (hg : v.ownBlock = some g) : ∃ cur, Blk w g cur e := by
  rcases h.2 with ⟨rfl, -⟩ | ⟨g', c, cur, rfl, q1, q2, -⟩
  · cases hg
  · cases hg; exact ⟨cur, q2⟩
theorem blk_ne {w : World} {a b : Nat} {ca cb : Array Value} {ta tb : TypeId} (ha : Blk w a ca ta) (hb : Blk w b cb tb) (h : ta ≠ tb) : a ≠ b := by
  rintro rfl
  unfold Blk at ha hb
  rw [ha] at hb
  injection hb with hb
  injection hb with h1 h2 h3
  exact h h2

def plV (l : List Nat) : List Value := l.map fun (x : Nat) => Value.int .i64 (x : Int)
theorem plV_len (l : List Nat) : (plV l).length = l.length := by simp [plV]
def rdc (now sp nx : Nat) (W mb : Nat) (vl vf : Value) : Array Value := #[.int .i64 (now : Int), .int .i64 (sp : Int), .int .i64 (nx : Int), ptr W, .map (some mb), vl, vf]

/-- The road at r, by its parts; k places are between free and taken. -/
structure RP (b : Nat) (w : World) (r W mb : Nat) (vl vf : Value) (Sw : Nat → Prop) (c : Nat) (T : List Tm) (A : List (Gm × Nat)) (LY : List Gm) (FR : List Nat) (k now sp nx : Nat) : Prop where
  blk : Blk w r (rdc now sp nx W mb vl vf) 51
  wl : Wl b w Sw W c T
  mp : Mq w mb (A.map fun p => (p.1.id, p.2))
  ly : w.ownsRow b 56 5 vl LY.length (clG LY)
  fr : w.ownsRow b 3 1 vf FR.length (plV FR)
  ids : ∀ p ∈ A, p.1.id < nx
  asc : A.Pairwise (fun x y => x.1.id < y.1.id)
  at_ : ∀ p ∈ A, LY[p.2]? = some p.1
  nd : (A.map Prod.snd ++ FR).Nodup
  lt : ∀ x ∈ FR, x < LY.length
  len : A.length + FR.length + k = LY.length
  l4 : LY.length ≤ 4096
  gm : ∀ p ∈ A, p.1.Ok
  ck : c ≤ now
  n50 : now ≤ 2 ^ 50
  s36 : sp ≤ 2 ^ 36
  low : b ≤ r ∧ b ≤ mb
  ne1 : ¬ Sw r
  ne2 : ¬ Sw mb
  ne3 : ∀ g, vl.ownBlock = some g → ¬ Sw g
  ne4 : ∀ g, vf.ownBlock = some g → ¬ Sw g

/-- The road's own blocks, but for the wheel's. -/
def OW (r mb : Nat) (vl vf : Value) (g : Nat) : Prop := g = r ∨ g = mb ∨ vl.ownBlock = some g ∨ vf.ownBlock = some g

section
variable {b : Nat} {w w' : World} {r W mb : Nat} {vl vf : Value} {Sw : Nat → Prop} {c : Nat} {T : List Tm} {A : List (Gm × Nat)} {LY : List Gm} {FR : List Nat} {k now sp nx : Nat}

theorem RP.nes (h : RP b w r W mb vl vf Sw c T A LY FR k now sp nx) : r ≠ mb ∧ vl.ownBlock ≠ some r ∧ vf.ownBlock ≠ some r ∧ vl.ownBlock ≠ some mb ∧ vf.ownBlock ≠ some mb ∧ ∀ g, vl.ownBlock = some g → vf.ownBlock ≠ some g := by
  refine ⟨h.mp.ne h.blk, fun e => ?_, fun e => ?_, fun e => ?_, fun e => ?_, fun g e e2 => ?_⟩
  · obtain ⟨cur, hb⟩ := row_blk h.ly e; exact blk_ne hb h.blk (by decide) rfl
  · obtain ⟨cur, hb⟩ := row_blk h.fr e; exact blk_ne hb h.blk (by decide) rfl
  · obtain ⟨cur, hb⟩ := row_blk h.ly e; exact h.mp.ne hb rfl
  · obtain ⟨cur, hb⟩ := row_blk h.fr e; exact h.mp.ne hb rfl
  · obtain ⟨cur, hb⟩ := row_blk h.ly e; obtain ⟨cur2, hb2⟩ := row_blk h.fr e2; exact blk_ne hb hb2 (by decide) rfl
theorem RP.olt (h : RP b w r W mb vl vf Sw c T A LY FR k now sp nx) : ∀ g, Sw g ∨ OW r mb vl vf g → b ≤ g ∧ g < w.heap.size := by
  rintro g (hs | rfl | rfl | e | e)
  · exact h.wl.lt g hs
  · exact ⟨h.low.1, h.blk.lt⟩
  · exact ⟨h.low.2, h.mp.lt⟩
  · exact h.ly.lt g e
  · exact h.fr.lt g e
theorem RP.kept (h : RP b w r W mb vl vf Sw c T A LY FR k now sp nx) (hs : w.heap.size ≤ w'.heap.size) (hk : ∀ g, Sw g ∨ OW r mb vl vf g → w'.heap[g]? = w.heap[g]?) : RP b w' r W mb vl vf Sw c T A LY FR k now sp nx :=
  { h with
    blk := (hk r (.inr (.inl rfl))).trans h.blk
    wl := h.wl.kept hs (fun g hg => hk g (.inl hg))
    mp := h.mp.kept (hk mb (.inr (.inr (.inl rfl))))
    ly := rows_kept h.ly (fun g e => hk g (.inr (.inr (.inr (.inl e)))))
    fr := rows_kept h.fr (fun g e => hk g (.inr (.inr (.inr (.inr e))))) }
theorem RP.grown (h : RP b w r W mb vl vf Sw c T A LY FR k now sp nx) (g : w.grownBy w' none) : RP b w' r W mb vl vf Sw c T A LY FR k now sp nx :=
  h.kept g.size (fun i hi => g.block i (h.olt i hi).2 (by simp))
theorem RP.places (h : RP b w r W mb vl vf Sw c T A LY FR k now sp nx) : ∀ p ∈ A, p.2 < LY.length ∧ p.2 < 4096 := by
  intro p hp
  have := (List.getElem?_eq_some_iff.1 (h.at_ p hp)).1
  have := h.l4
  omega
theorem RP.ids2 (h : RP b w r W mb vl vf Sw c T A LY FR k now sp nx) : ∀ p ∈ A, ∀ q ∈ A, p.1.id = q.1.id → p = q := by
  have : ∀ (A : List (Gm × Nat)), A.Pairwise (fun x y => x.1.id < y.1.id) → ∀ p ∈ A, ∀ q ∈ A, p.1.id = q.1.id → p = q := by
    intro A
    induction A with
    | nil => intro _ p hp; cases hp
    | cons a A ih =>
      intro hA p hp q hq e
      rw [List.pairwise_cons] at hA
      rcases List.mem_cons.1 hp with h1 | hp <;> rcases List.mem_cons.1 hq with h2 | hq
      · rw [h1, h2]
      · have := hA.1 q hq; rw [h1] at e; omega
      · have := hA.1 p hp; rw [h2] at e; omega
      · exact ih hA.2 p hp q hq e
  exact this A h.asc
theorem RP.pl2 (h : RP b w r W mb vl vf Sw c T A LY FR k now sp nx) : ∀ p ∈ A, ∀ q ∈ A, p.2 = q.2 → p = q := fun p hp q hq e => by
  have h1 := h.at_ p hp
  have h2 := h.at_ q hq
  rw [e, h2] at h1
  injection h1 with h1
  exact h.ids2 p hp q hq (by rw [h1])
theorem RP.cells (h : RP b w r W mb vl vf Sw c T A LY FR k now sp nx) : w.cell? ⟨r, 0, none⟩ = some (.int .i64 (now : Int)) ∧ w.cell? ⟨r, 1, none⟩ = some (.int .i64 (sp : Int)) ∧ w.cell? ⟨r, 2, none⟩ = some (.int .i64 (nx : Int)) ∧ w.cell? ⟨r, 3, none⟩ = some (ptr W) ∧ w.cell? ⟨r, 4, none⟩ = some (.map (some mb)) ∧ w.cell? ⟨r, 5, none⟩ = some vl ∧ w.cell? ⟨r, 6, none⟩ = some vf :=
  ⟨h.blk.cell 0 _ rfl, h.blk.cell 1 _ rfl, h.blk.cell 2 _ rfl, h.blk.cell 3 _ rfl, h.blk.cell 4 _ rfl, h.blk.cell 5 _ rfl, h.blk.cell 6 _ rfl⟩
/-- What is written into the road's own block. -/
theorem RP.setR (h : RP b w r W mb vl vf Sw c T A LY FR k now sp nx) (j : Nat) (v : Value) {now' sp' nx' : Nat} {vl' vf' : Value} (e : (rdc now sp nx W mb vl vf).setIfInBounds j v = rdc now' sp' nx' W mb vl' vf') : Blk (w.setCell ⟨r, j, none⟩ v) r (rdc now' sp' nx' W mb vl' vf') 51 ∧ ∀ g, g ≠ r → (w.setCell ⟨r, j, none⟩ v).heap[g]? = w.heap[g]? := by
  refine ⟨?_, fun g hg => set_heap w r j v g hg⟩
  have := h.blk.setC j v
  rw [e] at this
  exact this
end

def tmA (A : List (Gm × Nat)) : List Tm := A.map fun p => (p.2, p.1.at_)
/-- The road at r, by what one sees of it; its blocks are of S. -/
structure RI (b : Nat) (w : World) (S : Nat → Prop) (r : Nat) (R : Rs) : Prop where
  ex : ∃ W mb vl vf Sw c T A LY FR, RP b w r W mb vl vf Sw c T A LY FR 0 R.now R.sp R.nx ∧ T.Perm (tmA A) ∧ A.map Prod.fst = R.B ∧ ∀ g, Sw g ∨ OW r mb vl vf g → S g
  lt : ∀ g, S g → b ≤ g ∧ g < w.heap.size

section
variable {b : Nat} {w w' : World} {S S2 : Nat → Prop} {r : Nat} {R : Rs}
theorem RI.grown (h : RI b w S r R) (g : w.grownBy w' none) : RI b w' S r R := by
  obtain ⟨W, mb, vl, vf, Sw, c, T, A, LY, FR, h1, h2⟩ := h.ex
  exact ⟨⟨W, mb, vl, vf, Sw, c, T, A, LY, FR, h1.grown g, h2⟩, fun i hi => ⟨(h.lt i hi).1, Nat.lt_of_lt_of_le (h.lt i hi).2 g.size⟩⟩
theorem RI.other (h : RI b w S r R) (k : Kp S2 w w') (hd : ∀ g, S g → ¬ S2 g) : RI b w' S r R := by
  obtain ⟨W, mb, vl, vf, Sw, c, T, A, LY, FR, h1, h2, h3, h4⟩ := h.ex
  exact ⟨⟨W, mb, vl, vf, Sw, c, T, A, LY, FR, h1.kept k.size (fun g hg => k.block g (h.lt g (h4 g hg)).2 (hd g (h4 g hg))), h2, h3, h4⟩, fun i hi => ⟨(h.lt i hi).1, Nat.lt_of_lt_of_le (h.lt i hi).2 k.size⟩⟩
theorem RI.b4 (h : RI b w S r R) : R.B.length ≤ 4096 ∧ (∀ g ∈ R.B, g.Ok ∧ g.id < R.nx) ∧ R.B.Pairwise (fun x y => x.id < y.id) ∧ R.now ≤ 2 ^ 50 ∧ R.sp ≤ 2 ^ 36 := by
  obtain ⟨W, mb, vl, vf, Sw, c, T, A, LY, FR, h1, h2, h3, h4⟩ := h.ex
  rw [← h3]
  refine ⟨?_, ?_, ?_, h1.n50, h1.s36⟩
  · have := h1.len; have := h1.l4; rw [List.length_map]; omega
  · intro g hg
    obtain ⟨p, hp, rfl⟩ := List.mem_map.1 hg
    exact ⟨h1.gm p hp, h1.ids p hp⟩
  · rw [List.pairwise_map]; exact h1.asc
end
theorem St.r0 (w : World) (S : Nat → Prop) : St w w S S := ⟨Kp.refl _ _, fun _ h => h, fun _ h => .inl h⟩
theorem St.tr {w1 w2 w3 : World} {S1 S2 S3 : Nat → Prop} (h : St w1 w2 S1 S2) (k : St w2 w3 S2 S3) : St w1 w3 S1 S3 := by
  refine ⟨⟨k.kp.os.trans h.kp.os, k.kp.tape.trans h.kp.tape, k.kp.output.trans h.kp.output, Nat.le_trans h.kp.size k.kp.size, fun g hg hn => ?_⟩, fun g hg => k.up g (h.up g hg), fun g hg => ?_⟩
  · refine (k.kp.block g (Nat.lt_of_lt_of_le hg h.kp.size) (fun h2 => ?_)).trans (h.kp.block g hg hn)
    rcases h.dn g h2 with h3 | h3
    · exact hn h3
    · omega
  · rcases k.dn g hg with h2 | h2
    · exact h.dn g h2
    · exact .inr (Nat.le_trans h.kp.size h2)
/-- A call that wrote blocks of S alone, and made some. -/
theorem St.of {w w' : World} {S S' U : Nat → Prop} (k : Kp U w w') (hU : ∀ g, U g → S g) (up : ∀ g, S g → S' g) (dn : ∀ g, S' g → S g ∨ w.heap.size ≤ g) : St w w' S S' := ⟨k.mono (fun g _ h => hU g h), up, dn⟩
end Go.Proofs.YtbdjlhkgpblebaaDoor
