/- Meet and Less: a set whose runs are laid one behind the other. -/
import Derived.Test.YtbcmeaebjngapaaJK
import Derived.Test.YtbcmeaebjngapaaR2K
namespace Go.Proofs.Ytbcmeaebjngapaa
open Go.RowKit Go.Shelf
set_option linter.unusedVariables false
set_option maxHeartbeats 1000000
set_option maxRecDepth 100000

theorem app_nil (w : World) (a : Option Addr) (c : Nat) (ty : TypeId) : (Builtin.append_ #[26, 26] ty #[.slice none 0 0, .slice a 0 c]).run Try.prog w = .ok (.slice none 0 0) w := by
  obtain ⟨inf, hi0, hz0, hz1, hz2⟩ := info_parts Try.infoS
  cases a <;> simp [Builtin.append_, run_underlying Try.underlying26, sizeOf, typeInfo, hi0, Builtin.lenOf, Builtin.firstCells, loadCells, loadCellsFrom]
theorem app_zero {w : World} {g c xl : Nat} {L : List Sp} {sp : List Value} (h : RowAt w g c L sp) (hl : L.length = xl) (a : Option Addr) (k : Nat) (ty : TypeId) : (Builtin.append_ #[26, 26] ty #[.slice (some ⟨g, 0, none⟩) xl c, .slice a 0 k]).run Try.prog w = .ok (.slice (some ⟨g, 0, none⟩) xl c) w := by
  obtain ⟨inf, hi0, hz0, hz1, hz2⟩ := info_parts Try.infoS
  have hle : xl ≤ c := by have := h.2.1; omega
  cases a <;> simp [Builtin.append_, run_underlying Try.underlying26, sizeOf, typeInfo, hi0, Builtin.lenOf, Builtin.firstCells, loadCells, loadCellsFrom, storeCells, hle]

/-- One list behind another. -/
theorem app_rows {w : World} {v u : Value} {X L : List Sp} (hx : Row w v X) (hl : Row w u L) (hlen : (X.length + L.length) * 16 ≤ 140737488355328) :
    ∃ v' w', (∀ ty, (Builtin.append_ #[26, 26] ty #[v, u]).run Try.prog w = .ok v' w') ∧ Row w' v' (X ++ L) ∧ Moved w w' v v' := by
  obtain ⟨a, c, rfl, hcs, -, -⟩ := hl.shape
  by_cases hn : L = []
  · subst hn
    rw [List.append_nil]
    rcases Row.at hx with ⟨rfl, rfl⟩ | ⟨g, c', sp, rfl, hR⟩
    · exact ⟨_, _, fun ty => app_nil w a c ty, hx, .inl ⟨rfl, World.grownBy.refl _ _⟩⟩
    · exact ⟨_, _, fun ty => app_zero hR rfl a c ty, hx, .inl ⟨rfl, World.grownBy.refl _ _⟩⟩
  · rcases Row.at hl with ⟨-, e⟩ | ⟨g, c', sp, e, hR⟩
    · exact absurd e hn
    · injection e with e1 e2 e3
      subst e1 e3
      obtain ⟨v', w', hr, hro, hmo, _⟩ := app2 w v X L 0 hx ⟨g, 0, none⟩ c (fun j u hj => by rw [Addr.add_lit, Nat.zero_add]; exact hR.cell j u hj) hn hlen
      exact ⟨v', w', fun ty => hr, hro, hmo⟩

/-- What a call answers about a set that came in, at whatever comes of w. -/
def Gives (fn : Nat) (w : World) (p : Value) (G : Sp → List Sp) (La : List Sp) : Prop := ∀ r ∈ La, ∀ W, w.grownBy W none → Calls Try.prog fn #[p, .int .i64 r.1, .int .i64 r.2] W fun e w' => ∃ v', e = .returned v' ∧ Row w' v' (G r) ∧ Fresh W v' ∧ W.grownBy w' none

/-- The loop variable's box is not the set's row. -/
def AxM (a : Act) (t1 d1 b : Nat) (x : Sp) (a' : Act) (W : World) : Prop := ∃ Bx, W.heap[Bx]? = some (.cells #[.int .i64 x.1, .int .i64 x.2] 31 (0, 0)) ∧ (∃ cs t, W.heap[b]? = some (.cells cs t (0, 0))) ∧ ownS W b ≠ some Bx ∧ a' = put2 a t1 d1 x Bx
theorem axM_own (a : Act) (t1 d1 b B : Nat) (x : Sp) (a' : Act) : OwnFrom B (fun (_ : Unit) W => AxM a t1 d1 b x a' W) := by
  rintro s W W' row ⟨Bx, h1, ⟨cs, t, h2⟩, h3, h4⟩ hg hr
  have ne : ∀ {k : Nat} {c : Array Value} {t : TypeId}, W.heap[k]? = some (.cells c t (0, 0)) → W'.heap[k]? = W.heap[k]? := fun {k c t} hk => hg.block k (Array.getElem?_eq_some_iff.1 hk).1 (fun e => by
    obtain ⟨_, o, h5, h6⟩ := hr k e.symm
    rw [hk] at h5; cases h5; cases h6)
  exact ⟨Bx, (ne h1).trans h1, ⟨cs, t, (ne h2).trans h2⟩, by rw [ownS_same (ne h2)]; exact h3, h4⟩

theorem rangeK {g : Operand} {t1 : Nat} {assign body : Code} {Q : Exit → Act → World → Prop} {a : Act} {w : World} (n d1 b : Nat)
    {gf : Nat} {lb : Array Value} (hg : a.eval g = .func (.func gf) #[] lb) (eg : ∀ args w, (callFunc gf args).run Try.prog w = .ok (.enter gf args) w)
    {S Sp' : List Sp → Prop} (hseq : SeqO gf lb encA (KS b w.heap.size) S Sp' w) (hb : b < w.heap.size)
    (I : List Sp → World → Prop) (hI : OwnFrom w.heap.size I) (h0 : I [] w)
    (hassign : ∀ (l m : Nat) (pre : List Sp) (x : Sp) (W : World) (K : Act → World → Prop), I pre W → (∀ a' W', KeepsFrom w.heap.size W W' → KS b w.heap.size W W' → I pre W' → AxM a t1 d1 b x a' W' → K a' W') →
      assign.wpIn (Fence.wide.inRound l) m Try.prog (Exit.then K (fun _ _ _ => False)) { tmps := (#[t1].zip (encA x)).foldl (fun t (p, v) => t.setIfInBounds p v) a.tmps, defers := [] } W)
    (hbody : ∀ (l m : Nat) (pre : List Sp) (x : Sp) (Bx : Nat) (W : World), I pre W → W.heap[Bx]? = some (.cells #[.int .i64 x.1, .int .i64 x.2] 31 (0, 0)) → ownS W b ≠ some Bx → Sp' (pre ++ [x]) →
      body.wpIn (Fence.wide.inRound l) m Try.prog (ownPostG w.heap.size (KS b w.heap.size) I (fun _ _ _ => False) (pre ++ [x]) W) (put2 a t1 d1 x Bx) W)
    (hdone : ∀ (D : Nat) (xs : List Sp) (W : World), w.heap.size ≤ D → S xs → I xs W → W.heap[D]? = some (.deferred (some [])) → Q .normal { a with defers := { target := .collected D, args := #[] } :: a.defers } W) :
    (Code.rangeFunc g #[t1] assign body).wpIn Fence.wide n Try.prog Q a w :=
  range_own n hg eg hseq (fun h k => KS.trans h k) (fun X j o o' hj hl ho => KS.put X j o o' hl ho (by omega)) (fun _ => rfl) I (fun _ _ _ => False) hI (fun _ _ _ _ _ h => h.elim) h0 (AxM a t1 d1 b) (fun x a' => axM_own a t1 d1 b _ x a') hassign
    (fun l m pre x a' W _ _ hi ⟨Bx, hx, _, hne, e⟩ hp => by subst e; exact hbody l m pre x Bx W hi hx hne hp) hdone (fun _ _ _ _ _ _ h => h.elim)

/-- What is held between two rounds. -/
structure MI (w : World) (pb : Option Addr) (M : List Sp) (X : World) : Prop where
  gr : w.grownBy X none
  sz4 : w.heap.size + 4 ≤ X.heap.size
  b3 : Boxed X w.heap.size 24 (.pointer pb)
  b5 : Boxed X (w.heap.size + 2) 24 (.pointer (some ⟨w.heap.size + 1, 0, none⟩))
  st : ∃ v, SetAt X (w.heap.size + 1) 0 v M ∧ (∀ g, v.ownBlock = some g → w.heap.size + 4 ≤ g)
theorem MI.own {w X X' : World} {pb : Option Addr} {M : List Sp} {B : Nat} {row : Option Nat} (h : MI w pb M X) (g : X.grownBy X' row) (hr : Rec B X row) (hB : w.heap.size ≤ B) : MI w pb M X' := by
  obtain ⟨v, s, f⟩ := h.st
  exact ⟨grown_own h.gr g hr hB, Nat.le_trans h.sz4 g.size, bxOwn h.b3 g hr, bxOwn h.b5 g hr, v, s.own g hr, f⟩
theorem MI.grown {w X X' : World} {pb : Option Addr} {M : List Sp} (h : MI w pb M X) (g : X.grownBy X' none) : MI w pb M X' := by
  obtain ⟨v, s, f⟩ := h.st
  exact ⟨grown_trans h.gr g, Nat.le_trans h.sz4 g.size, (g.block _ h.b3.lt (by simp)).trans h.b3, (g.block _ h.b5.lt (by simp)).trans h.b5, v, s.keep g, f⟩
theorem MI.blt {w X : World} {pb : Option Addr} {M : List Sp} (h : MI w pb M X) : w.heap.size + 1 < X.heap.size := by
  obtain ⟨v, s, f⟩ := h.st
  exact (Array.getElem?_eq_some_iff.1 s.blk).1
theorem MI.hob {w X : World} {pb : Option Addr} {M : List Sp} (h : MI w pb M X) : ∀ j, ownS X (w.heap.size + 1) = some j → j < X.heap.size := fun j e => by
  obtain ⟨v, s, f⟩ := h.st
  rw [s.ownS] at e
  obtain ⟨cs, t, hb⟩ := s.rowlt e
  exact (Array.getElem?_eq_some_iff.1 hb).1

/-- A list more is laid behind the set's runs. -/
theorem MI.app {w X X9 : World} {pb : Option Addr} {M L : List Sp} {v u : Value} {Bx n : Nat} {x : Sp} (h : MI w pb M X) (s : SetAt X (w.heap.size + 1) 0 v M) (f : ∀ g, v.ownBlock = some g → w.heap.size + 4 ≤ g) (g9 : X.grownBy X9 none) (hl : Row X9 u L) (hlen : (M.length + L.length) * 16 ≤ 140737488355328)
    (hx : X.heap[Bx]? = some (.cells #[.int .i64 x.1, .int .i64 x.2] 31 (0, 0))) (hne : v.ownBlock ≠ some Bx) (hn : w.heap.size + 1 < n) :
    ∃ v' w', (∀ ty, (Builtin.append_ #[26, 26] ty #[v, u]).run Try.prog X9 = .ok v' w') ∧ (∃ a n c, v' = .slice a n c) ∧ w'.cell? ⟨w.heap.size + 1, 1, none⟩ = some v ∧ w'.frozen? ⟨w.heap.size + 1, 1, none⟩ = false ∧
      (w'.cell? ⟨w.heap.size, 0, none⟩ = some (.pointer pb) ∧ w'.cell? ⟨w.heap.size + 2, 0, none⟩ = some (.pointer (some ⟨w.heap.size + 1, 0, none⟩)) ∧ w'.cell? ⟨Bx, 0, none⟩ = some (.int .i64 x.1) ∧ w'.cell? ⟨Bx, 1, none⟩ = some (.int .i64 x.2)) ∧
      ((w'.setCell ⟨w.heap.size + 1, 1, none⟩ v').cell? ⟨w.heap.size, 0, none⟩ = some (.pointer pb) ∧ (w'.setCell ⟨w.heap.size + 1, 1, none⟩ v').cell? ⟨w.heap.size + 2, 0, none⟩ = some (.pointer (some ⟨w.heap.size + 1, 0, none⟩)) ∧ (w'.setCell ⟨w.heap.size + 1, 1, none⟩ v').cell? ⟨Bx, 0, none⟩ = some (.int .i64 x.1) ∧ (w'.setCell ⟨w.heap.size + 1, 1, none⟩ v').cell? ⟨Bx, 1, none⟩ = some (.int .i64 x.2)) ∧
      MI w pb (M ++ L) (w'.setCell ⟨w.heap.size + 1, 1, none⟩ v') ∧ KS (w.heap.size + 1) n X (w'.setCell ⟨w.heap.size + 1, 1, none⟩ v') ∧ KeepsFrom n X (w'.setCell ⟨w.heap.size + 1, 1, none⟩ v') := by
  obtain ⟨v', w', hr, hro, hmo⟩ := app_rows (s.keep g9).row hl hlen
  have s9 := s.keep g9
  have h9 := h.grown g9
  have x9 : X9.heap[Bx]? = some (.cells #[.int .i64 x.1, .int .i64 x.2] 31 (0, 0)) := (g9.block _ (Array.getElem?_eq_some_iff.1 hx).1 (by simp)).trans hx
  have kA : Kp (fun g => v.ownBlock = some g) X9 w' := by
    rcases hmo with ⟨_, g⟩ | ⟨_, g, _⟩
    · exact ⟨g.os, g.tape, g.output, g.size, fun k hk hn => g.block k hk (fun e => hn e.symm)⟩
    · exact Kp.grown g _
  have nv : ∀ {k : Nat}, k < w.heap.size + 4 → v.ownBlock ≠ some k := fun {k} hk e => by have := f k e; omega
  have bk : w'.heap[w.heap.size + 1]? = some (.cells #[.int .i64 0, v] 50 (0, 0)) := (kA.block _ h9.blt (nv (by omega))).trans s9.blk
  have b3 := bxKp h9.b3 kA (nv (by omega))
  have b5 := bxKp h9.b5 kA (nv (by omega))
  have xA : w'.heap[Bx]? = some (.cells #[.int .i64 x.1, .int .i64 x.2] 31 (0, 0)) := (kA.block _ (Array.getElem?_eq_some_iff.1 x9).1 hne).trans x9
  have kS : Kp (fun g => g = w.heap.size + 1) w' (w'.setCell ⟨w.heap.size + 1, 1, none⟩ v') := (Kp.refl _ w').set _ _ _ (fun _ => rfl)
  have hB1 : Bx ≠ w.heap.size + 1 := fun e => by rw [e, bk] at xA; simp at xA
  have xS : (w'.setCell ⟨w.heap.size + 1, 1, none⟩ v').heap[Bx]? = some (.cells #[.int .i64 x.1, .int .i64 x.2] 31 (0, 0)) := (kS.block _ (Array.getElem?_eq_some_iff.1 xA).1 hB1).trans xA
  have bS : (w'.setCell ⟨w.heap.size + 1, 1, none⟩ v').heap[w.heap.size + 1]? = some (.cells #[.int .i64 0, v'] 50 (0, 0)) := by
    simp only [World.setCell, Array.getElem?_modify]
    rw [if_pos trivial, bk]
    rfl
  have b3S := bxKp b3 kS (by omega)
  have b5S := bxKp b5 kS (by omega)
  have hv'ne : v'.ownBlock ≠ some (w.heap.size + 1) := fun e => by
    obtain ⟨c, h3⟩ := Row.block hro _ e
    rw [bk] at h3; simp at h3
  have rS : Row (w'.setCell ⟨w.heap.size + 1, 1, none⟩ v') v' (M ++ L) := World.ownsRow.kept hro (row := some (w.heap.size + 1)) ⟨kS.os, kS.tape, kS.output, kS.size, fun k hk hn => kS.block k hk (fun e => hn (by rw [e]))⟩ (.inr hv'ne)
  have sS : SetAt (w'.setCell ⟨w.heap.size + 1, 1, none⟩ v') (w.heap.size + 1) 0 v' (M ++ L) := ⟨bS, rS⟩
  have ho : v'.ownBlock = v.ownBlock ∨ Fresh X v' := by
    rcases hmo with ⟨e, _⟩ | ⟨e, _, _⟩
    · exact .inl e
    · exact .inr (fun k hk => by rw [e] at hk; injection hk with hk; have := g9.size; omega)
  have kAll : Kp (fun g => g = w.heap.size + 1 ∨ v.ownBlock = some g) X (w'.setCell ⟨w.heap.size + 1, 1, none⟩ v') :=
    ((Kp.grown g9 _).then kA (fun g _ e => .inr e)).then kS (fun g _ e => .inl e)
  have ks := chg_ks (n := n) s sS ho kAll hn
  have cells : ∀ g, g = w.heap.size + 1 ∨ v.ownBlock = some g → ∃ cs t, X.heap[g]? = some (.cells cs t (0, 0)) := fun g e => by
    rcases e with e | e
    · rw [e]; exact ⟨_, _, s.blk⟩
    · exact s.rowlt e
  obtain ⟨a', c', rfl, -, -, -⟩ := hro.shape
  refine ⟨_, w', hr, ⟨a', _, c', rfl⟩, (box2 bk).2, by simp [World.frozen?, bk], ⟨b3.cell, b5.cell, (box2 xA).1, (box2 xA).2⟩, ⟨b3S.cell, b5S.cell, (box2 xS).1, (box2 xS).2⟩, ⟨kAll.gr (fun g e => ?_) h.gr, Nat.le_trans h.sz4 kAll.size, b3S, b5S, _, sS, fun g e => ?_⟩, ks, (kAll.others cells).from _⟩
  · rcases e with e | e
    · omega
    · have := f g e; omega
  · rcases ho with e2 | e2
    · exact f g (by rw [← e2]; exact e)
    · exact Nat.le_trans h.sz4 (e2 g e)
end Go.Proofs.Ytbcmeaebjngapaa
