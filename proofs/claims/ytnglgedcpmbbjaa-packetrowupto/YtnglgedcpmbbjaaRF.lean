/- KF1, KF2, one text. -/
import Derived.Test.YtnglgedcpmbbjaaKN1
import Derived.Deep.RegionHeldLaw
import Derived.Deep.DeepCutAuto
namespace Go.Proofs.Ytnglgedcpmbbjaa
open Go.RowKit
open Sp (sepV Sep3 sep_nil sep_nil_r)
set_option linter.unusedVariables false
set_option maxRecDepth 100000
set_option maxHeartbeats 1000000

theorem OwnB.kept {base : Nat} {w w' : World} {v : Value} {d : List Int} (h : OwnB base w v d) (hk : ∀ g, v.ownBlock = some g → w'.heap[g]? = w.heap[g]?) : OwnB base w' v d := by
  refine ⟨h.1, ?_⟩
  rcases h.2 with h2 | ⟨g, cap, cur, rfl, q1, q2, q3⟩
  · exact .inl h2
  · exact .inr ⟨g, cap, cur, rfl, q1, by rw [hk g rfl]; exact q2, q3⟩

theorem row_kpt {base size n : Nat} {e : TypeId} {w w' : World} {v : Value} {xs : List Value} (h : w.ownsRow base e size v n xs) (hk : ∀ g, base ≤ g → g < w.heap.size → v.ownBlock = some g → w'.heap[g]? = w.heap[g]?) : w'.ownsRow base e size v n xs := by
  have hl := h.lt
  refine ⟨h.1, ?_⟩
  rcases h.2 with h2 | ⟨g, cap, cur, rfl, q1, q2, q3⟩
  · exact .inl h2
  · exact .inr ⟨g, cap, cur, rfl, q1, by rw [hk g (hl g rfl).1 (hl g rfl).2 rfl]; exact q2, q3⟩

/-- Rows of different kinds lie apart. -/
theorem row_ne {w : World} {b1 b2 s1 s2 n1 n2 : Nat} {e1 e2 : TypeId} {v1 v2 : Value} {x1 x2 : List Value} (h1 : w.ownsRow b1 e1 s1 v1 n1 x1) (h2 : w.ownsRow b2 e2 s2 v2 n2 x2) (he : e1 ≠ e2) {g : Nat} (hg : v1.ownBlock = some g) : some g ≠ v2.ownBlock := by
  intro e
  rcases h1.2 with ⟨rfl, -⟩ | ⟨g1, _, c1, rfl, -, q1, -⟩
  · cases hg
  · rcases h2.2 with ⟨rfl, -⟩ | ⟨g2, _, c2, rfl, -, q2, -⟩
    · cases e
    · cases hg
      have e' : g1 = g2 := by simpa [Value.ownBlock] using e
      subst e'
      rw [q1] at q2
      simp only [Option.some.injEq, Obj.cells.injEq] at q2
      exact he q2.2.1

structure PV where
  p : Pk
  d : Value
  s : Value
  y : Value
def PV.cl (x : PV) : List Value := [.int .i64 x.p.space, x.d, x.s, .int .i64 x.p.number, .int .i64 x.p.width, x.y]
def PV.vl (x : PV) : List Value := [x.d, x.s, x.y]
structure PV.In (x : PV) (B : Nat) (w : World) : Prop where
  d : OwnB B w x.d x.p.dst
  s : OwnB B w x.s x.p.src
  y : OwnB B w x.y x.p.payload
  ld : x.p.dst.length ≤ 140737488355000
  ls : x.p.src.length ≤ 140737488355000
  ly : x.p.payload.length ≤ 140737488355000
structure PRow (B : Nat) (w : World) (lv : Value) (ps : List PV) : Prop where
  row : w.ownsRow B 30 6 lv ps.length (ps.flatMap PV.cl)
  own : ∀ x ∈ ps, x.In B w
  sep : (ps.flatMap PV.vl).Pairwise sepV

theorem PV.In.kpt {x : PV} {B : Nat} {w w' : World} (h : x.In B w) (hk : ∀ g v n xs, w.ownsRow B 5 1 v n xs → v.ownBlock = some g → w'.heap[g]? = w.heap[g]?) : x.In B w' :=
  ⟨h.d.kept (fun g e => hk g _ _ _ h.d e), h.s.kept (fun g e => hk g _ _ _ h.s e), h.y.kept (fun g e => hk g _ _ _ h.y e), h.ld, h.ls, h.ly⟩
theorem PRow.kpt {B : Nat} {w w' : World} {lv : Value} {ps : List PV} (h : PRow B w lv ps) (hk : ∀ g, B ≤ g → g < w.heap.size → w'.heap[g]? = w.heap[g]?) : PRow B w' lv ps :=
  ⟨row_kpt h.row (fun g h1 h2 _ => hk g h1 h2), fun x hx => (h.own x hx).kpt (fun g v n xs ho e => hk g (ho.lt g e).1 (ho.lt g e).2), h.sep⟩
theorem PRow.grown {B : Nat} {w w' : World} {lv : Value} {ps : List PV} (h : PRow B w lv ps) (g : w.grownBy w' none) : PRow B w' lv ps := h.kpt (fun i _ hi => g.block i hi (by simp))
theorem PRow.nil (B : Nat) (w : World) : PRow B w nilV [] := ⟨World.ownsRow_nil _ _ _ _, by simp, by simp⟩

theorem Try.infoP : (Try.prog.info? 30).map (fun i => (i.zero, i.size, i.bytes)) = some (some (.agg (pcs 0 nilV nilV 0 0 nilV)), 6, 96) := by kernel_rfl

/-- One packet more. -/
theorem PRow.push {B : Nat} {w : World} {lv : Value} {ps : List PV} (h : PRow B w lv ps) (x : PV) (hx : x.In B w) (hs : Sep3 x.d x.s x.y) (hn : ∀ v ∈ ps.flatMap PV.vl, ∀ u ∈ x.vl, sepV v u) (few : ps.length ≤ 1000) (hB : B ≤ w.heap.size) :
    ∃ g c w', (Builtin.append_ #[22, 22] 22 #[lv, .slice (some ⟨w.heap.size, 0, none⟩) 1 1]).run Try.prog (w.alloc (.cells (x.p.cs x.d x.s x.y) 30)) = .ok (.slice (some ⟨g, 0, none⟩) (ps.length + 1) c) w'
      ∧ PRow B w' (.slice (some ⟨g, 0, none⟩) (ps.length + 1) c) (ps ++ [x]) ∧ Below B w w' := by
  obtain ⟨inf, hi0, hz0, hz1, hz2⟩ := info_parts Try.infoP
  have h1 := h.grown (World.grownBy_alloc w (.cells (x.p.cs x.d x.s x.y) 30) none)
  have hx1 : x.In B (w.alloc (.cells (x.p.cs x.d x.s x.y) 30)) := hx.kpt (fun g v n xs ho e => (World.grownBy_alloc w _ none).block g (ho.lt g e).2 (by simp))
  have hsz := alloc_size w (.cells (x.p.cs x.d x.s x.y) 30)
  have hnews : ∀ (i : Nat) u, x.cl[i]? = some u → (w.alloc (.cells (x.p.cs x.d x.s x.y) 30)).cell? ((⟨w.heap.size, 0, none⟩ : Addr).add i) = some u := fun i u hu => by
    rw [show (⟨w.heap.size, 0, none⟩ : Addr).add i = ⟨w.heap.size, i, none⟩ by simp [Addr.add]; exact fun e => e.symm]
    simp only [World.cell?, heap_alloc_new]
    rw [← hu]
    simp [PV.cl]
  have one : ∀ u ∈ x.cl, u.oneCell' = true := fun u hu => by
    simp only [PV.cl, List.mem_cons, List.not_mem_nil, or_false] at hu
    rcases hu with rfl | rfl | rfl | rfl | rfl | rfl
    · rfl
    · exact hx.d.one
    · exact hx.s.one
    · rfl
    · rfl
    · exact hx.y.one
  obtain ⟨v5, W5, hrun, o5, g5, -⟩ := run_append_own (P := Try.prog) (w.alloc (.cells (x.p.cs x.d x.s x.y) 30)) B 22 22 30 inf (.agg (pcs 0 nilV nilV 0 0 nilV)) 6 96 Try.underlying22 hi0 hz0 hz1 hz2 rfl (by decide) lv ps.length (ps.flatMap PV.cl) h1.row ⟨w.heap.size, 0, none⟩ 1 1 x.cl rfl hnews one (by unfold maxLen; omega) (by omega) (by omega)
  obtain ⟨h5, c5, rfl⟩ : ∃ h5 c5, v5 = .slice (some ⟨h5, 0, none⟩) (ps.length + 1) c5 := by
    rcases o5.2 with ⟨-, e⟩ | ⟨g6, cap, cur, e, -⟩
    · omega
    · exact ⟨g6, cap, e⟩
  have keep : ∀ g v n xs, (w.alloc (.cells (x.p.cs x.d x.s x.y) 30)).ownsRow B 5 1 v n xs → v.ownBlock = some g → W5.heap[g]? = (w.alloc (.cells (x.p.cs x.d x.s x.y) 30)).heap[g]? := fun g v n xs ho e =>
    g5.block g (ho.lt g e).2 (row_ne ho h1.row (by decide) e)
  refine ⟨h5, c5, W5, hrun, ⟨?_, ?_, ?_⟩, ?_⟩
  · have e1 : (ps ++ [x]).length = ps.length + 1 := by simp
    have e2 : (ps ++ [x]).flatMap PV.cl = ps.flatMap PV.cl ++ x.cl := by simp
    rw [e1, e2]; exact o5
  · intro q hq
    rcases List.mem_append.1 hq with hq | hq
    · exact (h1.own q hq).kpt keep
    · simp only [List.mem_singleton] at hq; subst hq
      exact hx1.kpt keep
  · rw [show (ps ++ [x]).flatMap PV.vl = ps.flatMap PV.vl ++ x.vl by simp, List.pairwise_append]
    refine ⟨h.sep, ?_, fun v hv u hu => hn v hv u hu⟩
    show List.Pairwise sepV [x.d, x.s, x.y]
    simp only [List.pairwise_cons, List.mem_cons, List.not_mem_nil, or_false, forall_eq_or_imp, forall_eq, List.Pairwise.nil, and_true, false_implies, implies_true]
    exact ⟨⟨hs.1, hs.2.1⟩, hs.2.2⟩
  · exact ((Below.refl B w).alloc hB _).grown g5 (by omega) (fun k e => (h1.row.lt k e).1)

theorem flat_six (f : PV → List Value) (n : Nat) (hf : ∀ x, (f x).length = n) (ps : List PV) (k : Nat) (x : PV) (hk : ps[k]? = some x) (j : Nat) (hj : j < n) : (ps.flatMap f)[k * n + j]? = (f x)[j]? := by
  induction ps generalizing k with
  | nil => simp at hk
  | cons a t ih =>
    rw [List.flatMap_cons]
    cases k with
    | zero =>
      simp at hk; subst hk
      rw [Nat.zero_mul, Nat.zero_add, List.getElem?_append_left (by rw [hf]; exact hj)]
    | succ k =>
      rw [List.getElem?_append_right (by rw [hf, Nat.succ_mul]; omega), hf, show (k + 1) * n + j - n = k * n + j by rw [Nat.succ_mul]; omega]
      exact ih k (by simpa using hk)
theorem flat_len (f : PV → List Value) (n : Nat) (hf : ∀ x, (f x).length = n) (ps : List PV) : (ps.flatMap f).length = ps.length * n := by
  induction ps with
  | nil => simp
  | cons a t ih => rw [List.flatMap_cons, List.length_append, ih, hf, List.length_cons, Nat.succ_mul]; omega

theorem PRow.cell {B : Nat} {w : World} {gl n cl : Nat} {ps : List PV} (h : PRow B w (.slice (some ⟨gl, 0, none⟩) n cl) ps) (k : Nat) (x : PV) (hk : ps[k]? = some x) (j : Nat) (hj : j < 6) : w.cell? ⟨gl, k * 6 + j, none⟩ = x.cl[j]? := by
  rcases h.row.2 with ⟨e, -⟩ | ⟨g, cap, cur, e, q1, q2, q3, q4, q5, q6⟩
  · cases e
  · simp only [Value.slice.injEq, Option.some.injEq, Addr.mk.injEq, and_true] at e
    obtain ⟨rfl, rfl, rfl⟩ := e
    have hlt : k < ps.length := by
      by_cases c : k < ps.length
      · exact c
      · rw [List.getElem?_eq_none (by omega)] at hk; cases hk
    simp only [World.cell?, q2]
    have e : (cur.toList.take (ps.length * 6))[k * 6 + j]? = (ps.flatMap PV.cl)[k * 6 + j]? := by rw [q6]
    rw [List.getElem?_take, if_pos (by omega), Array.getElem?_toList] at e
    rw [e]
    exact flat_six PV.cl 6 (fun _ => rfl) ps k x hk j hj
end Go.Proofs.Ytnglgedcpmbbjaa
