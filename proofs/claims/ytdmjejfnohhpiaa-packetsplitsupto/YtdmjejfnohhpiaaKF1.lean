/- KF1, KF2, one text. -/
import Derived.Test.YtdmjejfnohhpiaaKN1
import Derived.Test.YtdmjejfnohhpiaaKL3
import Derived.Test.YtdmjejfnohhpiaaKWP
import Derived.Test.YtdmjejfnohhpiaaKC5
import Derived.Deep.RegionHeldLaw
import Derived.Deep.DeepCutAuto
namespace Go.Proofs.Ytdmjejfnohhpiaa
open Go.RowKit
open Sp (sepV Sep3 sep_nil sep_nil_r)
set_option linter.unusedVariables false
set_option maxRecDepth 100000
set_option maxHeartbeats 1000000

theorem code_was (n : Int) (w : World) : Calls Try.prog 17 #[.int .i64 n] w fun e w' => e = .returned (.int .i64 n) ∧ w' = w := by
  go_enter Try.func17, Try.ntmps17
  go_wp2
  go_ret
  exact ⟨rfl, rfl⟩

theorem OwnB.kept {base : Nat} {w w' : World} {v : Value} {d : List Int} (h : OwnB base w v d) (hk : ∀ g, v.ownBlock = some g → w'.heap[g]? = w.heap[g]?) : OwnB base w' v d := by
  refine ⟨h.1, ?_⟩
  rcases h.2 with h2 | ⟨g, cap, cur, rfl, q1, q2, q3⟩
  · exact .inl h2
  · exact .inr ⟨g, cap, cur, rfl, q1, by rw [hk g rfl]; exact q2, q3⟩

theorem row_kpt {base size n : Nat} {e : TypeId} {w w' : World} {v : Value} {xs : List Value} (h : w.ownsRow base e size v n xs) (hk : ∀ g, base ≤ g → g < w.heap.size → v.ownBlock = some g → w'.heap[g]? = w.heap[g]?) : w'.ownsRow base e size v n xs := by
  have hl := h.lt
  refine ⟨h.1, ?_⟩
  rcases h.2 with h2 | ⟨g, cap, cur, rfl, q1, q2, q3⟩
  · exact .inl h2
  · exact .inr ⟨g, cap, cur, rfl, q1, by rw [hk g (hl g rfl).1 (hl g rfl).2 rfl]; exact q2, q3⟩

/-- Rows of different kinds lie apart. -/
theorem row_ne {w : World} {b1 b2 s1 s2 n1 n2 : Nat} {e1 e2 : TypeId} {v1 v2 : Value} {x1 x2 : List Value} (h1 : w.ownsRow b1 e1 s1 v1 n1 x1) (h2 : w.ownsRow b2 e2 s2 v2 n2 x2) (he : e1 ≠ e2) {g : Nat} (hg : v1.ownBlock = some g) : some g ≠ v2.ownBlock := by
  intro e
  rcases h1.2 with ⟨rfl, -⟩ | ⟨g1, _, c1, rfl, -, q1, -⟩
  · cases hg
  · rcases h2.2 with ⟨rfl, -⟩ | ⟨g2, _, c2, rfl, -, q2, -⟩
    · cases e
    · cases hg
      have e' : g1 = g2 := by simpa [Value.ownBlock] using e
      subst e'
      rw [q1] at q2
      simp only [Option.some.injEq, Obj.cells.injEq] at q2
      exact he q2.2.1

structure PV where
  p : Pk
  d : Value
  s : Value
  y : Value
def PV.cl (x : PV) : List Value := [.int .i64 x.p.space, x.d, x.s, .int .i64 x.p.number, .int .i64 x.p.width, x.y]
def PV.vl (x : PV) : List Value := [x.d, x.s, x.y]
structure PV.In (x : PV) (B : Nat) (w : World) : Prop where
  d : OwnB B w x.d x.p.dst
  s : OwnB B w x.s x.p.src
  y : OwnB B w x.y x.p.payload
  ld : x.p.dst.length ≤ 140737488355000
  ls : x.p.src.length ≤ 140737488355000
  ly : x.p.payload.length ≤ 140737488355000
structure PRow (B : Nat) (w : World) (lv : Value) (ps : List PV) : Prop where
  row : w.ownsRow B 24 6 lv ps.length (ps.flatMap PV.cl)
  own : ∀ x ∈ ps, x.In B w
  sep : (ps.flatMap PV.vl).Pairwise sepV

theorem PV.In.kpt {x : PV} {B : Nat} {w w' : World} (h : x.In B w) (hk : ∀ g v n xs, w.ownsRow B 5 1 v n xs → v.ownBlock = some g → w'.heap[g]? = w.heap[g]?) : x.In B w' :=
  ⟨h.d.kept (fun g e => hk g _ _ _ h.d e), h.s.kept (fun g e => hk g _ _ _ h.s e), h.y.kept (fun g e => hk g _ _ _ h.y e), h.ld, h.ls, h.ly⟩
theorem PRow.kpt {B : Nat} {w w' : World} {lv : Value} {ps : List PV} (h : PRow B w lv ps) (hk : ∀ g, B ≤ g → g < w.heap.size → w'.heap[g]? = w.heap[g]?) : PRow B w' lv ps :=
  ⟨row_kpt h.row (fun g h1 h2 _ => hk g h1 h2), fun x hx => (h.own x hx).kpt (fun g v n xs ho e => hk g (ho.lt g e).1 (ho.lt g e).2), h.sep⟩
theorem PRow.grown {B : Nat} {w w' : World} {lv : Value} {ps : List PV} (h : PRow B w lv ps) (g : w.grownBy w' none) : PRow B w' lv ps := h.kpt (fun i _ hi => g.block i hi (by simp))
theorem PRow.only {B a b : Nat} {w w' : World} {lv : Value} {ps : List PV} (h : PRow B w lv ps) (o : Only w w' a b) (ha : a < B) (hb : b < B) : PRow B w' lv ps := h.kpt (fun i hi _ => o.2 i (by omega) (by omega))
theorem PRow.nil (B : Nat) (w : World) : PRow B w nilV [] := ⟨World.ownsRow_nil _ _ _ _, by simp, by simp⟩

theorem Try.infoP : (Try.prog.info? 24).map (fun i => (i.zero, i.size, i.bytes)) = some (some (.agg (pcs 0 nilV nilV 0 0 nilV)), 6, 96) := by kernel_rfl

/-- One packet more. -/
theorem PRow.push {B : Nat} {w : World} {lv : Value} {ps : List PV} (h : PRow B w lv ps) (x : PV) (hx : x.In B w) (hs : Sep3 x.d x.s x.y) (hn : ∀ v ∈ ps.flatMap PV.vl, ∀ u ∈ x.vl, sepV v u) (few : ps.length ≤ 1000) (hB : B ≤ w.heap.size) :
    ∃ g c w', (Builtin.append_ #[48, 48] 48 #[lv, .slice (some ⟨w.heap.size, 0, none⟩) 1 1]).run Try.prog (w.alloc (.cells (x.p.cs x.d x.s x.y) 24)) = .ok (.slice (some ⟨g, 0, none⟩) (ps.length + 1) c) w'
      ∧ PRow B w' (.slice (some ⟨g, 0, none⟩) (ps.length + 1) c) (ps ++ [x]) ∧ Below B w w' := by
  obtain ⟨inf, hi0, hz0, hz1, hz2⟩ := info_parts Try.infoP
  have h1 := h.grown (World.grownBy_alloc w (.cells (x.p.cs x.d x.s x.y) 24) none)
  have hx1 : x.In B (w.alloc (.cells (x.p.cs x.d x.s x.y) 24)) := hx.kpt (fun g v n xs ho e => (World.grownBy_alloc w _ none).block g (ho.lt g e).2 (by simp))
  have hsz := alloc_size w (.cells (x.p.cs x.d x.s x.y) 24)
  have hnews : ∀ (i : Nat) u, x.cl[i]? = some u → (w.alloc (.cells (x.p.cs x.d x.s x.y) 24)).cell? ((⟨w.heap.size, 0, none⟩ : Addr).add i) = some u := fun i u hu => by
    rw [show (⟨w.heap.size, 0, none⟩ : Addr).add i = ⟨w.heap.size, i, none⟩ by simp [Addr.add]; exact fun e => e.symm]
    simp only [World.cell?, heap_alloc_new]
    rw [← hu]
    simp [PV.cl]
  have one : ∀ u ∈ x.cl, u.oneCell' = true := fun u hu => by
    simp only [PV.cl, List.mem_cons, List.not_mem_nil, or_false] at hu
    rcases hu with rfl | rfl | rfl | rfl | rfl | rfl
    · rfl
    · exact hx.d.one
    · exact hx.s.one
    · rfl
    · rfl
    · exact hx.y.one
  obtain ⟨v5, W5, hrun, o5, g5, -⟩ := run_append_own (P := Try.prog) (w.alloc (.cells (x.p.cs x.d x.s x.y) 24)) B 48 48 24 inf (.agg (pcs 0 nilV nilV 0 0 nilV)) 6 96 Try.underlying48 hi0 hz0 hz1 hz2 rfl (by decide) lv ps.length (ps.flatMap PV.cl) h1.row ⟨w.heap.size, 0, none⟩ 1 1 x.cl rfl hnews one (by unfold maxLen; omega) (by omega) (by omega)
  obtain ⟨h5, c5, rfl⟩ : ∃ h5 c5, v5 = .slice (some ⟨h5, 0, none⟩) (ps.length + 1) c5 := by
    rcases o5.2 with ⟨-, e⟩ | ⟨g6, cap, cur, e, -⟩
    · omega
    · exact ⟨g6, cap, e⟩
  have keep : ∀ g v n xs, (w.alloc (.cells (x.p.cs x.d x.s x.y) 24)).ownsRow B 5 1 v n xs → v.ownBlock = some g → W5.heap[g]? = (w.alloc (.cells (x.p.cs x.d x.s x.y) 24)).heap[g]? := fun g v n xs ho e =>
    g5.block g (ho.lt g e).2 (row_ne ho h1.row (by decide) e)
  refine ⟨h5, c5, W5, hrun, ⟨?_, ?_, ?_⟩, ?_⟩
  · have e1 : (ps ++ [x]).length = ps.length + 1 := by simp
    have e2 : (ps ++ [x]).flatMap PV.cl = ps.flatMap PV.cl ++ x.cl := by simp
    rw [e1, e2]; exact o5
  · intro q hq
    rcases List.mem_append.1 hq with hq | hq
    · exact (h1.own q hq).kpt keep
    · simp only [List.mem_singleton] at hq; subst hq
      exact hx1.kpt keep
  · rw [show (ps ++ [x]).flatMap PV.vl = ps.flatMap PV.vl ++ x.vl by simp, List.pairwise_append]
    refine ⟨h.sep, ?_, fun v hv u hu => hn v hv u hu⟩
    show List.Pairwise sepV [x.d, x.s, x.y]
    simp only [List.pairwise_cons, List.mem_cons, List.not_mem_nil, or_false, forall_eq_or_imp, forall_eq, List.Pairwise.nil, and_true, false_implies, implies_true]
    exact ⟨⟨hs.1, hs.2.1⟩, hs.2.2⟩
  · exact ((Below.refl B w).alloc hB _).grown g5 (by omega) (fun k e => (h1.row.lt k e).1)

def heldIn (vs : List Value) (cur : Array Value) : Held := { heldOf vs with cb := cur }
theorem apart_row (vs : List Value) (cur : Array Value) (w0 wr : World) (B b c : Nat) (hB : B ≤ b) (hb : wr.heap[b]? = some (.cells cur 22 (0, 0))) (hcur : cur.toList.take vs.length = vs) (hown : ∀ v ∈ vs, ∃ n xs, wr.ownsRow B 5 1 v n xs ∧ n ≤ 140737488355000)
    (hsep : vs.Pairwise sepV) (few : vs.length ≤ 1000000) (bel : Below B w0 wr) :
    Calls Try.prog 20 #[.slice (some ⟨b, 0, none⟩) vs.length c] wr fun e w' => e = .returned (.bool true) ∧ Below B w0 w' := by
  have get : ∀ j, j < vs.length → vs[j]? = some (vs.getD j (.slice none 0 0)) := fun j hj => by simp [List.getD, hj]
  have mem : ∀ j, j < vs.length → vs.getD j (.slice none 0 0) ∈ vs := fun j hj => List.mem_of_getElem? (get j hj)
  have hv : ∀ j, j < vs.length → (heldIn vs cur).v j = vs.getD j (.slice none 0 0) := fun j hj => by
    obtain ⟨n, xs, ho, _⟩ := hown _ (mem j hj)
    exact (ownsRow_shape ho).1.symm
  have fit : (heldIn vs cur).Fit := by
    refine ⟨fun j hj => ?_, fun i j hi hj hne => ?_, fun j hj => ?_, few⟩
    · rw [hv j hj]
      show cur[j]? = _
      have hj' : j < vs.length := hj
      have e : (cur.toList.take vs.length)[j]? = vs[j]? := by rw [hcur]
      rw [List.getElem?_take, if_pos hj', Array.getElem?_toList] at e
      rw [e]; exact get j hj'
    · rw [hv i hi, hv j hj]
      rw [List.pairwise_iff_getElem] at hsep
      have hi' : i < vs.length := hi
      have hj' : j < vs.length := hj
      have e1 : vs.getD i (.slice none 0 0) = vs[i] := by simp [List.getD, hi']
      have e2 : vs.getD j (.slice none 0 0) = vs[j] := by simp [List.getD, hj']
      rw [e1, e2]
      rcases Nat.lt_or_gt_of_ne hne with h | h
      · exact hsep i j hi' hj' h
      · rcases hsep j i hj' hi' h with h1 | h1
        · rw [h1]; cases vs[i].ownBlock <;> simp
        · exact .inr (Ne.symm h1)
    · obtain ⟨n, xs, ho, hn⟩ := hown _ (mem j hj)
      show vns _ ≤ _
      rw [(ownsRow_shape ho).2]; exact hn
  exact apart_any (heldIn vs cur) w0 wr B b c fit ⟨hb, fun j hj => by
    obtain ⟨n, xs, ho, _⟩ := hown _ (mem j hj)
    refine ⟨xs, ?_, fun q _ h => by omega⟩
    rw [hv j hj]
    show wr.ownsRow B 5 1 _ (vns _) xs
    rw [(ownsRow_shape ho).2]; exact ho, bel, hB⟩

theorem LT.ok.bel {t : LT} {w0 wr w' : World} {B B1 : Nat} (h : t.ok w0 B wr) (hb : Below B1 wr w') (hB : B ≤ B1) (n1 : t.g < B1) (n2 : t.gf < B1) (n3 : t.gw < B1) : t.ok w0 B w' := by
  have e1 := hb.block t.g n1
  have e2 := hb.block t.gf n2
  have e3 := hb.block t.gw n3
  refine ⟨⟨by rw [e1]; exact h.lent.blk, ?_, ?_, h.lent.sep, h.lent.bel.trans (hb.mono hB), h.lent.low⟩, h.byte⟩
  · exact row_kpt h.lent.full (fun g _ _ e => by cases e; exact e2)
  · exact row_kpt h.lent.was (fun g _ _ e => by cases e; exact e3)

end Go.Proofs.Ytdmjejfnohhpiaa

namespace Go.Proofs.Ytdmjejfnohhpiaa
open Go.RowKit
open Sp (sepV Sep3 sep_nil sep_nil_r)
set_option linter.unusedVariables false
set_option maxRecDepth 100000
set_option maxHeartbeats 1000000

theorem flat_six (f : PV → List Value) (n : Nat) (hf : ∀ x, (f x).length = n) (ps : List PV) (k : Nat) (x : PV) (hk : ps[k]? = some x) (j : Nat) (hj : j < n) : (ps.flatMap f)[k * n + j]? = (f x)[j]? := by
  induction ps generalizing k with
  | nil => simp at hk
  | cons a t ih =>
    rw [List.flatMap_cons]
    cases k with
    | zero =>
      simp at hk; subst hk
      rw [Nat.zero_mul, Nat.zero_add, List.getElem?_append_left (by rw [hf]; exact hj)]
    | succ k =>
      rw [List.getElem?_append_right (by rw [hf, Nat.succ_mul]; omega), hf, show (k + 1) * n + j - n = k * n + j by rw [Nat.succ_mul]; omega]
      exact ih k (by simpa using hk)
theorem flat_len (f : PV → List Value) (n : Nat) (hf : ∀ x, (f x).length = n) (ps : List PV) : (ps.flatMap f).length = ps.length * n := by
  induction ps with
  | nil => simp
  | cons a t ih => rw [List.flatMap_cons, List.length_append, ih, hf, List.length_cons, Nat.succ_mul]; omega

theorem PRow.cell {B : Nat} {w : World} {gl n cl : Nat} {ps : List PV} (h : PRow B w (.slice (some ⟨gl, 0, none⟩) n cl) ps) (k : Nat) (x : PV) (hk : ps[k]? = some x) (j : Nat) (hj : j < 6) : w.cell? ⟨gl, k * 6 + j, none⟩ = x.cl[j]? := by
  rcases h.row.2 with ⟨e, -⟩ | ⟨g, cap, cur, e, q1, q2, q3, q4, q5, q6⟩
  · cases e
  · simp only [Value.slice.injEq, Option.some.injEq, Addr.mk.injEq, and_true] at e
    obtain ⟨rfl, rfl, rfl⟩ := e
    have hlt : k < ps.length := by
      by_cases c : k < ps.length
      · exact c
      · rw [List.getElem?_eq_none (by omega)] at hk; cases hk
    simp only [World.cell?, q2]
    have e : (cur.toList.take (ps.length * 6))[k * 6 + j]? = (ps.flatMap PV.cl)[k * 6 + j]? := by rw [q6]
    rw [List.getElem?_take, if_pos (by omega), Array.getElem?_toList] at e
    rw [e]
    exact flat_six PV.cl 6 (fun _ => rfl) ps k x hk j hj

/-- Three lists more. -/
theorem app3 {base n : Nat} {w : World} {v : Value} {xs : List Value} (h : w.ownsRow base 22 1 v n xs) (u1 u2 u3 : Value) (h1 : u1.oneCell' = true) (h2 : u2.oneCell' = true) (h3 : u3.oneCell' = true) (few : n ≤ 10000) (hB : base ≤ w.heap.size) :
    ∃ g c w', (Builtin.append_ #[44, 44] 44 #[v, .slice (some ⟨w.heap.size, 0, none⟩) 3 3]).run Try.prog (w.alloc (.cells #[u1, u2, u3] 22)) = .ok (.slice (some ⟨g, 0, none⟩) (n + 3) c) w'
      ∧ w'.ownsRow base 22 1 (.slice (some ⟨g, 0, none⟩) (n + 3) c) (n + 3) (xs ++ [u1, u2, u3]) ∧ (w.alloc (.cells #[u1, u2, u3] 22)).grownBy w' v.ownBlock := by
  obtain ⟨inf, hi0, hz0, hz1, hz2⟩ := info_parts Try.infoS
  have hsz := alloc_size w (.cells #[u1, u2, u3] 22)
  have hnews : ∀ (i : Nat) u, ([u1, u2, u3] : List Value)[i]? = some u → (w.alloc (.cells #[u1, u2, u3] 22)).cell? ((⟨w.heap.size, 0, none⟩ : Addr).add i) = some u := fun i u hu => by
    rw [show (⟨w.heap.size, 0, none⟩ : Addr).add i = ⟨w.heap.size, i, none⟩ by simp [Addr.add]; exact fun e => e.symm]
    simp only [World.cell?, heap_alloc_new]
    rw [← hu]
    simp
  obtain ⟨v5, W5, hrun, o5, g5, -⟩ := run_append_own (P := Try.prog) (w.alloc (.cells #[u1, u2, u3] 22)) base 44 44 22 inf (.slice none 0 0) 1 24 Try.underlying44 hi0 hz0 hz1 hz2 rfl (by decide) v n xs (h.alloc _) ⟨w.heap.size, 0, none⟩ 3 3 [u1, u2, u3] rfl hnews (fun u hu => by simp at hu; rcases hu with rfl | rfl | rfl <;> assumption) (by unfold maxLen; omega) (by omega) (by omega)
  obtain ⟨h5, c5, rfl⟩ : ∃ h5 c5, v5 = .slice (some ⟨h5, 0, none⟩) (n + 3) c5 := by
    rcases o5.2 with ⟨-, e⟩ | ⟨g6, cap, cur, e, -⟩
    · omega
    · exact ⟨g6, cap, e⟩
  exact ⟨h5, c5, W5, hrun, o5, g5⟩

theorem apart05 (B : Nat) (w : World) (gl n cl : Nat) (ps : List PV) (hn : ps.length = n) (h : PRow B w (.slice (some ⟨gl, 0, none⟩) n cl) ps) (hB : B ≤ w.heap.size) (few : n ≤ 1000) (h0 : 0 < n) :
    Calls Try.prog 28 #[.slice (some ⟨gl, 0, none⟩) n cl] w fun e w' => e = .returned (.bool true) ∧ Below B w w' := by
  have hcap : n ≤ cl ∧ cl ≤ 9223372036854775807 := by
    rcases h.row.2 with ⟨e, -⟩ | ⟨g, cap, cur, e, q1, q2, q3, q4, q5, q6⟩
    · cases e
    · simp only [Value.slice.injEq, Option.some.injEq, Addr.mk.injEq, and_true] at e
      obtain ⟨rfl, e2, rfl⟩ := e
      unfold maxLen at q4
      omega
  have HH := hide h; have HNN := hide hn
  have hgl := hide (cell_ltb ((h.cell 0 (ps[0]'(by omega)) (by simp) 0 (by omega)).trans rfl))
  clear h hn
  go_enter Try.func28, Try.ntmps28
  go_wp2_with fail
  go_loopw [3, 4] (fun all i wr => ∃ (k : Nat) (a : Option Addr) (c : Nat), k ≤ n ∧ i = .int .i64 k ∧ all = .slice a (k * 3) c ∧ wr.ownsRow w.heap.size 22 1 (.slice a (k * 3) c) (k * 3) ((ps.take k).flatMap PV.vl) ∧ w.grownBy wr none) (fun _ i _ => n - (intOf i).toNat)
  case atStart => exact ⟨0, none, 0, Nat.zero_le _, rfl, rfl, World.ownsRow_nil _ _ _ _, World.grownBy.refl w none⟩
  case round =>
    obtain ⟨k, a, c, hk, rfl, rfl, ho, gr⟩ := hrel
    have hml : ¬ (9223372036854775807 : Int) < (n : Int) := by omega
    by_cases hlt : k < n
    · have kN : (k : Int) < (n : Int) := by omega
      obtain ⟨x, hx⟩ : ∃ x, ps[k]? = some x := ⟨ps[k]'(by have := unhide HNN; omega), by simp⟩
      have PR := (unhide HH).grown gr
      have xin := PR.own x (List.mem_of_getElem? hx)
      have y1 : wr.cell? ⟨gl, k * 6 + 1, none⟩ = some x.d := PR.cell k x hx 1 (by omega)
      have y2 : wr.cell? ⟨gl, k * 6 + 2, none⟩ = some x.s := PR.cell k x hx 2 (by omega)
      have y5 : wr.cell? ⟨gl, k * 6 + 5, none⟩ = some x.y := PR.cell k x hx 5 (by omega)
      have ho' : wr.drew.ownsRow w.heap.size 22 1 (.slice a (k * 3) c) (k * 3) ((ps.take k).flatMap PV.vl) := ho
      have gr' : w.grownBy wr.drew none := grown_drew' gr
      obtain ⟨g', c', W', hrun, o', g5⟩ := app3 ho' x.d x.s x.y xin.d.one xin.s.one xin.y.one (by omega) gr'.size
      have gA := gr'.trans (World.grownBy_alloc wr.drew (.cells #[x.d, x.s, x.y] 22) none)
      have lb := (ho'.alloc (.cells #[x.d, x.s, x.y] 22)).lt
      have gW : w.grownBy W' none := ⟨g5.os.trans gA.os, g5.tape.trans gA.tape, g5.output.trans gA.output, Nat.le_trans gA.size g5.size, fun i hi _ => (g5.block i (Nat.lt_of_lt_of_le hi gA.size) (fun e => by have := (lb i e.symm).1; omega)).trans (gA.block i hi (by simp))⟩
      have e3 : (ps.take (k + 1)).flatMap PV.vl = (ps.take k).flatMap PV.vl ++ [x.d, x.s, x.y] := by
        rw [List.take_add_one, hx]; simp [PV.vl]
      have PW := (unhide HH).grown gW
      have E := hide (show ∃ (k' : Nat) (a : Option Addr) (c : Nat), k' ≤ n ∧ Value.int .i64 ((k : Int) + 1) = .int .i64 k' ∧ Value.slice (some ⟨g', 0, none⟩) (k * 3 + 3) c' = .slice a (k' * 3) c ∧ W'.ownsRow w.heap.size 22 1 (.slice a (k' * 3) c) (k' * 3) ((ps.take k').flatMap PV.vl) ∧ w.grownBy W' none from
        ⟨k + 1, some ⟨g', 0, none⟩, c', hlt, by simp, by rw [Nat.succ_mul], by rw [e3, Nat.succ_mul]; exact o', gW⟩)
      have z1 : W'.cell? ⟨gl, k * 6 + 1, none⟩ = some x.d := PW.cell k x hx 1 (by omega)
      have z2 : W'.cell? ⟨gl, k * 6 + 2, none⟩ = some x.s := PW.cell k x hx 2 (by omega)
      have z5 : W'.cell? ⟨gl, k * 6 + 5, none⟩ = some x.y := PW.cell k x hx 5 (by omega)
      obtain ⟨a1, c1, e1⟩ := xin.d.shape
      obtain ⟨a2, c2, e2⟩ := xin.s.shape
      obtain ⟨a4, c4, e4⟩ := xin.y.shape
      rw [e1] at y1 z1 hrun
      rw [e2] at y2 z2 hrun
      rw [e4] at y5 z5 hrun
      have lw : gl < wr.heap.size := cell_ltb y1
      have nw := Nat.ne_of_lt lw
      have nw' := Ne.symm nw
      clear e1 e2 e4 PW e3 gW lb gA o' g5 gr' ho' xin PR ho gr hx few h0 hgl
      generalize x.p.dst.length = n1 at *
      generalize x.p.src.length = n2 at *
      generalize x.p.payload.length = n3 at *
      go_upto_region 5 with fail
      go_region_held_law (fun w' => w'.cell? ⟨gl, k * 6 + 1, none⟩ = some (.slice a1 n1 c1) ∧ w'.cell? ⟨gl, k * 6 + 2, none⟩ = some (.slice a2 n2 c2) ∧ w'.cell? ⟨gl, k * 6 + 5, none⟩ = some (.slice a4 n3 c4)) (go_keep) (refine step_append_run rfl _ _ 44 44 rfl _ _ (by simp [Act.eval]) (by simp [Act.eval] <;> omega) hrun ?_)
      simp only [List.getElem_toArray, List.getElem_cons_succ, List.getElem_cons_zero]
      go_wp2_with fail
      exact ⟨unhide E, by simp [intOf]; omega⟩
    · obtain rfl : k = n := by omega
      have kN : ¬ (k : Int) < (k : Int) := by omega
      have hps : ps.take k = ps := List.take_of_length_le (Nat.le_of_eq (unhide HNN))
      rw [hps] at ho
      have hvl : (ps.flatMap PV.vl).length = k * 3 := by rw [flat_len PV.vl 3 (fun _ => rfl), unhide HNN]
      have PR := (unhide HH).grown gr
      obtain ⟨b, cap, cur, e, q1, q2, q3, q4, q5, q6⟩ : ∃ g cap cur, Value.slice a (k * 3) c = .slice (some ⟨g, 0, none⟩) (k * 3) cap ∧ w.heap.size ≤ g ∧ wr.heap[g]? = some (.cells cur 22 (0, 0)) ∧ k * 3 ≤ cap ∧ cap ≤ maxLen ∧ cur.size = cap * 1 ∧ cur.toList.take (k * 3 * 1) = ps.flatMap PV.vl := by
        rcases ho.2 with ⟨e, e2⟩ | hh
        · omega
        · exact hh
      have ap := apart_row (ps.flatMap PV.vl) cur w wr B b cap (Nat.le_trans hB q1) q2 (by rw [hvl]; rw [Nat.mul_one] at q6; exact q6) (fun v hv => by
        rw [List.mem_flatMap] at hv
        obtain ⟨x, hx, hv⟩ := hv
        have xin := PR.own x hx
        simp only [PV.vl, List.mem_cons, List.not_mem_nil, or_false] at hv
        rcases hv with rfl | rfl | rfl
        · exact ⟨_, _, xin.d, xin.ld⟩
        · exact ⟨_, _, xin.s, xin.ls⟩
        · exact ⟨_, _, xin.y, xin.ly⟩) PR.sep (by rw [hvl]; omega) ((grown_bel gr).mono hB)
      rw [hvl, ← e] at ap
      clear e q1 q2 q3 q4 q5 q6 PR hvl ho gr hps
      go_wp2_with fail
      refine ap.mono ?_
      rintro e W2 ⟨rfl, b2⟩
      clear ap
      go_wp2_with fail
      go_ret
      exact ⟨rfl, b2⟩

end Go.Proofs.Ytdmjejfnohhpiaa
