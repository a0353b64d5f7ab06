/- F1A, F1I, F1E, F1K, F1D, F1W, one text. -/
import Derived.Test.YtggjeamondampabFU
import Derived.Test.YtggjeamondampabFV
import Derived.Test.YtggjeamondampabFX6
import Derived.Test.YtggjeamondampabFH
import Derived.Laws.Tables
import Derived.Test.YtggjeamondampabF1B
import Derived.Lib.SlBytesConst
import Derived.Laws.IdiomStrings
import Derived.Laws.BytesArg
import Derived.Test.YtggjeamondampabF1S
namespace Go.Proofs.Ytggjeamondampab
open Go.RowKit
set_option linter.unusedVariables false
set_option maxRecDepth 100000
set_option maxHeartbeats 4000000

/-- A frame whose lists can be read. -/
structure FrR (w : World) (f : Fr) (d r : Value) : Prop where
  data : ∃ a c, d = .slice a f.data.length c ∧ Rd w a f.data ∧ f.data.length ≤ c ∧ c ≤ 9223372036854775807
  runs : ∃ a c, r = .slice a f.runs.length c ∧ RdR w a f.runs ∧ f.runs.length ≤ c ∧ c ≤ 9223372036854775807
theorem RdR.grow {w W : World} {a : Option Addr} {L : List (Int × Int)} (h : RdR w a L) (g : w.grownBy W none) : RdR W a L := fun hne => by
  obtain ⟨b, off, e, hcs⟩ := h hne
  exact ⟨b, off, e, fun i hi => ⟨cell_grown (hcs i hi).1 g, cell_grown (hcs i hi).2 g⟩⟩
theorem FrR.keep {w W : World} {f : Fr} {d r : Value} (h : FrR w f d r) (g : w.grownBy W none) : FrR W f d r := by
  obtain ⟨a, c, e, h1, h2, h3⟩ := h.data
  obtain ⟨a', c', e', h1', h2', h3'⟩ := h.runs
  exact ⟨⟨a, c, e, h1.grow g, h2, h3⟩, ⟨a', c', e', h1'.grow g, h2', h3'⟩⟩
theorem FrR.of {w : World} {f : Fr} {d r : Value} (h : FrIn w f d r) (t : TS w d f.data) : FrR w f d r := ⟨t.ex, h.runs⟩
theorem OwnB.rd {base : Nat} {w : World} {v : Value} {T : List Int} (h : OwnB base w v T) (hb : ∀ x ∈ T, IsB x) : ∃ a c, v = .slice a T.length c ∧ Rd w a T ∧ T.length ≤ c ∧ c ≤ 9223372036854775807 := by
  rcases h.2 with ⟨e1, e2⟩ | ⟨g, c', cur, e1, q1, q2, q3, q4, q5, q6⟩
  · exact ⟨none, 0, by rw [e1, e2], ⟨hb, fun hne => absurd (List.length_eq_zero_iff.1 e2) hne⟩, by omega, by omega⟩
  · unfold maxLen at q4
    refine ⟨_, c', e1, ⟨hb, fun _ => ⟨g, 0, rfl, fun j hj => ?_⟩⟩, q3, by omega⟩
    rw [Nat.zero_add]
    unfold World.cell?
    rw [q2]
    have h1 : (cur.toList.take (T.length * 1))[j]? = (T.map (Value.int .u8))[j]? := by rw [q6]
    rw [List.getElem?_take, if_pos (by omega), Array.getElem?_toList] at h1
    simp only
    rw [h1]
    simp [List.getD, hj]
theorem clR_get (L : List (Int × Int)) (j : Nat) (hj : j < L.length) : (clR L)[j * 2]? = some (.int .i64 (L.getD j (0, 0)).1) ∧ (clR L)[j * 2 + 1]? = some (.int .i64 (L.getD j (0, 0)).2) := by
  induction L generalizing j with
  | nil => simp at hj
  | cons s L ih =>
    cases j with
    | zero => simp [clR]
    | succ j =>
      have := ih j (by simpa using hj)
      have e : clR (s :: L) = Value.int .i64 s.1 :: Value.int .i64 s.2 :: clR L := by simp [clR]
      rw [e, show (j + 1) * 2 = j * 2 + 2 by omega, show j * 2 + 2 + 1 = j * 2 + 1 + 2 by omega]
      simpa using this
theorem OwnR.rd {base : Nat} {w : World} {v : Value} {T : List (Int × Int)} (h : OwnR base w v T) : ∃ a c, v = .slice a T.length c ∧ RdR w a T ∧ T.length ≤ c ∧ c ≤ 9223372036854775807 := by
  rcases h.2 with ⟨e1, e2⟩ | ⟨g, c', cur, e1, q1, q2, q3, q4, q5, q6⟩
  · exact ⟨none, 0, by rw [e1, e2], fun hne => absurd (List.length_eq_zero_iff.1 e2) hne, by omega, by omega⟩
  · unfold maxLen at q4
    refine ⟨_, c', e1, fun _ => ⟨g, 0, rfl, fun j hj => ?_⟩, q3, by omega⟩
    have hc : ∀ m, m < T.length * 2 → w.cell? ⟨g, m, none⟩ = (clR T)[m]? := fun m hm => by
      unfold World.cell?
      rw [q2]
      have h1 : (cur.toList.take (T.length * 2))[m]? = (clR T)[m]? := by rw [q6]
      rw [List.getElem?_take, if_pos hm, Array.getElem?_toList] at h1
      exact h1
    obtain ⟨c0, c1⟩ := clR_get T j hj
    rw [Nat.zero_add, hc _ (by omega), hc _ (by omega)]
    exact ⟨c0, c1⟩
theorem FrR.own {base : Nat} {w : World} {f : Fr} {d r : Value} (h : OwnB base w d f.data) (hr : OwnR base w r f.runs) (hb : ∀ x ∈ f.data, IsB x) : FrR w f d r := ⟨h.rd hb, hr.rd⟩
theorem FrR.zero (w : World) : FrR w Fr.zero nilS nilS := ⟨⟨none, 0, rfl, ⟨by simp [Fr.zero], fun h => absurd rfl h⟩, Nat.le_refl _, by omega⟩, ⟨none, 0, rfl, fun h => absurd rfl h, Nat.le_refl _, by omega⟩⟩

theorem same_fr (f : Fr) (d r d' r' : Value) (w : World) (h : FrR w f d r) (h' : FrR w f d' r') :
    Calls Try.prog 13 #[f.val d r, f.val d' r'] w fun e w' => e = .returned (.bool true) ∧ w.grownBy w' none := by
  obtain ⟨a, c, rfl, h1, h2, h3⟩ := h.data
  obtain ⟨p, q, rfl, h4, h5, h6⟩ := h.runs
  obtain ⟨a', c', rfl, k1, k2, k3⟩ := h'.data
  obtain ⟨p', q', rfl, k4, k5, k6⟩ := h'.runs
  have S1 := hide (fun W (g : w.grownBy W none) => same_any a a' f.data.length c c' f.data f.data W rfl rfl (h1.grow g) (k1.grow g) ⟨h2, h3⟩ ⟨k2, k3⟩)
  have S2 := hide (fun W (g : w.grownBy W none) => sameRuns_any p p' f.runs.length q q' f.runs f.runs W rfl rfl (h4.grow g) (k4.grow g) ⟨h5, h6⟩ ⟨k5, k6⟩)
  simp only [decide_true] at S1 S2
  clear h h' h1 h2 h3 h4 h5 h6 k1 k2 k3 k4 k5 k6
  have gA := (World.grownBy_alloc w (.cells (f.cs (.slice a f.data.length c) (.slice p f.runs.length q)) 26) none).trans (World.grownBy_alloc _ (.cells (f.cs (.slice a' f.data.length c') (.slice p' f.runs.length q')) 26) none)
  have T1 := unhide S1 _ gA
  obtain ⟨B1, B2, -⟩ := Blk.two w (f.cs (.slice a f.data.length c) (.slice p f.runs.length q)) (f.cs (.slice a' f.data.length c') (.slice p' f.runs.length q')) 26 26
  have HB := hide (And.intro B1 (And.intro B2 gA))
  clear B1 B2 gA S1
  generalize f.data.length = n at *
  generalize f.runs.length = m at *
  go_enter Try.func13, Try.ntmps13
  go_wp2_with fail
  refine T1.mono ?_
  rintro e W1 ⟨rfl, g1⟩
  clear T1
  generalize (w.alloc _).alloc _ = W0 at *
  obtain ⟨B1, B2, gA⟩ := unhide HB
  have T2 := unhide S2 W1 (gA.trans g1)
  have B1' := B1.grown g1
  have B2' := B2.grown g1
  have x12 := B1'.cell 12 _ rfl
  have y12 := B2'.cell 12 _ rfl
  have HB' := hide (And.intro B1' (And.intro B2' (gA.trans g1)))
  clear HB B1 B2 gA g1 S2 B1' B2'
  go_wp2_with fail
  refine T2.mono ?_
  rintro e W2 ⟨rfl, g2⟩
  clear T2 x12 y12
  obtain ⟨B1, B2, gA⟩ := unhide HB'
  obtain ⟨x0, x1, x2, x3, x4, x5, x6, x7, x8, x9, x10, x11, x12, x13, x14, x15, x16⟩ := (B1.grown g2).cells
  obtain ⟨y0, y1, y2, y3, y4, y5, y6, y7, y8, y9, y10, y11, y12, y13, y14, y15, y16⟩ := (B2.grown g2).cells
  have G := hide (gA.trans g2)
  clear HB' B1 B2 gA g2
  go_wp2
  go_ret
  exact ⟨rfl, unhide G⟩
end Go.Proofs.Ytggjeamondampab

namespace Go.Proofs.Ytggjeamondampab
open Go.RowKit
set_option linter.unusedVariables false
/-- A whole frame is stored into the newest block. -/
theorem wpList_store_new {ops : Array Oper} {rest : List Oper} {o : Oper} {a : Act} {Q : Exit → Act → World → Prop} (W : World) (Z C : Array Value) (k : Nat) (hgd : o.guard = none) (t : TypeId) (p x : Operand) (ho : o.op = .store t p x)
    (hk : W.heap.size = k) (hp : a.eval p = .pointer (some ⟨k, 0, none⟩)) (hx : a.eval x = .agg C) (hi : (Try.prog.info? t).map (·.size) = some C.size) (hz : Z.size = C.size) (h1 : C.all (·.oneCell') = true)
    (h : wpList Try.prog ops Q rest (a.put o.dst undef) (W.alloc (.cells C t))) : wpList Try.prog ops Q (o :: rest) a (W.alloc (.cells Z t)) := by
  subst hk
  refine wpList_store_row hgd _ _ _ ho W.heap.size C hp hx t Z (Blk.new W Z t) hi hz h1 ?_
  rw [World.setRow_alloc_new]
  exact h

theorem Try.sizeF (f : Fr) (d r : Value) : (Try.prog.info? 26).map (·.size) = some (f.cs d r).size := Try.size26
abbrev Z17 : Array Value := #[.int .i64 0, .int .i64 0, .int .i64 0, .slice none 0 0, .int .i64 0, .bool false, .bool false, .int .i64 0, .bool false, .int .i64 0, .bool false, .int .i64 0, .slice none 0 0, .bool false, .int .i64 0, .int .i64 0, .int .i64 0]
end Go.Proofs.Ytggjeamondampab

namespace Go.Proofs.Ytggjeamondampab
open Go.RowKit
set_option linter.unusedVariables false
set_option maxRecDepth 100000
set_option maxHeartbeats 2000000

def fA : Fr := ⟨6, 0, 300, [97, 98, 99], 0, false, false, 0, false, 0, false, 0, [], false, 0, 0, 0⟩
def bA : List Int := [6, 65, 44, 3, 97, 98, 99]
theorem enc_A : encF fA = (bA, 0) := by kernel_rfl
def fB : Fr := ⟨2, 0, 0, [], 0, false, false, 0, false, 0, false, 0, [(5, 5), (0, 0)], false, 0, 0, 0⟩
theorem dec_B : decF [2, 5, 0, 1, 0, 3, 0] = .inl (fB, []) := by kernel_rfl

theorem conv_rd (w : World) (a : Option Addr) (l : List Int) (n cap : Nat) (hn : l.length = n) (hr : Rd w a l) :
    (convert 22 9 (.slice a n cap)).run Try.prog w = .ok (.string (strOfNums l)) w := by
  subst hn
  by_cases h : l = []
  · subst h
    rw [run_convert_bytes_string w 22 9 5 _ _ cap Try.underlying22 Try.underlying5 Try.underlying9]
    cases a <;> simp [Conv.bytesToString, loadCells]
    all_goals rfl
  · obtain ⟨b, off, rfl, hc⟩ := hr.2 h
    exact run_convert_bytes_arg w 22 5 Try.underlying22 Try.underlying5 b off _ cap l rfl hc 9 Try.underlying9
theorem str_toList (l : List Int) : (strOfNums l).toList = l.map fun n => UInt8.ofNat n.toNat := by
  rw [ByteArray.toList_eq]
  rfl
theorem InS.mark (w : World) (l : List Int) (n : Nat) (fr : Nat × Nat) (hn : l.length = n) (hm : n ≤ maxLen) (hb : ∀ x ∈ l, IsB x) : InS (w.alloc (.cells (l.map (Value.int .u8)).toArray 5 fr)) (.slice (some ⟨w.heap.size, 0, none⟩) n n) l := by
  subst hn
  refine ⟨_, _, rfl, ⟨hb, fun _ => ⟨_, _, rfl, fun i hi => ?_⟩⟩, Nat.le_refl _, hm, fun x e _ => ?_⟩
  · rw [Nat.zero_add, World.cell?_alloc_mark]
    simp [List.getD, hi]
  · cases e
    exact ⟨by show _ < (w.heap.push _).size; simp, _, _, rfl⟩
theorem InS.keep {w W : World} {v : Value} {l : List Int} (h : InS w v l) (g : w.grownBy W none) : InS W v l := by
  obtain ⟨a, c, e, h1, h2, h3, h4⟩ := h.ex
  exact ⟨a, c, e, h1.grow g, h2, h3, fun x hx hc => ⟨Nat.lt_of_lt_of_le (h4 x hx hc).1 g.size, (h4 x hx hc).2⟩⟩
theorem OwnB.inS {base : Nat} {w : World} {v : Value} {T : List Int} (h : OwnB base w v T) (hb : ∀ x ∈ T, IsB x) : InS w v T := by
  obtain ⟨a, c, e, h1, h2, h3⟩ := h.rd hb
  rcases h.2 with ⟨e1, e2⟩ | ⟨g, c', cur, e1, q1, q2, q3, q4, q5, q6⟩
  · rw [e1] at e
    injection e with ea eb ec
    exact ⟨none, 0, by rw [e1, e2], by rw [ea]; exact h1, by omega, by unfold maxLen; omega, fun x hx => by cases hx⟩
  · rw [e1] at e
    injection e with ea eb ec
    subst ea ec
    exact ⟨_, c', e1, h1, q3, q4, fun x hx _ => by cases hx; exact ⟨(Array.getElem?_eq_some_iff.1 q2).1, _, _, rfl⟩⟩

theorem awake_any (w : World) : Calls Try.prog 8 #[] w fun e w' => e = .returned (.bool true) ∧ w.grownBy w' none := by
  have cA := Lib.run_convert_bytes_const (P := Try.prog) w 22 5 #[.int .u8 97, .int .u8 98, .int .u8 99] 3 3 Try.underlying22 Try.underlying5
  have i1 : InS (w.alloc (.cells #[.int .u8 97, .int .u8 98, .int .u8 99] 5 (3, 4))) (.slice (some ⟨w.heap.size, 0, none⟩) 3 3) [97, 98, 99] := InS.mark w [97, 98, 99] 3 (3, 4) rfl (by unfold maxLen; omega) (by simp [IsB])
  have g1 := (World.grownBy_alloc w (.cells #[.int .u8 97, .int .u8 98, .int .u8 99] 5 (3, 4)) none).trans (World.grownBy_alloc _ (.cells (fA.cs (.slice (some ⟨w.heap.size, 0, none⟩) 3 3) nilS) 26) none)
  have i2 := i1.keep (World.grownBy_alloc _ (.cells (fA.cs (.slice (some ⟨w.heap.size, 0, none⟩) 3 3) nilS) 26) none)
  have t1 : TS ((w.alloc (.cells #[.int .u8 97, .int .u8 98, .int .u8 99] 5 (3, 4))).alloc (.cells (fA.cs (.slice (some ⟨w.heap.size, 0, none⟩) 3 3) nilS) 26)) (.slice (some ⟨w.heap.size, 0, none⟩) 3 3) fA.data := by
    obtain ⟨a, c, e, h1, h2, h3, -⟩ := i2.ex
    exact ⟨a, c, e, h1, h2, by unfold maxLen at h3; omega⟩
  have f1 : FrIn ((w.alloc (.cells #[.int .u8 97, .int .u8 98, .int .u8 99] 5 (3, 4))).alloc (.cells (fA.cs (.slice (some ⟨w.heap.size, 0, none⟩) 3 3) nilS) 26)) fA (.slice (some ⟨w.heap.size, 0, none⟩) 3 3) nilS :=
    ⟨⟨_, _, rfl, by decide, by decide⟩, ⟨_, _, rfl, fun h => absurd rfl h, by decide, by decide⟩, fun s hs => by cases hs⟩
  have en := encode_any fA _ _ _ f1 t1 (by decide) (by decide) (by decide)
  rw [enc_A] at en
  have G1 := hide g1
  clear g1 i1 i2 t1 f1
  go_enter Try.func8, Try.ntmps8
  have bF0 := Blk.new (w.alloc (.cells #[.int .u8 97, .int .u8 98, .int .u8 99] 5 (3, 4))) (fA.cs (.slice (some ⟨w.heap.size, 0, none⟩) 3 3) nilS) 26
  have es1 : (w.alloc (.cells #[.int .u8 97, .int .u8 98, .int .u8 99] 5 (3, 4))).heap.size = w.heap.size + 1 := by show (w.heap.push _).size = _; simp
  rw [es1] at bF0
  go_upto_region 2 with (refine wpList_store_new _ Z17 (fA.cs (.slice (some ⟨w.heap.size, 0, none⟩) 3 3) nilS) (w.heap.size + 1) rfl _ _ _ rfl es1 rfl rfl Try.size26 rfl (one17 fA _ _ rfl rfl) ?_)
  go_wp2_with (refine wpList_load_row rfl _ _ rfl (w.heap.size + 1) rfl 26 (fA.cs (.slice (some ⟨w.heap.size, 0, none⟩) 3 3) nilS) (0, 0) _ bF0 Try.underlying26 rfl Try.size26 ?_)
  refine en.mono ?_
  rintro e W3 ⟨v, rfl, o3, g3⟩
  have bb : ∀ x ∈ bA, IsB x := by simp [bA, IsB]
  obtain ⟨a, c, rfl, rd3, -, -⟩ := o3.rd bb
  have hlA : bA.length = 7 := rfl
  rw [hlA]
  have cB := Lib.run_convert_bytes_const (P := Try.prog) W3 22 5 #[.int .u8 2, .int .u8 5, .int .u8 0, .int .u8 1, .int .u8 0, .int .u8 3, .int .u8 0] 7 7 Try.underlying22 Try.underlying5
  have j1 : InS (W3.alloc (.cells #[.int .u8 2, .int .u8 5, .int .u8 0, .int .u8 1, .int .u8 0, .int .u8 3, .int .u8 0] 5 (7, 8))) (.slice (some ⟨W3.heap.size, 0, none⟩) 7 7) [2, 5, 0, 1, 0, 3, 0] := InS.mark W3 [2, 5, 0, 1, 0, 3, 0] 7 (7, 8) rfl (by unfold maxLen; omega) (by simp [IsB])
  have de := decode_in (k := 0) j1 (by simp) (by simp)
  have g4 := World.grownBy_alloc W3 (.cells #[.int .u8 2, .int .u8 5, .int .u8 0, .int .u8 1, .int .u8 0, .int .u8 3, .int .u8 0] 5 (7, 8)) none
  have G4 := hide (((unhide G1).trans g3).trans g4)
  have R4 := hide (rd3.grow g4)
  clear en cA o3 g3 rd3 j1 g4 G1
  go_wp2_with fail
  refine de.mono ?_
  rintro e W5 (⟨f', l1, d', r', h1, rfl, o1, o2, g5⟩ | ⟨e', h1, -⟩)
  case inr => rw [List.drop_zero, dec_B] at h1; cases h1
  rw [List.drop_zero, dec_B] at h1
  cases h1
  obtain ⟨pa, pc, rfl, rr, rl1, rl2⟩ := o2.rd
  obtain ⟨qa, qc, rfl⟩ := o1.shape
  have g6 := World.grownBy_alloc W5 (.cells (fB.cs (.slice qa fB.data.length qc) (.slice pa fB.runs.length pc)) 26) none
  have g7 := World.grownBy_alloc (W5.alloc (.cells (fB.cs (.slice qa fB.data.length qc) (.slice pa fB.runs.length pc)) 26)) (.cells #[.int .i64 5, .int .i64 5, .int .i64 0, .int .i64 0] 57) none
  have r2 : RdR ((W5.alloc (.cells (fB.cs (.slice qa fB.data.length qc) (.slice pa fB.runs.length pc)) 26)).alloc (.cells #[.int .i64 5, .int .i64 5, .int .i64 0, .int .i64 0] 57)) (some ⟨(W5.alloc (.cells (fB.cs (.slice qa fB.data.length qc) (.slice pa fB.runs.length pc)) 26)).heap.size, 0, none⟩) fB.runs := fun _ => ⟨_, 0, rfl, fun i hi => by
    have B := Blk.new (W5.alloc (.cells (fB.cs (.slice qa fB.data.length qc) (.slice pa fB.runs.length pc)) 26)) #[.int .i64 5, .int .i64 5, .int .i64 0, .int .i64 0] 57
    match i, hi with
    | 0, _ => exact ⟨B.cell 0 _ rfl, B.cell 1 _ rfl⟩
    | 1, _ => exact ⟨B.cell 2 _ rfl, B.cell 3 _ rfl⟩⟩
  have sr := sameRuns_any pa _ 2 pc 2 fB.runs fB.runs _ rfl rfl (rr.grow (g6.trans g7)) r2 ⟨rl1, rl2⟩ (by omega)
  have esz : (W5.alloc (.cells (fB.cs (.slice qa fB.data.length qc) (.slice pa fB.runs.length pc)) 26)).heap.size = W5.heap.size + 1 := by show (W5.heap.push _).size = _; simp
  rw [esz] at sr
  simp only [decide_true] at sr
  have bF := (Blk.new W5 (fB.cs (.slice qa fB.data.length qc) (.slice pa fB.runs.length pc)) 26).grown g7
  have HF := hide (And.intro bF (And.intro ((unhide G4).trans (g5.trans (g6.trans g7))) ((unhide R4).grow (g5.trans (g6.trans g7)))))
  clear de cB o1 o2 rr g6 g7 r2 esz bF G4 R4 g5 rl1 rl2
  have hl2 : fB.runs.length = 2 := rfl
  have hl0 : fB.data.length = 0 := rfl
  rw [hl2, hl0] at sr HF ⊢
  go_upto_region 4 with (refine wpList_store_new _ Z17 (fB.cs (.slice qa 0 qc) (.slice pa 2 pc)) W5.heap.size rfl _ _ _ rfl rfl rfl rfl Try.size26 rfl (one17 fB _ _ rfl rfl) ?_)
  have c12 := (Blk.new W5 (fB.cs (.slice qa 0 qc) (.slice pa 2 pc)) 26).cell 12 (.slice pa 2 pc) rfl
  go_wp2_with fail
  refine sr.mono ?_
  rintro e W8 ⟨rfl, g8⟩
  obtain ⟨bF, gF, rF⟩ := unhide HF
  have k0 := (bF.grown g8).cell 0 (.int .i64 2) rfl
  have cv := conv_rd W8 a bA 7 c rfl (rF.grow g8)
  have hs1 : ((strOfNums bA).toList == [6, 65, 44, 3, 97, 98, 99]) = true := by rw [str_toList]; decide
  have G := hide (gF.trans g8)
  clear sr HF bF gF rF g8
  go_wp2
  go_ret
  exact ⟨rfl, unhide G⟩
end Go.Proofs.Ytggjeamondampab

namespace Go.Proofs.Ytggjeamondampab
open Go.RowKit
set_option linter.unusedVariables false
set_option maxRecDepth 100000
set_option maxHeartbeats 1000000

def Er (e : Int) : Prop := e = 40 ∨ e = 42
theorem runF_err {hi : Int} {l : List Int} {e : Int} (h : runF hi l = .inr e) : Er e := by
  unfold runF at h
  split at h
  · cases h; exact .inr rfl
  · split at h
    · cases h; exact .inl rfl
    · split at h
      · cases h; exact .inr rfl
      · cases h
theorem moreF_err : ∀ (n : Nat) {lo : Int} {l : List Int} {e : Int}, moreF n lo l = .inr e → Er e := by
  intro n
  induction n with
  | zero => intro lo l e h; cases h
  | succ n ih =>
    intro lo l e h
    simp only [moreF] at h
    split at h
    · cases h; exact .inl rfl
    · split at h
      · rename_i hr; cases h; exact runF_err hr
      · split at h
        · rename_i hr; cases h; exact ih hr
        · cases h
theorem runsF_err {hi : Int} {l : List Int} {e : Int} (h : runsF hi l = .inr e) : Er e := by
  unfold runsF at h
  split at h
  · cases h; exact .inl rfl
  · split at h
    · rename_i hr; cases h; exact runF_err hr
    · split at h
      · rename_i hr; cases h; exact moreF_err _ hr
      · cases h
theorem bytesF_err {off n : Int} {l : List Int} {e : Int} (h : bytesF off n l = .inr e) : Er e := by
  unfold bytesF at h
  split at h
  · cases h; exact .inr rfl
  · split at h
    · cases h; exact .inl rfl
    · cases h
theorem readP_err {p : Nat} {g : Fr} {l : List Int} {e : Int} (h : readP p g l = .inr e) : Er e := by
  unfold readP at h
  split at h
  · cases h
  split at h
  · cases h
  split at h
  · split at h
    · cases h; exact .inl rfl
    · cases h
  split at h
  · split at h
    · rename_i hr; cases h; exact runsF_err hr
    · cases h
  split at h
  · split at h
    · cases h; exact .inl rfl
    · split at h
      · cases h; exact .inl rfl
      · split at h
        · cases h; exact .inl rfl
        · cases h
  split at h
  · split at h
    · cases h; exact .inl rfl
    · split at h
      · rename_i hr; cases h; exact bytesF_err hr
      · cases h
  split at h
  · split at h
    · rename_i hr; cases h; exact bytesF_err hr
    · cases h
  split at h
  · split at h
    · rename_i hr; cases h; exact bytesF_err hr
    · cases h
  · split at h
    · cases h; exact .inl rfl
    · split at h
      · cases h; exact .inr rfl
      · cases h
theorem bind_err {x : (Fr × List Int) ⊕ Int} {k : Fr → List Int → (Fr × List Int) ⊕ Int} {e : Int} (hx : ∀ e, x = .inr e → Er e) (hk : ∀ f l e, k f l = .inr e → Er e) (h : bind' x k = .inr e) : Er e := by
  unfold bind' at h
  split at h
  · cases h; exact hx _ rfl
  · exact hk _ _ _ h
theorem decF_err {l : List Int} {e : Int} (h : decF l = .inr e) : e = 40 ∨ e = 41 ∨ e = 42 := by
  unfold decF at h
  split at h
  · cases h; exact .inl rfl
  · split at h
    · cases h; exact .inr (.inl rfl)
    · split at h
      · cases h; exact .inr (.inl rfl)
      · have : Er e := by
          unfold readPs at h
          exact bind_err (fun e he => readP_err he) (fun f l e he => bind_err (fun e he => readP_err he) (fun f l e he => bind_err (fun e he => readP_err he) (fun f l e he => readP_err he) he) he) h
        unfold Er at this
        omega

theorem tell_runs {f : Fr} {n rs : List Int} (h : tellF f = .inl (n, rs)) : (∀ s ∈ f.runs, -9223372036854775808 ≤ s.1 ∧ s.1 ≤ 9223372036854775807) ∧ (-9223372036854775808 ≤ f.kind ∧ f.kind ≤ 9223372036854775807) := by
  unfold tellF at h
  by_cases hk : isKindF f.kind = true
  · obtain ⟨bare, l, hs⟩ := type_some hk
    rw [if_pos hk, hs] at h
    simp only at h
    by_cases hm : mayF f bare l = true
    · refine ⟨fun s hs' => ?_, by have := kind_dom hk; omega⟩
      by_cases h9 : l.1 ≠ 9 ∧ l.2.1 ≠ 9 ∧ l.2.2.1 ≠ 9 ∧ l.2.2.2 ≠ 9
      · rw [may_runs hm h9] at hs'; cases hs'
      · have e9 : l.2.2.1 = 9 := by
          rcases shape_parts hs with e | e | e | e | e | e | e | e | e | e | e | e | e | e | e | e | e <;> (rw [e] at h9 ⊢ <;> (revert h9; decide))
        obtain ⟨⟨-, -, q3, -⟩, -⟩ := may_fields hm
        rw [e9] at q3
        have := (are_mem q3).2 s hs'
        unfold MAXN at this
        omega
    · rw [if_neg hm] at h; cases h
  · rw [if_neg hk] at h; cases h

/-- A frame that Decode made, as Encode takes it. -/
theorem own_in {base : Nat} {W : World} {f : Fr} {d r : Value} (h : OwnB base W d f.data) (hr : OwnR base W r f.runs) (hb : ∀ x ∈ f.data, IsB x) (h64 : ∀ s ∈ f.runs, -9223372036854775808 ≤ s.1 ∧ s.1 ≤ 9223372036854775807) : FrIn W f d r ∧ TS W d f.data := by
  obtain ⟨a, c, e, h1, h2, h3⟩ := h.rd hb
  exact ⟨⟨⟨a, c, e, h2, h3⟩, hr.rd, h64⟩, ⟨a, c, e, h1, h2, h3⟩⟩
theorem OwnR.keepN {base : Nat} {w w' : World} {v : Value} {T : List (Int × Int)} (h : OwnR base w v T) (g : w.grownBy w' none) : OwnR base w' v T := World.ownsRow.kept h g (by cases v.ownBlock <;> simp)

/-- Decode, its frame folded. -/
def DecFold (w : World) (l : List Int) (k : Nat) (e : Ending) (w' : World) : Prop :=
  (∃ (C : Array Value) (m : Nat), e = .returned (.tuple #[.agg C, .int .i64 (m : Int), .int .i64 0]) ∧ C.size = 17 ∧ C.all (·.oneCell') = true ∧ w.grownBy w' none ∧ Hid (∃ f' l1 d' r', decF (l.drop k) = .inl (f', l1) ∧ m = l.length - l1.length ∧ C = f'.cs d' r' ∧ OwnB w.heap.size w' d' f'.data ∧ OwnR w.heap.size w' r' f'.runs)) ∨
  (∃ e', decF (l.drop k) = .inr e' ∧ e = .returned (.tuple #[Fr.zero.val nilS nilS, .int .i64 0, .int .i64 e']) ∧ w.grownBy w' none)
theorem decode_folded {w : World} {v : Value} {l : List Int} {k : Nat} (h : InS w v l) (hk : k ≤ l.length) (hl : l.length ≤ 4000000000000) :
    Calls Try.prog 11 #[v, .int .i64 (k : Int)] w (DecFold w l k) := by
  refine (decode_in h hk hl).mono ?_
  rintro e w' (⟨f', l1, d', r', h1, rfl, o1, o2, g⟩ | ⟨e', h1, rfl, g⟩)
  · refine .inl ⟨_, _, rfl, rfl, ?_, g, f', l1, d', r', h1, rfl, rfl, o1, o2⟩
    apply one17
    · obtain ⟨a, c, e⟩ := o1.shape; rw [e]; rfl
    · obtain ⟨a, c, e, -⟩ := o2.rd; rw [e]; rfl
  · exact .inr ⟨e', h1, rfl, g⟩
end Go.Proofs.Ytggjeamondampab

namespace Go.Proofs.Ytggjeamondampab
open Go.RowKit
set_option linter.unusedVariables false
set_option maxRecDepth 100000
set_option maxHeartbeats 4000000

theorem OwnR.ownN {base : Nat} {w : World} {v : Value} {T : List (Int × Int)} (h : OwnR base w v T) : ∀ k, v.ownBlock = some k → base ≤ k := fun k hk => by
  rcases h.2 with ⟨rfl, -⟩ | ⟨b, c, cur, rfl, q1, -⟩
  · cases hk
  · injection hk with hk; exact hk ▸ q1
/-- More runs, whatever can be read. -/
theorem app_rdR {w0 W : World} {v : Value} {T e : List (Int × Int)} {a : Option Addr} (c : Nat) (h : OwnR w0.heap.size W v T) (hg : w0.grownBy W none) (hr : RdR W a e) (hb : (T.length + e.length) * 16 ≤ 140737488355328) :
    ∃ a' c' W', (∀ ty, (Builtin.append_ #[23, 23] ty #[v, .slice a e.length c]).run Try.prog W = .ok (.slice a' (T.length + e.length) c') W') ∧ OwnR w0.heap.size W' (.slice a' (T.length + e.length) c') (T ++ e) ∧ w0.grownBy W' none := by
  obtain ⟨inf, hi0, hz0, hz1, hz2⟩ := info_parts Try.info57
  by_cases he : e = []
  · subst he
    rcases h.2 with ⟨h1, h2⟩ | ⟨g, cap, cur, e1, -, -, hc, hx, -⟩
    · have h0 : T = [] := List.length_eq_zero_iff.1 h2
      subst h0 h1
      refine ⟨none, 0, W, fun ty => ?_, by simpa using h, hg⟩
      cases a <;> simp [Builtin.append_, run_underlying Try.underlying23, sizeOf, typeInfo, hi0, Builtin.lenOf, Builtin.firstCells, loadCells, loadCellsFrom]
    · subst e1
      refine ⟨_, cap, W, fun ty => ?_, by simpa using h, hg⟩
      cases a <;> simp [Builtin.append_, run_underlying Try.underlying23, sizeOf, typeInfo, hi0, Builtin.lenOf, Builtin.firstCells, loadCells, loadCellsFrom, hc, storeCells]
  · obtain ⟨b, off, rfl, hc⟩ := hr he
    obtain ⟨v', W', hrn, ho, hgr, hnil⟩ := run_append_own (P := Try.prog) W w0.heap.size 23 23 57 inf (.agg #[.int .i64 0, .int .i64 0]) 2 16 Try.underlying23 hi0 hz0 hz1 hz2 rfl (by decide) v T.length (clR T) h ⟨b, off, none⟩ e.length c (clR e) (clR_length e) (fun j u hj => by
      have hjl : j < e.length * 2 := by have := (List.getElem?_eq_some_iff.1 hj).1; rw [clR_length] at this; exact this
      have hadd : (⟨b, off, none⟩ : Addr).add j = ⟨b, off + j, none⟩ := by simp [Addr.add]
      rw [hadd]
      obtain ⟨g0, g1⟩ := clR_get e (j / 2) (by omega)
      obtain ⟨x0, x1⟩ := hc (j / 2) (by omega)
      rcases (by omega : j = j / 2 * 2 ∨ j = j / 2 * 2 + 1) with hh | hh
      · rw [hh, g0] at hj; injection hj with hj; rw [hh, ← hj]; exact x0
      · rw [hh, g1] at hj; injection hj with hj; rw [hh, ← hj, ← Nat.add_assoc]; exact x1) (fun u hu => by
      simp only [clR, List.mem_flatMap] at hu
      obtain ⟨s, -, hs⟩ := hu
      rcases List.mem_cons.1 hs with rfl | hs
      · rfl
      · obtain rfl := List.mem_singleton.1 hs; rfl) (by unfold maxLen; omega) (by omega) hg.size
    have e2 : (T ++ e).length = T.length + e.length := by simp
    have e3 : clR (T ++ e) = clR T ++ clR e := by simp [clR]
    have ho' : OwnR w0.heap.size W' v' (T ++ e) := by unfold OwnR; rw [e2, e3]; exact ho
    obtain ⟨a', c', rfl⟩ : ∃ a' c', v' = .slice a' (T.length + e.length) c' := by
      rcases ho.2 with ⟨e1, e2⟩ | ⟨g', c', cur, e1, -⟩
      · have := List.length_pos_iff.2 he; omega
      · exact ⟨_, _, e1⟩
    exact ⟨a', c', W', fun _ => hrn, ho', grown_own hg hgr h.ownN⟩

/-- What Size answers. -/
theorem sizeFr_any (f : Fr) (d r : Value) (w : World) (hF : FrIn w f d r) (hD : TS w d f.data) (hk : -9223372036854775808 ≤ f.kind ∧ f.kind ≤ 9223372036854775807) (hrl : f.runs.length * 16 ≤ 140737488351232) (hdl : f.data.length ≤ 140737488351232) :
    Calls Try.prog 10 #[f.val d r] w fun e w' => e = .returned (.tuple #[.int .i64 ((encF f).1.length : Int), .int .i64 (encF f).2]) ∧ w.grownBy w' none := by
  have hml : (f.runs.length : Int) ≤ MAXN := by unfold MAXN; omega
  have htl := hide (fun W (g : w.grownBy W none) => tell_any f d r W (hF.keep g) (hD.keep g) hk hrl)
  obtain ⟨C, hC⟩ : ∃ C, C = f.cs d r := ⟨_, rfl⟩
  have C17 : C.size = 17 := by rw [hC]; rfl
  have iC : (Try.prog.info? 26).map (·.size) = some C.size := by rw [C17]; exact Try.size26
  have e1 : f.val d r = .agg C := by rw [hC]
  rw [e1] at htl ⊢
  have B0 := Blk.new w C 26
  have g0 := World.grownBy_alloc w (.cells C 26) none
  have HB := hide B0
  have hte := unhide htl _ g0
  unfold TellPost at hte
  clear hF hD hk htl C17 e1 hC B0
  cases ht : tellF f with
  | inr x =>
    have hE : encF f = ([], x) := by unfold encF; rw [ht]
    rw [ht] at hte
    simp only at hte
    rw [hE]
    have hx := tell_err ht
    clear ht hE
    rcases hx with rfl | rfl
    all_goals
      go_enter Try.func10, Try.ntmps10
      go_wp2_with (first | (refine wpList_load_row rfl _ _ rfl w.heap.size rfl 26 C (0, 0) _ (unhide HB) Try.underlying26 rfl iC ?_) | (go_at_call 24; refine hte.mono ?_; rintro e W1 ⟨rfl, g1⟩))
      go_ret2
      exact ⟨rfl, g0.trans g1⟩
  | inl nr =>
    obtain ⟨n, rs⟩ := nr
    have hE : encF f = (encL n ++ rs, 0) := by unfold encF; rw [ht]
    rw [ht] at hte
    simp only at hte
    obtain ⟨rng, nlen, rsl, one⟩ := tell_ok ht hml
    have tot : (encL n).length + rs.length ≤ 140737488355328 ∧ n.length ≤ 100000000000000000 ∧ (encL n).length ≤ 140737488355328 := by
      have := encL_le n
      rcases one with e | e
      · rw [e] at nlen; simp at nlen
        rcases rsl with e2 | ⟨e2, -⟩
        · rw [e2]; omega
        · omega
      · rcases rsl with e2 | ⟨e2, e3⟩
        · rw [e2, e]; simp; omega
        · rw [e3] at nlen; simp at nlen; omega
    rw [hE]
    have e9 : ((encL n ++ rs).length : Int) = ((encL n).length : Int) + (rs.length : Int) := by simp
    simp only [e9]
    have HR := hide rng
    have HT := hide tot
    clear ht hE rng nlen rsl one tot hml hrl hdl e9
    go_enter Try.func10, Try.ntmps10
    go_upto_region 4 with (first | (refine wpList_load_row rfl _ _ rfl w.heap.size rfl 26 C (0, 0) _ (unhide HB) Try.underlying26 rfl iC ?_) | (go_at_call 24; refine hte.mono ?_; rintro e W1 ⟨v1, s1, rfl, o1, t1, g1⟩; obtain ⟨va, vc, rfl, vl1, vl2, vrd⟩ := o1.at; obtain ⟨sa, sc, rfl, srd, sl1, sl2⟩ := t1.ex))
    have hlen := length_any va sa n n.length vc rs.length sc W1 rfl vrd (unhide HR) ⟨vl1, vl2⟩ (unhide HT).2.1 (by have := (unhide HT).1; omega)
    have HG := hide (g0.trans g1)
    clear hte HB o1 t1 g0 g1 srd vrd
    go_wp2_with (first | (go_at_call 25; refine hlen.mono ?_; rintro e W9 ⟨rfl, hw⟩; replace hw := hw.symm; subst hw))
    go_ret2
    exact ⟨by simp, unhide HG⟩
end Go.Proofs.Ytggjeamondampab

namespace Go.Proofs.Ytggjeamondampab
open Go.RowKit
set_option linter.unusedVariables false
set_option linter.unusedSimpArgs false
set_option maxRecDepth 100000
set_option maxHeartbeats 4000000

theorem around_any (a1 a2 a3 : Option Addr) (c1 c2 c3 : Nat) (la lb lc : List Int) (w : World) (h1 : Rd w a1 la) (h2 : Rd w a2 lb) (h3 : Rd w a3 lc) (h48 : la.length + lb.length + lc.length ≤ 140737488355328) :
    Calls Try.prog 12 #[.slice a1 la.length c1, .slice a2 lb.length c2, .slice a3 lc.length c3] w fun e w' => ∃ s, e = .returned s ∧ OwnB w.heap.size w' s (la ++ lb ++ lc) ∧ w.grownBy w' none := by
  obtain ⟨x1, y1, W1, r1, o1, g1⟩ := app_rd (w0 := w) (T := []) c1 (World.ownsRow_nil _ _ _ _) (World.grownBy.refl w none) h1 (by simp; omega)
  simp only [List.length_nil, Nat.zero_add, List.nil_append] at r1 o1
  obtain ⟨x2, y2, W2, r2, o2, g2⟩ := app_rd c2 o1 g1 (h2.grow g1) (by omega)
  obtain ⟨x3, y3, W3, r3, o3, g3⟩ := app_rd c3 (by rw [List.length_append]; exact o2 : OwnB w.heap.size W2 (.slice x2 (la ++ lb).length y2) (la ++ lb)) g2 (h3.grow g2) (by rw [List.length_append]; omega)
  simp only [List.length_append] at r3
  have F := hide (And.intro o3 g3)
  simp only [List.length_append] at F
  clear o1 o2 o3 g1 g2 g3 h1 h2 h3 h48
  generalize la.length = n1 at *
  generalize lb.length = n2 at *
  generalize lc.length = n3 at *
  go_enter Try.func12, Try.ntmps12
  go_upto_region 3 with (at_builtin; refine wpList_append_run _ rfl (Operand.tmp 8) (Operand.tmp 9) 22 22 rfl (.slice none 0 0) (.slice a1 n1 c1) rfl rfl (r1 22) ?_)
  go_upto_region 4 with (at_builtin; refine wpList_append_run _ rfl (Operand.tmp 11) (Operand.tmp 12) 22 22 rfl (.slice x1 n1 y1) (.slice a2 n2 c2) rfl rfl (r2 22) ?_)
  go_wp2_with (at_builtin; refine wpList_append_run _ rfl (Operand.tmp 14) (Operand.tmp 15) 22 22 rfl (.slice x2 (n1 + n2) y2) (.slice a3 n3 c3) rfl rfl (r3 22) ?_)
  go_ret
  exact ⟨_, rfl, (unhide F).1, (unhide F).2⟩

theorem encode_folded (f : Fr) (d r : Value) (w : World) (hF : FrIn w f d r) (hD : TS w d f.data) (hk : -9223372036854775808 ≤ f.kind ∧ f.kind ≤ 9223372036854775807) (hrl : f.runs.length * 16 ≤ 140737488351232) (hdl : f.data.length ≤ 140737488351232) :
    Calls Try.prog 9 #[f.val d r] w fun e w' => ∃ a c, e = .returned (.tuple #[.slice a (encF f).1.length c, .int .i64 (encF f).2]) ∧ OwnB w.heap.size w' (.slice a (encF f).1.length c) (encF f).1 ∧ w.grownBy w' none := by
  refine (encode_any f d r w hF hD hk hrl hdl).mono ?_
  rintro e w' ⟨v, rfl, o, g⟩
  obtain ⟨a, c, rfl⟩ := o.shape
  exact ⟨a, c, rfl, o, g⟩

/-- The bytes that are written are bytes. -/
theorem tell_bytes {f : Fr} {n rs : List Int} (ht : tellF f = .inl (n, rs)) (hrl : (f.runs.length : Int) ≤ MAXN) (hb : Bs f.data) : Bs (encL n ++ rs) := by
  obtain ⟨t1, t2, t3, t4⟩ := tell_ok ht hrl
  refine (encL_bytes t1).app ?_
  unfold tellF at ht
  by_cases hkk : isKindF f.kind = true
  · obtain ⟨bare, p, hs⟩ := type_some hkk
    rw [if_pos hkk, hs] at ht
    simp only at ht
    split at ht
    · simp only [Sum.inl.injEq, Prod.mk.injEq] at ht
      rw [← ht.2]
      unfold restF
      split
      · intro x hx; rw [List.mem_replicate] at hx; rw [hx.2]; exact ⟨by omega, by omega⟩
      · exact hb
    · cases ht
  · rw [if_neg hkk] at ht; cases ht
theorem tell_len {f : Fr} {n rs : List Int} (ht : tellF f = .inl (n, rs)) (hr : f.runs.length ≤ 1048576) (hd : f.data.length ≤ 1048576) : (encL n ++ rs).length ≤ 100000000 := by
  obtain ⟨t1, t2, t3, t4⟩ := tell_ok ht (by unfold MAXN; omega)
  have := encL_le n
  rw [List.length_append]
  rcases t3 with e | ⟨e, -⟩
  · rw [e]; omega
  · omega
end Go.Proofs.Ytggjeamondampab
