/- L3A, L3B, L3C, L3D, L3E, one text. -/
import Derived.Test.YtnflbefbgcbdfaaGreatS5B
import Derived.Laws.IdiomCopy
import Derived.Deep.DeepCutAuto
import Derived.Deep.RegionHeld3
import Derived.Deep.RegionWith
import Derived.Deep.CutRange
namespace Go.Proofs.YtnflbefbgcbdfaaGreat
open Go.RowKit
set_option linter.unusedVariables false
set_option maxRecDepth 100000
set_option maxHeartbeats 1000000

/-- Cells that are read, from a on. -/
def RdV (W : World) (a : Option Addr) (xs : List Value) : Prop := xs = [] ∨ ∃ b off, a = some ⟨b, off, none⟩ ∧ ∀ (j : Nat) v, xs[j]? = some v → W.cell? ⟨b, off + j, none⟩ = some v
theorem rdv_nil (W : World) (a : Option Addr) : RdV W a [] := .inl rfl
theorem RdV.grown {W W' : World} {a : Option Addr} {xs : List Value} (h : RdV W a xs) (g : W.grownBy W' none) : RdV W' a xs :=
  h.imp id fun ⟨b, off, e, hc⟩ => ⟨b, off, e, fun j v hj => cell_grown (hc j v hj) g⟩
theorem RdV.kept {W W' : World} {a : Option Addr} {xs : List Value} (h : RdV W a xs) (hk : xs ≠ [] → ∀ b off, a = some ⟨b, off, none⟩ → W'.heap[b]? = W.heap[b]?) : RdV W' a xs := by
  by_cases hx : xs = []
  · exact .inl hx
  · obtain ⟨b, off, e, hc⟩ := h.resolve_left hx
    exact .inr ⟨b, off, e, fun j v hj => by rw [World.cell?_of_block (hk hx b off e)]; exact hc j v hj⟩
theorem rdv_blk {W : World} {g : Nat} {xs : List Value} {t : TypeId} (h : Blk W g xs.toArray t) : RdV W (some ⟨g, 0, none⟩) xs := .inr ⟨g, 0, rfl, fun j v hj => by
  rw [Nat.zero_add]
  exact h.cell j v (by simpa using hj)⟩
theorem run_copyN {P : Program} (sz : Nat) (w : World) (dT sT ty elem : TypeId) (g o dLen dCap : Nat) (a : Addr) (sLen sCap : Nat) (X C Y : List Value) (t : TypeId) (cs : List Value)
    (hu : P.underlying dT = some (.slice elem)) (hs : (P.info? elem).map (·.size) = some sz)
    (hg : w.heap[g]? = some (.cells (X ++ (C ++ Y)).toArray t (0, 0))) (ho : o = X.length) (hC : C.length = cs.length) (hn : cs.length = Nat.min sLen dLen * sz)
    (hsrc : ∀ j v, cs[j]? = some v → w.cell? (a.add j) = some v) (h1 : ∀ v ∈ cs, v.oneCell' = true) :
    (Builtin.copy_ #[dT, sT] ty #[.slice (some ⟨g, o, none⟩) dLen dCap, .slice (some a) sLen sCap]).run P w = .ok (goInt (Nat.min sLen dLen)) (w.setRow g (X ++ (cs ++ Y)).toArray) := by
  have hl := run_loadCells_list (P := P) w a cs hsrc
  have hst := run_storeCells_at P g o t cs 0 _ w hg (by subst ho; simp; omega) h1
  have e := splice X C Y cs o ho hC
  rw [e] at hst
  cases hq : P.info? elem with
  | none => simp [hq] at hs
  | some i =>
    have hi : i.size = sz := by simpa [hq] using hs
    simp [Builtin.copy_, run_underlying hu, Builtin.lenOf, Builtin.firstCells, sizeOf, typeInfo, hq, hi, ← hn, hl, hst]
theorem wpList_make_run {ops : Array Oper} {rest : List Oper} {o : Oper} {a : Act} {Q : Exit → Act → World → Prop} (w : World) (hg : o.guard = none) (t : TypeId) (l c : Operand) (hop : o.op = Op.makeSlice t l c) (lv cv : Value)
    (hl : a.eval l = lv) (hc : a.eval c = cv) {v' : Value} {w' : World} (hr : (Instr.makeSlice t lv cv).run Tryz.prog w = .ok v' w') (hK : wpList Tryz.prog ops Q rest (a.put o.dst v') w') : wpList Tryz.prog ops Q (o :: rest) a w := by
  refine wpList_plain hg fun K hK' => ?_
  unfold Oper.wp
  simp [execOp, hop, hl, hc, hr, Result.andThen]
  exact hK' _ _ hK

/-- A new list of the same cells. -/
def NewL (X : World) (t : TypeId) (n : Nat) (xs : List Value) (v : Value) (Y : World) : Prop := ((n = 0 ∧ v = .slice none 0 0) ∨ (0 < n ∧ ∃ g, v = .slice (some ⟨g, 0, none⟩) n n ∧ X.heap.size ≤ g ∧ Blk Y g xs.toArray t)) ∧ X.grownBy Y none
/-- make and copy of so many elements. -/
theorem make_copy (sz : Nat) (dT elem : TypeId) (i : TypeInfo) (z : Value) (hu : Tryz.prog.underlying dT = some (.slice elem)) (hi : Tryz.prog.info? elem = some i) (hz : i.zero = some z) (hs : i.size = sz) (hb : i.bytes ≤ 1000) (X : World) (a : Option Addr) (n c : Nat) (xs : List Value) (hx : xs.length = n * sz) (hsz : 0 < sz) (rd : RdV X a xs) (h1 : ∀ v ∈ xs, v.oneCell' = true) (hn : 0 < n) (hnn : n ≤ 100000000) :
    ∃ W0 W1, (Instr.makeSlice dT (.int .i64 (n : Int)) (.int .i64 (n : Int))).run Tryz.prog X = .ok (.slice (some ⟨X.heap.size, 0, none⟩) n n) W0 ∧ (∀ ty, (Builtin.copy_ #[dT, dT] ty #[.slice (some ⟨X.heap.size, 0, none⟩) n n, .slice a n c]).run Tryz.prog W0 = .ok (goInt n) W1) ∧ Blk W1 X.heap.size xs.toArray elem ∧ X.grownBy W1 none := by
  have hbb : (i.bytes : Int) * (n : Int) ≤ 281474976710656 := by
    have h1 : i.bytes * n ≤ 1000 * 100000000 := Nat.mul_le_mul hb hnn
    have h2 : ((i.bytes * n : Nat) : Int) = (i.bytes : Int) * (n : Int) := Int.natCast_mul _ _
    omega
  have hmk := run_make (P := Tryz.prog) X dT elem i z hu hi hz .i64 .i64 n n (by omega) (by omega) hbb (by omega)
  rw [hs] at hmk
  simp only [Int.toNat_natCast] at hmk
  obtain ⟨W0, hW0⟩ : ∃ W0, W0 = X.alloc (.cells (madeCells z.cells (n * sz)) elem) := ⟨_, rfl⟩
  rw [← hW0] at hmk
  have g0 : X.grownBy W0 none := by rw [hW0]; exact grown_alloc _ _
  have b0 : Blk W0 X.heap.size (madeCells z.cells (n * sz)) elem := by rw [hW0]; exact Blk.new _ _ _
  have hne : xs ≠ [] := fun e => by
    rw [e] at hx
    have h2 : 0 < n * sz := Nat.mul_pos hn hsz
    simp only [List.length_nil] at hx
    omega
  obtain ⟨b, off, rfl, hc⟩ := (rd.grown g0).resolve_left hne
  have hmin : Nat.min n n = n := Nat.min_self n
  have cp := fun ty => run_copyN (P := Tryz.prog) sz W0 dT dT ty elem X.heap.size 0 n n ⟨b, off, none⟩ n c [] (madeCells z.cells (n * sz)).toList [] elem xs hu (by rw [hi]; simp [hs]) (by rw [List.nil_append, List.append_nil, Array.toArray_toList]; exact b0) rfl (by simp [size_madeCells, hx]) (by rw [hmin]; exact hx) (fun j v hj => by rw [Addr.add_lit]; exact hc j v hj) h1
  rw [hmin] at cp
  refine ⟨W0, _, hmk, cp, ?_, ?_⟩
  · have := b0.row (([] : List Value) ++ (xs ++ [])).toArray
    simpa using this
  · exact grown_row g0 _ _ (Nat.le_refl _)
end Go.Proofs.YtnflbefbgcbdfaaGreat

namespace Go.Proofs.YtnflbefbgcbdfaaGreat
open Go.RowKit
set_option linter.unusedVariables false
set_option maxRecDepth 100000
set_option maxHeartbeats 1000000

theorem info_ok {T : TypeId} {sz : Nat} (h : (Tryz.prog.info? T).any (fun i => i.zero.isSome && i.size == sz && decide (i.bytes ≤ 1000)) = true) : ∃ i z, Tryz.prog.info? T = some i ∧ i.zero = some z ∧ i.size = sz ∧ i.bytes ≤ 1000 := by
  cases hq : Tryz.prog.info? T with
  | none => rw [hq] at h; cases h
  | some i =>
    rw [hq] at h
    simp only [Option.any_some, Bool.and_eq_true, beq_iff_eq, decide_eq_true_eq] at h
    obtain ⟨⟨h1, h2⟩, h3⟩ := h
    obtain ⟨z, hz⟩ := Option.isSome_iff_exists.1 h1
    exact ⟨i, z, rfl, hz, h2, h3⟩
theorem listF_any (X : World) (a : Option Addr) (n c : Nat) (xs : List Value) (hx : xs.length = n * 17) (rd : RdV X a xs) (h1 : ∀ v ∈ xs, v.oneCell' = true) (hnn : n ≤ 100000000) :
    Calls Tryz.prog 84 #[.slice a n c] X fun e Y => ∃ v, e = .returned v ∧ NewL X 130 n xs v Y := by
  by_cases h0 : n = 0
  · subst h0
    go_enter Tryz.func84, Tryz.ntmps84
    go_wp2
    go_ret
    exact ⟨_, rfl, .inl ⟨rfl, rfl⟩, World.grownBy.refl _ _⟩
  · obtain ⟨i, z, i1, i2, i3, i4⟩ := info_ok (T := 130) (sz := 17) (by kernel_rfl)
    obtain ⟨W0, W1, mk, cp, b1, g1⟩ := make_copy 17 44 130 i z Tryz.underlying44 i1 i2 i3 i4 X a n c xs hx (by decide) rd h1 (by omega) hnn
    have hz : ((n : Int) == 0) = false := by rw [beq_eq_false_iff_ne]; omega
    have lenI : ¬ (9223372036854775807 : Int) < (n : Int) := by omega
    have MK := hide mk
    have CP := hide cp
    have B := hide (And.intro b1 g1)
    obtain ⟨g, hg⟩ : ∃ g, g = X.heap.size := ⟨_, rfl⟩
    rw [← hg] at MK CP B
    have H0 : Hid (0 < n) := by show 0 < n; omega
    have HG : Hid (X.heap.size ≤ g) := by show X.heap.size ≤ g; omega
    clear mk cp b1 g1 rd h1 hx h0 hg
    go_enter Tryz.func84, Tryz.ntmps84
    go_upto_region 4 with (at_make; refine wpList_make_run _ rfl 44 _ _ rfl _ _ rfl rfl (unhide MK) ?_)
    clear MK
    have hr := unhide CP 3
    unfold goInt at hr
    clear CP
    go_wp2
    clear hr
    go_ret
    exact ⟨_, rfl, .inr ⟨unhide H0, g, rfl, unhide HG, (unhide B).1⟩, (unhide B).2⟩
theorem listB_any (X : World) (a : Option Addr) (n c : Nat) (xs : List Value) (hx : xs.length = n * 1) (rd : RdV X a xs) (h1 : ∀ v ∈ xs, v.oneCell' = true) (hnn : n ≤ 100000000) :
    Calls Tryz.prog 85 #[.slice a n c] X fun e Y => ∃ v, e = .returned v ∧ NewL X 5 n xs v Y := by
  by_cases h0 : n = 0
  · subst h0
    go_enter Tryz.func85, Tryz.ntmps85
    go_wp2
    go_ret
    exact ⟨_, rfl, .inl ⟨rfl, rfl⟩, World.grownBy.refl _ _⟩
  · obtain ⟨i, z, i1, i2, i3, i4⟩ := info_ok (T := 5) (sz := 1) (by kernel_rfl)
    obtain ⟨W0, W1, mk, cp, b1, g1⟩ := make_copy 1 127 5 i z Tryz.underlying127 i1 i2 i3 i4 X a n c xs hx (by decide) rd h1 (by omega) hnn
    have hz : ((n : Int) == 0) = false := by rw [beq_eq_false_iff_ne]; omega
    have lenI : ¬ (9223372036854775807 : Int) < (n : Int) := by omega
    have MK := hide mk
    have CP := hide cp
    have B := hide (And.intro b1 g1)
    obtain ⟨g, hg⟩ : ∃ g, g = X.heap.size := ⟨_, rfl⟩
    rw [← hg] at MK CP B
    have H0 : Hid (0 < n) := by show 0 < n; omega
    have HG : Hid (X.heap.size ≤ g) := by show X.heap.size ≤ g; omega
    clear mk cp b1 g1 rd h1 hx h0 hg
    go_enter Tryz.func85, Tryz.ntmps85
    go_upto_region 4 with (at_make; refine wpList_make_run _ rfl 127 _ _ rfl _ _ rfl rfl (unhide MK) ?_)
    clear MK
    have hr := unhide CP 3
    unfold goInt at hr
    clear CP
    go_wp2
    clear hr
    go_ret
    exact ⟨_, rfl, .inr ⟨unhide H0, g, rfl, unhide HG, (unhide B).1⟩, (unhide B).2⟩
theorem listR_any (X : World) (a : Option Addr) (n c : Nat) (xs : List Value) (hx : xs.length = n * 2) (rd : RdV X a xs) (h1 : ∀ v ∈ xs, v.oneCell' = true) (hnn : n ≤ 100000000) :
    Calls Tryz.prog 86 #[.slice a n c] X fun e Y => ∃ v, e = .returned v ∧ NewL X 63 n xs v Y := by
  by_cases h0 : n = 0
  · subst h0
    go_enter Tryz.func86, Tryz.ntmps86
    go_wp2
    go_ret
    exact ⟨_, rfl, .inl ⟨rfl, rfl⟩, World.grownBy.refl _ _⟩
  · obtain ⟨i, z, i1, i2, i3, i4⟩ := info_ok (T := 63) (sz := 2) (by kernel_rfl)
    obtain ⟨W0, W1, mk, cp, b1, g1⟩ := make_copy 2 47 63 i z Tryz.underlying47 i1 i2 i3 i4 X a n c xs hx (by decide) rd h1 (by omega) hnn
    have hz : ((n : Int) == 0) = false := by rw [beq_eq_false_iff_ne]; omega
    have lenI : ¬ (9223372036854775807 : Int) < (n : Int) := by omega
    have MK := hide mk
    have CP := hide cp
    have B := hide (And.intro b1 g1)
    obtain ⟨g, hg⟩ : ∃ g, g = X.heap.size := ⟨_, rfl⟩
    rw [← hg] at MK CP B
    have H0 : Hid (0 < n) := by show 0 < n; omega
    have HG : Hid (X.heap.size ≤ g) := by show X.heap.size ≤ g; omega
    clear mk cp b1 g1 rd h1 hx h0 hg
    go_enter Tryz.func86, Tryz.ntmps86
    go_upto_region 4 with (at_make; refine wpList_make_run _ rfl 47 _ _ rfl _ _ rfl rfl (unhide MK) ?_)
    clear MK
    have hr := unhide CP 3
    unfold goInt at hr
    clear CP
    go_wp2
    clear hr
    go_ret
    exact ⟨_, rfl, .inr ⟨unhide H0, g, rfl, unhide HG, (unhide B).1⟩, (unhide B).2⟩
end Go.Proofs.YtnflbefbgcbdfaaGreat

namespace Go.Proofs.YtnflbefbgcbdfaaGreat
open Go.RowKit
set_option linter.unusedVariables false
set_option maxRecDepth 100000
set_option maxHeartbeats 1000000

/- Rows of parts that are all as long. -/
theorem flat_get {α : Type} (sz : Nat) : ∀ (cs : List (List α)) (i j : Nat), (∀ c ∈ cs, c.length = sz) → j < sz → cs.flatten[i * sz + j]? = (cs[i]?).bind (·[j]?)
  | [], i, j, _, _ => by simp
  | c :: cs, 0, j, h, hj => by
    have hc := h c (by simp)
    rw [List.flatten_cons, Nat.zero_mul, Nat.zero_add, List.getElem?_append_left (by omega)]
    rfl
  | c :: cs, i + 1, j, h, hj => by
    have hc := h c (by simp)
    have ih := flat_get sz cs i j (fun c hc => h c (List.mem_cons_of_mem _ hc)) hj
    rw [List.flatten_cons, List.getElem?_append_right (by rw [hc, Nat.succ_mul]; omega), show (i + 1) * sz + j - c.length = i * sz + j by rw [hc, Nat.succ_mul]; omega, ih]
    simp
theorem flat_len {α : Type} (sz : Nat) : ∀ (cs : List (List α)), (∀ c ∈ cs, c.length = sz) → cs.flatten.length = cs.length * sz
  | [], _ => by simp
  | c :: cs, h => by
    have hc := h c (by simp)
    have ih := flat_len sz cs (fun c hc => h c (List.mem_cons_of_mem _ hc))
    rw [List.flatten_cons, List.length_append, ih, hc, List.length_cons, Nat.succ_mul]
    omega
theorem flat_set {α : Type} (sz : Nat) (v : α) : ∀ (cs : List (List α)) (i j : Nat) (c : List α), (∀ c ∈ cs, c.length = sz) → j < sz → cs[i]? = some c → cs.flatten.set (i * sz + j) v = (cs.set i (c.set j v)).flatten
  | [], i, j, c, _, _, hc => by simp at hc
  | d :: cs, 0, j, c, h, hj, hc => by
    have hd := h d (by simp)
    simp at hc
    subst hc
    rw [List.flatten_cons, Nat.zero_mul, Nat.zero_add, List.set_append_left _ _ (by omega)]
    simp
  | d :: cs, i + 1, j, c, h, hj, hc => by
    have hd := h d (by simp)
    have ih := flat_set sz v cs i j c (fun c hc => h c (List.mem_cons_of_mem _ hc)) hj (by simpa using hc)
    rw [List.flatten_cons, List.set_append_right _ _ (by rw [hd, Nat.succ_mul]; omega), show (i + 1) * sz + j - d.length = i * sz + j by rw [hd, Nat.succ_mul]; omega, ih]
    simp

/-- What a frame says: the cells but its two lists; its bytes; its runs (two cells each). -/
structure Fr where
  k0 : List Value
  k1 : List Value
  k2 : List Value
  d : List Value
  r : List Value
structure Fr.Wf (f : Fr) : Prop where
  l0 : f.k0.length = 3
  l1 : f.k1.length = 8
  l2 : f.k2.length = 4
  one : ∀ v ∈ f.k0 ++ f.k1 ++ f.k2 ++ f.d ++ f.r, v.oneCell' = true
  nd : f.d.length ≤ 100000000
  nr : ∃ n, f.r.length = n * 2 ∧ n ≤ 100000000
def Fr.cs (f : Fr) (dv rv : Value) : List Value := f.k0 ++ (dv :: (f.k1 ++ (rv :: f.k2)))
theorem Fr.len {f : Fr} (h : f.Wf) (dv rv : Value) : (f.cs dv rv).length = 17 := by simp [Fr.cs, h.l0, h.l1, h.l2]
theorem Fr.at3 {f : Fr} (h : f.Wf) (dv rv : Value) : (f.cs dv rv)[3]? = some dv := by
  unfold Fr.cs
  rw [List.getElem?_append_right (by rw [h.l0]; omega), h.l0]
  rfl
theorem Fr.at12 {f : Fr} (h : f.Wf) (dv rv : Value) : (f.cs dv rv)[12]? = some rv := by
  unfold Fr.cs
  rw [List.getElem?_append_right (by rw [h.l0]; omega), h.l0, show 12 - 3 = 8 + 1 by omega, List.getElem?_cons_succ, List.getElem?_append_right (by rw [h.l1]; omega), h.l1]
  rfl
theorem Fr.set3 {f : Fr} (h : f.Wf) (dv rv v : Value) : (f.cs dv rv).set 3 v = f.cs v rv := by
  unfold Fr.cs
  rw [List.set_append_right _ _ (by rw [h.l0]; omega), h.l0]
  rfl
theorem Fr.set12 {f : Fr} (h : f.Wf) (dv rv v : Value) : (f.cs dv rv).set 12 v = f.cs dv v := by
  unfold Fr.cs
  rw [List.set_append_right _ _ (by rw [h.l0]; omega), h.l0, show 12 - 3 = 8 + 1 by omega, List.set_cons_succ, List.set_append_right _ _ (by rw [h.l1]; omega), h.l1]
  rfl
/-- A list of a frame: read; where there is something in it, its block is one of R. -/
structure Li (R : Nat → Prop) (W : World) (sz : Nat) (v : Value) (xs : List Value) : Prop where
  ex : ∃ a n c, v = .slice a n c ∧ xs.length = n * sz ∧ RdV W a xs ∧ (xs ≠ [] → ∀ b off, a = some ⟨b, off, none⟩ → R b)
theorem Li.kept {R : Nat → Prop} {sz : Nat} {W W' : World} {v : Value} {xs : List Value} (h : Li R W sz v xs) (hk : ∀ b, R b → W'.heap[b]? = W.heap[b]?) : Li R W' sz v xs := by
  obtain ⟨a, n, c, h1, h2, h3, h4⟩ := h.ex
  exact ⟨a, n, c, h1, h2, h3.kept fun hx b off e => hk b (h4 hx b off e), h4⟩
theorem Li.grown {R : Nat → Prop} {sz : Nat} {W W' : World} {v : Value} {xs : List Value} (h : Li R W sz v xs) (g : W.grownBy W' none) : Li R W' sz v xs := by
  obtain ⟨a, n, c, h1, h2, h3, h4⟩ := h.ex
  exact ⟨a, n, c, h1, h2, h3.grown g, h4⟩
theorem Li.mono {R T : Nat → Prop} {sz : Nat} {W : World} {v : Value} {xs : List Value} (h : Li R W sz v xs) (hn : ∀ b, R b → T b) : Li T W sz v xs := by
  obtain ⟨a, n, c, h1, h2, h3, h4⟩ := h.ex
  exact ⟨a, n, c, h1, h2, h3, fun e b off hb => hn b (h4 e b off hb)⟩
theorem RdV.lt {W : World} {a : Option Addr} {xs : List Value} (h : RdV W a xs) (hx : xs ≠ []) : ∀ b off, a = some ⟨b, off, none⟩ → b < W.heap.size := fun b off e => by
  obtain ⟨b', off', e', hc⟩ := h.resolve_left hx
  rw [e] at e'
  cases e'
  cases xs with
  | nil => exact absurd rfl hx
  | cons x xs => exact World.block_lt_of_cell? _ _ (hc 0 x rfl)
/-- What is read lies below. -/
theorem Li.own {R : Nat → Prop} {sz : Nat} {W : World} {v : Value} {xs : List Value} (h : Li R W sz v xs) : Li (fun b => b < W.heap.size) W sz v xs := by
  obtain ⟨a, n, c, h1, h2, h3, h4⟩ := h.ex
  exact ⟨a, n, c, h1, h2, h3, fun hx b off e => h3.lt hx b off e⟩
theorem NewL.li {X Y : World} {t : TypeId} {n sz : Nat} {xs : List Value} {v : Value} (h : NewL X t n xs v Y) (hx : xs.length = n * sz) : Li (fun b => X.heap.size ≤ b) Y sz v xs := by
  rcases h.1 with ⟨rfl, rfl⟩ | ⟨h0, g, rfl, hg, hb⟩
  · have e : xs = [] := List.length_eq_zero_iff.1 (by omega)
    subst e
    exact ⟨none, 0, 0, rfl, by simp, rdv_nil _ _, fun q => absurd rfl q⟩
  · exact ⟨_, n, n, rfl, hx, rdv_blk hb, fun _ b off e => by cases e; exact hg⟩
/-- A frame in memory. -/
def FrAt (R : Nat → Prop) (W : World) (cs : List Value) (f : Fr) : Prop := f.Wf ∧ ∃ dv rv, cs = f.cs dv rv ∧ Li R W 1 dv f.d ∧ Li R W 2 rv f.r
section
variable {R T : Nat → Prop} {W W' : World} {cs : List Value} {f : Fr} {css : List (List Value)} {fs : List Fr}
theorem FrAt.grown (h : FrAt R W cs f) (g : W.grownBy W' none) : FrAt R W' cs f := by
  obtain ⟨h0, dv, rv, h1, h2, h3⟩ := h
  exact ⟨h0, dv, rv, h1, h2.grown g, h3.grown g⟩
theorem FrAt.kept (h : FrAt R W cs f) (hk : ∀ b, R b → W'.heap[b]? = W.heap[b]?) : FrAt R W' cs f := by
  obtain ⟨h0, dv, rv, h1, h2, h3⟩ := h
  exact ⟨h0, dv, rv, h1, h2.kept hk, h3.kept hk⟩
theorem FrAt.mono (h : FrAt R W cs f) (hn : ∀ b, R b → T b) : FrAt T W cs f := by
  obtain ⟨h0, dv, rv, h1, h2, h3⟩ := h
  exact ⟨h0, dv, rv, h1, h2.mono hn, h3.mono hn⟩
theorem FrAt.own (h : FrAt R W cs f) : FrAt (fun b => b < W.heap.size) W cs f := by
  obtain ⟨h0, dv, rv, h1, h2, h3⟩ := h
  exact ⟨h0, dv, rv, h1, h2.own, h3.own⟩
theorem FrAt.len (h : FrAt R W cs f) : cs.length = 17 := by
  obtain ⟨h0, dv, rv, rfl, -⟩ := h
  exact Fr.len h0 dv rv
/-- Frames one behind the other. -/
structure Frs (R : Nat → Prop) (W : World) (css : List (List Value)) (fs : List Fr) : Prop where
  len : css.length = fs.length
  at_ : ∀ (i : Nat) c f, css[i]? = some c → fs[i]? = some f → FrAt R W c f
theorem Frs.grown (h : Frs R W css fs) (g : W.grownBy W' none) : Frs R W' css fs := ⟨h.len, fun i c f hc hf => (h.at_ i c f hc hf).grown g⟩
theorem Frs.kept (h : Frs R W css fs) (hk : ∀ b, R b → W'.heap[b]? = W.heap[b]?) : Frs R W' css fs := ⟨h.len, fun i c f hc hf => (h.at_ i c f hc hf).kept hk⟩
theorem Frs.l17 (h : Frs R W css fs) : ∀ c ∈ css, c.length = 17 := fun c hc => by
  obtain ⟨i, hi⟩ := List.getElem?_of_mem hc
  have hl := (List.getElem?_eq_some_iff.1 hi).1
  exact (h.at_ i c _ hi (List.getElem?_eq_getElem (by rw [← h.len]; exact hl))).len
end
/-- What a packet says. -/
structure St where
  nu : Int
  ti : Int
  si : Int
  el : Bool
  co : Bool
  pr : Bool
  tl : Int
  fs : List Fr
def St.cs (s : St) (fv : Value) : Array Value := #[.int .i64 s.nu, .int .i64 s.ti, .int .i64 s.si, .bool s.el, .bool s.co, .bool s.pr, .int .i64 s.tl, fv]
/-- The list of a packet's frames in memory. -/
def FvAt (R : Nat → Prop) (W : World) (fv : Value) (fs : List Fr) : Prop := fs.length ≤ 100000000 ∧ ∃ a c css, fv = .slice a fs.length c ∧ Frs R W css fs ∧ RdV W a css.flatten ∧ (fs ≠ [] → ∀ b off, a = some ⟨b, off, none⟩ → R b)
theorem FvAt.grown {R : Nat → Prop} {W W' : World} {fv : Value} {fs : List Fr} (h : FvAt R W fv fs) (g : W.grownBy W' none) : FvAt R W' fv fs := by
  obtain ⟨h0, a, c, css, h1, h3, h4, h5⟩ := h
  exact ⟨h0, a, c, css, h1, h3.grown g, h4.grown g, h5⟩
theorem FvAt.kept {R : Nat → Prop} {W W' : World} {fv : Value} {fs : List Fr} (h : FvAt R W fv fs) (hk : ∀ b, R b → W'.heap[b]? = W.heap[b]?) : FvAt R W' fv fs := by
  obtain ⟨h0, a, c, css, h1, h3, h4, h5⟩ := h
  refine ⟨h0, a, c, css, h1, h3.kept hk, h4.kept fun hx b off e => hk b (h5 (fun e2 => hx ?_) b off e), h5⟩
  have : css = [] := List.length_eq_zero_iff.1 (by rw [h3.len, e2]; rfl)
  rw [this]; rfl
end Go.Proofs.YtnflbefbgcbdfaaGreat

namespace Go.Proofs.YtnflbefbgcbdfaaGreat
open Go.RowKit
set_option linter.unusedVariables false
set_option maxRecDepth 100000
set_option maxHeartbeats 4000000

theorem Tryz.sizeSent : (Tryz.prog.info? 46).map (·.size) = some 8 := by kernel_rfl
/-- While the frames are copied: the first i are. -/
structure CI (X : World) (n0 g : Nat) (css : List (List Value)) (fs : List Fr) (i : Nat) (W : World) : Prop where
  gr : X.grownBy W none
  blk : Blk W g css.flatten.toArray 130
  len : css.length = fs.length
  new : ∀ (j : Nat) c f, j < i → css[j]? = some c → fs[j]? = some f → FrAt (fun b => n0 ≤ b ∧ b ≠ g) W c f
  old : ∀ (j : Nat) c f, i ≤ j → css[j]? = some c → fs[j]? = some f → FrAt (fun b => b < n0) W c f
  hg : n0 ≤ g
  nX : X.heap.size ≤ n0
section
variable {X W W' : World} {n0 g i : Nat} {css : List (List Value)} {fs : List Fr}
theorem CI.l17 (h : CI X n0 g css fs i W) : ∀ c ∈ css, c.length = 17 := fun c hc => by
  obtain ⟨j, hj⟩ := List.getElem?_of_mem hc
  have hl := (List.getElem?_eq_some_iff.1 hj).1
  have hf : fs[j]? = some (fs[j]'(by rw [← h.len]; exact hl)) := List.getElem?_eq_getElem _
  by_cases q : j < i
  · exact (h.new j c _ q hj hf).len
  · exact (h.old j c _ (by omega) hj hf).len
theorem CI.grown (h : CI X n0 g css fs i W) (k : W.grownBy W' none) : CI X n0 g css fs i W' :=
  ⟨grown_trans h.gr k, h.blk.grown k, h.len, fun j c f hj hc hf => (h.new j c f hj hc hf).grown k, fun j c f hj hc hf => (h.old j c f hj hc hf).grown k, h.hg, h.nX⟩
/-- What the frame at i holds. -/
theorem CI.look (h : CI X n0 g css fs i W) (hi : i < fs.length) : ∃ c f dv rv, css[i]? = some c ∧ fs[i]? = some f ∧ f.Wf ∧ c = f.cs dv rv ∧ Li (fun b => b < n0) W 1 dv f.d ∧ Li (fun b => b < n0) W 2 rv f.r ∧ W.cell? ⟨g, i * 17 + 3, none⟩ = some dv ∧ W.cell? ⟨g, i * 17 + 12, none⟩ = some rv := by
  have hc : css[i]? = some (css[i]'(by rw [h.len]; exact hi)) := List.getElem?_eq_getElem _
  have hf : fs[i]? = some (fs[i]'hi) := List.getElem?_eq_getElem _
  generalize css[i]'(by rw [h.len]; exact hi) = c at hc
  generalize fs[i]'hi = f at hf
  obtain ⟨wf, dv, rv, e, l1, l2⟩ := h.old i c f (Nat.le_refl _) hc hf
  refine ⟨c, f, dv, rv, hc, hf, wf, e, l1, l2, h.blk.cell _ _ ?_, h.blk.cell _ _ ?_⟩
  · rw [List.getElem?_toArray, flat_get 17 css i 3 h.l17 (by omega), hc, Option.bind_some, e, Fr.at3 wf]
  · rw [List.getElem?_toArray, flat_get 17 css i 12 h.l17 (by omega), hc, Option.bind_some, e, Fr.at12 wf]
/-- Two stores: the frame at i is a copy now. -/
theorem CI.step (h : CI X n0 g css fs i W) {c : List Value} {f : Fr} {dv rv dv' rv' : Value} (hc : css[i]? = some c) (hf : fs[i]? = some f) (wf : f.Wf) (e : c = f.cs dv rv) (l1 : Li (fun b => n0 ≤ b ∧ b ≠ g) W 1 dv' f.d) (l2 : Li (fun b => n0 ≤ b ∧ b ≠ g) W 2 rv' f.r) :
    CI X n0 g (css.set i (f.cs dv' rv')) fs (i + 1) ((W.setCell ⟨g, i * 17 + 3, none⟩ dv').setCell ⟨g, i * 17 + 12, none⟩ rv') := by
  have l17 := h.l17
  have hil := (List.getElem?_eq_some_iff.1 hc).1
  have hk : ∀ b, b ≠ g → ((W.setCell ⟨g, i * 17 + 3, none⟩ dv').setCell ⟨g, i * 17 + 12, none⟩ rv').heap[b]? = W.heap[b]? := fun b hb => by rw [set_heap _ _ _ _ _ hb, set_heap _ _ _ _ _ hb]
  have hg := h.hg
  have nX := h.nX
  refine ⟨grown_set (grown_set h.gr _ _ _ (by omega)) _ _ _ (by omega), ?_, by rw [List.length_set]; exact h.len, fun j c2 f2 hj hc2 hf2 => ?_, fun j c2 f2 hj hc2 hf2 => ?_, hg, nX⟩
  · have b1 := (h.blk.setC (i * 17 + 3) dv').setC (i * 17 + 12) rv'
    have e1 : (css.flatten.toArray.setIfInBounds (i * 17 + 3) dv').setIfInBounds (i * 17 + 12) rv' = (css.set i (f.cs dv' rv')).flatten.toArray := by
      rw [List.setIfInBounds_toArray, List.setIfInBounds_toArray, flat_set 17 dv' css i 3 c l17 (by omega) hc, e, Fr.set3 wf]
      have h17 : ∀ d ∈ css.set i (f.cs dv' rv), d.length = 17 := fun d hd => by
        rcases List.mem_or_eq_of_mem_set hd with q | q
        · exact l17 d q
        · rw [q]; exact Fr.len wf _ _
      rw [flat_set 17 rv' _ i 12 (f.cs dv' rv) h17 (by omega) (by rw [List.getElem?_set_self hil]), List.set_set, Fr.set12 wf]
    rw [← e1]
    exact b1
  · by_cases q : j = i
    · subst q
      rw [List.getElem?_set_self hil] at hc2
      cases hc2
      rw [hf] at hf2
      cases hf2
      exact ⟨wf, dv', rv', rfl, l1.kept fun b hb => hk b hb.2, l2.kept fun b hb => hk b hb.2⟩
    · rw [List.getElem?_set_ne (by omega)] at hc2
      exact (h.new j c2 f2 (by omega) hc2 hf2).kept fun b hb => hk b hb.2
  · rw [List.getElem?_set_ne (by omega)] at hc2
    exact (h.old j c2 f2 (by omega) hc2 hf2).kept fun b hb => hk b (by omega)
/-- All are copies. -/
theorem CI.fv (h : CI X n0 g css fs fs.length W) (hn : fs.length ≤ 100000000) (c : Nat) : FvAt (fun b => n0 ≤ b) W (.slice (some ⟨g, 0, none⟩) fs.length c) fs := by
  refine ⟨hn, _, c, css, rfl, ⟨h.len, fun i cc f hc hf => (h.new i cc f (List.getElem?_eq_some_iff.1 hf).1 hc hf).mono fun b hb => hb.1⟩, rdv_blk h.blk, fun _ b off e => ?_⟩
  cases e
  exact h.hg
end
end Go.Proofs.YtnflbefbgcbdfaaGreat

namespace Go.Proofs.YtnflbefbgcbdfaaGreat
open Go.RowKit
set_option linter.unusedVariables false
set_option maxRecDepth 100000
set_option maxHeartbeats 4000000

theorem Li.one_ {R : Nat → Prop} {W : World} {sz : Nat} {v : Value} {xs : List Value} (h : Li R W sz v xs) : v.oneCell' = true := by
  obtain ⟨a, n, c, rfl, -⟩ := h.ex
  rfl
theorem Frs.one_ {R : Nat → Prop} {W : World} {css : List (List Value)} {fs : List Fr} (h : Frs R W css fs) : ∀ v ∈ css.flatten, v.oneCell' = true := fun v hv => by
  obtain ⟨c, hc, hv⟩ := List.mem_flatten.1 hv
  obtain ⟨i, hi⟩ := List.getElem?_of_mem hc
  have hl := (List.getElem?_eq_some_iff.1 hi).1
  obtain ⟨wf, dv, rv, rfl, l1, l2⟩ := h.at_ i c _ hi (List.getElem?_eq_getElem (by rw [← h.len]; exact hl))
  unfold Fr.cs at hv
  rw [List.mem_append, List.mem_cons, List.mem_append, List.mem_cons] at hv
  rcases hv with q | q | q | q | q
  · exact wf.one v (by simp [q])
  · rw [q]; exact l1.one_
  · exact wf.one v (by simp [q])
  · rw [q]; exact l2.one_
  · exact wf.one v (by simp [q])
theorem NewL.sh {X Y : World} {t : TypeId} {n : Nat} {xs : List Value} {v : Value} (h : NewL X t n xs v Y) : ∃ a c, v = .slice a n c := by
  rcases h.1 with ⟨e1, e2⟩ | ⟨_, g, e2, _⟩
  · exact ⟨none, 0, by rw [e1]; exact e2⟩
  · exact ⟨_, _, e2⟩
theorem Blk.inv {W : World} {g j : Nat} {cs : Array Value} {t : TypeId} {v : Value} (h : Blk W g cs t) (hc : W.cell? ⟨g, j, none⟩ = some v) : cs[j]? = some v := by
  unfold World.cell? at hc
  rw [show W.heap[g]? = some (.cells cs t (0, 0)) from h] at hc
  simpa using hc
theorem Blk.cell_ne {W : World} {g i j : Nat} {cs : Array Value} {t : TypeId} {u v : Value} (h : Blk W g cs t) (hv : cs[j]? = some v) (hij : i ≠ j) : (W.setCell ⟨g, i, none⟩ u).cell? ⟨g, j, none⟩ = some v := by
  refine (h.setC i u).cell j v ?_
  rw [Array.getElem?_setIfInBounds_ne hij]
  exact hv
theorem NewL.li2 {X Y : World} {t : TypeId} {n sz : Nat} {xs : List Value} {v : Value} {n0 g : Nat} (h : NewL X t n xs v Y) (hx : xs.length = n * sz) (hw : n0 ≤ X.heap.size) (hg : g < X.heap.size) : Li (fun b => n0 ≤ b ∧ b ≠ g) Y sz v xs :=
  (h.li hx).mono fun b hb => ⟨by omega, by omega⟩
/-- One frame more is copied. -/
theorem CI.copy {X W : World} {n0 g i : Nat} {css : List (List Value)} {fs : List Fr} (h : CI X n0 g css fs i W) {c : List Value} {f : Fr} {dv rv v1 v2 : Value} {dn rn : Nat} {Z1 Y1 Z2 Y2 : World} {t1 t2 : TypeId} (hc : css[i]? = some c) (hf : fs[i]? = some f) (wf : f.Wf) (e : c = f.cs dv rv) (ld : f.d.length = dn * 1) (lr : f.r.length = rn * 2)
    (g1 : W.grownBy Z1 none) (n1 : NewL Z1 t1 dn f.d v1 Y1) (g2 : Y1.grownBy Z2 none) (n2 : NewL Z2 t2 rn f.r v2 Y2) :
    CI X n0 g (css.set i (f.cs v1 v2)) fs (i + 1) ((Y2.setCell ⟨g, i * 17 + 3, none⟩ v1).setCell ⟨g, i * 17 + 12, none⟩ v2) := by
  have k1 := grown_trans g1 n1.2
  have k2 := grown_trans g2 n2.2
  have hg := h.blk.lt
  have s0 := h.hg
  have s1 := g1.size
  have s2 := n1.2.size
  have s3 := g2.size
  exact (h.grown (grown_trans k1 k2)).step hc hf wf e ((n1.li2 ld (by omega) (by omega)).grown k2) (n2.li2 lr (by omega) (by omega))
theorem grown_dN (w : World) (q : Nat) : w.grownBy (w.drewN q) none := ⟨rfl, rfl, rfl, Nat.le_refl _, fun _ _ _ => rfl⟩
section
variable {X : World} {R : Nat → Prop}
theorem copied_core (nu ti si : Int) (el co pr : Bool) (tl : Int) (fs : List Fr) (a : Option Addr) (n c : Nat) (css : List (List Value)) (hnn : n = fs.length) (hn : n ≤ 100000000) (frs : Frs R X css fs) (rd : RdV X a css.flatten) :
    Calls Tryz.prog 50 #[.agg #[.int .i64 nu, .int .i64 ti, .int .i64 si, .bool el, .bool co, .bool pr, .int .i64 tl, .slice a n c]] X fun e Y => ∃ a' c', e = .returned (.agg #[.int .i64 nu, .int .i64 ti, .int .i64 si, .bool el, .bool co, .bool pr, .int .i64 tl, .slice a' n c']) ∧ FvAt (fun b => X.heap.size ≤ b) Y (.slice a' n c') fs ∧ X.grownBy Y none := by
  obtain ⟨W2, hW2⟩ : ∃ W2, W2 = (X.alloc (.cells #[.int .i64 nu, .int .i64 ti, .int .i64 si, .bool el, .bool co, .bool pr, .int .i64 tl, .slice a n c] 46)).alloc (.cells #[.int .i64 0, .int .i64 0, .int .i64 0, .bool false, .bool false, .bool false, .int .i64 0, .slice none 0 0] 46) := ⟨_, rfl⟩
  have g2 : X.grownBy W2 none := by rw [hW2]; exact grown_trans (grown_alloc _ _) (grown_alloc _ _)
  have bb := Blk.two X #[.int .i64 nu, .int .i64 ti, .int .i64 si, .bool el, .bool co, .bool pr, .int .i64 tl, .slice a n c] #[.int .i64 0, .int .i64 0, .int .i64 0, .bool false, .bool false, .bool false, .int .i64 0, .slice none 0 0] 46 46
  rw [← hW2] at bb
  obtain ⟨B1, B2⟩ := bb
  have hl := listF_any W2 a n c css.flatten (by rw [flat_len 17 css frs.l17, frs.len, hnn]) (rd.grown g2) frs.one_ hn
  have c7 : W2.cell? ⟨X.heap.size, 7, none⟩ = some (.slice a n c) := B1.cell 7 _ rfl
  have sz2 : Hid (W2.heap.size = X.heap.size + 2) := by show _ = _; rw [hW2]; simp
  have FR := hide frs
  have G2 := hide g2
  have BB := hide (And.intro B1 B2)
  have HN := hide hnn
  clear frs rd g2 B1 B2 hnn
  obtain ⟨b1, hb1⟩ : ∃ b1, b1 = X.heap.size := ⟨_, rfl⟩
  rw [← hb1] at c7 BB
  go_enter Tryz.func50, Tryz.ntmps50
  go_upto_region 1 with fail
  rw [← hW2, ← hb1]
  replace hW2 := hide hW2
  replace hb1 := hide hb1
  go_wp2_with fail
  refine hl.mono ?_
  rintro e W3 ⟨v, rfl, nl⟩
  obtain ⟨a', c', hv⟩ : ∃ a' c', v = .slice a' n c' := by
    rcases nl.1 with ⟨e1, e2⟩ | ⟨_, g, e2, _⟩
    · exact ⟨none, 0, by rw [e1]; exact e2⟩
    · exact ⟨_, _, e2⟩
  subst hv
  have B13 := (unhide BB).1.grown nl.2
  have B23 := (unhide BB).2.1.grown nl.2
  have t7 := B13.thaw 7
  have c73 : W3.cell? ⟨b1, 7, none⟩ = some (.slice a n c) := B13.cell 7 _ rfl
  have B14 := B13.setC 7 (.slice a' n c')
  have c74 : (W3.setCell ⟨b1, 7, none⟩ (.slice a' n c')).cell? ⟨b1, 7, none⟩ = some (.slice a' n c') := B14.cell 7 _ rfl
  have lenI : ¬ (9223372036854775807 : Int) < (n : Int) := by omega
  have LO := hide (And.intro nl (And.intro B13 (And.intro B14 B23)))
  clear hl B13 B23 B14 c7 nl BB
  have FIN : Hid (∀ W, X.grownBy W none → Blk W (b1 + 1) #[.int .i64 0, .int .i64 0, .int .i64 0, .bool false, .bool false, .bool false, .int .i64 0, .slice none 0 0] 46 → FvAt (fun b => W2.heap.size ≤ b) W (.slice a' n c') fs → FvAt (fun b => X.heap.size ≤ b) (W.setRow (b1 + 1) #[.int .i64 nu, .int .i64 ti, .int .i64 si, .bool el, .bool co, .bool pr, .int .i64 tl, .slice a' n c']) (.slice a' n c') fs ∧ X.grownBy (W.setRow (b1 + 1) #[.int .i64 nu, .int .i64 ti, .int .i64 si, .bool el, .bool co, .bool pr, .int .i64 tl, .slice a' n c']) none ∧ Blk (W.setRow (b1 + 1) #[.int .i64 nu, .int .i64 ti, .int .i64 si, .bool el, .bool co, .bool pr, .int .i64 tl, .slice a' n c']) (b1 + 1) #[.int .i64 nu, .int .i64 ti, .int .i64 si, .bool el, .bool co, .bool pr, .int .i64 tl, .slice a' n c'] 46) := fun W gW q2 q3 => by
    have e2 := unhide sz2
    have e1 := unhide hb1
    refine ⟨?_, grown_row gW _ _ (by omega), q2.row _⟩
    have k := q3.kept (W' := W.setRow (b1 + 1) #[.int .i64 nu, .int .i64 ti, .int .i64 si, .bool el, .bool co, .bool pr, .int .i64 tl, .slice a' n c']) fun b hb => setRow_other W (b1 + 1) b _ (by omega)
    obtain ⟨h0, a, c, css, h1, h3, h4, h5⟩ := k
    exact ⟨h0, a, c, css, h1, ⟨h3.len, fun i cc f hc hf => (h3.at_ i cc f hc hf).mono fun b hb => (by omega)⟩, h4, fun hx b off e => by have := h5 hx b off e; omega⟩
  by_cases h0 : n = 0
  · subst h0
    obtain ⟨W4, hW4⟩ : ∃ W4, W4 = W3.setCell ⟨b1, 7, none⟩ (.slice a' 0 c') := ⟨_, rfl⟩
    obtain ⟨nl, q1, q2, q3⟩ := unhide LO
    have e1 := unhide hb1
    have gx4 : X.grownBy W4 none := by rw [hW4]; exact grown_set (grown_trans (unhide G2) nl.2) _ _ _ (by omega)
    have z4 : Blk W4 (b1 + 1) #[.int .i64 0, .int .i64 0, .int .i64 0, .bool false, .bool false, .bool false, .int .i64 0, .slice none 0 0] 46 := by rw [hW4]; exact q3.setO b1 7 _ (by omega)
    have q2' : Blk W4 b1 #[.int .i64 nu, .int .i64 ti, .int .i64 si, .bool el, .bool co, .bool pr, .int .i64 tl, .slice a' 0 c'] 46 := by rw [hW4]; exact q2
    have fv0 : FvAt (fun b => W2.heap.size ≤ b) W4 (.slice a' 0 c') fs := by
      have hf : fs = [] := List.length_eq_zero_iff.1 (by rw [← unhide HN])
      subst hf
      exact ⟨Nat.zero_le _, a', c', [], rfl, ⟨rfl, fun i c f hc => (by simp at hc)⟩, rdv_nil _ _, fun q => absurd rfl q⟩
    have E := hide (unhide FIN W4 gx4 z4 fv0)
    have Z4 := hide z4
    have hnI : ¬ (0 : Int) < ((0 : Nat) : Int) := by omega
    obtain ⟨p0, p1, p2, p3, p4, p5, p6, p7⟩ : W4.cell? ⟨b1, 0, none⟩ = some (.int .i64 nu) ∧ W4.cell? ⟨b1, 1, none⟩ = some (.int .i64 ti) ∧ W4.cell? ⟨b1, 2, none⟩ = some (.int .i64 si) ∧ W4.cell? ⟨b1, 3, none⟩ = some (.bool el) ∧ W4.cell? ⟨b1, 4, none⟩ = some (.bool co) ∧ W4.cell? ⟨b1, 5, none⟩ = some (.bool pr) ∧ W4.cell? ⟨b1, 6, none⟩ = some (.int .i64 tl) ∧ W4.cell? ⟨b1, 7, none⟩ = some (.slice a' 0 c') := ⟨q2'.cell 0 _ rfl, q2'.cell 1 _ rfl, q2'.cell 2 _ rfl, q2'.cell 3 _ rfl, q2'.cell 4 _ rfl, q2'.cell 5 _ rfl, q2'.cell 6 _ rfl, q2'.cell 7 _ rfl⟩
    clear nl q1 q2 q3 e1 gx4 z4 q2' fv0 LO FIN
    go_upto_region 3 with fail
    rw [← hW4]
    clear hW4 c73 c74 t7
    go_loopw [12] (fun iv wr => iv = .int .i64 0 ∧ wr = W4) (fun iv _ => 0)
    case atStart => exact ⟨rfl, rfl⟩
    case round =>
      obtain ⟨rfl, hwr⟩ := hrel
      replace hwr := hwr.symm
      subst hwr
      go_wp2_with (refine wpList_store_row rfl _ _ _ rfl (b1 + 1) #[.int .i64 nu, .int .i64 ti, .int .i64 si, .bool el, .bool co, .bool pr, .int .i64 tl, .slice a' 0 c'] rfl rfl 46 _ (unhide Z4) Tryz.sizeSent rfl (by simp [Value.oneCell']) ?_)
      refine bodyPost_ret (results_cell_row rfl _ _ (b1 + 1) 46 #[.int .i64 nu, .int .i64 ti, .int .i64 si, .bool el, .bool co, .bool pr, .int .i64 tl, .slice a' 0 c'] (0, 0) _ rfl (unhide E).2.2 Tryz.underlying46 rfl Tryz.sizeSent) rfl ?_
      exact ⟨a', c', rfl, (unhide E).1, (unhide E).2.1⟩
  · obtain ⟨g, hg1, hg2, hg3⟩ : ∃ g, a' = some ⟨g, 0, none⟩ ∧ W2.heap.size ≤ g ∧ Blk W3 g css.flatten.toArray 130 := by
      rcases (unhide LO).1.1 with ⟨e1, _⟩ | ⟨_, g, e2, e3, e4⟩
      · exact absurd e1 h0
      · injection e2 with e5
        exact ⟨g, e5, e3, e4⟩
    subst hg1
    obtain ⟨W4, hW4⟩ : ∃ W4, W4 = W3.setCell ⟨b1, 7, none⟩ (.slice (some ⟨g, 0, none⟩) n c') := ⟨_, rfl⟩
    have b1g : b1 ≠ g ∧ b1 + 1 ≠ g ∧ X.heap.size ≤ W2.heap.size := by have := unhide sz2; have := unhide hb1; omega
    have C0 : Hid (CI X W2.heap.size g css fs 0 W4 ∧ Blk W4 b1 #[.int .i64 nu, .int .i64 ti, .int .i64 si, .bool el, .bool co, .bool pr, .int .i64 tl, .slice (some ⟨g, 0, none⟩) n c'] 46 ∧ Blk W4 (b1 + 1) #[.int .i64 0, .int .i64 0, .int .i64 0, .bool false, .bool false, .bool false, .int .i64 0, .slice none 0 0] 46) := by
      obtain ⟨nl, q1, q2, q3⟩ := unhide LO
      have gx3 := grown_trans (unhide G2) nl.2
      have gx4 : X.grownBy W4 none := by rw [hW4]; exact grown_set gx3 _ _ _ (by rw [unhide hb1]; exact Nat.le_refl _)
      refine ⟨⟨gx4, ?_, (unhide FR).len, fun j c f hj => by omega, fun j cc f _ hc hf => (((unhide FR).at_ j cc f hc hf).own.mono fun b hb => (by have := b1g.2.2; omega)).grown gx4, hg2, b1g.2.2⟩, by rw [hW4]; exact q2, by rw [hW4]; exact q3.setO b1 7 _ (by omega)⟩
      rw [hW4]
      exact hg3.setO b1 7 _ b1g.1
    have c74' : W4.cell? ⟨b1, 7, none⟩ = some (.slice (some ⟨g, 0, none⟩) n c') := by rw [hW4]; exact c74
    clear c74
    go_upto_region 3 with fail
    rw [← hW4]
    clear hW4 c74' c73 t7 LO hg3
    go_loopw [12] (fun iv wr => ∃ (k : Nat) (css : List (List Value)), k ≤ n ∧ iv = .int .i64 k ∧ Hid (CI X W2.heap.size g css fs k wr ∧ Blk wr b1 #[.int .i64 nu, .int .i64 ti, .int .i64 si, .bool el, .bool co, .bool pr, .int .i64 tl, .slice (some ⟨g, 0, none⟩) n c'] 46 ∧ Blk wr (b1 + 1) #[.int .i64 0, .int .i64 0, .int .i64 0, .bool false, .bool false, .bool false, .int .i64 0, .slice none 0 0] 46)) (fun iv _ => n - (intOf iv).toNat)
    case atStart => exact ⟨0, css, Nat.zero_le _, rfl, C0⟩
    case round =>
      clear C0
      obtain ⟨k, cs, hk, rfl, I⟩ := hrel
      by_cases hlt : k < n
      · have hkI : (k : Int) < (n : Int) := by omega
        obtain ⟨ci, q1, q2⟩ := unhide I
        obtain ⟨c, f, dv, rv, hc, hf, wf, e, l1, l2, x3, x12⟩ := ci.look (by rw [← unhide HN]; exact hlt)
        obtain ⟨da, dn, dc, rfl, ld, rd1, -⟩ := l1.ex
        obtain ⟨ra, rn, rc, rfl, lr, rd2, -⟩ := l2.ex
        have hlb := fun Z (gZ : wr.grownBy Z none) => listB_any Z da dn dc f.d ld (rd1.grown gZ) (fun v hv => wf.one v (by simp [hv])) (by have := wf.nd; omega)
        have hlr := fun Z (gZ : wr.grownBy Z none) => listR_any Z ra rn rc f.r lr (rd2.grown gZ) (fun v hv => wf.one v (by simp [hv])) (by obtain ⟨m, h1, h2⟩ := wf.nr; omega)
        have y7 : wr.cell? ⟨b1, 7, none⟩ = some (.slice (some ⟨g, 0, none⟩) n c') := q1.cell 7 _ rfl
        have t3 := ci.blk.thaw (k * 17 + 3)
        have t12 := ci.blk.thaw (k * 17 + 12)
        have HH := hide (And.intro hc (And.intro hf (And.intro wf (And.intro e (And.intro ld lr)))))
        have HI := hide (unhide I)
        clear I ci q1 q2 l1 l2 rd1 rd2 hc hf wf e ld lr
        go_upto_region 6 with fail
        go_region_with (first
          | (go_at_call 85; refine (hlb _ (by first | with_reducible exact grown_self _ _ | with_reducible exact grown_drew' (grown_self _ _) | with_reducible exact grown_dN _ _)).mono ?_; rintro e Y1 ⟨v1, rfl, nl1⟩; obtain ⟨a1, c1, hv1⟩ := nl1.sh; subst hv1; have gY1 : wr.grownBy Y1 none := grown_trans (by first | with_reducible exact grown_self _ _ | with_reducible exact grown_drew' (grown_self _ _) | with_reducible exact grown_dN _ _) nl1.2; have x3a := cell_grown x3 gY1; have x12a := cell_grown x12 gY1; have G1 := hide gY1; have NL1 := hide nl1; clear nl1 gY1)
          | (go_at_call 86; refine (hlr _ (by first | with_reducible exact unhide G1 | with_reducible exact grown_drew' (unhide G1))).mono ?_; rintro e Y2 ⟨v2, rfl, nl2⟩; obtain ⟨a2, c2, hv2⟩ := nl2.sh; subst hv2; have gY2 : Y1.grownBy Y2 none := grown_trans (by first | with_reducible exact grown_self _ _ | with_reducible exact grown_drew' (grown_self _ _) | with_reducible exact grown_dN _ _) nl2.2; have x12b := cell_grown x12a gY2; have NL2 := hide nl2; have bY2 := (unhide HI).1.blk.grown (grown_trans (unhide G1) gY2); have x3b := cell_grown x3a gY2; have t3b := bY2.thaw (k * 17 + 3); have x12c := bY2.cell_ne (i := k * 17 + 3) (u := .slice a1 dn c1) (bY2.inv x12b) (by omega); have t12c := (bY2.setC (k * 17 + 3) (.slice a1 dn c1)).thaw (k * 17 + 12); have GY2 := hide gY2; clear nl2 gY2 bY2))
        all_goals go_wp2_with fail
        all_goals
          obtain ⟨ci, q1, q2⟩ := unhide HI
          obtain ⟨hc, hf, wf, e, ld, lr⟩ := unhide HH
          have nl1 := unhide NL1
          have nl2 := unhide NL2
          have cc := ci.copy hc hf wf e ld lr (by first | with_reducible exact grown_self _ _ | with_reducible exact grown_drew' (grown_self _ _)) nl1 (by first | with_reducible exact grown_self _ _ | with_reducible exact grown_drew' (grown_self _ _)) nl2
          have gg := grown_trans (unhide G1) (unhide GY2)
          exact ⟨⟨k + 1, _, hlt, rfl, cc, ((q1.grown gg).setO g _ _ (by omega)).setO g _ _ (by omega), ((q2.grown gg).setO g _ _ (by omega)).setO g _ _ (by omega)⟩, by simp [intOf]; omega⟩
      · obtain rfl : k = n := by omega
        have hkI : ¬ (k : Int) < (k : Int) := by omega
        obtain ⟨ci, q1, q2⟩ := unhide I
        obtain ⟨p0, p1, p2, p3, p4, p5, p6, p7⟩ : wr.cell? ⟨b1, 0, none⟩ = some (.int .i64 nu) ∧ wr.cell? ⟨b1, 1, none⟩ = some (.int .i64 ti) ∧ wr.cell? ⟨b1, 2, none⟩ = some (.int .i64 si) ∧ wr.cell? ⟨b1, 3, none⟩ = some (.bool el) ∧ wr.cell? ⟨b1, 4, none⟩ = some (.bool co) ∧ wr.cell? ⟨b1, 5, none⟩ = some (.bool pr) ∧ wr.cell? ⟨b1, 6, none⟩ = some (.int .i64 tl) ∧ wr.cell? ⟨b1, 7, none⟩ = some (.slice (some ⟨g, 0, none⟩) k c') := ⟨q1.cell 0 _ rfl, q1.cell 1 _ rfl, q1.cell 2 _ rfl, q1.cell 3 _ rfl, q1.cell 4 _ rfl, q1.cell 5 _ rfl, q1.cell 6 _ rfl, q1.cell 7 _ rfl⟩
        have Q2 := hide q2
        have fvn : FvAt (fun b => W2.heap.size ≤ b) wr (.slice (some ⟨g, 0, none⟩) k c') fs := by
          have hk := unhide HN
          subst hk
          exact ci.fv hn c'
        have E := hide (unhide FIN wr ci.gr q2 fvn)
        clear I ci q1 q2 fvn FIN
        go_wp2_with (refine wpList_store_row rfl _ _ _ rfl (b1 + 1) #[.int .i64 nu, .int .i64 ti, .int .i64 si, .bool el, .bool co, .bool pr, .int .i64 tl, .slice (some ⟨g, 0, none⟩) k c'] rfl rfl 46 _ (unhide Q2) Tryz.sizeSent rfl (by simp [Value.oneCell']) ?_)
        refine bodyPost_ret (results_cell_row rfl _ _ (b1 + 1) 46 #[.int .i64 nu, .int .i64 ti, .int .i64 si, .bool el, .bool co, .bool pr, .int .i64 tl, .slice (some ⟨g, 0, none⟩) k c'] (0, 0) _ rfl (unhide E).2.2 Tryz.underlying46 rfl Tryz.sizeSent) rfl ?_
        exact ⟨_, c', rfl, (unhide E).1, (unhide E).2.1⟩
end
end Go.Proofs.YtnflbefbgcbdfaaGreat
