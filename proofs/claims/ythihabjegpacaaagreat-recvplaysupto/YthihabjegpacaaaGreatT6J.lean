/- recv: what is general. -/
import Derived.Test.YthihabjegpacaaaGreatS5B
import Derived.Test.YthihabjegpacaaaGreatS5P
import Derived.Test.YthihabjegpacaaaGreatSX2
import Derived.Test.YthihabjegpacaaaGreatSU
import Derived.Test.YthihabjegpacaaaGreatSV
import Derived.Test.YthihabjegpacaaaGreatS5O
import Derived.Test.YthihabjegpacaaaGreatT6H
namespace Go.Proofs.YthihabjegpacaaaGreat
open Go.RowKit
set_option linter.unusedVariables false
set_option maxHeartbeats 400000
set_option maxRecDepth 100000

abbrev ptr (b : Nat) : Value := .pointer (some ⟨b, 0, none⟩)
/-- A byte. -/
def IsB (x : Int) : Prop := 0 ≤ x ∧ x ≤ 255
/-- What a slice's address leads to: its elements read as these bytes. -/
def Rd (w : World) (a : Option Addr) (l : List Int) : Prop :=
  (∀ x ∈ l, IsB x) ∧ (l ≠ [] → ∃ b off, a = some ⟨b, off, none⟩ ∧ ∀ i, i < l.length → w.cell? ⟨b, off + i, none⟩ = some (.int .u8 (l.getD i 0)))
def by8 (l : List Int) : Array Value := (l.map (Value.int .u8)).toArray

theorem row_kept {w w' : World} {v : Value} {L : List Sp} (h : Row w v L) (hk : ∀ g, v.ownBlock = some g → w'.heap[g]? = w.heap[g]?) : Row w' v L := by
  rcases Row.at h with ⟨rfl, rfl⟩ | ⟨g, c, sp, rfl, hR⟩
  · exact row_nil _
  · exact RowAt.row (sp := sp) ⟨(hk g rfl).trans hR.1, hR.2⟩
theorem row_lt {w : World} {v : Value} {L : List Sp} (h : Row w v L) : ∀ g, v.ownBlock = some g → g < w.heap.size := fun g e => by
  rcases Row.at h with ⟨rfl, rfl⟩ | ⟨g', c, sp, rfl, hR⟩
  · cases e
  · cases e; exact hR.lt
theorem setAt_kept {W W' : World} {b : Nat} {v : Value} {L : List Sp} (h : SetAt W b 0 v L) (hb : W'.heap[b]? = W.heap[b]?) (hv : ∀ g, v.ownBlock = some g → W'.heap[g]? = W.heap[g]?) : SetAt W' b 0 v L := ⟨hb.trans h.blk, row_kept h.row hv⟩
theorem setAt_lt {w : World} {b : Nat} {v : Value} {L : List Sp} (h : SetAt w b 0 v L) : b < w.heap.size := (Array.getElem?_eq_some_iff.1 h.blk).1

theorem or_lt {w : World} {M : Nat → Prop} {g : Nat} (h : M g ∨ w.heap.size ≤ g) : g < w.heap.size → M g := fun hl => h.resolve_right (by omega)

/-- What a set's Add or Cut leaves. -/
theorem kp_touch {w W W' : World} {M : Nat → Prop} {v : Value} {k : Nat} (h : Kp M w W) (t : Touch W W' k v) (hk : M k ∨ w.heap.size ≤ k) (hv : ∀ g, v.ownBlock = some g → M g ∨ w.heap.size ≤ g) : Kp M w W' :=
  ⟨t.os.trans h.os, t.tape.trans h.tape, t.output.trans h.output, Nat.le_trans h.size t.size, fun g hg hn => by
    rw [t.block g (Nat.lt_of_lt_of_le hg h.size) (fun e => hn (or_lt hk (by omega) |> fun q => e ▸ q)) (fun e => hn (or_lt (hv g e.symm) hg))]
    exact h.block g hg hn⟩

theorem add_gt (b : Nat) (lo hi : Int) (w : World) (hlh : hi < lo) :
    Calls Tryz.prog 37 #[.pointer (some ⟨b, 0, none⟩), .int .i64 lo, .int .i64 hi] w fun e w' => e = .returned (.int .u64 0) ∧ w.grownBy w' none := by
  have hd1 : decide (hi < lo) = true := decide_eq_true hlh
  go_enter Tryz.func37, Tryz.ntmps37
  go_wp2
  all_goals go_ret
  all_goals exact ⟨rfl, grown_trans (grown_trans (grown_alloc _ _) (grown_alloc _ _)) (grown_alloc _ _)⟩

theorem add_post {w : World} {b : Nat} {v : Value} {L : List Sp} (hv : SetAt w b 0 v L) (hL : Ok L) (lo hi : Int) (hlo : -9223372036854775808 ≤ lo) (hhi : hi ≤ 9223372036854775807) :
    Calls Tryz.prog 37 #[.pointer (some ⟨b, 0, none⟩), .int .i64 lo, .int .i64 hi] w (AddPost b 0 v w (addN lo hi L) (addS 0 lo hi L)) := by
  by_cases hlh : hi < lo
  · refine (add_gt b lo hi w hlh).mono ?_
    rintro e w' ⟨rfl, hg⟩
    unfold addN addS
    rw [if_pos hlh, if_pos hlh]
    exact ⟨rfl, ⟨v, hv.keep hg, .inl rfl⟩, Touch.of b v hg⟩
  · unfold addN addS
    rw [if_neg hlh, if_neg hlh]
    obtain ⟨A, M, D, rfl, hA, hM, hD⟩ := split3 (lo - 1) (hi + 1) hL.good (by omega)
    rw [addF_split hL.good (by omega) hA hM hD]
    exact add_walk b 0 lo hi v A M D w hv hL (by omega) hlo hhi hA hM hD
theorem Tryz.infoB : (Tryz.prog.info? 5).map (fun i => (i.zero, i.size, i.bytes)) = some (some (.int .u8 0), 1, 1) := by kernel_rfl

theorem by8_size (l : List Int) : (by8 l).size = l.length := by simp [by8]
theorem by8_get (l : List Int) (i : Nat) (x : Int) (h : l[i]? = some x) : (by8 l)[i]? = some (.int .u8 x) := by simp [by8, h]

/-- copy of bytes, into the midst of a row. -/
theorem run_copy8 (w : World) (ty : TypeId) (g o dLen dCap : Nat) (a : Addr) (sLen sCap : Nat) (X C Y xs : List Int) (hg : Blk w g (by8 (X ++ (C ++ Y))) 5) (ho : o = X.length) (hC : C.length = xs.length) (hn : xs.length = Nat.min sLen dLen)
    (hsrc : ∀ j x, xs[j]? = some x → w.cell? (a.add j) = some (.int .u8 x)) :
    (Builtin.copy_ #[36, 36] ty #[.slice (some ⟨g, o, none⟩) dLen dCap, .slice (some a) sLen sCap]).run Tryz.prog w = .ok (goInt (Nat.min sLen dLen)) (w.setRow g (by8 (X ++ (xs ++ Y)))) := by
  obtain ⟨i, hi, hz, hs, hb⟩ := info_parts Tryz.infoB
  have hl := run_loadCells_list (P := Tryz.prog) w a (xs.map (Value.int .u8)) (fun j v hj => by
    rw [List.getElem?_map] at hj
    cases hx : xs[j]? with
    | none => rw [hx] at hj; simp at hj
    | some x => rw [hx] at hj; simp at hj; rw [← hj]; exact hsrc j x hx)
  have e8 : by8 (X ++ (C ++ Y)) = (X.map (Value.int .u8) ++ (C.map (Value.int .u8) ++ Y.map (Value.int .u8))).toArray := by simp [by8]
  have hg' : w.heap[g]? = some (.cells (X.map (Value.int .u8) ++ (C.map (Value.int .u8) ++ Y.map (Value.int .u8))).toArray 5 (0, 0)) := by rw [← e8]; exact hg
  have hst := run_storeCells_at Tryz.prog g o 5 (xs.map (Value.int .u8)) 0 _ w hg' (by subst ho; simp; omega) (by intro v hv; obtain ⟨x, -, rfl⟩ := List.mem_map.1 hv; rfl)
  have e := splice (X.map (Value.int .u8)) (C.map (Value.int .u8)) (Y.map (Value.int .u8)) (xs.map (Value.int .u8)) o (by simp [ho]) (by simp [hC])
  rw [e] at hst
  have e9 : by8 (X ++ (xs ++ Y)) = (X.map (Value.int .u8) ++ (xs.map (Value.int .u8) ++ Y.map (Value.int .u8))).toArray := by simp [by8]
  rw [e9]
  rw [List.length_map] at hl
  simp [Builtin.copy_, run_underlying Tryz.underlying36, Builtin.lenOf, Builtin.firstCells, sizeOf, typeInfo, hi, hs, ← hn, hl, hst]

theorem wpList_make_run {ops : Array Oper} {rest : List Oper} {o : Oper} {a : Act} {Q : Exit → Act → World → Prop} (w : World) (hg : o.guard = none) (t : TypeId) (l c : Operand) (hop : o.op = Op.makeSlice t l c) (lv cv : Value)
    (hl : a.eval l = lv) (hc : a.eval c = cv) {v' : Value} {w' : World} (hr : (Instr.makeSlice t lv cv).run Tryz.prog w = .ok v' w') (hK : wpList Tryz.prog ops Q rest (a.put o.dst v') w') : wpList Tryz.prog ops Q (o :: rest) a w := by
  refine wpList_plain hg fun K hK' => ?_
  unfold Oper.wp
  simp [execOp, hop, hl, hc, hr, Result.andThen]
  exact hK' _ _ hK

theorem mk_zeros (n : Nat) (h : n ≤ 281474976710656) (W : World) : (Instr.makeSlice 36 (.int .i64 (n : Int)) (.int .i64 (n : Int))).run Tryz.prog W = .ok (.slice (some ⟨W.heap.size, 0, none⟩) n n) (W.alloc (.cells (by8 (List.replicate n 0)) 5)) := by
  obtain ⟨i, hi, hz, hs, hb⟩ := info_parts Tryz.infoB
  have := run_make (P := Tryz.prog) W 36 5 i (.int .u8 0) Tryz.underlying36 hi hz .i64 .i64 n n (by omega) (by omega) (by rw [hb]; omega) (by omega)
  rw [hs] at this
  have e : madeCells (Value.int IntKind.u8 0).cells ((n : Int).toNat * 1) = by8 (List.replicate n 0) := by
    have e1 : (Value.int IntKind.u8 0).cells = #[Value.int .u8 0] := rfl
    rw [e1]
    apply Array.ext_getElem?
    intro j
    by_cases hj : j < n
    · simp [madeCells, by8, hj, Nat.mod_one]
    · simp [madeCells, by8, hj]
  rw [e] at this
  exact this
theorem Rd.cell {w : World} {b off : Nat} {l : List Int} (h : Rd w (some ⟨b, off, none⟩) l) {j : Nat} {x : Int} (hj : l[j]? = some x) : w.cell? ⟨b, off + j, none⟩ = some (.int .u8 x) := by
  have hlt := (List.getElem?_eq_some_iff.1 hj).1
  obtain ⟨b', off', e, hc⟩ := h.2 (fun e => by rw [e] at hlt; simp at hlt)
  cases e
  rw [hc j hlt]
  simp [List.getD, hj]
theorem Rd.grow {w W : World} {a : Option Addr} {l : List Int} (h : Rd w a l) (g : w.grownBy W none) : Rd W a l := ⟨h.1, fun hne => by
  obtain ⟨b, off, e, hc⟩ := h.2 hne
  exact ⟨b, off, e, fun i hi => cell_grown (hc i hi) g⟩⟩

theorem gr_drew {w w' : World} {r : Option Nat} (h : w.drew.grownBy w' r) : w.grownBy w' r := ⟨h.os, h.tape, h.output, h.size, h.block⟩
theorem gr_far {a b c : World} {r : Option Nat} (h : a.grownBy b r) (k : b.grownBy c r) : a.grownBy c r := ⟨k.os.trans h.os, k.tape.trans h.tape, k.output.trans h.output, Nat.le_trans h.size k.size, fun i hi hn => (k.block i (Nat.lt_of_lt_of_le hi h.size) hn).trans (h.block i hi hn)⟩
theorem eqnil8 (W : World) (a : Option Addr) (n c : Nat) : (binOp .eql 36 (.slice a n c) (.slice none 0 0)).run Tryz.prog W = .ok (.bool a.isNone) W := Lib.run_eql_slice_nil W _ _ a n c 0 0 Tryz.underlying36

theorem rd_by8 {W : World} {g : Nat} {l : List Int} (h : Blk W g (by8 l) 5) (hb : ∀ x ∈ l, IsB x) : Rd W (some ⟨g, 0, none⟩) l := ⟨hb, fun _ => ⟨g, 0, rfl, fun i hi => by
  rw [Nat.zero_add]
  refine h.cell i _ (by8_get l i _ ?_)
  simp [List.getD, hi]⟩⟩

theorem Rd.nil_of {w : World} {a : Option Addr} {p : List Int} (h : Rd w a p) (hn : 0 < p.length) : ∃ b off, a = some ⟨b, off, none⟩ ∧ ∀ i, i < p.length → w.cell? ⟨b, off + i, none⟩ = some (.int .u8 (p.getD i 0)) := h.2 (fun e => by rw [e] at hn; simp at hn)

theorem Kp.then {S S' : Nat → Prop} {A B C : World} (h : Kp S A B) (k : Kp S' B C) (hs : ∀ g, g < A.heap.size → S' g → S g) : Kp S A C :=
  ⟨k.os.trans h.os, k.tape.trans h.tape, k.output.trans h.output, Nat.le_trans h.size k.size, fun g hg hn => (k.block g (Nat.lt_of_lt_of_le hg h.size) (fun hS => hn (hs g hg hS))).trans (h.block g hg hn)⟩

theorem Kp.nothing {S : Nat → Prop} {A B C : World} (h : Kp S A B) (k : B.grownBy C none) : Kp S A C := h.trans (Kp.grown k S)


end Go.Proofs.YthihabjegpacaaaGreat
