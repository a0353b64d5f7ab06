import Derived.Test.YtggjeamondampaaBase
import Derived.Test.YtggjeamondampaaRows
namespace Go.Proofs.Ytggjeamondampaa
set_option maxRecDepth 100000
open Go.RowKit

theorem ret_int {k : IntKind} {a b : Int} (h : a = b) : Ending.returned (.int k a) = .returned (.int k b) := by rw [h]

set_option maxHeartbeats 400000 in
theorem size_any (v : Int) (w : World) (h0 : 0 ≤ v) (h1 : v < 18446744073709551616) :
    Calls Try.prog 71 #[.int .u64 v] w fun e w' => e = .returned (.int .i64 (sizeF v)) ∧ w' = w := by
  go_enter Try.func71, Try.ntmps71
  go_wp2
  all_goals go_ret
  all_goals exact ⟨ret_int (by unfold sizeF; (repeat' split) <;> omega), rfl⟩

theorem Try.info5 : (Try.prog.info? 5).map (fun i => (i.zero, i.size, i.bytes)) = some (some (.int .u8 0), 1, 1) := by kernel_rfl

theorem mk_bytes (n : Nat) (h : n ≤ 8) (W : World) : (Instr.makeSlice 22 (.int .i64 (n : Int)) (.int .i64 (n : Int))).run Try.prog W = .ok (.slice (some ⟨W.heap.size, 0, none⟩) n n) (W.alloc (.cells (Array.replicate n (.int .u8 0)) 5)) := by
  obtain ⟨i, hi, hz, hs, hb⟩ := info_parts Try.info5
  have := run_make (P := Try.prog) W 22 5 i (.int .u8 0) Try.underlying22 hi hz .i64 .i64 n n (by omega) (by omega) (by rw [hb]; omega) (by omega)
  rw [this, hs]
  congr 3
  simp only [Int.toNat_natCast, Nat.mul_one]
  apply Array.toList_inj.1
  have e : (Value.int IntKind.u8 0).cells = #[Value.int .u8 0] := rfl
  rw [e, toList_madeCells_one]
  simp

theorem alloc_set (w : World) (cs : Array Value) (t : TypeId) (k : Nat) (v : Value) : (w.alloc (.cells cs t)).setCell ⟨w.heap.size, k, none⟩ v = w.alloc (.cells (cs.setIfInBounds k v) t) := by
  unfold World.alloc World.setCell
  simp only [World.mk.injEq, and_true]
  apply Array.ext_getElem?
  intro i
  rw [Array.getElem?_modify, Array.getElem?_push, Array.getElem?_push]
  by_cases h : w.heap.size = i
  · subst h; simp
  · rw [if_neg h]; rw [if_neg (Ne.symm h), if_neg (Ne.symm h)]

theorem wpList_mk {ops : Array Oper} {rest : List Oper} {o : Oper} {a : Act} {Q : Exit → Act → World → Prop} (n : Nat) (h : n ≤ 8) (w : World) (hg : o.guard = none) (l c : Operand) (hop : o.op = Op.makeSlice 22 l c)
    (hl : a.eval l = .int .i64 (n : Int)) (hc : a.eval c = .int .i64 (n : Int))
    (hK : wpList Try.prog ops Q rest (a.put o.dst (.slice (some ⟨w.heap.size, 0, none⟩) n n)) (w.alloc (.cells (Array.replicate n (.int .u8 0)) 5))) : wpList Try.prog ops Q (o :: rest) a w := by
  refine wpList_plain hg fun K hK' => ?_
  unfold Oper.wp
  simp [execOp, hop, hl, hc, mk_bytes n h, Result.andThen]
  exact hK' _ _ hK

/-- A block of bytes. -/
def bts (l : List Int) : Obj := .cells (l.map (Value.int .u8)).toArray 5

set_option maxHeartbeats 400000 in
theorem lay_1 (v : Int) (w : World) (h0 : 0 ≤ v) (h1 : v ≤ 63) :
    Calls Try.prog 72 #[.int .u64 v, .int .i64 1] w fun e w' => e = .returned (.slice (some ⟨w.heap.size, 0, none⟩) 1 1) ∧ w' = w.alloc (bts (layF v 1)) := by
  have hst := alloc_set w
  go_enter Try.func72, Try.ntmps72
  go_wp2_with (first | (at_make; refine wpList_mk 1 (by omega) _ rfl _ _ rfl rfl rfl ?_; simp only [Array.replicate, List.replicate]) | go_in)
  go_ret
  refine ⟨rfl, ?_⟩
  try rw [or_mark _ _ (by omega) (by omega) (by omega)]
  refine congrArg (fun l : List Int => w.alloc (.cells (l.map (Value.int .u8)).toArray 5)) (?_ : [_] = layF v 1)
  simp [layF, dig, markF]
  try omega

set_option maxHeartbeats 400000 in
theorem lay_2 (v : Int) (w : World) (h0 : 0 ≤ v) (h1 : v ≤ 16383) :
    Calls Try.prog 72 #[.int .u64 v, .int .i64 2] w fun e w' => e = .returned (.slice (some ⟨w.heap.size, 0, none⟩) 2 2) ∧ w' = w.alloc (bts (layF v 2)) := by
  have hst := alloc_set w
  go_enter Try.func72, Try.ntmps72
  go_wp2_with (first | (at_make; refine wpList_mk 2 (by omega) _ rfl _ _ rfl rfl rfl ?_; simp only [Array.replicate, List.replicate]) | go_in)
  go_ret
  refine ⟨rfl, ?_⟩
  try rw [or_mark _ _ (by omega) (by omega) (by omega)]
  refine congrArg (fun l : List Int => w.alloc (.cells (l.map (Value.int .u8)).toArray 5)) (?_ : [_, _] = layF v 2)
  simp [layF, dig, markF]
  try omega

set_option maxHeartbeats 400000 in
theorem lay_4 (v : Int) (w : World) (h0 : 0 ≤ v) (h1 : v ≤ 1073741823) :
    Calls Try.prog 72 #[.int .u64 v, .int .i64 4] w fun e w' => e = .returned (.slice (some ⟨w.heap.size, 0, none⟩) 4 4) ∧ w' = w.alloc (bts (layF v 4)) := by
  have hst := alloc_set w
  go_enter Try.func72, Try.ntmps72
  go_wp2_with (first | (at_make; refine wpList_mk 4 (by omega) _ rfl _ _ rfl rfl rfl ?_; simp only [Array.replicate, List.replicate]) | go_in)
  go_ret
  refine ⟨rfl, ?_⟩
  try rw [or_mark _ _ (by omega) (by omega) (by omega)]
  refine congrArg (fun l : List Int => w.alloc (.cells (l.map (Value.int .u8)).toArray 5)) (?_ : [_, _, _, _] = layF v 4)
  simp [layF, dig, markF]
  try omega

set_option maxHeartbeats 400000 in
theorem lay_8 (v : Int) (w : World) (h0 : 0 ≤ v) (h1 : v ≤ 4611686018427387903) :
    Calls Try.prog 72 #[.int .u64 v, .int .i64 8] w fun e w' => e = .returned (.slice (some ⟨w.heap.size, 0, none⟩) 8 8) ∧ w' = w.alloc (bts (layF v 8)) := by
  have hst := alloc_set w
  go_enter Try.func72, Try.ntmps72
  go_wp2_with (first | (at_make; refine wpList_mk 8 (by omega) _ rfl _ _ rfl rfl rfl ?_; simp only [Array.replicate, List.replicate]) | go_in)
  go_ret
  refine ⟨rfl, ?_⟩
  try rw [or_mark _ _ (by omega) (by omega) (by omega)]
  refine congrArg (fun l : List Int => w.alloc (.cells (l.map (Value.int .u8)).toArray 5)) (?_ : [_, _, _, _, _, _, _, _] = layF v 8)
  simp [layF, dig, markF]
  try omega

/-- v stands in n bytes. -/
def Fits (v : Int) (n : Nat) : Prop := (n = 1 ∧ v ≤ 63) ∨ (n = 2 ∧ v ≤ 16383) ∨ (n = 4 ∧ v ≤ 1073741823) ∨ (n = 8 ∧ v ≤ 4611686018427387903)

theorem lay_any (v : Int) (n : Nat) (w : World) (h0 : 0 ≤ v) (h1 : Fits v n) :
    Calls Try.prog 72 #[.int .u64 v, .int .i64 (n : Int)] w fun e w' => e = .returned (.slice (some ⟨w.heap.size, 0, none⟩) n n) ∧ w' = w.alloc (bts (layF v n)) := by
  rcases h1 with ⟨rfl, h⟩ | ⟨rfl, h⟩ | ⟨rfl, h⟩ | ⟨rfl, h⟩
  · exact lay_1 v w h0 h
  · exact lay_2 v w h0 h
  · exact lay_4 v w h0 h
  · exact lay_8 v w h0 h

theorem fits_size (v : Int) (h : v ≤ 4611686018427387903) : Fits v (sizeF v) := by
  unfold Fits sizeF
  (repeat' split) <;> omega
theorem size_ne (v : Int) (h : v ≤ 4611686018427387903) : ((sizeF v : Int) == 0) = false := by
  unfold sizeF
  (repeat' split) <;> simp
theorem size_zero (v : Int) (h : 4611686018427387903 < v) : sizeF v = 0 := by
  unfold sizeF
  (repeat' split) <;> omega

set_option maxHeartbeats 400000 in
theorem put_ok (v : Int) (w : World) (h0 : 0 ≤ v) (h1 : v ≤ 4611686018427387903) :
    Calls Try.prog 52 #[.int .u64 v] w fun e w' => e = .returned (.tuple #[.slice (some ⟨w.heap.size, 0, none⟩) (sizeF v) (sizeF v), .int .i64 0]) ∧ w' = w.alloc (bts (layF v (sizeF v))) := by
  have hne := size_ne v h1
  have hfit := fits_size v h1
  go_enter Try.func52, Try.ntmps52
  go_wp2_with (first | (go_at_call 71; refine (size_any _ _ (by omega) (by omega)).mono ?_; rintro e w' ⟨rfl, rfl⟩) | (go_at_call 72; refine (lay_any _ _ _ h0 hfit).mono ?_; rintro e w' ⟨rfl, rfl⟩))
  go_ret2
  exact ⟨rfl, rfl⟩

set_option maxHeartbeats 400000 in
theorem put_no (v : Int) (w : World) (h0 : 4611686018427387903 < v) (h1 : v < 18446744073709551616) :
    Calls Try.prog 52 #[.int .u64 v] w fun e w' => e = .returned (.tuple #[.slice none 0 0, .int .i64 10]) ∧ w' = w := by
  have hz := size_zero v h0
  go_enter Try.func52, Try.ntmps52
  go_wp2_with (first | (go_at_call 71; refine (size_any _ _ (by omega) (by omega)).mono ?_; rintro e w' ⟨rfl, rfl⟩))
  go_ret2
  exact ⟨rfl, rfl⟩

def isSize (n : Int) : Prop := n = 1 ∨ n = 2 ∨ n = 4 ∨ n = 8

theorem fits_of (v : Int) (n : Int) (h : isSize n) (hs : (sizeF v : Int) ≤ n) (hv : v ≤ 4611686018427387903) : Fits v n.toNat := by
  revert hs
  unfold Fits sizeF
  rcases h with rfl | rfl | rfl | rfl <;> (repeat' split) <;> intro hs <;> omega

end Go.Proofs.Ytggjeamondampaa
