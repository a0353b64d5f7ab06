/- Encode. -/
import Derived.Test.YtnglgedcpmbbjaaKZ
import Derived.Laws.IdiomCopy
import Derived.Laws.CopyRow
namespace Go.Proofs.Ytnglgedcpmbbjaa
open Go.RowKit
set_option linter.unusedVariables false
set_option maxRecDepth 100000
set_option maxHeartbeats 1000000

theorem bytesP_len (p : Pk) (h : Good p) : ((bytesP p).length : Int) = overP p + p.payload.length := by
  have hw := h.w
  unfold bytesP partsP cutP overP
  rcases h.sp with e | e | e
  all_goals
    simp [e, dig_length, layF_length]
    omega
theorem bytesP_lt (p : Pk) (h : Good p) : (bytesP p).length ≤ p.payload.length + 60 := by
  have e := bytesP_len p h
  have h1 := h.w; have h2 := h.d; have h3 := h.s
  have : overP p ≤ 60 := by unfold overP; (repeat' split) <;> omega
  omega

theorem Try.size5 : (Try.prog.info? 5).map (·.size) = some 1 := by kernel_rfl
theorem mk_bytesN (n : Nat) (h : n ≤ 281474976710656) (W : World) : (Instr.makeSlice 24 (.int .i64 (n : Int)) (.int .i64 (n : Int))).run Try.prog W = .ok (.slice (some ⟨W.heap.size, 0, none⟩) n n) (W.alloc (bts (List.replicate n 0))) := by
  obtain ⟨i, hi, hz, hs, hb⟩ := info_parts Try.info5
  have := run_make (P := Try.prog) W 24 5 i (.int .u8 0) Try.underlying24 hi hz .i64 .i64 n n (by omega) (by omega) (by rw [hb]; omega) (by omega)
  rw [this, hs]
  congr 3
  simp only [Int.toNat_natCast, Nat.mul_one]
  apply Array.toList_inj.1
  have e : (Value.int IntKind.u8 0).cells = #[Value.int .u8 0] := rfl
  rw [e, toList_madeCells_one]
  simp
theorem wpList_mkN {ops : Array Oper} {rest : List Oper} {o : Oper} {a : Act} {Q : Exit → Act → World → Prop} (n : Nat) (h : n ≤ 281474976710656) (w : World) (hg : o.guard = none) (l c : Operand) (hop : o.op = Op.makeSlice 24 l c)
    (hl : a.eval l = .int .i64 (n : Int)) (hc : a.eval c = .int .i64 (n : Int))
    (hK : wpList Try.prog ops Q rest (a.put o.dst (.slice (some ⟨w.heap.size, 0, none⟩) n n)) (w.alloc (bts (List.replicate n 0)))) : wpList Try.prog ops Q (o :: rest) a w :=
  wpList_plain hg fun K hK' => by
    unfold Oper.wp execOp
    simp only [hop, Sem.run_bind, Sem.run_pure, Result.andThen_ok, hl, hc, mk_bytesN n h w]
    exact hK' _ _ hK
theorem wpList_copy_run {P : Program} (w : World) {ops : Array Oper} {rest : List Oper} {o : Oper} {a : Act} {Q : Exit → Act → World → Prop} (hgd : o.guard = none) (d s : Operand) (t t' : TypeId)
    (ho : o.op = .call { callee := .builtin .copy, args := #[d, s], argTypes := #[t, t'] }) (v u : Value) (hd : a.eval d = v) (hs : a.eval s = u) {v' : Value} {w' : World}
    (hr : (Builtin.copy_ #[t, t'] o.type #[v, u]).run P w = .ok v' w') (h : wpList P ops Q rest (a.put o.dst v') w') : wpList P ops Q (o :: rest) a w :=
  wpList_plain hgd fun K hK => by
    unfold Oper.wp execOp
    simp only [ho, resolve, invoke, builtin, Sem.run_bind, Sem.run_pure, Result.andThen_ok, List.map_toArray, List.map_cons, List.map_nil, hd, hs, hr]
    exact hK _ _ h

theorem grown_setRow (w : World) (g : Nat) (cs : Array Value) : w.grownBy (w.setRow g cs) (some g) :=
  ⟨rfl, rfl, rfl, by simp, fun k _ hk => setRow_other w g k cs (fun h => hk (by rw [h]))⟩

/-- copy of a part behind what was written. -/
theorem copy_part (w : World) (gb : Nat) (D l : List Int) (z : Nat) (hg : w.heap[gb]? = some (bts (D ++ List.replicate z 0))) (a : Option Addr) (c dc : Nat) (hr : Rd w a l) (hl : l.length ≤ z) (dp : Option Addr) (hdp : 0 < l.length → dp = some ⟨gb, D.length, none⟩) :
    ∃ w', (∀ ty, (Builtin.copy_ #[24, 24] ty #[.slice dp z dc, .slice a l.length c]).run Try.prog w = .ok (.int .i64 l.length) w') ∧ w'.heap[gb]? = some (bts (D ++ l ++ List.replicate (z - l.length) 0)) ∧ w.grownBy w' (some gb) := by
  by_cases h0 : l = []
  · subst h0
    refine ⟨w, fun ty => ?_, by simpa using hg, World.grownBy.refl w _⟩
    exact run_copy_none (P := Try.prog) w 24 24 ty 5 dp a z dc 0 c Try.underlying24 Try.size5 (by simp)
  · have hpos : 0 < l.length := List.length_pos_iff.2 h0
    obtain ⟨b, off, rfl, hc⟩ := hr.2 h0
    rw [hdp hpos]
    have hg' : w.heap[gb]? = some (.cells ((D ++ List.replicate z 0).map (Value.int .u8)).toArray 5 (0, 0)) := hg
    have key := fun ty => run_copy_row (P := Try.prog) w 24 24 ty 5 gb D.length z dc ⟨b, off, none⟩ l.length c ((D ++ List.replicate z 0).map (Value.int .u8)).toArray 5 (l.map (Value.int .u8)) Try.underlying24 Try.size5 hg' (by rw [List.length_map]; exact (Nat.min_eq_left hl).symm)
      (fun j v hv => by
        have hj : j < l.length := by
          by_cases c : j < l.length
          · exact c
          · simp [c] at hv
        have := hc j hj
        simp [hj] at hv
        have hadd : (⟨b, off, none⟩ : Addr).add j = ⟨b, off + j, none⟩ := by simp [Addr.add]
        rw [hadd, this, ← hv]
        simp [List.getD, hj]) (by simp; omega) (fun v hv => by simp at hv; obtain ⟨x, -, rfl⟩ := hv; rfl)
    have e : ((((D ++ List.replicate z 0).map (Value.int .u8)).toArray.toList.take D.length ++ l.map (Value.int .u8) ++ ((D ++ List.replicate z 0).map (Value.int .u8)).toArray.toList.drop (D.length + (l.map (Value.int .u8)).length)).toArray) = ((D ++ l ++ List.replicate (z - l.length) 0).map (Value.int .u8)).toArray := by
      congr 1
      simp only [List.map_append, List.map_replicate, List.length_map]
      have e1 : (List.map (Value.int .u8) D ++ List.replicate z (Value.int .u8 0)).take D.length = D.map (Value.int .u8) := by
        have := List.take_left (l₁ := D.map (Value.int .u8)) (l₂ := List.replicate z (Value.int .u8 0))
        rwa [List.length_map] at this
      have e2 : (List.map (Value.int .u8) D ++ List.replicate z (Value.int .u8 0)).drop (D.length + l.length) = List.replicate (z - l.length) (Value.int .u8 0) := by
        rw [List.drop_append]; simp
      rw [e1, e2]
    simp only [e] at key
    refine ⟨w.setRow gb ((D ++ l ++ List.replicate (z - l.length) 0).map (Value.int .u8)).toArray, fun ty => (key ty).trans ?_, setRow_heap w gb _ _ 5 _ hg', grown_setRow w gb _⟩
    simp [goInt]

theorem encE_cases (p : Pk) : (encE p = (ovF p).2 ∧ (ovF p).2 ≠ 0) ∨ ((ovF p).2 = 0 ∧ encE p = 54 ∧ (ovF p).1 = overP p ∧ ¬ badK p ∧ ¬ badF p ∧ badN p) ∨ ((ovF p).2 = 0 ∧ encE p = 0 ∧ (ovF p).1 = overP p ∧ Good p) := by
  unfold encE ovF
  by_cases hK : badK p
  · left; rw [if_pos hK, if_pos hK]; simp
  · rw [if_neg hK, if_neg hK]
    by_cases hF : badF p
    · left; rw [if_pos hF, if_pos hF]; simp
    · rw [if_neg hF, if_neg hF]
      right
      by_cases hN : badN p
      · left; rw [if_pos hN]; exact ⟨rfl, rfl, rfl, hK, hF, hN⟩
      · right; rw [if_neg hN]
        refine ⟨rfl, rfl, rfl, ?_⟩
        unfold badK at hK; unfold badF at hF; unfold badN at hN
        exact ⟨by omega, by omega, by omega, fun e => List.length_eq_zero_iff.1 (by omega), by omega, by omega, fun e => by omega⟩

/-- What Encode leaves. -/
def EncPost (w : World) (p : Pk) (e : Ending) (w' : World) : Prop :=
  ((encE p ≠ 0 ∧ e = .returned (.tuple #[nilV, .int .i64 (encE p)])) ∨ (encE p = 0 ∧ Good p ∧ ∃ g, w.heap.size ≤ g ∧ e = .returned (.tuple #[.slice (some ⟨g, 0, none⟩) (bytesP p).length (bytesP p).length, .int .i64 0]) ∧ w'.heap[g]? = some (bts (bytesP p)))) ∧ w.grownBy w' none

theorem encode_bad (p : Pk) (d s y : Value) (w : World) (hd : InB w d p.dst) (hs : InB w s p.src) (hy : InB w y p.payload) (l1 : p.dst.length ≤ 140737488355328) (l2 : p.src.length ≤ 140737488355328) (l3 : p.payload.length ≤ 140737488355328) (he : encE p ≠ 0) :
    Calls Try.prog 5 #[p.val d s y] w (EncPost w p) := by
  obtain ⟨a1, c1, rfl, hd1⟩ := id hd
  obtain ⟨a2, c2, rfl, hs1⟩ := id hs
  obtain ⟨a3, c3, rfl, hy1⟩ := id hy
  have hov := fun W => overhead_any p a1 a2 c1 c2 (.slice a3 p.payload.length c3) W l1 l2
  have b0 := Blk.new w (p.cs (.slice a1 p.dst.length c1) (.slice a2 p.src.length c2) (.slice a3 p.payload.length c3)) 30
  have g0 := World.grownBy_alloc w (.cells (p.cs (.slice a1 p.dst.length c1) (.slice a2 p.src.length c2) (.slice a3 p.payload.length c3)) 30) none
  rcases encE_cases p with ⟨h1, h2⟩ | ⟨h1, h2, h3, h4, h5, h6⟩ | ⟨h1, h2, -⟩
  · have hb : ((ovF p).2 != 0) = true := by simpa using h2
    have F : Hid (∀ W, w.grownBy W none → EncPost w p (.returned (.tuple #[nilV, .int .i64 (ovF p).2])) W) := fun W g => ⟨.inl ⟨he, by rw [h1]⟩, g⟩
    clear h1 h2 he hd1 hs1 hy1
    go_enter Try.func5, Try.ntmps5
    go_wp2_with fail
    refine (hov _).mono ?_
    rintro e W1 ⟨rfl, g1⟩
    generalize ovF p = r at *
    go_wp2_with fail
    go_ret2
    exact unhide F _ (g0.trans g1)
  · have F : Hid (∀ W, w.grownBy W none → EncPost w p (.returned (.tuple #[nilV, .int .i64 54])) W) := fun W g => ⟨.inl ⟨he, by rw [h2]⟩, g⟩
    have hil := fun W => isLong_any p.space W
    unfold badK at h4; unfold badF at h5; unfold badN MAXP at h6
    have hle := fun W => length_any p (.slice a1 p.dst.length c1) (.slice a2 p.src.length c2) a3 c3 W (by omega) l3
    rw [h1, h3] at hov
    clear h1 h2 h3 he hd1 hs1 hy1
    by_cases n1 : p.number < 0
    · clear h6 h5 h4
      go_enter Try.func5, Try.ntmps5
      go_wp2_with fail
      refine (hov _).mono ?_
      rintro e W1 ⟨rfl, g1⟩
      have x3 := (b0.grown g1).cell 3 (.int .i64 p.number) rfl
      go_wp2_with fail
      go_ret2
      exact unhide F _ (g0.trans g1)
    · by_cases n2 : 4611686018427387903 < p.number
      · clear h6 h5 h4
        go_enter Try.func5, Try.ntmps5
        go_wp2_with fail
        refine (hov _).mono ?_
        rintro e W1 ⟨rfl, g1⟩
        have x3 := (b0.grown g1).cell 3 (.int .i64 p.number) rfl
        go_wp2_with fail
        go_ret2
        exact unhide F _ (g0.trans g1)
      · have n3 : p.space ≠ 2 ∧ 16383 < p.width + (p.payload.length : Int) := by omega
        have il : isLF p.space = true := decide_eq_true (by omega)
        have n4 := n3.2
        rw [il] at hil
        clear h6 h5 h4 n3
        go_enter Try.func5, Try.ntmps5
        go_wp2_with fail
        refine (hov _).mono ?_
        rintro e W1 ⟨rfl, g1⟩
        have bW := b0.grown g1
        have x0 := bW.cell 0 (.int .i64 p.space) rfl
        have x1 := bW.cell 1 (.slice a1 p.dst.length c1) rfl
        have x2 := bW.cell 2 (.slice a2 p.src.length c2) rfl
        have x3 := bW.cell 3 (.int .i64 p.number) rfl
        have x4 := bW.cell 4 (.int .i64 p.width) rfl
        have x5 := bW.cell 5 (.slice a3 p.payload.length c3) rfl
        go_wp2_with fail
        refine (hil _).mono ?_
        rintro e W2 ⟨rfl, hw2⟩
        subst hw2
        go_wp2_with fail
        refine (hle _).mono ?_
        rintro e W3 ⟨rfl, g3⟩
        go_wp2_with fail
        go_ret2
        exact unhide F _ ((g0.trans g1).trans g3)
  · exact absurd h2 he

end Go.Proofs.Ytnglgedcpmbbjaa
