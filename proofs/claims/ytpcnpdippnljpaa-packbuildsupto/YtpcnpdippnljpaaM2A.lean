/- K3, K1, K2, K4, K5, K6, K7, K8, K9, KG, one text. -/
import Derived.Test.YtpcnpdippnljpaaKX5
import Derived.Test.YtpcnpdippnljpaaKZ
import Derived.Laws.IdiomCopy
import Derived.Laws.CopyRow
import Derived.Lib.SlBytesConst
import Derived.Laws.IdiomStrings
namespace Go.Proofs.Ytpcnpdippnljpaa
open Go.RowKit
set_option maxRecDepth 100000
set_option linter.unusedVariables false
set_option maxHeartbeats 2000000

theorem cell_grown {w W : World} {a : Addr} {v : Value} (h : w.cell? a = some v) (g : w.grownBy W none) : W.cell? a = some v := g.cell h (by simp)


theorem bne_no {x y : Int} (h : x = y) : (x != y) = false := by rw [h]; simp
theorem bne_yes {x y : Int} (h : ¬ x = y) : (x != y) = true := by simpa using h

theorem ext_bytes {A B : List Int} (hl : A.length = B.length) (h : ∀ i, i < A.length → A.getD i 0 = B.getD i 0) : A = B := by
  apply List.ext_getElem hl
  intro i h1 h2
  have := h i h1
  simpa [List.getD, h1, h2] using this

theorem same_len (a a' : Option Addr) (n n' c c' : Nat) (A B : List Int) (w : World) (hn : A.length = n) (hn' : B.length = n') (hne : ¬ n = n') :
    Calls Try.prog 11 #[.slice a n c, .slice a' n' c'] w fun e w' => e = .returned (.bool (decide (A = B))) ∧ w.grownBy w' none := by
  have e : decide (A = B) = false := decide_eq_false (fun h => hne (by rw [← hn, ← hn', h]))
  rw [e]
  have t1 : ¬ (n : Int) = (n' : Int) := by omega
  have t2 : ((n : Int) != (n' : Int)) = true := by simp; omega
  have t3 : ¬ n = n' := hne
  clear e hn hn' hne
  go_enter Try.func11, Try.ntmps11
  go_wp2
  go_ret
  exact ⟨rfl, World.grownBy.refl w none⟩

theorem same_any (a a' : Option Addr) (n c c' : Nat) (A B : List Int) (w : World) (hn : A.length = n) (hn' : B.length = n) (h1 : Rd w a A) (h2 : Rd w a' B) (hc : n ≤ c ∧ c ≤ 9223372036854775807) (hc' : n ≤ c' ∧ c' ≤ 9223372036854775807) :
    Calls Try.prog 11 #[.slice a n c, .slice a' n c'] w fun e w' => e = .returned (.bool (decide (A = B))) ∧ w.grownBy w' none := by
  have H1 := hide h1.2; have H2 := hide h2.2; have HN := hide hn; have HN' := hide hn'
  clear h1 h2 hn hn'
  go_enter Try.func11, Try.ntmps11
  go_wp2
  go_loopw [5] (fun i wr => ∃ k : Nat, k ≤ n ∧ i = .int .i64 k ∧ (∀ j, j < k → A.getD j 0 = B.getD j 0) ∧ w.grownBy wr none) (fun i _ => n - (intOf i).toNat)
  case atStart => exact ⟨0, Nat.zero_le _, rfl, fun j hj => by omega, World.grownBy.refl w none⟩
  case round =>
    obtain ⟨k, hk, rfl, heq, gw⟩ := hrel
    by_cases hlt : k < n
    · have hkA : k < A.length := by rw [unhide HN]; exact hlt
      have hkB : k < B.length := by rw [unhide HN']; exact hlt
      obtain ⟨b, off, rfl, hx⟩ := unhide H1 (fun e => by rw [e] at hkA; simp at hkA)
      obtain ⟨b', off', rfl, hx'⟩ := unhide H2 (fun e => by rw [e] at hkB; simp at hkB)
      have x0 := cell_grown (hx k hkA) gw
      have y0 := cell_grown (hx' k hkB) gw
      have HG := hide gw; have HLT := hide hlt
      have ST : Hid (A.getD k 0 = B.getD k 0 → ∀ j, j < k + 1 → A.getD j 0 = B.getD j 0) := fun e j hj => by
        by_cases c : j < k
        · exact heq j c
        · obtain rfl : j = k := by omega
          exact e
      have NO : Hid (¬ A.getD k 0 = B.getD k 0 → decide (A = B) = false) := fun e => decide_eq_false (fun h => e (by rw [h]))
      have hkn : (k : Int) < (n : Int) := by omega
      have hkn2 : decide ((k : Int) < (n : Int)) = true := decide_eq_true hkn
      have hkn3 : decide (k < n) = true := decide_eq_true hlt
      clear hx hx' hkA hkB heq gw hk
      by_cases e1 : A.getD k 0 = B.getD k 0
      · have t1 : (A.getD k 0 != B.getD k 0) = false := bne_no e1
        have F := hide (unhide ST e1)
        clear ST NO e1
        generalize A.getD k 0 = p1 at *
        generalize B.getD k 0 = q1 at *
        go_wp2
        go_quiet (fail)
        go_wp2
        exact ⟨⟨k + 1, unhide HLT, by go_num, unhide F, ⟨(unhide HG).os, (unhide HG).tape, (unhide HG).output, (unhide HG).size, (unhide HG).block⟩⟩, by simp [intOf]; have := unhide HLT; omega⟩
      · have t1 : (A.getD k 0 != B.getD k 0) = true := bne_yes e1
        have F := hide (unhide NO e1)
        clear ST NO e1
        generalize A.getD k 0 = p1 at *
        generalize B.getD k 0 = q1 at *
        go_wp2
        go_quiet (fail)
        go_wp2
        go_ret
        exact ⟨by rw [unhide F]; rfl, ⟨(unhide HG).os, (unhide HG).tape, (unhide HG).output, (unhide HG).size, (unhide HG).block⟩⟩
    · obtain rfl : k = n := by omega
      have hno : ¬ (k : Int) < (k : Int) := by omega
      have E := hide (decide_eq_true (ext_bytes ((unhide HN).trans (unhide HN').symm) (fun i hi => heq i (by have := unhide HN; omega))))
      clear heq
      go_wp2
      go_ret
      exact ⟨by rw [unhide E]; rfl, gw⟩

end Go.Proofs.Ytpcnpdippnljpaa

namespace Go.Proofs.Ytpcnpdippnljpaa
open Go.RowKit
set_option linter.unusedVariables false
set_option maxRecDepth 100000
set_option maxHeartbeats 1000000

theorem bytesP_len (p : Pk) (h : Good p) : ((bytesP p).length : Int) = overP p + p.payload.length := by
  have hw := h.w
  unfold bytesP partsP cutP overP
  rcases h.sp with e | e | e
  all_goals
    simp [e, dig_length, layF_length]
    omega
theorem bytesP_lt (p : Pk) (h : Good p) : (bytesP p).length ≤ p.payload.length + 60 := by
  have e := bytesP_len p h
  have h1 := h.w; have h2 := h.d; have h3 := h.s
  have : overP p ≤ 60 := by unfold overP; (repeat' split) <;> omega
  omega

theorem Try.size5 : (Try.prog.info? 5).map (·.size) = some 1 := by kernel_rfl
theorem mk_bytesN (n : Nat) (h : n ≤ 281474976710656) (W : World) : (Instr.makeSlice 27 (.int .i64 (n : Int)) (.int .i64 (n : Int))).run Try.prog W = .ok (.slice (some ⟨W.heap.size, 0, none⟩) n n) (W.alloc (bts (List.replicate n 0))) := by
  obtain ⟨i, hi, hz, hs, hb⟩ := info_parts Try.info5
  have := run_make (P := Try.prog) W 27 5 i (.int .u8 0) Try.underlying27 hi hz .i64 .i64 n n (by omega) (by omega) (by rw [hb]; omega) (by omega)
  rw [this, hs]
  congr 3
  simp only [Int.toNat_natCast, Nat.mul_one]
  apply Array.toList_inj.1
  have e : (Value.int IntKind.u8 0).cells = #[Value.int .u8 0] := rfl
  rw [e, toList_madeCells_one]
  simp
theorem wpList_mkN {ops : Array Oper} {rest : List Oper} {o : Oper} {a : Act} {Q : Exit → Act → World → Prop} (n : Nat) (h : n ≤ 281474976710656) (w : World) (hg : o.guard = none) (l c : Operand) (hop : o.op = Op.makeSlice 27 l c)
    (hl : a.eval l = .int .i64 (n : Int)) (hc : a.eval c = .int .i64 (n : Int))
    (hK : wpList Try.prog ops Q rest (a.put o.dst (.slice (some ⟨w.heap.size, 0, none⟩) n n)) (w.alloc (bts (List.replicate n 0)))) : wpList Try.prog ops Q (o :: rest) a w :=
  wpList_plain hg fun K hK' => by
    unfold Oper.wp execOp
    simp only [hop, Sem.run_bind, Sem.run_pure, Result.andThen_ok, hl, hc, mk_bytesN n h w]
    exact hK' _ _ hK
theorem wpList_copy_run {P : Program} (w : World) {ops : Array Oper} {rest : List Oper} {o : Oper} {a : Act} {Q : Exit → Act → World → Prop} (hgd : o.guard = none) (d s : Operand) (t t' : TypeId)
    (ho : o.op = .call { callee := .builtin .copy, args := #[d, s], argTypes := #[t, t'] }) (v u : Value) (hd : a.eval d = v) (hs : a.eval s = u) {v' : Value} {w' : World}
    (hr : (Builtin.copy_ #[t, t'] o.type #[v, u]).run P w = .ok v' w') (h : wpList P ops Q rest (a.put o.dst v') w') : wpList P ops Q (o :: rest) a w :=
  wpList_plain hgd fun K hK => by
    unfold Oper.wp execOp
    simp only [ho, resolve, invoke, builtin, Sem.run_bind, Sem.run_pure, Result.andThen_ok, List.map_toArray, List.map_cons, List.map_nil, hd, hs, hr]
    exact hK _ _ h

theorem grown_setRow (w : World) (g : Nat) (cs : Array Value) : w.grownBy (w.setRow g cs) (some g) :=
  ⟨rfl, rfl, rfl, by simp, fun k _ hk => setRow_other w g k cs (fun h => hk (by rw [h]))⟩

/-- copy of a part behind what was written. -/
theorem copy_part (w : World) (gb : Nat) (D l : List Int) (z : Nat) (hg : w.heap[gb]? = some (bts (D ++ List.replicate z 0))) (a : Option Addr) (c dc : Nat) (hr : Rd w a l) (hl : l.length ≤ z) (dp : Option Addr) (hdp : 0 < l.length → dp = some ⟨gb, D.length, none⟩) :
    ∃ w', (∀ ty, (Builtin.copy_ #[27, 27] ty #[.slice dp z dc, .slice a l.length c]).run Try.prog w = .ok (.int .i64 l.length) w') ∧ w'.heap[gb]? = some (bts (D ++ l ++ List.replicate (z - l.length) 0)) ∧ w.grownBy w' (some gb) := by
  by_cases h0 : l = []
  · subst h0
    refine ⟨w, fun ty => ?_, by simpa using hg, World.grownBy.refl w _⟩
    exact run_copy_none (P := Try.prog) w 27 27 ty 5 dp a z dc 0 c Try.underlying27 Try.size5 (by simp)
  · have hpos : 0 < l.length := List.length_pos_iff.2 h0
    obtain ⟨b, off, rfl, hc⟩ := hr.2 h0
    rw [hdp hpos]
    have hg' : w.heap[gb]? = some (.cells ((D ++ List.replicate z 0).map (Value.int .u8)).toArray 5 (0, 0)) := hg
    have key := fun ty => run_copy_row (P := Try.prog) w 27 27 ty 5 gb D.length z dc ⟨b, off, none⟩ l.length c ((D ++ List.replicate z 0).map (Value.int .u8)).toArray 5 (l.map (Value.int .u8)) Try.underlying27 Try.size5 hg' (by rw [List.length_map]; exact (Nat.min_eq_left hl).symm)
      (fun j v hv => by
        have hj : j < l.length := by
          by_cases c : j < l.length
          · exact c
          · simp [c] at hv
        have := hc j hj
        simp [hj] at hv
        have hadd : (⟨b, off, none⟩ : Addr).add j = ⟨b, off + j, none⟩ := by simp [Addr.add]
        rw [hadd, this, ← hv]
        simp [List.getD, hj]) (by simp; omega) (fun v hv => by simp at hv; obtain ⟨x, -, rfl⟩ := hv; rfl)
    have e : ((((D ++ List.replicate z 0).map (Value.int .u8)).toArray.toList.take D.length ++ l.map (Value.int .u8) ++ ((D ++ List.replicate z 0).map (Value.int .u8)).toArray.toList.drop (D.length + (l.map (Value.int .u8)).length)).toArray) = ((D ++ l ++ List.replicate (z - l.length) 0).map (Value.int .u8)).toArray := by
      congr 1
      simp only [List.map_append, List.map_replicate, List.length_map]
      have e1 : (List.map (Value.int .u8) D ++ List.replicate z (Value.int .u8 0)).take D.length = D.map (Value.int .u8) := by
        have := List.take_left (l₁ := D.map (Value.int .u8)) (l₂ := List.replicate z (Value.int .u8 0))
        rwa [List.length_map] at this
      have e2 : (List.map (Value.int .u8) D ++ List.replicate z (Value.int .u8 0)).drop (D.length + l.length) = List.replicate (z - l.length) (Value.int .u8 0) := by
        rw [List.drop_append]; simp
      rw [e1, e2]
    simp only [e] at key
    refine ⟨w.setRow gb ((D ++ l ++ List.replicate (z - l.length) 0).map (Value.int .u8)).toArray, fun ty => (key ty).trans ?_, setRow_heap w gb _ _ 5 _ hg', grown_setRow w gb _⟩
    simp [goInt]

theorem encE_cases (p : Pk) : (encE p = (ovF p).2 ∧ (ovF p).2 ≠ 0) ∨ ((ovF p).2 = 0 ∧ encE p = 54 ∧ (ovF p).1 = overP p ∧ ¬ badK p ∧ ¬ badF p ∧ badN p) ∨ ((ovF p).2 = 0 ∧ encE p = 0 ∧ (ovF p).1 = overP p ∧ Good p) := by
  unfold encE ovF
  by_cases hK : badK p
  · left; rw [if_pos hK, if_pos hK]; simp
  · rw [if_neg hK, if_neg hK]
    by_cases hF : badF p
    · left; rw [if_pos hF, if_pos hF]; simp
    · rw [if_neg hF, if_neg hF]
      right
      by_cases hN : badN p
      · left; rw [if_pos hN]; exact ⟨rfl, rfl, rfl, hK, hF, hN⟩
      · right; rw [if_neg hN]
        refine ⟨rfl, rfl, rfl, ?_⟩
        unfold badK at hK; unfold badF at hF; unfold badN at hN
        exact ⟨by omega, by omega, by omega, fun e => List.length_eq_zero_iff.1 (by omega), by omega, by omega, fun e => by omega⟩

/-- What Encode leaves. -/
def EncPost (w : World) (p : Pk) (e : Ending) (w' : World) : Prop :=
  ((encE p ≠ 0 ∧ e = .returned (.tuple #[nilV, .int .i64 (encE p)])) ∨ (encE p = 0 ∧ Good p ∧ ∃ g, w.heap.size ≤ g ∧ e = .returned (.tuple #[.slice (some ⟨g, 0, none⟩) (bytesP p).length (bytesP p).length, .int .i64 0]) ∧ w'.heap[g]? = some (bts (bytesP p)))) ∧ w.grownBy w' none

theorem encode_bad (p : Pk) (d s y : Value) (w : World) (hd : InB w d p.dst) (hs : InB w s p.src) (hy : InB w y p.payload) (l1 : p.dst.length ≤ 140737488355328) (l2 : p.src.length ≤ 140737488355328) (l3 : p.payload.length ≤ 140737488355328) (he : encE p ≠ 0) :
    Calls Try.prog 23 #[p.val d s y] w (EncPost w p) := by
  obtain ⟨a1, c1, rfl, hd1⟩ := id hd
  obtain ⟨a2, c2, rfl, hs1⟩ := id hs
  obtain ⟨a3, c3, rfl, hy1⟩ := id hy
  have hov := fun W => overhead_any p a1 a2 c1 c2 (.slice a3 p.payload.length c3) W l1 l2
  have b0 := Blk.new w (p.cs (.slice a1 p.dst.length c1) (.slice a2 p.src.length c2) (.slice a3 p.payload.length c3)) 29
  have g0 := World.grownBy_alloc w (.cells (p.cs (.slice a1 p.dst.length c1) (.slice a2 p.src.length c2) (.slice a3 p.payload.length c3)) 29) none
  rcases encE_cases p with ⟨h1, h2⟩ | ⟨h1, h2, h3, h4, h5, h6⟩ | ⟨h1, h2, -⟩
  · have hb : ((ovF p).2 != 0) = true := by simpa using h2
    have F : Hid (∀ W, w.grownBy W none → EncPost w p (.returned (.tuple #[nilV, .int .i64 (ovF p).2])) W) := fun W g => ⟨.inl ⟨he, by rw [h1]⟩, g⟩
    clear h1 h2 he hd1 hs1 hy1
    go_enter Try.func23, Try.ntmps23
    go_wp2_with fail
    refine (hov _).mono ?_
    rintro e W1 ⟨rfl, g1⟩
    generalize ovF p = r at *
    go_wp2_with fail
    go_ret2
    exact unhide F _ (g0.trans g1)
  · have F : Hid (∀ W, w.grownBy W none → EncPost w p (.returned (.tuple #[nilV, .int .i64 54])) W) := fun W g => ⟨.inl ⟨he, by rw [h2]⟩, g⟩
    have hil := fun W => isLong_any p.space W
    unfold badK at h4; unfold badF at h5; unfold badN MAXP at h6
    have hle := fun W => length_any p (.slice a1 p.dst.length c1) (.slice a2 p.src.length c2) a3 c3 W (by omega) l3
    rw [h1, h3] at hov
    clear h1 h2 h3 he hd1 hs1 hy1
    by_cases n1 : p.number < 0
    · clear h6 h5 h4
      go_enter Try.func23, Try.ntmps23
      go_wp2_with fail
      refine (hov _).mono ?_
      rintro e W1 ⟨rfl, g1⟩
      have x3 := (b0.grown g1).cell 3 (.int .i64 p.number) rfl
      go_wp2_with fail
      go_ret2
      exact unhide F _ (g0.trans g1)
    · by_cases n2 : 4611686018427387903 < p.number
      · clear h6 h5 h4
        go_enter Try.func23, Try.ntmps23
        go_wp2_with fail
        refine (hov _).mono ?_
        rintro e W1 ⟨rfl, g1⟩
        have x3 := (b0.grown g1).cell 3 (.int .i64 p.number) rfl
        go_wp2_with fail
        go_ret2
        exact unhide F _ (g0.trans g1)
      · have n3 : p.space ≠ 2 ∧ 16383 < p.width + (p.payload.length : Int) := by omega
        have il : isLF p.space = true := decide_eq_true (by omega)
        have n4 := n3.2
        rw [il] at hil
        clear h6 h5 h4 n3
        go_enter Try.func23, Try.ntmps23
        go_wp2_with fail
        refine (hov _).mono ?_
        rintro e W1 ⟨rfl, g1⟩
        have bW := b0.grown g1
        have x0 := bW.cell 0 (.int .i64 p.space) rfl
        have x1 := bW.cell 1 (.slice a1 p.dst.length c1) rfl
        have x2 := bW.cell 2 (.slice a2 p.src.length c2) rfl
        have x3 := bW.cell 3 (.int .i64 p.number) rfl
        have x4 := bW.cell 4 (.int .i64 p.width) rfl
        have x5 := bW.cell 5 (.slice a3 p.payload.length c3) rfl
        go_wp2_with fail
        refine (hil _).mono ?_
        rintro e W2 ⟨rfl, hw2⟩
        subst hw2
        go_wp2_with fail
        refine (hle _).mono ?_
        rintro e W3 ⟨rfl, g3⟩
        go_wp2_with fail
        go_ret2
        exact unhide F _ ((g0.trans g1).trans g3)
  · exact absurd h2 he

end Go.Proofs.Ytpcnpdippnljpaa

namespace Go.Proofs.Ytpcnpdippnljpaa
open Go.RowKit
set_option linter.unusedVariables false
set_option maxRecDepth 100000
set_option maxHeartbeats 1000000

theorem flat_take (L : List (List Int)) (k : Nat) (l : List Int) (h : L[k]? = some l) : (L.take (k + 1)).flatten = (L.take k).flatten ++ l := by
  have hk : k < L.length := by
    by_cases c : k < L.length
    · exact c
    · simp [c] at h
  rw [List.take_add_one, h]
  simp
theorem flat_le (L : List (List Int)) (k : Nat) : (L.take k).flatten.length ≤ L.flatten.length := by
  have := congrArg List.length (congrArg List.flatten (List.take_append_drop k L))
  rw [List.flatten_append, List.length_append] at this
  omega

theorem wpList_mkR {P : Program} {ops : Array Oper} {rest : List Oper} {o : Oper} {a : Act} {Q : Exit → Act → World → Prop} (w : World) (hg : o.guard = none) (l c : Operand) (T : TypeId) (hop : o.op = Op.makeSlice T l c) (v u : Value)
    (hl : a.eval l = v) (hc : a.eval c = u) {v' : Value} {w' : World} (hr : (Instr.makeSlice T v u).run P w = .ok v' w')
    (hK : wpList P ops Q rest (a.put o.dst v') w') : wpList P ops Q (o :: rest) a w :=
  wpList_plain hg fun K hK' => by
    unfold Oper.wp execOp
    simp only [hop, Sem.run_bind, Sem.run_pure, Result.andThen_ok, hl, hc, hr]
    exact hK' _ _ hK

theorem encode_good (p : Pk) (h : Good p) (d s y : Value) (w : World) (hd : InB w d p.dst) (hs : InB w s p.src) (hy : InB w y p.payload) (l3 : p.payload.length ≤ 140737488355328) (he : encE p = 0) (ho : ovF p = (overP p, 0)) :
    Calls Try.prog 23 #[p.val d s y] w (EncPost w p) := by
  obtain ⟨a1, c1, rfl, hd1⟩ := id hd
  obtain ⟨a2, c2, rfl, hs1⟩ := id hs
  obtain ⟨a3, c3, rfl, hy1⟩ := id hy
  have hov := fun W => overhead_any p a1 a2 c1 c2 (.slice a3 p.payload.length c3) W (by have := h.d; omega) (by have := h.s; omega)
  rw [ho] at hov
  have hil := fun W => isLong_any p.space W
  have hle := fun W => length_any p (.slice a1 p.dst.length c1) (.slice a2 p.src.length c2) a3 c3 W h.w l3
  have b0 := Blk.new w (p.cs (.slice a1 p.dst.length c1) (.slice a2 p.src.length c2) (.slice a3 p.payload.length c3)) 29
  have g0 := World.grownBy_alloc w (.cells (p.cs (.slice a1 p.dst.length c1) (.slice a2 p.src.length c2) (.slice a3 p.payload.length c3)) 29) none
  have n1 : ¬ p.number < 0 := by have := h.n.1; omega
  have n2 : ¬ 4611686018427387903 < p.number := by have := h.n.2; unfold MAXP at this; omega
  have hN := bytesP_len p h
  have hN2 := bytesP_lt p h
  have F : Hid (∀ W g, w.heap.size ≤ g → W.heap[g]? = some (bts (bytesP p)) → w.grownBy W none → EncPost w p (.returned (.tuple #[.slice (some ⟨g, 0, none⟩) (bytesP p).length (bytesP p).length, .int .i64 0])) W) := fun W g h1 h2 h3 => ⟨.inr ⟨he, h, g, h1, rfl, h2⟩, h3⟩
  have hparts : ∀ gb W, gb < W.heap.size → InX gb W (.slice a1 p.dst.length c1) p.dst → InX gb W (.slice a2 p.src.length c2) p.src → InX gb W (.slice a3 p.payload.length c3) p.payload → Calls Try.prog 38 #[p.val (.slice a1 p.dst.length c1) (.slice a2 p.src.length c2) (.slice a3 p.payload.length c3)] W (PartsPost gb (partsP p) W) := fun gb W q0 q1 q2 q3 => by
    rcases h.sp with e | e | e
    · exact parts_long p h (.inl e) gb _ _ _ W q0 q1 q2 q3
    · exact parts_long p h (.inr e) gb _ _ _ W q0 q1 q2 q3
    · exact parts_app p h e gb _ _ _ W q0 q1 q2 q3
  have hflat : (partsP p).flatten = bytesP p := rfl
  have hwl : IntKind.i64.wrap (overP p + (p.payload.length : Int)) = overP p + (p.payload.length : Int) := by rw [← hN, IntKind.wrap_i64]; omega
  have hmk : ∀ W : World, (Instr.makeSlice 27 (.int .i64 (overP p + (p.payload.length : Int))) (.int .i64 (overP p + (p.payload.length : Int)))).run Try.prog W = .ok (.slice (some ⟨W.heap.size, 0, none⟩) (bytesP p).length (bytesP p).length) (W.alloc (bts (List.replicate (bytesP p).length 0))) := fun W => by
    rw [← hN]; exact mk_bytesN _ (by omega) W
  have HP := hide hparts
  have hll : isLF p.space = true → ¬ 16383 < p.width + (p.payload.length : Int) := fun e => by
    have := of_decide_eq_true e
    have := h.y (by rcases this with e | e <;> rw [e] <;> decide)
    omega
  have HH := hide h
  clear he ho hd1 hs1 hy1 hparts
  go_enter Try.func23, Try.ntmps23
  go_wp2_with fail
  refine (hov _).mono ?_
  rintro e W1 ⟨rfl, g1⟩
  have bW := b0.grown g1
  have gA := g0.trans g1
  have x0 := bW.cell 0 (.int .i64 p.space) rfl
  have x1 := bW.cell 1 (.slice a1 p.dst.length c1) rfl
  have x2 := bW.cell 2 (.slice a2 p.src.length c2) rfl
  have x3 := bW.cell 3 (.int .i64 p.number) rfl
  have x4 := bW.cell 4 (.int .i64 p.width) rfl
  have x5 := bW.cell 5 (.slice a3 p.payload.length c3) rfl
  clear hov b0 g0 g1
  go_wp2_with fail
  refine (hil _).mono ?_
  rintro e W2 ⟨rfl, hw2⟩
  subst hw2
  cases hl : isLF p.space with
  | true =>
    have hnl := hll hl
    go_wp2_with fail
    refine (hle _).mono ?_
    rintro e WX ⟨rfl, gq⟩
    have bX := bW.grown gq
    have gX := gA.trans gq
    have x0 := bX.cell 0 (.int .i64 p.space) rfl
    have x1 := bX.cell 1 (.slice a1 p.dst.length c1) rfl
    have x2 := bX.cell 2 (.slice a2 p.src.length c2) rfl
    have x3 := bX.cell 3 (.int .i64 p.number) rfl
    have x4 := bX.cell 4 (.int .i64 p.width) rfl
    have x5 := bX.cell 5 (.slice a3 p.payload.length c3) rfl
    clear gq gA bW hll
    have bZ := bX.alloc (bts (List.replicate (bytesP p).length 0))
    have z0 := bZ.cell 0 (.int .i64 p.space) rfl
    have z1 := bZ.cell 1 (.slice a1 p.dst.length c1) rfl
    have z2 := bZ.cell 2 (.slice a2 p.src.length c2) rfl
    have z3 := bZ.cell 3 (.int .i64 p.number) rfl
    have z4 := bZ.cell 4 (.int .i64 p.width) rfl
    have z5 := bZ.cell 5 (.slice a3 p.payload.length c3) rfl
    go_wp2_with (at_make; refine wpList_mkR _ rfl _ _ 27 rfl _ _ rfl rfl (hmk _) ?_)
    have hgb : w.heap.size < WX.heap.size := bX.lt
    have gZ := World.grownBy_alloc WX (bts (List.replicate (bytesP p).length 0)) none
    have pp := unhide HP WX.heap.size (WX.alloc (bts (List.replicate (bytesP p).length 0))) (by rw [alloc_size]; omega) ((InX.other hd (Nat.le_of_lt hgb)).grown (gX.trans gZ)) ((InX.other hs (Nat.le_of_lt hgb)).grown (gX.trans gZ)) ((InX.other hy (Nat.le_of_lt hgb)).grown (gX.trans gZ))
    refine pp.mono ?_
    rintro e WY ⟨gp, vs, rfl, hgp, hne, hlen, hrows, gY⟩
    have hB : WY.heap[WX.heap.size]? = some (bts (List.replicate (bytesP p).length 0)) := (gY.block _ (by rw [alloc_size]; omega) (by simp)).trans (heap_alloc_new WX _)
    have hYs : WX.heap.size < WY.heap.size := by have := gY.size; rw [alloc_size] at this; omega
    have gW := (gX.trans gZ).trans gY
    have hvl : ¬ (9223372036854775807 : Int) < (vs.length : Int) := by
      rw [hlen]; unfold partsP; split <;> simp
    clear pp HP hd hs hy gZ gX gY bZ z0 z1 z2 z3 z4 z5 x0 x1 x2 x3 x4 x5 bX hmk hwl hN hle hil
    generalize partsP p = L at *
    generalize hn : (bytesP p).length = n at *
    have hLn : L.flatten.length = n := by rw [hflat]; exact hn
    generalize WX.heap.size = gb at *
    have HF := hide F; have HFl := hide hflat; have HR := hide hrows; have HG := hide gW; have HLn := hide hLn
    clear F hflat hrows gW hn hLn
    go_wp2_with fail
    go_loopw [7, 45] (fun at_ i wr => ∃ (k A : Nat), k ≤ L.length ∧ i = .int .i64 k ∧ A = (L.take k).flatten.length ∧ at_ = .int .i64 A ∧ wr.heap[gb]? = some (bts ((L.take k).flatten ++ List.replicate (n - A) 0)) ∧ WY.grownBy wr (some gb)) (fun _ i _ => L.length - (intOf i).toNat)
    case atStart => exact ⟨0, 0, Nat.zero_le _, rfl, by simp, rfl, by simpa using hB, World.grownBy.refl WY _⟩
    case round =>
      obtain ⟨k, A, hk, rfl, hA, rfl, hw, gw⟩ := hrel
      have hAn : A ≤ n := by rw [hA, ← unhide HLn]; exact flat_le L k
      by_cases hlt : k < L.length
      · obtain ⟨l, hl⟩ : ∃ l, L[k]? = some l := ⟨L[k], by simp [hlt]⟩
        obtain ⟨v, hv⟩ : ∃ v, vs[k]? = some v := ⟨vs[k]'(by omega), by simp⟩
        obtain ⟨a, c, rfl, hr, q1, q2, q3⟩ := unhide HR k v l hv hl
        have e1 := flat_take L k l hl
        have hA2 : A + l.length = (L.take (k + 1)).flatten.length := by rw [e1, List.length_append, hA]
        have hA3 : A + l.length ≤ n := by rw [hA2, ← unhide HLn]; exact flat_le L (k + 1)
        have hcell : wr.cell? ⟨gp, k, none⟩ = some (.slice a l.length c) := by
          have hlt' : gp < WY.heap.size := by
            by_cases c : gp < WY.heap.size
            · exact c
            · have : WY.heap[gp]? = none := by simp; omega
              rw [this] at hgp; simp at hgp
          have := gw.block gp hlt' (fun e => hne (by cases e; rfl))
          simp only [World.cell?, this, hgp]
          simpa using hv
        have hr' : Rd wr a l := hr.farC q1 gw (fun x e hc => ⟨(q3 x e hc).2.1, (q3 x e hc).1⟩)
        have kl1 : (k : Int) < (L.length : Int) := by omega
        have kl2 : (k : Int) < (vs.length : Int) := by omega
        have kl3 : k < vs.length := by omega
        have i1 : (A : Int) ≤ (n : Int) := by omega
        have hn9 : n ≤ 140737488355388 := by omega
        have wA : IntKind.i64.wrap ((A : Int) + (l.length : Int)) = (A : Int) + (l.length : Int) := by rw [IntKind.wrap_i64]; omega
        have hEnd : Hid (∀ w4, w4.heap[gb]? = some (bts ((L.take k).flatten ++ l ++ List.replicate (n - A - l.length) 0)) → wr.grownBy w4 (some gb) → ∃ (k' A' : Nat), k' ≤ L.length ∧ (.int .i64 ((k : Int) + 1) : Value) = .int .i64 k' ∧ A' = (L.take k').flatten.length ∧ (.int .i64 ((A : Int) + (l.length : Int)) : Value) = .int .i64 A' ∧ w4.heap[gb]? = some (bts ((L.take k').flatten ++ List.replicate (n - A') 0)) ∧ WY.grownBy w4 (some gb)) := fun w4 h1 h2 =>
          ⟨k + 1, A + l.length, hlt, by go_num, hA2, by go_num, by rw [e1, ← Nat.sub_sub]; exact h1, gw.trans h2⟩
        by_cases hAe : A = n
        · obtain ⟨w4, hrun, hw4, gw4⟩ := copy_part wr gb (L.take k).flatten l (n - A) hw a c 0 hr' (by omega) (some ⟨gb, 0, none⟩) (by omega)
          have ez : n - A = 0 := by omega
          rw [ez] at hrun
          clear hr hr' q1 q2 q3 hw hA hA2 hl hv e1 gw HR HF HFl HG ez
          subst hAe
          go_wp2_with fail
          exact ⟨unhide hEnd _ hw4 gw4, by simp [intOf]; omega⟩
        · obtain ⟨w4, hrun, hw4, gw4⟩ := copy_part wr gb (L.take k).flatten l (n - A) hw a c (n - A) hr' (by omega) (some ⟨gb, A, none⟩) (fun _ => by rw [hA])
          have ec : ¬ n = A := fun e => hAe e.symm
          clear hr hr' q1 q2 q3 hw hA hA2 hl hv e1 gw HR HF HFl HG
          go_wp2_with fail
          exact ⟨unhide hEnd _ hw4 gw4, by simp [intOf]; omega⟩
      · obtain rfl : k = L.length := by omega
        have kl2 : ¬ (L.length : Int) < (vs.length : Int) := by omega
        have kl3 : ¬ L.length < vs.length := by omega
        rw [List.take_length] at hA hw
        have eA : n - A = 0 := by rw [hA, unhide HLn]; omega
        rw [eA, unhide HFl] at hw
        have hw' : wr.heap[gb]? = some (bts (bytesP p)) := by simpa using hw
        have E := hide (unhide HF wr gb (Nat.le_of_lt hgb) hw' (grown_over (unhide HG) gw (Nat.le_of_lt hgb)))
        clear hw hw' gw hA HF HFl HG HR
        go_wp2_with fail
        go_ret2
        exact unhide E
  | false =>
    have bX := bW
    have gX := gA
    clear hll gA bW
    obtain ⟨WX, hWX⟩ : ∃ WX, WX = W2 := ⟨_, rfl⟩
    subst hWX
    have bZ := bX.alloc (bts (List.replicate (bytesP p).length 0))
    have z0 := bZ.cell 0 (.int .i64 p.space) rfl
    have z1 := bZ.cell 1 (.slice a1 p.dst.length c1) rfl
    have z2 := bZ.cell 2 (.slice a2 p.src.length c2) rfl
    have z3 := bZ.cell 3 (.int .i64 p.number) rfl
    have z4 := bZ.cell 4 (.int .i64 p.width) rfl
    have z5 := bZ.cell 5 (.slice a3 p.payload.length c3) rfl
    go_wp2_with (at_make; refine wpList_mkR _ rfl _ _ 27 rfl _ _ rfl rfl (hmk _) ?_)
    have hgb : w.heap.size < WX.heap.size := bX.lt
    have gZ := World.grownBy_alloc WX (bts (List.replicate (bytesP p).length 0)) none
    have pp := unhide HP WX.heap.size (WX.alloc (bts (List.replicate (bytesP p).length 0))) (by rw [alloc_size]; omega) ((InX.other hd (Nat.le_of_lt hgb)).grown (gX.trans gZ)) ((InX.other hs (Nat.le_of_lt hgb)).grown (gX.trans gZ)) ((InX.other hy (Nat.le_of_lt hgb)).grown (gX.trans gZ))
    refine pp.mono ?_
    rintro e WY ⟨gp, vs, rfl, hgp, hne, hlen, hrows, gY⟩
    have hB : WY.heap[WX.heap.size]? = some (bts (List.replicate (bytesP p).length 0)) := (gY.block _ (by rw [alloc_size]; omega) (by simp)).trans (heap_alloc_new WX _)
    have hYs : WX.heap.size < WY.heap.size := by have := gY.size; rw [alloc_size] at this; omega
    have gW := (gX.trans gZ).trans gY
    have hvl : ¬ (9223372036854775807 : Int) < (vs.length : Int) := by
      rw [hlen]; unfold partsP; split <;> simp
    clear pp HP hd hs hy gZ gX gY bZ z0 z1 z2 z3 z4 z5 x0 x1 x2 x3 x4 x5 bX hmk hwl hN hle hil
    generalize partsP p = L at *
    generalize hn : (bytesP p).length = n at *
    have hLn : L.flatten.length = n := by rw [hflat]; exact hn
    generalize WX.heap.size = gb at *
    have HF := hide F; have HFl := hide hflat; have HR := hide hrows; have HG := hide gW; have HLn := hide hLn
    clear F hflat hrows gW hn hLn
    go_wp2_with fail
    go_loopw [7, 45] (fun at_ i wr => ∃ (k A : Nat), k ≤ L.length ∧ i = .int .i64 k ∧ A = (L.take k).flatten.length ∧ at_ = .int .i64 A ∧ wr.heap[gb]? = some (bts ((L.take k).flatten ++ List.replicate (n - A) 0)) ∧ WY.grownBy wr (some gb)) (fun _ i _ => L.length - (intOf i).toNat)
    case atStart => exact ⟨0, 0, Nat.zero_le _, rfl, by simp, rfl, by simpa using hB, World.grownBy.refl WY _⟩
    case round =>
      obtain ⟨k, A, hk, rfl, hA, rfl, hw, gw⟩ := hrel
      have hAn : A ≤ n := by rw [hA, ← unhide HLn]; exact flat_le L k
      by_cases hlt : k < L.length
      · obtain ⟨l, hl⟩ : ∃ l, L[k]? = some l := ⟨L[k], by simp [hlt]⟩
        obtain ⟨v, hv⟩ : ∃ v, vs[k]? = some v := ⟨vs[k]'(by omega), by simp⟩
        obtain ⟨a, c, rfl, hr, q1, q2, q3⟩ := unhide HR k v l hv hl
        have e1 := flat_take L k l hl
        have hA2 : A + l.length = (L.take (k + 1)).flatten.length := by rw [e1, List.length_append, hA]
        have hA3 : A + l.length ≤ n := by rw [hA2, ← unhide HLn]; exact flat_le L (k + 1)
        have hcell : wr.cell? ⟨gp, k, none⟩ = some (.slice a l.length c) := by
          have hlt' : gp < WY.heap.size := by
            by_cases c : gp < WY.heap.size
            · exact c
            · have : WY.heap[gp]? = none := by simp; omega
              rw [this] at hgp; simp at hgp
          have := gw.block gp hlt' (fun e => hne (by cases e; rfl))
          simp only [World.cell?, this, hgp]
          simpa using hv
        have hr' : Rd wr a l := hr.farC q1 gw (fun x e hc => ⟨(q3 x e hc).2.1, (q3 x e hc).1⟩)
        have kl1 : (k : Int) < (L.length : Int) := by omega
        have kl2 : (k : Int) < (vs.length : Int) := by omega
        have kl3 : k < vs.length := by omega
        have i1 : (A : Int) ≤ (n : Int) := by omega
        have hn9 : n ≤ 140737488355388 := by omega
        have wA : IntKind.i64.wrap ((A : Int) + (l.length : Int)) = (A : Int) + (l.length : Int) := by rw [IntKind.wrap_i64]; omega
        have hEnd : Hid (∀ w4, w4.heap[gb]? = some (bts ((L.take k).flatten ++ l ++ List.replicate (n - A - l.length) 0)) → wr.grownBy w4 (some gb) → ∃ (k' A' : Nat), k' ≤ L.length ∧ (.int .i64 ((k : Int) + 1) : Value) = .int .i64 k' ∧ A' = (L.take k').flatten.length ∧ (.int .i64 ((A : Int) + (l.length : Int)) : Value) = .int .i64 A' ∧ w4.heap[gb]? = some (bts ((L.take k').flatten ++ List.replicate (n - A') 0)) ∧ WY.grownBy w4 (some gb)) := fun w4 h1 h2 =>
          ⟨k + 1, A + l.length, hlt, by go_num, hA2, by go_num, by rw [e1, ← Nat.sub_sub]; exact h1, gw.trans h2⟩
        by_cases hAe : A = n
        · obtain ⟨w4, hrun, hw4, gw4⟩ := copy_part wr gb (L.take k).flatten l (n - A) hw a c 0 hr' (by omega) (some ⟨gb, 0, none⟩) (by omega)
          have ez : n - A = 0 := by omega
          rw [ez] at hrun
          clear hr hr' q1 q2 q3 hw hA hA2 hl hv e1 gw HR HF HFl HG ez
          subst hAe
          go_wp2_with fail
          exact ⟨unhide hEnd _ hw4 gw4, by simp [intOf]; omega⟩
        · obtain ⟨w4, hrun, hw4, gw4⟩ := copy_part wr gb (L.take k).flatten l (n - A) hw a c (n - A) hr' (by omega) (some ⟨gb, A, none⟩) (fun _ => by rw [hA])
          have ec : ¬ n = A := fun e => hAe e.symm
          clear hr hr' q1 q2 q3 hw hA hA2 hl hv e1 gw HR HF HFl HG
          go_wp2_with fail
          exact ⟨unhide hEnd _ hw4 gw4, by simp [intOf]; omega⟩
      · obtain rfl : k = L.length := by omega
        have kl2 : ¬ (L.length : Int) < (vs.length : Int) := by omega
        have kl3 : ¬ L.length < vs.length := by omega
        rw [List.take_length] at hA hw
        have eA : n - A = 0 := by rw [hA, unhide HLn]; omega
        rw [eA, unhide HFl] at hw
        have hw' : wr.heap[gb]? = some (bts (bytesP p)) := by simpa using hw
        have E := hide (unhide HF wr gb (Nat.le_of_lt hgb) hw' (grown_over (unhide HG) gw (Nat.le_of_lt hgb)))
        clear hw hw' gw hA HF HFl HG HR
        go_wp2_with fail
        go_ret2
        exact unhide E

theorem encode_any (p : Pk) (d s y : Value) (w : World) (hd : InB w d p.dst) (hs : InB w s p.src) (hy : InB w y p.payload) (l1 : p.dst.length ≤ 140737488355328) (l2 : p.src.length ≤ 140737488355328) (l3 : p.payload.length ≤ 140737488355328) :
    Calls Try.prog 23 #[p.val d s y] w (EncPost w p) := by
  rcases encE_cases p with ⟨h1, h2⟩ | ⟨h1, h2, -⟩ | ⟨h1, h2, h3, h4⟩
  · exact encode_bad p d s y w hd hs hy l1 l2 l3 (by rw [h1]; exact h2)
  · exact encode_bad p d s y w hd hs hy l1 l2 l3 (by rw [h2]; decide)
  · exact encode_good p h4 d s y w hd hs hy l3 h2 (by rw [← h3, ← h1])

end Go.Proofs.Ytpcnpdippnljpaa

namespace Go.Proofs.Ytpcnpdippnljpaa
open Go.RowKit
set_option linter.unusedVariables false
set_option maxRecDepth 100000
set_option maxHeartbeats 1000000

theorem OwnB.inB {base : Nat} {w : World} {v : Value} {d : List Int} (h : OwnB base w v d) (hb : ∀ x ∈ d, IsB x) : InB w v d := by
  obtain ⟨a, c, rfl⟩ := h.shape
  have hr := h.rd hb
  rcases h.2 with ⟨e1, e2⟩ | ⟨g, cap, cur, e1, e2, e3, e4, e5, e6, e7⟩
  · simp only [Value.slice.injEq] at e1
    obtain ⟨rfl, -, rfl⟩ := e1
    exact ⟨none, 0, rfl, hr, by rw [e2]; exact Nat.le_refl _, Nat.zero_le _, fun x e _ => by cases e⟩
  · simp only [Value.slice.injEq] at e1
    obtain ⟨rfl, -, rfl⟩ := e1
    have hlt : g < w.heap.size := by
      by_cases c : g < w.heap.size
      · exact c
      · have : w.heap[g]? = none := by simp; omega
        rw [this] at e3; simp at e3
    exact ⟨_, _, rfl, hr, e4, e5, fun x e _ => by cases e; exact ⟨hlt, Nat.ne_of_lt hlt, _, _, rfl⟩⟩
theorem InB.bytes {w : World} {v : Value} {l : List Int} (h : InB w v l) : ∀ x ∈ l, IsB x := by
  obtain ⟨a, c, e, hr, -⟩ := h; exact hr.1

theorem sameB (v v' : Value) (A : List Int) (w : World) (h1 : InB w v A) (h2 : InB w v' A) : Calls Try.prog 11 #[v, v'] w fun e w' => e = .returned (.bool true) ∧ w.grownBy w' none := by
  obtain ⟨a, c, rfl, hr, q1, q2, -⟩ := h1
  obtain ⟨a', c', rfl, hr', q1', q2', -⟩ := h2
  unfold maxLen at q2 q2'
  exact (same_any a a' A.length c c' A A w rfl rfl hr hr' ⟨q1, by omega⟩ ⟨q1', by omega⟩).mono fun e w' ⟨he, g⟩ => ⟨by rw [he]; simp, g⟩

/-- The same packet. -/
theorem same05 (p : Pk) (d s y d' s' y' : Value) (w : World) (h1 : InB w d p.dst) (h2 : InB w s p.src) (h3 : InB w y p.payload) (h1' : InB w d' p.dst) (h2' : InB w s' p.src) (h3' : InB w y' p.payload) :
    Calls Try.prog 15 #[p.val d s y, p.val d' s' y'] w fun e w' => e = .returned (.bool true) ∧ w.grownBy w' none := by
  have s1 := fun W (g : w.grownBy W none) => sameB d d' p.dst W (h1.grown g) (h1'.grown g)
  have s2 := fun W (g : w.grownBy W none) => sameB s s' p.src W (h2.grown g) (h2'.grown g)
  have s3 := fun W (g : w.grownBy W none) => sameB y y' p.payload W (h3.grown g) (h3'.grown g)
  obtain ⟨a1, c1, rfl, -⟩ := h1
  obtain ⟨a2, c2, rfl, -⟩ := h2
  obtain ⟨a3, c3, rfl, -⟩ := h3
  obtain ⟨b1, e1, rfl, -⟩ := h1'
  obtain ⟨b2, e2, rfl, -⟩ := h2'
  obtain ⟨b3, e3, rfl, -⟩ := h3'
  obtain ⟨bA, bB, gA⟩ := Blk.two w (p.cs (.slice a1 p.dst.length c1) (.slice a2 p.src.length c2) (.slice a3 p.payload.length c3)) (p.cs (.slice b1 p.dst.length e1) (.slice b2 p.src.length e2) (.slice b3 p.payload.length e3)) 29 29
  go_enter Try.func15, Try.ntmps15
  go_wp2_with fail
  refine (s1 _ gA).mono ?_
  rintro e W1 ⟨rfl, g1⟩
  have x2 := (bA.grown g1).cell 2 _ rfl
  have y2 := (bB.grown g1).cell 2 _ rfl
  go_wp2_with fail
  refine (s2 _ (gA.trans g1)).mono ?_
  rintro e W2 ⟨rfl, g2⟩
  have x5 := ((bA.grown g1).grown g2).cell 5 _ rfl
  have y5 := ((bB.grown g1).grown g2).cell 5 _ rfl
  go_wp2_with fail
  refine (s3 _ ((gA.trans g1).trans g2)).mono ?_
  rintro e W3 ⟨rfl, g3⟩
  have bX := ((bA.grown g1).grown g2).grown g3
  have bY := ((bB.grown g1).grown g2).grown g3
  have z0 := bX.cell 0 _ rfl
  have z3 := bX.cell 3 _ rfl
  have z4 := bX.cell 4 _ rfl
  have w0 := bY.cell 0 _ rfl
  have w3 := bY.cell 3 _ rfl
  have w4 := bY.cell 4 _ rfl
  have G := hide (((gA.trans g1).trans g2).trans g3)
  have t0 : (p.space == p.space) = true := by simp
  have t3 : (p.number == p.number) = true := by simp
  have t4 : (p.width == p.width) = true := by simp
  clear bA bB gA g1 g2 g3 bX bY s1 s2 s3
  go_wp2_with fail
  go_ret
  exact ⟨rfl, unhide G⟩

end Go.Proofs.Ytpcnpdippnljpaa

namespace Go.Proofs.Ytpcnpdippnljpaa
open Go.RowKit
set_option linter.unusedVariables false
set_option maxRecDepth 100000

theorem drop_len {l p R : List Int} {k : Nat} (h : l.drop k = p ++ R) (hp : p ≠ []) : k + p.length + R.length = l.length := by
  have := congrArg List.length h
  rw [List.length_drop, List.length_append] at this
  have : 0 < p.length := List.length_pos_iff.2 hp
  omega
theorem drop_next {l p R : List Int} {k : Nat} (h : l.drop k = p ++ R) : l.drop (k + p.length) = R := by
  rw [← List.drop_drop, h]; simp
theorem drop_le {l p R : List Int} {k : Nat} (h : l.drop k = p ++ R) (hk : k ≤ l.length) : k + p.length ≤ l.length := by
  have := congrArg List.length h
  rw [List.length_drop, List.length_append] at this
  omega

theorem plain_at {l R : List Int} {k n : Nat} {v : Int} (h : l.drop k = dig v n ++ R) (hn : 1 ≤ n ∧ n ≤ 8) (v0 : 0 ≤ v) (v1 : v / 256 ^ n = 0) : rPlain l (k, 0) n = (v, (k + n, 0)) ∧ l.drop (k + n) = R := by
  have hl := drop_len h (fun e => by have := congrArg List.length e; rw [dig_length] at this; simp at this; omega)
  rw [dig_length] at hl
  have hd := drop_next h
  rw [dig_length] at hd
  refine ⟨?_, hd⟩
  unfold rPlain rRead
  rw [if_pos rfl, readF_in l k n hn.2 (by omega)]
  have e : (l.drop k).take n = dig v n := by
    rw [h]
    have := List.take_left (l₁ := dig v n) (l₂ := R)
    rwa [dig_length] at this
  rw [e, joinF_back v n v0 v1]
  simp
  omega
theorem byte_at {l R : List Int} {k : Nat} {x : Int} (h : l.drop k = x :: R) : rPlain l (k, 0) 1 = (x, (k + 1, 0)) ∧ l.drop (k + 1) = R := by
  have hl := drop_len (p := [x]) h (by simp)
  have hd := drop_next (p := [x]) h
  simp only [List.length_cons, List.length_nil] at hl hd
  refine ⟨?_, hd⟩
  unfold rPlain rRead
  rw [if_pos rfl, show (1 : Int) = ((1 : Nat) : Int) from rfl, readF_in l k 1 (by decide) (by omega), h]
  simp [joinF]
theorem pass_at {l : List Int} {k n : Nat} (h : k + n ≤ l.length) : rPass l (k, 0) (n : Int) = (k + n, 0) := by
  unfold rPass
  rw [if_pos rfl, if_pos (by simp only; omega)]
  simp
theorem bytes_at {l d R : List Int} {k : Nat} (h : l.drop k = d ++ R) (hk : k ≤ l.length) : rBytes l (k, 0) (d.length : Int) = (d, (k + d.length, 0)) ∧ l.drop (k + d.length) = R := by
  have hl := drop_le h hk
  refine ⟨?_, drop_next h⟩
  unfold rBytes
  rw [pass_at hl]
  simp only [Nat.add_sub_cancel_left, h]
  rw [List.take_left]
theorem sized_at {l R : List Int} {k n : Nat} {v : Int} (h : l.drop k = layF v n ++ R) (hf : Fits v n) (v0 : 0 ≤ v) (hk : k ≤ l.length) : rSized l (k, 0) = (v, (k + n, 0)) ∧ l.drop (k + n) = R := by
  have hd := drop_next h
  rw [layF_length] at hd
  refine ⟨?_, hd⟩
  have e : l = l.take k ++ layF v n ++ R := by rw [List.append_assoc, ← h, List.take_append_drop]
  have el : (l.take k).length = k := by simp; omega
  have g := get_back (l.take k) R v n hf v0
  rw [← e, el] at g
  unfold rSized rRead
  rw [if_pos rfl, g]
  simp
  omega
theorem id_at {l d R : List Int} {k : Nat} (h : l.drop k = [(d.length : Int)] ++ d ++ R) (hd : d.length ≤ 20) : rId l (k, 0) = (d, (k + 1 + d.length, 0)) ∧ l.drop (k + 1 + d.length) = R := by
  have h' : l.drop k = (d.length : Int) :: (d ++ R) := by simpa using h
  obtain ⟨e1, e2⟩ := byte_at h'
  have hl := drop_len (p := [(d.length : Int)]) (R := d ++ R) (by simpa using h) (by simp)
  simp only [List.length_cons, List.length_nil] at hl
  unfold rId
  rw [e1]
  simp only
  rw [decide_eq_true (show (d.length : Int) ≤ 20 by omega), rMust_yes]
  exact bytes_at e2 (by omega)

theorem num_at {l R : List Int} {k : Nat} {p : Pk} (hg : Good p) (G : Lg) (h : l.drop k = cutP p ++ R) : rNum l G (k, 0) p.space p.width = (wholeV (G.at p.space) (p.number % st p.width) p.width, (k + p.width.toNat, 0)) ∧ l.drop (k + p.width.toNat) = R := by
  obtain ⟨q0, q1, q2⟩ := cut_low p hg
  have hw := hg.w
  unfold cutP at h
  obtain ⟨e1, e2⟩ := plain_at h (by omega) q0 q2
  rw [show ((p.width.toNat : Nat) : Int) = p.width by omega] at e1
  unfold rNum
  rw [e1]
  exact ⟨rfl, e2⟩

theorem first_long (sp w : Int) (hs : sp = 0 ∨ sp = 1) (hw : 1 ≤ w ∧ w ≤ 4) : bitL (191 + 32 * sp + w) = true ∧ spcF (191 + 32 * sp + w) = (sp, true) ∧ widF (191 + 32 * sp + w) = w ∧ 128 ≤ 191 + 32 * sp + w := by
  obtain rfl | rfl | rfl | rfl : w = 1 ∨ w = 2 ∨ w = 3 ∨ w = 4 := by omega
  all_goals rcases hs with rfl | rfl <;> decide
theorem first_short (w : Int) (hw : 1 ≤ w ∧ w ≤ 4) : bitS (63 + w) = true ∧ widF (63 + w) = w ∧ ¬ 128 ≤ 63 + w := by
  obtain rfl | rfl | rfl | rfl : w = 1 ∨ w = 2 ∨ w = 3 ∨ w = 4 := by omega
  all_goals decide

/-- The packet as the receiver finds it. -/
def foundP (p : Pk) (G : Lg) : Pk := { p with number := wholeV (G.at p.space) (p.number % st p.width) p.width }

theorem token_at {l R : List Int} {k : Nat} {sp : Int} (hs : sp = 0 ∨ sp = 1) (h : l.drop k = (if sp = 0 then [0] else []) ++ R) (hk : k ≤ l.length) : sT l (k, 0) sp = (k + (if sp = 0 then 1 else 0), 0) ∧ l.drop (k + (if sp = 0 then 1 else 0)) = R := by
  rcases hs with rfl | rfl
  · rw [if_pos rfl] at h ⊢
    have h' : l.drop k = layF 0 1 ++ R := h
    obtain ⟨e1, e2⟩ := sized_at h' (.inl ⟨rfl, by decide⟩) (by decide) hk
    refine ⟨?_, e2⟩
    unfold sT
    rw [if_pos rfl, e1]
    have := drop_le h hk
    have := pass_at (l := l) (k := k + 1) (n := 0) (by simpa using this)
    simpa using this
  · rw [if_neg (by decide)] at h ⊢
    refine ⟨?_, by simpa using h⟩
    unfold sT
    rw [if_neg (by decide)]
    rfl

theorem long_at {l R : List Int} {k : Nat} {p : Pk} (hg : Good p) (hs : p.space = 0 ∨ p.space = 1) (G : Lg) (idlen : Int) (h : l.drop k = bytesP p ++ R) : packR l G k idlen = (foundP p G, (k + (bytesP p).length, 0)) := by
  have hw := hg.w
  have hy := hg.y (by rcases hs with e | e <;> rw [e] <;> decide)
  obtain ⟨f1, f2, f3, f4⟩ := first_long p.space p.width hs hw
  have e0 : ∀ R, bytesP p ++ R = (191 + 32 * p.space + p.width) :: ([0, 0, 0, 1] ++ ([(p.dst.length : Int)] ++ (p.dst ++ ([(p.src.length : Int)] ++ (p.src ++ ((if p.space = 0 then [0] else []) ++ (layF (p.width + p.payload.length) 2 ++ (cutP p ++ (p.payload ++ R))))))))) := fun R => by
    unfold bytesP partsP
    rw [if_neg (by rcases hs with e | e <;> rw [e] <;> decide)]
    simp
  have hlen := congrArg List.length (e0 [])
  rw [List.append_nil] at hlen
  rw [e0 R] at h
  generalize 191 + 32 * p.space + p.width = x at *
  obtain ⟨a1, d1⟩ := byte_at (R := _) h
  have k1 : k + 1 ≤ l.length := by have := drop_len (p := [x]) (R := _) h (by simp); simp only [List.length_cons, List.length_nil] at this; omega
  have d1' : l.drop (k + 1) = dig 1 4 ++ _ := d1.trans rfl
  obtain ⟨a2, d2⟩ := plain_at d1' (by decide) (by decide) (by decide)
  have k2 := drop_le d1' k1
  rw [dig_length] at k2
  obtain ⟨a3, d3⟩ := id_at (d := p.dst) (d2.trans (List.append_assoc _ _ _).symm) hg.d
  have k3 := drop_le (p := [(p.dst.length : Int)] ++ p.dst) (d2.trans (List.append_assoc _ _ _).symm) k2
  obtain ⟨a4, d4⟩ := id_at (d := p.src) (d3.trans (List.append_assoc _ _ _).symm) hg.s
  have k3' : k + 1 + 4 + 1 + p.dst.length ≤ l.length := by simp at k3; omega
  have k4 := drop_le (p := [(p.src.length : Int)] ++ p.src) (d3.trans (List.append_assoc _ _ _).symm) k3'
  have k4' : k + 1 + 4 + 1 + p.dst.length + 1 + p.src.length ≤ l.length := by simp at k4; omega
  obtain ⟨a5, d5⟩ := token_at hs d4 k4'
  have k5 := drop_le d4 k4'
  have k5' : k + 1 + 4 + 1 + p.dst.length + 1 + p.src.length + (if p.space = 0 then 1 else 0) ≤ l.length := by
    refine Nat.le_trans (Nat.le_of_eq ?_) k5
    split <;> simp
  obtain ⟨a6, d6⟩ := sized_at d5 (.inr (.inl ⟨rfl, hy⟩)) (by omega) k5'
  have k6 := drop_le d5 k5'
  rw [layF_length] at k6
  obtain ⟨a7, d7⟩ := num_at hg G d6
  have k7 := drop_le d6 k6
  have k7' : k + 1 + 4 + 1 + p.dst.length + 1 + p.src.length + (if p.space = 0 then 1 else 0) + 2 + p.width.toNat ≤ l.length := by
    unfold cutP at k7; rw [dig_length] at k7; exact k7
  obtain ⟨a8, d8⟩ := bytes_at d7 k7'
  unfold packR
  rw [a1]
  simp only
  rw [if_pos f4]
  have s1 : sL1 (k + 1, 0) x = (k + 1, 0) := by unfold sL1; rw [f1, rMust_yes]
  have s2 : sL2 l (k + 1, 0) x = (1, (k + 1 + 4, 0)) := by unfold sL2; rw [s1]; exact a2
  have s3 : sL3 l (k + 1, 0) x = (k + 1 + 4, 0) := by unfold sL3; rw [s2]; simp only [decide_true]; rw [rMust_yes]
  have s4 : sL4 l (k + 1, 0) x = (k + 1 + 4, 0) := by unfold sL4; rw [s3, f2, rMust_yes]
  have s5 : sL5 l (k + 1, 0) x = (p.dst, (k + 1 + 4 + 1 + p.dst.length, 0)) := by unfold sL5; rw [s4]; exact a3
  have s6 : sL6 l (k + 1, 0) x = (p.src, (k + 1 + 4 + 1 + p.dst.length + 1 + p.src.length, 0)) := by unfold sL6; rw [s5]; exact a4
  have s7 : sL7 l (k + 1, 0) x = (k + 1 + 4 + 1 + p.dst.length + 1 + p.src.length + (if p.space = 0 then 1 else 0), 0) := by unfold sL7; rw [s6, f2]; exact a5
  have s8 : sL8 l (k + 1, 0) x = (p.width + p.payload.length, (k + 1 + 4 + 1 + p.dst.length + 1 + p.src.length + (if p.space = 0 then 1 else 0) + 2, 0)) := by unfold sL8; rw [s7]; exact a6
  have s9 : sL9 l (k + 1, 0) x = (k + 1 + 4 + 1 + p.dst.length + 1 + p.src.length + (if p.space = 0 then 1 else 0) + 2, 0) := by
    unfold sL9; rw [s8, f3]; simp only; rw [decide_eq_true (by omega), rMust_yes]
  have sa : sLa l G (k + 1, 0) x = rNum l G (sL9 l (k + 1, 0) x) (spcF x).1 (widF x) := rfl
  rw [s9, f2, f3, a7] at sa
  have sb : sLb l G (k + 1, 0) x = rBytes l (sLa l G (k + 1, 0) x).2 (IntKind.u64.wrap ((sL8 l (k + 1, 0) x).1 - widF x)) := rfl
  rw [sa, s8, f3] at sb
  simp only at sb
  rw [show p.width + (p.payload.length : Int) - p.width = (p.payload.length : Int) by omega, show IntKind.u64.wrap (p.payload.length : Int) = (p.payload.length : Int) by rw [IntKind.wrap_u64]; omega, a8] at sb
  unfold longR
  rw [s5, s6, sa, sb, f2, f3]
  simp only [foundP, Prod.mk.injEq, true_and]
  refine ⟨?_, trivial⟩
  rw [hlen]
  have ht : (if p.space = 0 then [(0 : Int)] else []).length = if p.space = 0 then 1 else 0 := by split <;> rfl
  simp only [List.length_cons, List.length_append, List.length_nil, layF_length, ht]
  unfold cutP; rw [dig_length]
  omega

theorem short_at {l : List Int} {k : Nat} {p : Pk} (hg : Good p) (hs : p.space = 2) (G : Lg) (h : l.drop k = bytesP p) : packR l G k p.dst.length = (foundP p G, (k + (bytesP p).length, 0)) := by
  have hw := hg.w
  obtain ⟨f1, f3, f4⟩ := first_short p.width hw
  have e0 : bytesP p = (63 + p.width) :: (p.dst ++ (cutP p ++ (p.payload ++ []))) := by
    unfold bytesP partsP
    rw [if_pos hs]
    simp
  have hlen := congrArg List.length e0
  have hl : k + (bytesP p).length = l.length := by
    have := congrArg List.length h
    rw [List.length_drop] at this
    rw [hlen] at this ⊢
    simp at this ⊢; omega
  rw [e0] at h
  generalize 63 + p.width = x at *
  obtain ⟨a1, d1⟩ := byte_at (R := _) h
  have k1 : k + 1 ≤ l.length := by have := drop_len (p := [x]) (R := _) h (by simp); simp only [List.length_cons, List.length_nil] at this; omega
  obtain ⟨a2, d2⟩ := bytes_at d1 k1
  have k2 := drop_le d1 k1
  obtain ⟨a3, d3⟩ := num_at hg G d2
  rw [hs] at a3
  have k3 := drop_le d2 k2
  have k3' : k + 1 + p.dst.length + p.width.toNat ≤ l.length := by
    unfold cutP at k3; rw [dig_length] at k3; exact k3
  obtain ⟨a4, d4⟩ := bytes_at d3 k3'
  unfold packR
  rw [a1]
  simp only
  rw [if_neg f4]
  have hll : l.length = k + 1 + p.dst.length + p.width.toNat + p.payload.length := by
    rw [← hl, hlen]
    simp only [List.length_cons, List.length_append, List.length_nil]
    unfold cutP; rw [dig_length]
    omega
  have s1 : sS1 (k + 1, 0) x = (k + 1, 0) := by unfold sS1; rw [f1, rMust_yes]
  have s2 : sS2 l (k + 1, 0) x p.dst.length = rBytes l (sS1 (k + 1, 0) x) p.dst.length := rfl
  rw [s1, a2] at s2
  have s3 : sS3 l G (k + 1, 0) x p.dst.length = rNum l G (sS2 l (k + 1, 0) x p.dst.length).2 2 (widF x) := rfl
  rw [s2, f3, a3] at s3
  have s4 : sS4 l G (k + 1, 0) x p.dst.length = rBytes l (sS3 l G (k + 1, 0) x p.dst.length).2 ((l.length : Int) - (sS3 l G (k + 1, 0) x p.dst.length).2.1) := rfl
  rw [s3] at s4
  simp only at s4
  rw [show (l.length : Int) - ((k + 1 + p.dst.length + p.width.toNat : Nat) : Int) = (p.payload.length : Int) by omega, a4] at s4
  unfold shortR
  rw [s2, s3, s4, f3]
  simp only [foundP, Prod.mk.injEq, hs, hg.s2 hs, true_and]
  exact ⟨by rw [← hll, hl], trivial⟩

end Go.Proofs.Ytpcnpdippnljpaa

namespace Go.Proofs.Ytpcnpdippnljpaa
open Go.RowKit
set_option linter.unusedVariables false
set_option maxRecDepth 100000

/-- Nothing was wrong behind the step, so nothing was ahead of it; and the place went on. -/
def On (l : List Int) (s s' : St) : Prop := s'.2 = 0 → s.2 = 0 ∧ s.1 ≤ s'.1 ∧ (s.1 ≤ l.length → s'.1 ≤ l.length)
theorem On.trans {l : List Int} {a b c : St} (h1 : On l a b) (h2 : On l b c) : On l a c := fun h => by
  obtain ⟨x1, x2, x3⟩ := h2 h
  obtain ⟨y1, y2, y3⟩ := h1 x1
  exact ⟨y1, Nat.le_trans y2 x2, fun z => x3 (y3 z)⟩
theorem rMust_on (l : List Int) (s : St) (b : Bool) {y : Int} (hy : y ≠ 0) : On l s (rMust s b y) := fun h => by
  unfold rMust at h ⊢
  split at h
  · exact absurd h hy
  · rename_i c; rw [if_neg c]; exact ⟨h, Nat.le_refl _, id⟩
theorem rMust_b {s : St} {b : Bool} {y : Int} (hy : y ≠ 0) (h : (rMust s b y).2 = 0) : b = true := by
  unfold rMust at h
  split at h
  · exact absurd h hy
  · rename_i c
    cases b with
    | true => rfl
    | false => exact absurd ⟨rfl, h⟩ c
theorem rPlain_in (l : List Int) (s : St) (n : Nat) (hn : n ≤ 8) (h : (rPlain l s n).2.2 = 0) (hs : s.1 ≤ l.length) : s.2 = 0 ∧ s.1 + n ≤ l.length ∧ rPlain l s n = (joinF 0 ((l.drop s.1).take n), (s.1 + n, 0)) := by
  unfold rPlain rRead at h ⊢
  by_cases c : s.2 = 0
  · rw [if_pos c] at h ⊢
    by_cases d : s.1 + n ≤ l.length
    · rw [readF_in l s.1 n hn d]
      refine ⟨c, d, ?_⟩
      simp
      omega
    · rw [readF_short l s.1 n (by omega) (by omega)] at h
      simp at h
  · rw [if_neg c] at h; exact absurd h c
theorem rPlain_on (l : List Int) (s : St) (n : Nat) (hn : n ≤ 8) (hs : s.1 ≤ l.length) : On l s (rPlain l s n).2 := fun h => by
  obtain ⟨h1, h2, h3⟩ := rPlain_in l s n hn h hs
  rw [h3]
  exact ⟨h1, by simp, fun _ => h2⟩
theorem rSized_on (l : List Int) (s : St) : On l s (rSized l s).2 := fun h => by
  unfold rSized rRead at h ⊢
  by_cases c : s.2 = 0
  · rw [if_pos c] at h ⊢
    rcases getF_cases l s.1 with ⟨e, he, hg⟩ | ⟨k, hk, hk1, hk2, hg⟩
    · rw [hg] at h
      rcases he with rfl | rfl <;> simp at h
    · rw [hg]
      have : k = s.1 := by omega
      subst this
      refine ⟨c, ?_, fun _ => ?_⟩
      · show s.1 ≤ ((s.1 : Int) + (sz (l.getD s.1 0) : Int)).toNat
        omega
      · show ((s.1 : Int) + (sz (l.getD s.1 0) : Int)).toNat ≤ l.length
        omega
  · rw [if_neg c] at h; exact absurd h c
theorem rPass_in (l : List Int) (s : St) (n : Int) (h : (rPass l s n).2 = 0) : s.2 = 0 ∧ n ≤ (l.length : Int) - s.1 ∧ rPass l s n = (s.1 + n.toNat, 0) := by
  unfold rPass at h ⊢
  by_cases c : s.2 = 0
  · rw [if_pos c] at h ⊢
    by_cases d : n ≤ (l.length : Int) - s.1
    · rw [if_pos d]; exact ⟨c, d, rfl⟩
    · rw [if_neg d] at h; simp at h
  · rw [if_neg c] at h; exact absurd h c
theorem rPass_on (l : List Int) (s : St) (n : Int) : On l s (rPass l s n) := fun h => by
  obtain ⟨h1, h2, h3⟩ := rPass_in l s n h
  rw [h3]
  exact ⟨h1, by simp, fun hs => by simp; omega⟩
theorem rBytes_on (l : List Int) (s : St) (n : Int) : On l s (rBytes l s n).2 := rPass_on l s n
theorem rBytes_sub (l : List Int) (s : St) (n : Int) : ∀ x ∈ (rBytes l s n).1, x ∈ l := fun x hx => List.mem_of_mem_drop (List.mem_of_mem_take hx)
theorem rBytes_le (l : List Int) (s : St) (n : Int) : (rBytes l s n).1.length ≤ l.length := by
  unfold rBytes; rw [List.length_take, List.length_drop]; omega
theorem rBytes_len (l : List Int) (s : St) (n : Int) (hs : s.1 ≤ l.length) (h : (rBytes l s n).2.2 = 0) : (rBytes l s n).1.length = n.toNat := by
  obtain ⟨h1, h2, h3⟩ := rPass_in l s n h
  unfold rBytes
  rw [h3]
  simp
  omega
theorem rId_in (l : List Int) (s : St) (hs : s.1 ≤ l.length) (hb : ∀ x ∈ l, IsB x) (h : (rId l s).2.2 = 0) : (s.2 = 0 ∧ s.1 ≤ (rId l s).2.1 ∧ (rId l s).2.1 ≤ l.length) ∧ (rId l s).1.length ≤ 20 ∧ (∀ x ∈ (rId l s).1, IsB x) := by
  have hn := rPlain_1 l s hb
  have o1 := rPlain_on l s 1 (by decide) hs
  unfold rId at h ⊢
  have e1 : ((1 : Nat) : Int) = 1 := rfl
  rw [e1] at o1
  have o2 := rMust_on l (rPlain l s 1).2 (decide ((rPlain l s 1).1 ≤ 20)) (y := 54) (by decide)
  have o3 := rBytes_on l (rMust (rPlain l s 1).2 (decide ((rPlain l s 1).1 ≤ 20)) 54) (rPlain l s 1).1
  have hm := (o3 h).1
  have hle := of_decide_eq_true (rMust_b (by decide) hm)
  have hp := (o2 hm).1
  have hs1 := (o1 hp).2.2 hs
  have hs2 := (o2 hm).2.2 hs1
  obtain ⟨x1, x2, x3⟩ := ((o1.trans o2).trans o3) h
  refine ⟨⟨x1, x2, x3 hs⟩, ?_, fun x hx => hb x (rBytes_sub _ _ _ x hx)⟩
  rw [rBytes_len _ _ _ hs2 h]
  omega
theorem rNum_in (l : List Int) (G : Lg) (s : St) (sp wd : Int) (hw : 1 ≤ wd ∧ wd ≤ 4) (hG : okN (G.at sp)) (hs : s.1 ≤ l.length) (hb : ∀ x ∈ l, IsB x) (h : (rNum l G s sp wd).2.2 = 0) :
    (s.2 = 0 ∧ s.1 + wd.toNat ≤ l.length ∧ (rNum l G s sp wd).2 = (s.1 + wd.toNat, 0)) ∧ Okn (rNum l G s sp wd).1 ∧ wholeV (G.at sp) ((rNum l G s sp wd).1 % st wd) wd = (rNum l G s sp wd).1 := by
  unfold rNum at h ⊢
  simp only at h ⊢
  have hlt := rPlain_lt l s wd hb
  rw [← st_pow wd hw] at hlt
  obtain ⟨n, rfl⟩ := Int.eq_ofNat_of_zero_le (show 0 ≤ wd by omega)
  obtain ⟨h1, h2, h3⟩ := rPlain_in l s n (by omega) h hs
  have hv := whole_spec (G.at sp) (rPlain l s n).1 n hG.1 hG.2 hlt.1 hlt.2
  refine ⟨⟨h1, by simpa using h2, by rw [h3]; simp⟩, hv.1, by rw [hv.2.1]⟩

/-- What is known of a packet that was read. -/
structure Got (l : List Int) (k : Nat) (idlen : Int) (G : Lg) (p : Pk) (e : Nat) : Prop where
  lt : k < e
  le : e ≤ l.length
  sp : p.space = 0 ∨ p.space = 1 ∨ p.space = 2
  d : p.dst.length ≤ 20
  s : p.src.length ≤ 20
  s2 : p.space = 2 → p.src = [] ∧ (p.dst.length : Int) = idlen ∧ e = l.length
  w : 1 ≤ p.width ∧ p.width ≤ 4
  n : Okn p.number
  back : wholeV (G.at p.space) (p.number % st p.width) p.width = p.number
  bd : ∀ x ∈ p.dst, IsB x
  bs : ∀ x ∈ p.src, IsB x
  by_ : ∀ x ∈ p.payload, IsB x
  yl : p.payload.length ≤ l.length

theorem okG_at {G : Lg} (h : okG G) (sp : Int) : okN (G.at sp) := by
  unfold Lg.at
  split
  · exact h.1
  · split
    · exact h.2.1
    · exact h.2.2

theorem long_got (l : List Int) (G : Lg) (hG : okG G) (s : St) (hs : s.1 ≤ l.length) (x : Int) (hx : IsB x) (hb : ∀ x ∈ l, IsB x) (k : Nat) (hk : k < s.1) (idlen : Int) (h : (longR l G s x).2.2 = 0) : s.2 = 0 ∧ Got l k idlen G (longR l G s x).1 (longR l G s x).2.1 := by
  have hw := widF_in x
  have ob := rBytes_on l (sLa l G s x).2 (IntKind.u64.wrap ((sL8 l s x).1 - widF x))
  have h' : (sLb l G s x).2.2 = 0 := h
  have ha := (ob h').1
  -- the steps, each from the one ahead of it
  have o1 : On l s (sL1 s x) := rMust_on l s _ (by decide)
  have p1 : (sL1 s x).1 ≤ l.length := by unfold sL1; rw [rMust_fst]; exact hs
  have o2 : On l (sL1 s x) (sL2 l s x).2 := rPlain_on l _ 4 (by decide) p1
  have o3 : On l (sL2 l s x).2 (sL3 l s x) := rMust_on l _ _ (by decide)
  have o4 : On l (sL3 l s x) (sL4 l s x) := rMust_on l _ _ (by decide)
  have o8 : On l (sL7 l s x) (sL8 l s x).2 := rSized_on l _
  have o9 : On l (sL8 l s x).2 (sL9 l s x) := rMust_on l _ _ (by decide)
  have o7 : On l (sL6 l s x).2 (sL7 l s x) := by
    unfold sL7 sT
    split
    · exact (rSized_on l _).trans (rPass_on l _ _)
    · exact fun h => ⟨h, Nat.le_refl _, id⟩
  have q9 : (sL9 l s x).2 = 0 := by
    have : (rPlain l (sL9 l s x) (widF x)).2.2 = 0 := ha
    unfold rPlain rRead at this
    split at this
    · assumption
    · exact this
  have q6 : (sL6 l s x).2.2 = 0 := ((o7.trans o8).trans o9 q9).1
  have q5 : (sL5 l s x).2.2 = 0 := by
    by_cases c : (sL5 l s x).2.2 = 0
    · exact c
    · have e : sL6 l s x = ([], (sL5 l s x).2) := rId_no c
      rw [e] at q6; exact q6
  have q4 : (sL4 l s x).2 = 0 := by
    by_cases c : (sL4 l s x).2 = 0
    · exact c
    · have e : sL5 l s x = ([], sL4 l s x) := rId_no c
      rw [e] at q5; exact q5
  obtain ⟨z1, z2, z3⟩ := ((o1.trans o2).trans o3).trans o4 q4
  have p4 := z3 hs
  obtain ⟨⟨-, y2, y3⟩, y4, y5⟩ := rId_in l (sL4 l s x) p4 hb q5
  obtain ⟨⟨-, x2, x3⟩, x4, x5⟩ := rId_in l (sL5 l s x).2 y3 hb q6
  obtain ⟨-, v2, v3⟩ := (o7.trans o8).trans o9 q9
  have p9 := v3 x3
  obtain ⟨⟨-, u2, u3⟩, u4, u5⟩ := rNum_in l G (sL9 l s x) (spcF x).1 (widF x) hw (okG_at hG _) p9 hb ha
  obtain ⟨-, t2, t3⟩ := ob h'
  have ea : (sLa l G s x).2 = ((sL9 l s x).1 + (widF x).toNat, 0) := u3
  have pa : (sLa l G s x).2.1 ≤ l.length := by rw [ea]; exact u2
  refine ⟨z1, ⟨?_, t3 pa, ?_, y4, x4, ?_, hw, u4, u5, y5, x5, fun x hx => hb x (rBytes_sub _ _ _ x hx), rBytes_le _ _ _⟩⟩
  · show k < (sLb l G s x).2.1
    have : (sL9 l s x).1 ≤ (sLa l G s x).2.1 := by rw [ea]; simp
    have y2' : (sL4 l s x).1 ≤ (sL5 l s x).2.1 := y2
    have x2' : (sL5 l s x).2.1 ≤ (sL6 l s x).2.1 := x2
    have t2' : (sLa l G s x).2.1 ≤ (sLb l G s x).2.1 := t2
    omega
  · rcases spcF_sp x with e | e
    · exact .inl e
    · exact .inr (.inl e)
  · intro e
    have e' : (spcF x).1 = 2 := e
    rcases spcF_sp x with c | c <;> rw [c] at e' <;> cases e'

theorem short_got (l : List Int) (G : Lg) (hG : okG G) (s : St) (hs : s.1 ≤ l.length) (x : Int) (hx : IsB x) (hb : ∀ x ∈ l, IsB x) (k : Nat) (hk : k < s.1) (idlen : Int) (hi : 0 ≤ idlen ∧ idlen ≤ 20) (h : (shortR l G s x idlen).2.2 = 0) : s.2 = 0 ∧ Got l k idlen G (shortR l G s x idlen).1 (shortR l G s x idlen).2.1 := by
  have hw := widF_in x
  have ob := rBytes_on l (sS3 l G s x idlen).2 ((l.length : Int) - (sS3 l G s x idlen).2.1)
  have h' : (sS4 l G s x idlen).2.2 = 0 := h
  have ha := (ob h').1
  have o1 : On l s (sS1 s x) := rMust_on l s _ (by decide)
  have o2 : On l (sS1 s x) (sS2 l s x idlen).2 := rBytes_on l _ _
  have q2 : (sS2 l s x idlen).2.2 = 0 := by
    have : (rPlain l (sS2 l s x idlen).2 (widF x)).2.2 = 0 := ha
    unfold rPlain rRead at this
    split at this
    · assumption
    · exact this
  obtain ⟨z1, z2, z3⟩ := (o1.trans o2) q2
  have q1 := (o2 q2).1
  have p1 := (o1 q1).2.2 hs
  have p2 := z3 hs
  have hl2 := rBytes_len l (sS1 s x) idlen p1 q2
  obtain ⟨⟨-, u2, u3⟩, u4, u5⟩ := rNum_in l G (sS2 l s x idlen).2 2 (widF x) hw (okG_at hG _) p2 hb ha
  have ea : (sS3 l G s x idlen).2 = ((sS2 l s x idlen).2.1 + (widF x).toNat, 0) := u3
  have pa : (sS3 l G s x idlen).2.1 ≤ l.length := by rw [ea]; exact u2
  obtain ⟨-, t2, t3⟩ := ob h'
  obtain ⟨-, -, r3⟩ := rPass_in l (sS3 l G s x idlen).2 ((l.length : Int) - (sS3 l G s x idlen).2.1) h'
  have ee : (sS4 l G s x idlen).2.1 = l.length := by
    have e1 : (sS4 l G s x idlen).2 = rPass l (sS3 l G s x idlen).2 ((l.length : Int) - (sS3 l G s x idlen).2.1) := rfl
    rw [e1, r3]
    simp only
    omega
  have hd : (sS2 l s x idlen).1.length = idlen.toNat := hl2
  refine ⟨z1, ⟨?_, t3 pa, .inr (.inr rfl), ?_, by simp [shortR], fun _ => ⟨rfl, ?_, ee⟩, hw, u4, u5, fun x hx => hb x (rBytes_sub _ _ _ x hx), by simp [shortR], fun x hx => hb x (rBytes_sub _ _ _ x hx), rBytes_le _ _ _⟩⟩
  · show k < (sS4 l G s x idlen).2.1
    rw [ee]; omega
  · show (sS2 l s x idlen).1.length ≤ 20
    omega
  · show ((sS2 l s x idlen).1.length : Int) = idlen
    omega

theorem short_dead (l : List Int) (G : Lg) (s : St) (x idlen : Int) (h : s.2 ≠ 0) : (shortR l G s x idlen).2 = s := by
  have e1 : sS1 s x = s := rMust_no h
  have e2 : sS2 l s x idlen = ([], s) := by unfold sS2; rw [e1]; exact rBytes_no h
  have e3 : (sS3 l G s x idlen).2 = s := by unfold sS3 rNum rPlain; rw [e2]; simp only; rw [rRead_no h]
  show (sS4 l G s x idlen).2 = s
  unfold sS4
  rw [e3, rBytes_no h]

theorem pack_got (l : List Int) (G : Lg) (hG : okG G) (k : Nat) (hk : k ≤ l.length) (hb : ∀ x ∈ l, IsB x) (idlen : Int) (hi : 0 ≤ idlen ∧ idlen ≤ 20) (h : (packR l G k idlen).2.2 = 0) : Got l k idlen G (packR l G k idlen).1 (packR l G k idlen).2.1 := by
  have hx := rPlain_1 l (k, 0) hb
  by_cases c : (rPlain l (k, 0) 1).2.2 = 0
  · obtain ⟨-, h2, h3⟩ := rPlain_in l (k, 0) 1 (by decide) c hk
    have e1 : ((1 : Nat) : Int) = 1 := rfl
    rw [e1] at h3
    have hp : (rPlain l (k, 0) 1).2.1 = k + 1 := by rw [h3]
    unfold packR at h ⊢
    by_cases d : 128 ≤ (rPlain l (k, 0) 1).1
    · rw [if_pos d] at h ⊢
      exact (long_got l G hG _ (by omega) _ hx hb k (by omega) idlen h).2
    · rw [if_neg d] at h ⊢
      exact (short_got l G hG _ (by omega) _ hx hb k (by omega) idlen hi h).2
  · exfalso
    have e : rPlain l (k, 0) 1 = (0, (k, 50)) := by
      unfold rPlain rRead at c ⊢
      rw [if_pos rfl] at c ⊢
      split at c
      · exact absurd rfl c
      · rename_i d; rw [if_neg d]
    unfold packR at h
    rw [e] at h
    simp only [if_neg (show ¬ (128 : Int) ≤ 0 by decide)] at h
    have := short_dead l G (k, 50) 0 idlen (by simp)
    rw [this] at h
    cases h

end Go.Proofs.Ytpcnpdippnljpaa

namespace Go.Proofs.Ytpcnpdippnljpaa
open Go.RowKit
set_option linter.unusedVariables false
set_option maxRecDepth 100000
set_option maxHeartbeats 1000000

def pA : Pk := ⟨0, [1, 2], [3], 5, 1, [1]⟩
def bA : List Int := [192, 0, 0, 0, 1, 2, 1, 2, 1, 3, 0, 64, 2, 5, 1]
abbrev pB : Pk := ⟨2, [170], [], 9, 4, [30]⟩
theorem encE_A : encE pA = 0 := by decide
theorem bytes_A : bytesP pA = bA := by decide
theorem dec_B : decP [103, 170, 0, 0, 0, 9, 30] 0 1 (-1, -1, 3) = (pB, 7, 0) := by decide +kernel

theorem decode_in (v : Value) (l : List Int) (i n : Int) (G : Lg) (w : World) (h : InB w v l) (hb : l.length ≤ 140737488355328) :
    Calls Try.prog 35 #[v, .int .i64 i, .int .i64 n, G.v] w (DecPost w (decP l i n G)) := by
  obtain ⟨a, c, rfl, hr, h1, h2, h3⟩ := h
  exact decode_any a l c i n G w hr h1 h2 hb (fun x e hc => (h3 x e hc).1) (fun x e hc => (h3 x e hc).2.2)

theorem DecPost.parts {w : World} {r : Pk × Int × Int} {e : Ending} {w' : World} (h : DecPost w r e w') : ∃ a1 n1 c1 a2 n2 c2 a3 n3 c3, e = .returned (.tuple #[r.1.val (.slice a1 n1 c1) (.slice a2 n2 c2) (.slice a3 n3 c3), .int .i64 r.2.1, .int .i64 r.2.2]) ∧ OwnB w.heap.size w' (.slice a1 n1 c1) r.1.dst ∧ OwnB w.heap.size w' (.slice a2 n2 c2) r.1.src ∧ OwnB w.heap.size w' (.slice a3 n3 c3) r.1.payload ∧ w.grownBy w' none ∧ n1 = r.1.dst.length ∧ n2 = r.1.src.length ∧ n3 = r.1.payload.length := by
  obtain ⟨d, s, y, rfl, o1, o2, o3, gr⟩ := h
  obtain ⟨a1, c1, rfl⟩ := o1.shape
  obtain ⟨a2, c2, rfl⟩ := o2.shape
  obtain ⟨a3, c3, rfl⟩ := o3.shape
  exact ⟨_, _, _, _, _, _, _, _, _, rfl, o1, o2, o3, gr, rfl, rfl, rfl⟩

theorem InB.at {w : World} {l : List Int} {n k : Nat} (hk : w.heap.size = k) (hn : l.length = n) (hm : n ≤ maxLen) (hb : ∀ x ∈ l, IsB x) : InB (w.alloc (bts l)) (.slice (some ⟨k, 0, none⟩) n n) l := by
  subst hk; subst hn
  refine ⟨_, _, rfl, rd_at (heap_alloc_new w _) hb, Nat.le_refl _, hm, fun x e _ => ?_⟩
  cases e
  have : w.heap.size < (w.alloc (bts l)).heap.size := by rw [alloc_size]; omega
  exact ⟨this, Nat.ne_of_lt this, _, _, rfl⟩

theorem InB.mark (w : World) (l : List Int) (n : Nat) (fr : Nat × Nat) (hn : l.length = n) (hm : n ≤ maxLen) (hb : ∀ x ∈ l, IsB x) : InB (w.alloc (.cells (l.map (Value.int .u8)).toArray 5 fr)) (.slice (some ⟨w.heap.size, 0, none⟩) n n) l := by
  subst hn
  refine ⟨_, _, rfl, ⟨hb, fun _ => ⟨_, _, rfl, fun i hi => ?_⟩⟩, Nat.le_refl _, hm, fun x e _ => ?_⟩
  · rw [Nat.zero_add, World.cell?_alloc_mark]
    simp [List.getD, hi]
  · cases e
    have : w.heap.size < (w.alloc (.cells (l.map (Value.int .u8)).toArray 5 fr)).heap.size := by rw [alloc_size]; omega
    exact ⟨this, Nat.ne_of_lt this, _, _, rfl⟩

/-- The literal's block. -/
abbrev oB : Obj := .cells ([103, 170, 0, 0, 0, 9, 30].map (Value.int .u8)).toArray 5 (7, 8)

end Go.Proofs.Ytpcnpdippnljpaa

namespace Go.Proofs.Ytpcnpdippnljpaa
open Go.RowKit
set_option linter.unusedVariables false
set_option maxRecDepth 100000
set_option maxHeartbeats 1000000

theorem dec_cases (l : List Int) (i n : Int) (G : Lg) (hb : ∀ x ∈ l, IsB x) : (∃ y, y ≠ 0 ∧ decP l i n G = (noP, 0, y)) ∨ (∃ (k e : Nat) (p : Pk), i = k ∧ k ≤ l.length ∧ okG G ∧ (0 ≤ n ∧ n ≤ 20) ∧ decP l i n G = (p, (e : Int), 0) ∧ Got l k n G p e) := by
  unfold decP
  by_cases c : i < 0 ∨ (l.length : Int) < i ∨ ¬ (okG G ∧ 0 ≤ n ∧ n ≤ 20)
  · rw [if_pos c]; exact .inl ⟨1, by decide, rfl⟩
  · rw [if_neg c]
    have hG : okG G ∧ 0 ≤ n ∧ n ≤ 20 := by
      by_cases d : okG G ∧ 0 ≤ n ∧ n ≤ 20
      · exact d
      · exact absurd (.inr (.inr d)) c
    obtain ⟨k, rfl⟩ := Int.eq_ofNat_of_zero_le (show 0 ≤ i by omega)
    by_cases d : (packR l G (k : Int).toNat n).2.2 = 0
    · rw [if_pos d]
      rw [Int.toNat_natCast] at d ⊢
      exact .inr ⟨k, _, _, rfl, by omega, hG.1, hG.2, rfl, pack_got l G hG.1 k (by omega) hb n hG.2 d⟩
    · rw [if_neg d]; exact .inl ⟨_, d, rfl⟩

theorem foundP_back {p : Pk} {G : Lg} (h : wholeV (G.at p.space) (p.number % st p.width) p.width = p.number) : foundP p G = p := by
  unfold foundP; rw [h]

/-- What Encode writes Decode reads. -/
theorem dec_enc (la R : List Int) (p : Pk) (h : Good p) (G : Lg) (hG : okG G) (n : Int) (hn : 0 ≤ n ∧ n ≤ 20) (h2 : p.space = 2 → (p.dst.length : Int) = n ∧ R = []) : decP (la ++ bytesP p ++ R) la.length n G = (foundP p G, ((la.length + (bytesP p).length : Nat) : Int), 0) := by
  have hd : (la ++ bytesP p ++ R).drop la.length = bytesP p ++ R := by rw [List.append_assoc, List.drop_left]
  have e : packR (la ++ bytesP p ++ R) G la.length n = (foundP p G, (la.length + (bytesP p).length, 0)) := by
    rcases h.sp with c | c | c
    · exact long_at h (.inl c) G n hd
    · exact long_at h (.inr c) G n hd
    · obtain ⟨h3, h4⟩ := h2 c
      rw [h4, List.append_nil] at hd ⊢
      rw [List.append_nil] at hd
      rw [← h3]
      exact short_at h c G hd
  unfold decP
  rw [if_neg (by rintro (c | c | c); omega; (simp at c; omega); exact c ⟨hG, hn⟩), Int.toNat_natCast, e]
  rfl

theorem Got.good {l : List Int} {k : Nat} {n : Int} {G : Lg} {p : Pk} {e : Nat} (h : Got l k n G p e) (hy : p.space ≠ 2 → p.width + p.payload.length ≤ 16383) : Good p :=
  ⟨h.sp, h.d, h.s, fun c => (h.s2 c).1, h.w, h.n, hy⟩
theorem Got.long {l : List Int} {k : Nat} {n : Int} {G : Lg} {p : Pk} {e : Nat} (h : Got l k n G p e) (h2 : p.space ≠ 2) (hy : 16383 < p.width + (p.payload.length : Int)) : encE p = 54 := by
  have g1 := h.sp; have g2 := h.d; have g3 := h.s; have g5 := h.w
  unfold encE
  rw [if_neg (by unfold badK; omega), if_neg (by unfold badF; omega), if_pos (by unfold badN; omega)]
theorem good_enc {p : Pk} (h : Good p) : encE p = 0 := by
  rcases encE_cases p with ⟨h1, h2⟩ | ⟨-, -, -, h4, h5, h6⟩ | ⟨-, h, -⟩
  · exfalso
    unfold ovF at h2
    have g1 := h.sp; have g2 := h.d; have g3 := h.s; have g4 := h.s2; have g5 := h.w
    rw [if_neg (by unfold badK; omega), if_neg (by unfold badF; rintro (c | c | ⟨c, d⟩ | c | c); omega; omega; (rw [g4 c] at d; simp at d); omega; omega)] at h2
    exact h2 rfl
  · exfalso
    have g6 := h.n; have g7 := h.y
    unfold badN at h6
    rcases h6 with c | c | ⟨c, d⟩
    · omega
    · omega
    · have := g7 c; omega
  · exact h

theorem EncPost.ok {w : World} {p : Pk} {e : Ending} {w' : World} (h : EncPost w p e w') (hg : Good p) (hb : ∀ x ∈ bytesP p, IsB x) (hm : (bytesP p).length ≤ maxLen) : ∃ g, e = .returned (.tuple #[.slice (some ⟨g, 0, none⟩) (bytesP p).length (bytesP p).length, .int .i64 0]) ∧ InB w' (.slice (some ⟨g, 0, none⟩) (bytesP p).length (bytesP p).length) (bytesP p) ∧ w.grownBy w' none := by
  obtain ⟨⟨h1, -⟩ | ⟨-, -, g, h2, rfl, h3⟩, gr⟩ := h
  · exact absurd (good_enc hg) h1
  · refine ⟨g, rfl, ⟨_, _, rfl, rd_at h3 hb, Nat.le_refl _, hm, fun x e _ => ?_⟩, gr⟩
    cases e
    have hlt : g < w'.heap.size := by
      by_cases c : g < w'.heap.size
      · exact c
      · have : w'.heap[g]? = none := by simp; omega
        rw [this] at h3; simp at h3
    exact ⟨hlt, Nat.ne_of_lt hlt, _, _, rfl⟩

theorem bytesP_byte {p : Pk} (h : Good p) (hd : ∀ x ∈ p.dst, IsB x) (hs : ∀ x ∈ p.src, IsB x) (hy : ∀ x ∈ p.payload, IsB x) : ∀ x ∈ bytesP p, IsB x := by
  have hw := h.w; have hdl := h.d; have hsl := h.s
  intro x hx
  unfold bytesP at hx
  rw [List.mem_flatten] at hx
  obtain ⟨l, hl, hx⟩ := hx
  unfold partsP at hl
  split at hl
  · simp only [List.mem_cons, List.not_mem_nil, or_false] at hl
    rcases hl with rfl | rfl | rfl | rfl
    · simp only [List.mem_cons, List.not_mem_nil, or_false] at hx; subst hx; unfold IsB; omega
    · exact hd x hx
    · exact dig_byte _ _ x hx
    · exact hy x hx
  · rename_i hn
    have hsp : p.space = 0 ∨ p.space = 1 := by have := h.sp; omega
    simp only [List.mem_cons, List.not_mem_nil, or_false] at hl
    rcases hl with rfl | rfl | rfl | rfl | rfl | rfl | rfl | rfl | rfl | rfl
    · simp only [List.mem_cons, List.not_mem_nil, or_false] at hx; subst hx; unfold IsB; omega
    · simp only [List.mem_cons, List.not_mem_nil, or_false] at hx; unfold IsB; omega
    · simp only [List.mem_cons, List.not_mem_nil, or_false] at hx; subst hx; unfold IsB; omega
    · exact hd x hx
    · simp only [List.mem_cons, List.not_mem_nil, or_false] at hx; subst hx; unfold IsB; omega
    · exact hs x hx
    · split at hx
      · simp at hx; subst hx; unfold IsB; omega
      · simp at hx
    · exact layF_byte _ _ (by omega) (.inr (.inl ⟨rfl, h.y hn⟩)) x hx
    · exact dig_byte _ _ x hx
    · exact hy x hx

end Go.Proofs.Ytpcnpdippnljpaa

namespace Go.Proofs.Ytpcnpdippnljpaa
open Go.RowKit
set_option linter.unusedVariables false
set_option maxRecDepth 100000
set_option maxHeartbeats 1000000

theorem grown_below {w W : World} (h : w.grownBy W none) : Below w.heap.size w W := ⟨h.os, h.tape, h.output, h.size, fun i hi => h.block i hi (by simp)⟩

end Go.Proofs.Ytpcnpdippnljpaa

namespace Go.Proofs.Ytpcnpdippnljpaa
open Go.RowKit
set_option linter.unusedVariables false
set_option maxRecDepth 100000

theorem enc_good {p : Pk} (h : encE p = 0) : Good p := by
  rcases encE_cases p with ⟨h1, h2⟩ | ⟨-, h2, -⟩ | ⟨-, -, -, h4⟩
  · exact absurd (h1.symm.trans h) h2
  · omega
  · exact h4
theorem ov_good {p : Pk} (h : Good p) : ovF p = (overP p, 0) := by
  rcases encE_cases p with ⟨h1, h2⟩ | ⟨h1, h2, h3, -⟩ | ⟨h1, h2, h3, h4⟩
  · exact absurd (h1.symm.trans (good_enc h)) h2
  · have := good_enc h; omega
  · rw [← h3, ← h1]
theorem over_in {p : Pk} (good : Good p) : (0 : Int) ≤ overP p ∧ overP p ≤ 60 := by
  have h1 := good.w; have h2 := good.d; have h3 := good.s
  unfold overP; (repeat' split) <;> omega

theorem InB.cut {w : World} {g N : Nat} {l : List Int} (h : InB w (.slice (some ⟨g, 0, none⟩) N N) l) (k : Nat) (hk : k ≤ N) : InB w (.slice (some ⟨g, 0, none⟩) k N) (l.take k) := by
  obtain ⟨a, c, e, hr, h1, h2, h3⟩ := h
  simp only [Value.slice.injEq] at e
  obtain ⟨rfl, rfl, rfl⟩ := e
  have hl : (l.take k).length = k := by simp; omega
  refine ⟨_, _, by rw [hl], ⟨fun x hx => hr.1 x (List.mem_of_mem_take hx), fun hne => ?_⟩, by omega, h2, h3⟩
  obtain ⟨b, off, e, hc⟩ := hr.2 (fun e => by subst e; simp at hne)
  refine ⟨b, off, e, fun i hi => ?_⟩
  rw [hl] at hi
  rw [hc i (by omega)]
  simp [List.getD, hi]
end Go.Proofs.Ytpcnpdippnljpaa
