/- L6C, L6D, L6E, L6F, L7B, L7D, one text. -/
import Derived.Test.YtnflbefbgcbdfaaL8D
import Derived.Test.YtnflbefbgcbdfaaL3H
import Derived.BigQuiet
import Derived.LoopIn
import Derived.TacticsInMore
namespace Go.Proofs.Ytnflbefbgcbdfaa
open Go.RowKit
set_option linter.unusedVariables false
set_option maxRecDepth 100000
set_option maxHeartbeats 1000000

/-- Those without a fate. -/
def zf (T : List Tr) : List Tr := T.filter (fun t => decide (t.2.2 = 0))
/-- i of them lie among the first k. -/
structure HK (T : List Tr) (i k : Nat) : Prop where
  eq : zf (T.take k) = (zf T).take i
  le : k ≤ T.length
theorem HK.zero (T : List Tr) : HK T 0 0 := ⟨by simp [zf], Nat.zero_le _⟩
section
variable {T : List Tr} {i k : Nat} {t : Tr}
theorem zf_take (T : List Tr) (k : Nat) : zf (T.take k) ++ zf (T.drop k) = zf T := by
  unfold zf
  rw [← List.filter_append, List.take_append_drop]
theorem HK.skip (h : HK T i k) (ht : T[k]? = some t) (h0 : t.2.2 ≠ 0) : HK T i (k + 1) := by
  refine ⟨?_, (List.getElem?_eq_some_iff.1 ht).1⟩
  rw [take_at ht]
  unfold zf
  rw [List.filter_append]
  have := h.eq
  unfold zf at this
  rw [this]
  simp [h0]
theorem HK.more (h : HK T i k) (hi : i < (zf T).length) : k < T.length := by
  rcases Nat.lt_or_ge k T.length with q | q
  · exact q
  · have := h.eq
    rw [List.take_of_length_le q] at this
    have := congrArg List.length this
    rw [List.length_take] at this
    omega
theorem HK.hit (h : HK T i k) (hi : i < (zf T).length) (ht : T[k]? = some t) (h0 : t.2.2 = 0) : (zf T)[i]? = some t ∧ HK T (i + 1) (k + 1) := by
  have e1 : zf (T.take (k + 1)) = (zf T).take i ++ [t] := by
    rw [take_at ht]
    unfold zf
    rw [List.filter_append]
    have := h.eq
    unfold zf at this
    rw [this]
    simp [h0]
  have e2 := zf_take T (k + 1)
  rw [e1] at e2
  have hl : ((zf T).take i).length = i := by rw [List.length_take]; omega
  have e3 : (zf T)[i]? = some t := by
    rw [← e2, List.append_assoc, List.getElem?_append_right (by omega), hl]
    simp
  exact ⟨e3, by rw [e1, take_at e3], (List.getElem?_eq_some_iff.1 ht).1⟩
theorem HK.rest (h : HK T i k) (hi : i = (zf T).length) : ∀ j t, k ≤ j → T[j]? = some t → t.2.2 ≠ 0 := by
  intro j t hj ht h0
  have e := zf_take T k
  rw [h.eq, hi, List.take_length] at e
  have hz : zf (T.drop k) = [] := by
    have := congrArg List.length e
    rw [List.length_append] at this
    exact List.length_eq_zero_iff.1 (by omega)
  have hm : t ∈ T.drop k := by
    refine List.mem_of_getElem? (i := j - k) ?_
    rw [List.getElem?_drop, show k + (j - k) = j by omega]
    exact ht
  have : t ∈ zf (T.drop k) := List.mem_filter.2 ⟨hm, by simpa using h0⟩
  rw [hz] at this
  cases this
end
theorem OnT.at_ {l : Lg} {T : List Tr} (h : OnT l T) {i : Nat} {s : St} (hs : l.ks[i]? = some s) : ∃ t, (zf T)[i]? = some t ∧ t.1 = s.nu ∧ t.2.1 = s.si := by
  have h1 : (l.ks.map (fun s => (s.nu, s.si)))[i]? = some (s.nu, s.si) := by rw [List.getElem?_map, hs]; rfl
  rw [h.ks, List.getElem?_map] at h1
  obtain ⟨t, ht, e⟩ := Option.map_eq_some_iff.1 h1
  simp only [Prod.mk.injEq] at e
  exact ⟨t, ht, e.1, e.2⟩
theorem OnT.zl {l : Lg} {T : List Tr} (h : OnT l T) : (zf T).length = l.ks.length := by
  have := congrArg List.length h.ks
  simpa [zf] using this.symm
/-- A step of a script, whichever. -/
theorem does_any {R : Nat → Prop} {lw b q : Nat} {nv zv fv kv va : Value} {l : Lg} {T : List Tr} (w : World) (h : LW R w lw b q nv zv fv kv va l T) (hT : T.length < 1100000) (h62 : l.ne ≤ 4611686018427387904) (kd hh : Int) (s : St) (R0 : Nat → Prop) (fa : Option Addr) (fc : Nat) (hf : FvAt R0 w (.slice fa s.fs.length fc) s.fs) (rs : List Sp) (ra : Option Addr) (rc : Nat) (hr : rs.length ≤ 1100000) (rd : RdS w ra rs) (ms : List Int) (ma : Option Addr) (mc : Nat) (hm : ms.length ≤ 1100000) (rdm : RdV w ma (ints ms)) (n : Int) :
    Calls Try.prog 8 #[.pointer (some ⟨lw, 0, none⟩), .agg (opc kd hh s (.slice fa s.fs.length fc) (.slice ra rs.length rc) (.slice ma ms.length mc) n)] w fun e w' => DoP (kd = 4) R w lw b q nv zv fv kv va l T e w' := by
  by_cases k1 : kd = 1
  · subst k1; exact (does_add w h hT h62 hh s R0 fa fc _ _ n hf).mono fun _ _ d => d.weak False.elim
  · by_cases k2 : kd = 2
    · subst k2; exact (does_ack w h (by omega) h62 hh s _ _ n rs ra rc hr rd).mono fun _ _ d => d.weak False.elim
    · by_cases k3 : kd = 3
      · subst k3; exact (does_lose w h (by omega) hh s _ _ n ms ma mc hm rdm).mono fun _ _ d => d.weak False.elim
      · by_cases k4 : kd = 4
        · subst k4; exact (does_drop w h (by omega) hh s _ _ _ n).mono fun _ _ d => d.weak fun _ => rfl
        · exact (does_else w h kd hh s _ _ _ n rfl k1 k2 k3 k4).mono fun _ _ d => d.weak False.elim
end Go.Proofs.Ytnflbefbgcbdfaa

namespace Go.Proofs.Ytnflbefbgcbdfaa
open Go.RowKit
set_option linter.unusedVariables false
set_option maxRecDepth 100000
set_option maxHeartbeats 1000000

/-- A ledger that was made since w0. -/
structure SH (w0 w : World) (b q : Nat) (kv va : Value) (l : Lg) (R : Nat → Prop) : Prop where
  lg : LgAt R w b q kv va l
  kp : Kp (fun x => w0.heap.size ≤ x) w0 w
  lb : w0.heap.size ≤ b
  lq : w0.heap.size ≤ q
  lk : ∀ g, kv.ownBlock = some g → w0.heap.size ≤ g
  lv : ∀ g, va.ownBlock = some g → w0.heap.size ≤ g
section
variable {w0 w : World} {b q : Nat} {kv va : Value} {l : Lg} {R : Nat → Prop}
theorem SH.grown {w' : World} (h : SH w0 w b q kv va l R) (g : w.grownBy w' none) : SH w0 w' b q kv va l R := ⟨h.lg.grown g, h.kp.trans (Kp.grown g _), h.lb, h.lq, h.lk, h.lv⟩
theorem SH.end (h : SH w0 w b q kv va l R) : w0.grownBy w none := ⟨h.kp.os, h.kp.tape, h.kp.output, h.kp.size, fun x hx _ => h.kp.block x hx (fun e => by omega)⟩
theorem fv_none (R : Nat → Prop) (W : World) : FvAt R W (.slice none 0 0) [] := ⟨by simp, none, 0, [], rfl, ⟨rfl, fun i c f h => by simp at h⟩, rdv_nil _ _, fun q => absurd rfl q⟩
theorem sh_new (first : Int) (w0 : World) (h : 0 ≤ first ∧ first ≤ 4611686018427387903) :
    Calls Try.prog 7 #[.int .i64 first] w0 fun e w' => ∃ b q, e = .returned (.tuple #[.pointer (some ⟨b, 0, none⟩), .int .i64 0]) ∧ SH w0 w' b q (.slice none 0 0) (.slice none 0 0) (Lg.fresh first) (fun _ => False) := by
  refine (lnew_good first w0 h).mono ?_
  rintro e w' ⟨b, q, rfl, hb, hs, -, l1, l2, g⟩
  exact ⟨b, q, rfl, LgAt.new hb hs, Kp.grown g _, l1, l2, fun g e => (by cases e), fun g e => (by cases e)⟩
theorem sh_add (h : SH w0 w b q kv va l R) (s : St) (hm : l.may s = 0) (hco : s.co = true) (hne : 0 ≤ l.ne) (hk : l.ks.length < 256) (hs : s.fs = []) :
    Calls Try.prog 14 #[.pointer (some ⟨b, 0, none⟩), .agg (s.cs (.slice none 0 0))] w fun e w' => ∃ oa oc kv' R', e = .returned (.tuple #[.slice oa 0 oc, .int .i64 0]) ∧ SH w0 w' b q kv' va (l.added s) R' := by
  have e0 : s.cs (.slice none 0 0) = s.cs (.slice none s.fs.length 0) := by rw [hs]; rfl
  rw [e0]
  refine (add_more b q kv va l R (fun _ => False) s none 0 w h.lg (by rw [hs]; exact fv_none _ _) id hm hco hne (by omega)).mono ?_
  rintro e w' ⟨ov, Ro, kv', R', rfl, p2, p3, p4, p5, p6, p7, p8⟩
  have ho : (l.added s).over = fun _ => false := over_no (by show (l.ks ++ [s]).length ≤ 256; rw [List.length_append, List.length_singleton]; omega)
  rw [ho] at p2 p5
  have e1 : (l.added s).left (fun _ => false) = l.added s := by unfold Lg.left; rw [List.filter_eq_self.2 (fun x _ => by simp)]
  have e2 : (l.added s).ks.filter (fun x => (fun _ : Int => false) x.nu) = [] := by simp
  rw [e1] at p5
  rw [e2] at p2
  have sz := h.kp.size
  obtain ⟨oa, oc, hov⟩ : ∃ oa oc, ov = .slice oa 0 oc := by
    rcases p2.sh with ⟨e, -⟩ | ⟨g, c, e, -⟩
    · exact ⟨none, 0, e⟩
    · exact ⟨_, c, e⟩
  subst hov
  refine ⟨oa, oc, kv', R', rfl, p5, h.kp.trans (p8.mono fun x _ e => ?_), h.lb, h.lq, fun g e => ?_, h.lv⟩
  · rcases e with e | e
    · rw [e]; exact h.lb
    · exact h.lk x e
  · rcases p6 with q1 | q1
    · rw [q1] at e; exact h.lk g e
    · have := q1 g e; omega
theorem sh_bare (h : SH w0 w b q kv va l R) (s : St) (hm : l.may s = 0) (hco : s.co = false) (hne : 0 ≤ l.ne) (hs : s.fs = []) :
    Calls Try.prog 14 #[.pointer (some ⟨b, 0, none⟩), .agg (s.cs (.slice none 0 0))] w fun e w' => e = .returned (.tuple #[.slice none 0 0, .int .i64 0]) ∧ SH w0 w' b q kv va ⟨l.op, l.fi, s.nu + 1, l.la, s.ti, l.ls, l.ks, l.ac⟩ R := by
  refine (add_bare b q kv l s none 0 0 w h.lg.blk hm hco hne).mono ?_
  rintro e w1 ⟨rfl, bb, g1⟩
  have k1 : Kp (fun x => x = b) w w1 := Kp.grownS g1 rfl
  have dV := h.lg.diff
  have hqV : Blk w q _ 79 := h.lg.set.blk
  refine ⟨rfl, ⟨bb, ?_, ?_, fun g hg => Nat.lt_of_lt_of_le (h.lg.low g hg) g1.size, h.lg.nb, h.lg.nq, h.lg.nk, h.lg.na⟩, h.kp.trans (k1.mono fun x _ e => by rw [e]; exact h.lb), h.lb, h.lq, h.lk, h.lv⟩
  · exact h.lg.set.kept (k1.block q hqV.lt (Ne.symm dV.bq)) (fun g e => k1.block g (row_lt h.lg.set.row g e) (dV.vb g e).1)
  · exact h.lg.row.kept (fun g hg => k1.block g (h.lg.low g hg) (fun e => h.lg.nb (e ▸ hg))) (fun g e => k1.block g (h.lg.row.lt g e) (dV.kb g e).1)
theorem sh_ack (h : SH w0 w b q kv va l R) (v : Value) (rs : List Sp) (hv : Row w v rs) (hvb : ∀ g, v.ownBlock = some g → g ≠ b ∧ g ≠ q ∧ va.ownBlock ≠ some g) (hr : rs.length ≤ 1100000) (hm : l.mayAck rs = 0) (hac : AcOk l.ac) (hne : l.ne ≤ 4611686018427387904) (hn : l.ks.length ≤ 1100000) :
    Calls Try.prog 12 #[.pointer (some ⟨b, 0, none⟩), v] w fun e w' => ∃ P ov Ro kv' va', P.Perm rs ∧ e = .returned (.tuple #[ov, .int .i64 0]) ∧ KvAt Ro w' ov (l.ks.filter (fun s => memB s.nu (putL [] P))) ∧ SH w0 w' b q kv' va' ((l.ackd rs).left (fun k => memB k (putL [] P))) R := by
  refine (ack_ok b q kv va l R w v rs h.lg hv hvb hr hm hac hne hn).mono ?_
  rintro e w' ⟨P, ov, Ro, kv', va', hP, rfl, p2, p3, p4, p5, p6, p7, p8⟩
  have sz := h.kp.size
  refine ⟨P, ov, Ro, kv', va', hP, rfl, p2, p5, h.kp.trans (p8.mono fun x _ e => ?_), h.lb, h.lq, fun g e => h.lk g (by rw [← p6]; exact e), fun g e => ?_⟩
  · rcases e with e | e | e | e
    · rw [e]; exact h.lb
    · rw [e]; exact h.lq
    · exact h.lk x e
    · exact h.lv x e
  · rcases p7 with q1 | q1
    · rw [q1] at e; exact h.lv g e
    · have := q1 g e; omega
end
end Go.Proofs.Ytnflbefbgcbdfaa

namespace Go.Proofs.Ytnflbefbgcbdfaa
open Go.RowKit
set_option linter.unusedVariables false
set_option maxRecDepth 100000
set_option maxHeartbeats 1000000

def s7 : St := ⟨7, 5, 100, true, true, false, 0, []⟩
def s8 : St := ⟨8, 6, 0, false, false, false, 0, []⟩
def s9 : St := ⟨9, 6, 100, true, true, false, 0, []⟩
def lA : Lg := (Lg.fresh 7).added s7
def lB : Lg := ⟨lA.op, lA.fi, s8.nu + 1, lA.la, s8.ti, lA.ls, lA.ks, lA.ac⟩
def lC : Lg := lB.added s9
def lD : Lg := (lC.ackd [(8, 9)]).left (fun k => memB k (putL [] [(8, 9)]))
theorem mA : (Lg.fresh 7).may s7 = 0 := by decide
theorem mB : lA.may s8 = 0 := by decide
theorem mC : lB.may s9 = 0 := by decide
theorem mD1 : lC.mayAck [(10, 10)] = 130 := by decide
theorem mD2 : lC.mayAck [(8, 9)] = 0 := by decide
theorem b7 : memB 7 (putL [] [(8, 9)]) = false := by decide
theorem b9 : memB 9 (putL [] [(8, 9)]) = true := by decide
theorem kC : lC.ks = [s7, s9] := rfl
theorem oD : lC.ks.filter (fun s => memB s.nu (putL [] [(8, 9)])) = [s9] := by
  rw [kC]
  have e7 : memB s7.nu (putL [] [(8, 9)]) = false := b7
  have e9 : memB s9.nu (putL [] [(8, 9)]) = true := b9
  simp [e7, e9]
theorem kD : lD.ks = [s7] := by
  show lC.ks.filter (fun s => !memB s.nu (putL [] [(8, 9)])) = [s7]
  rw [kC]
  have e7 : memB s7.nu (putL [] [(8, 9)]) = false := b7
  have e9 : memB s9.nu (putL [] [(8, 9)]) = true := b9
  simp [e7, e9]
theorem aD : lD.ac = [(8, 9)] := by decide
theorem tD1 : lD.told 8 8 = true := by decide
theorem tD2 : lD.told 0 7 = false := by decide
theorem vD : vw lD (flt lD.ks) lD.ks.length (wtg lD.ks) = #[.bool true, .int .i64 10, .int .i64 9, .int .i64 6, .int .i64 (-1), .int .i64 100, .int .i64 1, .int .i64 1] := by
  rw [kD]
  have h1 : lD.ne = 10 := rfl
  have h2 : lD.la = 9 := by decide
  have h3 : lD.ls = 6 := rfl
  have h4 : lD.op = true := rfl
  unfold vw
  rw [h1, h2, h3, h4]
  rfl
theorem row_one (W : World) (x y : Int) : Row (W.alloc (.cells #[.int .i64 x, .int .i64 y] 48)) (.slice (some ⟨W.heap.size, 0, none⟩) 1 1) [(x, y)] := by
  have hb : Blk (W.alloc (.cells #[.int .i64 x, .int .i64 y] 48)) W.heap.size #[.int .i64 x, .int .i64 y] 48 := Blk.new _ _ _
  exact ⟨rfl, .inr ⟨W.heap.size, 1, _, rfl, Nat.zero_le _, hb, Nat.le_refl _, by unfold maxLen; omega, rfl, rfl⟩⟩

theorem shown_any (w0 : World) : Calls Try.prog 6 #[] w0 fun e w' => e = .returned (.bool true) ∧ w0.grownBy w' none := by
  have hnew := sh_new 7 w0 (by omega)
  go_enter Try.func6, Try.ntmps6
  go_wp2_with fail
  refine hnew.mono ?_
  rintro e X0 ⟨b, q, rfl, h0⟩
  have hA : Calls Try.prog 14 #[.pointer (some ⟨b, 0, none⟩), .agg #[.int .i64 7, .int .i64 5, .int .i64 100, .bool true, .bool true, .bool false, .int .i64 0, .slice none 0 0]] X0 fun e w' => ∃ oa oc kv' R', e = .returned (.tuple #[.slice oa 0 oc, .int .i64 0]) ∧ SH w0 w' b q kv' (.slice none 0 0) lA R' := sh_add h0 s7 mA rfl (by decide) (by decide) rfl
  clear hnew h0
  go_wp2_with fail
  refine hA.mono ?_
  rintro e X1 ⟨a1, c1, kv1, R1, rfl, h1⟩
  have hB : Calls Try.prog 14 #[.pointer (some ⟨b, 0, none⟩), .agg #[.int .i64 8, .int .i64 6, .int .i64 0, .bool false, .bool false, .bool false, .int .i64 0, .slice none 0 0]] X1 fun e w' => e = .returned (.tuple #[.slice none 0 0, .int .i64 0]) ∧ SH w0 w' b q kv1 (.slice none 0 0) lB R1 := sh_bare h1 s8 mB rfl (by decide) rfl
  clear hA h1
  go_wp2_with fail
  refine hB.mono ?_
  rintro e X2 ⟨rfl, h2⟩
  have hC : Calls Try.prog 14 #[.pointer (some ⟨b, 0, none⟩), .agg #[.int .i64 9, .int .i64 6, .int .i64 100, .bool true, .bool true, .bool false, .int .i64 0, .slice none 0 0]] X2 fun e w' => ∃ oa oc kv' R', e = .returned (.tuple #[.slice oa 0 oc, .int .i64 0]) ∧ SH w0 w' b q kv' (.slice none 0 0) lC R' := sh_add h2 s9 mC rfl (by decide) (by decide) rfl
  clear hB h2
  go_wp2_with fail
  refine hC.mono ?_
  rintro e X3 ⟨a3, c3, kv3, R3, rfl, h3⟩
  have h3a := h3.grown (grown_alloc X3 (.cells #[.int .i64 10, .int .i64 10] 48))
  have hD := ack_bad b q kv3 (.slice none 0 0) lC R3 _ _ [(10, 10)] h3a.lg (row_one X3 10 10) (by simp) (by rw [mD1]; decide)
  rw [mD1] at hD
  have H3 := hide h3a
  clear hC h3 h3a
  go_wp2_with fail
  refine hD.mono ?_
  rintro e X4 ⟨rfl, g4⟩
  have h4 := (unhide H3).grown g4
  have h4a := h4.grown (grown_alloc X4 (.cells #[.int .i64 8, .int .i64 9] 48))
  have hE := sh_ack h4a (.slice (some ⟨X4.heap.size, 0, none⟩) 1 1) [(8, 9)] (row_one X4 8 9) (fun g e => by
    injection e with e
    subst e
    have hq : Blk X4 q _ 79 := h4.lg.set.blk
    have := h4.lg.blk.lt
    have := hq.lt
    exact ⟨by show X4.heap.size ≠ b; omega, by show X4.heap.size ≠ q; omega, fun e => by cases e⟩) (by simp) mD2 ⟨trivial, by decide⟩ (by decide) (by decide)
  clear hD H3 h4 h4a g4
  go_wp2_with fail
  refine hE.mono ?_
  rintro e X5 ⟨P, ov, Ro, kv5, va5, hP, rfl, ho, h5⟩
  have hP1 : P = [(8, 9)] := List.perm_singleton.1 hP
  subst hP1
  rw [oD] at ho
  have h5 : SH w0 X5 b q kv5 va5 lD R3 := h5
  obtain ⟨go, oc, hov⟩ : ∃ go oc, ov = .slice (some ⟨go, 0, none⟩) 1 oc := by
    rcases ho.sh with ⟨-, e⟩ | ⟨g, c, e, -⟩
    · cases e
    · exact ⟨g, c, e⟩
  subst hov
  obtain ⟨fw, -, hcl⟩ := KvAt.get (ks := [s9]) ho (k := 0) rfl
  have y0 : X5.cell? ⟨go, 0, none⟩ = some (.int .i64 9) := hcl 0 _ rfl
  have ok5 : Ok lD.ac := by
    have hg := (addS_good (L := []) (lo := 8) (hi := 9) (most := 256) trivial (by omega) (by omega)).1
    rw [show addS 256 8 9 [] = [(8, 9)] by decide] at hg
    rw [aD]
    exact ⟨hg, by decide⟩
  have hF := told_any b q kv5 va5 lD 8 8 X5 h5.lg.blk h5.lg.set ok5
  rw [tD1] at hF
  have H5 := hide h5
  clear hE ho hcl h5 hP
  go_wp2_with fail
  refine hF.mono ?_
  rintro e X6 ⟨rfl, g6⟩
  have h6 := (unhide H5).grown g6
  have y6 := cell_grown y0 g6
  have hG := told_any b q kv5 va5 lD 0 7 X6 h6.lg.blk h6.lg.set ok5
  rw [tD2] at hG
  have H6 := hide h6
  clear hF h6 g6 y0 H5
  go_wp2_with fail
  refine hG.mono ?_
  rintro e X7 ⟨rfl, g7⟩
  have h7 := (unhide H6).grown g7
  have y7 := cell_grown y6 g7
  have hV := view_any b q kv5 lD X7 h7.lg.blk h7.lg.row (by rw [kD]; decide) (by rw [kD]; intro s hs; simp at hs; subst hs; decide) h7.lg.low
  rw [vD] at hV
  have H7 := hide h7
  clear hG h7 g7 y6 H6 ok5
  go_wp2_with fail
  refine hV.mono ?_
  rintro e X8 ⟨rfl, g8⟩
  have h8 := (unhide H7).grown g8
  have y8 := cell_grown y7 g8
  obtain ⟨X9, hX9⟩ : ∃ X9, X9 = X8.alloc (.cells #[.bool true, .int .i64 10, .int .i64 9, .int .i64 6, .int .i64 (-1), .int .i64 100, .int .i64 1, .int .i64 1] 44) := ⟨_, rfl⟩
  have g9 : X8.grownBy X9 none := by rw [hX9]; exact grown_alloc _ _
  have y9 := cell_grown y8 g9
  have bX9 : Blk X9 X8.heap.size #[.bool true, .int .i64 10, .int .i64 9, .int .i64 6, .int .i64 (-1), .int .i64 100, .int .i64 1, .int .i64 1] 44 := by rw [hX9]; exact Blk.new _ _ _
  obtain ⟨bx, hbx⟩ : ∃ bx, bx = X8.heap.size := ⟨_, rfl⟩
  rw [← hbx] at bX9
  obtain ⟨x0, x1, x2, x3, x4, x5, x6, x7⟩ := cells8 bX9
  have FIN := hide (h8.grown g9).end
  clear hV h8 g8 y7 y8 H7 bX9 g9
  go_upto_region 12 with fail
  rw [← hX9, ← hbx]
  replace hX9 := hide hX9
  replace hbx := hide hbx
  go_wp2_with fail
  all_goals go_ret
  all_goals exact ⟨rfl, unhide FIN⟩
end Go.Proofs.Ytnflbefbgcbdfaa

namespace Go.Proofs.Ytnflbefbgcbdfaa
open Go.RowKit
set_option linter.unusedVariables false
set_option maxRecDepth 100000
set_option maxHeartbeats 1000000

theorem LOk.new (first : Int) (h : 0 ≤ first) : LOk (Lg.fresh first) [] :=
  ⟨⟨rfl, List.Pairwise.nil, fun t ht => by cases ht⟩, ⟨trivial, Nat.zero_le 256⟩, h, Nat.zero_le 256, fun s hs => by cases hs⟩
theorem LW.new {w0 w : World} {b q lw : Nat} {first : Int} (h : SH w0 w b q (.slice none 0 0) (.slice none 0 0) (Lg.fresh first) (fun _ => False)) (h0 : 0 ≤ first) (hb : Blk w lw (ldc b (.slice none 0 0) (.slice none 0 0) (.slice none 0 0) first true) 32) :
    LW (fun _ => False) w lw b q (.slice none 0 0) (.slice none 0 0) (.slice none 0 0) (.slice none 0 0) (.slice none 0 0) (Lg.fresh first) [] :=
  ⟨hb, IR.nil _ _, IR.nil _ _, IR.nil _ _, h.lg, fun g e => (by cases e), fun g e => e.elim, LOk.new first h0⟩
/-- Many steps: what a load and its ledger write lies above what was there. -/
structure LM (w0 : World) (N0 : Int) (R : Nat → Prop) (w : World) (lw b q : Nat) (nv zv fv kv va : Value) (l : Lg) (T : List Tr) (k : Nat) : Prop where
  lw_ : LW R w lw b q nv zv fv kv va l T
  kp : Kp (fun x => w0.heap.size ≤ x) w0 w
  lo : ∀ x, ownL lw b q nv zv fv kv va x → w0.heap.size ≤ x
  tl : T.length ≤ k
  ne : l.ne ≤ N0 + k
theorem LM.step {w0 w w' : World} {N0 : Int} {R : Nat → Prop} {lw b q : Nat} {nv zv fv kv va : Value} {l : Lg} {T : List Tr} {k : Nat} {e : Ending} {D : Prop} (h : LM w0 N0 R w lw b q nv zv fv kv va l T k) (d : DoP D R w lw b q nv zv fv kv va l T e w') :
    e = .returned (.bool true) ∧ ∃ R' nv' zv' fv' kv' va' l' T', LM w0 N0 R' w' lw b q nv' zv' fv' kv' va' l' T' (k + 1) ∧ l'.fi = l.fi ∧ (l'.op = l.op ∨ D) := by
  obtain ⟨R', nv', zv', fv', kv', va', l', T', rfl, d1, d2, d3, d4, d5, d6, d7, d8⟩ := d
  have sz := h.kp.size
  refine ⟨rfl, R', nv', zv', fv', kv', va', l', T', ⟨d1, h.kp.trans (d2.mono fun x _ e => h.lo x e), fun x hx => ?_, ?_, ?_⟩, d7, d8⟩
  · rcases d3 x hx with q1 | q1
    · exact h.lo x q1
    · omega
  · have := h.tl; omega
  · have := h.ne; omega
theorem LM.grown {w0 w w' : World} {N0 : Int} {R : Nat → Prop} {lw b q : Nat} {nv zv fv kv va : Value} {l : Lg} {T : List Tr} {k : Nat} (h : LM w0 N0 R w lw b q nv zv fv kv va l T k) (g : w.grownBy w' none) : LM w0 N0 R w' lw b q nv zv fv kv va l T k := ⟨h.lw_.grown g, h.kp.trans (Kp.grown g _), h.lo, h.tl, h.ne⟩
end Go.Proofs.Ytnflbefbgcbdfaa

namespace Go.Proofs.Ytnflbefbgcbdfaa
open Go.RowKit Go.Shelf
set_option linter.unusedVariables false
set_option maxRecDepth 100000
set_option maxHeartbeats 1000000

theorem drN (X : World) (q : Nat) : X.grownBy (X.drewN q) none := ⟨rfl, rfl, rfl, Nat.le_refl _, fun _ _ _ => rfl⟩
theorem Kp.gr {S : Nat → Prop} {w0 X X' : World} (k : Kp S X X') (hS : ∀ g, S g → w0.heap.size ≤ g) (h : w0.grownBy X none) : w0.grownBy X' none :=
  ⟨k.os.trans h.os, k.tape.trans h.tape, k.output.trans h.output, Nat.le_trans h.size k.size, fun g hg _ => (k.block g (Nat.lt_of_lt_of_le hg h.size) (fun e => by have := hS g e; omega)).trans (h.block g hg (by simp))⟩
theorem grown_own {A X X' : World} {B : Nat} {row : Option Nat} (h : A.grownBy X none) (g : X.grownBy X' row) (hr : Rec B X row) (hB : A.heap.size ≤ B) : A.grownBy X' none :=
  ⟨g.os.trans h.os, g.tape.trans h.tape, g.output.trans h.output, Nat.le_trans h.size g.size, fun k hk _ => (g.block k (Nat.lt_of_lt_of_le hk h.size) (fun e => by have := (hr k e.symm).1; omega)).trans (h.block k hk (by simp))⟩
theorem kf_trans {A B C : World} {n : Nat} (h : KeepsFrom n A B) (k : KeepsFrom n B C) : KeepsFrom n A C := ⟨Nat.le_trans h.size k.size, fun j o hj h1 h2 => k.same j o hj (h.same j o hj h1 h2) h2⟩

/-- What lies in the boxes of holds: the number that is looked at, the sum, how many. -/
structure HI (w0 : World) (lw : Nat) (l : Lg) (T : List Tr) (i k : Nat) (X : World) : Prop where
  lb : Boxed X w0.heap.size 28 (.pointer (some ⟨lw, 0, none⟩))
  rb : Boxed X (w0.heap.size + 1) 4 (.bool false)
  kb : Boxed X (w0.heap.size + 1 + 1) 3 (.int .i64 (k : Int))
  sb : Boxed X (w0.heap.size + 1 + 1 + 1) 2 (.int .i64 (flt (l.ks.take i)))
  mb : Boxed X (w0.heap.size + 1 + 1 + 1 + 1) 3 (.int .i64 (i : Int))
  gr : w0.grownBy X none
  sz : w0.heap.size + 6 ≤ X.heap.size
  hk : HK T i k
section
variable {w0 : World} {lw : Nat} {l : Lg} {T : List Tr} {i k : Nat} {X X' : World}
theorem HI.own {B : Nat} {row : Option Nat} (h : HI w0 lw l T i k X) (g : X.grownBy X' row) (hr : Rec B X row) (hB : w0.heap.size ≤ B) : HI w0 lw l T i k X' :=
  ⟨bxOwn h.lb g hr, bxOwn h.rb g hr, bxOwn h.kb g hr, bxOwn h.sb g hr, bxOwn h.mb g hr, grown_own h.gr g hr hB, Nat.le_trans h.sz g.size, h.hk⟩
theorem HI.grown (h : HI w0 lw l T i k X) (g : X.grownBy X' none) : HI w0 lw l T i k X' :=
  h.own (B := w0.heap.size) g (fun r e => by cases e) (Nat.le_refl _)
/-- What holds writes. -/
def hiU (w0 : World) (g : Nat) : Prop := g = w0.heap.size + 1 + 1 ∨ g = w0.heap.size + 1 + 1 + 1 ∨ g = w0.heap.size + 1 + 1 + 1 + 1
theorem hiU_ge {w0 : World} {g : Nat} (h : hiU w0 g) : w0.heap.size ≤ g := by unfold hiU at h; omega
theorem hiU_lt {w0 : World} {g : Nat} (h : hiU w0 g) : g < w0.heap.size + 6 := by unfold hiU at h; omega
theorem kp_k (X : World) (w0 : World) (v : Value) : Kp (hiU w0) X (X.setCell ⟨w0.heap.size + 1 + 1, 0, none⟩ v) := (Kp.refl _ X).set _ _ _ (fun _ => .inl rfl)
theorem kp_s (X : World) (w0 : World) (v : Value) : Kp (hiU w0) X (X.setCell ⟨w0.heap.size + 1 + 1 + 1, 0, none⟩ v) := (Kp.refl _ X).set _ _ _ (fun _ => .inr (.inl rfl))
theorem kp_m (X : World) (w0 : World) (v : Value) : Kp (hiU w0) X (X.setCell ⟨w0.heap.size + 1 + 1 + 1 + 1, 0, none⟩ v) := (Kp.refl _ X).set _ _ _ (fun _ => .inr (.inr rfl))
theorem HI.setk {k' : Nat} (h : HI w0 lw l T i k X) (hk : HK T i k') : HI w0 lw l T i k' (X.setCell ⟨w0.heap.size + 1 + 1, 0, none⟩ (.int .i64 (k' : Int))) := by
  have kp : Kp (fun g => g = w0.heap.size + 1 + 1) X (X.setCell ⟨w0.heap.size + 1 + 1, 0, none⟩ (.int .i64 (k' : Int))) := (Kp.refl _ X).set _ _ _ (fun _ => rfl)
  exact ⟨bxKp h.lb kp (by omega), bxKp h.rb kp (by omega), Boxed.set _ h.kb, bxKp h.sb kp (by omega), bxKp h.mb kp (by omega), kp.gr (fun g e => by omega) h.gr, Nat.le_trans h.sz kp.size, hk⟩
/-- The end of a round: all three are written. -/
theorem HI.turn (h : HI w0 lw l T i k X) {s : St} (hs : l.ks[i]? = some s) (hk : HK T (i + 1) (k + 1)) :
    HI w0 lw l T (i + 1) (k + 1) (((X.setCell ⟨w0.heap.size + 1 + 1 + 1, 0, none⟩ (.int .i64 (flt (l.ks.take i) + s.si))).setCell ⟨w0.heap.size + 1 + 1 + 1 + 1, 0, none⟩ (.int .i64 ((i : Int) + 1))).setCell ⟨w0.heap.size + 1 + 1, 0, none⟩ (.int .i64 ((k : Int) + 1))) ∧
    Kp (hiU w0) X (((X.setCell ⟨w0.heap.size + 1 + 1 + 1, 0, none⟩ (.int .i64 (flt (l.ks.take i) + s.si))).setCell ⟨w0.heap.size + 1 + 1 + 1 + 1, 0, none⟩ (.int .i64 ((i : Int) + 1))).setCell ⟨w0.heap.size + 1 + 1, 0, none⟩ (.int .i64 ((k : Int) + 1))) := by
  rw [← flt_next hs]
  have k1 : Kp (fun g => g = w0.heap.size + 1 + 1 + 1) X (X.setCell ⟨w0.heap.size + 1 + 1 + 1, 0, none⟩ (.int .i64 (flt (l.ks.take (i + 1))))) := (Kp.refl _ X).set _ _ _ (fun _ => rfl)
  have u1 := kp_s X w0 (.int .i64 (flt (l.ks.take (i + 1))))
  have b1 : Boxed (X.setCell ⟨w0.heap.size + 1 + 1 + 1, 0, none⟩ (.int .i64 (flt (l.ks.take (i + 1))))) (w0.heap.size + 1 + 1 + 1) 2 (.int .i64 (flt (l.ks.take (i + 1)))) := Boxed.set _ h.sb
  have l1 := bxKp h.lb k1 (by omega)
  have r1 := bxKp h.rb k1 (by omega)
  have c1 := bxKp h.kb k1 (by omega)
  have m1 := bxKp h.mb k1 (by omega)
  have g1 := k1.gr (fun g e => by omega) h.gr
  have z1 := Nat.le_trans h.sz k1.size
  generalize X.setCell ⟨w0.heap.size + 1 + 1 + 1, 0, none⟩ (.int .i64 (flt (l.ks.take (i + 1)))) = X1 at *
  have k2 : Kp (fun g => g = w0.heap.size + 1 + 1 + 1 + 1) X1 (X1.setCell ⟨w0.heap.size + 1 + 1 + 1 + 1, 0, none⟩ (.int .i64 ((i : Int) + 1))) := (Kp.refl _ X1).set _ _ _ (fun _ => rfl)
  have u2 := kp_m X1 w0 (.int .i64 ((i : Int) + 1))
  have m2 : Boxed (X1.setCell ⟨w0.heap.size + 1 + 1 + 1 + 1, 0, none⟩ (.int .i64 ((i : Int) + 1))) (w0.heap.size + 1 + 1 + 1 + 1) 3 (.int .i64 ((i + 1 : Nat) : Int)) := Boxed.set _ m1
  have l2 := bxKp l1 k2 (by omega)
  have r2 := bxKp r1 k2 (by omega)
  have c2 := bxKp c1 k2 (by omega)
  have b2 := bxKp b1 k2 (by omega)
  have g2 := k2.gr (fun g e => by omega) g1
  have z2 := Nat.le_trans z1 k2.size
  generalize X1.setCell ⟨w0.heap.size + 1 + 1 + 1 + 1, 0, none⟩ (.int .i64 ((i : Int) + 1)) = X2 at *
  have h2 : HI w0 lw l T (i + 1) (k + 1) (X2.setCell ⟨w0.heap.size + 1 + 1, 0, none⟩ (.int .i64 ((k : Int) + 1))) := by
    have kp : Kp (fun g => g = w0.heap.size + 1 + 1) X2 (X2.setCell ⟨w0.heap.size + 1 + 1, 0, none⟩ (.int .i64 ((k : Int) + 1))) := (Kp.refl _ X2).set _ _ _ (fun _ => rfl)
    exact ⟨bxKp l2 kp (by omega), bxKp r2 kp (by omega), (show Boxed _ _ 3 (.int .i64 ((k + 1 : Nat) : Int)) from Boxed.set _ c2), bxKp b2 kp (by omega), bxKp m2 kp (by omega), kp.gr (fun g e => by omega) g2, Nat.le_trans z2 kp.size, hk⟩
  exact ⟨h2, (u1.trans u2).trans (kp_k X2 w0 _)⟩
end
/-- The number in a box. -/
def boxN (b : Nat) (X : World) : Nat := match X.cell? ⟨b, 0, none⟩ with | some (.int _ z) => z.toNat | _ => 0
theorem boxN_of {X : World} {b k : Nat} (h : X.cell? ⟨b, 0, none⟩ = some (.int .i64 (k : Int))) : boxN b X = k := by unfold boxN; rw [h]; simp
/-- How a round begins: its packet lies in a box. -/
def AxH (a1 : PkV → Nat → Act) (x : PkV) (a' : Act) (W : World) : Prop := ∃ Bx, W.heap[Bx]? = some (.cells (x.1.cs (.slice x.2.1 x.1.fs.length x.2.2)) 36 (0, 0)) ∧ a' = a1 x Bx
theorem axH_own (a1 : PkV → Nat → Act) (B : Nat) (x : PkV) (a' : Act) : OwnFrom B (fun (_ : Unit) W => AxH a1 x a' W) := by
  rintro s W W' row ⟨Bx, h1, h2⟩ hg hr
  refine ⟨Bx, (hg.block Bx (Array.getElem?_eq_some_iff.1 h1).1 (fun e => ?_)).trans h1, h2⟩
  obtain ⟨_, o, h3, h4⟩ := hr Bx e.symm
  rw [h1] at h3; cases h3; cases h4
theorem at_pre {ks : List St} {pre : List (PkV)} {x : PkV} (h : keptP ks (pre ++ [x])) : ks[pre.length]? = some x.1 := by
  obtain ⟨t, e⟩ := h
  rw [← e, List.map_append, List.append_assoc, List.getElem?_append_right (by simp), List.length_map]
  simp
end Go.Proofs.Ytnflbefbgcbdfaa

namespace Go.Proofs.Ytnflbefbgcbdfaa
open Go.RowKit Go.Shelf
set_option linter.unusedVariables false
set_option linter.unusedSimpArgs false
set_option maxRecDepth 100000
set_option maxHeartbeats 4000000
attribute [local go_sem] Oper.semAt_some

theorem keptne (B : Nat) (w : World) : (binOp .eql 54 (.func (.func 26) #[] #[.pointer (some ⟨B, 0, none⟩)]) .nilFunc).run Try.prog w = .ok (.bool false) w := by rfl
theorem holds_any {R : Nat → Prop} {lw b q : Nat} {nv zv fv kv va : Value} {l : Lg} {T : List Tr} (w : World) (h : LW R w lw b q nv zv fv kv va l T) (hT : T.length ≤ 1000000) :
    Calls Try.prog 9 #[.pointer (some ⟨lw, 0, none⟩)] w fun e w' => e = .returned (.bool true) ∧ w.grownBy w' none := by
  refine (callsIn_wide (n := 6)).1 ?_
  have H0 := hide h
  obtain ⟨w1, hw1⟩ : ∃ w1, w1 = ((((w.alloc (.cells #[.pointer (some ⟨lw, 0, none⟩)] 28)).alloc (.cells #[.bool false] 4)).alloc (.cells #[.int .i64 0] 3)).alloc (.cells #[.int .i64 0] 2)).alloc (.cells #[.int .i64 0] 3) := ⟨_, rfl⟩
  have g1 : w.grownBy w1 none := by rw [hw1]; exact grown_trans (grown_trans (grown_trans (grown_trans (grown_alloc _ _) (grown_alloc _ _)) (grown_alloc _ _)) (grown_alloc _ _)) (grown_alloc _ _)
  have z1 : w1.heap.size = w.heap.size + 1 + 1 + 1 + 1 + 1 := by rw [hw1]; simp
  have i0 : Blk w1 w.heap.size #[.pointer (some ⟨lw, 0, none⟩)] 28 ∧ Blk w1 (w.heap.size + 1) #[.bool false] 4 ∧ Blk w1 (w.heap.size + 1 + 1) #[.int .i64 0] 3 ∧ Blk w1 (w.heap.size + 1 + 1 + 1) #[.int .i64 0] 2 ∧ Blk w1 (w.heap.size + 1 + 1 + 1 + 1) #[.int .i64 0] 3 := by
    rw [hw1]
    have e1 := Blk.new (w.alloc (.cells #[.pointer (some ⟨lw, 0, none⟩)] 28)) #[.bool false] 4
    have e2 := Blk.new ((w.alloc (.cells #[.pointer (some ⟨lw, 0, none⟩)] 28)).alloc (.cells #[.bool false] 4)) #[.int .i64 0] 3
    have e3 := Blk.new (((w.alloc (.cells #[.pointer (some ⟨lw, 0, none⟩)] 28)).alloc (.cells #[.bool false] 4)).alloc (.cells #[.int .i64 0] 3)) #[.int .i64 0] 2
    have e4 := Blk.new ((((w.alloc (.cells #[.pointer (some ⟨lw, 0, none⟩)] 28)).alloc (.cells #[.bool false] 4)).alloc (.cells #[.int .i64 0] 3)).alloc (.cells #[.int .i64 0] 2)) #[.int .i64 0] 3
    simp only [World.size_alloc] at e1 e2 e3 e4
    exact ⟨((((Blk.new w _ _).grown (grown_alloc _ _)).grown (grown_alloc _ _)).grown (grown_alloc _ _)).grown (grown_alloc _ _), ((e1.grown (grown_alloc _ _)).grown (grown_alloc _ _)).grown (grown_alloc _ _), (e2.grown (grown_alloc _ _)).grown (grown_alloc _ _), e3.grown (grown_alloc _ _), e4⟩
  have lbx : w1.cell? ⟨w.heap.size, 0, none⟩ = some (.pointer (some ⟨lw, 0, none⟩)) := i0.1.cell 0 _ rfl
  have l1 : w1.cell? ⟨lw, 0, none⟩ = some (.pointer (some ⟨b, 0, none⟩)) := (h.ld.grown g1).cell 0 _ rfl
  have gA := grown_alloc w1 (.cells #[.pointer (some ⟨b, 0, none⟩)] 24)
  have i1 : Hid (HI w lw l T 0 0 (w1.alloc (.cells #[.pointer (some ⟨b, 0, none⟩)] 24))) :=
    ⟨i0.1.grown gA, i0.2.1.grown gA, i0.2.2.1.grown gA, i0.2.2.2.1.grown gA, i0.2.2.2.2.grown gA, grown_trans g1 gA, by rw [World.size_alloc]; omega, HK.zero T⟩
  have bP : Hid (Blk (w1.alloc (.cells #[.pointer (some ⟨b, 0, none⟩)] 24)) w1.heap.size #[.pointer (some ⟨b, 0, none⟩)] 24) := Blk.new _ _ _
  have HG := hide (And.intro g1 (And.intro z1 gA))
  have kn := keptne w1.heap.size
  clear h i0 g1 z1 gA
  refine callsIn_of_wp_marks Try.func9 rfl trivial ?_ rfl
  simp only [Try.ntmps9, List.size_toArray, List.length_cons, List.length_nil, Nat.reduceAdd, Nat.reduceSub, Array.replicate_succ, Array.replicate_zero, List.push_toArray, List.append_toArray, List.nil_append, List.cons_append]
  gi_upto_region 4 with fail
  rw [← hw1]
  replace hw1 := hide hw1
  gi_wp2_with fail
  refine ⟨trivial, (callsIn_wide.2 (kept_any b w1)).mono ?_⟩
  rintro e w2 ⟨rfl, hw2⟩
  rw [← hw2] at i1 bP
  have HW2 := hide hw2
  clear hw2
  gi_wp2_with fail
  have h2 := (unhide H0).grown (grown_trans (unhide HG).1 (show w1.grownBy w2 none from by rw [unhide HW2]; exact (unhide HG).2.2))
  have z2 : w2.heap.size = w.heap.size + 1 + 1 + 1 + 1 + 1 + 1 := by rw [unhide HW2, World.size_alloc, (unhide HG).2.1]
  have SEQ := kept_seq w1.heap.size b R kv l.ks w2 ((unhide bP).cell 0 _ rfl) (h2.lg.blk.cell 6 _ rfl) h2.lg.row h2.lg.low (by have := h2.ok.kl; omega)
  have RL := hide h2.lg.low
  clear h2 lbx l1 kn
  refine range_own (n := 6) (gf := 26) (lb := #[.pointer (some ⟨w1.heap.size, 0, none⟩)]) rfl (enters_of Try.func26 (by kernel_rfl) rfl)
    SEQ (fun h k => KR.trans h k) (fun X j o o' hj hl ho => KR.put (unhide RL) X j o o' hj hl ho) (fun _ => rfl)
    (fun pre X => ∃ k, HI w lw l T pre.length k X) (fun _ _ _ => False)
    (fun pre X Y row h g hr => by obtain ⟨k, h⟩ := h; exact ⟨k, h.own g hr (by omega)⟩)
    (fun _ _ _ _ _ h => h.elim) ⟨0, unhide i1⟩
    (AxH (fun (x : PkV) Bx => { tmps := #[.pointer (some ⟨lw, 0, none⟩), .pointer (some ⟨w.heap.size, 0, none⟩), .pointer (some ⟨w.heap.size + 1, 0, none⟩), .pointer (some ⟨w.heap.size + 1 + 1, 0, none⟩), .pointer (some ⟨w.heap.size + 1 + 1 + 1, 0, none⟩), .pointer (some ⟨w.heap.size + 1 + 1 + 1 + 1, 0, none⟩), .func (.func 26) #[] #[.pointer (some ⟨w1.heap.size, 0, none⟩)], .pointer (some ⟨Bx, 0, none⟩), undef, .pointer (some ⟨lw, 0, none⟩), .pointer (some ⟨lw, 0, none⟩), .pointer (some ⟨lw, 0, none⟩), .pointer (some ⟨b, 0, none⟩), .func (.func 26) #[] #[.pointer (some ⟨w1.heap.size, 0, none⟩)], .func (.func 26) #[] #[.pointer (some ⟨w1.heap.size, 0, none⟩)], .bool false, .func (.func 26) #[] #[.pointer (some ⟨w1.heap.size, 0, none⟩)], .agg (x.1.cs (.slice x.2.1 x.1.fs.length x.2.2)), undef, undef, undef, undef, undef, undef, undef, undef, undef, undef, undef, undef, undef, undef, undef, undef, undef, undef, undef, undef, undef, undef, undef, undef, undef, undef, undef, undef, undef, undef, undef, undef, undef, undef, undef, undef, undef, undef, undef, undef, undef, undef, undef, undef, undef, undef, undef, undef, undef, undef, undef, undef, undef, undef, undef, undef, undef, undef, undef, undef, undef, undef, undef, undef, undef, undef, undef, undef, undef, undef, undef, undef, undef, undef, undef, undef, undef, undef, undef, undef, undef, undef, undef, undef, undef, undef, undef, undef, undef, undef, undef, undef, undef, undef, undef, undef, undef, undef, undef, undef, undef, undef, undef, undef, undef, undef, undef, undef, undef, undef, undef, undef], defers := [] }))
    (fun x a' => axH_own _ _ x a') ?assign ?body ?done ?stop
  case assign =>
    rintro l' m pre ⟨⟨nu, ti, si, el, co, pr, tl, fs⟩, fa, fc⟩ X K ⟨k, h⟩ hK
    have gA := grown_alloc X (.cells (St.cs ⟨nu, ti, si, el, co, pr, tl, fs⟩ (.slice fa fs.length fc)) 36)
    have hK2 := hK _ _ ((KeepsOthers.alloc X (.cells (St.cs ⟨nu, ti, si, el, co, pr, tl, fs⟩ (.slice fa fs.length fc)) 36)).from _) (KR.of (Kp.grown gA (fun _ => False)) (fun g e => e.elim) (fun g hg => by have := unhide RL g hg; have := h.sz; omega)) ⟨k, h.grown gA⟩ ⟨_, heap_alloc_new X _, rfl⟩
    unfold St.cs at hK2
    clear h SEQ
    simp only [encQ, St.cs]
    gi_wp2_with fail
    exact hK2
  case stop =>
    rintro D cd pre X hD hp hf
    exact hf.elim
  case body =>
    rintro l' m pre x a' X hl hr ⟨k, h⟩ ⟨Bx, hx, ha⟩ hsp
    dsimp only at ha
    subst ha
    clear SEQ
    have hs := at_pre hsp
    obtain ⟨i, hi⟩ : ∃ i, i = pre.length := ⟨_, rfl⟩
    have hpl : (pre ++ [x]).length = i + 1 := by rw [List.length_append, hi]; rfl
    rw [← hi] at hs h
    have hX := (unhide H0).grown h.gr
    obtain ⟨t0, ht0, e01, e02⟩ := hX.ok.on.at_ hs
    have hil : i < (zf T).length := (List.getElem?_eq_some_iff.1 ht0).1
    have ne0 : T ≠ [] := fun e => by rw [e] at hil; simp [zf] at hil
    obtain ⟨gn, cn, hnv, -⟩ := hX.n_.sh.resolve_left (fun e => ne0 (by have := e.2; simpa [nsT] using this))
    obtain ⟨gz, cz, hzv, -⟩ := hX.z_.sh.resolve_left (fun e => ne0 (by have := e.2; simpa [zsT] using this))
    obtain ⟨gf, cf, hfv, -⟩ := hX.f_.sh.resolve_left (fun e => ne0 (by have := e.2; simpa [ftT] using this))
    have ln : (nsT T).length = T.length := by simp [nsT]
    have lz : (zsT T).length = T.length := by simp [zsT]
    have lf : (ftT T).length = T.length := by simp [ftT]
    rw [ln] at hnv
    rw [lz] at hzv
    rw [lf] at hfv
    obtain ⟨N, hN⟩ : ∃ N, N = T.length := ⟨_, rfl⟩
    rw [← hN] at hnv hzv hfv
    subst hnv hzv hfv
    have lenI : ¬ (9223372036854775807 : Int) < (N : Int) := by omega
    have N6 : (N : Int) ≤ 1000000 := by omega
    have HX := hide hX
    have NN := hide hN
    have fb := flt_bd (l.ks.take i) (fun s hs => hX.ok.si s (List.mem_of_mem_take hs))
    have kl := hX.ok.kl
    have sb := hX.ok.si x.1 (List.mem_of_getElem? hs)
    have il : i < l.ks.length := (List.getElem?_eq_some_iff.1 hs).1
    have fl : (l.ks.take i).length ≤ 256 := by rw [List.length_take]; omega
    have HS := hide (And.intro hs (And.intro ht0 (And.intro e01 (And.intro e02 hil))))
    have w13 : IntKind.i64.wrap (flt (l.ks.take i) + x.1.si) = flt (l.ks.take i) + x.1.si := by rw [IntKind.wrap_i64]; omega
    have w14 : IntKind.i64.wrap ((i : Int) + 1) = (i : Int) + 1 := by rw [IntKind.wrap_i64]; omega
    have hxb : Blk X Bx (x.1.cs (.slice x.2.1 x.1.fs.length x.2.2)) 36 := hx
    have bxz : ∀ g, hiU w g → g ≠ Bx := fun g hg e => by
      subst e
      rcases hg with e | e | e
      · have := h.kb; rw [← e] at this; exact (ty_ne hxb (show Blk X g _ 3 from this) (by decide)) rfl
      · have := h.sb; rw [← e] at this; exact (ty_ne hxb (show Blk X g _ 2 from this) (by decide)) rfl
      · have := h.mb; rw [← e] at this; exact (ty_ne hxb (show Blk X g _ 3 from this) (by decide)) rfl
    have I0 : Hid (∃ k, HI w lw l T i k X ∧ Kp (hiU w) X X) := ⟨k, h, Kp.refl _ _⟩
    have HB := hide (And.intro hxb (And.intro bxz hpl))
    clear hX hs ht0 e01 e02 hil ne0 ln lz lf hN fb kl sb il fl hx hxb bxz h hi hsp hpl
    gi_upto_region 9 with fail
    gi_loopw [] (fun wr => Hid (∃ k, HI w lw l T i k wr ∧ Kp (hiU w) X wr)) (fun wr => N - boxN (w.heap.size + 1 + 1) wr)
    case atStart => exact I0
    case round =>
      obtain ⟨k, h, kp⟩ := unhide hrel
      obtain ⟨hs, ht0, e01, e02, hil⟩ := unhide HS
      have hkT := h.hk.more hil
      obtain ⟨t, ht⟩ : ∃ t, T[k]? = some t := ⟨_, List.getElem?_eq_getElem hkT⟩
      have hX := (unhide H0).grown h.gr
      have cw := h.lb.cell
      have ck := h.kb.cell
      have fk := h.kb.frozen
      have c1 : wr.cell? ⟨lw, 1, none⟩ = some (.slice (some ⟨gn, 0, none⟩) N cn) := hX.ld.cell 1 _ rfl
      have c2 : wr.cell? ⟨lw, 2, none⟩ = some (.slice (some ⟨gz, 0, none⟩) N cz) := hX.ld.cell 2 _ rfl
      have c3 : wr.cell? ⟨lw, 3, none⟩ = some (.slice (some ⟨gf, 0, none⟩) N cf) := hX.ld.cell 3 _ rfl
      have cf1 : wr.cell? ⟨gf, k, none⟩ = some (.int .i64 t.2.2) := hX.f_.cell k _ (by show (T.map (·.2.2))[k]? = _; rw [List.getElem?_map, ht]; rfl)
      have hkI : (k : Int) < (N : Int) := by have := unhide NN; omega
      have hk0 : (0 : Int) ≤ (k : Int) := by omega
      have hk63 : (k : Int) ≤ 1000000 := by omega
      have w15 : IntKind.i64.wrap ((k : Int) + 1) = (k : Int) + 1 := by rw [IntKind.wrap_i64]; omega
      by_cases hz : t.2.2 = 0
      · have bz : (t.2.2 != 0) = false := by simpa using hz
        obtain ⟨hzf, hk2⟩ := h.hk.hit hil ht hz
        obtain rfl : t = t0 := by rw [hzf] at ht0; exact Option.some.inj ht0
        have cn1 : wr.cell? ⟨gn, k, none⟩ = some (.int .i64 x.1.nu) := hX.n_.cell k _ (by show (T.map (·.1))[k]? = _; rw [List.getElem?_map, ht, ← e01]; rfl)
        have cz1 : wr.cell? ⟨gz, k, none⟩ = some (.int .i64 x.1.si) := hX.z_.cell k _ (by show (T.map (·.2.1))[k]? = _; rw [List.getElem?_map, ht, ← e02]; rfl)
        have xb : Blk wr Bx (x.1.cs (.slice x.2.1 x.1.fs.length x.2.2)) 36 := (kp.block Bx (unhide HB).1.lt (fun hu => (unhide HB).2.1 Bx hu rfl)).trans (unhide HB).1
        have x0 : wr.cell? ⟨Bx, 0, none⟩ = some (.int .i64 x.1.nu) := xb.cell 0 _ rfl
        have x2 : wr.cell? ⟨Bx, 2, none⟩ = some (.int .i64 x.1.si) := xb.cell 2 _ rfl
        have cs := h.sb.cell
        have fs := h.sb.frozen
        have cm := h.mb.cell
        have fm := h.mb.frozen
        have bk : ((k : Int) == (N : Int)) = false := by simp; omega
        have FIN : Hid (∀ nq, KeepsFrom w2.heap.size X ((((wr.drewN nq).setCell ⟨w.heap.size + 1 + 1 + 1, 0, none⟩ (.int .i64 (flt (l.ks.take i) + x.1.si))).setCell ⟨w.heap.size + 1 + 1 + 1 + 1, 0, none⟩ (.int .i64 ((i : Int) + 1))).setCell ⟨w.heap.size + 1 + 1, 0, none⟩ (.int .i64 ((k : Int) + 1))) ∧ KR R w2.heap.size X ((((wr.drewN nq).setCell ⟨w.heap.size + 1 + 1 + 1, 0, none⟩ (.int .i64 (flt (l.ks.take i) + x.1.si))).setCell ⟨w.heap.size + 1 + 1 + 1 + 1, 0, none⟩ (.int .i64 ((i : Int) + 1))).setCell ⟨w.heap.size + 1 + 1, 0, none⟩ (.int .i64 ((k : Int) + 1))) ∧ ∃ k', HI w lw l T (pre ++ [x]).length k' ((((wr.drewN nq).setCell ⟨w.heap.size + 1 + 1 + 1, 0, none⟩ (.int .i64 (flt (l.ks.take i) + x.1.si))).setCell ⟨w.heap.size + 1 + 1 + 1 + 1, 0, none⟩ (.int .i64 ((i : Int) + 1))).setCell ⟨w.heap.size + 1 + 1, 0, none⟩ (.int .i64 ((k : Int) + 1)))) := fun nq => by
          obtain ⟨h1, k1⟩ := (h.grown (drN wr nq)).turn hs hk2
          have kk := (kp.drewN nq).trans k1
          refine ⟨kk.kf fun g hg => by have := hiU_lt hg; omega, KR.of kk (fun g hg => ⟨by have := hiU_lt hg; omega, fun hr => by
            have := hX.lg.low
            have hge := hiU_ge hg
            have h0 := (unhide H0).lg.low g hr
            omega⟩) (fun g hg => by have := (unhide H0).lg.low g hg; have := (unhide HX).lg.low g hg; exact this), k + 1, ?_⟩
          rw [(unhide HB).2.2]
          exact h1
        clear hX h kp hs ht0 hil hrel I0 hkT ht e01 e02 hzf hk2 xb
        gi_upto_region 9 with fail
        refine region_quiet_round (F := Fence.wide) rfl (by kernel_rfl) (by kernel_rfl) (by kernel_rfl) ?_
        repeat (gi_big_quiet_step (fail))
        refine wpQuietIn_nil ?_
        intro _ hw'
        obtain ⟨nq, hw''⟩ := hw'
        subst hw''
        gi_wp2_with fail
        refine region_quiet_round (F := Fence.wide) rfl (by kernel_rfl) (by kernel_rfl) (by kernel_rfl) ?_
        repeat (gi_big_quiet_step (fail))
        refine wpQuietIn_nil ?_
        intro _ hw'
        obtain ⟨nq2, hw''⟩ := hw'
        subst hw''
        gi_wp2_with fail
        exact unhide FIN (nq + nq2)
      · have bz : (t.2.2 != 0) = true := by simpa using hz
        have I2 : Hid (∀ nq, ∃ k', HI w lw l T i k' ((wr.drewN nq).setCell ⟨w.heap.size + 1 + 1, 0, none⟩ (.int .i64 ((k : Int) + 1))) ∧ Kp (hiU w) X ((wr.drewN nq).setCell ⟨w.heap.size + 1 + 1, 0, none⟩ (.int .i64 ((k : Int) + 1))) ∧ boxN (w.heap.size + 1 + 1) ((wr.drewN nq).setCell ⟨w.heap.size + 1 + 1, 0, none⟩ (.int .i64 ((k : Int) + 1))) = k + 1 ∧ boxN (w.heap.size + 1 + 1) wr = k ∧ k < N) := fun nq => by
          have h1 := (h.grown (drN wr nq)).setk (k' := k + 1) (h.hk.skip ht hz)
          refine ⟨k + 1, h1, (kp.drewN nq).trans (kp_k _ _ _), boxN_of h1.kb.cell, boxN_of ck, by omega⟩
        clear hX h kp hs ht0 hil hrel I0 hkT ht
        gi_upto_region 9 with fail
        refine region_quiet_round (F := Fence.wide) rfl (by kernel_rfl) (by kernel_rfl) (by kernel_rfl) ?_
        repeat (gi_big_quiet_step (fail))
        refine wpQuietIn_nil ?_
        intro _ hw'
        obtain ⟨nq, hw''⟩ := hw'
        subst hw''
        gi_wp2_with fail
        go_roundw
        case rel => exact ⟨_, ((unhide I2) nq).choose_spec.1, ((unhide I2) nq).choose_spec.2.1⟩
        case measure =>
          obtain ⟨k', -, -, e1, e2, e3⟩ := (unhide I2) nq
          rw [e1, e2]
          omega
  case done =>
    rintro D xs X hD hS ⟨k, h⟩ hmk
    have hlen : xs.length = l.ks.length := by rw [← hS, List.length_map]
    rw [hlen] at h
    have hX := (unhide H0).grown h.gr
    have hzl := hX.ok.on.zl
    have REST := hide (h.hk.rest hzl.symm)
    have I0 : Hid (∃ k', k ≤ k' ∧ HI w lw l T l.ks.length k' X ∧ Kp (hiU w) X X) := ⟨k, Nat.le_refl _, h, Kp.refl _ _⟩
    have DL := (Array.getElem?_eq_some_iff.1 hmk).1
    have HM := hide hmk
    clear hX h hS hlen hzl SEQ hmk
    gi_wp2_with fail
    refine wpIn_wide.2 ?_
    go_loopw [] (fun wr => Hid (∃ k', k ≤ k' ∧ HI w lw l T l.ks.length k' wr ∧ Kp (hiU w) X wr)) (fun wr => T.length - boxN (w.heap.size + 1 + 1) wr)
    case atStart => exact I0
    case round =>
      obtain ⟨k', hkk, h, kp⟩ := unhide hrel
      have hX := (unhide H0).grown h.gr
      have cw := h.lb.cell
      have ck := h.kb.cell
      have fk := h.kb.frozen
      obtain ⟨an, cn, hnv⟩ : ∃ a c, nv = .slice a T.length c := by
        rcases hX.n_.sh with ⟨e1, e2⟩ | ⟨g, c, e1, -⟩
        · exact ⟨none, 0, by rw [e1, show T.length = 0 by simpa [nsT] using congrArg List.length e2]⟩
        · exact ⟨some ⟨g, 0, none⟩, c, by rw [e1]; simp [nsT]⟩
      subst hnv
      have c1 : wr.cell? ⟨lw, 1, none⟩ = some (.slice an T.length cn) := hX.ld.cell 1 _ rfl
      obtain ⟨N, hN⟩ : ∃ N, N = T.length := ⟨_, rfl⟩
      have hN6 : (N : Int) ≤ 1000000 := by omega
      have lenI : ¬ (9223372036854775807 : Int) < (N : Int) := by omega
      have hk0 : (0 : Int) ≤ (k' : Int) := by omega
      by_cases hlt : k' < T.length
      · have hkI : (k' : Int) < (N : Int) := by omega
        obtain ⟨t, ht⟩ : ∃ t, T[k']? = some t := ⟨_, List.getElem?_eq_getElem hlt⟩
        have hz := unhide REST k' t hkk ht
        have be : (t.2.2 == 0) = false := by simpa using hz
        have ne0 : ftT T ≠ [] := fun e => by have := congrArg List.length e; simp [ftT] at this; rw [this] at hlt; simp at hlt
        obtain ⟨gf, cf, hfv, -⟩ := hX.f_.sh.resolve_left (fun e => ne0 e.2)
        rw [show (ftT T).length = T.length by simp [ftT]] at hfv
        subst hfv
        have c3 : wr.cell? ⟨lw, 3, none⟩ = some (.slice (some ⟨gf, 0, none⟩) T.length cf) := hX.ld.cell 3 _ rfl
        have cf1 : wr.cell? ⟨gf, k', none⟩ = some (.int .i64 t.2.2) := hX.f_.cell k' _ (by show (T.map (·.2.2))[k']? = _; rw [List.getElem?_map, ht]; rfl)
        have w15 : IntKind.i64.wrap ((k' : Int) + 1) = (k' : Int) + 1 := by rw [IntKind.wrap_i64]; omega
        have I2 : Hid (∀ nq, ∃ k2, k ≤ k2 ∧ HI w lw l T l.ks.length k2 ((wr.drewN nq).setCell ⟨w.heap.size + 1 + 1, 0, none⟩ (.int .i64 ((k' : Int) + 1))) ∧ Kp (hiU w) X ((wr.drewN nq).setCell ⟨w.heap.size + 1 + 1, 0, none⟩ (.int .i64 ((k' : Int) + 1))) ∧ boxN (w.heap.size + 1 + 1) ((wr.drewN nq).setCell ⟨w.heap.size + 1 + 1, 0, none⟩ (.int .i64 ((k' : Int) + 1))) = k' + 1 ∧ boxN (w.heap.size + 1 + 1) wr = k' ∧ k' < T.length) := fun nq => by
          have h1 := (h.grown (drN wr nq)).setk (k' := k' + 1) (h.hk.skip ht hz)
          exact ⟨k' + 1, by omega, h1, (kp.drewN nq).trans (kp_k _ _ _), boxN_of h1.kb.cell, boxN_of ck, by omega⟩
        have MEAS : Hid (∀ nq, T.length - boxN (w.heap.size + 1 + 1) ((wr.drewN nq).setCell ⟨w.heap.size + 1 + 1, 0, none⟩ (.int .i64 ((k' : Int) + 1))) < T.length - boxN (w.heap.size + 1 + 1) wr) := fun nq => by
          obtain ⟨k2, -, -, -, e1, e2, e3⟩ := (unhide I2) nq
          rw [e1, e2]
          omega
        clear hX h kp hz ht ne0 hrel I0 hkk
        rw [← hN] at c1 c3
        replace hN := hide hN
        go_upto_region 16 with fail
        go_quiet (fail)
        go_wp2_with fail
        go_quiet (fail)
        go_wp2_with fail
        go_roundw
        case rel => exact ⟨_, ((unhide I2) _).choose_spec.1, ((unhide I2) _).choose_spec.2.1, ((unhide I2) _).choose_spec.2.2.1⟩
        case measure => exact (unhide MEAS) _
      · obtain rfl : k' = T.length := by have := h.hk.le; omega
        have hkI : ¬ ((T.length : Nat) : Int) < (N : Int) := by omega
        have VW := hide (fun nq => view_any b q kv l (wr.drewN nq) (hX.grown (drN wr nq)).lg.blk (hX.grown (drN wr nq)).lg.row (by have := hX.ok.kl; omega) hX.ok.si (hX.grown (drN wr nq)).lg.low)
        have HH := hide (And.intro h kp)
        have lb : wr.cell? ⟨lw, 0, none⟩ = some (.pointer (some ⟨b, 0, none⟩)) := hX.ld.cell 0 _ rfl
        have kl := hX.ok.kl
        clear hX h kp hrel I0 hkk
        rw [← hN] at c1 ck hkI hk0
        replace hN := hide hN
        go_upto_region 16 with fail
        go_quiet (fail)
        go_wp2_with fail
        refine wpIn_wide.2 ?_
        go_wp2_with fail
        refine ((unhide VW) _).mono ?_
        rintro e W5 ⟨rfl, g5⟩
        clear VW
        obtain ⟨h, kp⟩ := unhide HH
        have h5 := (h.grown (drN wr _)).grown g5
        obtain ⟨F, hF⟩ : ∃ F, F = flt l.ks := ⟨_, rfl⟩
        have e1 : l.ks.take l.ks.length = l.ks := List.take_length
        obtain ⟨M, hM⟩ : ∃ M, M = l.ks.length := ⟨_, rfl⟩
        obtain ⟨V, hV⟩ : ∃ V, V = wtg l.ks := ⟨_, rfl⟩
        rw [← hV]
        rw [← hM] at h5 e1 ⊢
        obtain ⟨W6, hW6⟩ : ∃ W6, W6 = W5.alloc (.cells (vw l F M V) 44) := ⟨_, rfl⟩
        have g6 : W5.grownBy W6 none := by rw [hW6]; exact grown_alloc _ _
        have b6 : Blk W6 W5.heap.size (vw l F M V) 44 := by rw [hW6]; exact Blk.new _ _ _
        have h6 := h5.grown g6
        have hX6 := (unhide H0).grown h6.gr
        obtain ⟨vb, hvb⟩ : ∃ vb, vb = W5.heap.size := ⟨_, rfl⟩
        have cs : W6.cell? ⟨w.heap.size + 1 + 1 + 1, 0, none⟩ = some (.int .i64 F) := by have := h6.sb.cell; rw [e1, ← hF] at this; exact this
        have cm : W6.cell? ⟨w.heap.size + 1 + 1 + 1 + 1, 0, none⟩ = some (.int .i64 (M : Int)) := h6.mb.cell
        have cw6 : W6.cell? ⟨w.heap.size, 0, none⟩ = some (.pointer (some ⟨lw, 0, none⟩)) := h6.lb.cell
        have cr : W6.cell? ⟨w.heap.size + 1, 0, none⟩ = some (.bool false) := h6.rb.cell
        have fr : W6.frozen? ⟨w.heap.size + 1, 0, none⟩ = false := h6.rb.frozen
        have c4 : W6.cell? ⟨lw, 4, none⟩ = some (.int .i64 l.ne) := hX6.ld.cell 4 _ rfl
        have c5 : W6.cell? ⟨lw, 5, none⟩ = some (.bool l.op) := hX6.ld.cell 5 _ rfl
        rw [← hvb] at b6
        have v0 : W6.cell? ⟨vb, 0, none⟩ = some (.bool l.op) := b6.cell 0 _ rfl
        have v1 : W6.cell? ⟨vb, 1, none⟩ = some (.int .i64 l.ne) := b6.cell 1 _ rfl
        have v5 : W6.cell? ⟨vb, 5, none⟩ = some (.int .i64 F) := b6.cell 5 _ rfl
        have v6 : W6.cell? ⟨vb, 6, none⟩ = some (.int .i64 (M : Int)) := b6.cell 6 _ rfl
        have m256 : (M : Int) ≤ 256 := by omega
        have NSZ : w.heap.size + 6 ≤ W5.heap.size := h5.sz
        have lwlt := (unhide H0).ld.lt
        have FIN := hide (And.intro h6 (And.intro kp (And.intro hX6 (grown_trans (drN wr _) (grown_trans g5 g6)))))
        clear HH h kp h5 g5 g6 b6 h6 hX6 e1 ck fk cw c1 lb
        rw [← hF]
        unfold vw at hW6 ⊢
        generalize l.ne = ne at *
        generalize l.op = op at *
        replace hF := hide hF
        replace hM := hide hM
        replace hV := hide hV
        go_upto_region 21 with fail
        rw [← hW6, ← hvb]
        replace hW6 := hide hW6
        replace hvb := hide hvb
        obtain ⟨h6, kp, hX6, gch⟩ := unhide FIN
        have mk6 : W6.heap[D]? = some (.deferred (some [])) := by
          rw [gch.block D (by have := kp.size; omega) (by simp), kp.block D DL (fun hu => by have := hiU_lt hu; omega)]
          exact unhide HM
        have D6 : D < W6.heap.size := (Array.getElem?_eq_some_iff.1 mk6).1
        have END : Hid ((W6.setCell ⟨w.heap.size + 1, 0, none⟩ (.bool true)).drew.heap[D]? = some (.deferred (some [])) ∧ ((W6.setCell ⟨w.heap.size + 1, 0, none⟩ (.bool true)).drew.putObj D (.deferred none)).cell? ⟨w.heap.size + 1, 0, none⟩ = some (.bool true) ∧ w.grownBy ((W6.setCell ⟨w.heap.size + 1, 0, none⟩ (.bool true)).drew.putObj D (.deferred none)) none) := by
          have nD : D ≠ w.heap.size + 1 := by omega
          refine ⟨(set_heap W6 _ _ _ _ nD).trans mk6, ?_, ?_⟩
          · have b1 : Boxed (W6.setCell ⟨w.heap.size + 1, 0, none⟩ (.bool true)) (w.heap.size + 1) 4 (.bool true) := Boxed.set _ h6.rb
            have b2 : Boxed ((W6.setCell ⟨w.heap.size + 1, 0, none⟩ (.bool true)).drew.putObj D (.deferred none)) (w.heap.size + 1) 4 (.bool true) := (World.putObj_heap_other (by omega)).trans b1
            exact b2.cell
          · have k1 : Kp (fun g => g = w.heap.size + 1) W6 (W6.setCell ⟨w.heap.size + 1, 0, none⟩ (.bool true)) := (Kp.refl _ W6).set _ _ _ (fun _ => rfl)
            have g1 := k1.gr (w0 := w) (fun g e => by omega) h6.gr
            exact ⟨g1.os, g1.tape, g1.output, by have := g1.size; simpa using this, fun k hk _ => (World.putObj_heap_other (by omega)).trans (g1.block k hk (by simp))⟩
        clear FIN h6 kp hX6 gch mk6 D6 HM
        go_region
        all_goals go_wp2_with fail
        obtain ⟨f1, f5, f6⟩ := unhide END
        refine ⟨by simp, .inl ⟨_, _, rfl, run_takeDeferred f1, ?_⟩⟩
        refine ⟨.bool true, ?_, rfl, f6⟩
        simp [results, Try.f9, go_sem, f5]
end Go.Proofs.Ytnflbefbgcbdfaa
