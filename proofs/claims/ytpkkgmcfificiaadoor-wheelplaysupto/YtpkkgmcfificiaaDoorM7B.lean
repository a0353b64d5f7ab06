/- D7Y, H7, BK, H9, P7Pla, one text. -/
import Derived.Test.YtpkkgmcfificiaaDoorM7A
import Derived.Test.YtpkkgmcfificiaaDoorM7Q
import Derived.LoopIn
import Derived.Test.YtpkkgmcfificiaaDoorHZ
import Derived.Test.YtpkkgmcfificiaaDoorCards
import Derived.ProofKit
import Derived.OpenShut
import Derived.ShutString
import Derived.ChangeOld
import Derived.SizedLaws
import Derived.Deep.Slices
import Derived.Deep.DeepHandedRow
import Derived.Lib.LaidTab
import Derived.Test.YtpkkgmcfificiaaDoorRows
import Derived.Test.YtpkkgmcfificiaaDoorTie
namespace Go.Proofs.YtpkkgmcfificiaaDoor
open Go.RowKit Go.Shelf Go.Maps
set_option linter.unusedVariables false
set_option maxRecDepth 100000
set_option maxHeartbeats 4000000

theorem gives_ok : GivesOk := fun {B w U W R c T} h ht hB x ok => (gives_any h ht hB x ok).mono (by
  rintro e w' ⟨rfl, U', p, s⟩
  exact ⟨rfl, U', _, p, s⟩)

/-- Both, by their blocks. -/
def PS (w wr : World) (m O W1 R1 W2 R2 : Nat) : Prop := ∃ p q : PX, p.W = W1 ∧ p.R = R1 ∧ q.W = W2 ∧ q.R = R2 ∧ ST w wr m O p q
theorem PS.swap {w wr : World} {m O W1 R1 W2 R2 : Nat} (h : PS w wr m O W1 R1 W2 R2) : PS w wr m O W2 R2 W1 R1 := by
  obtain ⟨p, q, a, b, c, d, st⟩ := h
  exact ⟨q, p, c, d, a, b, st.swap⟩
theorem PS.gr {w wr : World} {m O W1 R1 W2 R2 : Nat} (h : PS w wr m O W1 R1 W2 R2) : w.grownBy wr none := by
  obtain ⟨p, q, -, -, -, -, st⟩ := h
  exact st.gr
theorem ps_step {w wr : World} {m O W1 R1 W2 R2 : Nat} (h : PS w wr m O W1 R1 W2 R2) (h0 : 0 < w.heap.size) (hm : m ≤ 10000000) (x : OpD) (ok : x.Ok) :
    Calls Tryd.prog 10 #[ptr W1, ptr R1, .agg #[.int .i64 x.kind, .bool x.other, .int .i64 x.id, .int .i64 x.at_], ptr O] wr fun e w' => e = .returned (.bool true) ∧ PS w w' (m + 2) O W1 R1 W2 R2 := by
  obtain ⟨p, q, rfl, rfl, rfl, rfl, st⟩ := h
  refine (step_any gives_ok st h0 x ok hm).mono ?_
  rintro e w' ⟨rfl, p', e1, e2, st'⟩
  exact ⟨rfl, p', q, e1, e2, rfl, rfl, st'⟩
/-- What stands at the end. -/
theorem ps_end {w wr : World} {m O W1 R1 W2 R2 : Nat} (h : PS w wr m O W1 R1 W2 R2) (h0 : 0 < w.heap.size) (hm : m ≤ 10000000) :
    Calls Tryd.prog 11 #[ptr O, .slice none 0 0, .slice none 0 0] wr fun e w1 => e = .returned (.bool true) ∧ ∃ n : Int, Hid (Calls Tryd.prog 12 #[ptr R1] w1 fun e w2 => e = .returned (.int .i64 n) ∧ w2 = w1) ∧
      Hid (Calls Tryd.prog 13 #[ptr W1, .int .i64 n] w1 fun e w2 => ∃ a1 k c1, e = .returned (.slice a1 k c1) ∧ Hid (Calls Tryd.prog 14 #[ptr R1, .int .i64 n] w2 fun e w3 => ∃ a2 c2, e = .returned (.slice a2 k c2) ∧
      Hid (Calls Tryd.prog 13 #[ptr W2, .int .i64 4611686018427387904] w3 fun e w4 => ∃ a3 k3 c3, e = .returned (.slice a3 k3 c3) ∧ Hid (Calls Tryd.prog 14 #[ptr R2, .int .i64 4611686018427387904] w4 fun e w5 => ∃ a4 c4, e = .returned (.slice a4 k3 c4) ∧
        Hid (Calls Tryd.prog 15 #[.slice a1 k c1, .slice a2 k c2] w5 fun e w6 => e = .returned (.bool true) ∧ Hid (Calls Tryd.prog 15 #[.slice a3 k3 c3, .slice a4 k3 c4] w6 fun e w7 => e = .returned (.bool true) ∧ w.grownBy w7 none)))))) := by
  obtain ⟨p, q, rfl, rfl, rfl, rfl, st⟩ := h
  refine (st_close st h0 hm).mono ?_
  rintro e w1 ⟨rfl, st1⟩
  refine ⟨rfl, (nextT p.T : Int), ?_, st_last st1 h0 _ _⟩
  obtain ⟨U1, U2, D, p1, -⟩ := st1.ex
  obtain ⟨S, Q, wl, rw, -⟩ := p1.ex
  exact rnext_any rw

theorem plays_walk (now other : Int) (a0 : Option Addr) (len cap : Nat) (ol : List OpD) (w : World) (h : IsOps w a0 len cap ol) (ht : Tb w) (few : len ≤ 1048576) :
    Calls Tryd.prog 3 #[.int .i64 now, .int .i64 other, .slice a0 len cap] w fun e w' => e = .returned (.bool true) ∧ Below w.heap.size w w' := by
  have h0 := ht.lt
  have sh := shown_any w ht
  have HO := hide h; have HT := hide ht
  have hl := h.hlen
  have hcap := h.hcap
  have lenI : ¬ (9223372036854775807 : Int) < (len : Int) := by omega
  clear h ht
  go_enter Tryd.func3, Tryd.ntmps3
  go_wp2_with fail
  refine sh.mono ?_
  rintro e w1 ⟨rfl, g1⟩
  have n1 := wl_new w.heap.size now w1 g1.size
  clear sh
  go_wp2_with fail
  refine n1.mono ?_
  rintro e w2 ⟨W1, rfl, a1, g2⟩
  have n2 := wl_new w.heap.size other w2 (Nat.le_trans g1.size g2.size)
  have A1 := hide a1
  clear n1 a1
  go_wp2_with fail
  refine n2.mono ?_
  rintro e w3 ⟨W2, rfl, a2, g3⟩
  have n3 := rnew_any w.heap.size now w3 (Nat.le_trans (Nat.le_trans g1.size g2.size) g3.size)
  have A2 := hide a2
  clear n2 a2
  go_wp2_with fail
  refine n3.mono ?_
  rintro e w4 ⟨R1, rfl, b1, g4⟩
  have n4 := rnew_any w.heap.size other w4 (Nat.le_trans (Nat.le_trans (Nat.le_trans g1.size g2.size) g3.size) g4.size)
  have B1 := hide b1
  clear n3 b1
  go_wp2_with fail
  refine n4.mono ?_
  rintro e w5 ⟨R2, rfl, b2, g5⟩
  have S0 : Hid (PS w (w5.alloc (.cells #[.slice none 0 0, .slice none 0 0, .slice none 0 0] 32)) 0 w5.heap.size W1 R1 W2 R2) := ⟨_, _, rfl, rfl, rfl, rfl, st_start (unhide HT) g1 (unhide A1) g2 (unhide A2) g3 (unhide B1) g4 b2 g5⟩
  clear n4 b2 A1 A2 B1 g1 g2 g3 g4 g5
  go_wp2_with fail
  generalize w5.heap.size = O at *
  generalize w5.alloc _ = w6 at *
  go_loopw [13] (fun iv wr => ∃ i : Nat, i ≤ len ∧ iv = .int .i64 i ∧ Hid (PS w wr (2 * i) O W1 R1 W2 R2)) (fun iv _ => len - (intOf iv).toNat)
  case atStart => exact ⟨0, Nat.zero_le _, rfl, S0⟩
  case round =>
    clear S0
    obtain ⟨i, hi, rfl, H⟩ := hrel
    by_cases hlt : i < len
    · obtain ⟨bo, off, rfl, hcs⟩ := (unhide HO).cell.resolve_left (by omega)
      have hx' : ol[i]? = some ol[i] := List.getElem?_eq_getElem _
      have hcx := hcs i _ hx'
      have xk := (unhide HO).ok _ (List.mem_of_getElem? hx')
      generalize ol[i] = x at *
      have gw := (unhide H).gr
      have c0 := gw.cell hcx.1 (by simp)
      have c1 := gw.cell hcx.2.1 (by simp)
      have c2 := gw.cell hcx.2.2.1 (by simp)
      have c3 := gw.cell hcx.2.2.2 (by simp)
      have il : (i : Int) < (len : Int) := by omega
      have SA := ps_step (unhide H) h0 (by omega) { x with other := false } ⟨xk.k, xk.i, xk.a⟩
      have SB := ps_step (unhide H).swap h0 (by omega) { x with other := true } ⟨xk.k, xk.i, xk.a⟩
      have HLT := hide hlt
      clear hcs hcx hx' hlt hi gw xk H
      cases ho : x.other with
      | false =>
        rw [ho] at c1
        clear SB ho
        go_wp2_with fail
        refine SA.mono ?_
        rintro e w' ⟨rfl, ps⟩
        have E := hide ps
        clear SA ps c0 c1 c2 c3
        go_wp2_with fail
        have il2 := unhide HLT
        refine ⟨⟨i + 1, by omega, by go_num, ?_⟩, by simp [intOf]; omega⟩
        rw [show 2 * (i + 1) = 2 * i + 2 by omega]
        exact E
      | true =>
        rw [ho] at c1
        clear SA ho
        go_wp2_with fail
        refine SB.mono ?_
        rintro e w' ⟨rfl, ps⟩
        have E := hide ps.swap
        clear SB ps c0 c1 c2 c3
        go_wp2_with fail
        have il2 := unhide HLT
        refine ⟨⟨i + 1, by omega, by go_num, ?_⟩, by simp [intOf]; omega⟩
        rw [show 2 * (i + 1) = 2 * i + 2 by omega]
        exact E
    · obtain rfl : i = len := by omega
      have il : ¬ (i : Int) < (i : Int) := by omega
      have C := ps_end (unhide H) h0 (by omega)
      clear H
      go_wp2_with fail
      refine C.mono ?_
      rintro e w7 ⟨rfl, n, C1, C2⟩
      clear C
      go_wp2_with fail
      refine (unhide C1).mono ?_
      rintro e X ⟨rfl, hw⟩
      replace hw := hw.symm
      subst hw
      clear C1
      go_wp2_with fail
      refine (unhide C2).mono ?_
      rintro e w8 ⟨a1, k, c1, rfl, C3⟩
      clear C2
      go_wp2_with fail
      refine (unhide C3).mono ?_
      rintro e w9 ⟨a2, c2, rfl, C4⟩
      clear C3
      go_wp2_with fail
      refine (unhide C4).mono ?_
      rintro e w10 ⟨a3, k3, c3, rfl, C5⟩
      clear C4
      go_wp2_with fail
      refine (unhide C5).mono ?_
      rintro e w11 ⟨a4, c4, rfl, C6⟩
      clear C5
      go_wp2_with fail
      refine (unhide C6).mono ?_
      rintro e w12 ⟨rfl, C7⟩
      clear C6
      go_wp2_with fail
      refine (unhide C7).mono ?_
      rintro e w13 ⟨rfl, gz⟩
      have E := hide (grown_bel gz)
      clear C7 gz
      go_wp2_with fail
      go_ret
      exact ⟨rfl, unhide E⟩
end Go.Proofs.YtpkkgmcfificiaaDoor

namespace Go.Proofs.YtpkkgmcfificiaaDoor
open Go.ChangeShapes Go.WideShapes Go.ChangeAt Go.RowKit
set_option linter.unusedVariables false
set_option maxRecDepth 100000
set_option maxHeartbeats 1000000

theorem gTab : Tryd.prog.globalNamed "math/bits.deBruijn64tab" = some 0 := by kernel_rfl
theorem gTabType : (Tryd.prog.globals[0]?).map (·.type) = some 100 := by kernel_rfl
theorem cells5 : Tryd.prog.cellsOf 5 = 1 := by kernel_rfl
theorem cells64 : Tryd.prog.cellsOf 100 = 64 := by kernel_rfl
theorem laid_deb {H : Type} : Rows.laid_math_bits_deBruijn64tab (H := H) = .agg (deb.map fun (n : Nat) => .lit (.int .u8 (n : Int))) := rfl

theorem tab_of {W : World} (h0 : laidMetH Tryd.prog [("math/bits.deBruijn64tab", Rows.laid_math_bits_deBruijn64tab)] W) : Tb W := by
  have h : laidMet Tryd.prog [("math/bits.deBruijn64tab", Rows.laid_math_bits_deBruijn64tab)] W := h0
  obtain ⟨ps, ⟨g', t', cs, fuel, p, q, hg', ht', hvar, hd, _, _⟩, _⟩ := h
  obtain rfl := Option.some.inj (gTab.symm.trans hg')
  obtain rfl := Option.some.inj (gTabType.symm.trans ht')
  obtain ⟨xs, n, rfl, hx, hl, hn, hf⟩ := DataW.trod_array Tryd.underlying100 hd
  rw [cells64] at hl
  simp only [cells5] at hf
  rw [laid_deb] at hx
  simp only [Prod.mk.injEq, DataW.agg.injEq] at hx
  have hcs : cs = debA := by
    have hT : cs.toList = debA.toList := by
      apply List.ext_getElem?
      intro j
      by_cases hj : j < 64
      · have hh := hf j hj
        have hxj : xs[j]? = some (xs[j]'(by omega)) := List.getElem?_eq_getElem _
        rw [hxj] at hh
        obtain ⟨v, e1, e2, -⟩ := DataW.trod_int Tryd.underlying5 hh
        have e3 : (xs.map Prod.fst)[j]? = (deb.map fun (n : Nat) => (DataW.lit (.int .u8 (n : Int)) : DataW Unit))[j]? := by rw [hx.1]
        have dl : deb.length = 64 := rfl
        rw [List.getElem?_map, hxj, Option.map_some, e2, List.getElem?_map, List.getElem?_eq_getElem (by omega)] at e3
        simp only [Option.map_some, Option.some.injEq, DataW.lit.injEq, Lit.int.injEq, true_and] at e3
        have e4 : (cs.toList.drop (j * 1)).take 1 = [.int .u8 v] := e1
        rw [Nat.mul_one] at e4
        have e5 : cs.toList[j]? = some (.int .u8 v) := by
          have : ((cs.toList.drop j).take 1)[0]? = some (.int .u8 v) := by rw [e4]; rfl
          rw [List.getElem?_take, if_pos (by omega), List.getElem?_drop] at this
          simpa using this
        rw [e5, e3]
        simp only [debA, List.getElem?_map]
        rw [List.getElem?_eq_getElem (by omega)]
        rfl
      · rw [List.getElem?_eq_none (by omega), List.getElem?_eq_none (by show debA.toList.length ≤ j; have : debA.toList.length = 64 := rfl; omega)]
    exact Array.toList_inj.1 hT
  subst hcs
  unfold World.var? at hvar
  rw [gTab] at hvar
  simp only [Option.bind_some] at hvar
  split at hvar
  · rename_i c t f e
    injection hvar with hvar
    exact ⟨t, f, by rw [e, hvar]⟩
  · cases hvar

theorem wf_i64 {z : Int} (h : (Lit.int .i64 z).wf = true) : -9223372036854775808 ≤ z ∧ z ≤ 9223372036854775807 := by
  simp [Lit.wf, IntKind.min, IntKind.max] at h
  exact ⟨of_decide_eq_true h.1, of_decide_eq_true h.2⟩

section
variable {H : Type} {enc : TypeId × Value → H} {w : World} {base : Nat} {spare : Nat → Bool} {held : Bool}

theorem op_cells {n : Nat} {cs : List Value} {y : DataW H × List MemPlace} (h2 : DataW.trod enc Tryd.prog w base spare held n 34 cs = some y) (hl : cs.length = 4) :
    ∃ x : OpD, x.Ok ∧ cs = [.int .i64 x.kind, .bool x.other, .int .i64 x.id, .int .i64 x.at_] := by
  obtain ⟨xs, m, hk, hxy, hcl, hxl, hf⟩ := DataW.trod_struct Tryd.underlying34 h2
  have c3 : Tryd.prog.cellsOf 3 = 1 := by kernel_rfl
  have c2 : Tryd.prog.cellsOf 2 = 1 := by kernel_rfl
  have c4 : Tryd.prog.cellsOf 4 = 1 := by kernel_rfl
  match xs, hxl, cs, hl with
  | [y0, y1, y2, y3], _, [v0, v1, v2, v3], _ =>
    have f0 := hf 0 _ rfl
    have f1 := hf 1 _ rfl
    have f2 := hf 2 _ rfl
    have f3 := hf 3 _ rfl
    simp [c2, c3, c4] at f0 f1 f2 f3
    obtain ⟨k, e0, _, r0⟩ := DataW.trod_int Tryd.underlying3 f0
    obtain ⟨o, e1, _⟩ := DataW.trod_bool Tryd.underlying4 f1
    obtain ⟨i, e2, _, r2⟩ := DataW.trod_int Tryd.underlying3 f2
    obtain ⟨a, e3, _, r3⟩ := DataW.trod_int Tryd.underlying2 f3
    simp only [List.cons.injEq, and_true] at e0 e1 e2 e3
    subst e0 e1 e2 e3
    exact ⟨⟨k, o, i, a⟩, ⟨wf_i64 r0, r2, wf_i64 r3⟩, rfl⟩

theorem list_of {P : Nat → OpD → Prop} : ∀ n : Nat, (∀ i, i < n → ∃ x, P i x) → ∃ l : List OpD, l.length = n ∧ ∀ i x, l[i]? = some x → P i x
  | 0, _ => ⟨[], rfl, fun i x h => by simp at h⟩
  | n + 1, h => by
    obtain ⟨l, hl, hP⟩ := list_of n (fun i hi => h i (by omega))
    obtain ⟨x, hx⟩ := h n (by omega)
    refine ⟨l ++ [x], by simp [hl], fun i y hy => ?_⟩
    by_cases c : i < n
    · rw [List.getElem?_append_left (by omega)] at hy
      exact hP i y hy
    · have hi : i < (l ++ [x]).length := (List.getElem?_eq_some_iff.1 hy).1
      simp [hl] at hi
      obtain rfl : i = n := by omega
      rw [List.getElem?_append_right (by omega), hl] at hy
      simp at hy
      subst hy
      exact hx

theorem open_ops {a : Option Addr} {len cap fuel : Nat} {x : DataW H × List MemPlace} (hf : DataW.trod enc Tryd.prog w base spare held fuel 22 [.slice a len cap] = some x) : ∃ ol, IsOps w a len cap ol := by
  have c4 : Tryd.prog.cellsOf 34 = 4 := by kernel_rfl
  rcases Go.Deep.open_slice Tryd.underlying22 hf with ⟨hcs, _⟩ | ⟨ad, l, c, m, n, D, Pl, hcs, _, hl, hm, hmm, _, hx⟩
  · simp at hcs
    obtain ⟨rfl, rfl, rfl⟩ := hcs
    exact ⟨[], rfl, by omega, by simp, .inl rfl⟩
  · simp at hcs
    obtain ⟨rfl, rfl, rfl⟩ := hcs
    have hlm : len ≤ m := by rw [hmm]; split <;> omega
    have each : ∀ i, i < len → ∃ x : OpD, x.Ok ∧ ∀ j v, [Value.int .i64 x.kind, .bool x.other, .int .i64 x.id, .int .i64 x.at_][j]? = some v → w.cell? (ad.add (i * 4) |>.add j) = some v := fun i hi => by
      obtain ⟨cs', h1, h2⟩ := hx i (by omega)
      rw [c4] at h1
      obtain ⟨_, hlen, hcell⟩ := World.cells?_some h1
      obtain ⟨x, ok, rfl⟩ := op_cells h2 hlen
      exact ⟨x, ok, fun j v hj => by rw [hcell j (by have := (List.getElem?_eq_some_iff.1 hj).1; simpa using this)]; exact hj⟩
    obtain ⟨ol, hol, hP⟩ := list_of len each
    refine ⟨ol, hol, ⟨hl, by unfold maxLen at hm; omega⟩, fun x hx => ?_, ?_⟩
    · obtain ⟨i, hi⟩ := List.getElem?_of_mem hx
      exact (hP i x hi).1
    · by_cases h0 : len = 0
      · exact .inl h0
      · right
        obtain ⟨x, ok, hc⟩ := each 0 (by omega)
        have hs : ad.spot = none := by
          have := hc 0 _ rfl
          unfold World.cell? at this
          split at this
          · split at this
            · cases this
            · rename_i hsp
              cases hsq : ad.spot with
              | none => rfl
              | some q => simp [Addr.add, hsq] at hsp
          · cases this
        obtain ⟨bb, off, sp⟩ := ad
        simp only at hs
        subst hs
        refine ⟨bb, off, rfl, fun i x hi => ?_⟩
        have hc := (hP i x hi).2
        have q0 := hc 0 _ rfl
        have q1 := hc 1 _ rfl
        have q2 := hc 2 _ rfl
        have q3 := hc 3 _ rfl
        simp only [Addr.add_lit, Nat.add_zero] at q0 q1 q2 q3
        exact ⟨q0, q1, q2, q3⟩
end
end Go.Proofs.YtpkkgmcfificiaaDoor

namespace Go.Proofs.YtpkkgmcfificiaaDoor

theorem bulk_pos {H : Type} (d : DataW H) : 0 < Rows.uptoBulk d := by
  cases d with
  | lit l => cases l <;> simp [Rows.uptoBulk]
  | _ => simp [Rows.uptoBulk]

theorem bulk_count {H : Type} : ∀ l : List (DataW H), l.length ≤ Rows.uptoBulkAll l
  | [] => Nat.zero_le _
  | d :: r => by
    have h1 := bulk_pos d
    have h2 := bulk_count r
    simp only [Rows.uptoBulkAll, List.length_cons]
    omega

theorem bulk_slice {H : Type} (e s : List (DataW H)) : e.length + s.length < Rows.uptoBulk (.slice e s) := by
  have h1 := bulk_count e
  have h2 := bulk_count s
  simp only [Rows.uptoBulk]
  omega

theorem bulk_among {H : Type} {d : DataW H} : ∀ {l : List (DataW H)}, d ∈ l → Rows.uptoBulk d ≤ Rows.uptoBulkAll l
  | x :: r, h => by
    simp only [Rows.uptoBulkAll]
    rcases List.mem_cons.1 h with e | e
    · subst e; omega
    · have := bulk_among e; omega

theorem bulk_mem {H : Type} {d : DataW H} {l : List (DataW H)} (hk : Rows.uptoSmall H l = true) (h : d ∈ l) : Rows.uptoBulk d ≤ 1048576 := by
  have h1 : Rows.uptoBulkAll l ≤ 1048576 := of_decide_eq_true hk
  have h2 := bulk_among h
  omega
end Go.Proofs.YtpkkgmcfificiaaDoor

namespace Go.Proofs.YtpkkgmcfificiaaDoor
open Go.ChangeShapes Go.WideShapes Go.ChangeAt Go.RowKit
set_option linter.unusedVariables false
set_option maxRecDepth 100000

section
variable {H : Type} {enc : TypeId × Value → H} {w : World} {base : Nat} {spare : Nat → Bool} {held : Bool}
theorem ops_bulk {a : Option Addr} {len cap fuel : Nat} {x : DataW H × List MemPlace} (hf : DataW.trod enc Tryd.prog w base spare held fuel 22 [.slice a len cap] = some x) : len ≤ Rows.uptoBulk x.1 := by
  rcases Go.Deep.open_slice Tryd.underlying22 hf with ⟨hcs, _⟩ | ⟨ad, l, c, m, n, D, Pl, hcs, _, hl, hm, hmm, rfl, hx⟩
  · simp at hcs
    omega
  · simp at hcs
    obtain ⟨rfl, rfl, rfl⟩ := hcs
    refine Nat.le_trans ?_ (Nat.le_of_lt (bulk_slice _ _))
    simp only [List.length_map, List.length_range]
    omega
end
end Go.Proofs.YtpkkgmcfificiaaDoor

namespace Go.Proofs.YtpkkgmcfificiaaDoor
open Go.ChangeShapes Go.WideShapes Go.ChangeAt Go.RowKit
set_option linter.unusedVariables false
set_option maxRecDepth 100000
namespace wheelPlaysFrame

theorem own : ownKnob Tryd.prog.godebug = none := by kernel_rfl
theorem laidOut : laidOutB Tryd.prog = true := by kernel_rfl
theorem laid_met (os : Os) : laidMet Tryd.prog Rows.wheelPlaysUptoRow.laid (({ World.holding Tryd.prog os ⟨#[], #[], []⟩ with heap := (World.holding Tryd.prog os ⟨#[], #[], []⟩).heap.modify 0 fun | .cells _ t frozen => .cells #[.int .u8 0, .int .u8 1, .int .u8 56, .int .u8 2, .int .u8 57, .int .u8 49, .int .u8 28, .int .u8 3, .int .u8 61, .int .u8 58, .int .u8 42, .int .u8 50, .int .u8 38, .int .u8 29, .int .u8 17, .int .u8 4, .int .u8 62, .int .u8 47, .int .u8 59, .int .u8 36, .int .u8 45, .int .u8 43, .int .u8 51, .int .u8 22, .int .u8 53, .int .u8 39, .int .u8 33, .int .u8 30, .int .u8 24, .int .u8 18, .int .u8 12, .int .u8 5, .int .u8 63, .int .u8 55, .int .u8 48, .int .u8 27, .int .u8 60, .int .u8 41, .int .u8 37, .int .u8 16, .int .u8 46, .int .u8 35, .int .u8 44, .int .u8 21, .int .u8 52, .int .u8 32, .int .u8 23, .int .u8 11, .int .u8 54, .int .u8 26, .int .u8 40, .int .u8 15, .int .u8 34, .int .u8 20, .int .u8 31, .int .u8 10, .int .u8 25, .int .u8 14, .int .u8 19, .int .u8 9, .int .u8 13, .int .u8 8, .int .u8 7, .int .u8 6] t frozen | o => o } : World).forCall (fun _ _ => 0) ⟨#[], #[.int .i64 0, .int .i64 0, .slice none 0 0], []⟩).memory :=
  laidMet_of_run' 8 (by kernel_rfl) (by kernel_rfl)
theorem reads (os : Os) {H : Type} (enc : TypeId × Value → H) : ∃ places, DataW.whole enc Tryd.prog (({ World.holding Tryd.prog os ⟨#[], #[], []⟩ with heap := (World.holding Tryd.prog os ⟨#[], #[], []⟩).heap.modify 0 fun | .cells _ t frozen => .cells #[.int .u8 0, .int .u8 1, .int .u8 56, .int .u8 2, .int .u8 57, .int .u8 49, .int .u8 28, .int .u8 3, .int .u8 61, .int .u8 58, .int .u8 42, .int .u8 50, .int .u8 38, .int .u8 29, .int .u8 17, .int .u8 4, .int .u8 62, .int .u8 47, .int .u8 59, .int .u8 36, .int .u8 45, .int .u8 43, .int .u8 51, .int .u8 22, .int .u8 53, .int .u8 39, .int .u8 33, .int .u8 30, .int .u8 24, .int .u8 18, .int .u8 12, .int .u8 5, .int .u8 63, .int .u8 55, .int .u8 48, .int .u8 27, .int .u8 60, .int .u8 41, .int .u8 37, .int .u8 16, .int .u8 46, .int .u8 35, .int .u8 44, .int .u8 21, .int .u8 52, .int .u8 32, .int .u8 23, .int .u8 11, .int .u8 54, .int .u8 26, .int .u8 40, .int .u8 15, .int .u8 34, .int .u8 20, .int .u8 31, .int .u8 10, .int .u8 25, .int .u8 14, .int .u8 19, .int .u8 9, .int .u8 13, .int .u8 8, .int .u8 7, .int .u8 6] t frozen | o => o } : World).forCall (fun _ _ => 0) ⟨#[], #[.int .i64 0, .int .i64 0, .slice none 0 0], []⟩).memory Tryd.f3.params.toList Rows.wheelPlaysSpec.vars false (#[.int .i64 0, .int .i64 0, .slice none 0 0] : Array Value).toList 8 = some ([.lit (.int .i64 0), .lit (.int .i64 0), .nil], [], places) :=
  ⟨[], by kernel_rfl⟩

set_option maxRecDepth 100000 in
theorem lifted (os : Os) (started : os.Started) (H : Type) (enc : TypeId × Value → H) (F : Stop.Interp) :
    ReturnsInHanded {} Tryd.checked os 3 .any ((Rows.OpenSpec.upto Rows.wheelPlaysSpec).preRow enc Tryd.prog Tryd.f3 Rows.wheelPlaysUptoRow.domain false Rows.wheelPlaysUptoRow.laid) (((Rows.OpenSpec.upto Rows.wheelPlaysSpec).at F).post enc Tryd.prog Tryd.f3 false true false false) := by
  obtain ⟨places, hx⟩ := reads os enc
  refine returnsInHanded_of_row (C := Tryd.checked) (s := Rows.OpenSpec.upto Rows.wheelPlaysSpec) own started (by kernel_rfl) Tryd.func3
    (witness_row_at (enc := enc) (C := Tryd.checked) false ({ World.holding Tryd.prog os ⟨#[], #[], []⟩ with heap := (World.holding Tryd.prog os ⟨#[], #[], []⟩).heap.modify 0 fun | .cells _ t frozen => .cells #[.int .u8 0, .int .u8 1, .int .u8 56, .int .u8 2, .int .u8 57, .int .u8 49, .int .u8 28, .int .u8 3, .int .u8 61, .int .u8 58, .int .u8 42, .int .u8 50, .int .u8 38, .int .u8 29, .int .u8 17, .int .u8 4, .int .u8 62, .int .u8 47, .int .u8 59, .int .u8 36, .int .u8 45, .int .u8 43, .int .u8 51, .int .u8 22, .int .u8 53, .int .u8 39, .int .u8 33, .int .u8 30, .int .u8 24, .int .u8 18, .int .u8 12, .int .u8 5, .int .u8 63, .int .u8 55, .int .u8 48, .int .u8 27, .int .u8 60, .int .u8 41, .int .u8 37, .int .u8 16, .int .u8 46, .int .u8 35, .int .u8 44, .int .u8 21, .int .u8 52, .int .u8 32, .int .u8 23, .int .u8 11, .int .u8 54, .int .u8 26, .int .u8 40, .int .u8 15, .int .u8 34, .int .u8 20, .int .u8 31, .int .u8 10, .int .u8 25, .int .u8 14, .int .u8 19, .int .u8 9, .int .u8 13, .int .u8 8, .int .u8 7, .int .u8 6] t frozen | o => o } : World) #[.int .i64 0, .int .i64 0, .slice none 0 0] rfl (by kernel_rfl) (by kernel_rfl) (by kernel_rfl)
      (OpenSpec.preRow_of_cond 8 hx (by kernel_rfl) (fun k hk => by cases hk; kernel_rfl) (by kernel_rfl) (laid_met os))) ?_
  intro W base args ds gs before hval0 hW hcnd hcond hsz0 hL _ _
  have hT : Tb W := tab_of hL
  have hk : Rows.uptoSmall H (ds ++ gs) = true := hcond _ rfl
  have hsz : (DataW.weightsEach Tryd.prog (Tryd.f3.params.toList ++ (Rows.OpenSpec.upto Rows.wheelPlaysSpec).bare.plain.varTypes Tryd.prog) (ds ++ gs)).all (· ≤ reachBytes) = true := hsz0
  have hval : ∀ (j : Nat) t v, Tryd.f3.params[j]? = some t → args[j]? = some v → Value.okWide Tryd.prog W .any base t v := hval0
  have hW' := hW
  obtain ⟨p, q, hA0, hV, rfl, hfz, hnd⟩ := hW
  have hA : DataW.TrodAll enc Tryd.prog W 0 (fun _ => true) true Tryd.f3.params.toList args.toList ds p := hA0
  rw [Tryd.params3] at hA hval hsz
  obtain ⟨v0, vs0, d0, ds0, p0, q0, hargs, rfl, rfl, h0, r0⟩ := trodAll_cons hA
  obtain ⟨v1, vs1, d1, ds1, p1, q1, rfl, rfl, rfl, h1, r1⟩ := trodAll_cons r0
  obtain ⟨v2, vs2, d2, ds2, p2, q2, rfl, rfl, rfl, h2, r2⟩ := trodAll_cons r1
  obtain ⟨rfl, rfl, rfl⟩ := trodAll_nil r2
  obtain rfl : args = #[v0, v1, v2] := by cases args; simp_all
  obtain ⟨rfl, rfl⟩ := trodVars_none hV
  have k0 := h0
  have lt0 : ∀ x ∈ p0, x.block < W.heap.size := by obtain ⟨m, hm⟩ := k0; exact DataW.trod_lt m _ _ _ hm
  obtain ⟨a0, rfl, rfl, rfl, w0⟩ := open_int Tryd.underlying2 (hval 0 2 v0 rfl rfl) h0
  have k1 := h1
  have lt1 : ∀ x ∈ p1, x.block < W.heap.size := by obtain ⟨m, hm⟩ := k1; exact DataW.trod_lt m _ _ _ hm
  obtain ⟨a1, rfl, rfl, rfl, w1⟩ := open_int Tryd.underlying2 (hval 1 2 v1 rfl rfl) h1
  have k2 := h2
  have lt2 : ∀ x ∈ p2, x.block < W.heap.size := by obtain ⟨m, hm⟩ := k2; exact DataW.trod_lt m _ _ _ hm
  obtain ⟨a2, len2, cap2, rfl⟩ := okWide_slice Tryd.underlying22 (hval 2 22 v2 rfl rfl)
  obtain ⟨ol2, w2⟩ : ∃ ol, IsOps W a2 len2 cap2 ol := by
    obtain ⟨fuel, hf⟩ := h2
    exact open_ops (by simpa [Value.cells] using hf)
  have bk2 : len2 ≤ 1048576 := by
    obtain ⟨fuel, hf⟩ := h2
    exact Nat.le_trans (ops_bulk (x := (d2, p2)) (by simpa [Value.cells] using hf)) (bulk_mem hk (d := d2) (by simp))
  clear hA0 hval0
  refine (plays_walk a0 a1 a2 len2 cap2 ol2 W w2 hT bk2).mono fun e W' ⟨he, bel⟩ => ?_
  subst he
  exact ⟨_, rfl, _, _, _, [], _, [], hW', trodAll_mk1 (shut_bool Tryd.underlying4 _), (trodAll_cons_mk (shut_int Tryd.underlying2 w0) (trodAll_cons_mk (shut_int Tryd.underlying2 w1) (trodAll_cons_mk (Below.trod laidOut (by kernel_rfl) (of_decide_eq_true (by kernel_rfl)) k2 bel lt2) trodAll_mk0))), rfl, bel.frame _, fun h => by cases h⟩

theorem said : Rows.WheelPlaysUptoSaid :=
  OpenClaim.holds_of_cond 3 Tryd.f3 rfl rfl rfl rfl rfl rfl rfl ⟨rfl, rfl, rfl, rfl, rfl⟩ rfl rfl rfl rfl rfl (by kernel_rfl) Tryd.func3 (by kernel_rfl)
    (of_decide_eq_true (by kernel_rfl)) (by unfold Func.isWrapper; first | (rw [if_pos (by decide +kernel)]; kernel_rfl) | (rw [if_neg (by decide +kernel)]; exact ⟨rfl, rfl⟩))
    (fun os started H enc _ F => by rw [OpenClaim.pre_eq_preRow]; exact lifted os started H enc F)

/-- No parameter wants a stand-in; the program's own looks are off. -/
theorem plain (f : FuncId) (fn : Func) (hf : Tryd.pinned.checked.prog.funcNamed "portage/portagelaw07.WheelPlays" = some f) (hfn : Tryd.pinned.checked.prog.funcs[f]? = some fn) :
    false = Tryd.pinned.checked.prog.looks [] ∧ ∀ (j : Nat) t, fn.params[j]? = some t → Tryd.pinned.checked.prog.wantsStandIn t = false := by
  obtain rfl : f = 3 := Option.some.inj ((show Tryd.prog.funcNamed "portage/portagelaw07.WheelPlays" = some 3 by kernel_rfl).symm.trans hf) |>.symm
  obtain rfl : fn = Tryd.f3 := (Option.some.inj (Tryd.func3.symm.trans hfn)).symm
  refine ⟨by kernel_rfl, fun j t ht => ?_⟩
  rw [Tryd.params3] at ht
  have hm := Array.mem_of_getElem? ht
  have hm' : t = 2 ∨ t = 2 ∨ t = 22 := by simpa using hm
  rcases hm' with rfl | rfl | rfl
  · exact (show Tryd.prog.wantsStandIn 2 = false by kernel_rfl)
  · exact (show Tryd.prog.wantsStandIn 2 = false by kernel_rfl)
  · exact (show Tryd.prog.wantsStandIn 22 = false by kernel_rfl)
end wheelPlaysFrame

/-- THE CARD -/
theorem wheelPlays_holds : Rows.WheelPlaysUptoCardSaid :=
  Claim7.holds_tied_plain_at .later [] _ _ _ _ wheelPlaysFrame.said (fun _ h => by cases h) (by kernel_rfl) (fun _ h => by cases h) wheelPlaysUpto_row_tie rfl ⟨rfl, rfl⟩ (by kernel_rfl) rfl wheelPlaysFrame.plain (by kernel_rfl)
end Go.Proofs.YtpkkgmcfificiaaDoor
