/- E9D, E9E, ZV, BK, ZV3, P8Pla, one text. -/
import Derived.Test.YtielpjdjlmkejaaM8H
import Derived.Test.YtielpjdjlmkejaaM8A
import Derived.LoopIn
import Derived.Deep.CutRange
import Derived.Deep.DeepCutAuto
import Derived.Test.YtielpjdjlmkejaaZQ
import Derived.ProofKit
import Derived.OpenShut
import Derived.ShutString
import Derived.ChangeOld
import Derived.SizedLaws
import Derived.Deep.Slices
import Derived.Test.YtielpjdjlmkejaaRows
import Derived.JoinedCond
import Derived.Deep.CondSized
namespace Go.Proofs.Ytielpjdjlmkejaa
open Go.RowKit Go.Shelf Go.Maps
set_option linter.unusedVariables false
set_option maxRecDepth 100000
set_option maxHeartbeats 4000000

theorem lk_start {space delay : Int} (h : rightF space delay) : LkS 0 (sn0 space delay) (rn0 space delay) :=
  ⟨sok0 h, rfl, rfl, rfl, rfl, rfl, rfl, rfl, rfl, rfl, rfl, fun x => by simp [sn0, rn0, memB], List.Pairwise.nil, ⟨Int.le_refl _, Int.le_refl _⟩, ⟨fun _ => rfl, fun _ => rfl⟩, ⟨Int.le_refl _, Int.le_refl _⟩⟩

/-- What the program's New leaves. -/
def NewS (W w' : World) (space delay : Int) (P : Value) (no : Int) : Prop :=
  (rightF space delay ∧ no = 0 ∧ ∃ b bs, P = ptr b ∧ SN w' b bs (.slice none 0 0) (sn0 space delay) ∧ W.heap.size ≤ b ∧ W.heap.size ≤ bs ∧ b < w'.heap.size ∧ bs < w'.heap.size) ∨ (¬ rightF space delay ∧ no = 1 ∧ P = .pointer none)
def NewR (W w' : World) (space delay : Int) (P : Value) (no : Int) : Prop :=
  (rightF space delay ∧ no = 0 ∧ ∃ p, P = ptr p ∧ RN w' p none 0 0 (rn0 space delay) ∧ W.heap.size ≤ p ∧ p < w'.heap.size) ∨ (¬ rightF space delay ∧ no = 1 ∧ P = .pointer none)
theorem new_either (space delay : Int) (W : World) : Calls Try.prog 7 #[.int .i64 space, .int .i64 delay] W fun e w' => ∃ (P : Option Addr) (no : Int), e = .returned (.tuple #[.pointer P, .int .i64 no]) ∧ W.grownBy w' none ∧ NewS W w' space delay (.pointer P) no := by
  by_cases h : rightF space delay
  · refine (new_right space delay W h).mono ?_
    rintro e w' ⟨rfl, h1, g⟩
    exact ⟨_, 0, rfl, g, .inl ⟨h, rfl, _, _, rfl, h1, by omega, Nat.le_refl _, h1.blk.lt, Blk.lt (show Blk w' W.heap.size _ _ from h1.set.blk)⟩⟩
  · refine (new_wrong space delay W h).mono ?_
    rintro e w' ⟨rfl, rfl⟩
    exact ⟨none, 1, rfl, World.grownBy.refl _ _, .inr ⟨h, rfl, rfl⟩⟩
theorem rnew_either (space delay : Int) (W : World) : Calls Try.prog 8 #[.int .i64 space, .int .i64 delay] W fun e w' => ∃ (P : Option Addr) (no : Int), e = .returned (.tuple #[.pointer P, .int .i64 no]) ∧ W.grownBy w' none ∧ NewR W w' space delay (.pointer P) no := by
  by_cases h : rightF space delay
  · refine (rnew_right space delay W h).mono ?_
    rintro e w' ⟨rfl, h1, g⟩
    exact ⟨_, 0, rfl, g, .inl ⟨h, rfl, _, rfl, h1, Nat.le_refl _, h1.blk.lt⟩⟩
  · refine (rnew_wrong space delay W h).mono ?_
    rintro e w' ⟨rfl, rfl⟩
    exact ⟨none, 1, rfl, World.grownBy.refl _ _, .inr ⟨h, rfl, rfl⟩⟩

/-- A pair's two pointers. -/
def At (P Q : Option Addr) : Option PD → Prop
  | none => P = none ∧ Q = none
  | some d => P = some ⟨d.b, 0, none⟩ ∧ Q = some ⟨d.p, 0, none⟩

/-- One pair, made: its blocks lie in between. -/
theorem pair_start {B space delay : Int} {w0 W1 W2 W3 W4 W : World} {P Q : Option Addr} {n1 n2 : Int} (s : NewS W1 W2 space delay (.pointer P) n1) (r : NewR W3 W4 space delay (.pointer Q) n2) (g0 : w0.heap.size ≤ W1.heap.size) (g2 : W2.grownBy W none) (g4 : W4.grownBy W none) (h23 : w0.heap.size ≤ W3.heap.size) :
    ∃ x : Option PD, At P Q x ∧ PrD w0.heap.size W 0 x ∧ ∀ g, FpD x g → (W1.heap.size ≤ g ∧ g < W2.heap.size) ∨ (W3.heap.size ≤ g ∧ g < W4.heap.size) := by
  rcases s with ⟨f1, -, b, bs, e1, sn, l1, l2, l3, l4⟩ | ⟨f1, -, e1⟩
  · rcases r with ⟨-, -, p, e2, rn, m1, m2⟩ | ⟨f2, -, -⟩
    · refine ⟨some ⟨b, bs, p, .slice none 0 0, sn0 space delay, none, 0, 0, rn0 space delay⟩, ⟨by simpa [ptr] using e1, by simpa [ptr] using e2⟩, ⟨sn.grown g2, rn.grown g4, lk_start f1, Nat.le_refl _, ?_⟩, ?_⟩
      · rintro g ((e | e | e) | e)
        · have : g = b := e; omega
        · have : g = bs := e; omega
        · cases e
        · have : g = p := e; omega
      · rintro g ((e | e | e) | e)
        · left; have : g = b := e; omega
        · left; have : g = bs := e; omega
        · cases e
        · right; have : g = p := e; omega
    · exact absurd f1 f2
  · rcases r with ⟨f2, -, -⟩ | ⟨-, -, e2⟩
    · exact absurd f2 f1
    · exact ⟨none, ⟨by simpa using e1, by simpa using e2⟩, trivial, fun g hg => hg.elim⟩

theorem st_start {w0 W1 W2 W3 W4 W5 : World} {sp1 sp2 dl : Int} {P1 P2 Q1 Q2 : Option Addr} {n1 n2 n3 n4 : Int} (g1 : w0.grownBy W1 none) (g2 : W1.grownBy W2 none) (g3 : W2.grownBy W3 none) (g4 : W3.grownBy W4 none) (g5 : W4.grownBy W5 none)
    (s1 : NewS W1 W2 sp1 dl (.pointer P1) n1) (s2 : NewS W2 W3 sp2 dl (.pointer P2) n2) (r1 : NewR W3 W4 sp1 dl (.pointer Q1) n3) (r2 : NewR W4 W5 sp2 dl (.pointer Q2) n4) :
    ∃ x y, At P1 Q1 x ∧ At P2 Q2 y ∧ ST w0 (W5.alloc (.cells #[.slice none 0 0, .slice none 0 0, .slice none 0 0] 35)) 0 0 W5.heap.size x y (fun _ => False) := by
  have g6 := World.grownBy_alloc W5 (.cells #[.slice none 0 0, .slice none 0 0, .slice none 0 0] 35) none
  have b6 := Blk.new W5 #[.slice none 0 0, .slice none 0 0, .slice none 0 0] 35
  generalize W5.alloc _ = W6 at *
  have z1 := g1.size
  have z2 := g2.size
  have z3 := g3.size
  have z4 := g4.size
  have z5 := g5.size
  have z6 := g6.size
  obtain ⟨x, a1, p1, f1⟩ := pair_start (B := 0) (w0 := w0) (W := W6) s1 r1 z1 (((g3.trans g4).trans g5).trans g6) (g5.trans g6) (by omega)
  obtain ⟨y, a2, p2, f2⟩ := pair_start (B := 0) (w0 := w0) (W := W6) s2 r2 (by omega) ((g4.trans g5).trans g6) g6 (by omega)
  have eok : w0.heap.size ≤ W6.heap.size := by omega
  refine ⟨x, y, a1, a2, ⟨p1, p2, ⟨fun _ => False, ⟨[], .slice none 0 0, none, none, 0, 0, 0, [], ⟨b6, ⟨rfl, .inl ⟨rfl, rfl⟩⟩, (fun e he => by simp at he), eok⟩, fun g hg => hg.elim, ⟨rfl, .inl ⟨rfl, rfl⟩⟩, ⟨rfl, .inl ⟨rfl, rfl⟩⟩, (fun g e => by cases e), Nat.le_refl _, (by omega), fun g => ⟨fun e => e.elim, fun e => ?_⟩⟩⟩, fun _ _ e => e, fun g hx hy => ?_, ((((g1.trans g2).trans g3).trans g4).trans g5).trans g6, by omega⟩⟩
  · rcases e with e | e | e
    · exact e
    · cases e
    · cases e
  · have a := f1 g hx
    have b := f2 g hy
    omega
end Go.Proofs.Ytielpjdjlmkejaa

namespace Go.Proofs.Ytielpjdjlmkejaa
open Go.RowKit Go.Shelf Go.Maps
set_option linter.unusedVariables false
set_option maxRecDepth 100000
set_option maxHeartbeats 4000000

theorem new_agree {W1 W2 W3 W4 : World} {sp dl : Int} {P Q : Option Addr} {n1 n2 : Int} (s : NewS W1 W2 sp dl (.pointer P) n1) (r : NewR W3 W4 sp dl (.pointer Q) n2) : (n1 = 0 ∧ n2 = 0 ∧ ∃ p q, P = some p ∧ Q = some q) ∨ (n1 = 1 ∧ n2 = 1 ∧ P = none ∧ Q = none) := by
  rcases s with ⟨f1, e1, b, bs, e2, -⟩ | ⟨f1, e1, e2⟩
  · rcases r with ⟨-, e3, p, e4, -⟩ | ⟨f2, -, -⟩
    · exact .inl ⟨e1, e3, _, _, by simpa [ptr] using e2, by simpa [ptr] using e4⟩
    · exact absurd f1 f2
  · rcases r with ⟨f2, -, -⟩ | ⟨-, e3, e4⟩
    · exact absurd f2 f1
    · exact .inr ⟨e1, e3, by simpa using e2, by simpa using e4⟩
/-- Both pairs, by their pointers, and the owner. -/
def PS (w wr : World) (k O : Nat) (P1 Q1 P2 Q2 : Option Addr) : Prop := ∃ x y D, At P1 Q1 x ∧ At P2 Q2 y ∧ ST w wr k k O x y D
theorem PS.swap {w wr : World} {k O : Nat} {P1 Q1 P2 Q2 : Option Addr} (h : PS w wr k O P1 Q1 P2 Q2) : PS w wr k O P2 Q2 P1 Q1 := by
  obtain ⟨x, y, D, a, b, st⟩ := h
  exact ⟨y, x, D, b, a, st.swap⟩
theorem PS.up {w wr : World} {k k' O : Nat} {P1 Q1 P2 Q2 : Option Addr} (h : PS w wr k O P1 Q1 P2 Q2) (hk : k ≤ k') : PS w wr k' O P1 Q1 P2 Q2 := by
  obtain ⟨x, y, D, a, b, st⟩ := h
  exact ⟨x, y, D, a, b, st.upm hk hk⟩
theorem PS.gr {w wr : World} {k O : Nat} {P1 Q1 P2 Q2 : Option Addr} (h : PS w wr k O P1 Q1 P2 Q2) : w.grownBy wr none := by
  obtain ⟨x, y, D, a, b, st⟩ := h
  exact st.gr
/-- A step of the first, if there is one. -/
theorem ps_step {w wr : World} {k O : Nat} {P1 Q1 P2 Q2 : Option Addr} (h : PS w wr k O P1 Q1 P2 Q2) (hk : k ≤ 10000000) (x : OpE) (hx : i64B x.kind) : (P1 = none ∧ Q1 = none) ∨ ∃ b p, P1 = some ⟨b, 0, none⟩ ∧ Q1 = some ⟨p, 0, none⟩ ∧
    Hid (Calls Try.prog 9 #[ptr b, ptr p, .agg (opA x), ptr O] wr fun e w' => e = .returned (.bool true) ∧ PS w w' (k + 2) O (some ⟨b, 0, none⟩) (some ⟨p, 0, none⟩) P2 Q2) := by
  obtain ⟨d, y, D, a, b, st⟩ := h
  cases d with
  | none => exact .inl a
  | some d =>
    refine .inr ⟨d.b, d.p, a.1, a.2, hide ?_⟩
    refine (step_any st hk hk x hx).mono ?_
    rintro e w' ⟨rfl, d', D', e1, e2, st'⟩
    exact ⟨rfl, some d', y, D', ⟨by rw [e1], by rw [e2]⟩, b, st'⟩
theorem ps_end {w wr : World} {k O : Nat} {P1 Q1 P2 Q2 : Option Addr} (h : PS w wr k O P1 Q1 P2 Q2) (hk : k ≤ 10000000) : Calls Try.prog 10 #[ptr O, .slice none 0 0, .slice none 0 0] wr fun e w' => e = .returned (.bool true) ∧ w.grownBy w' none := by
  obtain ⟨x, y, D, a, b, st⟩ := h
  refine (st_takes st (a3 := none) (a4 := none) (n3 := 0) (c3 := 0) (c4 := 0) (X3 := []) ⟨rfl, .inl ⟨rfl, rfl⟩⟩ ⟨rfl, .inl ⟨rfl, rfl⟩⟩ (by omega) hk (fun g hg => by rcases hg with e | e <;> cases e)).mono ?_
  rintro e w' ⟨rfl, D', st'⟩
  exact ⟨rfl, st'.gr⟩

theorem plays_walk (space delay other : Int) (a0 : Option Addr) (len cap : Nat) (ol : List OpE) (w : World) (h : IsOps w a0 len cap ol) (few : len ≤ 1048576) :
    Calls Try.prog 3 #[.int .i64 space, .int .i64 delay, .int .i64 other, .slice a0 len cap] w fun e w' => e = .returned (.bool true) ∧ w.grownBy w' none := by
  have sh := shown_ok w
  have HO := hide h
  have hl := h.hlen
  have hcap := h.hcap
  have lenI : ¬ (9223372036854775807 : Int) < (len : Int) := by omega
  clear h
  go_enter Try.func3, Try.ntmps3
  go_wp2_with fail
  refine sh.mono ?_
  rintro e w1 ⟨rfl, g1⟩
  clear sh
  have N := new_either space delay w1
  go_wp2_with fail
  refine N.mono ?_
  rintro e w2 ⟨P1, n1, rfl, g2, s1⟩
  replace s1 := hide s1
  clear N
  have N := new_either other delay w2
  go_wp2_with fail
  refine N.mono ?_
  rintro e w3 ⟨P2, n2, rfl, g3, s2⟩
  replace s2 := hide s2
  clear N
  have N := rnew_either space delay w3
  go_wp2_with fail
  refine N.mono ?_
  rintro e w4 ⟨Q1, n3, rfl, g4, r1⟩
  replace r1 := hide r1
  clear N
  have N := rnew_either other delay w4
  go_wp2_with fail
  refine N.mono ?_
  rintro e w5 ⟨Q2, n4, rfl, g5, r2⟩
  replace r2 := hide r2
  clear N
  have A1 := hide (new_agree (unhide s1) (unhide r1))
  have A2 := hide (new_agree (unhide s2) (unhide r2))
  have S0 : Hid (PS w (w5.alloc (.cells #[.slice none 0 0, .slice none 0 0, .slice none 0 0] 35)) 0 w5.heap.size P1 Q1 P2 Q2) := by
    obtain ⟨x, y, a, b, st⟩ := st_start g1 g2 g3 g4 g5 (unhide s1) (unhide s2) (unhide r1) (unhide r2)
    exact ⟨x, y, _, a, b, st⟩
  clear s1 s2 r1 r2 g1 g2 g3 g4 g5
  go_upto_region 6 with fail
  go_cut [76] (fun v wc => v = .bool false ∧ wc = w5)
  case first =>
    clear S0
    rcases unhide A1 with ⟨rfl, rfl, p1, q1, rfl, rfl⟩ | ⟨rfl, rfl, rfl, rfl⟩ <;> rcases unhide A2 with ⟨rfl, rfl, p2, q2, rfl, rfl⟩ | ⟨rfl, rfl, rfl, rfl⟩
    all_goals
      go_wp2_with fail
      go_meet
      case rel => exact ⟨rfl, rfl⟩
  case rest =>
    obtain ⟨rfl, hwc⟩ := hcut
    replace hwc := hwc.symm
    subst hwc
    clear A1 A2
    go_wp2_with fail
    generalize w5.heap.size = O at *
    generalize w5.alloc _ = w6 at *
    go_loopw [19] (fun iv wr => ∃ i : Nat, i ≤ len ∧ iv = .int .i64 i ∧ Hid (PS w wr (2 * i) O P1 Q1 P2 Q2)) (fun iv _ => len - (intOf iv).toNat)
    case atStart => exact ⟨0, Nat.zero_le _, rfl, S0⟩
    case round =>
      clear S0
      obtain ⟨i, hi, rfl, H⟩ := hrel
      by_cases hlt : i < len
      · obtain ⟨bo, off, rfl, hcs⟩ := (unhide HO).cell.resolve_left (by omega)
        have hx' : ol[i]? = some ol[i] := List.getElem?_eq_getElem _
        have hcx := hcs i _ hx'
        have xk := ((unhide HO).ok _ (List.mem_of_getElem? hx')).k
        generalize ol[i] = x at *
        have gw := (unhide H).gr
        have c0 := cell_grown_none gw (hcx 0 _ rfl)
        have c1 := cell_grown_none gw (hcx 1 _ rfl)
        have c2 := cell_grown_none gw (hcx 2 _ rfl)
        have c3 := cell_grown_none gw (hcx 3 _ rfl)
        have c4 := cell_grown_none gw (hcx 4 _ rfl)
        have c5 := cell_grown_none gw (hcx 5 _ rfl)
        rw [Nat.add_zero] at c0
        have il : (i : Int) < (len : Int) := by omega
        have HLT := hide hlt
        have SA := ps_step (unhide H) (by omega) { x with other := false } xk
        have SB := ps_step (unhide H).swap (by omega) { x with other := true } xk
        have UP := hide ((unhide H).up (show 2 * i ≤ 2 * (i + 1) by omega))
        clear hcs hcx hx' hlt hi gw xk H
        cases ho : x.other with
        | false =>
          rw [ho] at c1
          clear SB
          rcases SA with ⟨rfl, rfl⟩ | ⟨b, p, rfl, rfl, C⟩
          · go_wp2_with fail
            go_roundw
            case rel => exact ⟨i + 1, unhide HLT, by go_num, UP⟩
            case measure => have := unhide HLT; simp [intOf]; omega
          · clear UP
            go_wp2_with fail
            refine (unhide C).mono ?_
            rintro e W2 ⟨rfl, ps⟩
            have R : Hid (PS w W2 (2 * (i + 1)) O (some ⟨b, 0, none⟩) (some ⟨p, 0, none⟩) P2 Q2) := by
              rw [show 2 * (i + 1) = 2 * i + 2 by omega]
              exact ps
            clear C ps
            go_wp2_with fail
            go_roundw
            case rel => exact ⟨i + 1, unhide HLT, by go_num, R⟩
            case measure => have := unhide HLT; simp [intOf]; omega
        | true =>
          rw [ho] at c1
          clear SA
          rcases SB with ⟨rfl, rfl⟩ | ⟨b, p, rfl, rfl, C⟩
          · go_wp2_with fail
            go_roundw
            case rel => exact ⟨i + 1, unhide HLT, by go_num, UP⟩
            case measure => have := unhide HLT; simp [intOf]; omega
          · clear UP
            go_wp2_with fail
            refine (unhide C).mono ?_
            rintro e W2 ⟨rfl, ps⟩
            have R : Hid (PS w W2 (2 * (i + 1)) O P1 Q1 (some ⟨b, 0, none⟩) (some ⟨p, 0, none⟩)) := by
              rw [show 2 * (i + 1) = 2 * i + 2 by omega]
              exact ps.swap
            clear C ps
            go_wp2_with fail
            go_roundw
            case rel => exact ⟨i + 1, unhide HLT, by go_num, R⟩
            case measure => have := unhide HLT; simp [intOf]; omega
      · have il : ¬ (i : Int) < (len : Int) := by omega
        have ib : 2 * i + 8 ≤ 10000000 := by omega
        have H0 := H
        clear H hlt
        go_upto_region 18 with fail
        go_cut [21] (fun v wc => ∃ X, X = wc ∧ v = .bool true ∧ Hid (PS w X (2 * i + 2) O P1 Q1 P2 Q2))
        case first =>
          have SA := ps_step (unhide H0) (by omega) ⟨2, false, 0, 0, false, 0⟩ (by decide)
          have UP := hide ((unhide H0).up (show 2 * i ≤ 2 * i + 2 by omega))
          rcases SA with ⟨rfl, rfl⟩ | ⟨b, p, rfl, rfl, C⟩
          · go_wp2_with fail
            go_meet
            case rel => exact ⟨_, rfl, rfl, UP⟩
          · clear UP
            go_wp2_with fail
            refine (unhide C).mono ?_
            rintro e W2 ⟨rfl, ps⟩
            have R := hide ps
            clear C ps
            go_wp2_with fail
            go_meet
            case rel => exact ⟨_, rfl, rfl, R⟩
        case rest =>
          obtain ⟨X18, rfl, rfl, H1⟩ := hcut
          clear H0
          go_upto_region 19 with fail
          go_cut [22] (fun v wc => ∃ X, X = wc ∧ v = .bool true ∧ Hid (PS w X (2 * i + 4) O P1 Q1 P2 Q2))
          case first =>
            have SA := ps_step (unhide H1).swap (by omega) ⟨2, false, 0, 0, false, 0⟩ (by decide)
            have UP := hide ((unhide H1).up (show 2 * i + 2 ≤ 2 * i + 4 by omega))
            rcases SA with ⟨rfl, rfl⟩ | ⟨b, p, rfl, rfl, C⟩
            · go_wp2_with fail
              go_meet
              case rel => exact ⟨_, rfl, rfl, UP⟩
            · clear UP
              go_wp2_with fail
              refine (unhide C).mono ?_
              rintro e W2 ⟨rfl, ps⟩
              have R := hide ps.swap
              clear C ps
              go_wp2_with fail
              go_meet
              case rel => exact ⟨_, rfl, rfl, R⟩
          case rest =>
            obtain ⟨X19, rfl, rfl, H2⟩ := hcut
            clear H1
            go_upto_region 20 with fail
            go_cut [23] (fun v wc => ∃ X, X = wc ∧ v = .bool true ∧ Hid (PS w X (2 * i + 6) O P1 Q1 P2 Q2))
            case first =>
              have SA := ps_step (unhide H2) (by omega) ⟨3, false, 0, 0, false, 0⟩ (by decide)
              have UP := hide ((unhide H2).up (show 2 * i + 4 ≤ 2 * i + 6 by omega))
              rcases SA with ⟨rfl, rfl⟩ | ⟨b, p, rfl, rfl, C⟩
              · go_wp2_with fail
                go_meet
                case rel => exact ⟨_, rfl, rfl, UP⟩
              · clear UP
                go_wp2_with fail
                refine (unhide C).mono ?_
                rintro e W2 ⟨rfl, ps⟩
                have R := hide ps
                clear C ps
                go_wp2_with fail
                go_meet
                case rel => exact ⟨_, rfl, rfl, R⟩
            case rest =>
              obtain ⟨X20, rfl, rfl, H3⟩ := hcut
              clear H2
              go_upto_region 21 with fail
              go_cut [24] (fun v wc => ∃ X, X = wc ∧ v = .bool true ∧ Hid (PS w X (2 * i + 8) O P1 Q1 P2 Q2))
              case first =>
                have SA := ps_step (unhide H3).swap (by omega) ⟨3, false, 0, 0, false, 0⟩ (by decide)
                have UP := hide ((unhide H3).up (show 2 * i + 6 ≤ 2 * i + 8 by omega))
                rcases SA with ⟨rfl, rfl⟩ | ⟨b, p, rfl, rfl, C⟩
                · go_wp2_with fail
                  go_meet
                  case rel => exact ⟨_, rfl, rfl, UP⟩
                · clear UP
                  go_wp2_with fail
                  refine (unhide C).mono ?_
                  rintro e W2 ⟨rfl, ps⟩
                  have R := hide ps.swap
                  clear C ps
                  go_wp2_with fail
                  go_meet
                  case rel => exact ⟨_, rfl, rfl, R⟩
              case rest =>
                obtain ⟨X21, rfl, rfl, H4⟩ := hcut
                clear H3
                have EN := ps_end (unhide H4) (by omega)
                clear H4
                go_wp2_with fail
                refine EN.mono ?_
                rintro e W9 ⟨rfl, g9⟩
                clear EN
                go_wp2_with fail
                go_ret
                exact ⟨rfl, g9⟩
end Go.Proofs.Ytielpjdjlmkejaa

namespace Go.Proofs.Ytielpjdjlmkejaa
open Go.ChangeShapes Go.WideShapes Go.ChangeAt Go.RowKit
set_option linter.unusedVariables false
set_option maxRecDepth 100000
set_option maxHeartbeats 1000000

theorem wf_i64 {z : Int} (h : (Lit.int .i64 z).wf = true) : -9223372036854775808 ≤ z ∧ z ≤ 9223372036854775807 := by
  simp [Lit.wf, IntKind.min, IntKind.max] at h
  exact ⟨of_decide_eq_true h.1, of_decide_eq_true h.2⟩

section
variable {H : Type} {enc : TypeId × Value → H} {w : World} {base : Nat} {spare : Nat → Bool} {held : Bool}

theorem op_cells {n : Nat} {cs : List Value} {y : DataW H × List MemPlace} (h2 : DataW.trod enc Try.prog w base spare held n 37 cs = some y) (hl : cs.length = 6) : ∃ x : OpE, x.Ok ∧ cs = x.cs := by
  obtain ⟨xs, m, hk, hxy, hcl, hxl, hf⟩ := DataW.trod_struct Try.underlying37 h2
  have c3 : Try.prog.cellsOf 3 = 1 := by kernel_rfl
  have c2 : Try.prog.cellsOf 2 = 1 := by kernel_rfl
  have c4 : Try.prog.cellsOf 4 = 1 := by kernel_rfl
  match xs, hxl, cs, hl with
  | [y0, y1, y2, y3, y4, y5], _, [v0, v1, v2, v3, v4, v5], _ =>
    have f0 := hf 0 _ rfl
    have f1 := hf 1 _ rfl
    have f2 := hf 2 _ rfl
    have f3 := hf 3 _ rfl
    have f4 := hf 4 _ rfl
    have f5 := hf 5 _ rfl
    simp [c2, c3, c4] at f0 f1 f2 f3 f4 f5
    obtain ⟨k, e0, _, r0⟩ := DataW.trod_int Try.underlying3 f0
    obtain ⟨o, e1, _⟩ := DataW.trod_bool Try.underlying4 f1
    obtain ⟨i, e2, _, r2⟩ := DataW.trod_int Try.underlying2 f2
    obtain ⟨a, e3, _, r3⟩ := DataW.trod_int Try.underlying2 f3
    obtain ⟨l, e4, _⟩ := DataW.trod_bool Try.underlying4 f4
    obtain ⟨m, e5, _, r5⟩ := DataW.trod_int Try.underlying3 f5
    simp only [List.cons.injEq, and_true] at e0 e1 e2 e3 e4 e5
    subst e0 e1 e2 e3 e4 e5
    exact ⟨⟨k, o, i, a, l, m⟩, ⟨wf_i64 r0, wf_i64 r2, wf_i64 r3, wf_i64 r5⟩, rfl⟩

theorem list_of {P : Nat → OpE → Prop} : ∀ n : Nat, (∀ i, i < n → ∃ x, P i x) → ∃ l : List OpE, l.length = n ∧ ∀ i x, l[i]? = some x → P i x
  | 0, _ => ⟨[], rfl, fun i x h => by simp at h⟩
  | n + 1, h => by
    obtain ⟨l, hl, hP⟩ := list_of n (fun i hi => h i (by omega))
    obtain ⟨x, hx⟩ := h n (by omega)
    refine ⟨l ++ [x], by simp [hl], fun i y hy => ?_⟩
    by_cases c : i < n
    · rw [List.getElem?_append_left (by omega)] at hy
      exact hP i y hy
    · have hi : i < (l ++ [x]).length := (List.getElem?_eq_some_iff.1 hy).1
      simp [hl] at hi
      obtain rfl : i = n := by omega
      rw [List.getElem?_append_right (by omega), hl] at hy
      simp at hy
      subst hy
      exact hx

theorem open_ops {a : Option Addr} {len cap fuel : Nat} {x : DataW H × List MemPlace} (hf : DataW.trod enc Try.prog w base spare held fuel 22 [.slice a len cap] = some x) : ∃ ol, IsOps w a len cap ol := by
  have c6 : Try.prog.cellsOf 37 = 6 := by kernel_rfl
  rcases Go.Deep.open_slice Try.underlying22 hf with ⟨hcs, _⟩ | ⟨ad, l, c, m, n, D, Pl, hcs, _, hl, hm, hmm, _, hx⟩
  · simp at hcs
    obtain ⟨rfl, rfl, rfl⟩ := hcs
    exact ⟨[], rfl, by omega, by simp, .inl rfl⟩
  · simp at hcs
    obtain ⟨rfl, rfl, rfl⟩ := hcs
    have hlm : len ≤ m := by rw [hmm]; split <;> omega
    have each : ∀ i, i < len → ∃ x : OpE, x.Ok ∧ ∀ j v, x.cs[j]? = some v → w.cell? (ad.add (i * 6) |>.add j) = some v := fun i hi => by
      obtain ⟨cs', h1, h2⟩ := hx i (by omega)
      rw [c6] at h1
      obtain ⟨_, hlen, hcell⟩ := World.cells?_some h1
      obtain ⟨x, ok, rfl⟩ := op_cells h2 hlen
      exact ⟨x, ok, fun j v hj => by rw [hcell j (by have := (List.getElem?_eq_some_iff.1 hj).1; simpa [OpE.cs] using this)]; exact hj⟩
    obtain ⟨ol, hol, hP⟩ := list_of len each
    refine ⟨ol, hol, ⟨hl, by unfold maxLen at hm; omega⟩, fun x hx => ?_, ?_⟩
    · obtain ⟨i, hi⟩ := List.getElem?_of_mem hx
      exact (hP i x hi).1
    · by_cases h0 : len = 0
      · exact .inl h0
      · right
        obtain ⟨x, ok, hc⟩ := each 0 (by omega)
        have hs : ad.spot = none := by
          have := hc 0 _ rfl
          unfold World.cell? at this
          split at this
          · split at this
            · cases this
            · rename_i hsp
              cases hsq : ad.spot with
              | none => rfl
              | some q => simp [Addr.add, hsq] at hsp
          · cases this
        obtain ⟨bb, off, sp⟩ := ad
        simp only at hs
        subst hs
        refine ⟨bb, off, rfl, fun i x hi => ?_⟩
        intro j v hj
        have := (hP i x hi).2 j v hj
        simpa only [Addr.add_lit] using this
end
end Go.Proofs.Ytielpjdjlmkejaa

namespace Go.Proofs.Ytielpjdjlmkejaa

theorem bulk_pos {H : Type} (d : DataW H) : 0 < Rows.uptoBulk d := by
  cases d with
  | lit l => cases l <;> simp [Rows.uptoBulk]
  | _ => simp [Rows.uptoBulk]

theorem bulk_count {H : Type} : ∀ l : List (DataW H), l.length ≤ Rows.uptoBulkAll l
  | [] => Nat.zero_le _
  | d :: r => by
    have h1 := bulk_pos d
    have h2 := bulk_count r
    simp only [Rows.uptoBulkAll, List.length_cons]
    omega

theorem bulk_slice {H : Type} (e s : List (DataW H)) : e.length + s.length < Rows.uptoBulk (.slice e s) := by
  have h1 := bulk_count e
  have h2 := bulk_count s
  simp only [Rows.uptoBulk]
  omega

theorem bulk_among {H : Type} {d : DataW H} : ∀ {l : List (DataW H)}, d ∈ l → Rows.uptoBulk d ≤ Rows.uptoBulkAll l
  | x :: r, h => by
    simp only [Rows.uptoBulkAll]
    rcases List.mem_cons.1 h with e | e
    · subst e; omega
    · have := bulk_among e; omega

theorem bulk_mem {H : Type} {d : DataW H} {l : List (DataW H)} (hk : Rows.uptoSmall H l = true) (h : d ∈ l) : Rows.uptoBulk d ≤ 1048576 := by
  have h1 : Rows.uptoBulkAll l ≤ 1048576 := of_decide_eq_true hk
  have h2 := bulk_among h
  omega
end Go.Proofs.Ytielpjdjlmkejaa

namespace Go.Proofs.Ytielpjdjlmkejaa
open Go.ChangeShapes Go.WideShapes Go.ChangeAt Go.RowKit
set_option linter.unusedVariables false
set_option maxRecDepth 100000

section
variable {H : Type} {enc : TypeId × Value → H} {w : World} {base : Nat} {spare : Nat → Bool} {held : Bool}
theorem ops_bulk {a : Option Addr} {len cap fuel : Nat} {x : DataW H × List MemPlace} (hf : DataW.trod enc Try.prog w base spare held fuel 22 [.slice a len cap] = some x) : len ≤ Rows.uptoBulk x.1 := by
  rcases Go.Deep.open_slice Try.underlying22 hf with ⟨hcs, _⟩ | ⟨ad, l, c, m, n, D, Pl, hcs, _, hl, hm, hmm, rfl, hx⟩
  · simp at hcs
    omega
  · simp at hcs
    obtain ⟨rfl, rfl, rfl⟩ := hcs
    refine Nat.le_trans ?_ (Nat.le_of_lt (bulk_slice _ _))
    simp only [List.length_map, List.length_range]
    omega
end
end Go.Proofs.Ytielpjdjlmkejaa

namespace Go.Proofs.Ytielpjdjlmkejaa
open Go.ChangeShapes Go.WideShapes Go.ChangeAt Go.RowKit
set_option linter.unusedVariables false
set_option maxRecDepth 100000
namespace seenPlaysFrame

theorem own : ownKnob Try.prog.godebug = none := by kernel_rfl
theorem laidOut : laidOutB Try.prog = true := by kernel_rfl

set_option maxRecDepth 100000 in
theorem lifted (os : Os) (started : os.Started) (H : Type) (enc : TypeId × Value → H) (F : Stop.Interp) :
    ReturnsInHanded {} Try.checked os 3 .any ((Rows.OpenSpec.upto Rows.seenPlaysSpec).pre6 enc Try.prog Try.f3 Rows.seenPlaysUptoRow.domain false) (((Rows.OpenSpec.upto Rows.seenPlaysSpec).at F).post enc Try.prog Try.f3 false true false false) := by
  refine returnsInHanded_of_cond_sized (C := Try.checked) (s := Rows.OpenSpec.upto Rows.seenPlaysSpec) (k := Rows.uptoSmall) rfl own started (by kernel_rfl) Try.func3
    (OpenSpec.witness (enc := enc) (C := Try.checked) (s := Rows.OpenSpec.upto Rows.seenPlaysSpec) (k := Rows.uptoSmall) rfl false ⟨#[], #[.int .i64 0, .int .i64 0, .int .i64 0, .slice none 0 0], []⟩ 8 (by kernel_rfl) (by kernel_rfl) (by kernel_rfl)
      (x := ([.lit (.int .i64 0), .lit (.int .i64 0), .lit (.int .i64 0), .nil], [], [])) (by kernel_rfl) rfl (by kernel_rfl)) ?_
  intro W base args ds gs before hval0 hW hcnd hk hsz0 _
  have hsz : (DataW.weightsEach Try.prog (Try.f3.params.toList ++ (Rows.OpenSpec.upto Rows.seenPlaysSpec).bare.plain.varTypes Try.prog) (ds ++ gs)).all (· ≤ reachBytes) = true := hsz0
  have hval : ∀ (j : Nat) t v, Try.f3.params[j]? = some t → args[j]? = some v → Value.okWide Try.prog W .any base t v := hval0
  have hW' := hW
  obtain ⟨p, q, hA0, hV, rfl, hfz, hnd⟩ := hW
  have hA : DataW.TrodAll enc Try.prog W 0 (fun _ => true) true Try.f3.params.toList args.toList ds p := hA0
  rw [Try.params3] at hA hval hsz
  obtain ⟨v0, vs0, d0, ds0, p0, q0, hargs, rfl, rfl, h0, r0⟩ := trodAll_cons hA
  obtain ⟨v1, vs1, d1, ds1, p1, q1, rfl, rfl, rfl, h1, r1⟩ := trodAll_cons r0
  obtain ⟨v2, vs2, d2, ds2, p2, q2, rfl, rfl, rfl, h2, r2⟩ := trodAll_cons r1
  obtain ⟨v3, vs3, d3, ds3, p3, q3, rfl, rfl, rfl, h3, r3⟩ := trodAll_cons r2
  obtain ⟨rfl, rfl, rfl⟩ := trodAll_nil r3
  obtain rfl : args = #[v0, v1, v2, v3] := by cases args; simp_all
  obtain ⟨rfl, rfl⟩ := trodVars_none hV
  have k0 := h0
  have lt0 : ∀ x ∈ p0, x.block < W.heap.size := by obtain ⟨m, hm⟩ := k0; exact DataW.trod_lt m _ _ _ hm
  obtain ⟨a0, rfl, rfl, rfl, w0⟩ := open_int Try.underlying3 (hval 0 3 v0 rfl rfl) h0
  have k1 := h1
  have lt1 : ∀ x ∈ p1, x.block < W.heap.size := by obtain ⟨m, hm⟩ := k1; exact DataW.trod_lt m _ _ _ hm
  obtain ⟨a1, rfl, rfl, rfl, w1⟩ := open_int Try.underlying2 (hval 1 2 v1 rfl rfl) h1
  have k2 := h2
  have lt2 : ∀ x ∈ p2, x.block < W.heap.size := by obtain ⟨m, hm⟩ := k2; exact DataW.trod_lt m _ _ _ hm
  obtain ⟨a2, rfl, rfl, rfl, w2⟩ := open_int Try.underlying3 (hval 2 3 v2 rfl rfl) h2
  have k3 := h3
  have lt3 : ∀ x ∈ p3, x.block < W.heap.size := by obtain ⟨m, hm⟩ := k3; exact DataW.trod_lt m _ _ _ hm
  obtain ⟨a3, len3, cap3, rfl⟩ := okWide_slice Try.underlying22 (hval 3 22 v3 rfl rfl)
  obtain ⟨ol3, w3⟩ : ∃ ol, IsOps W a3 len3 cap3 ol := by
    obtain ⟨fuel, hf⟩ := h3
    exact open_ops (by simpa [Value.cells] using hf)
  have bk3 : len3 ≤ 1048576 := by
    obtain ⟨fuel, hf⟩ := h3
    exact Nat.le_trans (ops_bulk (x := (d3, p3)) (by simpa [Value.cells] using hf)) (bulk_mem hk (d := d3) (by simp))
  clear hA0 hval0
  refine (plays_walk a0 a1 a2 a3 len3 cap3 ol3 W w3 bk3).mono fun e W' ⟨he, gr⟩ => ?_
  have bel : Below W.heap.size W W' := (Below.refl _ W).grown gr (Nat.le_refl _) (fun k hk => by cases hk)
  subst he
  exact ⟨_, rfl, _, _, _, [], _, [], hW', trodAll_mk1 (shut_bool Try.underlying4 _), (trodAll_cons_mk (shut_int Try.underlying3 w0) (trodAll_cons_mk (shut_int Try.underlying2 w1) (trodAll_cons_mk (shut_int Try.underlying3 w2) (trodAll_cons_mk (Below.trod laidOut (by kernel_rfl) (of_decide_eq_true (by kernel_rfl)) k3 bel lt3) trodAll_mk0)))), rfl, bel.frame _, fun h => by cases h⟩

theorem over : Rows.seenPlaysUptoRow.holds Try.pinned (Rows.OpenSpec.upto Rows.seenPlaysSpec) :=
  OpenClaim.holds_of_cond 3 Try.f3 rfl rfl rfl rfl rfl rfl rfl ⟨rfl, rfl, rfl, rfl, rfl⟩ rfl rfl rfl rfl rfl (by kernel_rfl) Try.func3 (by kernel_rfl)
    (of_decide_eq_true (by kernel_rfl)) (by unfold Func.isWrapper; first | (rw [if_pos (by decide +kernel)]; kernel_rfl) | (rw [if_neg (by decide +kernel)]; exact ⟨rfl, rfl⟩))
    (fun os started H enc _ F => lifted os started H enc F)
end seenPlaysFrame

/-- THE STATEMENT -/
theorem seenPlays_holds : Rows.SeenPlaysUptoSaid := seenPlaysFrame.over
end Go.Proofs.Ytielpjdjlmkejaa
