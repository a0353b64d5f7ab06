/- CreditGrants. -/
import Derived.Test.YtgmjminpgliilaaC7I
import Derived.BigQuiet
namespace Go.Proofs.Ytgmjminpgliilaa
open Go.RowKit
set_option linter.unusedVariables false
set_option maxRecDepth 100000
set_option maxHeartbeats 4000000

namespace Gr
/-- One pair in memory. -/
def Pr (w wr : World) (p : Nat × Nat) : Prop := w.heap.size ≤ p.1 ∧ w.heap.size ≤ p.2 ∧ ∃ s, IB 64 wr p.1 s ∧ IB 66 wr p.2 s ∧ s.Ok
structure ST (w wr : World) (A C : Option (Nat × Nat)) : Prop where
  g : w.grownBy wr none
  a : ∀ p, A = some p → Pr w wr p
  c : ∀ p, C = some p → Pr w wr p
  ne : ∀ p q, A = some p → C = some q → p.1 ≠ q.1 ∧ p.2 ≠ q.2
theorem ST.swap {w wr : World} {A C : Option (Nat × Nat)} (h : ST w wr A C) : ST w wr C A := ⟨h.g, h.c, h.a, fun p q h1 h2 => ⟨(h.ne q p h2 h1).1.symm, (h.ne q p h2 h1).2.symm⟩⟩
theorem st_step {w wr : World} {a r : Nat} {C : Option (Nat × Nat)} (h : ST w wr (some (a, r)) C) (kind : Int) (oth : Bool) (n : Int) (hk : i64B kind) :
    Calls Try.prog 12 #[ptr a, ptr r, .agg #[.int .i64 kind, .bool oth, .int .i64 n]] wr fun e w' => e = .returned (.bool true) ∧ ST w w' (some (a, r)) C := by
  obtain ⟨na, nr, s, hc, hd, ok⟩ := h.a _ rfl
  refine (inStep_any a r kind oth n s wr hk hc hd ok).mono fun e w' ⟨he, s', hc', hd', ok', g⟩ => ⟨he, ⟨G2.grown h.g g na nr, ?_, ?_, h.ne⟩⟩
  · rintro p hp
    cases hp
    exact ⟨na, nr, s', hc', hd', ok'⟩
  · rintro p hp
    obtain ⟨n1, n2, u, k1, k2, ko⟩ := h.c p hp
    obtain ⟨m1, m2⟩ := h.ne _ _ rfl hp
    exact ⟨n1, n2, u, g.blk k1 m1.symm (Blk.neT k1 hd (by decide)), g.blk k2 (Blk.neT k2 hc (by decide)) m2.symm, ko⟩
theorem st_stepC {w wr : World} {a r : Nat} {A : Option (Nat × Nat)} (h : ST w wr A (some (a, r))) (kind : Int) (oth : Bool) (n : Int) (hk : i64B kind) :
    Calls Try.prog 12 #[ptr a, ptr r, .agg #[.int .i64 kind, .bool oth, .int .i64 n]] wr fun e w' => e = .returned (.bool true) ∧ ST w w' A (some (a, r)) :=
  (st_step h.swap kind oth n hk).mono fun e w' ⟨he, h'⟩ => ⟨he, h'.swap⟩
theorem newc_ok (n : Int) (h : fitsF n) (w : World) : Calls Try.prog 10 #[.int .i64 n] w fun e w' => ∃ a, e = .returned (.tuple #[ptr a, .int .i64 0]) ∧ w.grownBy w' none ∧ IB 64 w' a ⟨n, n, 0, 0, false⟩ ∧ w.heap.size ≤ a ∧ a < w'.heap.size :=
  (inew_ok n h w).mono fun e w' ⟨he, hw⟩ => ⟨_, he, hw ▸ World.grownBy_alloc _ _ _, hw ▸ Blk.new _ _ _, Nat.le_refl _, hw ▸ (Blk.new _ _ _).lt⟩
theorem newr_ok (n : Int) (h : fitsF n) (w : World) : Calls Try.prog 11 #[.int .i64 n] w fun e w' => ∃ a, e = .returned (.tuple #[ptr a, .int .i64 0]) ∧ w.grownBy w' none ∧ IB 66 w' a ⟨n, n, 0, 0, false⟩ ∧ w.heap.size ≤ a ∧ a < w'.heap.size :=
  (rinew_ok n h w).mono fun e w' ⟨he, hw⟩ => ⟨_, he, hw ▸ World.grownBy_alloc _ _ _, hw ▸ Blk.new _ _ _, Nat.le_refl _, hw ▸ (Blk.new _ _ _).lt⟩
theorem newc_no (n : Int) (h : ¬ fitsF n) (w : World) : Calls Try.prog 10 #[.int .i64 n] w fun e w' => e = .returned (.tuple #[.pointer none, .int .i64 1]) ∧ w.grownBy w' none :=
  (inew_no n h w).mono fun e w' ⟨he, hw⟩ => ⟨he, hw ▸ World.grownBy.refl _ _⟩
theorem newr_no (n : Int) (h : ¬ fitsF n) (w : World) : Calls Try.prog 11 #[.int .i64 n] w fun e w' => e = .returned (.tuple #[.pointer none, .int .i64 1]) ∧ w.grownBy w' none :=
  (rinew_no n h w).mono fun e w' ⟨he, hw⟩ => ⟨he, hw ▸ World.grownBy.refl _ _⟩

theorem walk11 (limit other : Int) (a0 : Option Addr) (len cap : Nat) (ol : List OpE) (w : World) (hf : fitsF limit) (hg : fitsF other) (h : IsOps w a0 len cap ol) :
    Calls Try.prog 4 #[.int .i64 limit, .int .i64 other, .slice a0 len cap] w fun e w' => e = .returned (.bool true) ∧ w.grownBy w' none := by
  have sh := shown_any w
  have HO := hide h
  have hl := h.hlen
  have hcap := h.hcap
  have lenI : ¬ (9223372036854775807 : Int) < (len : Int) := by omega
  have N1 := newc_ok limit hf
  have N3 := newr_ok limit hf
  have N2 := newc_ok other hg
  have N4 := newr_ok other hg
  have OL := hide (fun (_ : fitsF limit) => i0_ok (n := limit) (by assumption))
  have OO := hide (fun (_ : fitsF other) => i0_ok (n := other) (by assumption))
  have HF := hide hf
  have HG := hide hg
  clear h hf hg
  go_enter Try.func4, Try.ntmps4
  go_wp2_with fail
  refine sh.mono ?_
  rintro e w0 ⟨rfl, g0⟩
  clear sh
  go_wp2_with fail
  refine (N1 _).mono ?_
  rintro e w1 ⟨a1, rfl, g1, B1, l1, m1⟩
  go_wp2_with fail
  refine (N2 _).mono ?_
  rintro e w2 ⟨a2, rfl, g2, B2, l2, m2⟩
  go_wp2_with fail
  refine (N3 _).mono ?_
  rintro e w3 ⟨a3, rfl, g3, B3, l3, m3⟩
  go_wp2_with fail
  refine (N4 _).mono ?_
  rintro e w4 ⟨a4, rfl, g4, B4, l4, m4⟩
  have z0 := g0.size
  have z1 := g1.size
  have z2 := g2.size
  have z3 := g3.size
  have z4 := g4.size
  have T0 : Hid (ST w w4 (some (a1, a3)) (some (a2, a4))) := ⟨gtrans g0 (gtrans g1 (gtrans g2 (gtrans g3 g4))), (fun p hp => by cases hp; exact ⟨by show w.heap.size ≤ a1; omega, by show w.heap.size ≤ a3; omega, _, B1.grown (gtrans g2 (gtrans g3 g4)), B3.grown g4, unhide OL (unhide HF)⟩), (fun p hp => by cases hp; exact ⟨by show w.heap.size ≤ a2; omega, by show w.heap.size ≤ a4; omega, _, B2.grown (gtrans g3 g4), B4, unhide OO (unhide HG)⟩), (fun p q hp hq => by cases hp; cases hq; exact ⟨by show a1 ≠ a2; omega, by show a3 ≠ a4; omega⟩)⟩
  clear N1 N2 N3 N4 z0 z1 z2 z3 z4 g0 g1 g2 g3 g4 B1 l1 m1 B3 l3 m3 B2 l2 m2 B4 l4 m4 OL OO HF HG
  go_wp2_with fail
  go_loopw [16] (fun iv wr => ∃ (k : Nat), k ≤ len ∧ iv = .int .i64 k ∧ Hid (ST w wr (some (a1, a3)) (some (a2, a4)))) (fun iv _ => len - (intOf iv).toNat)
  case atStart => exact ⟨0, Nat.zero_le _, rfl, T0⟩
  case round =>
    clear T0
    obtain ⟨k, hk, rfl, S⟩ := hrel
    by_cases hlt : k < len
    · obtain ⟨bo, off, rfl, hcs⟩ := (unhide HO).cell.resolve_left (by omega)
      have hx' : ol[k]? = some ol[k] := List.getElem?_eq_getElem _
      have hcx := hcs k _ hx'
      have hok := (unhide HO).ok _ (List.mem_of_getElem? hx')
      generalize ol[k] = y at *
      have gr := (unhide S).g
      have kn : (k : Int) < (len : Int) := by omega
      have HLT := hide hlt
      have c0 : wr.cell? ⟨bo, off + k * 3, none⟩ = some (.int .i64 y.kind) := cell_grown (hcx 0 _ rfl) gr
      have c1 : wr.cell? ⟨bo, off + k * 3 + 1, none⟩ = some (.bool y.oth) := cell_grown (hcx 1 _ rfl) gr
      have c2 : wr.cell? ⟨bo, off + k * 3 + 2, none⟩ = some (.int .i64 y.n) := cell_grown (hcx 2 _ rfl) gr
      clear hcs hcx hx' hlt hk gr
      cases hyo : y.oth with
      | true =>
        rw [hyo] at c1
        clear hyo
        have CC := st_stepC (unhide S) y.kind true y.n hok.k
        clear S
        go_wp2_with fail
        refine CC.mono ?_
        rintro e W ⟨rfl, S⟩
        replace S := hide S
        clear CC
        go_wp2_with fail
        go_roundw
        case rel => exact ⟨k + 1, unhide HLT, by go_num, S⟩
        case measure => have := unhide HLT; simp [intOf]; omega
      | false =>
        rw [hyo] at c1
        clear hyo
        have CC := st_step (unhide S) y.kind false y.n hok.k
        clear S
        go_wp2_with fail
        refine CC.mono ?_
        rintro e W ⟨rfl, S⟩
        replace S := hide S
        clear CC
        go_wp2_with fail
        go_roundw
        case rel => exact ⟨k + 1, unhide HLT, by go_num, S⟩
        case measure => have := unhide HLT; simp [intOf]; omega
    · have kn : ¬ (k : Int) < (len : Int) := by omega
      clear hlt
      go_wp2_with fail
      have CC := st_step (unhide S) 5 false 0 ⟨by decide, by decide⟩
      clear S
      refine CC.mono ?_
      rintro e W ⟨rfl, S⟩
      replace S := hide S
      clear CC
      go_wp2_with fail
      have CC := st_stepC (unhide S) 5 false 0 ⟨by decide, by decide⟩
      clear S
      refine CC.mono ?_
      rintro e W ⟨rfl, S⟩
      replace S := hide S
      clear CC
      have EN := hide (unhide S).g
      clear S
      go_wp2_with fail
      go_ret
      exact ⟨rfl, unhide EN⟩

theorem walk10 (limit other : Int) (a0 : Option Addr) (len cap : Nat) (ol : List OpE) (w : World) (hf : fitsF limit) (hg : ¬ fitsF other) (h : IsOps w a0 len cap ol) :
    Calls Try.prog 4 #[.int .i64 limit, .int .i64 other, .slice a0 len cap] w fun e w' => e = .returned (.bool true) ∧ w.grownBy w' none := by
  have sh := shown_any w
  have HO := hide h
  have hl := h.hlen
  have hcap := h.hcap
  have lenI : ¬ (9223372036854775807 : Int) < (len : Int) := by omega
  have N1 := newc_ok limit hf
  have N3 := newr_ok limit hf
  have N2 := newc_no other hg
  have N4 := newr_no other hg
  have OL := hide (fun (_ : fitsF limit) => i0_ok (n := limit) (by assumption))
  have OO := hide (fun (_ : fitsF other) => i0_ok (n := other) (by assumption))
  have HF := hide hf
  have HG := hide hg
  clear h hf hg
  go_enter Try.func4, Try.ntmps4
  go_wp2_with fail
  refine sh.mono ?_
  rintro e w0 ⟨rfl, g0⟩
  clear sh
  go_wp2_with fail
  refine (N1 _).mono ?_
  rintro e w1 ⟨a1, rfl, g1, B1, l1, m1⟩
  go_wp2_with fail
  refine (N2 _).mono ?_
  rintro e w2 ⟨rfl, g2⟩
  go_wp2_with fail
  refine (N3 _).mono ?_
  rintro e w3 ⟨a3, rfl, g3, B3, l3, m3⟩
  go_wp2_with fail
  refine (N4 _).mono ?_
  rintro e w4 ⟨rfl, g4⟩
  have z0 := g0.size
  have z1 := g1.size
  have z2 := g2.size
  have z3 := g3.size
  have z4 := g4.size
  have T0 : Hid (ST w w4 (some (a1, a3)) (none)) := ⟨gtrans g0 (gtrans g1 (gtrans g2 (gtrans g3 g4))), (fun p hp => by cases hp; exact ⟨by show w.heap.size ≤ a1; omega, by show w.heap.size ≤ a3; omega, _, B1.grown (gtrans g2 (gtrans g3 g4)), B3.grown g4, unhide OL (unhide HF)⟩), (fun p hp => by cases hp), (fun p q hp hq => by cases hq)⟩
  clear N1 N2 N3 N4 z0 z1 z2 z3 z4 g0 g1 g2 g3 g4 B1 l1 m1 B3 l3 m3 OL OO HF HG
  go_wp2_with fail
  go_loopw [16] (fun iv wr => ∃ (k : Nat), k ≤ len ∧ iv = .int .i64 k ∧ Hid (ST w wr (some (a1, a3)) (none))) (fun iv _ => len - (intOf iv).toNat)
  case atStart => exact ⟨0, Nat.zero_le _, rfl, T0⟩
  case round =>
    clear T0
    obtain ⟨k, hk, rfl, S⟩ := hrel
    by_cases hlt : k < len
    · obtain ⟨bo, off, rfl, hcs⟩ := (unhide HO).cell.resolve_left (by omega)
      have hx' : ol[k]? = some ol[k] := List.getElem?_eq_getElem _
      have hcx := hcs k _ hx'
      have hok := (unhide HO).ok _ (List.mem_of_getElem? hx')
      generalize ol[k] = y at *
      have gr := (unhide S).g
      have kn : (k : Int) < (len : Int) := by omega
      have HLT := hide hlt
      have c0 : wr.cell? ⟨bo, off + k * 3, none⟩ = some (.int .i64 y.kind) := cell_grown (hcx 0 _ rfl) gr
      have c1 : wr.cell? ⟨bo, off + k * 3 + 1, none⟩ = some (.bool y.oth) := cell_grown (hcx 1 _ rfl) gr
      have c2 : wr.cell? ⟨bo, off + k * 3 + 2, none⟩ = some (.int .i64 y.n) := cell_grown (hcx 2 _ rfl) gr
      clear hcs hcx hx' hlt hk gr
      cases hyo : y.oth with
      | true =>
        rw [hyo] at c1
        clear hyo
        go_wp2_with fail
        go_roundw
        case rel => exact ⟨k + 1, unhide HLT, by go_num, S⟩
        case measure => have := unhide HLT; simp [intOf]; omega
      | false =>
        rw [hyo] at c1
        clear hyo
        have CC := st_step (unhide S) y.kind false y.n hok.k
        clear S
        go_wp2_with fail
        refine CC.mono ?_
        rintro e W ⟨rfl, S⟩
        replace S := hide S
        clear CC
        go_wp2_with fail
        go_roundw
        case rel => exact ⟨k + 1, unhide HLT, by go_num, S⟩
        case measure => have := unhide HLT; simp [intOf]; omega
    · have kn : ¬ (k : Int) < (len : Int) := by omega
      clear hlt
      go_wp2_with fail
      have CC := st_step (unhide S) 5 false 0 ⟨by decide, by decide⟩
      clear S
      refine CC.mono ?_
      rintro e W ⟨rfl, S⟩
      replace S := hide S
      clear CC
      have EN := hide (unhide S).g
      clear S
      go_wp2_with fail
      go_ret
      exact ⟨rfl, unhide EN⟩

theorem walk01 (limit other : Int) (a0 : Option Addr) (len cap : Nat) (ol : List OpE) (w : World) (hf : ¬ fitsF limit) (hg : fitsF other) (h : IsOps w a0 len cap ol) :
    Calls Try.prog 4 #[.int .i64 limit, .int .i64 other, .slice a0 len cap] w fun e w' => e = .returned (.bool true) ∧ w.grownBy w' none := by
  have sh := shown_any w
  have HO := hide h
  have hl := h.hlen
  have hcap := h.hcap
  have lenI : ¬ (9223372036854775807 : Int) < (len : Int) := by omega
  have N1 := newc_no limit hf
  have N3 := newr_no limit hf
  have N2 := newc_ok other hg
  have N4 := newr_ok other hg
  have OL := hide (fun (_ : fitsF limit) => i0_ok (n := limit) (by assumption))
  have OO := hide (fun (_ : fitsF other) => i0_ok (n := other) (by assumption))
  have HF := hide hf
  have HG := hide hg
  clear h hf hg
  go_enter Try.func4, Try.ntmps4
  go_wp2_with fail
  refine sh.mono ?_
  rintro e w0 ⟨rfl, g0⟩
  clear sh
  go_wp2_with fail
  refine (N1 _).mono ?_
  rintro e w1 ⟨rfl, g1⟩
  go_wp2_with fail
  refine (N2 _).mono ?_
  rintro e w2 ⟨a2, rfl, g2, B2, l2, m2⟩
  go_wp2_with fail
  refine (N3 _).mono ?_
  rintro e w3 ⟨rfl, g3⟩
  go_wp2_with fail
  refine (N4 _).mono ?_
  rintro e w4 ⟨a4, rfl, g4, B4, l4, m4⟩
  have z0 := g0.size
  have z1 := g1.size
  have z2 := g2.size
  have z3 := g3.size
  have z4 := g4.size
  have T0 : Hid (ST w w4 (none) (some (a2, a4))) := ⟨gtrans g0 (gtrans g1 (gtrans g2 (gtrans g3 g4))), (fun p hp => by cases hp), (fun p hp => by cases hp; exact ⟨by show w.heap.size ≤ a2; omega, by show w.heap.size ≤ a4; omega, _, B2.grown (gtrans g3 g4), B4, unhide OO (unhide HG)⟩), (fun p q hp hq => by cases hp)⟩
  clear N1 N2 N3 N4 z0 z1 z2 z3 z4 g0 g1 g2 g3 g4 B2 l2 m2 B4 l4 m4 OL OO HF HG
  go_wp2_with fail
  go_loopw [16] (fun iv wr => ∃ (k : Nat), k ≤ len ∧ iv = .int .i64 k ∧ Hid (ST w wr (none) (some (a2, a4)))) (fun iv _ => len - (intOf iv).toNat)
  case atStart => exact ⟨0, Nat.zero_le _, rfl, T0⟩
  case round =>
    clear T0
    obtain ⟨k, hk, rfl, S⟩ := hrel
    by_cases hlt : k < len
    · obtain ⟨bo, off, rfl, hcs⟩ := (unhide HO).cell.resolve_left (by omega)
      have hx' : ol[k]? = some ol[k] := List.getElem?_eq_getElem _
      have hcx := hcs k _ hx'
      have hok := (unhide HO).ok _ (List.mem_of_getElem? hx')
      generalize ol[k] = y at *
      have gr := (unhide S).g
      have kn : (k : Int) < (len : Int) := by omega
      have HLT := hide hlt
      have c0 : wr.cell? ⟨bo, off + k * 3, none⟩ = some (.int .i64 y.kind) := cell_grown (hcx 0 _ rfl) gr
      have c1 : wr.cell? ⟨bo, off + k * 3 + 1, none⟩ = some (.bool y.oth) := cell_grown (hcx 1 _ rfl) gr
      have c2 : wr.cell? ⟨bo, off + k * 3 + 2, none⟩ = some (.int .i64 y.n) := cell_grown (hcx 2 _ rfl) gr
      clear hcs hcx hx' hlt hk gr
      cases hyo : y.oth with
      | true =>
        rw [hyo] at c1
        clear hyo
        have CC := st_stepC (unhide S) y.kind true y.n hok.k
        clear S
        go_wp2_with fail
        refine CC.mono ?_
        rintro e W ⟨rfl, S⟩
        replace S := hide S
        clear CC
        go_wp2_with fail
        go_roundw
        case rel => exact ⟨k + 1, unhide HLT, by go_num, S⟩
        case measure => have := unhide HLT; simp [intOf]; omega
      | false =>
        rw [hyo] at c1
        clear hyo
        go_wp2_with fail
        go_roundw
        case rel => exact ⟨k + 1, unhide HLT, by go_num, S⟩
        case measure => have := unhide HLT; simp [intOf]; omega
    · have kn : ¬ (k : Int) < (len : Int) := by omega
      clear hlt
      go_wp2_with fail
      have CC := st_stepC (unhide S) 5 false 0 ⟨by decide, by decide⟩
      clear S
      refine CC.mono ?_
      rintro e W ⟨rfl, S⟩
      replace S := hide S
      clear CC
      have EN := hide (unhide S).g
      clear S
      go_wp2_with fail
      go_ret
      exact ⟨rfl, unhide EN⟩

theorem walk00 (limit other : Int) (a0 : Option Addr) (len cap : Nat) (ol : List OpE) (w : World) (hf : ¬ fitsF limit) (hg : ¬ fitsF other) (h : IsOps w a0 len cap ol) :
    Calls Try.prog 4 #[.int .i64 limit, .int .i64 other, .slice a0 len cap] w fun e w' => e = .returned (.bool true) ∧ w.grownBy w' none := by
  have sh := shown_any w
  have HO := hide h
  have hl := h.hlen
  have hcap := h.hcap
  have lenI : ¬ (9223372036854775807 : Int) < (len : Int) := by omega
  have N1 := newc_no limit hf
  have N3 := newr_no limit hf
  have N2 := newc_no other hg
  have N4 := newr_no other hg
  have OL := hide (fun (_ : fitsF limit) => i0_ok (n := limit) (by assumption))
  have OO := hide (fun (_ : fitsF other) => i0_ok (n := other) (by assumption))
  have HF := hide hf
  have HG := hide hg
  clear h hf hg
  go_enter Try.func4, Try.ntmps4
  go_wp2_with fail
  refine sh.mono ?_
  rintro e w0 ⟨rfl, g0⟩
  clear sh
  go_wp2_with fail
  refine (N1 _).mono ?_
  rintro e w1 ⟨rfl, g1⟩
  go_wp2_with fail
  refine (N2 _).mono ?_
  rintro e w2 ⟨rfl, g2⟩
  go_wp2_with fail
  refine (N3 _).mono ?_
  rintro e w3 ⟨rfl, g3⟩
  go_wp2_with fail
  refine (N4 _).mono ?_
  rintro e w4 ⟨rfl, g4⟩
  have z0 := g0.size
  have z1 := g1.size
  have z2 := g2.size
  have z3 := g3.size
  have z4 := g4.size
  have T0 : Hid (ST w w4 (none) (none)) := ⟨gtrans g0 (gtrans g1 (gtrans g2 (gtrans g3 g4))), (fun p hp => by cases hp), (fun p hp => by cases hp), (fun p q hp hq => by cases hp)⟩
  clear N1 N2 N3 N4 z0 z1 z2 z3 z4 g0 g1 g2 g3 g4  OL OO HF HG
  go_wp2_with fail
  go_loopw [16] (fun iv wr => ∃ (k : Nat), k ≤ len ∧ iv = .int .i64 k ∧ Hid (ST w wr (none) (none))) (fun iv _ => len - (intOf iv).toNat)
  case atStart => exact ⟨0, Nat.zero_le _, rfl, T0⟩
  case round =>
    clear T0
    obtain ⟨k, hk, rfl, S⟩ := hrel
    by_cases hlt : k < len
    · obtain ⟨bo, off, rfl, hcs⟩ := (unhide HO).cell.resolve_left (by omega)
      have hx' : ol[k]? = some ol[k] := List.getElem?_eq_getElem _
      have hcx := hcs k _ hx'
      have hok := (unhide HO).ok _ (List.mem_of_getElem? hx')
      generalize ol[k] = y at *
      have gr := (unhide S).g
      have kn : (k : Int) < (len : Int) := by omega
      have HLT := hide hlt
      have c0 : wr.cell? ⟨bo, off + k * 3, none⟩ = some (.int .i64 y.kind) := cell_grown (hcx 0 _ rfl) gr
      have c1 : wr.cell? ⟨bo, off + k * 3 + 1, none⟩ = some (.bool y.oth) := cell_grown (hcx 1 _ rfl) gr
      have c2 : wr.cell? ⟨bo, off + k * 3 + 2, none⟩ = some (.int .i64 y.n) := cell_grown (hcx 2 _ rfl) gr
      clear hcs hcx hx' hlt hk gr
      cases hyo : y.oth with
      | true =>
        rw [hyo] at c1
        clear hyo
        go_wp2_with fail
        go_roundw
        case rel => exact ⟨k + 1, unhide HLT, by go_num, S⟩
        case measure => have := unhide HLT; simp [intOf]; omega
      | false =>
        rw [hyo] at c1
        clear hyo
        go_wp2_with fail
        go_roundw
        case rel => exact ⟨k + 1, unhide HLT, by go_num, S⟩
        case measure => have := unhide HLT; simp [intOf]; omega
    · have kn : ¬ (k : Int) < (len : Int) := by omega
      clear hlt
      have EN := hide (unhide S).g
      clear S
      go_wp2_with fail
      go_ret
      exact ⟨rfl, unhide EN⟩

theorem walk (limit other : Int) (a0 : Option Addr) (len cap : Nat) (ol : List OpE) (w : World) (h : IsOps w a0 len cap ol) :
    Calls Try.prog 4 #[.int .i64 limit, .int .i64 other, .slice a0 len cap] w fun e w' => e = .returned (.bool true) ∧ w.grownBy w' none := by
  by_cases hf : fitsF limit
  · by_cases hg : fitsF other
    · exact walk11 limit other a0 len cap ol w hf hg h
    · exact walk10 limit other a0 len cap ol w hf hg h
  · by_cases hg : fitsF other
    · exact walk01 limit other a0 len cap ol w hf hg h
    · exact walk00 limit other a0 len cap ol w hf hg h
end Gr
end Go.Proofs.Ytgmjminpgliilaa
