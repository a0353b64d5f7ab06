/- RenoLimited. -/
import Derived.Test.YtgmnlhbfhdgidaaGJ
namespace Go.Proofs.Ytgmnlhbfhdgidaa
open Go.RowKit
set_option linter.unusedVariables false
set_option maxRecDepth 100000
set_option maxHeartbeats 4000000

/-- Two controllers beside one another. -/
structure TQ (w wr : World) (a b n : Nat) (s t : Cs) : Prop where
  qa : QE w wr a n s
  qb : QE w wr b n t
  ne : a ≠ b
theorem TQ.keep {w wr wr' : World} {a b n : Nat} {s t : Cs} (h : TQ w wr a b n s t) (g : wr.grownBy wr' none) : TQ w wr' a b n s t := ⟨h.qa.keep g, h.qb.keep g, h.ne⟩
theorem TQ.up {w wr : World} {a b n k : Nat} {s t : Cs} (h : TQ w wr a b n s t) (hk : n ≤ k) : TQ w wr a b k s t := ⟨h.qa.up hk, h.qb.up hk, h.ne⟩
theorem tq_da {w wr : World} {a b n : Nat} {s t : Cs} (h : TQ w wr a b n s t) (hn : n ≤ 100000) (y : OpE) : Calls Try.prog 15 #[ptr a, .agg (opc y)] wr fun e w' => e = .returned (.bool (cutF y s)) ∧ TQ w w' a b (n + 1) (doesF y s) t ∧ wr.grownBy w' (some a) :=
  (qe_does h.qa hn y).mono fun e w' ⟨he, h1, g⟩ => ⟨he, ⟨h1, (h.qb.far g h.ne.symm h.qa.new).up (Nat.le_succ n), h.ne⟩, g⟩
theorem tq_db {w wr : World} {a b n : Nat} {s t : Cs} (h : TQ w wr a b n s t) (hn : n ≤ 100000) (y : OpE) : Calls Try.prog 15 #[ptr b, .agg (opc y)] wr fun e w' => e = .returned (.bool (cutF y t)) ∧ TQ w w' a b (n + 1) s (doesF y t) ∧ wr.grownBy w' (some b) :=
  (qe_does h.qb hn y).mono fun e w' ⟨he, h1, g⟩ => ⟨he, ⟨(h.qa.far g h.ne h.qb.new).up (Nat.le_succ n), h1, h.ne⟩, g⟩
theorem tq_acked {w wr : World} {a b n : Nat} {s t : Cs} (h : TQ w wr a b n s t) (hn : n ≤ 100000) (now sent x : Int) (l : Bool) : Calls Try.prog 21 #[ptr a, .int .i64 now, .int .i64 sent, .int .i64 x, .bool l] wr fun e w' => e = .returned (.tuple #[]) ∧ TQ w w' a b (n + 1) (ackF now sent x l s) t ∧ wr.grownBy w' (some a) :=
  (qe_acked h.qa hn now sent x l).mono fun e w' ⟨he, h1, g⟩ => ⟨he, ⟨h1, (h.qb.far g h.ne.symm h.qa.new).up (Nat.le_succ n), h.ne⟩, g⟩
theorem tq_dropped {w wr : World} {a b n : Nat} {s t : Cs} (h : TQ w wr a b n s t) (hn : n ≤ 100000) (x : Int) : Calls Try.prog 25 #[ptr b, .int .i64 x] wr fun e w' => e = .returned (.tuple #[]) ∧ TQ w w' a b n s (landF x t) ∧ wr.grownBy w' (some b) :=
  (qe_dropped h.qb hn x).mono fun e w' ⟨he, h1, g⟩ => ⟨he, ⟨h.qa.far g h.ne h.qb.new, h1, h.ne⟩, g⟩
theorem tq_va {w wr : World} {a b n : Nat} {s t : Cs} (h : TQ w wr a b n s t) : Calls Try.prog 19 #[ptr a] wr fun e w' => e = .returned (.agg (vwc s)) ∧ TQ w w' a b n s t ∧ wr.grownBy w' none :=
  (qe_view h.qa).mono fun e w' ⟨he, _, g⟩ => ⟨he, h.keep g, g⟩
theorem tq_vb {w wr : World} {a b n : Nat} {s t : Cs} (h : TQ w wr a b n s t) : Calls Try.prog 19 #[ptr b] wr fun e w' => e = .returned (.agg (vwc t)) ∧ TQ w w' a b n s t ∧ wr.grownBy w' none :=
  (qe_view h.qb).mono fun e w' ⟨he, _, g⟩ => ⟨he, h.keep g, g⟩

theorem limited_walk (n : Int) (a0 : Option Addr) (len cap : Nat) (ol : List OpE) (a1 : Option Addr) (len1 cap1 : Nat) (xl : List Int) (w : World) (hn : i64B n) (h : IsOps w a0 len cap ol) (h1 : IsInts w a1 len1 cap1 xl) :
    Calls Try.prog 8 #[.int .i64 n, .slice a0 len cap, .slice a1 len1 cap1] w fun e w' => e = .returned (.bool true) ∧ w.grownBy w' none := by
  have sh := shown_any w
  have HO := hide h
  have HO1 := hide h1
  have hl := h.hlen
  have hcap := h.hcap
  have hl1 := h1.hlen
  have hcap1 := h1.hcap
  have lenI : ¬ (9223372036854775807 : Int) < (len : Int) := by omega
  have lenI1 : ¬ (9223372036854775807 : Int) < (len1 : Int) := by omega
  have CT := hide (fun (W : World) (g : w.grownBy W none) => qe_ctl g n hn)
  clear h h1
  generalize cs0 (mtuF n) = s0 at *
  go_enter Try.func8, Try.ntmps8
  go_wp2_with fail
  refine sh.mono ?_
  rintro e w1 ⟨rfl, g1⟩
  clear sh
  go_wp2_with fail
  refine (unhide CT w1 g1).mono ?_
  rintro e w2 ⟨a, -, rfl, q2, -⟩
  clear g1
  go_wp2_with fail
  refine (unhide CT w2 q2.grown).mono ?_
  rintro e w3 ⟨b, hb, rfl, q3, k3⟩
  have S0 := hide (TQ.mk (q2.keep k3) q3 (by have := q2.at_.lt; omega))
  clear CT q2 q3 k3 hb
  go_wp2_with fail
  go_loopw [10] (fun i wr => ∃ (k : Nat) (s : Cs), k ≤ len ∧ k ≤ 2000 ∧ i = .int .i64 k ∧ Hid (TQ w wr a b (3 * k) s s)) (fun i _ => len - (intOf i).toNat)
  case atStart => exact ⟨0, _, Nat.zero_le _, Nat.zero_le _, rfl, S0⟩
  case round =>
    clear S0
    obtain ⟨k, s, hk, hk4, rfl, H⟩ := hrel
    by_cases hlt : k < len ∧ k < 2000
    · obtain ⟨bo, off, rfl, hcs⟩ := (unhide HO).cell.resolve_left (by omega)
      have hx' : ol[k]? = some ol[k] := List.getElem?_eq_getElem _
      have hcx := hcs k _ hx'
      generalize ol[k] = y at *
      have kn : (k : Int) < (len : Int) := by omega
      have k4 : (k : Int) < 2000 := by omega
      have HLT := hide hlt
      have CC : Hid (∀ X : World, w.grownBy X none → X.cell? ⟨bo, off + k * 6, none⟩ = some (.int .i64 y.kind) ∧ X.cell? ⟨bo, off + k * 6 + 1, none⟩ = some (.int .i64 y.h) ∧ X.cell? ⟨bo, off + k * 6 + 2, none⟩ = some (.int .i64 y.now) ∧ X.cell? ⟨bo, off + k * 6 + 3, none⟩ = some (.int .i64 y.sent) ∧ X.cell? ⟨bo, off + k * 6 + 4, none⟩ = some (.int .i64 y.size) ∧ X.cell? ⟨bo, off + k * 6 + 5, none⟩ = some (.bool y.lim)) := fun X hX => ⟨cell_grown (hcx 0 _ rfl) hX, cell_grown (hcx 1 _ rfl) hX, cell_grown (hcx 2 _ rfl) hX, cell_grown (hcx 3 _ rfl) hX, cell_grown (hcx 4 _ rfl) hX, cell_grown (hcx 5 _ rfl) hX⟩
      obtain ⟨c0, c1, c2, c3, c4, c5⟩ := unhide CC _ (unhide H).qa.grown
      have DA := tq_da (unhide H) (by omega) y
      clear hcs hcx hx' hlt hk H
      unfold opc at DA
      go_wp2_with fail
      refine DA.mono ?_
      rintro e W3 ⟨rfl, p3, -⟩
      clear DA c0 c1 c2 c3 c4 c5
      obtain ⟨c0, c1, c2, c3, c4, c5⟩ := unhide CC _ p3.qa.grown
      have DB := tq_db p3 (by omega) y
      clear p3
      unfold opc at DB
      go_wp2_with fail
      refine DB.mono ?_
      rintro e W4 ⟨rfl, p4, -⟩
      clear DB c0 c1 c2 c3 c4 c5 CC
      generalize cutF y s = ct at *
      generalize doesF y s = s1 at *
      by_cases hz : 0 < len1
      · obtain ⟨bx, ox, rfl, hcs⟩ := (unhide HO1).cell.resolve_left (by omega)
        have hmod : k % len1 < len1 := Nat.mod_lt _ hz
        have hx' : xl[k % len1]? = some xl[k % len1] := List.getElem?_eq_getElem _
        have hcx := cell_grown (hcs _ _ hx') p4.qa.grown
        generalize xl[k % len1] = x at *
        have zI : (0 : Int) < (len1 : Int) := by omega
        have zN : ¬ ((len1 : Int) = 0) := by omega
        have AK := tq_acked p4 (by omega) 0 k x true
        rw [ack_lim p4.qa.ok] at AK
        have hm : (k : Int) % (len1 : Int) = ((k % len1 : Nat) : Int) := by omega
        have hmI : ((k % len1 : Nat) : Int) < (len1 : Int) := by omega
        generalize k % len1 = r at *
        clear hcs hx' p4
        go_wp2_with fail
        refine AK.mono ?_
        rintro e W5 ⟨rfl, p5, -⟩
        clear AK
        have DR := tq_dropped p5 (by omega) x
        clear p5
        go_wp2_with fail
        refine DR.mono ?_
        rintro e W6 ⟨rfl, p6, -⟩
        clear DR
        have V6 := tq_va p6
        clear p6
        generalize landF x s1 = s2 at *
        unfold vwc at V6
        go_wp2_with fail
        refine V6.mono ?_
        rintro e W7 ⟨rfl, p7, -⟩
        clear V6
        have V7 := tq_vb p7
        clear p7
        unfold vwc at V7
        go_wp2_with fail
        refine V7.mono ?_
        rintro e W8 ⟨rfl, p8, -⟩
        have R := hide (p8.up (show 3 * k + 1 + 1 + 1 ≤ 3 * (k + 1) by omega))
        clear V7 p8
        go_wp2_with fail
        go_roundw
        case rel => exact ⟨k + 1, _, (unhide HLT).1, (unhide HLT).2, by go_num, R⟩
        case measure => have := unhide HLT; simp [intOf]; omega
      · have zI : ¬ (0 : Int) < (len1 : Int) := by omega
        have V6 := tq_va p4
        clear p4
        unfold vwc at V6
        go_wp2_with fail
        refine V6.mono ?_
        rintro e W7 ⟨rfl, p7, -⟩
        clear V6
        have V7 := tq_vb p7
        clear p7
        unfold vwc at V7
        go_wp2_with fail
        refine V7.mono ?_
        rintro e W8 ⟨rfl, p8, -⟩
        have R := hide (p8.up (show 3 * k + 1 + 1 ≤ 3 * (k + 1) by omega))
        clear V7 p8
        go_wp2_with fail
        go_roundw
        case rel => exact ⟨k + 1, _, (unhide HLT).1, (unhide HLT).2, by go_num, R⟩
        case measure => have := unhide HLT; simp [intOf]; omega
    · have alt : (¬ (k : Int) < (len : Int)) ∨ ((k : Int) < (len : Int) ∧ ¬ (k : Int) < 2000) := by omega
      have EN := hide (unhide H).qa.grown
      clear H hlt
      rcases alt with e1 | ⟨e1, e2⟩
      all_goals
        go_wp2_with fail
        go_ret
        exact ⟨rfl, unhide EN⟩
end Go.Proofs.Ytgmnlhbfhdgidaa
