/- The reader: zeros, bytes. -/
import Derived.Test.YtggjeamondampaaFJ
import Derived.Test.YtggjeamondampaaNP
import Derived.Deep.QuietTactic
namespace Go.Proofs.Ytggjeamondampaa
open Go.RowKit
set_option linter.unusedVariables false
set_option maxRecDepth 100000
set_option maxHeartbeats 1000000

theorem zrs_spec (m : Nat) (l : List Int) : zrs m l ≤ m ∧ zrs m l ≤ l.length ∧ (∀ i, i < zrs m l → l.getD i 0 = 0) ∧ (zrs m l = m ∨ zrs m l = l.length ∨ ¬ l.getD (zrs m l) 0 = 0) := by
  induction m generalizing l with
  | zero => exact ⟨Nat.le_refl _, Nat.zero_le _, fun i hi => by simp [zrs] at hi, .inl rfl⟩
  | succ m ih =>
    cases l with
    | nil => exact ⟨by simp [zrs], by simp [zrs], fun i hi => by simp [zrs] at hi, .inr (.inl (by simp [zrs]))⟩
    | cons x l =>
      obtain ⟨a1, a2, a3, a4⟩ := ih l
      by_cases hx : x = 0
      · have e : zrs (m + 1) (x :: l) = zrs m l + 1 := by simp only [zrs]; rw [if_pos hx]
        rw [e]
        refine ⟨by omega, by simp; omega, fun i hi => ?_, ?_⟩
        · cases i with
          | zero => simpa using hx
          | succ i => simpa using a3 i (by omega)
        · rcases a4 with h | h | h
          · exact .inl (by omega)
          · exact .inr (.inl (by simp; omega))
          · exact .inr (.inr (by simpa using h))
      · have e : zrs (m + 1) (x :: l) = 0 := by simp only [zrs]; rw [if_neg hx]
        rw [e]
        exact ⟨Nat.zero_le _, Nat.zero_le _, fun i hi => by omega, .inr (.inr (by simpa using hx))⟩

theorem Rdg.put {w : World} {g : Nat} {a : Option Addr} {l : List Int} {c k : Nat} {y : Int} (h : Rdg w g a l c k y) (q k' : Nat) (hk : k' ≤ l.length) : Rdg ((w.drewN q).setCell ⟨g, 1, none⟩ (.int .i64 k')) g a l c k' y :=
  h.go k' hk (grown_at (grown_any (grown_drewN (World.grownBy.refl w none)) g) 1 _) ((h.blk.drewN q).setC 1 _)
theorem Rdg.drewN {w : World} {g : Nat} {a : Option Addr} {l : List Int} {c k : Nat} {y : Int} (h : Rdg w g a l c k y) (q : Nat) : Rdg (w.drewN q) g a l c k y :=
  h.go k h.at_ (grown_any (grown_drewN (World.grownBy.refl w none)) g) (h.blk.drewN q)
theorem grown_drewS {w W : World} {r : Option Nat} (g : w.grownBy W r) (q : Nat) : w.grownBy (W.drewN q) r := ⟨g.os, g.tape, g.output, g.size, g.block⟩

theorem Rdg.zeros {w : World} {g : Nat} {a : Option Addr} {l : List Int} {c k : Nat} {y : Int} (h : Rdg w g a l c k y) :
    Calls Try.prog 90 #[.pointer (some ⟨g, 0, none⟩)] w fun e w' => e = .returned (.int .i64 ((zrs 65534 (l.drop k) : Nat) + 1 : Int)) ∧ Rdg w' g a l c (k + zrs 65534 (l.drop k)) y ∧ w.grownBy w' (some g) := by
  obtain ⟨z1, z2, z3, z4⟩ := zrs_spec 65534 (l.drop k)
  rw [List.length_drop] at z2 z4
  have gd : ∀ i, (l.drop k).getD i 0 = l.getD (k + i) 0 := fun i => by simp [List.getD]
  have hk := h.at_
  generalize zrs 65534 (l.drop k) = Z at *
  rw [gd] at z4
  have Z3 : Hid (∀ i, i < Z → l.getD (k + i) 0 = 0) := fun i hi => (gd i).symm.trans (z3 i hi)
  have Z4 := hide z4
  have H := hide h
  clear z3 z4 gd h
  go_enter Try.func90, Try.ntmps90
  go_wp2
  go_loopw [3] (fun n wr => ∃ (j K : Nat), j ≤ Z ∧ K = k + j ∧ n = .int .i64 ((j : Int) + 1) ∧ Rdg wr g a l c K y ∧ w.grownBy wr (some g)) (fun n _ => Z + 1 - (intOf n).toNat)
  case atStart => exact ⟨0, k, Nat.zero_le _, rfl, rfl, unhide H, World.grownBy.refl w _⟩
  case round =>
    clear H
    obtain ⟨j, K, hj, hK, rfl, R, gw⟩ := hrel
    have c0 := R.blk.cell 0 (.slice a l.length c) rfl
    have c1 := R.blk.cell 1 (.int .i64 K) rfl
    have th := R.blk.thaws
    have HR := hide R; have HG := hide gw
    have hmax := R.max
    have hcap := R.cap
    unfold maxLen at hmax
    have hln : l.length ≤ 9223372036854775807 := by omega
    by_cases hlt : j < Z
    · have hKl : K < l.length := by omega
      have hx := unhide Z3 j hlt
      rw [← hK] at hx
      obtain ⟨b, off, rfl, hcs⟩ := R.rd.2 (fun e => by rw [e] at hKl; simp at hKl)
      have cb := hcs K hKl
      rw [hx] at cb
      have q1 : (j : Int) + 1 < 65535 := by omega
      have q2 : decide ((j : Int) + 1 < 65535) = true := decide_eq_true q1
      have q3 : (K : Int) < (l.length : Int) := by omega
      have q4 : decide ((K : Int) < (l.length : Int)) = true := decide_eq_true q3
      have q5 : decide (K < l.length) = true := decide_eq_true hKl
      have F := hide (And.intro hlt (And.intro hK hKl))
      clear hcs hx R gw hK hlt hj z1 z2 hk hmax hcap Z4
      generalize hnl : l.length = n at *
      have HN := hide hnl
      clear hnl
      go_wp2
      go_quiet (fail)
      go_wp2
      obtain ⟨f1, f2, f3⟩ := unhide F
      exact ⟨⟨j + 1, K + 1, f1, by omega, by go_num, (unhide HR).put nq (K + 1) (by have := unhide HN; omega), grown_at (grown_drewS (unhide HG) nq) 1 _⟩, by simp [intOf]; omega⟩
    · obtain rfl : j = Z := by omega
      have F : Hid (Rdg wr g a l c (k + j) y ∧ w.grownBy wr (some g)) := by rw [← hK]; exact ⟨R, gw⟩
      by_cases e1 : j = 65534
      · have q1 : ¬ (j : Int) + 1 < 65535 := by omega
        have q2 : decide ((j : Int) + 1 < 65535) = false := decide_eq_false q1
        clear R gw hK hlt hj z1 z2 hk hmax hcap e1 Z3 Z4 HR HG
        go_wp2
        go_quiet (fail)
        go_wp2
        go_ret
        exact ⟨rfl, (unhide F).1.drewN _, grown_drewS (unhide F).2 _⟩
      · have q1 : (j : Int) + 1 < 65535 := by omega
        have q2 : decide ((j : Int) + 1 < 65535) = true := decide_eq_true q1
        by_cases e2 : K = l.length
        · have q3 : ¬ (K : Int) < (l.length : Int) := by omega
          have q4 : decide ((K : Int) < (l.length : Int)) = false := decide_eq_false q3
          have q5 : decide (K < l.length) = false := decide_eq_false (by omega)
          have q6 : ¬ K < l.length := by omega
          clear R gw hK hlt hj z1 z2 hk hmax hcap e1 e2 Z3 Z4 HR HG
          generalize hnl : l.length = n at *
          clear hnl
          go_wp2
          go_quiet (fail)
          go_wp2
          go_ret
          exact ⟨rfl, (unhide F).1.drewN _, grown_drewS (unhide F).2 _⟩
        · have hKl : K < l.length := by omega
          have hx : ¬ l.getD (k + j) 0 = 0 := by
            rcases unhide Z4 with h | h | h
            · exact absurd h e1
            · omega
            · exact h
          rw [← hK] at hx
          obtain ⟨b, off, rfl, hcs⟩ := R.rd.2 (fun e => by rw [e] at hKl; simp at hKl)
          have cb := hcs K hKl
          generalize l.getD K 0 = x at *
          have hxd : (x == 0) = false := by simpa using hx
          have q3 : (K : Int) < (l.length : Int) := by omega
          have q4 : decide ((K : Int) < (l.length : Int)) = true := decide_eq_true q3
          have q5 : decide (K < l.length) = true := decide_eq_true hKl
          clear R gw hK hlt hj z1 z2 hk hmax hcap e1 e2 Z3 Z4 HR HG hcs hx
          generalize hnl : l.length = n at *
          clear hnl
          go_wp2
          go_quiet (fail)
          go_wp2
          go_ret
          exact ⟨rfl, (unhide F).1.drewN _, grown_drewS (unhide F).2 _⟩

end Go.Proofs.Ytggjeamondampaa
