/- SameRuns. -/
import Derived.Test.YtggjeamondampaaFN
namespace Go.Proofs.Ytggjeamondampaa
open Go.RowKit
set_option linter.unusedVariables false
set_option maxRecDepth 100000
set_option maxHeartbeats 2000000

theorem ext_take {A B : List (Int × Int)} (hl : A.length = B.length) (h : ∀ i, i < A.length → A.getD i (0, 0) = B.getD i (0, 0)) : A = B := by
  apply List.ext_getElem hl
  intro i h1 h2
  have := h i h1
  simpa [List.getD, h1, h2] using this

theorem sameRuns_len (a a' : Option Addr) (n n' c c' : Nat) (A B : List (Int × Int)) (w : World) (hn : A.length = n) (hn' : B.length = n') (hne : ¬ n = n') :
    Calls Try.prog 43 #[.slice a n c, .slice a' n' c'] w fun e w' => e = .returned (.bool (decide (A = B))) ∧ w.grownBy w' none := by
  have e : decide (A = B) = false := decide_eq_false (fun h => hne (by rw [← hn, ← hn', h]))
  rw [e]
  have t : ((n : Int) == (n' : Int)) = false := by simp; omega
  have t1 : ¬ (n : Int) = (n' : Int) := by omega
  have t2 : ((n : Int) != (n' : Int)) = true := by simp; omega
  have t3 : ¬ n = n' := hne
  clear e hn hn' hne
  go_enter Try.func43, Try.ntmps43
  go_wp2
  go_ret
  exact ⟨rfl, World.grownBy.refl w none⟩

theorem sameRuns_any (a a' : Option Addr) (n c c' : Nat) (A B : List (Int × Int)) (w : World) (hn : A.length = n) (hn' : B.length = n) (h1 : RdR w a A) (h2 : RdR w a' B) (hc : n ≤ c ∧ c ≤ 9223372036854775807) (hc' : n ≤ c' ∧ c' ≤ 9223372036854775807) :
    Calls Try.prog 43 #[.slice a n c, .slice a' n c'] w fun e w' => e = .returned (.bool (decide (A = B))) ∧ w.grownBy w' none := by
  have H1 := hide h1; have H2 := hide h2; have HN := hide hn; have HN' := hide hn'
  clear h1 h2 hn hn'
  go_enter Try.func43, Try.ntmps43
  go_wp2
  go_loopw [5] (fun i wr => ∃ k : Nat, k ≤ n ∧ i = .int .i64 k ∧ (∀ j, j < k → A.getD j (0, 0) = B.getD j (0, 0)) ∧ w.grownBy wr none) (fun i _ => n - (intOf i).toNat)
  case atStart => exact ⟨0, Nat.zero_le _, rfl, fun j hj => by omega, World.grownBy.refl w none⟩
  case round =>
    obtain ⟨k, hk, rfl, heq, gw⟩ := hrel
    by_cases hlt : k < n
    · have hkA : k < A.length := by rw [unhide HN]; exact hlt
      have hkB : k < B.length := by rw [unhide HN']; exact hlt
      obtain ⟨b, off, rfl, hx⟩ := unhide H1 (fun e => by rw [e] at hkA; simp at hkA)
      obtain ⟨b', off', rfl, hx'⟩ := unhide H2 (fun e => by rw [e] at hkB; simp at hkB)
      have x0 := cell_grown (hx k hkA).1 gw
      have x1 := cell_grown (hx k hkA).2 gw
      have y0 := cell_grown (hx' k hkB).1 gw
      have y1 := cell_grown (hx' k hkB).2 gw
      have HQ := hide heq; have HG := hide gw; have HLT := hide hlt
      have ST : Hid (A.getD k (0, 0) = B.getD k (0, 0) → ∀ j, j < k + 1 → A.getD j (0, 0) = B.getD j (0, 0)) := fun e j hj => by
        by_cases c : j < k
        · exact heq j c
        · obtain rfl : j = k := by omega
          exact e
      have NO : Hid (¬ A.getD k (0, 0) = B.getD k (0, 0) → decide (A = B) = false) := fun e => decide_eq_false (fun h => e (by rw [h]))
      have EX : Hid ((A.getD k (0, 0)).1 = (B.getD k (0, 0)).1 → (A.getD k (0, 0)).2 = (B.getD k (0, 0)).2 → A.getD k (0, 0) = B.getD k (0, 0)) := fun h1 h2 => Prod.ext h1 h2
      have EY : Hid ((A.getD k (0, 0)) = (B.getD k (0, 0)) → (A.getD k (0, 0)).1 = (B.getD k (0, 0)).1 ∧ (A.getD k (0, 0)).2 = (B.getD k (0, 0)).2) := fun h => by rw [h]; exact ⟨rfl, rfl⟩
      have hkn : (k : Int) < (n : Int) := by omega
      have hkn2 : decide ((k : Int) < (n : Int)) = true := decide_eq_true hkn
      have hkn3 : decide (k < n) = true := decide_eq_true hlt
      clear hx hx' hkA hkB heq gw hk
      generalize (A.getD k (0, 0)).1 = p1 at *
      generalize (A.getD k (0, 0)).2 = p2 at *
      generalize (B.getD k (0, 0)).1 = q1 at *
      generalize (B.getD k (0, 0)).2 = q2 at *
      by_cases e1 : p1 = q1
      · have t1 : (p1 != q1) = false := by simp [e1]
        by_cases e2 : p2 = q2
        · have t2 : (p2 != q2) = false := by simp [e2]
          have F := hide (unhide ST (unhide EX e1 e2))
          clear ST NO EX EY e1 e2 HQ
          go_wp2
          go_quiet (fail)
          go_wp2
          exact ⟨⟨k + 1, unhide HLT, by go_num, unhide F, ⟨(unhide HG).os, (unhide HG).tape, (unhide HG).output, (unhide HG).size, (unhide HG).block⟩⟩, by simp [intOf]; have := unhide HLT; omega⟩
        · have t2 : (p2 != q2) = true := by simp [e2]
          have F := hide (unhide NO (fun h => e2 (unhide EY h).2))
          clear ST NO EX EY e1 e2 HQ
          go_wp2
          go_quiet (fail)
          go_wp2
          go_ret
          exact ⟨by rw [unhide F]; rfl, ⟨(unhide HG).os, (unhide HG).tape, (unhide HG).output, (unhide HG).size, (unhide HG).block⟩⟩
      · have t1 : (p1 != q1) = true := by simp [e1]
        have F := hide (unhide NO (fun h => e1 (unhide EY h).1))
        clear ST NO EX EY e1 HQ
        go_wp2
        go_quiet (fail)
        go_wp2
        go_ret
        exact ⟨by rw [unhide F]; rfl, ⟨(unhide HG).os, (unhide HG).tape, (unhide HG).output, (unhide HG).size, (unhide HG).block⟩⟩
    · obtain rfl : k = n := by omega
      have hno : ¬ (k : Int) < (k : Int) := by omega
      have E := hide (decide_eq_true (ext_take ((unhide HN).trans (unhide HN').symm) (fun i hi => heq i (by have := unhide HN; omega))))
      clear heq
      go_wp2
      go_ret
      exact ⟨by rw [unhide E]; rfl, gw⟩

end Go.Proofs.Ytggjeamondampaa
