/- length. -/
import Derived.Test.YtggjeamondampaaFE
import Derived.Test.YtggjeamondampaaFB
namespace Go.Proofs.Ytggjeamondampaa
open Go.RowKit
set_option linter.unusedVariables false
set_option maxRecDepth 100000
set_option maxHeartbeats 2000000

/-- Numbers in memory, read. -/
def RdI (w : World) (a : Option Addr) (L : List Int) : Prop := L ≠ [] → ∃ b off, a = some ⟨b, off, none⟩ ∧ ∀ i, i < L.length → w.cell? ⟨b, off + i, none⟩ = some (.int .i64 (L.getD i 0))

theorem encL_length_take (L : List Int) (k : Nat) (h : k < L.length) : (encL (L.take (k + 1))).length = (encL (L.take k)).length + sizeF (L.getD k 0) := by
  rw [take_snoc L k h]
  simp [encL, encN_length]

theorem encL_le (L : List Int) : (encL L).length ≤ 8 * L.length := by
  induction L with
  | nil => simp [encL]
  | cons x L ih =>
    have e : (encL (x :: L)).length = (encN x).length + (encL L).length := by simp [encL]
    have h8 : (encN x).length ≤ 8 := by rw [encN_length]; unfold sizeF; (repeat' split) <;> omega
    rw [e, List.length_cons]
    omega

theorem length_any (a a' : Option Addr) (L : List Int) (n c m c' : Nat) (w : World) (hn : L.length = n) (hr : RdI w a L) (hL : ∀ v ∈ L, 0 ≤ v ∧ v ≤ MAXN) (hc : n ≤ c ∧ c ≤ 9223372036854775807) (hs : n ≤ 100000000000000000) (hm : m ≤ 4611686018427387904) :
    Calls Try.prog 51 #[.slice a n c, .slice a' m c'] w fun e w' => e = .returned (.int .i64 (((encL L).length + m : Nat) : Int)) ∧ w' = w := by
  have HR := hide hr; have HL := hide hL
  clear hr hL
  go_enter Try.func51, Try.ntmps51
  go_wp2
  go_loopw [5, 12] (fun s i wr => ∃ k q : Nat, k ≤ n ∧ i = .int .i64 k ∧ q = (encL (L.take k)).length + m ∧ s = .int .i64 q ∧ wr = w) (fun _ i _ => n - (intOf i).toNat)
  case atStart => exact ⟨0, m, Nat.zero_le _, rfl, by simp [encL], rfl, rfl⟩
  case round =>
    obtain ⟨k, q, hk, rfl, hq, rfl, hw⟩ := hrel
    symm at hw
    subst hw
    by_cases hlt : k < n
    · have hkL : k < L.length := by rw [hn]; exact hlt
      obtain ⟨b, off, rfl, hcs⟩ := unhide HR (fun e => by rw [e] at hkL; simp at hkL)
      have c0 := hcs k hkL
      have hv := unhide HL (L.getD k 0) (by simp [List.getD, hkL])
      have hst := encL_length_take L k hkL
      have hle := encL_le (L.take k)
      rw [List.length_take] at hle
      generalize L.getD k 0 = v at *
      have hkn : (k : Int) < (n : Int) := by omega
      have hwv : IntKind.u64.wrap v = v := by rw [IntKind.wrap_u64]; unfold MAXN at hv; omega
      have hsz := size_any v w hv.1 (by unfold MAXN at hv; omega)
      have h8 : sizeF v ≤ 8 := by unfold sizeF; (repeat' split) <;> omega
      have hws : IntKind.i64.wrap ((q : Int) + (sizeF v : Int)) = (q : Int) + (sizeF v : Int) := by rw [IntKind.wrap_i64]; omega
      have F := hide (And.intro hlt (show q + sizeF v = (encL (L.take (k + 1))).length + m by omega))
      clear hcs hv hst hle hq h8 hlt hk hkL
      generalize sizeF v = z at *
      go_wp2_with (first | (go_at_call 71; refine hsz.mono ?_; rintro e W1 ⟨rfl, hw1⟩; subst hw1))
      exact ⟨⟨k + 1, q + z, (unhide F).1, by go_num, (unhide F).2, by go_num, trivial⟩, by simp [intOf]; have := (unhide F).1; omega⟩
    · obtain rfl : k = n := by omega
      have hno : ¬ (k : Int) < (k : Int) := by omega
      have e : q = (encL L).length + m := by rw [hq, List.take_of_length_le (by omega)]
      have E := hide e
      clear e hq
      go_wp2
      go_ret
      exact ⟨by have h9 := unhide E; show Ending.returned (.int .i64 (q : Int)) = _; congr 2; omega, rfl⟩

end Go.Proofs.Ytggjeamondampaa
