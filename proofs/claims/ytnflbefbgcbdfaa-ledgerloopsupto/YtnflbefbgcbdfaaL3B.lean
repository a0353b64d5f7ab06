/- Ledger: list, at frames, bytes, runs. -/
import Derived.Test.YtnflbefbgcbdfaaL3A
import Derived.Deep.DeepCutAuto
namespace Go.Proofs.Ytnflbefbgcbdfaa
open Go.RowKit
set_option linter.unusedVariables false
set_option maxRecDepth 100000
set_option maxHeartbeats 1000000

theorem info_ok {T : TypeId} {sz : Nat} (h : (Try.prog.info? T).any (fun i => i.zero.isSome && i.size == sz && decide (i.bytes ≤ 1000)) = true) : ∃ i z, Try.prog.info? T = some i ∧ i.zero = some z ∧ i.size = sz ∧ i.bytes ≤ 1000 := by
  cases hq : Try.prog.info? T with
  | none => rw [hq] at h; cases h
  | some i =>
    rw [hq] at h
    simp only [Option.any_some, Bool.and_eq_true, beq_iff_eq, decide_eq_true_eq] at h
    obtain ⟨⟨h1, h2⟩, h3⟩ := h
    obtain ⟨z, hz⟩ := Option.isSome_iff_exists.1 h1
    exact ⟨i, z, rfl, hz, h2, h3⟩
theorem listF_any (X : World) (a : Option Addr) (n c : Nat) (xs : List Value) (hx : xs.length = n * 17) (rd : RdV X a xs) (h1 : ∀ v ∈ xs, v.oneCell' = true) (hnn : n ≤ 100000000) :
    Calls Try.prog 51 #[.slice a n c] X fun e Y => ∃ v, e = .returned v ∧ NewL X 83 n xs v Y := by
  by_cases h0 : n = 0
  · subst h0
    go_enter Try.func51, Try.ntmps51
    go_wp2
    go_ret
    exact ⟨_, rfl, .inl ⟨rfl, rfl⟩, World.grownBy.refl _ _⟩
  · obtain ⟨i, z, i1, i2, i3, i4⟩ := info_ok (T := 83) (sz := 17) (by kernel_rfl)
    obtain ⟨W0, W1, mk, cp, b1, g1⟩ := make_copy 17 34 83 i z Try.underlying34 i1 i2 i3 i4 X a n c xs hx (by decide) rd h1 (by omega) hnn
    have hz : ((n : Int) == 0) = false := by rw [beq_eq_false_iff_ne]; omega
    have lenI : ¬ (9223372036854775807 : Int) < (n : Int) := by omega
    have MK := hide mk
    have CP := hide cp
    have B := hide (And.intro b1 g1)
    obtain ⟨g, hg⟩ : ∃ g, g = X.heap.size := ⟨_, rfl⟩
    rw [← hg] at MK CP B
    have H0 : Hid (0 < n) := by show 0 < n; omega
    have HG : Hid (X.heap.size ≤ g) := by show X.heap.size ≤ g; omega
    clear mk cp b1 g1 rd h1 hx h0 hg
    go_enter Try.func51, Try.ntmps51
    go_upto_region 4 with (at_make; refine wpList_make_run _ rfl 34 _ _ rfl _ _ rfl rfl (unhide MK) ?_)
    clear MK
    have hr := unhide CP 3
    unfold goInt at hr
    clear CP
    go_wp2
    clear hr
    go_ret
    exact ⟨_, rfl, .inr ⟨unhide H0, g, rfl, unhide HG, (unhide B).1⟩, (unhide B).2⟩
theorem listB_any (X : World) (a : Option Addr) (n c : Nat) (xs : List Value) (hx : xs.length = n * 1) (rd : RdV X a xs) (h1 : ∀ v ∈ xs, v.oneCell' = true) (hnn : n ≤ 100000000) :
    Calls Try.prog 52 #[.slice a n c] X fun e Y => ∃ v, e = .returned v ∧ NewL X 5 n xs v Y := by
  by_cases h0 : n = 0
  · subst h0
    go_enter Try.func52, Try.ntmps52
    go_wp2
    go_ret
    exact ⟨_, rfl, .inl ⟨rfl, rfl⟩, World.grownBy.refl _ _⟩
  · obtain ⟨i, z, i1, i2, i3, i4⟩ := info_ok (T := 5) (sz := 1) (by kernel_rfl)
    obtain ⟨W0, W1, mk, cp, b1, g1⟩ := make_copy 1 80 5 i z Try.underlying80 i1 i2 i3 i4 X a n c xs hx (by decide) rd h1 (by omega) hnn
    have hz : ((n : Int) == 0) = false := by rw [beq_eq_false_iff_ne]; omega
    have lenI : ¬ (9223372036854775807 : Int) < (n : Int) := by omega
    have MK := hide mk
    have CP := hide cp
    have B := hide (And.intro b1 g1)
    obtain ⟨g, hg⟩ : ∃ g, g = X.heap.size := ⟨_, rfl⟩
    rw [← hg] at MK CP B
    have H0 : Hid (0 < n) := by show 0 < n; omega
    have HG : Hid (X.heap.size ≤ g) := by show X.heap.size ≤ g; omega
    clear mk cp b1 g1 rd h1 hx h0 hg
    go_enter Try.func52, Try.ntmps52
    go_upto_region 4 with (at_make; refine wpList_make_run _ rfl 80 _ _ rfl _ _ rfl rfl (unhide MK) ?_)
    clear MK
    have hr := unhide CP 3
    unfold goInt at hr
    clear CP
    go_wp2
    clear hr
    go_ret
    exact ⟨_, rfl, .inr ⟨unhide H0, g, rfl, unhide HG, (unhide B).1⟩, (unhide B).2⟩
theorem listR_any (X : World) (a : Option Addr) (n c : Nat) (xs : List Value) (hx : xs.length = n * 2) (rd : RdV X a xs) (h1 : ∀ v ∈ xs, v.oneCell' = true) (hnn : n ≤ 100000000) :
    Calls Try.prog 53 #[.slice a n c] X fun e Y => ∃ v, e = .returned v ∧ NewL X 48 n xs v Y := by
  by_cases h0 : n = 0
  · subst h0
    go_enter Try.func53, Try.ntmps53
    go_wp2
    go_ret
    exact ⟨_, rfl, .inl ⟨rfl, rfl⟩, World.grownBy.refl _ _⟩
  · obtain ⟨i, z, i1, i2, i3, i4⟩ := info_ok (T := 48) (sz := 2) (by kernel_rfl)
    obtain ⟨W0, W1, mk, cp, b1, g1⟩ := make_copy 2 37 48 i z Try.underlying37 i1 i2 i3 i4 X a n c xs hx (by decide) rd h1 (by omega) hnn
    have hz : ((n : Int) == 0) = false := by rw [beq_eq_false_iff_ne]; omega
    have lenI : ¬ (9223372036854775807 : Int) < (n : Int) := by omega
    have MK := hide mk
    have CP := hide cp
    have B := hide (And.intro b1 g1)
    obtain ⟨g, hg⟩ : ∃ g, g = X.heap.size := ⟨_, rfl⟩
    rw [← hg] at MK CP B
    have H0 : Hid (0 < n) := by show 0 < n; omega
    have HG : Hid (X.heap.size ≤ g) := by show X.heap.size ≤ g; omega
    clear mk cp b1 g1 rd h1 hx h0 hg
    go_enter Try.func53, Try.ntmps53
    go_upto_region 4 with (at_make; refine wpList_make_run _ rfl 37 _ _ rfl _ _ rfl rfl (unhide MK) ?_)
    clear MK
    have hr := unhide CP 3
    unfold goInt at hr
    clear CP
    go_wp2
    clear hr
    go_ret
    exact ⟨_, rfl, .inr ⟨unhide H0, g, rfl, unhide HG, (unhide B).1⟩, (unhide B).2⟩
end Go.Proofs.Ytnflbefbgcbdfaa
