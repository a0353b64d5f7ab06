/- isLong, length, Overhead. -/
import Derived.Test.YtpcnpdippnljpaaKV
namespace Go.Proofs.Ytpcnpdippnljpaa
open Go.RowKit
set_option linter.unusedVariables false
set_option maxRecDepth 100000
set_option maxHeartbeats 1000000

def isLF (sp : Int) : Bool := decide (sp = 0 ∨ sp = 1)
theorem isLong_any (sp : Int) (w : World) : Calls Try.prog 36 #[.int .i64 sp] w fun e w' => e = .returned (.bool (isLF sp)) ∧ w' = w := by
  by_cases h0 : sp = 0
  · subst h0
    go_enter Try.func36, Try.ntmps36
    go_wp2
    go_ret
    exact ⟨rfl, rfl⟩
  · by_cases h1 : sp = 1
    · subst h1
      go_enter Try.func36, Try.ntmps36
      go_wp2
      go_ret
      exact ⟨rfl, rfl⟩
    · have e : isLF sp = false := decide_eq_false (by omega)
      have b0 : (sp == 0) = false := by simpa using h0
      have b1 : (sp == 1) = false := by simpa using h1
      have E := hide e
      clear e
      go_enter Try.func36, Try.ntmps36
      go_wp2
      go_ret
      exact ⟨ret_bool (unhide E).symm, rfl⟩

theorem length_any (p : Pk) (d s : Value) (a : Option Addr) (c : Nat) (w : World) (hw : 1 ≤ p.width ∧ p.width ≤ 4) (hy : p.payload.length ≤ 140737488355328) :
    Calls Try.prog 37 #[p.val d s (.slice a p.payload.length c)] w fun e w' => e = .returned (.int .i64 (p.width + p.payload.length)) ∧ w.grownBy w' none := by
  have hw1 : IntKind.i64.wrap (p.width + (p.payload.length : Int)) = p.width + (p.payload.length : Int) := by rw [IntKind.wrap_i64]; omega
  have hl : ¬ (9223372036854775807 : Int) < (p.payload.length : Int) := by omega
  have gr := fun o => World.grownBy_alloc w o none
  generalize p.payload.length = n at *
  clear hw
  go_enter Try.func37, Try.ntmps37
  go_wp2
  go_ret
  exact ⟨rfl, gr _⟩

/-- What Overhead tells. -/
def ovF (p : Pk) : Int × Int := if badK p then (0, 53) else if badF p then (0, 54) else (overP p, 0)

def ovG (sp : Int) (nd ns : Nat) (wd : Int) : Int × Int :=
  if ¬ (sp = 0 ∨ sp = 1 ∨ sp = 2) then (0, 53) else if 20 < nd ∨ 20 < ns ∨ (sp = 2 ∧ 0 < ns) ∨ wd < 1 ∨ 4 < wd then (0, 54) else (1 + nd + wd + (if sp = 2 then 0 else 8 + ns + (if sp = 0 then 1 else 0)), 0)
theorem ovF_G (p : Pk) : ovF p = ovG p.space p.dst.length p.src.length p.width := rfl

theorem ret_two {a b c d : Int} (h1 : a = c) (h2 : b = d) : Ending.returned (.tuple #[.int .i64 a, .int .i64 b]) = .returned (.tuple #[.int .i64 c, .int .i64 d]) := by rw [h1, h2]

theorem overhead_raw (sp num wd : Int) (nd ns : Nat) (a1 a2 : Option Addr) (c1 c2 : Nat) (y : Value) (w : World) (hd : nd ≤ 140737488355328) (hs : ns ≤ 140737488355328) (R : Int × Int) (hR : R = ovG sp nd ns wd) :
    Calls Try.prog 33 #[.agg (pcs sp (.slice a1 nd c1) (.slice a2 ns c2) num wd y)] w fun e w' => e = .returned (.tuple #[.int .i64 R.1, .int .i64 R.2]) ∧ w.grownBy w' none := by
  have gr := fun o => World.grownBy_alloc w o none
  by_cases hK : ¬ (sp = 0 ∨ sp = 1 ∨ sp = 2)
  · have e : R = (0, 53) := by rw [hR]; unfold ovG; rw [if_pos hK]
    subst e
    have il : isLF sp = false := decide_eq_false (by omega)
    have b2 : (sp != 2) = true := by simp; omega
    have b2' : (sp == 2) = false := by simp; omega
    clear hK hR
    go_enter Try.func33, Try.ntmps33
    go_wp2_with (first | (go_at_call 36; refine (isLong_any _ _).mono ?_; rintro e w' ⟨rfl, hw'⟩; subst hw'))
    go_ret2
    exact ⟨rfl, gr _⟩
  have hsp : sp = 0 ∨ sp = 1 ∨ sp = 2 := by omega
  have hG : R = if 20 < nd ∨ 20 < ns ∨ (sp = 2 ∧ 0 < ns) ∨ wd < 1 ∨ 4 < wd then (0, 54) else (1 + nd + wd + (if sp = 2 then 0 else 8 + ns + (if sp = 0 then 1 else 0)), 0) := by rw [hR]; unfold ovG; rw [if_neg hK]
  clear hK hR
  have i0 : isLF 0 = true := rfl
  have i1 : isLF 1 = true := rfl
  have i2 : isLF 2 = false := rfl
  by_cases f1 : 20 < nd
  · rw [if_pos (by omega)] at hG
    subst hG
    have f1' : (20 : Int) < (nd : Int) := by omega
    rcases hsp with rfl | rfl | rfl
    all_goals
      go_enter Try.func33, Try.ntmps33
      go_wp2_with (first | (go_at_call 36; refine (isLong_any _ _).mono ?_; rintro e w' ⟨rfl, hw'⟩; subst hw'))
      go_ret2
      exact ⟨rfl, gr _⟩
  have f1' : ¬ (20 : Int) < (nd : Int) := by omega
  by_cases f2 : 20 < ns
  · rw [if_pos (by omega)] at hG
    subst hG
    have f2' : (20 : Int) < (ns : Int) := by omega
    rcases hsp with rfl | rfl | rfl
    all_goals
      go_enter Try.func33, Try.ntmps33
      go_wp2_with (first | (go_at_call 36; refine (isLong_any _ _).mono ?_; rintro e w' ⟨rfl, hw'⟩; subst hw'))
      go_ret2
      exact ⟨rfl, gr _⟩
  have f2' : ¬ (20 : Int) < (ns : Int) := by omega
  by_cases f3 : sp = 2 ∧ 0 < ns
  · rw [if_pos (by omega)] at hG
    subst hG
    obtain ⟨rfl, f3⟩ := f3
    clear hsp
    have f3' : (0 : Int) < (ns : Int) := by omega
    go_enter Try.func33, Try.ntmps33
    go_wp2_with (first | (go_at_call 36; refine (isLong_any _ _).mono ?_; rintro e w' ⟨rfl, hw'⟩; subst hw'))
    go_ret2
    exact ⟨rfl, gr _⟩
  have f3' : sp = 2 → ns = 0 := by omega
  clear f3
  by_cases f4 : wd < 1
  · rw [if_pos (by omega)] at hG
    subst hG
    rcases hsp with rfl | rfl | rfl
    · go_enter Try.func33, Try.ntmps33
      go_wp2_with (first | (go_at_call 36; refine (isLong_any _ _).mono ?_; rintro e w' ⟨rfl, hw'⟩; subst hw'))
      go_ret2
      exact ⟨rfl, gr _⟩
    · go_enter Try.func33, Try.ntmps33
      go_wp2_with (first | (go_at_call 36; refine (isLong_any _ _).mono ?_; rintro e w' ⟨rfl, hw'⟩; subst hw'))
      go_ret2
      exact ⟨rfl, gr _⟩
    · obtain rfl := f3' rfl
      go_enter Try.func33, Try.ntmps33
      go_wp2_with (first | (go_at_call 36; refine (isLong_any _ _).mono ?_; rintro e w' ⟨rfl, hw'⟩; subst hw'))
      go_ret2
      exact ⟨rfl, gr _⟩
  by_cases f5 : 4 < wd
  · rw [if_pos (by omega)] at hG
    subst hG
    rcases hsp with rfl | rfl | rfl
    · go_enter Try.func33, Try.ntmps33
      go_wp2_with (first | (go_at_call 36; refine (isLong_any _ _).mono ?_; rintro e w' ⟨rfl, hw'⟩; subst hw'))
      go_ret2
      exact ⟨rfl, gr _⟩
    · go_enter Try.func33, Try.ntmps33
      go_wp2_with (first | (go_at_call 36; refine (isLong_any _ _).mono ?_; rintro e w' ⟨rfl, hw'⟩; subst hw'))
      go_ret2
      exact ⟨rfl, gr _⟩
    · obtain rfl := f3' rfl
      go_enter Try.func33, Try.ntmps33
      go_wp2_with (first | (go_at_call 36; refine (isLong_any _ _).mono ?_; rintro e w' ⟨rfl, hw'⟩; subst hw'))
      go_ret2
      exact ⟨rfl, gr _⟩
  have hsm : ¬ (20 < nd ∨ 20 < ns ∨ (sp = 2 ∧ 0 < ns) ∨ wd < 1 ∨ 4 < wd) := by omega
  rw [if_neg hsm] at hG
  clear hsm
  rcases hsp with rfl | rfl | rfl
  · have E := hide hG
    have w1 : IntKind.i64.wrap (1 + (nd : Int)) = 1 + (nd : Int) := by rw [IntKind.wrap_i64]; omega
    have w2 : IntKind.i64.wrap (1 + (nd : Int) + wd) = 1 + (nd : Int) + wd := by rw [IntKind.wrap_i64]; omega
    have w3 : IntKind.i64.wrap (6 + (ns : Int)) = 6 + (ns : Int) := by rw [IntKind.wrap_i64]; omega
    have w4 : IntKind.i64.wrap (6 + (ns : Int) + 2) = 6 + (ns : Int) + 2 := by rw [IntKind.wrap_i64]; omega
    have w5 : IntKind.i64.wrap (1 + (nd : Int) + wd + (6 + (ns : Int) + 2)) = 1 + (nd : Int) + wd + (6 + (ns : Int) + 2) := by rw [IntKind.wrap_i64]; omega
    have w6 : IntKind.i64.wrap (1 + (nd : Int) + wd + (6 + (ns : Int) + 2) + 1) = 1 + (nd : Int) + wd + (6 + (ns : Int) + 2) + 1 := by rw [IntKind.wrap_i64]; omega
    clear hG f3'
    go_enter Try.func33, Try.ntmps33
    go_wp2_with (first | (go_at_call 36; refine (isLong_any _ _).mono ?_; rintro e w' ⟨rfl, hw'⟩; subst hw'))
    go_ret2
    exact ⟨ret_two (by rw [unhide E]; simp; omega) (by rw [unhide E]), gr _⟩
  · have E := hide hG
    have w1 : IntKind.i64.wrap (1 + (nd : Int)) = 1 + (nd : Int) := by rw [IntKind.wrap_i64]; omega
    have w2 : IntKind.i64.wrap (1 + (nd : Int) + wd) = 1 + (nd : Int) + wd := by rw [IntKind.wrap_i64]; omega
    have w3 : IntKind.i64.wrap (6 + (ns : Int)) = 6 + (ns : Int) := by rw [IntKind.wrap_i64]; omega
    have w4 : IntKind.i64.wrap (6 + (ns : Int) + 2) = 6 + (ns : Int) + 2 := by rw [IntKind.wrap_i64]; omega
    have w5 : IntKind.i64.wrap (1 + (nd : Int) + wd + (6 + (ns : Int) + 2)) = 1 + (nd : Int) + wd + (6 + (ns : Int) + 2) := by rw [IntKind.wrap_i64]; omega
    clear hG f3'
    go_enter Try.func33, Try.ntmps33
    go_wp2_with (first | (go_at_call 36; refine (isLong_any _ _).mono ?_; rintro e w' ⟨rfl, hw'⟩; subst hw'))
    go_ret2
    exact ⟨ret_two (by rw [unhide E]; simp; omega) (by rw [unhide E]), gr _⟩
  · obtain rfl := f3' rfl
    have E := hide hG
    have w1 : IntKind.i64.wrap (1 + (nd : Int)) = 1 + (nd : Int) := by rw [IntKind.wrap_i64]; omega
    have w2 : IntKind.i64.wrap (1 + (nd : Int) + wd) = 1 + (nd : Int) + wd := by rw [IntKind.wrap_i64]; omega
    clear hG f3'
    go_enter Try.func33, Try.ntmps33
    go_wp2_with (first | (go_at_call 36; refine (isLong_any _ _).mono ?_; rintro e w' ⟨rfl, hw'⟩; subst hw'))
    go_ret2
    exact ⟨ret_two (by rw [unhide E]; simp) (by rw [unhide E]), gr _⟩

theorem overhead_any (p : Pk) (a1 a2 : Option Addr) (c1 c2 : Nat) (y : Value) (w : World) (hd : p.dst.length ≤ 140737488355328) (hs : p.src.length ≤ 140737488355328) :
    Calls Try.prog 33 #[p.val (.slice a1 p.dst.length c1) (.slice a2 p.src.length c2) y] w fun e w' => e = .returned (.tuple #[.int .i64 (ovF p).1, .int .i64 (ovF p).2]) ∧ w.grownBy w' none :=
  overhead_raw p.space p.number p.width p.dst.length p.src.length a1 a2 c1 c2 y w hd hs _ (ovF_G p)

end Go.Proofs.Ytpcnpdippnljpaa
