/- The reader of packets: must, left, read, plain, sized. -/
import Derived.Test.YtpcnpdippnljpaaKH
import Derived.Test.YtpcnpdippnljpaaKM
import Derived.Deep.RegionHeld3
import Derived.BigQuiet
import Derived.Deep.QuietTactic
namespace Go.Proofs.Ytpcnpdippnljpaa
open Go.RowKit
set_option linter.unusedVariables false
set_option maxRecDepth 100000
set_option maxHeartbeats 1000000

/-- A reader's cells. -/
abbrev rdp (b : Value) (k y : Int) (G : Lg) : Array Value := #[b, .int .i64 k, .int .i64 G.1, .int .i64 G.2.1, .int .i64 G.2.2, .int .i64 y]

theorem Rd.farC {w W : World} {g : Nat} {a : Option Addr} {l : List Int} {c : Nat} (h : Rd w a l) (hl : l.length ≤ c) (hg : w.grownBy W (some g)) (hn : ∀ x, a = some x → 0 < c → x.block ≠ g ∧ x.block < w.heap.size) : Rd W a l := by
  by_cases e : l = []
  · subst e; exact ⟨by simp, by simp⟩
  · have : 0 < l.length := List.length_pos_iff.2 e
    exact h.far hg (fun x ex => hn x ex (by omega))

/-- What a reader reads: its block, and the bytes elsewhere. -/
structure Rdk (w : World) (g : Nat) (a : Option Addr) (l : List Int) (c : Nat) (G : Lg) (s : St) : Prop where
  blk : Blk w g (rdp (.slice a l.length c) s.1 s.2 G) 85
  rd : Rd w a l
  cap : l.length ≤ c
  max : c ≤ maxLen
  at_ : s.1 ≤ l.length
  ne : ∀ x, a = some x → 0 < c → x.block ≠ g ∧ x.block < w.heap.size
  pl : ∀ x, a = some x → 0 < c → ∃ b o, x = ⟨b, o, none⟩

/-- Behind a step of the reader. -/
theorem Rdk.go {w W : World} {g : Nat} {a : Option Addr} {l : List Int} {c : Nat} {G : Lg} {s : St} (h : Rdk w g a l c G s) (s' : St) (hk : s'.1 ≤ l.length) (hg : w.grownBy W (some g)) (hb : Blk W g (rdp (.slice a l.length c) s'.1 s'.2 G) 85) : Rdk W g a l c G s' :=
  ⟨hb, h.rd.farC h.cap hg h.ne, h.cap, h.max, hk, fun x hx hc => ⟨(h.ne x hx hc).1, Nat.lt_of_lt_of_le (h.ne x hx hc).2 hg.size⟩, h.pl⟩
theorem Rdk.drewN {w : World} {g : Nat} {a : Option Addr} {l : List Int} {c : Nat} {G : Lg} {s : St} (h : Rdk w g a l c G s) (q : Nat) : Rdk (w.drewN q) g a l c G s :=
  h.go s h.at_ (grown_any (grown_drewN (World.grownBy.refl w none)) g) (h.blk.drewN q)
theorem Rdk.put {w : World} {g : Nat} {a : Option Addr} {l : List Int} {c : Nat} {G : Lg} {s : St} (h : Rdk w g a l c G s) (q k' : Nat) (hk : k' ≤ l.length) : Rdk ((w.drewN q).setCell ⟨g, 1, none⟩ (.int .i64 k')) g a l c G (k', s.2) :=
  h.go (k', s.2) hk (grown_at (grown_any (grown_drewN (World.grownBy.refl w none)) g) 1 _) ((h.blk.drewN q).setC 1 _)
theorem Rdk.why {w : World} {g : Nat} {a : Option Addr} {l : List Int} {c : Nat} {G : Lg} {s : St} (h : Rdk w g a l c G s) (q : Nat) (y : Int) : Rdk ((w.drewN q).setCell ⟨g, 5, none⟩ (.int .i64 y)) g a l c G (s.1, y) :=
  h.go (s.1, y) h.at_ (grown_at (grown_any (grown_drewN (World.grownBy.refl w none)) g) 5 _) ((h.blk.drewN q).setC 5 _)
/-- Blocks made elsewhere. -/
theorem Rdk.grown {w W : World} {g : Nat} {a : Option Addr} {l : List Int} {c : Nat} {G : Lg} {s : St} (h : Rdk w g a l c G s) (hg : w.grownBy W none) : Rdk W g a l c G s :=
  h.go s h.at_ (grown_any hg g) (h.blk.grown hg)

/-- What a step of the reader leaves. -/
def Went (g : Nat) (a : Option Addr) (l : List Int) (c : Nat) (G : Lg) (w : World) (s : St) (v : Value) (e : Ending) (w' : World) : Prop :=
  e = .returned v ∧ Rdk w' g a l c G s ∧ w.grownBy w' (some g)

theorem Rdk.must {w : World} {g : Nat} {a : Option Addr} {l : List Int} {c : Nat} {G : Lg} {s : St} (h : Rdk w g a l c G s) (b : Bool) (y : Int) :
    Calls Try.prog 74 #[.pointer (some ⟨g, 0, none⟩), .bool b, .int .i64 y] w (Went g a l c G w (rMust s b y) (.tuple #[])) := by
  have c5 := h.blk.cell 5 (.int .i64 s.2) rfl
  have th := h.blk.thaws
  have gr := World.grownBy.refl w (some g)
  cases b with
  | true =>
    have F : Hid (∀ q, Went g a l c G w (rMust s true y) (.tuple #[]) (.returned (.tuple #[])) (w.drewN q)) := fun q => ⟨rfl, by rw [rMust_yes]; exact h.drewN q, grown_drewS gr q⟩
    clear h gr
    go_enter Try.func74, Try.ntmps74
    go_wp2
    go_end0
    exact unhide F 0
  | false =>
    by_cases hs : s.2 = 0
    · have F : Hid (∀ q, Went g a l c G w (rMust s false y) (.tuple #[]) (.returned (.tuple #[])) ((w.drewN q).setCell ⟨g, 5, none⟩ (.int .i64 y))) := fun q => ⟨rfl, by unfold rMust; rw [if_pos ⟨rfl, hs⟩]; exact h.why q y, grown_at (grown_drewS gr q) 5 _⟩
      have hd : (s.2 == 0) = true := by simpa using hs
      clear h gr
      go_enter Try.func74, Try.ntmps74
      go_wp2
      go_end0
      exact unhide F 0
    · have F : Hid (∀ q, Went g a l c G w (rMust s false y) (.tuple #[]) (.returned (.tuple #[])) (w.drewN q)) := fun q => ⟨rfl, by rw [rMust_no hs]; exact h.drewN q, grown_drewS gr q⟩
      have hd : (s.2 == 0) = false := by simpa using hs
      clear h gr
      go_enter Try.func74, Try.ntmps74
      go_wp2
      go_end0
      exact unhide F 0

theorem Rdk.left {w : World} {g : Nat} {a : Option Addr} {l : List Int} {c : Nat} {G : Lg} {s : St} (h : Rdk w g a l c G s) :
    Calls Try.prog 82 #[.pointer (some ⟨g, 0, none⟩)] w fun e w' => e = .returned (.int .u64 ((l.length : Int) - s.1)) ∧ ∃ q, w' = w.drewN q := by
  have c0 := h.blk.cell 0 (.slice a l.length c) rfl
  have c1 := h.blk.cell 1 (.int .i64 s.1) rfl
  have hk := h.at_
  have hmax := h.max
  have hcap := h.cap
  unfold maxLen at hmax
  have hw1 : IntKind.i64.wrap ((l.length : Int) - (s.1 : Int)) = (l.length : Int) - (s.1 : Int) := by rw [IntKind.wrap_i64]; omega
  have hw2 : IntKind.u64.wrap ((l.length : Int) - (s.1 : Int)) = (l.length : Int) - (s.1 : Int) := by rw [IntKind.wrap_u64]; omega
  clear h hk hmax hcap
  generalize l.length = n at *
  generalize s.1 = k at *
  go_enter Try.func82, Try.ntmps82
  go_wp2_with fail
  go_quiet (fail)
  go_wp2
  go_ret
  exact ⟨rfl, _, rfl⟩

theorem rRead_at {l : List Int} {s : St} {t : Int × Int × Int} (h : s.1 ≤ l.length) (ht : t.2.1 ≤ l.length) : (rRead s t).2.1 ≤ l.length := by
  unfold rRead; split
  · split
    · show t.2.1.toNat ≤ _; omega
    · exact h
  · exact h

theorem Rdk.read {w : World} {g : Nat} {a : Option Addr} {l : List Int} {c : Nat} {G : Lg} {s : St} (h : Rdk w g a l c G s) (t : Int × Int × Int) (ht : 0 ≤ t.2.1 ∧ t.2.1 ≤ l.length) :
    Calls Try.prog 73 #[.pointer (some ⟨g, 0, none⟩), .int .u64 t.1, .int .i64 t.2.1, .int .i64 t.2.2] w (Went g a l c G w (rRead s t).2 (.int .u64 (rRead s t).1)) := by
  have hm := h.must (decide (t.2.2 = 0)) 50
  obtain ⟨v, e, x⟩ := t
  obtain ⟨k, y⟩ := s
  simp only at ht hm
  by_cases hx : x = 0
  · subst hx
    rw [rMust] at hm
    simp only [decide_true, Bool.true_eq_false, false_and, if_false] at hm
    by_cases hy : y = 0
    · subst hy
      have E : rRead (k, 0) (v, e, 0) = (v, (e.toNat, 0)) := by unfold rRead; simp
      rw [E]
      go_enter Try.func73, Try.ntmps73
      go_wp2_with fail
      refine hm.mono ?_
      rintro e1 W ⟨rfl, R, gr⟩
      have c5 := R.blk.cell 5 (.int .i64 0) rfl
      have c1 := R.blk.cell 1 (.int .i64 k) rfl
      have th := R.blk.thaws
      have F : Hid (Went g a l c G w (e.toNat, 0) (.int .u64 v) (.returned (.int .u64 v)) (W.setCell ⟨g, 1, none⟩ (.int .i64 e))) := by
        refine ⟨rfl, ?_, grown_at gr 1 _⟩
        have := R.put 0 e.toNat (by omega)
        rw [Int.toNat_of_nonneg ht.1] at this
        exact this
      clear R gr h hm E
      go_wp2
      go_ret
      exact unhide F
    · have E : rRead (k, y) (v, e, 0) = (0, (k, y)) := by unfold rRead; simp [hy]
      rw [E]
      have hd : (y == 0) = false := by simpa using hy
      have hd2 : (y != 0) = true := by simpa using hy
      go_enter Try.func73, Try.ntmps73
      go_wp2_with fail
      refine hm.mono ?_
      rintro e1 W ⟨rfl, R, gr⟩
      have c5 := R.blk.cell 5 (.int .i64 y) rfl
      have F : Hid (Went g a l c G w (k, y) (.int .u64 0) (.returned (.int .u64 0)) W) := ⟨rfl, R, gr⟩
      clear R gr h hm E
      go_wp2
      go_ret
      exact unhide F
  · have hxd : decide (x = 0) = false := decide_eq_false hx
    have hxb : (x == 0) = false := by simpa using hx
    rw [hxd] at hm
    by_cases hy : y = 0
    · subst hy
      have E : rRead (k, 0) (v, e, x) = (0, (k, 50)) := by unfold rRead; simp [hx]
      rw [E]
      rw [rMust, if_pos ⟨rfl, rfl⟩] at hm
      go_enter Try.func73, Try.ntmps73
      go_wp2_with fail
      refine hm.mono ?_
      rintro e1 W ⟨rfl, R, gr⟩
      have c5 := R.blk.cell 5 (.int .i64 50) rfl
      have F : Hid (Went g a l c G w (k, 50) (.int .u64 0) (.returned (.int .u64 0)) W) := ⟨rfl, R, gr⟩
      clear R gr h hm E
      go_wp2
      go_ret
      exact unhide F
    · have E : rRead (k, y) (v, e, x) = (0, (k, y)) := by unfold rRead; simp [hy]
      rw [E]
      rw [rMust_no hy] at hm
      have hd : (y == 0) = false := by simpa using hy
      have hd2 : (y != 0) = true := by simpa using hy
      go_enter Try.func73, Try.ntmps73
      go_wp2_with fail
      refine hm.mono ?_
      rintro e1 W ⟨rfl, R, gr⟩
      have c5 := R.blk.cell 5 (.int .i64 y) rfl
      have F : Hid (Went g a l c G w (k, y) (.int .u64 0) (.returned (.int .u64 0)) W) := ⟨rfl, R, gr⟩
      clear R gr h hm E
      go_wp2
      go_ret
      exact unhide F

end Go.Proofs.Ytpcnpdippnljpaa
