/- The reader of packets: plain, sized, pass. -/
import Derived.Test.YtpcnpdippnljpaaKR
namespace Go.Proofs.Ytpcnpdippnljpaa
open Go.RowKit
set_option linter.unusedVariables false
set_option maxRecDepth 100000
set_option maxHeartbeats 1000000

theorem readF_place (l : List Int) (i n : Int) : 0 ≤ (readF l i n).2.1 ∧ (readF l i n).2.1 ≤ l.length := by
  unfold readF
  split
  · exact ⟨Int.le_refl _, Int.natCast_nonneg _⟩
  · split
    · exact ⟨Int.le_refl _, Int.natCast_nonneg _⟩
    · simp only; omega
theorem getF_place (l : List Int) (i : Int) : 0 ≤ (getF l i).2.1 ∧ (getF l i).2.1 ≤ l.length := by
  unfold getF
  split
  · exact ⟨Int.le_refl _, Int.natCast_nonneg _⟩
  · split
    · exact ⟨Int.le_refl _, Int.natCast_nonneg _⟩
    · split
      · exact ⟨Int.le_refl _, Int.natCast_nonneg _⟩
      · simp only; omega

theorem Rdk.plain {w : World} {g : Nat} {a : Option Addr} {l : List Int} {c : Nat} {G : Lg} {s : St} (h : Rdk w g a l c G s) (n : Int) :
    Calls Try.prog 54 #[.pointer (some ⟨g, 0, none⟩), .int .i64 n] w (Went g a l c G w (rPlain l s n).2 (.int .u64 (rPlain l s n).1)) := by
  have hgt := fun q => read_any a l c s.1 n (w.drewN q) (Rd.drew h.rd q) h.cap h.max
  have hrd := fun q => (h.drewN q).read (readF l s.1 n) (readF_place l s.1 n)
  have c0 := h.blk.cell 0 (.slice a l.length c) rfl
  have c1 := h.blk.cell 1 (.int .i64 s.1) rfl
  unfold rPlain
  unfold tup3 at hgt
  generalize readF l s.1 n = t at *
  clear h
  have HR : Hid (∀ q, Calls Try.prog 73 #[.pointer (some ⟨g, 0, none⟩), .int .u64 t.1, .int .i64 t.2.1, .int .i64 t.2.2] (w.drewN q) (Went g a l c G (w.drewN q) (rRead s t).2 (.int .u64 (rRead s t).1))) := hrd
  clear hrd
  generalize l.length = n at *
  go_enter Try.func54, Try.ntmps54
  go_wp2_with fail
  go_region_held3 (fun W => W.cell? ⟨g, 0, none⟩ = some (.slice a n c) ∧ W.cell? ⟨g, 1, none⟩ = some (.int .i64 s.1)) (go_keep) (first | (go_at_call 72; refine (hgt 1).mono ?_; rintro e W1 ⟨rfl, q, hq⟩; subst hq))
  go_wp2_with fail
  refine (unhide HR _).mono ?_
  rintro e W ⟨rfl, R, gr⟩
  go_wp2
  go_ret
  exact ⟨rfl, R, (grown_drewS (World.grownBy.refl w (some g)) _).trans gr⟩

theorem Rdk.sized {w : World} {g : Nat} {a : Option Addr} {l : List Int} {c : Nat} {G : Lg} {s : St} (h : Rdk w g a l c G s) :
    Calls Try.prog 79 #[.pointer (some ⟨g, 0, none⟩)] w (Went g a l c G w (rSized l s).2 (.int .u64 (rSized l s).1)) := by
  have hgt := fun q => get_any a l c s.1 (w.drewN q) (Rd.drew h.rd q) h.cap h.max
  have hrd := fun q => (h.drewN q).read (getF l s.1) (getF_place l s.1)
  have c0 := h.blk.cell 0 (.slice a l.length c) rfl
  have c1 := h.blk.cell 1 (.int .i64 s.1) rfl
  unfold rSized
  unfold tup3 at hgt
  generalize getF l s.1 = t at *
  clear h
  have HR : Hid (∀ q, Calls Try.prog 73 #[.pointer (some ⟨g, 0, none⟩), .int .u64 t.1, .int .i64 t.2.1, .int .i64 t.2.2] (w.drewN q) (Went g a l c G (w.drewN q) (rRead s t).2 (.int .u64 (rRead s t).1))) := hrd
  clear hrd
  generalize l.length = n at *
  go_enter Try.func79, Try.ntmps79
  go_wp2_with fail
  go_region_held3 (fun W => W.cell? ⟨g, 0, none⟩ = some (.slice a n c) ∧ W.cell? ⟨g, 1, none⟩ = some (.int .i64 s.1)) (go_keep) (first | (go_at_call 89; refine (hgt 1).mono ?_; rintro e W1 ⟨rfl, q, hq⟩; subst hq))
  go_wp2_with fail
  refine (unhide HR _).mono ?_
  rintro e W ⟨rfl, R, gr⟩
  go_wp2
  go_ret
  exact ⟨rfl, R, (grown_drewS (World.grownBy.refl w (some g)) _).trans gr⟩

theorem Rdk.pass {w : World} {g : Nat} {a : Option Addr} {l : List Int} {c : Nat} {G : Lg} {s : St} (h : Rdk w g a l c G s) (n : Int) (hn : 0 ≤ n ∧ n < 18446744073709551616) :
    Calls Try.prog 78 #[.pointer (some ⟨g, 0, none⟩), .int .u64 n] w (Went g a l c G w (rPass l s n) (.tuple #[])) := by
  have hl := h.left
  have hm := fun q => (h.drewN q).must (decide (n ≤ (l.length : Int) - s.1)) 50
  have hk := h.at_
  have hmax := h.max
  have hcap := h.cap
  unfold maxLen at hmax
  obtain ⟨k, y⟩ := s
  simp only at hl hm hk
  by_cases hy : y = 0
  · subst hy
    by_cases hle : n ≤ (l.length : Int) - k
    · have E : rPass l (k, 0) n = (k + n.toNat, 0) := by unfold rPass; simp [hle]
      have hd : decide (n ≤ (l.length : Int) - k) = true := decide_eq_true hle
      have hw1 : IntKind.i64.wrap n = n := by rw [IntKind.wrap_i64]; omega
      have hw2 : IntKind.i64.wrap ((k : Int) + n) = (k : Int) + n := by rw [IntKind.wrap_i64]; omega
      rw [E]
      rw [hd, rMust_yes] at hm
      go_enter Try.func78, Try.ntmps78
      go_wp2_with fail
      refine hl.mono ?_
      rintro e1 W1 ⟨rfl, q, rfl⟩
      go_wp2_with fail
      refine (hm q).mono ?_
      rintro e1 W ⟨rfl, R, gr⟩
      have c5 := R.blk.cell 5 (.int .i64 0) rfl
      have c1 := R.blk.cell 1 (.int .i64 k) rfl
      have th := R.blk.thaws
      have F : Hid (Went g a l c G w (k + n.toNat, 0) (.tuple #[]) (.returned (.tuple #[])) (W.setCell ⟨g, 1, none⟩ (.int .i64 ((k : Int) + n)))) := by
        refine ⟨rfl, ?_, grown_at ((grown_drewS (World.grownBy.refl w (some g)) q).trans gr) 1 _⟩
        have := R.put 0 (k + n.toNat) (by omega)
        rw [show ((k + n.toNat : Nat) : Int) = (k : Int) + n by omega] at this
        exact this
      clear R gr h hm E hl hk hcap hmax hn
      go_wp2
      go_end0
      exact unhide F
    · have E : rPass l (k, 0) n = (k, 50) := by unfold rPass; simp [hle]
      have hd : decide (n ≤ (l.length : Int) - k) = false := decide_eq_false hle
      rw [E]
      rw [hd, rMust, if_pos ⟨rfl, rfl⟩] at hm
      go_enter Try.func78, Try.ntmps78
      go_wp2_with fail
      refine hl.mono ?_
      rintro e1 W1 ⟨rfl, q, rfl⟩
      go_wp2_with fail
      refine (hm q).mono ?_
      rintro e1 W ⟨rfl, R, gr⟩
      have c5 := R.blk.cell 5 (.int .i64 50) rfl
      have F : Hid (Went g a l c G w (k, 50) (.tuple #[]) (.returned (.tuple #[])) W) := ⟨rfl, R, (grown_drewS (World.grownBy.refl w (some g)) q).trans gr⟩
      clear R gr h hm E hl hk hcap hmax hn
      go_wp2
      go_end0
      exact unhide F
  · have E : rPass l (k, y) n = (k, y) := rPass_no hy
    have hyb : (y == 0) = false := by simpa using hy
    rw [E]
    have hm' : ∀ q b, Calls Try.prog 74 #[.pointer (some ⟨g, 0, none⟩), .bool b, .int .i64 50] (w.drewN q) (Went g a l c G (w.drewN q) (k, y) (.tuple #[])) := fun q b => by
      have := (h.drewN q).must b 50
      rw [rMust_no hy] at this
      exact this
    go_enter Try.func78, Try.ntmps78
    go_wp2_with fail
    refine hl.mono ?_
    rintro e1 W1 ⟨rfl, q, rfl⟩
    go_wp2_with fail
    refine (hm' q _).mono ?_
    rintro e1 W ⟨rfl, R, gr⟩
    have c5 := R.blk.cell 5 (.int .i64 y) rfl
    have F : Hid (Went g a l c G w (k, y) (.tuple #[]) (.returned (.tuple #[])) W) := ⟨rfl, R, (grown_drewS (World.grownBy.refl w (some g)) q).trans gr⟩
    clear R gr h hm hm' E hl hk hcap hmax hn
    go_wp2
    go_end0
    exact unhide F

end Go.Proofs.Ytpcnpdippnljpaa
