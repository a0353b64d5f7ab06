/- The reader: run, zeros, bytes. -/
import Derived.Test.YtggjeamondampaaFI
namespace Go.Proofs.Ytggjeamondampaa
open Go.RowKit
set_option linter.unusedVariables false
set_option maxRecDepth 100000
set_option maxHeartbeats 1000000

/-- The reader has given up, and says why. -/
def Gave (g : Nat) (b : Value) (why : Int) (w : World) (e : Ending) (w' : World) : Prop :=
  (∃ v : Int, e = .panicked [{ v := .iface 32 (.int .i64 v), recovered := false }]) ∧ (∃ at_ : Int, Blk w' g (rdr b at_ why) 105) ∧ w.grownBy w' (some g)

/-- What a reader reads: its block, and the bytes elsewhere. -/
structure Rdg (w : World) (g : Nat) (a : Option Addr) (l : List Int) (c : Nat) (k : Nat) (y : Int) : Prop where
  blk : Blk w g (rdr (.slice a l.length c) k y) 105
  rd : Rd w a l
  cap : l.length ≤ c
  max : c ≤ maxLen
  at_ : k ≤ l.length
  ne : ∀ x, a = some x → x.block ≠ g ∧ x.block < w.heap.size
  pl : ∀ x, a = some x → ∃ b o, x = ⟨b, o, none⟩

theorem Rd.far {w W : World} {g : Nat} {a : Option Addr} {l : List Int} (h : Rd w a l) (hg : w.grownBy W (some g)) (hn : ∀ x, a = some x → x.block ≠ g ∧ x.block < w.heap.size) : Rd W a l := by
  refine ⟨h.1, fun hne => ?_⟩
  obtain ⟨b, off, rfl, hc⟩ := h.2 hne
  refine ⟨b, off, rfl, fun i hi => ?_⟩
  obtain ⟨n1, n2⟩ := hn _ rfl
  have e := hg.block b n2 (by simp; exact n1)
  have := hc i hi
  simp only [World.cell?] at this ⊢
  rw [e]; exact this

/-- Behind a step of the reader. -/
theorem Rdg.go {w W : World} {g : Nat} {a : Option Addr} {l : List Int} {c k : Nat} {y : Int} (h : Rdg w g a l c k y) (k' : Nat) (hk : k' ≤ l.length) (hg : w.grownBy W (some g)) (hb : Blk W g (rdr (.slice a l.length c) k' y) 105) : Rdg W g a l c k' y :=
  ⟨hb, h.rd.far hg h.ne, h.cap, h.max, hk, fun x hx => ⟨(h.ne x hx).1, Nat.lt_of_lt_of_le (h.ne x hx).2 hg.size⟩, h.pl⟩

theorem Rdg.num {w : World} {g : Nat} {a : Option Addr} {l : List Int} {c k : Nat} {y : Int} (h : Rdg w g a l c k y) :
    Calls Try.prog 80 #[.pointer (some ⟨g, 0, none⟩)] w fun e w' => (∃ v l1, numF (l.drop k) = some (v, l1) ∧ e = .returned (.int .i64 v) ∧ 0 ≤ v ∧ v ≤ MAXN ∧ l1 = l.drop (l.length - l1.length) ∧ Rdg w' g a l c (l.length - l1.length) y ∧ w.grownBy w' (some g)) ∨ (numF (l.drop k) = none ∧ Gave g (.slice a l.length c) 40 w e w') := by
  cases hn : numF (l.drop k) with
  | none => exact (number_no g a l c k y w h.blk h.rd h.cap h.max h.at_ hn).mono fun e w' ⟨he, hb, hg⟩ => .inr ⟨rfl, he, ⟨_, hb⟩, hg⟩
  | some q =>
    obtain ⟨v, l1⟩ := q
    obtain ⟨n, e1, n1, n2, v0, v1, -, -⟩ := numF_some (fun x hx => h.rd.1 x (List.mem_of_mem_drop hx)) hn
    have e2 : l1 = l.drop (l.length - l1.length) := by
      rw [List.drop_drop] at e1
      rw [List.length_drop] at n2
      have e3 : l1.length = l.length - (k + n) := by rw [e1, List.length_drop]
      rw [e3, show l.length - (l.length - (k + n)) = k + n by omega]
      exact e1
    exact (number_ok g a l c k y w h.blk h.rd h.cap h.max h.at_ v l1 hn).mono fun e w' ⟨he, hb, hg⟩ => .inl ⟨v, l1, rfl, he, v0, v1, e2, h.go _ (by omega) hg hb, hg⟩

theorem Rdg.up {w : World} {g : Nat} {a : Option Addr} {l : List Int} {c k : Nat} {y : Int} (h : Rdg w g a l c k y) (why : Int) :
    Calls Try.prog 81 #[.pointer (some ⟨g, 0, none⟩), .int .i64 why] w (Gave g (.slice a l.length c) why w) :=
  (giveUp_any g _ k y why w h.blk).mono fun e w' ⟨he, hw⟩ => by
    subst hw
    exact ⟨he, ⟨_, h.blk.setC 2 _⟩, grown_at (World.grownBy.refl w _) 2 _⟩

theorem Blk.far {w W : World} {b g : Nat} {cs : Array Value} {t : TypeId} (h : Blk w b cs t) (hg : w.grownBy W (some g)) (hn : b ≠ g) : Blk W b cs t := (hg.block b h.lt (by simp; exact hn)).trans h
theorem grown_setS {w W : World} {r : Option Nat} (g : w.grownBy W r) (b j : Nat) (v : Value) (hb : w.heap.size ≤ b) : w.grownBy (W.setCell ⟨b, j, none⟩ v) r := by
  refine ⟨g.os, g.tape, g.output, ?_, ?_⟩
  · show w.heap.size ≤ (W.heap.modify b _).size
    rw [Array.size_modify]; exact g.size
  · intro i hi hn
    have e : (W.setCell ⟨b, j, none⟩ v).heap[i]? = W.heap[i]? := by
      simp only [World.setCell, Array.getElem?_modify]
      rw [if_neg (by omega)]
    rw [e]; exact g.block i hi hn
theorem Try.size57 : (Try.prog.info? 81).map (·.size) = some 2 := by kernel_rfl

/-- run. -/
theorem Rdg.run {w : World} {g : Nat} {a : Option Addr} {l : List Int} {c k : Nat} {y : Int} (h : Rdg w g a l c k y) (hi : Int) (hh : hi ≤ MAXN) :
    Calls Try.prog 98 #[.pointer (some ⟨g, 0, none⟩), .int .i64 hi] w fun e w' => (∃ lo l1, runF hi (l.drop k) = .inl ((lo, hi), l1) ∧ e = .returned (.agg #[.int .i64 lo, .int .i64 hi]) ∧ 0 ≤ lo ∧ lo ≤ hi ∧ l1 = l.drop (l.length - l1.length) ∧ Rdg w' g a l c (l.length - l1.length) y ∧ w.grownBy w' (some g)) ∨ (∃ e', runF hi (l.drop k) = .inr e' ∧ Gave g (.slice a l.length c) e' w e w') := by
  by_cases h0 : hi < 0
  · have hup := fun (o : Obj) => (Rdg.go h k h.at_ (World.grownBy_alloc w o (some g)) (h.blk.alloc o)).up 42
    have hr : runF hi (l.drop k) = .inr 42 := by unfold runF; rw [if_pos h0]
    have hd : decide (hi < 0) = true := decide_eq_true h0
    rw [hr]
    clear hr
    go_enter Try.func98, Try.ntmps98
    go_wp2_with (first | (go_at_call 81; refine (hup _).mono ?_; rintro e W2 ⟨⟨pv, rfl⟩, hb, hg⟩))
    exact ⟨rfl, .inr ⟨42, rfl, ⟨_, rfl⟩, hb, (World.grownBy_alloc w _ (some g)).trans hg⟩⟩
  · have hnu := fun (o : Obj) => (Rdg.go h k h.at_ (World.grownBy_alloc w o (some g)) (h.blk.alloc o)).num
    have hd : decide (hi < 0) = false := decide_eq_false h0
    have hr : ∀ v l1, numF (l.drop k) = some (v, l1) → runF hi (l.drop k) = if v > hi then .inr 42 else .inl ((hi - v, hi), l1) := fun v l1 e => by
      unfold runF; rw [if_neg h0, e]
    have hr0 : numF (l.drop k) = none → runF hi (l.drop k) = .inr 40 := fun e => by
      unfold runF; rw [if_neg h0, e]
    go_enter Try.func98, Try.ntmps98
    go_wp2_with fail
    refine (hnu _).mono ?_
    rintro e W1 (⟨v, l1, hn, rfl, v0, v1, hl1, R1, g1⟩ | ⟨hn, ⟨pv, rfl⟩, hb, hg⟩)
    · have hr' := hr v l1 hn
      clear hr hr0 hnu
      by_cases hv : v > hi
      · rw [if_pos hv] at hr'
        have hup := R1.up 42
        have hdv : decide (hi < v) = true := decide_eq_true hv
        have F := hide hr'
        clear hr'
        go_wp2_with fail
        refine hup.mono ?_
        rintro e W2 ⟨⟨pv, rfl⟩, hb, hg⟩
        go_wp2_with fail
        exact ⟨rfl, .inr ⟨42, unhide F, ⟨_, rfl⟩, hb, (World.grownBy_alloc w _ (some g)).trans (g1.trans hg)⟩⟩
      · rw [if_neg hv] at hr'
        have hdv : decide (hi < v) = false := decide_eq_false hv
        have hw : IntKind.i64.wrap (hi - v) = hi - v := by rw [IntKind.wrap_i64]; unfold MAXN at hh; omega
        have F := hide hr'
        have hgB : g ≠ w.heap.size := Nat.ne_of_lt h.blk.lt
        have bB := (Blk.new w #[.int .i64 0, .int .i64 0] 81).far g1 (Ne.symm hgB)
        have x0 := bB.cell 0 (.int .i64 0) rfl
        have x1 := bB.cell 1 (.int .i64 0) rfl
        have th := bB.thaws
        clear hr'
        have hlo := And.intro (show 0 ≤ hi - v by omega) (show hi - v ≤ hi by omega)
        have hgg := (World.grownBy_alloc w (.cells #[.int .i64 0, .int .i64 0] 81) (some g)).trans g1
        go_wp2_with fail
        refine bodyPost_ret (results_cell_row rfl _ _ w.heap.size 81 #[.int .i64 (hi - v), .int .i64 hi] (0, 0) _ rfl ((bB.setC 0 _).setC 1 _) Try.underlying81 rfl Try.size57) rfl ?_
        exact .inl ⟨hi - v, l1, unhide F, rfl, hlo.1, hlo.2, hl1, h.go _ R1.at_ (grown_setS (grown_setS hgg _ 0 _ (Nat.le_refl _)) _ 1 _ (Nat.le_refl _)) ((R1.blk.setO _ 0 _ (Ne.symm hgB)).setO _ 1 _ (Ne.symm hgB)), grown_setS (grown_setS hgg _ 0 _ (Nat.le_refl _)) _ 1 _ (Nat.le_refl _)⟩
    · go_wp2_with fail
      exact ⟨rfl, .inr ⟨40, hr0 hn, ⟨_, rfl⟩, hb, (World.grownBy_alloc w _ (some g)).trans hg⟩⟩

end Go.Proofs.Ytggjeamondampaa
