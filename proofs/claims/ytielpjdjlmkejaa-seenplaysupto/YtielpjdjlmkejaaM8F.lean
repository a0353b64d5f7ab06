/- E8J, E8M, E8N, E8Q, E8R, E8S, E8T, E8U, E8V, E8W, E8X, E8Y0, one text. -/
import Derived.Test.YtielpjdjlmkejaaM8C
import Derived.Test.YtielpjdjlmkejaaM8D
import Derived.Test.YtielpjdjlmkejaaM8E
import Derived.Test.YtielpjdjlmkejaaM8L
import Derived.Test.YtielpjdjlmkejaaM8A
import Derived.Laws.OwnMore
import Derived.BigQuiet
import Derived.LoopIn
import Derived.Deep.RegionHeld3
namespace Go.Proofs.Ytielpjdjlmkejaa
open Go.RowKit
set_option linter.unusedVariables false
set_option maxRecDepth 100000
set_option maxHeartbeats 4000000

def rtakeF (x : Int) (el : Bool) (mark : Int) (r : Rn) : Rn := if el then rwaitF x mark r else rnotF x mark r

theorem rtake_any (b n c : Nat) (a : Option Addr) (r : Rn) (now x mark : Int) (el : Bool) (w : World) (h : RN w b a n c r) (hc : r.clock ≤ 1125899906842624) (r1 : Rn) (hr1 : r1 = rgoF now r) (hfr : rfreshF r1 x = true) (hn : n + 1 ≤ 1000000000000) (hp1 : (putF x r1.l).Pairwise (· < ·)) (hb1 : ∀ y ∈ putF x r1.l, 0 ≤ y ∧ y ≤ 4611686018427387903) (hwt : 0 ≤ r1.waits ∧ r1.waits < 9223372036854775806) (hck : 0 ≤ r1.clock ∧ r1.clock ≤ 1125899906842624) (hdl : 0 ≤ r1.delay ∧ r1.delay ≤ 68719476736) (hlg : -1 ≤ r1.largest ∧ r1.largest ≤ 4611686018427387903) (hc0 : 0 ≤ r1.c0 ∧ r1.c0 < 9223372036854775807) (hc2 : 0 ≤ r1.c2 ∧ r1.c2 < 9223372036854775807) :
    Calls Try.prog 22 #[ptr b, .int .i64 now, .int .i64 x, .bool el, .int .i64 mark] w fun e w' => e = .returned (.bool true) ∧ (∃ a' n' c', RN w' b a' n' c' (rtakeF x el mark r1)) ∧ Kp (fun g => g = b) w w' := by
  have hm : mark = 1 ∨ mark = 2 ∨ (mark ≠ 1 ∧ mark ≠ 2) := by omega
  cases el with
  | false =>
    by_cases hgt : r1.largest < x
    · rcases hm with hm | hm | hm
      · exact rtake_ng1 b n c a r now x mark w h hc r1 hr1 hfr hn hp1 hb1 hc0 hc2 hgt hm
      · exact rtake_ng2 b n c a r now x mark w h hc r1 hr1 hfr hn hp1 hb1 hc0 hc2 hgt hm
      · exact rtake_ng0 b n c a r now x mark w h hc r1 hr1 hfr hn hp1 hb1 hc0 hc2 hgt hm
    · rcases hm with hm | hm | hm
      · exact rtake_nl1 b n c a r now x mark w h hc r1 hr1 hfr hn hp1 hb1 hc0 hc2 hgt hm
      · exact rtake_nl2 b n c a r now x mark w h hc r1 hr1 hfr hn hp1 hb1 hc0 hc2 hgt hm
      · exact rtake_nl0 b n c a r now x mark w h hc r1 hr1 hfr hn hp1 hb1 hc0 hc2 hgt hm
  | true =>
    by_cases hgt : r1.largest < x
    · rcases hm with hm | hm | hm
      · exact rtake_wg1 b n c a r now x mark w h hc r1 hr1 hfr hn hp1 hb1 hwt hck hdl hlg hc0 hc2 hgt hm
      · exact rtake_wg2 b n c a r now x mark w h hc r1 hr1 hfr hn hp1 hb1 hwt hck hdl hlg hc0 hc2 hgt hm
      · exact rtake_wg0 b n c a r now x mark w h hc r1 hr1 hfr hn hp1 hb1 hwt hck hdl hlg hc0 hc2 hgt hm
    · rcases hm with hm | hm | hm
      · exact rtake_wl1 b n c a r now x mark w h hc r1 hr1 hfr hn hp1 hb1 hwt hck hdl hlg hc0 hc2 hgt hm
      · exact rtake_wl2 b n c a r now x mark w h hc r1 hr1 hfr hn hp1 hb1 hwt hck hdl hlg hc0 hc2 hgt hm
      · exact rtake_wl0 b n c a r now x mark w h hc r1 hr1 hfr hn hp1 hb1 hwt hck hdl hlg hc0 hc2 hgt hm
end Go.Proofs.Ytielpjdjlmkejaa

namespace Go.Proofs.Ytielpjdjlmkejaa
open Go.RowKit
set_option linter.unusedVariables false
set_option maxRecDepth 100000
set_option maxHeartbeats 1000000

/-- What links the program's Seen and the document's, behind k steps at most. -/
structure LkS (k : Nat) (s : Sn) (r : Rn) : Prop where
  ok : SOk s
  space : r.space = s.space
  delay : r.delay = s.delay
  clock : r.clock = s.clock
  floor : r.floor = s.floor
  largest : r.largest = s.largest
  came : r.came = s.came
  c0 : r.c0 = s.c0
  c2 : r.c2 = s.c2
  due : r.due = s.due
  any : r.any = s.any
  mem : ∀ x, memB x s.L = true ↔ x ∈ r.l
  pw : r.l.Pairwise (· < ·)
  waits : 0 ≤ r.waits ∧ r.waits ≤ k
  zero : r.waits = 0 ↔ s.due = never
  cb : Cb k s

theorem LkS.bounds {k : Nat} {s : Sn} {r : Rn} (h : LkS k s r) : ∀ y ∈ r.l, s.floor + 1 ≤ y ∧ y ≤ s.largest := by
  intro y hy
  have hm := (h.mem y).2 hy
  obtain ⟨p, hp, h1, h2⟩ := memB_iff.1 hm
  have := h.ok.good.mem hp
  omega
theorem LkS.runs {k : Nat} {s : Sn} {r : Rn} (h : LkS k s r) : runsF r.l = s.L := runs_eq h.ok.good h.pw h.bounds h.mem
theorem LkS.nil {k : Nat} {s : Sn} {r : Rn} (h : LkS k s r) : r.l = [] ↔ s.L = [] := by
  constructor
  · intro e
    rw [← h.runs, e]; rfl
  · intro e
    cases hl : r.l with
    | nil => rfl
    | cons x t =>
      have := (h.mem x).2 (by rw [hl]; simp)
      rw [e] at this
      simp [memB] at this
theorem LkS.fresh {k : Nat} {s : Sn} {r : Rn} (h : LkS k s r) (x : Int) : rfreshF r x = freshF s x := by
  have hf := h.ok.floor
  have hm := h.mem x
  unfold rfreshF freshF
  rw [h.floor]
  have e : r.l.contains x = memB x s.L := by
    cases hh : memB x s.L with
    | true => rw [hh] at hm; exact List.contains_iff_mem.2 (hm.1 rfl)
    | false =>
      cases hc : r.l.contains x with
      | true => exact absurd (hm.2 (List.contains_iff_mem.1 hc)) (by rw [hh]; simp)
      | false => rfl
  rw [e]
  by_cases c : s.floor < x
  · have c0 : 0 ≤ x := by omega
    simp [c, c0]
  · simp [c]
theorem lk_go {k : Nat} {s : Sn} {r : Rn} (h : LkS k s r) (now : Int) : LkS k (goF now s) (rgoF now r) :=
  ⟨sok_go h.ok now, h.space, h.delay, by show lat r.clock now = min (max now s.clock) 1125899906842624; rw [h.clock]; rfl, h.floor, h.largest, h.came, h.c0, h.c2, h.due, h.any, h.mem, h.pw, h.waits, h.zero, h.cb⟩
theorem lk_rest {k : Nat} {s : Sn} {r : Rn} (h : LkS k s r) : LkS k (restF0 s) (rrestF r) :=
  ⟨sok_rest h.ok, h.space, h.delay, h.clock, h.floor, h.largest, h.came, h.c0, h.c2, rfl, rfl, h.mem, h.pw, ⟨Int.le_refl _, by show (0 : Int) ≤ k; omega⟩, ⟨fun _ => rfl, fun _ => rfl⟩, h.cb⟩
theorem LkS.up {k k' : Nat} {s : Sn} {r : Rn} (h : LkS k s r) (hk : k ≤ k') : LkS k' s r :=
  { h with waits := ⟨h.waits.1, by have := h.waits.2; omega⟩, cb := ⟨by have := h.cb.1; omega, by have := h.cb.2; omega⟩ }

theorem drop_mem {f : Int} : ∀ {l : List Int}, l.Pairwise (· < ·) → ∀ x, x ∈ l.dropWhile (fun y => decide (y ≤ f)) ↔ x ∈ l ∧ f < x
  | [], _, x => by simp
  | y :: t, hp, x => by
    have ht := List.pairwise_cons.1 hp
    by_cases c : y ≤ f
    · rw [List.dropWhile_cons_of_pos (by simpa using c), drop_mem ht.2 x]
      constructor
      · rintro ⟨h1, h2⟩; exact ⟨List.mem_cons_of_mem _ h1, h2⟩
      · rintro ⟨h1, h2⟩
        rcases List.mem_cons.1 h1 with e | e
        · omega
        · exact ⟨e, h2⟩
    · rw [List.dropWhile_cons_of_neg (by simpa using c)]
      constructor
      · intro h1
        refine ⟨h1, ?_⟩
        rcases List.mem_cons.1 h1 with e | e
        · omega
        · have := ht.1 x e; omega
      · exact fun h1 => h1.1
theorem drop_pw {f : Int} {l : List Int} (hp : l.Pairwise (· < ·)) : (l.dropWhile (fun y => decide (y ≤ f))).Pairwise (· < ·) := hp.sublist (List.dropWhile_sublist _)

theorem lk_raise {k : Nat} {s : Sn} {r : Rn} (h : LkS k s r) {f : Int} (hf : f ≤ s.largest) : LkS k (raiseF f s) (rdropF f r) := by
  refine ⟨sok_raise h.ok hf, h.space, h.delay, h.clock, by show max r.floor f = max s.floor f; rw [h.floor], h.largest, h.came, h.c0, h.c2, h.due, h.any, fun x => ?_, drop_pw h.pw, h.waits, h.zero, h.cb⟩
  have hfl := h.ok.floor
  show memB x (cutS 0 0 f s.L) = true ↔ x ∈ r.l.dropWhile (fun y => decide (y ≤ f))
  rw [memB_cut h.ok.good (by omega), drop_mem h.pw, h.mem]
theorem lk_forget {k : Nat} {s : Sn} {r : Rn} (h : LkS k s r) (n : Int) : LkS k (forgetF n s) (rforgetF n r) := by
  have hr := lk_raise h (f := min n s.largest) (by omega)
  unfold forgetF rforgetF
  rw [h.largest]
  by_cases c : (raiseF (min n s.largest) s).L = []
  · rw [if_pos c, if_pos (hr.nil.2 c)]
    exact lk_rest hr
  · rw [if_neg c, if_neg (fun e => c (hr.nil.1 e))]
    exact hr

theorem put_mem (x : Int) (l : List Int) (y : Int) : y ∈ putF x l ↔ y = x ∨ y ∈ l := by
  unfold putF
  have e : l.takeWhile (fun y => decide (y < x)) ++ l.dropWhile (fun y => decide (y < x)) = l := List.takeWhile_append_dropWhile
  have : y ∈ l ↔ y ∈ l.takeWhile (fun y => decide (y < x)) ∨ y ∈ l.dropWhile (fun y => decide (y < x)) := by
    rw [← List.mem_append, e]
  rw [this]
  simp only [List.mem_append, List.mem_singleton]
  constructor
  · rintro (h | h | h)
    · exact .inr (.inl h)
    · exact .inl h
    · exact .inr (.inr h)
  · rintro (h | h | h)
    · exact .inr (.inl h)
    · exact .inl h
    · exact .inr (.inr h)
theorem take_lt (x : Int) : ∀ (l : List Int) (y : Int), y ∈ l.takeWhile (fun y => decide (y < x)) → y < x
  | [], y, h => by simp at h
  | z :: t, y, h => by
    by_cases c : z < x
    · rw [List.takeWhile_cons_of_pos (by simpa using c)] at h
      rcases List.mem_cons.1 h with e | e
      · omega
      · exact take_lt x t y e
    · rw [List.takeWhile_cons_of_neg (by simpa using c)] at h
      simp at h
theorem drop_ge (x : Int) : ∀ (l : List Int), l.Pairwise (· < ·) → ∀ y, y ∈ l.dropWhile (fun y => decide (y < x)) → x ≤ y
  | [], _, y, h => by simp at h
  | z :: t, hp, y, h => by
    have ht := List.pairwise_cons.1 hp
    by_cases c : z < x
    · rw [List.dropWhile_cons_of_pos (by simpa using c)] at h
      exact drop_ge x t ht.2 y h
    · rw [List.dropWhile_cons_of_neg (by simpa using c)] at h
      rcases List.mem_cons.1 h with e | e
      · omega
      · have := ht.1 y e; omega
theorem put_pw {x : Int} {l : List Int} (hp : l.Pairwise (· < ·)) (hx : x ∉ l) : (putF x l).Pairwise (· < ·) := by
  unfold putF
  refine List.pairwise_append.2 ⟨hp.sublist (List.takeWhile_sublist _), ?_, ?_⟩
  · refine List.pairwise_append.2 ⟨by simp, hp.sublist (List.dropWhile_sublist _), ?_⟩
    intro a ha c hc
    rw [List.mem_singleton] at ha
    subst ha
    have h1 := drop_ge a l hp c hc
    have h2 : c ≠ a := fun e => hx (e ▸ (List.dropWhile_sublist _).subset hc)
    omega
  · intro a ha c hc
    have h1 := take_lt x l a ha
    rcases List.mem_append.1 hc with hc | hc
    · rw [List.mem_singleton] at hc
      omega
    · have := drop_ge x l hp c hc
      omega

theorem lk_add {k : Nat} {s : Sn} {r : Rn} (h : LkS k s r) {n : Int} (h1 : s.floor < n) (h2 : n ≤ s.largest) (hx : memB n s.L = false) :
    (∀ x, memB x (addS 0 n n s.L) = true ↔ x ∈ putF n r.l) ∧ (putF n r.l).Pairwise (· < ·) ∧ runsF (putF n r.l) = addS 0 n n s.L ∧ ∀ y ∈ putF n r.l, s.floor + 1 ≤ y ∧ y ≤ s.largest := by
  have hfl := h.ok.floor
  have hlg := h.ok.large
  have g0 : Good (-9223372036854775808) 9223372036854775807 s.L := (h.ok.good.mono (by omega)).top (by omega)
  have hm : ∀ x, memB x (addS 0 n n s.L) = true ↔ x ∈ putF n r.l := by
    intro x
    rw [memB_addS g0, put_mem, ← h.mem]
    constructor
    · rintro (a | ⟨a, b⟩)
      · exact .inr a
      · exact .inl (by omega)
    · rintro (a | a)
      · exact .inr ⟨by omega, by omega⟩
      · exact .inl a
  have hn : n ∉ r.l := fun e => by have := (h.mem n).2 e; rw [hx] at this; cases this
  have hp := put_pw h.pw hn
  have hb : ∀ y ∈ putF n r.l, s.floor + 1 ≤ y ∧ y ≤ s.largest := by
    intro y hy
    rcases (put_mem n r.l y).1 hy with e | e
    · omega
    · exact h.bounds y e
  exact ⟨hm, hp, runs_eq (addS_g h.ok.good (n := n) (by omega) h2).1 hp hb hm, hb⟩
theorem lk_keep {k : Nat} {s : Sn} {r : Rn} (h : LkS k s r) {n : Int} (h1 : s.floor < n) (h2 : n ≤ s.largest) (hx : memB n s.L = false) : LkS k (keepF n s) (rkeepF n r) := by
  obtain ⟨hm, hp, hr, hb⟩ := lk_add h h1 h2 hx
  have ok := sok_keep h.ok h1 h2
  have hfl := h.ok.floor
  have ha := addS_g h.ok.good (n := n) (by omega) h2
  unfold rkeepF
  rw [hr]
  unfold keepF at *
  by_cases c : 32 < (addS 0 n n s.L).length
  · rw [if_pos c] at ok ⊢
    rw [if_pos c]
    refine ⟨ok, h.space, h.delay, h.clock, by show max r.floor _ = max s.floor _; rw [h.floor], h.largest, h.came, h.c0, h.c2, h.due, h.any, fun x => ?_, drop_pw hp, h.waits, h.zero, h.cb⟩
    show memB x (cutS 0 0 ((addS 0 n n s.L).headD (0, 0)).2 (addS 0 n n s.L)) = true ↔ x ∈ (putF n r.l).dropWhile (fun y => decide (y ≤ ((addS 0 n n s.L).headD (0, 0)).2))
    rw [memB_cut ha.1 (by omega), drop_mem hp, hm]
  · rw [if_neg c] at ok ⊢
    rw [if_neg c]
    exact ⟨ok, h.space, h.delay, h.clock, h.floor, h.largest, h.came, h.c0, h.c2, h.due, h.any, hm, hp, h.waits, h.zero, h.cb⟩
end Go.Proofs.Ytielpjdjlmkejaa

namespace Go.Proofs.Ytielpjdjlmkejaa
open Go.RowKit
set_option linter.unusedVariables false
set_option maxRecDepth 100000
set_option maxHeartbeats 1000000

theorem hur_iff {k : Nat} {s : Sn} {r : Rn} (h : LkS k s r) (n mark : Int) : (arrF n mark s).hurries = true ↔ RHur n mark r := by
  have hf := h.ok.floor
  have hw := h.waits
  have hz := h.zero
  have hl := h.largest
  have e1 : (decide (s.due ≠ never) = true) ↔ 1 < r.waits + 1 := by
    rw [decide_eq_true_eq]
    constructor
    · intro c
      have : r.waits ≠ 0 := fun e => c (hz.1 e)
      omega
    · intro c e
      have := hz.2 e
      omega
  have w0 : (arrF n mark s).why 0 = true ↔ s.space ≠ 2 := by show decide (s.space ≠ 2) = true ↔ _; exact decide_eq_true_iff
  have w2 : (arrF n mark s).why 2 = true ↔ (n < s.largest ∨ (s.largest + 1 < n ∧ s.largest ≠ -1)) := by
    show (decide (n < s.largest) || (decide (s.largest + 1 < n) && decide (s.largest ≠ -1))) = true ↔ _
    rw [Bool.or_eq_true, Bool.and_eq_true, decide_eq_true_iff, decide_eq_true_iff, decide_eq_true_iff]
  have w3 : (arrF n mark s).why 3 = true ↔ mark = 2 := by show decide (mark = 2) = true ↔ _; exact decide_eq_true_iff
  unfold Arr.hurries RHur
  rw [Bool.or_eq_true, Bool.or_eq_true, Bool.or_eq_true, w0, w2, w3, show (arrF n mark s).why 1 = true ↔ 1 < r.waits + 1 from e1, h.space, hl]
  constructor
  · rintro (((a | a) | (a | ⟨a, b⟩)) | a)
    · exact .inl a
    · exact .inr (.inl a)
    · exact .inr (.inr (.inl a))
    · exact .inr (.inr (.inr (.inl ⟨by omega, a⟩)))
    · exact .inr (.inr (.inr (.inr a)))
  · rintro (a | a | a | ⟨a, b⟩ | a)
    · exact .inl (.inl (.inl a))
    · exact .inl (.inl (.inr a))
    · exact .inl (.inr (.inl a))
    · exact .inl (.inr (.inr ⟨b, by omega⟩))
    · exact .inr a

/-- What waits, of the document's. -/
def rw1F (n : Int) (el : Bool) (mark : Int) (r : Rn) : Rn := if el then { r with waits := r.waits + 1, due := min r.due (if RHur n mark r then r.clock else r.clock + r.delay) } else r
theorem lk_w1 {k : Nat} {s : Sn} {r : Rn} (h : LkS k s r) (n : Int) (el : Bool) (mark : Int) : LkS (k + 1) (w1F n el mark s) (rw1F n el mark r) := by
  have ok := sok_w1 h.ok n el mark
  have h' := h.up (Nat.le_succ k)
  have hc := h.ok.clock
  have hd := h.ok.delay
  have hw := h.waits
  unfold w1F rw1F at *
  cases el with
  | false => exact h'
  | true =>
    have ed : (if RHur n mark r then r.clock else r.clock + r.delay) = (if (arrF n mark s).hurries then s.clock else s.clock + s.delay) := by
      rw [h.clock, h.delay]
      by_cases c : RHur n mark r
      · rw [if_pos c, if_pos ((hur_iff h n mark).2 c)]
      · rw [if_neg c, if_neg (fun e => c ((hur_iff h n mark).1 e))]
    refine ⟨ok, h.space, h.delay, h.clock, h.floor, h.largest, h.came, h.c0, h.c2, ?_, h.any, h.mem, h.pw, ?_, ?_, h'.cb⟩
    · show min r.due (if RHur n mark r then r.clock else r.clock + r.delay) = min s.due (if (arrF n mark s).hurries then s.clock else s.clock + s.delay)
      rw [ed, h.due]
    · show 0 ≤ r.waits + 1 ∧ r.waits + 1 ≤ ((k + 1 : Nat) : Int)
      omega
    · show r.waits + 1 = 0 ↔ min s.due (if (arrF n mark s).hurries then s.clock else s.clock + s.delay) = never
      constructor
      · intro e; omega
      · intro e
        exfalso
        simp only [never] at e
        split at e <;> omega
theorem lk_top {k : Nat} {s : Sn} {r : Rn} (h : LkS k s r) {n : Int} (h1 : s.floor < n) (h2 : n ≤ 4611686018427387903) : LkS k (topF n s) (rtopF n r) := by
  have ok := (sok_top h.ok h1 h2).1
  unfold topF rtopF at *
  rw [h.largest]
  by_cases c : s.largest < n
  · rw [if_pos c] at ok ⊢
    rw [if_pos c]
    exact ⟨ok, h.space, h.delay, h.clock, h.floor, rfl, h.clock, h.c0, h.c2, h.due, h.any, h.mem, h.pw, h.waits, h.zero, h.cb⟩
  · rw [if_neg c] at ok ⊢
    rw [if_neg c]
    exact h
theorem lk_count {k : Nat} {s : Sn} {r : Rn} (h : LkS k s r) (mark : Int) (hc : s.c0 + 1 ≤ (k + 1 : Nat) ∧ s.c2 + 1 ≤ (k + 1 : Nat)) : LkS (k + 1) (countF mark s) (rcountF mark r) := by
  have h' := h.up (Nat.le_succ k)
  refine ⟨sok_count h.ok mark, h.space, h.delay, h.clock, h.floor, h.largest, h.came, ?_, ?_, h.due, h.any, h.mem, h.pw, h'.waits, h.zero, ?_⟩
  · show (if mark = 1 then r.c0 + 1 else r.c0) = if mark = 1 then s.c0 + 1 else s.c0
    rw [h.c0]
  · show (if mark = 2 then r.c2 + 1 else r.c2) = if mark = 2 then s.c2 + 1 else s.c2
    rw [h.c2]
  · refine ⟨?_, ?_⟩
    · show (if mark = 1 then s.c0 + 1 else s.c0) ≤ ((k + 1 : Nat) : Int)
      split <;> omega
    · show (if mark = 2 then s.c2 + 1 else s.c2) ≤ ((k + 1 : Nat) : Int)
      split <;> omega
theorem lk_any {k : Nat} {s : Sn} {r : Rn} (h : LkS k s r) (x : Bool) : LkS k { s with any := x } { r with any := x } :=
  ⟨sok_any h.ok x, h.space, h.delay, h.clock, h.floor, h.largest, h.came, h.c0, h.c2, h.due, rfl, h.mem, h.pw, h.waits, h.zero, h.cb⟩
theorem rtake_eq (n : Int) (el : Bool) (mark : Int) (r : Rn) : rtakeF n el mark r = { rkeepF n (rcountF mark (rtopF n (rw1F n el mark r))) with any := true } := by
  unfold rtakeF rw1F
  cases el with
  | false => rfl
  | true =>
    show rwaitF n mark r = _
    unfold rwaitF rpreF rkeepF rtopF rcountF rput rdropF
    simp only [if_true]
    by_cases c : r.largest < n
    · simp only [c, if_true]
      split <;> rfl
    · simp only [c, if_false]
      split <;> rfl
theorem lk_took {k : Nat} {s : Sn} {r : Rn} (h : LkS k s r) {n : Int} (hf : freshF s n = true) (el : Bool) (mark : Int) : LkS (k + 2) (tookF n el mark s) (rtakeF n el mark r) := by
  obtain ⟨f1, f2, f3⟩ := fresh_iff.1 hf
  have a := lk_w1 h n el mark
  have ef : (w1F n el mark s).floor = s.floor := by unfold w1F; split <;> rfl
  have eL := w1F_L n el mark s
  have b := lk_top a (n := n) (by omega) f2
  obtain ⟨t1, t2, t3⟩ := sok_top a.ok (n := n) (by omega) f2
  have tL := topF_L n (w1F n el mark s)
  have hcb := h.cb
  have c := lk_count b mark (by
    have := hcb.1; have := hcb.2
    rw [tL.2.1, tL.2.2, eL.2.1, eL.2.2.1]
    omega)
  rw [rtake_eq]
  refine lk_any (lk_keep c (n := n) ?_ ?_ ?_) true
  · show (topF n (w1F n el mark s)).floor < n
    omega
  · exact t2
  · show memB n (topF n (w1F n el mark s)).L = false
    rw [tL.1, eL.1]
    exact f3
theorem lk_take {k : Nat} {s : Sn} {r : Rn} (h : LkS k s r) (now n : Int) (el : Bool) (mark : Int) :
    (freshF (goF now s) n = false ∧ rfreshF (rgoF now r) n = false ∧ LkS (k + 2) (takeF now n el mark s) (rgoF now r)) ∨
    (freshF (goF now s) n = true ∧ rfreshF (rgoF now r) n = true ∧ LkS (k + 2) (takeF now n el mark s) (rtakeF n el mark (rgoF now r)) ∧ (putF n (rgoF now r).l).Pairwise (· < ·) ∧ (∀ y ∈ putF n (rgoF now r).l, 0 ≤ y ∧ y ≤ 4611686018427387903)) := by
  have g := lk_go h now
  have hfe := g.fresh n
  unfold takeF
  cases hf : freshF (goF now s) n with
  | false =>
    left
    rw [hf] at hfe
    exact ⟨rfl, hfe, (by simpa using g.up (show k ≤ k + 2 by omega))⟩
  | true =>
    right
    rw [hf] at hfe
    obtain ⟨f1, f2, f3⟩ := fresh_iff.1 hf
    have hfl := g.ok.floor
    have hlg := g.ok.large
    have hn : n ∉ (rgoF now r).l := fun e => by have := (g.mem n).2 e; rw [f3] at this; cases this
    refine ⟨rfl, hfe, by simpa using lk_took g hf el mark, put_pw g.pw hn, fun y hy => ?_⟩
    rcases (put_mem n _ y).1 hy with e | e
    · omega
    · have := g.bounds y e
      omega
end Go.Proofs.Ytielpjdjlmkejaa

namespace Go.Proofs.Ytielpjdjlmkejaa
open Go.RowKit Go.Shelf Go.Maps
set_option linter.unusedVariables false
set_option maxRecDepth 100000
set_option maxHeartbeats 1000000

theorem trow_kept {base n : Nat} {e : TypeId} {sz : Nat} {w w' : World} {v : Value} {xs : List Value} (h : w.ownsRow base e sz v n xs) (g : w.grownBy w' none) : w'.ownsRow base e sz v n xs := by
  have hl := h.lt
  refine ⟨h.1, ?_⟩
  rcases h.2 with h2 | ⟨g', cap, cur, rfl, q1, q2, q3⟩
  · exact .inl h2
  · exact .inr ⟨g', cap, cur, rfl, q1, by rw [g.block g' (hl g' rfl).2 (by simp)]; exact q2, q3⟩
theorem app_keepS {P : Program} (w : World) (base : Nat) (t ty e : TypeId) (i : TypeInfo) (z : Value) (size bytes : Nat) (ht : P.underlying t = some (.slice e)) (hi : P.info? e = some i) (hz : i.zero = some z)
    (hsize : i.size = size) (hby : i.bytes = bytes) (hzs : z.cells.size = size) (hs0 : 0 < size)
    (v : Value) (n : Nat) (xs : List Value) (hown : w.ownsRow base e size v n xs)
    (a : Addr) (m c : Nat) (news : List Value) (hl : news.length = m * size) (hnews : ∀ j u, news[j]? = some u → w.cell? (a.add j) = some u) (h1 : ∀ u ∈ news, u.oneCell' = true)
    (hm : 0 < m) (h63 : n + m ≤ maxLen) (hbytes : (n + m) * bytes ≤ 140737488355328) (hbase : base ≤ w.heap.size) :
    ∃ v' w', (Builtin.append_ #[t, t] ty #[v, .slice (some a) m c]).run P w = .ok v' w' ∧ w'.ownsRow base e size v' (n + m) (xs ++ news) ∧ Moved w w' v v' ∧ v' ≠ .slice none 0 0 := by
  obtain ⟨v', w', hr, ho, hg, hnil⟩ := run_append_own (P := P) w base t ty e i z size bytes ht hi hz hsize hby hzs hs0 v n xs hown a m c news hl hnews h1 h63 hbytes hbase
  refine ⟨v', w', hr, ho, ?_, fun h => by have := (hnil.1 h).2; omega⟩
  have h63' : n + m ≤ 9223372036854775807 := by simp only [maxLen] at h63; omega
  rcases hown.2 with ⟨rfl, rfl⟩ | ⟨g, cap, cur, rfl, hbg, hgg, hnc, hcm, hcs, htake⟩
  · have := run_append_nil (P := P) w t ty e i z ht hi hz a m c news (by rw [hsize]; exact hl) hnews hm (by omega) (by rw [hby]; simp only [Nat.zero_add] at hbytes; omega)
    rw [this] at hr
    injection hr with e1 e2
    subst e1 e2
    exact .inr ⟨rfl, grown_drew_alloc w _⟩
  · by_cases hroom : n + m ≤ cap
    · have := run_append_room (P := P) w t ty e i ht hi g n cap cur hgg a m c news (by rw [hsize]; exact hl) hnews h1 hroom (by rw [hsize, hcs, hl, ← Nat.add_mul]; exact Nat.mul_le_mul_right _ hroom)
      rw [this] at hr
      injection hr with e1 e2
      subst e1
      exact .inl ⟨rfl, hg⟩
    · have := run_append_grow (P := P) w t ty e i z ht hi hz ⟨g, 0, none⟩ n cap xs (by rw [hsize]; exact hown.1) (hown.cells (g := g) rfl) a m c news (by rw [hsize]; exact hl) hnews (by omega) (by omega) (growslice_fits (by omega) (by rw [hby]; exact hbytes))
      rw [this] at hr
      injection hr with e1 e2
      subst e1 e2
      exact .inr ⟨rfl, grown_drew_alloc w _⟩

/-- A list that its owner has written full. -/
structure En where
  a : Option Addr
  n : Nat
  c : Nat
  m : Int
def En.cl (e : En) : List Value := [.slice e.a e.n e.c, .int .i64 e.m]
abbrev marks (n : Nat) (m : Int) : List Sp := List.replicate n (m, -1)
structure EOk (w : World) (V : Nat → Prop) (e : En) : Prop where
  cap : e.n ≤ e.c ∧ e.c ≤ 9223372036854775807
  at_ : e.n = 0 ∨ ∃ g, e.a = some ⟨g, 0, none⟩ ∧ V g ∧ g < w.heap.size ∧ ∀ i, i < e.n → w.cell? ⟨g, i * 2, none⟩ = some (.int .i64 e.m) ∧ w.cell? ⟨g, i * 2 + 1, none⟩ = some (.int .i64 (-1))
theorem EOk.kept {w w' : World} {V : Nat → Prop} {e : En} (h : EOk w V e) (hs : w.heap.size ≤ w'.heap.size) (hk : ∀ g, V g → g < w.heap.size → w'.heap[g]? = w.heap[g]?) : EOk w' V e := by
  refine ⟨h.cap, ?_⟩
  rcases h.at_ with h1 | ⟨g, ea, hv, hl, hc⟩
  · exact .inl h1
  · refine .inr ⟨g, ea, hv, by omega, fun i hi => ?_⟩
    have k := hk g hv hl
    rw [← (hc i hi).1, ← (hc i hi).2]
    simp only [World.cell?, k, and_self]
theorem EOk.mono {w : World} {V V' : Nat → Prop} {e : En} (h : EOk w V e) (hv : ∀ g, V g → V' g) : EOk w V' e := by
  refine ⟨h.cap, ?_⟩
  rcases h.at_ with h1 | ⟨g, ea, hg, hl, hc⟩
  · exact .inl h1
  · exact .inr ⟨g, ea, hv g hg, hl, hc⟩

theorem cl_len : ∀ L : List Sp, (cl L).length = L.length * 2
  | [] => rfl
  | s :: L => by simp [cl, cl_len L]; omega
theorem cl_app : ∀ (A B : List Sp), cl (A ++ B) = cl A ++ cl B
  | [], B => rfl
  | s :: A, B => by simp [cl, cl_app A B]
theorem cl_marks (m : Int) : ∀ (n i : Nat), i < n → (cl (marks n m))[i * 2]? = some (.int .i64 m) ∧ (cl (marks n m))[i * 2 + 1]? = some (.int .i64 (-1))
  | 0, i, h => by omega
  | n + 1, 0, h => ⟨rfl, rfl⟩
  | n + 1, i + 1, h => by
    have := cl_marks m n i (by omega)
    show (Value.int .i64 m :: Value.int .i64 (-1) :: cl (marks n m))[(i + 1) * 2]? = _ ∧ (Value.int .i64 m :: Value.int .i64 (-1) :: cl (marks n m))[(i + 1) * 2 + 1]? = _
    rw [show (i + 1) * 2 = i * 2 + 1 + 1 by omega, show i * 2 + 1 + 1 + 1 = (i * 2 + 1) + 1 + 1 by omega]
    exact this
theorem row_marks {w : World} {B n c : Nat} {g : Nat} {m : Int} (h : w.ownsRow B 55 2 (.slice (some ⟨g, 0, none⟩) n c) n (cl (marks n m))) (i : Nat) (hi : i < n) : w.cell? ⟨g, i * 2, none⟩ = some (.int .i64 m) ∧ w.cell? ⟨g, i * 2 + 1, none⟩ = some (.int .i64 (-1)) := by
  have hl : (cl (marks n m)).length = n * 2 := by rw [cl_len]; simp
  have := cl_marks m n i hi
  exact ⟨(World.ownsRow.cellAt h (i * 2) (by omega)).trans this.1, (World.ownsRow.cellAt h (i * 2 + 1) (by omega)).trans this.2⟩
/-- A row full of marks is such a list. -/
theorem eok_of {w : World} {B n c : Nat} {a : Option Addr} {m : Int} (h : w.ownsRow B 55 2 (.slice a n c) n (cl (marks n m))) (V : Nat → Prop) (hV : ∀ g, (Value.slice a n c).ownBlock = some g → V g) : EOk w V ⟨a, n, c, m⟩ := by
  have hl := h.lt
  rcases id h.2 with ⟨e, e2⟩ | ⟨g, cap, cur, e, q1, q2, q3, q4, q5, q6⟩
  · simp only [Value.slice.injEq] at e
    obtain ⟨rfl, rfl, rfl⟩ := e
    exact ⟨⟨Nat.le_refl _, Nat.zero_le _⟩, .inl rfl⟩
  · simp only [Value.slice.injEq] at e
    obtain ⟨rfl, -, rfl⟩ := e
    exact ⟨⟨q3, by unfold maxLen at q4; omega⟩, .inr ⟨g, rfl, hV g rfl, (hl g rfl).2, fun i hi => row_marks h i hi⟩⟩

/-- One mark more: the list that was there still reads as it did. -/
theorem mark_push {w : World} {B n : Nat} {v : Value} {m : Int} (h : w.ownsRow B 55 2 v n (cl (marks n m))) {V : Nat → Prop} {e : En} (he : EOk w V e) (hn : e.n ≤ n) (hem : e.m = m) (few : n ≤ 1000000) (hB : B ≤ w.heap.size) :
    ∃ g c w', (Builtin.append_ #[33, 33] 33 #[v, .slice (some ⟨w.heap.size, 0, none⟩) 1 1]).run Try.prog (w.alloc (.cells #[.int .i64 m, .int .i64 (-1)] 55)) = .ok (.slice (some ⟨g, 0, none⟩) (n + 1) c) w'
      ∧ w'.ownsRow B 55 2 (.slice (some ⟨g, 0, none⟩) (n + 1) c) (n + 1) (cl (marks (n + 1) m)) ∧ EOk w' V e ∧ (v.ownBlock = some g ∨ w.heap.size ≤ g) ∧ Kp (fun x => v.ownBlock = some x) w w' ∧ ∀ (x : Nat) (cs : Array Value), w.heap[x]? = some (Obj.cells cs 55 (0, 0)) → ∃ cs', w'.heap[x]? = some (Obj.cells cs' 55 (0, 0)) := by
  obtain ⟨inf, hi0, hz0, hz1, hz2⟩ := info_parts Try.infoS
  have hsz : (w.alloc (.cells #[.int .i64 m, .int .i64 (-1)] 55)).heap.size = w.heap.size + 1 := by show (w.heap.push _).size = _; simp
  have gA := World.grownBy_alloc w (.cells #[.int .i64 m, .int .i64 (-1)] 55) none
  have h1 := trow_kept h gA
  have he1 := he.kept gA.size (fun i _ hi => gA.block i hi (by simp))
  obtain ⟨v', w', hr, ho, mv, hne⟩ := app_keepS (P := Try.prog) (w.alloc (.cells #[.int .i64 m, .int .i64 (-1)] 55)) B 33 33 55 inf (.agg #[.int .i64 0, .int .i64 0]) 2 16 Try.underlying33 hi0 hz0 hz1 hz2 rfl (by decide) v n (cl (marks n m)) h1 ⟨w.heap.size, 0, none⟩ 1 1 [.int .i64 m, .int .i64 (-1)] rfl (fun i u hu => by
    rw [show (⟨w.heap.size, 0, none⟩ : Addr).add i = ⟨w.heap.size, i, none⟩ by simp [Addr.add]; exact fun e => e.symm]
    simp only [World.cell?, heap_alloc_new]
    rw [← hu]
    simp) (fun u hu => by simp only [List.mem_cons, List.not_mem_nil, or_false] at hu; rcases hu with rfl | rfl <;> rfl) (by omega) (by unfold maxLen; omega) (by omega) (by omega)
  have em : cl (marks n m) ++ [.int .i64 m, .int .i64 (-1)] = cl (marks (n + 1) m) := by
    rw [show marks (n + 1) m = marks n m ++ [(m, -1)] by simp [marks, List.replicate_succ'], cl_app]; rfl
  rw [em] at ho
  obtain ⟨g, c, rfl⟩ : ∃ g c, v' = .slice (some ⟨g, 0, none⟩) (n + 1) c := by
    rcases ho.2 with ⟨e, -⟩ | ⟨g6, cap, cur, e, -⟩
    · exact absurd e hne
    · exact ⟨g6, cap, e⟩
  have kg : Kp (fun x => v.ownBlock = some x) w w' := by
    refine (Kp.grown gA _).trans ?_
    rcases mv with ⟨-, gg⟩ | ⟨-, gg, -⟩
    · exact ⟨gg.os, gg.tape, gg.output, gg.size, fun x hx hn => gg.block x hx (fun e => hn e.symm)⟩
    · exact Kp.grown gg _
  refine ⟨g, c, w', hr, ho, ?_, ?_, kg, fun x cs hx => ?_⟩
  rotate_left 2
  · have hxl : x < w.heap.size := Blk.lt (cs := cs) (t := 55) hx
    have hxA : (w.alloc (.cells #[.int .i64 m, .int .i64 (-1)] 55)).heap[x]? = some (.cells cs 55 (0, 0)) := (gA.block x hxl (by simp)).trans hx
    by_cases c1 : g = x
    · subst c1
      rcases ho.2 with ⟨e, -⟩ | ⟨g6, cap, cur, e, -, q2, -⟩
      · cases e
      · simp only [Value.slice.injEq, Option.some.injEq, Addr.mk.injEq, and_true] at e
        obtain ⟨rfl, -⟩ := e
        exact ⟨cur, q2⟩
    · refine ⟨cs, ?_⟩
      rcases mv with ⟨e1, gg⟩ | ⟨-, gg, -⟩
      · refine (gg.block x (by omega) (fun e => c1 ?_)).trans hxA
        rw [← e1] at e
        have : some x = some g := e
        cases this; rfl
      · exact (gg.block x (by omega) (by simp)).trans hxA
  · refine ⟨he.cap, ?_⟩
    rcases he1.at_ with h0 | ⟨ge, ea, hv, hl, hc⟩
    · exact .inl h0
    · refine .inr ⟨ge, ea, hv, ?_, fun i hi => ?_⟩
      · rcases mv with ⟨-, gg⟩ | ⟨-, gg, -⟩ <;> exact Nat.lt_of_lt_of_le hl gg.size
      · by_cases c1 : g = ge
        · subst c1
          rw [hem]; exact row_marks ho i (by omega)
        · have : w'.heap[ge]? = (w.alloc (.cells #[.int .i64 m, .int .i64 (-1)] 55)).heap[ge]? := by
            rcases mv with ⟨e1, gg⟩ | ⟨-, gg, -⟩
            · refine gg.block ge hl (fun e => c1 ?_)
              rw [← e1] at e
              have : some ge = some g := e
              cases this; rfl
            · exact gg.block ge hl (by simp)
          rw [← (hc i hi).1, ← (hc i hi).2]
          simp only [World.cell?, this, and_self]
  · rcases mv with ⟨e1, -⟩ | ⟨e1, -, -⟩
    · exact .inl e1.symm
    · right
      have : some g = some (w.alloc (.cells #[.int .i64 m, .int .i64 (-1)] 55)).heap.size := e1
      cases this
      omega
end Go.Proofs.Ytielpjdjlmkejaa

namespace Go.Proofs.Ytielpjdjlmkejaa
open Go.RowKit Go.Shelf Go.Maps
set_option linter.unusedVariables false
set_option maxRecDepth 100000
set_option maxHeartbeats 2000000

theorem Try.infoOwn : (Try.prog.info? 68).map (fun i => (i.zero, i.size, i.bytes)) = some (some (.agg #[.slice none 0 0, .int .i64 0]), 2, 32) := by kernel_rfl

theorem row_keep {base n : Nat} {e : TypeId} {sz : Nat} {w w' : World} {v : Value} {xs : List Value} (h : w.ownsRow base e sz v n xs) (hk : ∀ g, v.ownBlock = some g → g < w.heap.size → w'.heap[g]? = w.heap[g]?) : w'.ownsRow base e sz v n xs := by
  have hl := h.lt
  refine ⟨h.1, ?_⟩
  rcases h.2 with h2 | ⟨g', cap, cur, rfl, q1, q2, q3⟩
  · exact .inl h2
  · exact .inr ⟨g', cap, cur, rfl, q1, by rw [hk g' rfl (hl g' rfl).2]; exact q2, q3⟩
theorem row_apart {w : World} {b1 b2 s1 s2 n1 n2 : Nat} {e1 e2 : TypeId} {v1 v2 : Value} {x1 x2 : List Value} (h1 : w.ownsRow b1 e1 s1 v1 n1 x1) (h2 : w.ownsRow b2 e2 s2 v2 n2 x2) (he : e1 ≠ e2) {g : Nat} (hg : v1.ownBlock = some g) : v2.ownBlock ≠ some g := by
  intro e
  rcases h1.2 with ⟨rfl, -⟩ | ⟨g1, _, c1, rfl, -, q1, -⟩
  · cases hg
  · rcases h2.2 with ⟨rfl, -⟩ | ⟨g2, _, c2, rfl, -, q2, -⟩
    · cases e
    · cases hg
      have e' : g2 = g1 := by simpa [Value.ownBlock] using e
      subst e'
      rw [q1] at q2
      simp only [Option.some.injEq, Obj.cells.injEq] at q2
      exact he q2.2.1
theorem row_blk {w : World} {b1 s1 n1 O : Nat} {e1 t : TypeId} {v1 : Value} {x1 : List Value} {cs : Array Value} (h1 : w.ownsRow b1 e1 s1 v1 n1 x1) (b : Blk w O cs t) (he : e1 ≠ t) : v1.ownBlock ≠ some O := by
  intro e
  rcases h1.2 with ⟨rfl, -⟩ | ⟨g1, _, c1, rfl, -, q1, -⟩
  · cases e
  · cases e
    have b' : w.heap[g1]? = some (.cells cs t (0, 0)) := b
    rw [q1] at b'
    simp only [Option.some.injEq, Obj.cells.injEq] at b'
    exact he b'.2.1

/-- The owner at O: its lists es, in blocks of V. -/
structure OW (B : Nat) (w : World) (V : Nat → Prop) (O : Nat) (es : List En) (lv hv wv : Value) : Prop where
  o : Blk w O #[lv, hv, wv] 35
  row : w.ownsRow B 68 2 lv es.length (es.flatMap En.cl)
  ents : ∀ e ∈ es, EOk w V e
  hB : B ≤ w.heap.size

theorem OW.kept {B : Nat} {w w' : World} {V : Nat → Prop} {O : Nat} {es : List En} {lv hv wv : Value} (h : OW B w V O es lv hv wv) (hs : w.heap.size ≤ w'.heap.size) (hk : ∀ g, g = O ∨ lv.ownBlock = some g ∨ V g → g < w.heap.size → w'.heap[g]? = w.heap[g]?) : OW B w' V O es lv hv wv :=
  ⟨(hk O (.inl rfl) h.o.lt).trans h.o, row_keep h.row (fun g e hl => hk g (.inr (.inl e)) hl), fun e he => (h.ents e he).kept hs (fun g hv hl => hk g (.inr (.inr hv)) hl), Nat.le_trans h.hB hs⟩

/-- One list more. -/
theorem OW.push {B : Nat} {w : World} {V V' : Nat → Prop} {O : Nat} {es : List En} {lv hv wv : Value} (h : OW B w V O es lv hv wv) (e : En) (few : es.length ≤ 100000000) (hVO : ¬ V' O) (hV3 : ∀ g, V' g → lv.ownBlock ≠ some g) (hV : ∀ g, V g → V' g) (he : EOk w V' e) (hVl : ∀ g, V' g → g < w.heap.size) :
    ∃ g c w', (Builtin.append_ #[32, 32] 32 #[lv, .slice (some ⟨w.heap.size, 0, none⟩) 1 1]).run Try.prog (w.alloc (.cells #[.slice e.a e.n e.c, .int .i64 e.m] 68)) = .ok (.slice (some ⟨g, 0, none⟩) (es.length + 1) c) w'
      ∧ Blk w' O #[lv, hv, wv] 35 ∧ (lv.ownBlock = some g ∨ w.heap.size ≤ g) ∧ OW B (w'.setCell ⟨O, 0, none⟩ (.slice (some ⟨g, 0, none⟩) (es.length + 1) c)) V' O (es ++ [e]) (.slice (some ⟨g, 0, none⟩) (es.length + 1) c) hv wv ∧ Kp (fun x => x = O ∨ lv.ownBlock = some x) w (w'.setCell ⟨O, 0, none⟩ (.slice (some ⟨g, 0, none⟩) (es.length + 1) c)) := by
  obtain ⟨inf, hi0, hz0, hz1, hz2⟩ := info_parts Try.infoOwn
  have hsz : (w.alloc (.cells #[.slice e.a e.n e.c, .int .i64 e.m] 68)).heap.size = w.heap.size + 1 := by show (w.heap.push _).size = _; simp
  have gA := World.grownBy_alloc w (.cells #[.slice e.a e.n e.c, .int .i64 e.m] 68) none
  have h1 := trow_kept h.row gA
  have hB := h.hB
  have hOl := h.o.lt
  have hnO := row_blk h.row h.o (by decide)
  obtain ⟨v5, W5, hrun, o5, mv, -⟩ := app_keepS (P := Try.prog) (w.alloc (.cells #[.slice e.a e.n e.c, .int .i64 e.m] 68)) B 32 32 68 inf (.agg #[.slice none 0 0, .int .i64 0]) 2 32 Try.underlying32 hi0 hz0 hz1 hz2 rfl (by decide) lv es.length (es.flatMap En.cl) h1 ⟨w.heap.size, 0, none⟩ 1 1 e.cl rfl (fun i u hu => by
    rw [show (⟨w.heap.size, 0, none⟩ : Addr).add i = ⟨w.heap.size, i, none⟩ by simp [Addr.add]; exact fun e => e.symm]
    simp only [World.cell?, heap_alloc_new]
    rw [← hu]
    simp [En.cl]) (fun u hu => by
    simp only [En.cl, List.mem_cons, List.not_mem_nil, or_false] at hu
    rcases hu with rfl | rfl <;> rfl) (by omega) (by unfold maxLen; omega) (by omega) (by omega)
  obtain ⟨h5, c5, rfl⟩ : ∃ h5 c5, v5 = .slice (some ⟨h5, 0, none⟩) (es.length + 1) c5 := by
    rcases o5.2 with ⟨-, e⟩ | ⟨g6, cap, cur, e, -⟩
    · omega
    · exact ⟨g6, cap, e⟩
  have k5 : Kp (fun x => lv.ownBlock = some x) w W5 := by
    refine (Kp.grown gA _).trans ?_
    rcases mv with ⟨-, gg⟩ | ⟨-, gg, -⟩
    · exact ⟨gg.os, gg.tape, gg.output, gg.size, fun x hx hn => gg.block x hx (fun e => hn e.symm)⟩
    · exact Kp.grown gg _
  have hg5 : lv.ownBlock = some h5 ∨ w.heap.size ≤ h5 := by
    rcases mv with ⟨e1, -⟩ | ⟨e1, -, -⟩
    · exact .inl e1.symm
    · right
      have : h5 = (w.alloc (.cells #[.slice e.a e.n e.c, .int .i64 e.m] 68)).heap.size := by
        have e2 : some h5 = some (w.alloc (.cells #[.slice e.a e.n e.c, .int .i64 e.m] 68)).heap.size := e1
        exact Option.some.inj e2
      omega
  have bO : Blk W5 O #[lv, hv, wv] 35 := (k5.block O hOl (fun e => hnO e)).trans h.o
  have ks : Kp (fun x => x = O) W5 (W5.setCell ⟨O, 0, none⟩ (.slice (some ⟨h5, 0, none⟩) (es.length + 1) c5)) := (Kp.refl _ W5).set O 0 _ (fun _ => rfl)
  have hnO5 := row_blk o5 bO (by decide)
  have sz5 := k5.size
  refine ⟨h5, c5, W5, hrun, bO, hg5, ⟨bO.setC 0 _, ?_, fun x hx => ?_, by have := ks.size; omega⟩, (k5.mono (fun x _ e => .inr e)).trans (ks.mono (fun x _ e => .inl e))⟩
  · have e1 : (es ++ [e]).length = es.length + 1 := by simp
    have e2 : (es ++ [e]).flatMap En.cl = es.flatMap En.cl ++ e.cl := by simp
    rw [e1, e2]
    exact row_keep o5 (fun g eg hl => ks.block g hl (fun c => by subst c; exact hnO5 eg))
  · have kk : EOk w V' x := by
      rcases List.mem_append.1 hx with hx | hx
      · exact (h.ents x hx).mono hV
      · simp only [List.mem_singleton] at hx; subst hx; exact he
    have szk := ks.size
    exact kk.kept (by omega) (fun g hg hl => (ks.block g (by omega) (fun c => by subst c; exact hVO hg)).trans (k5.block g hl (hV3 g hg)))
end Go.Proofs.Ytielpjdjlmkejaa

namespace Go.Proofs.Ytielpjdjlmkejaa
open Go.RowKit Go.Shelf Go.Maps
set_option linter.unusedVariables false
set_option maxRecDepth 100000
set_option maxHeartbeats 2000000

/-- Blocks of runs. -/
def VI (w : World) (V : Nat → Prop) : Prop := ∀ g, V g → ∃ cs, w.heap[g]? = some (.cells cs 55 (0, 0))
theorem VI.lt {w : World} {V : Nat → Prop} (h : VI w V) {g : Nat} (hg : V g) : g < w.heap.size := by
  obtain ⟨cs, e⟩ := h g hg
  exact Blk.lt (cs := cs) (t := 55) e
theorem VI.kept {w w' : World} {V : Nat → Prop} (h : VI w V) (hk : ∀ g, V g → g < w.heap.size → w'.heap[g]? = w.heap[g]?) : VI w' V := fun g hg => by
  obtain ⟨cs, e⟩ := h g hg
  exact ⟨cs, (hk g hg (h.lt hg)).trans e⟩
theorem VI.blk {w : World} {V : Nat → Prop} (h : VI w V) {O : Nat} {cs : Array Value} {t : TypeId} (b : Blk w O cs t) (ht : (55 : TypeId) ≠ t) : ¬ V O := fun hg => by
  obtain ⟨cs', e⟩ := h O hg
  have b' : w.heap[O]? = some (.cells cs t (0, 0)) := b
  rw [e] at b'
  simp only [Option.some.injEq, Obj.cells.injEq] at b'
  exact ht b'.2.1
theorem VI.row {w : World} {V : Nat → Prop} (h : VI w V) {B sz n : Nat} {e : TypeId} {v : Value} {xs : List Value} (r : w.ownsRow B e sz v n xs) (he : (55 : TypeId) ≠ e) {g : Nat} (hg : V g) : v.ownBlock ≠ some g := by
  intro eb
  rcases r.2 with ⟨rfl, -⟩ | ⟨g1, _, c1, rfl, -, q1, -⟩
  · cases eb
  · cases eb
    exact h.blk (O := g1) (cs := c1) (t := e) q1 he hg
theorem vi_row {w : World} {B n : Nat} {v : Value} {xs : List Value} (r : w.ownsRow B 55 2 v n xs) : VI w (fun g => v.ownBlock = some g) := fun g e => by
  rcases r.2 with ⟨rfl, -⟩ | ⟨g1, _, c1, rfl, -, q1, -⟩
  · cases e
  · cases e
    exact ⟨_, q1⟩
theorem VI.or {w : World} {V V' : Nat → Prop} (h : VI w V) (h' : VI w V') : VI w (fun g => V g ∨ V' g) := fun g hg => hg.elim (h g) (h' g)

theorem cl_set : ∀ (L : List Sp) (j : Nat) (p : Sp), j < L.length → ((cl L).set (j * 2) (.int .i64 p.1)).set (j * 2 + 1) (.int .i64 p.2) = cl (L.set j p)
  | [], j, p, h => by simp at h
  | s :: L, 0, p, h => rfl
  | s :: L, j + 1, p, h => by
    have := cl_set L j p (by simpa using h)
    rw [show (j + 1) * 2 = j * 2 + 1 + 1 by omega]
    show Value.int .i64 s.1 :: Value.int .i64 s.2 :: (((cl L).set (j * 2) (.int .i64 p.1)).set (j * 2 + 1) (.int .i64 p.2)) = _
    rw [this]
    rfl
theorem marks_set {j : Nat} {M : Int} {xs : List Sp} (hj : j < xs.length) : (marks j M ++ xs.drop j).set j (M, -1) = marks (j + 1) M ++ xs.drop (j + 1) := by
  rw [List.set_append_right _ _ (by simp)]
  simp [marks, List.replicate_succ']
  rw [List.drop_eq_getElem_cons hj]; rfl

/-- While the held list is written over. -/
structure F1 (B : Nat) (w : World) (V : Nat → Prop) (O : Nat) (es : List En) (lv hv wv : Value) (a : Option Addr) (n c : Nat) (xs : List Sp) (M : Int) (wr : World) (j : Nat) : Prop where
  ow : OW B wr V O es lv hv wv
  vi : VI wr V
  row : wr.ownsRow B 55 2 (.slice a n c) n (cl (marks j M ++ xs.drop j))
  nv : ∀ g, (Value.slice a n c).ownBlock = some g → ¬ V g
  kp : Kp (fun x => x = O ∨ lv.ownBlock = some x ∨ (Value.slice a n c).ownBlock = some x) w wr

theorem F1.store {B : Nat} {w wr : World} {V : Nat → Prop} {O : Nat} {es : List En} {lv hv wv : Value} {g n c : Nat} {xs : List Sp} {M : Int} {j : Nat} (h : F1 B w V O es lv hv wv (some ⟨g, 0, none⟩) n c xs M wr j) (hj : j < n) (hx : xs.length = n) :
    F1 B w V O es lv hv wv (some ⟨g, 0, none⟩) n c xs M ((wr.setCell ⟨g, j * 2, none⟩ (.int .i64 M)).setCell ⟨g, j * 2 + 1, none⟩ (.int .i64 (-1))) (j + 1) := by
  obtain ⟨r0, g0⟩ := World.ownsRow.stored h.row (j * 2) (.int .i64 M)
  obtain ⟨r1, g1⟩ := World.ownsRow.stored r0 (j * 2 + 1) (.int .i64 (-1))
  have e := cl_set (marks j M ++ xs.drop j) j (M, -1) (by simp; omega)
  simp only at e
  rw [e, marks_set (by omega)] at r1
  have hgO : O ≠ g := fun e => row_blk h.row h.ow.o (by decide) (by rw [e]; rfl)
  have hgl : lv.ownBlock ≠ some g := row_apart h.row h.ow.row (by decide) rfl
  have ks : Kp (fun x => x = g) wr ((wr.setCell ⟨g, j * 2, none⟩ (.int .i64 M)).setCell ⟨g, j * 2 + 1, none⟩ (.int .i64 (-1))) := ((Kp.refl (fun x => x = g) wr).set g (j * 2) _ (fun _ => rfl)).set g (j * 2 + 1) _ (fun _ => rfl)
  refine ⟨h.ow.kept ks.size (fun x hx hl => ks.block x hl (fun e => ?_)), h.vi.kept (fun x hx hl => ks.block x hl (fun e => by subst e; exact h.nv x rfl hx)), r1, h.nv, h.kp.trans (ks.mono (fun x _ e => by subst e; exact .inr (.inr rfl)))⟩
  subst e
  rcases hx with hx | hx | hx
  · exact hgO hx.symm
  · exact hgl hx
  · exact h.nv x rfl hx

/-- The owner, its last list told apart. -/
structure OX (B : Nat) (w : World) (V : Nat → Prop) (O : Nat) (es all : List En) (lv hv wv : Value) : Prop where
  o : Blk w O #[lv, hv, wv] 35
  row : w.ownsRow B 68 2 lv all.length (all.flatMap En.cl)
  ents : ∀ e ∈ es, EOk w V e
  hB : B ≤ w.heap.size
theorem OX.kept {B : Nat} {w w' : World} {V : Nat → Prop} {O : Nat} {es all : List En} {lv hv wv : Value} (h : OX B w V O es all lv hv wv) (hs : w.heap.size ≤ w'.heap.size) (hk : ∀ g, g = O ∨ lv.ownBlock = some g ∨ V g → g < w.heap.size → w'.heap[g]? = w.heap[g]?) : OX B w' V O es all lv hv wv :=
  ⟨(hk O (.inl rfl) h.o.lt).trans h.o, row_keep h.row (fun g e hl => hk g (.inr (.inl e)) hl), fun e he => (h.ents e he).kept hs (fun g hv hl => hk g (.inr (.inr hv)) hl), Nat.le_trans h.hB hs⟩

/-- While it is grown. -/
structure F2 (B : Nat) (w : World) (V : Nat → Prop) (O : Nat) (es : List En) (lv hv wv : Value) (e1 : En) (K : Nat → Prop) (M : Int) (l2 : Value) (wr : World) (j : Nat) : Prop where
  ow : OX B wr V O es (es ++ [e1]) lv hv wv
  vi : VI wr V
  row : wr.ownsRow B 55 2 l2 j (cl (marks j M))
  nv : ∀ g, l2.ownBlock = some g → ¬ V g
  ex1 : ∃ V1, EOk wr V1 e1 ∧ VI wr V1 ∧ ∀ g, V1 g → (Value.slice e1.a e1.n e1.c).ownBlock = some g
  hk : ∀ g, (Value.slice e1.a e1.n e1.c).ownBlock = some g → K g
  en : e1.n ≤ j ∧ e1.m = M
  kb : ∀ g, l2.ownBlock = some g → (Value.slice e1.a e1.n e1.c).ownBlock = some g ∨ w.heap.size ≤ g
  kp : Kp K w wr

theorem F2.push {B : Nat} {w wr : World} {V : Nat → Prop} {O : Nat} {es : List En} {lv hv wv : Value} {e1 : En} {K : Nat → Prop} {M : Int} {l2 : Value} {j : Nat} (h : F2 B w V O es lv hv wv e1 K M l2 wr j) (few : j ≤ 1000000) :
    ∃ g c w', (Builtin.append_ #[33, 33] 33 #[l2, .slice (some ⟨wr.heap.size, 0, none⟩) 1 1]).run Try.prog (wr.alloc (.cells #[.int .i64 M, .int .i64 (-1)] 55)) = .ok (.slice (some ⟨g, 0, none⟩) (j + 1) c) w' ∧ F2 B w V O es lv hv wv e1 K M (.slice (some ⟨g, 0, none⟩) (j + 1) c) w' (j + 1) := by
  obtain ⟨V1, he, vi1, hK⟩ := h.ex1
  obtain ⟨g, c, w', hr, ho, he', hg, k, ty⟩ := mark_push h.row he h.en.1 h.en.2 few h.ow.hB
  have hO := row_blk h.row h.ow.o (by decide)
  have hl : ∀ x, lv.ownBlock = some x → l2.ownBlock ≠ some x := fun x e => row_apart h.ow.row h.row (by decide) e
  have szk := h.kp.size
  refine ⟨g, c, w', hr, h.ow.kept k.size (fun x hx hl' => k.block x hl' (fun e => ?_)), h.vi.kept (fun x hx hl' => k.block x hl' (fun e => h.nv x e hx)), ho, fun x e hx => ?_, ⟨V1, he', fun x hx => by obtain ⟨cs, e⟩ := vi1 x hx; exact ty x cs e, hK⟩, h.hk, ⟨by have := h.en.1; omega, h.en.2⟩, fun x e => ?_, ?_⟩
  · rcases hx with rfl | hx | hx
    · exact hO e
    · exact hl x hx e
    · exact h.nv x e hx
  · obtain rfl : x = g := by cases e; rfl
    rcases hg with hg | hg
    · exact h.nv _ hg hx
    · have := h.vi.lt hx; omega
  · obtain rfl : x = g := by cases e; rfl
    rcases hg with hg | hg
    · exact h.kb _ hg
    · exact .inr (by omega)
  · refine ⟨k.os.trans h.kp.os, k.tape.trans h.kp.tape, k.output.trans h.kp.output, Nat.le_trans szk k.size, fun x hx hn => ?_⟩
    refine (k.block x (by omega) (fun e => ?_)).trans (h.kp.block x hx hn)
    rcases h.kb x e with h1 | h1
    · exact hn (h.hk x h1)
    · omega
end Go.Proofs.Ytielpjdjlmkejaa

namespace Go.Proofs.Ytielpjdjlmkejaa
open Go.RowKit Go.Shelf Go.Maps
set_option linter.unusedVariables false
set_option maxRecDepth 100000
set_option maxHeartbeats 2000000

theorem cl_atE (X : List Sp) (k : Nat) (hk : k < X.length) : (cl X)[k * 2]? = some (.int .i64 X[k].1) ∧ (cl X)[k * 2 + 1]? = some (.int .i64 X[k].2) := by
  have h1 := cl_lo X k hk
  have h2 := cl_hi X k hk
  have e : X.getD k (0, 0) = X[k] := by simp [List.getD, hk]
  rw [e] at h1 h2
  exact ⟨h1, h2⟩
theorem caps_of {w : World} {B n c : Nat} {a : Option Addr} {X : List Sp} (h : w.ownsRow B 55 2 (.slice a n c) n (cl X)) : X.length = n ∧ n ≤ c ∧ c ≤ 9223372036854775807 := by
  have hl := h.1
  rw [cl_len] at hl
  refine ⟨by omega, ?_⟩
  rcases h.2 with ⟨e1, e2⟩ | ⟨g, cap, cur, e1, -, -, q3, q4, -⟩
  · simp only [Value.slice.injEq] at e1; omega
  · simp only [Value.slice.injEq] at e1
    unfold maxLen at q4
    omega

theorem runs_same {B n c1 c2 : Nat} {a1 a2 : Option Addr} {X : List Sp} {w : World} (h1 : w.ownsRow B 55 2 (.slice a1 n c1) n (cl X)) (h2 : w.ownsRow B 55 2 (.slice a2 n c2) n (cl X)) :
    Calls Try.prog 30 #[.slice a1 n c1, .slice a2 n c2] w fun e w' => e = .returned (.bool true) ∧ w.grownBy w' none := by
  obtain ⟨hl, p1, p2⟩ := caps_of h1
  obtain ⟨-, p3, p4⟩ := caps_of h2
  have nI : ¬ (9223372036854775807 : Int) < (n : Int) := by omega
  have H1 := hide h1
  have H2 := hide h2
  clear h1 h2
  go_enter Try.func30, Try.ntmps30
  go_wp2_with fail
  go_loopw [5] (fun i wr => ∃ k : Nat, k ≤ n ∧ i = .int .i64 k ∧ Hid (w.grownBy wr none)) (fun i _ => n - (intOf i).toNat)
  case atStart => exact ⟨0, Nat.zero_le _, rfl, World.grownBy.refl _ _⟩
  case round =>
    obtain ⟨k, hk, rfl, G⟩ := hrel
    by_cases hlt : k < n
    · have kn : (k : Int) < (n : Int) := by omega
      obtain ⟨g1, rfl⟩ : ∃ g, a1 = some ⟨g, 0, none⟩ := by
        rcases (unhide H1).2 with ⟨e1, e2⟩ | ⟨g, cap, cur, e1, -⟩
        · omega
        · simp only [Value.slice.injEq] at e1; exact ⟨g, e1.1⟩
      obtain ⟨g2, rfl⟩ : ∃ g, a2 = some ⟨g, 0, none⟩ := by
        rcases (unhide H2).2 with ⟨e1, e2⟩ | ⟨g, cap, cur, e1, -⟩
        · omega
        · simp only [Value.slice.injEq] at e1; exact ⟨g, e1.1⟩
      have t1 := trow_kept (unhide H1) (unhide G)
      have t2 := trow_kept (unhide H2) (unhide G)
      have f := cl_atE X k (by omega)
      have x0 := (World.ownsRow.cellAt t1 (k * 2) (by omega)).trans f.1
      have x1 := (World.ownsRow.cellAt t1 (k * 2 + 1) (by omega)).trans f.2
      have z0 := (World.ownsRow.cellAt t2 (k * 2) (by omega)).trans f.1
      have z1 := (World.ownsRow.cellAt t2 (k * 2 + 1) (by omega)).trans f.2
      generalize X[k].1 = p at *
      generalize X[k].2 = q at *
      have GD := hide (fun m => (unhide G).trans (show wr.grownBy (wr.drewN m) none from ⟨rfl, rfl, rfl, Nat.le_refl _, fun _ _ _ => rfl⟩))
      have HLT := hide hlt
      clear t1 t2 f G hk hlt
      go_wp2_with fail
      go_quiet (fail)
      go_wp2_with fail
      go_roundw
      case rel => exact ⟨k + 1, unhide HLT, by go_num, unhide GD _⟩
      case measure => have := unhide HLT; simp [intOf]; omega
    · have kn : ¬ (k : Int) < (n : Int) := by omega
      go_wp2_with fail
      go_ret
      exact ⟨rfl, unhide G⟩
end Go.Proofs.Ytielpjdjlmkejaa

namespace Go.Proofs.Ytielpjdjlmkejaa
open Go.RowKit Go.Shelf Go.Maps
set_option linter.unusedVariables false
set_option maxRecDepth 100000
set_option maxHeartbeats 8000000

/-- What takes leaves. -/
def TakePost (B : Nat) (w : World) (V : Nat → Prop) (O : Nat) (es : List En) (lv h1 l3 l4 : Value) (w' : World) : Prop :=
  ∃ (es' : List En) (lv' : Value) (V' : Nat → Prop), OW B w' V' O es' lv' l3 l4 ∧ es'.length = es.length + 2 ∧ VI w' V' ∧ (∀ g, V' g → V g ∨ h1.ownBlock = some g ∨ w.heap.size ≤ g) ∧ Kp (fun x => x = O ∨ lv.ownBlock = some x ∨ h1.ownBlock = some x) w w'

theorem OW.set {B : Nat} {w : World} {V : Nat → Prop} {O : Nat} {es : List En} {lv hv wv : Value} (h : OW B w V O es lv hv wv) (vi : VI w V) (l3 l4 : Value) : OW B ((w.setCell ⟨O, 1, none⟩ l3).setCell ⟨O, 2, none⟩ l4) V O es lv l3 l4 ∧ VI ((w.setCell ⟨O, 1, none⟩ l3).setCell ⟨O, 2, none⟩ l4) V ∧ Kp (fun x => x = O) w ((w.setCell ⟨O, 1, none⟩ l3).setCell ⟨O, 2, none⟩ l4) := by
  have k : Kp (fun x => x = O) w ((w.setCell ⟨O, 1, none⟩ l3).setCell ⟨O, 2, none⟩ l4) := ((Kp.refl (fun x => x = O) w).set O 1 _ (fun _ => rfl)).set O 2 _ (fun _ => rfl)
  have hr := row_blk h.row h.o (by decide)
  have hv := vi.blk h.o (by decide)
  have sz := k.size
  refine ⟨⟨(h.o.setC 1 l3).setC 2 l4, row_keep h.row (fun g e hl => k.block g hl (fun c => by subst c; exact hr e)), fun e he => (h.ents e he).kept sz (fun g hg hl => k.block g hl (fun c => by subst c; exact hv hg)), Nat.le_trans h.hB sz⟩, vi.kept (fun g hg hl => k.block g hl (fun c => by subst c; exact hv hg)), k⟩

theorem OW.entry {B : Nat} {w : World} {V : Nat → Prop} {O : Nat} {es : List En} {hv wv : Value} {gl c : Nat} (h : OW B w V O es (.slice (some ⟨gl, 0, none⟩) es.length c) hv wv) (k : Nat) (e : En) (hk : es[k]? = some e) : w.cell? ⟨gl, k * 2, none⟩ = some (.slice e.a e.n e.c) ∧ w.cell? ⟨gl, k * 2 + 1, none⟩ = some (.int .i64 e.m) := by
  have hl := (List.getElem?_eq_some_iff.1 hk).1
  have fl : ∀ (L : List En) (k : Nat), L[k]? = some e → ∀ j, j < 2 → (L.flatMap En.cl)[k * 2 + j]? = e.cl[j]? := by
    intro L
    induction L with
    | nil => intro k hk; simp at hk
    | cons a t ih =>
      intro k hk j hj
      rw [List.flatMap_cons]
      cases k with
      | zero =>
        simp at hk; subst hk
        rw [Nat.zero_mul, Nat.zero_add, List.getElem?_append_left (by show j < 2; exact hj)]
      | succ k =>
        have h2 : (En.cl a).length = 2 := rfl
        rw [List.getElem?_append_right (by rw [h2]; omega), h2, show (k + 1) * 2 + j - 2 = k * 2 + j by omega]
        exact ih k (by simpa using hk) j hj
  have c0 := World.ownsRow.cellAt h.row (k * 2) (by omega)
  have c1 := World.ownsRow.cellAt h.row (k * 2 + 1) (by omega)
  have f0 := fl es k hk 0 (by omega)
  have f1 := fl es k hk 1 (by omega)
  rw [Nat.add_zero] at f0
  exact ⟨c0.trans f0, c1.trans f1⟩

theorem OW.grownN {B : Nat} {w w' : World} {V : Nat → Prop} {O : Nat} {es : List En} {lv hv wv : Value} (h : OW B w V O es lv hv wv) (g : w.grownBy w' none) : OW B w' V O es lv hv wv := h.kept g.size (fun x _ hl => g.block x hl (by simp))
theorem VI.grownN {w w' : World} {V : Nat → Prop} (h : VI w V) (g : w.grownBy w' none) : VI w' V := h.kept (fun x _ hl => g.block x hl (by simp))

theorem takes_any {B : Nat} {w : World} {V : Nat → Prop} {O : Nat} {es : List En} {lv : Value} {a1 a2 a3 a4 : Option Addr} {n1 c1 c2 n3 c3 c4 : Nat} {X1 X3 : List Sp} (h : OW B w V O es lv (.slice a1 n1 c1) (.slice a2 n1 c2)) (vi : VI w V) (r1 : w.ownsRow B 55 2 (.slice a1 n1 c1) n1 (cl X1)) (r2 : w.ownsRow B 55 2 (.slice a2 n1 c2) n1 (cl X1)) (r3 : w.ownsRow B 55 2 (.slice a3 n3 c3) n3 (cl X3)) (r4 : w.ownsRow B 55 2 (.slice a4 n3 c4) n3 (cl X3)) (hV : ∀ g, (Value.slice a1 n1 c1).ownBlock = some g → ¬ V g) (few : es.length ≤ 10000000) (hn : n1 ≤ 100000) :
    Calls Try.prog 10 #[ptr O, .slice a3 n3 c3, .slice a4 n3 c4] w fun e w' => e = .returned (.bool true) ∧ TakePost B w V O es lv (.slice a1 n1 c1) (.slice a3 n3 c3) (.slice a4 n3 c4) w' := by
  have s1 := hide (fun W (g : w.grownBy W none) => runs_same (trow_kept r1 g) (trow_kept r2 g))
  have s2 := hide (fun W (g : w.grownBy W none) => runs_same (trow_kept r3 g) (trow_kept r4 g))
  obtain ⟨hxl, nc1, nc2⟩ := caps_of r1
  have FS : Hid (∀ W, w.grownBy W none → F1 B w V O es lv (.slice a1 n1 c1) (.slice a2 n1 c2) a1 n1 c1 X1 ((es.length : Int) + 20) W 0) := fun W g => ⟨h.grownN g, vi.grownN g, by simpa using trow_kept r1 g, hV, Kp.grown g _⟩
  obtain ⟨al, cl0, rfl⟩ : ∃ al cl, lv = .slice al es.length cl := by
    rcases h.row.2 with ⟨e1, e2⟩ | ⟨g, cap, cur, e1, -⟩
    · exact ⟨none, 0, by rw [e1, e2]⟩
    · exact ⟨_, _, e1⟩
  have x0 := h.o.cell 0 (.slice al es.length cl0) rfl
  have x1 := h.o.cell 1 (.slice a1 n1 c1) rfl
  have x2 := h.o.cell 2 (.slice a2 n1 c2) rfl
  have lI : ¬ (9223372036854775807 : Int) < (n1 : Int) := by omega
  have eI : ¬ (9223372036854775807 : Int) < (es.length : Int) := by omega
  have D1 := unhide s1 w.drew ⟨rfl, rfl, rfl, Nat.le_refl _, fun _ _ _ => rfl⟩
  have GD : Hid (∀ W, w.drew.grownBy W none → w.grownBy W none) := fun W g => ⟨g.os, g.tape, g.output, g.size, g.block⟩
  clear h vi r1 r2 r3 r4 s1
  generalize hL : es.length = L at *
  have HL := hide hL
  clear hL
  go_enter Try.func10, Try.ntmps10
  go_upto_region 1 with fail
  go_region_held3 (fun W => W.cell? ⟨O, 1, none⟩ = some (.slice a1 n1 c1) ∧ W.cell? ⟨O, 2, none⟩ = some (.slice a2 n1 c2)) (go_keep) (first | (go_at_call 30; refine D1.mono ?_; rintro e Ws ⟨rfl, gs⟩; have y1 := gs.cell (show World.cell? w.drew ⟨O, 1, none⟩ = _ from x1) (by simp); have y2 := gs.cell (show World.cell? w.drew ⟨O, 2, none⟩ = _ from x2) (by simp)))
  have g1 := unhide GD _ gs
  have D2 := unhide s2 _ g1
  clear D1 gs GD s2 x1 x2
  go_wp2_with fail
  refine D2.mono ?_
  rintro e W2 ⟨rfl, g2⟩
  have z1 := g2.cell y1 (by simp)
  have z0 := (g1.trans g2).cell x0 (by simp)
  have S0 := hide (unhide FS _ (g1.trans g2))
  clear D2 FS y1 y2 g1 g2 x0
  go_wp2_with fail
  generalize hM : (L : Int) + 20 = M at *
  clear hM z0 z1
  go_loopw [11] (fun iv wr => ∃ j : Nat, j ≤ n1 ∧ iv = .int .i64 j ∧ Hid (F1 B w V O es (.slice al L cl0) (.slice a1 n1 c1) (.slice a2 n1 c2) a1 n1 c1 X1 M wr j)) (fun iv _ => n1 - (intOf iv).toNat)
  case atStart => exact ⟨0, Nat.zero_le _, rfl, S0⟩
  case round =>
    clear S0
    obtain ⟨j, hj, rfl, H⟩ := hrel
    by_cases hlt : j < n1
    · have jN : (j : Int) < (n1 : Int) := by omega
      obtain ⟨g, rfl⟩ : ∃ g, a1 = some ⟨g, 0, none⟩ := by
        rcases (unhide H).row.2 with ⟨e1, e2⟩ | ⟨g, cap, cur, e1, -⟩
        · omega
        · simp only [Value.slice.injEq] at e1; exact ⟨g, e1.1⟩
      have th : ∀ i, wr.frozen? ⟨g, i, none⟩ = false := fun i => World.ownsRow.frozenAt (unhide H).row i
      have hll : (marks j M ++ X1.drop j).length = n1 := by simp; omega
      have f := cl_atE (marks j M ++ X1.drop j) j (by omega)
      have ce0 := (World.ownsRow.cellAt (unhide H).row (j * 2) (by omega)).trans f.1
      have ce1 := (World.ownsRow.cellAt (unhide H).row (j * 2 + 1) (by omega)).trans f.2
      generalize (marks j M ++ X1.drop j)[j].1 = u0 at *
      generalize (marks j M ++ X1.drop j)[j].2 = u1 at *
      have E := hide ((unhide H).store hlt hxl)
      have HLT := hide hlt
      clear H f hll hlt hj
      go_wp2_with fail
      go_roundw
      case rel => exact ⟨j + 1, unhide HLT, by go_num, E⟩
      case measure => have := unhide HLT; simp [intOf]; omega
    · as_aux_lemma =>
      obtain rfl : j = n1 := by omega
      have jN : ¬ (j : Int) < (j : Int) := by omega
      have hrow := (unhide H).row
      rw [List.drop_eq_nil_of_le (by omega), List.append_nil] at hrow
      have ow := (unhide H).ow
      have x0 := ow.o.cell 0 (.slice al L cl0) rfl
      have viR := vi_row hrow
      have e1ok := eok_of hrow (fun g => V g ∨ (Value.slice a1 j c1).ownBlock = some g) (fun g e => .inr e)
      obtain ⟨g1, d1, Wa, r1, bO, hg1, ow1, k1⟩ := ow.push ⟨a1, j, c1, M⟩ (by have := unhide HL; omega) (fun hh => hh.elim ((unhide H).vi.blk ow.o (by decide)) (fun e => row_blk hrow ow.o (by decide) e)) (fun g hg => hg.elim (fun hv => (unhide H).vi.row ow.row (by decide) hv) (fun e => row_apart hrow ow.row (by decide) e)) (fun g hg => .inl hg) e1ok (fun g hg => hg.elim (fun hv => (unhide H).vi.lt hv) (fun e => (hrow.lt g e).2))
      have hLL := unhide HL
      have HG1 : Hid ((Value.slice al L cl0).ownBlock = some g1 ∨ w.heap.size ≤ g1) := hg1.elim .inl (fun e => .inr (Nat.le_trans (unhide H).kp.size e))
      clear hg1
      rw [hLL] at r1 ow1 k1
      have hOl := ow.o.lt
      have hOr := row_blk hrow ow.o (by decide)
      have S2 : Hid (F2 B w V O es (.slice (some ⟨g1, 0, none⟩) (L + 1) d1) (.slice a1 j c1) (.slice a2 j c2) ⟨a1, j, c1, M⟩ (fun x => x = O ∨ (Value.slice al L cl0).ownBlock = some x ∨ (Value.slice a1 j c1).ownBlock = some x) M (.slice a1 j c1) (Wa.setCell ⟨O, 0, none⟩ (.slice (some ⟨g1, 0, none⟩) (L + 1) d1)) j) := by
        have hnl : ∀ g, (Value.slice a1 j c1).ownBlock = some g → ¬ (g = O ∨ (Value.slice al L cl0).ownBlock = some g) := fun g e hh => hh.elim (fun e2 => by subst e2; exact hOr e) (fun e2 => row_apart hrow ow.row (by decide) e e2)
        have hnV : ∀ g, V g → ¬ (g = O ∨ (Value.slice al L cl0).ownBlock = some g) := fun g hv hh => hh.elim (fun e2 => by subst e2; exact (unhide H).vi.blk ow.o (by decide) hv) (fun e2 => (unhide H).vi.row ow.row (by decide) hv e2)
        refine ⟨⟨ow1.o, ow1.row, fun e he => (ow.ents e he).kept k1.size (fun g hv hl => k1.block g hl (hnV g hv)), ow1.hB⟩, (unhide H).vi.kept (fun g hv hl => k1.block g hl (hnV g hv)), row_keep hrow (fun g e hl => k1.block g hl (hnl g e)), hV, ⟨fun g => (Value.slice a1 j c1).ownBlock = some g, (eok_of hrow _ (fun g e => e)).kept k1.size (fun g e hl => k1.block g hl (hnl g e)), viR.kept (fun g e hl => k1.block g hl (hnl g e)), fun g e => e⟩, fun g e => .inr (.inr e), ⟨Nat.le_refl _, rfl⟩, fun g e => .inl e, ?_⟩
        exact (unhide H).kp.trans (k1.mono (fun x _ e => e.elim .inl (fun e => .inr (.inl e))))
      have y0 := bO.cell 0 (.slice al L cl0) rfl
      have th := bO.thaw 0
      have R1 := hide r1
      clear H hrow ow viR e1ok r1 ow1 k1 bO hOr hOl
      go_wp2_with (at_builtin; refine wpList_append_run _ rfl _ _ 32 32 rfl _ _ rfl rfl (unhide R1) ?_)
      generalize Wa.setCell ⟨O, 0, none⟩ (.slice (some ⟨g1, 0, none⟩) (L + 1) d1) = W3 at *
      clear R1 y0 th x0
      go_loopw [9, 12] (fun lq iv wr => ∃ (l2 : Value) (i : Nat), i ≤ 70 ∧ Hid (l2 = lq) ∧ iv = .int .i64 i ∧ Hid (F2 B w V O es (.slice (some ⟨g1, 0, none⟩) (L + 1) d1) (.slice a1 j c1) (.slice a2 j c2) ⟨a1, j, c1, M⟩ (fun x => x = O ∨ (Value.slice al L cl0).ownBlock = some x ∨ (Value.slice a1 j c1).ownBlock = some x) M l2 wr (j + i))) (fun _ iv _ => 70 - (intOf iv).toNat)
      case atStart => exact ⟨_, 0, by omega, rfl, rfl, S2⟩
      case round =>
        obtain ⟨l2, i, hi, el, rfl, H⟩ := hrel
        have el := unhide el
        subst el
        clear S2
        by_cases hi6 : i < 70
        · have iN : (i : Int) < 70 := by omega
          obtain ⟨g', c', w', hrun, f2⟩ := (unhide H).push (by omega)
          have R1 := hide hrun; have E := hide f2
          clear H hrun f2
          go_wp2_with (at_builtin; refine wpList_append_run _ rfl _ _ 33 33 rfl _ _ rfl rfl (unhide R1) ?_)
          exact ⟨⟨_, i + 1, by omega, rfl, by go_num, E⟩, by simp [intOf]; omega⟩
        · as_aux_lemma =>
          obtain rfl : i = 70 := by omega
          have iN : ¬ ((70 : Nat) : Int) < 70 := by omega
          have f := unhide H
          obtain ⟨V1, ek1, vi1, hK1⟩ := f.ex1
          obtain ⟨b2, d2, rfl⟩ : ∃ a2 c2, l2 = .slice a2 (j + 70) c2 := by
            rcases f.row.2 with ⟨e1, e2⟩ | ⟨g, cap, cur, e1, -⟩
            · omega
            · exact ⟨_, _, e1⟩
          have ow : OW B wr (fun g => V g ∨ V1 g ∨ (Value.slice b2 (j + 70) d2).ownBlock = some g) O (es ++ [⟨a1, j, c1, M⟩]) (.slice (some ⟨g1, 0, none⟩) (L + 1) d1) (.slice a1 j c1) (.slice a2 j c2) := ⟨f.ow.o, f.ow.row, fun e he => by
            rcases List.mem_append.1 he with he | he
            · exact (f.ow.ents e he).mono (fun g hg => .inl hg)
            · simp only [List.mem_singleton] at he; subst he; exact ek1.mono (fun g hg => .inr (.inl hg)), f.ow.hB⟩
          have viA : VI wr (fun g => V g ∨ V1 g ∨ (Value.slice b2 (j + 70) d2).ownBlock = some g) := f.vi.or (vi1.or (vi_row f.row))
          have y0 := ow.o.cell 0 (.slice (some ⟨g1, 0, none⟩) (L + 1) d1) rfl
          obtain ⟨g2, d3, Wb, r2, bO, hg2, ow2, k2⟩ := ow.push ⟨b2, j + 70, d2, M⟩ (by have := unhide HL; simp; omega) (viA.blk ow.o (by decide)) (fun g hg => viA.row ow.row (by decide) hg) (fun g hg => hg) (eok_of f.row _ (fun g e => .inr (.inr e))) (fun g hg => viA.lt hg)
          have eL : (es ++ [(⟨a1, j, c1, M⟩ : En)]).length = L + 1 := by have := unhide HL; simp; omega
          rw [eL] at r2 ow2 k2
          have z0 := bO.cell 0 (.slice (some ⟨g1, 0, none⟩) (L + 1) d1) rfl
          have z1 := bO.cell 1 (.slice a1 j c1) rfl
          have z2 := bO.cell 2 (.slice a2 j c2) rfl
          have th : ∀ i, Wb.frozen? ⟨O, i, none⟩ = false := fun i => bO.thaw i
          have szw := f.kp.size
          have vi2 := viA.kept (fun g hg hl => k2.block g hl (fun hh => hh.elim (fun e => by subst e; exact viA.blk ow.o (by decide) hg) (fun e => viA.row ow.row (by decide) hg e)))
          obtain ⟨owF, viF, kF⟩ := ow2.set vi2 (.slice a3 n3 c3) (.slice a4 n3 c4)
          have esl : (es ++ [(⟨a1, j, c1, M⟩ : En)] ++ [(⟨b2, j + 70, d2, M⟩ : En)]).length = L + 1 + 1 := by have := unhide HL; simp; omega
          have TP : Hid (TakePost B w V O es (.slice al L cl0) (.slice a1 j c1) (.slice a3 n3 c3) (.slice a4 n3 c4) (((Wb.setCell ⟨O, 0, none⟩ (.slice (some ⟨g2, 0, none⟩) (L + 1 + 1) d3)).setCell ⟨O, 1, none⟩ (.slice a3 n3 c3)).setCell ⟨O, 2, none⟩ (.slice a4 n3 c4))) := by
            refine ⟨_, _, _, owF, by rw [esl, unhide HL], viF, fun g hg => ?_, ?_⟩
            · rcases hg with hg | hg | hg
              · exact .inl hg
              · exact .inr (.inl (hK1 g hg))
              · exact .inr (f.kb g hg)
            · have kk := k2.trans (kF.mono (fun x _ e => .inl e))
              refine ⟨kk.os.trans f.kp.os, kk.tape.trans f.kp.tape, kk.output.trans f.kp.output, Nat.le_trans f.kp.size kk.size, fun x hx hn => ?_⟩
              refine (kk.block x (by omega) (fun hh => ?_)).trans (f.kp.block x hx hn)
              rcases hh with rfl | hh
              · exact hn (.inl rfl)
              · obtain rfl : g1 = x := by cases hh; rfl
                rcases (unhide HG1) with h1 | h1
                · exact hn (.inr (.inl h1))
                · omega
          have HOW := hide owF
          have R2 := hide r2
          clear H f ow viA ow2 k2 r2 bO ek1 vi1 hK1 eL szw vi2 owF viF kF hg2 HG1
          generalize hes : es ++ [(⟨a1, j, c1, M⟩ : En)] ++ [(⟨b2, j + 70, d2, M⟩ : En)] = es' at *
          clear hes
          go_wp2_with (at_builtin; refine wpList_append_run _ rfl _ _ 32 32 rfl _ _ rfl rfl (unhide R2) ?_)
          generalize ((Wb.setCell ⟨O, 0, none⟩ (.slice (some ⟨g2, 0, none⟩) (L + 1 + 1) d3)).setCell ⟨O, 1, none⟩ (.slice a3 n3 c3)).setCell ⟨O, 2, none⟩ (.slice a4 n3 c4) = W5 at *
          have q0 := (unhide HOW).o.cell 0 (.slice (some ⟨g2, 0, none⟩) (L + 1 + 1) d3) rfl
          have qc : L + 1 + 1 ≤ d3 ∧ d3 ≤ 9223372036854775807 := by
            rcases (unhide HOW).row.2 with ⟨e1, e2⟩ | ⟨g, cap, cur, e1, -, -, q3, q4, -⟩
            · omega
            · simp only [Value.slice.injEq] at e1
              unfold maxLen at q4
              omega
          have ENT := hide (fun (i : Nat) (e : En) (he : es'[i]? = some e) => And.intro (OW.entry (by rw [esl]; exact unhide HOW) i e he) ((unhide HOW).ents e (List.mem_of_getElem? he)))
          have HNE := hide esl
          clear HOW z0 z1 z2 th R2 y0 esl
          generalize hN : L + 1 + 1 = N at *
          have nI2 : ¬ (9223372036854775807 : Int) < (N : Int) := by omega
          clear hN
          go_loopw [13] (fun iv wr => ∃ i : Nat, i ≤ N ∧ iv = .int .i64 i ∧ Hid (W5.grownBy wr none)) (fun iv _ => N - (intOf iv).toNat)
          case atStart => exact ⟨0, Nat.zero_le _, rfl, World.grownBy.refl _ _⟩
          case round =>
            obtain ⟨i, hi, rfl, G⟩ := hrel
            have z0 := (unhide G).cell q0 (by simp)
            by_cases hlt : i < N
            · have iN : (i : Int) < (N : Int) := by omega
              obtain ⟨e, he⟩ : ∃ e, es'[i]? = some e := ⟨es'[i]'(by have := unhide HNE; omega), by simp⟩
              obtain ⟨⟨w0, w1⟩, ek⟩ := unhide ENT i e he
              have cap := ek.cap
              have EK := hide ek.at_
              obtain ⟨ea, en, ec, em⟩ := e
              dsimp only at w0 w1 cap
              have nI : ¬ (9223372036854775807 : Int) < (en : Int) := by omega
              have HLI := hide hlt
              clear ek he
              go_wp2_with fail
              clear z0
              go_loopw [14] (fun kv wr => ∃ k : Nat, k ≤ en ∧ kv = .int .i64 k ∧ Hid (W5.grownBy wr none)) (fun kv _ => en - (intOf kv).toNat)
              case atStart => exact ⟨0, Nat.zero_le _, rfl, unhide G⟩
              case round =>
                obtain ⟨k, hk, rfl, G2⟩ := hrel
                have z0 := (unhide G2).cell q0 (by simp)
                have z1 := (unhide G2).cell w0 (by simp)
                have z2 := (unhide G2).cell w1 (by simp)
                by_cases hk2 : k < en
                · have kN : (k : Int) < (en : Int) := by omega
                  obtain ⟨g, rfl, -, -, hc⟩ := (unhide EK).resolve_left (by omega)
                  have z3 := (unhide G2).cell (hc k hk2).1 (by simp)
                  have z4 := (unhide G2).cell (hc k hk2).2 (by simp)
                  have mm : (em != em) = false := by simp
                  have HLK := hide hk2
                  clear hc
                  go_wp2_with fail
                  go_quiet (fail)
                  have E := hide ((unhide G2).trans (show wr.grownBy (wr.drewN nq) none from ⟨rfl, rfl, rfl, Nat.le_refl _, fun _ _ _ => rfl⟩))
                  clear G2 z0 z1 z2 z3 z4
                  go_wp2_with fail
                  first
                    | exact ⟨⟨k + 1, unhide HLK, by go_num, E⟩, by have := unhide HLK; simp [intOf]; omega⟩
                    | (go_roundw
                       case rel => exact ⟨k + 1, unhide HLK, by go_num, E⟩
                       case measure => have := unhide HLK; simp [intOf]; omega)
                · have kN : ¬ (k : Int) < (en : Int) := by omega
                  go_wp2_with fail
                  first
                    | exact ⟨⟨i + 1, unhide HLI, by go_num, G2⟩, by have := unhide HLI; simp [intOf]; omega⟩
                    | (go_roundw
                       case rel => exact ⟨i + 1, unhide HLI, by go_num, G2⟩
                       case measure => have := unhide HLI; simp [intOf]; omega)
            · have iN : ¬ (i : Int) < (N : Int) := by omega
              have E : Hid (TakePost B w V O es (.slice al L cl0) (.slice a1 j c1) (.slice a3 n3 c3) (.slice a4 n3 c4) wr) := by
                obtain ⟨es2, lv2, V2, ow, hl, vi, sub, k⟩ := unhide TP
                have g := unhide G
                exact ⟨es2, lv2, V2, ow.grownN g, hl, vi.grownN g, sub, k.trans (Kp.grown g _)⟩
              clear G TP
              go_wp2_with fail
              go_ret
              exact ⟨rfl, unhide E⟩
end Go.Proofs.Ytielpjdjlmkejaa

namespace Go.Proofs.Ytielpjdjlmkejaa
open Go.RowKit Go.Shelf Go.Maps
set_option linter.unusedVariables false
set_option maxRecDepth 100000
set_option maxHeartbeats 4000000

theorem eq3s (c0 c2 : Int) (W : World) : (Op.equalIn 10000 46 (.agg #[.int .i64 c0, .int .i64 0, .int .i64 c2]) (.agg #[.int .i64 c0, .int .i64 0, .int .i64 c2])).run Try.prog W = .ok true W := by
  obtain ⟨i, hi, -, hz, -⟩ := info_parts Try.infoI
  rw [run_equalIn_array W 9999 _ _ Try.undA hi]
  have hp : ∀ (xs : Array Value) (j : Nat) (v : Value), xs[j]? = some v → (part 2 xs j).run Try.prog W = .ok v W := fun xs j v hv => by
    simp [part, sizeOf, typeInfo, hi, hz, hv]
  simp only [show List.range 3 = [0, 1, 2] from rfl, Op.eqItems, Sem.run_bind, Try.cellsI, Nat.zero_mul, Nat.one_mul, Nat.reduceMul]
  have hq : ∀ a : Int, (Op.equalIn 9999 2 (.int .i64 a) (.int .i64 a)).run Try.prog W = .ok true W := fun a => by
    rw [run_equalIn_int W 9998 2 .i64 .i64 a a Try.undI]; simp
  have e0 := hp #[.int .i64 c0, .int .i64 0, .int .i64 c2] 0 (.int .i64 c0) rfl
  have e1 := hp #[.int .i64 c0, .int .i64 0, .int .i64 c2] 1 (.int .i64 0) rfl
  have e2 := hp #[.int .i64 c0, .int .i64 0, .int .i64 c2] 2 (.int .i64 c2) rfl
  simp [e0, e1, e2, hq]
theorem plain_same (k d c0 c2 : Int) (m : Bool) (v1 v2 : Value) (w : World) : Calls Try.prog 27 #[.agg #[.int .i64 k, .int .i64 0, .int .i64 0, .slice none 0 0, .int .i64 0, .bool false, .bool false, .int .i64 0, .bool false, .int .i64 0, .bool false, .int .i64 d, v1, .bool m, .int .i64 c0, .int .i64 0, .int .i64 c2], .agg #[.int .i64 k, .int .i64 0, .int .i64 0, .slice none 0 0, .int .i64 0, .bool false, .bool false, .int .i64 0, .bool false, .int .i64 0, .bool false, .int .i64 d, v2, .bool m, .int .i64 c0, .int .i64 0, .int .i64 c2]] w fun e w' => e = .returned (.bool true) ∧ w.grownBy w' none := by
  have X := Blk.two w #[.int .i64 k, .int .i64 0, .int .i64 0, .slice none 0 0, .int .i64 0, .bool false, .bool false, .int .i64 0, .bool false, .int .i64 0, .bool false, .int .i64 d, v1, .bool m, .int .i64 c0, .int .i64 0, .int .i64 c2] #[.int .i64 k, .int .i64 0, .int .i64 0, .slice none 0 0, .int .i64 0, .bool false, .bool false, .int .i64 0, .bool false, .int .i64 0, .bool false, .int .i64 d, v2, .bool m, .int .i64 c0, .int .i64 0, .int .i64 c2] 48 48
  have G := hide X.2.2
  have a0 := X.1.cell 0 _ rfl
  have a1 := X.1.cell 1 _ rfl
  have a2 := X.1.cell 2 _ rfl
  have a3 := X.1.cell 3 _ rfl
  have a4 := X.1.cell 4 _ rfl
  have a5 := X.1.cell 5 _ rfl
  have a6 := X.1.cell 6 _ rfl
  have a7 := X.1.cell 7 _ rfl
  have a8 := X.1.cell 8 _ rfl
  have a9 := X.1.cell 9 _ rfl
  have a10 := X.1.cell 10 _ rfl
  have a11 := X.1.cell 11 _ rfl
  have a13 := X.1.cell 13 _ rfl
  have a14 := X.1.cell 14 _ rfl
  have a15 := X.1.cell 15 _ rfl
  have a16 := X.1.cell 16 _ rfl
  have e0 := X.2.1.cell 0 _ rfl
  have e11 := X.2.1.cell 11 _ rfl
  have e13 := X.2.1.cell 13 _ rfl
  have e14 := X.2.1.cell 14 _ rfl
  have e15 := X.2.1.cell 15 _ rfl
  have e16 := X.2.1.cell 16 _ rfl
  clear X
  have q3 := fun W => eq3s c0 c2 W
  go_enter Try.func27, Try.ntmps27
  go_wp2_with fail
  go_ret
  exact ⟨rfl, unhide G⟩
end Go.Proofs.Ytielpjdjlmkejaa

namespace Go.Proofs.Ytielpjdjlmkejaa
open Go.RowKit Go.Shelf Go.Maps
set_option linter.unusedVariables false
set_option maxRecDepth 100000
set_option maxHeartbeats 4000000

/-- A pair, behind k steps at most; all blocks of it are of B and later. -/
structure Pr (B : Nat) (w : World) (k b bs p : Nat) (v : Value) (s : Sn) (a : Option Addr) (n c : Nat) (r : Rn) : Prop where
  sn : SN w b bs v s
  rn : RN w p a n c r
  lk : LkS k s r
  len : r.l.length ≤ k
  new : ∀ g, Mine b bs v g ∨ g = p → B ≤ g
/-- The blocks that are its own. -/
def Fp (b bs p : Nat) (v : Value) (g : Nat) : Prop := Mine b bs v g ∨ g = p
/-- No block of whole numbers is among these. -/
def NoI (w : World) (S : Nat → Prop) : Prop := ∀ g, S g → ∀ c, w.heap[g]? ≠ some (.cells c 2 (0, 0))
theorem NoI.mono {w : World} {S T : Nat → Prop} (h : NoI w T) (hs : ∀ g, S g → T g) : NoI w S := fun g hg => h g (hs g hg)
theorem NoI.or {w : World} {S T : Nat → Prop} (h : NoI w S) (h' : NoI w T) : NoI w (fun g => S g ∨ T g) := fun g hg => hg.elim (h g) (h' g)
theorem noi_blk {w : World} {g : Nat} {cs : Array Value} {t : TypeId} (h : Blk w g cs t) (ht : t ≠ 2) : NoI w (fun x => x = g) := fun x hx c e => by
  subst hx
  have := (show w.heap[x]? = _ from h).symm.trans e
  simp at this
  exact ht this.2
theorem noi_vi {w : World} {V : Nat → Prop} (h : VI w V) : NoI w V := fun g hg c e => by
  obtain ⟨cs, h1⟩ := h g hg
  rw [h1] at e
  simp at e
theorem noi_row {w : World} {B n sz : Nat} {e : TypeId} {v : Value} {xs : List Value} (r : w.ownsRow B e sz v n xs) (he : e ≠ 2) : NoI w (fun g => v.ownBlock = some g) := fun g hg c e2 => by
  rcases r.2 with ⟨rfl, -⟩ | ⟨g', c', cur, rfl, q1, q2, -⟩
  · cases hg
  · cases hg
    rw [q2] at e2
    simp at e2
    exact he e2.2
theorem RN.keepS {w w' : World} {p n c : Nat} {a : Option Addr} {r : Rn} (h : RN w p a n c r) {S : Nat → Prop} (k : Kp S w w') (hp : ¬ S p) (hn : NoI w S) : RN w' p a n c r :=
  ⟨(k.block p h.blk.lt hp).trans h.blk, h.rd.kept (fun g cc hg => k.block g (Array.getElem?_eq_some_iff.1 hg).1 (fun hs => hn g hs cc hg)), h.cap, h.sh⟩
theorem Pr.keep {B : Nat} {w w' : World} {k b bs p n c : Nat} {v : Value} {s : Sn} {a : Option Addr} {r : Rn} (h : Pr B w k b bs p v s a n c r) {S : Nat → Prop} (kp : Kp S w w') (hS : ∀ g, Fp b bs p v g → ¬ S g) (hn : NoI w S) : Pr B w' k b bs p v s a n c r :=
  ⟨h.sn.keep kp (fun g hg => hS g (.inl hg)), h.rn.keepS kp (hS p (.inr rfl)) hn, h.lk, h.len, h.new⟩
theorem kp_grown {w w' : World} (g : w.grownBy w' none) (S : Nat → Prop) : Kp S w w' := ⟨g.os, g.tape, g.output, g.size, fun x hx _ => g.block x hx (by simp)⟩
theorem Pr.grown {B : Nat} {w w' : World} {k b bs p n c : Nat} {v : Value} {s : Sn} {a : Option Addr} {r : Rn} (h : Pr B w k b bs p v s a n c r) (g : w.grownBy w' none) : Pr B w' k b bs p v s a n c r :=
  ⟨h.sn.grown g, h.rn.grown g, h.lk, h.len, h.new⟩
theorem Pr.apart {B : Nat} {w : World} {k b bs p n c : Nat} {v : Value} {s : Sn} {a : Option Addr} {r : Rn} (h : Pr B w k b bs p v s a n c r) : ¬ Mine b bs v p := by
  rintro (e | e | e)
  · have := heap_ne h.sn.blk h.rn.blk (by decide)
    exact this e.symm
  · have := heap_ne h.sn.set.blk h.rn.blk (by decide)
    exact this e.symm
  · exact h.sn.set.row.ne_of h.rn.blk (by decide) e
end Go.Proofs.Ytielpjdjlmkejaa

namespace Go.Proofs.Ytielpjdjlmkejaa
open Go.RowKit Go.Shelf Go.Maps
set_option linter.unusedVariables false
set_option maxRecDepth 100000
set_option maxHeartbeats 4000000

theorem noi_sn {w : World} {b bs : Nat} {v : Value} {s : Sn} (h : SN w b bs v s) : NoI w (Mine b bs v) := by
  rintro g (e | e | e) c
  · exact noi_blk h.blk (by decide) g e c
  · exact noi_blk (show Blk w bs _ _ from h.set.blk) (by decide) g e c
  · exact noi_row h.set.row (by decide) g e c

/-- What a call of both leaves. -/
def PrTo (B k : Nat) (w : World) (b bs p : Nat) (v : Value) (s' : Sn) (r' : Rn) (w' : World) : Prop :=
  ∃ v' a' n' c', Pr B w' k b bs p v' s' a' n' c' r' ∧ (v'.ownBlock = v.ownBlock ∨ Fresh w v') ∧ Kp (Fp b bs p v) w w'

theorem Pr.to1 {B : Nat} {w w1 : World} {k b bs p n c : Nat} {v : Value} {s s' : Sn} {a : Option Addr} {r : Rn} (h : Pr B w k b bs p v s a n c r) (t : To b bs v w s' w1) : RN w1 p a n c r := by
  obtain ⟨v', t1, t2, t3⟩ := t
  exact h.rn.keepS t3 h.apart (noi_sn h.sn)

theorem Pr.to2 {B : Nat} {w w1 w2 : World} {k k' b bs p n c n' c' : Nat} {v : Value} {s s' : Sn} {a a' : Option Addr} {r r' : Rn} (h : Pr B w k b bs p v s a n c r) (hB : B ≤ w.heap.size) (t : To b bs v w s' w1) (h2 : RN w2 p a' n' c' r') (kp : Kp (fun g => g = p) w1 w2) (lk : LkS k' s' r') (len : r'.l.length ≤ k') : PrTo B k' w b bs p v s' r' w2 := by
  obtain ⟨v', t1, t2, t3⟩ := t
  have hp : p < w.heap.size := h.rn.blk.lt
  have hp1 : ¬ Mine b bs v' p := by
    rintro (e | e | e)
    · exact h.apart (.inl e)
    · exact h.apart (.inr (.inl e))
    · rcases t2 with t2 | t2
      · exact h.apart (.inr (.inr (t2 ▸ e)))
      · have := t2 p e; omega
  refine ⟨v', a', n', c', ⟨t1.keep kp (fun g hg e => hp1 (e ▸ hg)), h2, lk, len, ?_⟩, t2, ?_⟩
  · rintro g ((e | e | e) | e)
    · exact h.new g (.inl (.inl e))
    · exact h.new g (.inl (.inr (.inl e)))
    · rcases t2 with t2 | t2
      · exact h.new g (.inl (.inr (.inr (t2 ▸ e))))
      · exact Nat.le_trans hB (t2 g e)
    · exact h.new g (.inr e)
  · exact ⟨kp.os.trans t3.os, kp.tape.trans t3.tape, kp.output.trans t3.output, Nat.le_trans t3.size kp.size, fun g hg hn => by
      rw [kp.block g (Nat.lt_of_lt_of_le hg t3.size) (fun e => hn (.inr e)), t3.block g hg (fun e => hn (.inl e))]⟩

theorem putN_len (x : Int) (l : List Int) : (putF x l).length = l.length + 1 := by
  unfold putF
  have e : (l.takeWhile (fun y => decide (y < x)) ++ l.dropWhile (fun y => decide (y < x))).length = l.length := by rw [List.takeWhile_append_dropWhile]
  simp only [List.length_append, List.length_singleton] at e ⊢
  omega
theorem dropW_len (x : Int) (l : List Int) : (l.dropWhile (fun y => decide (y ≤ x))).length ≤ l.length := by
  have e : (l.takeWhile (fun y => decide (y ≤ x)) ++ l.dropWhile (fun y => decide (y ≤ x))).length = l.length := by rw [List.takeWhile_append_dropWhile]
  simp only [List.length_append] at e
  omega
theorem rkeep_len (x : Int) (r : Rn) : (rkeepF x r).l.length ≤ r.l.length + 1 := by
  have := putN_len x r.l
  unfold rkeepF
  split
  · have h2 := dropW_len ((runsF (putF x r.l)).headD (0, 0)).2 (putF x r.l)
    show (List.dropWhile _ (putF x r.l)).length ≤ _
    omega
  · show (putF x r.l).length ≤ _
    omega
theorem rtake_len (x : Int) (el : Bool) (mark : Int) (r : Rn) : (rtakeF x el mark r).l.length ≤ r.l.length + 1 := by
  have h := rkeep_len x (rpreF x mark r)
  rw [rpreF_l] at h
  unfold rtakeF
  split <;> exact h
theorem rforget_len (x : Int) (r : Rn) : (rforgetF x r).l.length ≤ r.l.length := by
  unfold rforgetF
  split <;> exact dropW_len _ _

theorem LkS.nums {k : Nat} {s : Sn} {r : Rn} (h : LkS k s r) : ∀ y ∈ r.l, 0 ≤ y ∧ y ≤ 4611686018427387903 := fun y hy => by
  have h1 := h.bounds y hy
  have h2 := h.ok.floor
  have h3 := h.ok.large
  omega

def rtookF (now x : Int) (el : Bool) (mark : Int) (r : Rn) : Rn := if rfreshF (rgoF now r) x then rtakeF x el mark (rgoF now r) else rgoF now r

theorem pr_take {B : Nat} {w : World} {k b bs p n c : Nat} {v : Value} {s : Sn} {a : Option Addr} {r : Rn} (h : Pr B w k b bs p v s a n c r) (hB : B ≤ w.heap.size) (hk : k ≤ 1000000000) (now x mark : Int) (el : Bool) :
    Calls Try.prog 13 #[ptr b, .int .i64 now, .int .i64 x, .bool el, .int .i64 mark] w fun e w1 => ∃ z : Bool, e = .returned (.bool z) ∧ Hid (Calls Try.prog 22 #[ptr p, .int .i64 now, .int .i64 x, .bool el, .int .i64 mark] w1 fun e w2 => e = .returned (.bool z) ∧ PrTo B (k + 2) w b bs p v (takeF now x el mark s) (rtookF now x el mark r) w2) := by
  have ok := h.lk.ok
  have hck : r.clock ≤ 1125899906842624 := by have := ok.clock; rw [h.lk.clock]; omega
  have hln := h.len
  rcases lk_take h.lk now x el mark with ⟨f1, f2, lk⟩ | ⟨f1, f2, lk, g1, g2⟩
  · refine (stale_any b bs v s now x mark el w h.sn ok.ok f1).mono ?_
    rintro e w1 ⟨rfl, t⟩
    have t' : To b bs v w (takeF now x el mark s) w1 := by unfold takeF; rw [f1]; exact t
    refine ⟨false, rfl, hide ?_⟩
    refine (rstale_any p n c a r now x mark el w1 (h.to1 t') hck f2).mono ?_
    rintro e w2 ⟨rfl, q1, q2⟩
    refine ⟨rfl, ?_⟩
    unfold rtookF
    rw [if_neg (by rw [f2]; simp)]
    exact h.to2 hB t' q1 q2 lk (by show r.l.length ≤ _; omega)
  · refine (take_any b bs v s now x mark el w h.sn (take_ok ok h.lk.cb (by omega) now x f1) ok.floor.1).mono ?_
    rintro e w1 ⟨rfl, t⟩
    refine ⟨true, by rw [f1], hide ?_⟩
    have g := lk_go h.lk now
    have gk := g.ok
    have e1 := g.waits
    have e2 := gk.clock
    have e3 := gk.delay
    have e4 := gk.large
    have e5 := gk.floor
    have e6 := gk.c0
    have e7 := gk.c2
    have e8 := g.cb
    unfold Cb at e8
    have hrl := h.rn.rd.1
    refine (rtake_any p n c a r now x mark el w1 (h.to1 t) hck (rgoF now r) rfl f2 (by omega) g1 g2 (by omega) (by rw [g.clock]; omega) (by rw [g.delay]; omega) (by rw [g.largest]; omega) (by rw [g.c0]; omega) (by rw [g.c2]; omega)).mono ?_
    rintro e w2 ⟨rfl, ⟨a', n', c', q1⟩, q2⟩
    refine ⟨rfl, ?_⟩
    unfold rtookF
    rw [if_pos f2]
    have hl := rtake_len x el mark (rgoF now r)
    exact h.to2 hB t q1 q2 lk (by have : (rgoF now r).l.length = r.l.length := rfl; omega)

theorem pr_forget {B : Nat} {w : World} {k b bs p n c : Nat} {v : Value} {s : Sn} {a : Option Addr} {r : Rn} (h : Pr B w k b bs p v s a n c r) (hB : B ≤ w.heap.size) (x : Int) :
    Calls Try.prog 18 #[ptr b, .int .i64 x] w fun e w1 => e = .returned (.tuple #[]) ∧ Hid (Calls Try.prog 28 #[ptr p, .int .i64 x] w1 fun e w2 => e = .returned (.tuple #[]) ∧ PrTo B k w b bs p v (forgetF x s) (rforgetF x r) w2) := by
  have ok := h.lk.ok
  refine (forget_any b bs v s x w h.sn ok.ok (by have := ok.large; omega)).mono ?_
  rintro e w1 ⟨rfl, t⟩
  refine ⟨rfl, hide ?_⟩
  refine (rforget_any p n c a r x w1 (h.to1 t)).mono ?_
  rintro e w2 ⟨rfl, ⟨a', n', c', q1⟩, q2⟩
  exact ⟨rfl, h.to2 hB t q1 q2 (lk_forget h.lk x) (Nat.le_trans (rforget_len x r) h.len)⟩

theorem pr_fresh {B : Nat} {w : World} {k b bs p n c : Nat} {v : Value} {s : Sn} {a : Option Addr} {r : Rn} (h : Pr B w k b bs p v s a n c r) (x : Int) :
    Calls Try.prog 12 #[ptr b, .int .i64 x] w fun e w1 => e = .returned (.bool (freshF s x)) ∧ w.grownBy w1 none ∧ Hid (Calls Try.prog 23 #[ptr p, .int .i64 x] w1 fun e w2 => e = .returned (.bool (freshF s x)) ∧ w2 = w1) := by
  have ok := h.lk.ok
  refine (fresh_any b bs v s x w h.sn ok.ok).mono ?_
  rintro e w1 ⟨rfl, g⟩
  refine ⟨rfl, g, hide ?_⟩
  refine (rfresh_any p n c a r x w1 (h.rn.grown g)).mono ?_
  rintro e w2 ⟨rfl, rfl⟩
  exact ⟨by rw [h.lk.fresh x], rfl⟩

/-- Two rows of the same runs, apart from one another, made since w. -/
def Rows (w w' : World) (v1 v2 : Value) (L : List Sp) : Prop := Row w' v1 L ∧ Row w' v2 L ∧ Fresh w v1 ∧ Fresh w v2 ∧ ∀ g, v1.ownBlock = some g → v2.ownBlock ≠ some g

theorem rowS_lt {w : World} {v : Value} {L : List Sp} (h : Row w v L) {g : Nat} (e : v.ownBlock = some g) : g < w.heap.size := by
  rcases Row.at h with ⟨rfl, rfl⟩ | ⟨g', c, sp, rfl, hR⟩
  · cases e
  · cases e
    exact (Array.getElem?_eq_some_iff.1 hR.1).1

theorem pr_runs {B : Nat} {w : World} {k b bs p n c : Nat} {v : Value} {s : Sn} {a : Option Addr} {r : Rn} (h : Pr B w k b bs p v s a n c r) (hk : k ≤ 1000000000) :
    Calls Try.prog 16 #[ptr b] w fun e w1 => ∃ a1 c1, e = .returned (.slice a1 s.L.length c1) ∧ Hid (Calls Try.prog 29 #[ptr p] w1 fun e w2 => ∃ a2 c2, e = .returned (.slice a2 s.L.length c2) ∧ Rows w w2 (.slice a1 s.L.length c1) (.slice a2 s.L.length c2) s.L ∧ w.grownBy w2 none) := by
  have ok := h.lk.ok
  refine (runs_seen b bs v s w h.sn ok.ok).mono ?_
  rintro e w1 ⟨v1, rfl, h1, h2, h3⟩
  obtain ⟨a1, c1, rfl, -⟩ := h1.shape
  refine ⟨a1, c1, rfl, hide ?_⟩
  have hln := h.len
  have hrl := h.rn.rd.1
  refine (rruns_any p n c a r w1 (h.rn.grown h3) h.lk.pw h.lk.nums (by omega)).mono ?_
  rintro e w2 ⟨v2, rfl, q1, q2, q3⟩
  rw [h.lk.runs] at q1
  obtain ⟨a2, c2, rfl, -⟩ := q1.shape
  refine ⟨a2, c2, rfl, ⟨row_kept h1 (fun g e => q3.block g (rowS_lt h1 e) (by simp)), q1, h2, fun g e => Nat.le_trans h3.size (q2 g e), fun g e1 e2 => ?_⟩, grown_trans h3 q3⟩
  have := rowS_lt h1 e1
  have := q2 g e2
  omega
end Go.Proofs.Ytielpjdjlmkejaa

namespace Go.Proofs.Ytielpjdjlmkejaa
open Go.RowKit Go.Shelf
set_option linter.unusedVariables false
set_option maxRecDepth 100000

/-- The row of the set is where it was. -/
structure ToB (b bs : Nat) (v : Value) (w : World) (s' : Sn) (w' : World) : Prop where
  sn : SN w' b bs v s'
  kp : Kp (fun g => g = b) w w'
theorem ToB.to {b bs : Nat} {v : Value} {w w' : World} {s' : Sn} (h : ToB b bs v w s' w') : To b bs v w s' w' := To.of h.sn h.kp

/-- What stands behind the writing. -/
theorem ackT_fin {w Wc : World} {b bs : Nat} {v : Value} {s' : Sn} (rv : Value) (L : List Sp) (cs : Array Value) (hb : Blk Wc w.heap.size fr0 48) (hsn : SN Wc b bs v s') (hml : ∀ g, Mine b bs v g → g < w.heap.size) (hk : Kp (fun g => g = b) w Wc) (row : Row Wc rv L) (hne : ∀ g, rv.ownBlock = some g → w.heap.size < g) :
    Blk (Wc.setRow w.heap.size cs) w.heap.size cs 48 ∧ Row (Wc.setRow w.heap.size cs) rv L ∧ Fresh w rv ∧ ToB b bs v w s' (Wc.setRow w.heap.size cs) :=
  ⟨hb.row cs, row_kept row (fun g e => setRow_other Wc _ g cs (by have := hne g e; omega)), fun g e => Nat.le_of_lt (hne g e),
    ToB.mk (hsn.kept (fun g hg => setRow_other Wc _ g cs (by have := hml g hg; omega)))
      ⟨hk.os, hk.tape, hk.output, by rw [setRow_size]; exact hk.size, fun g hg hn => (setRow_other Wc _ g cs (by omega)).trans (hk.block g hg hn)⟩⟩
end Go.Proofs.Ytielpjdjlmkejaa
