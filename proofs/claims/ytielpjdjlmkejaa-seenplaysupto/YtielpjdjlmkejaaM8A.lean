/- E8A, E8B, ZW, E8P, E8C, ZR, ZX, E8D, E8E, E8F, E8G, E8H, one text. -/
import Derived.Test.YtielpjdjlmkejaaZQ
import Derived.Test.YtielpjdjlmkejaaZP
import Derived.BigQuiet
import Derived.Deep.RegionHeldLaw
import Derived.Laws.StructEq
namespace Go.Proofs.Ytielpjdjlmkejaa
open Go.RowKit
set_option linter.unusedVariables false
set_option maxRecDepth 100000
set_option maxHeartbeats 1000000

/-- What the document's Seen knows: its numbers one by one. -/
structure Rn where
  space : Int
  delay : Int
  clock : Int
  l : List Int
  floor : Int
  largest : Int
  came : Int
  c0 : Int
  c2 : Int
  waits : Int
  due : Int
  any : Bool

def rnc (v : Value) (r : Rn) : Array Value := #[.int .i64 r.space, .int .i64 r.delay, .int .i64 r.clock, v, .int .i64 r.floor, .int .i64 r.largest, .int .i64 r.came, .int .i64 r.c0, .int .i64 0, .int .i64 r.c2, .int .i64 r.waits, .int .i64 r.due, .bool r.any]

/-- A list of numbers that is read. -/
def RdN (w : World) (a : Option Addr) (n : Nat) (l : List Int) : Prop := l.length = n ∧ (l = [] ∨ ∃ (g off : Nat) (cur : Array Value), a = some ⟨g, off, none⟩ ∧ w.heap[g]? = some (.cells cur 2 (0, 0)) ∧ ∀ j x, l[j]? = some x → cur[off + j]? = some (.int .i64 x))

theorem RdN.kept {w w' : World} {a : Option Addr} {n : Nat} {l : List Int} (h : RdN w a n l) (hk : ∀ (g : Nat) (c : Array Value), w.heap[g]? = some (.cells c 2 (0, 0)) → w'.heap[g]? = w.heap[g]?) : RdN w' a n l :=
  ⟨h.1, h.2.imp id fun ⟨g, off, cur, e, hg, hc⟩ => ⟨g, off, cur, e, (hk g cur hg).trans hg, hc⟩⟩

structure RN (w : World) (b : Nat) (a : Option Addr) (n c : Nat) (r : Rn) : Prop where
  blk : Blk w b (rnc (.slice a n c) r) 65
  rd : RdN w a n r.l
  cap : n ≤ c ∧ c ≤ 9223372036854775807
  sh : (a = none ∧ n = 0 ∧ c = 0) ∨ ∃ g off, a = some ⟨g, off, none⟩

theorem RN.cells {w : World} {b n c : Nat} {a : Option Addr} {r : Rn} (h : RN w b a n c r) : w.cell? ⟨b, 3, none⟩ = some (.slice a n c) ∧ w.cell? ⟨b, 4, none⟩ = some (.int .i64 r.floor) ∧ w.cell? ⟨b, 5, none⟩ = some (.int .i64 r.largest) ∧ w.cell? ⟨b, 10, none⟩ = some (.int .i64 r.waits) ∧ w.cell? ⟨b, 11, none⟩ = some (.int .i64 r.due) ∧ w.cell? ⟨b, 12, none⟩ = some (.bool r.any) :=
  ⟨h.blk.cell 3 _ rfl, h.blk.cell 4 _ rfl, h.blk.cell 5 _ rfl, h.blk.cell 10 _ rfl, h.blk.cell 11 _ rfl, h.blk.cell 12 _ rfl⟩

theorem RN.put {w : World} {b n c : Nat} {a : Option Addr} {r r' : Rn} (h : RN w b a n c r) (j : Nat) (x : Value) {a' : Option Addr} {n' c' : Nat} (e : rnc (.slice a' n' c') r' = (rnc (.slice a n c) r).setIfInBounds j x) (hr : RdN w a' n' r'.l) (hc : n' ≤ c' ∧ c' ≤ 9223372036854775807) (hs : (a' = none ∧ n' = 0 ∧ c' = 0) ∨ ∃ g off, a' = some ⟨g, off, none⟩) : RN (w.setCell ⟨b, j, none⟩ x) b a' n' c' r' := by
  refine ⟨by rw [e]; exact h.blk.setC j x, hr.kept (fun g cc hg => set_heap _ _ _ _ _ (fun eq => ?_)), hc, hs⟩
  subst eq
  have := h.blk
  unfold Blk at this
  rw [hg] at this
  cases this

def rn0 (space delay : Int) : Rn := ⟨space, delay, 0, [], -1, -1, 0, 0, 0, 0, never, false⟩

theorem rnew_right (space delay : Int) (w : World) (h : rightF space delay) :
    Calls Try.prog 8 #[.int .i64 space, .int .i64 delay] w fun e w' => e = .returned (.tuple #[ptr w.heap.size, .int .i64 0]) ∧ RN w' w.heap.size none 0 0 (rn0 space delay) ∧ w.grownBy w' none := by
  obtain ⟨h1, h2, h3, h4⟩ := h
  have d1 : decide (space < 0) = false := decide_eq_false (by omega)
  have d2 : decide (2 < space) = false := decide_eq_false (by omega)
  have d3 : decide (delay < 0) = false := decide_eq_false (by omega)
  have d4 : decide (68719476736 < delay) = false := decide_eq_false (by omega)
  go_enter Try.func8, Try.ntmps8
  go_wp2_with fail
  go_ret2
  exact ⟨rfl, ⟨Blk.new _ _ _, ⟨rfl, .inl rfl⟩, by omega, .inl ⟨rfl, rfl, rfl⟩⟩, grown_alloc _ _⟩

theorem rnew_wrong (space delay : Int) (w : World) (h : ¬ rightF space delay) :
    Calls Try.prog 8 #[.int .i64 space, .int .i64 delay] w fun e w' => e = .returned (.tuple #[.pointer none, .int .i64 1]) ∧ w' = w := by
  unfold rightF at h
  by_cases h1 : space < 0
  · have d1 : decide (space < 0) = true := decide_eq_true h1
    go_enter Try.func8, Try.ntmps8
    go_wp2_with fail
    go_ret2
    exact ⟨rfl, rfl⟩
  · have d1 : decide (space < 0) = false := decide_eq_false h1
    by_cases h2 : 2 < space
    · have d2 : decide (2 < space) = true := decide_eq_true h2
      go_enter Try.func8, Try.ntmps8
      go_wp2_with fail
      go_ret2
      exact ⟨rfl, rfl⟩
    · have d2 : decide (2 < space) = false := decide_eq_false h2
      by_cases h3 : delay < 0
      · have d3 : decide (delay < 0) = true := decide_eq_true h3
        go_enter Try.func8, Try.ntmps8
        go_wp2_with fail
        go_ret2
        exact ⟨rfl, rfl⟩
      · have d3 : decide (delay < 0) = false := decide_eq_false h3
        have h4 : 68719476736 < delay := by omega
        have d4 : decide (68719476736 < delay) = true := decide_eq_true h4
        go_enter Try.func8, Try.ntmps8
        go_wp2_with fail
        go_ret2
        exact ⟨rfl, rfl⟩

def rrestF (r : Rn) : Rn := { r with waits := 0, due := never, any := false }
theorem rrest_any (b n c : Nat) (a : Option Addr) (r : Rn) (w : World) (h : RN w b a n c r) :
    Calls Try.prog 48 #[ptr b] w fun e w' => e = .returned (.tuple #[]) ∧ RN w' b a n c (rrestF r) ∧ Kp (fun g => g = b) w w' := by
  have h1 := h.put (r' := { r with waits := 0 }) 10 (.int .i64 0) rfl h.rd h.cap h.sh
  have h2 := h1.put (r' := { r with waits := 0, due := never }) 11 (.int .i64 never) rfl h1.rd h1.cap h1.sh
  have h3 := h2.put (r' := rrestF r) 12 (.bool false) rfl h2.rd h2.cap h2.sh
  have c10 := h.cells.2.2.2.1
  have t10 := h.blk.thaw 10
  have c11 := h1.cells.2.2.2.2.1
  have t11 := h1.blk.thaw 11
  have c12 := h2.cells.2.2.2.2.2
  have t12 := h2.blk.thaw 12
  have F := hide (And.intro h3 (((kp_put w b 10 (.int .i64 0)).trans (kp_put _ b 11 (.int .i64 never))).trans (kp_put _ b 12 (.bool false))))
  clear h h1 h2 h3
  go_enter Try.func48, Try.ntmps48
  go_wp2
  refine bodyPost_end (results_none rfl _ _ _) rfl ?_
  exact ⟨rfl, (unhide F).1, (unhide F).2⟩

theorem rdN_at {w : World} {a : Option Addr} {n : Nat} {l : List Int} (h : RdN w a n l) (k : Nat) (hk : k < n) : ∃ g off, a = some ⟨g, off, none⟩ ∧ w.cell? ⟨g, off + k, none⟩ = some (.int .i64 (l.getD k 0)) := by
  obtain ⟨h1, h2⟩ := h
  rcases h2 with rfl | ⟨g, off, cur, e, hg, hc⟩
  · simp at h1; omega
  · refine ⟨g, off, e, ?_⟩
    have := hc k (l.getD k 0) (by rw [List.getD_eq_getElem?_getD, List.getElem?_eq_getElem (by omega)]; rfl)
    unfold World.cell?
    rw [hg]
    exact this

def rfreshF (r : Rn) (x : Int) : Bool := decide (0 ≤ x) && (decide (x ≤ 4611686018427387903) && (decide (r.floor < x) && !r.l.contains x))

theorem rfresh_any (b n c : Nat) (a : Option Addr) (r : Rn) (x : Int) (w : World) (h : RN w b a n c r) :
    Calls Try.prog 23 #[ptr b, .int .i64 x] w fun e w' => e = .returned (.bool (rfreshF r x)) ∧ w' = w := by
  have c3 := h.cells.1
  have c4 := h.cells.2.1
  have cap := h.cap
  have HRD := hide h.rd
  obtain ⟨m, hm⟩ : ∃ m, m = rfreshF r x := ⟨_, rfl⟩
  rw [← hm]
  have HM := hide hm
  clear h hm
  by_cases h1 : x < 0
  · have d1 : decide (x < 0) = true := decide_eq_true h1
    have E : Hid (m = false) := (unhide HM).trans (by unfold rfreshF; rw [decide_eq_false (by omega)]; rfl)
    go_enter Try.func23, Try.ntmps23
    go_wp2_with fail
    go_ret
    exact ⟨by rw [unhide E]; rfl, rfl⟩
  · have d1 : decide (x < 0) = false := decide_eq_false h1
    by_cases h2 : 4611686018427387903 < x
    · have d2 : decide (4611686018427387903 < x) = true := decide_eq_true h2
      have E : Hid (m = false) := (unhide HM).trans (by unfold rfreshF; rw [decide_eq_true (show 0 ≤ x by omega), decide_eq_false (show ¬ x ≤ 4611686018427387903 by omega)]; rfl)
      go_enter Try.func23, Try.ntmps23
      go_wp2_with fail
      go_ret
      exact ⟨by rw [unhide E]; rfl, rfl⟩
    · have d2 : decide (4611686018427387903 < x) = false := decide_eq_false h2
      by_cases h3 : x ≤ r.floor
      · have d3 : decide (x ≤ r.floor) = true := decide_eq_true h3
        have E : Hid (m = false) := (unhide HM).trans (by unfold rfreshF; rw [decide_eq_true (show 0 ≤ x by omega), decide_eq_true (show x ≤ 4611686018427387903 by omega), decide_eq_false (show ¬ r.floor < x by omega)]; rfl)
        generalize r.floor = fl at *
        go_enter Try.func23, Try.ntmps23
        go_wp2_with fail
        go_ret
        exact ⟨by rw [unhide E]; rfl, rfl⟩
      · have d3 : decide (x ≤ r.floor) = false := decide_eq_false h3
        have E : Hid (m = !r.l.contains x) := (unhide HM).trans (by unfold rfreshF; rw [decide_eq_true (show 0 ≤ x by omega), decide_eq_true (show x ≤ 4611686018427387903 by omega), decide_eq_true (show r.floor < x by omega)]; rfl)
        generalize r.floor = fl at *
        generalize r.l = l at *
        clear HM
        go_enter Try.func23, Try.ntmps23
        go_wp2_with fail
        go_loopw [5] (fun i wr => ∃ k : Nat, k ≤ n ∧ i = .int .i64 k ∧ wr = w ∧ Hid (x ∉ l.take k)) (fun i _ => n - (intOf i).toNat)
        case atStart => exact ⟨0, Nat.zero_le _, rfl, rfl, by simp [Hid]⟩
        case round =>
          obtain ⟨k, hk, rfl, rfl, H⟩ := hrel
          by_cases hlt : k < n
          · obtain ⟨g, off, rfl, y0⟩ := rdN_at (unhide HRD) k hlt
            have kn : (k : Int) < (n : Int) := by omega
            have hkl : k < l.length := by rw [(unhide HRD).1]; exact hlt
            have hst : l.take (k + 1) = l.take k ++ [l.getD k 0] := by rw [List.take_add_one]; simp [List.getD, hkl]
            have hmem : l.getD k 0 ∈ l := by rw [List.getD_eq_getElem?_getD, List.getElem?_eq_getElem hkl]; simp
            generalize l.getD k 0 = y at *
            have HLT := hide hlt
            clear hkl hlt hk
            by_cases hy : y = x
            · have yb : (y == x) = true := by rw [beq_iff_eq]; exact hy
              have E2 : Hid (m = false) := (unhide E).trans (by rw [← hy, List.contains_iff_mem.2 hmem]; rfl)
              clear H hst hmem E hy
              go_wp2_with fail
              go_ret
              exact ⟨by rw [unhide E2]; rfl, rfl⟩
            · have yb : (y == x) = false := by rw [beq_eq_false_iff_ne]; exact hy
              have E2 : Hid (x ∉ l.take (k + 1)) := by
                show x ∉ _
                rw [hst, List.mem_append, List.mem_singleton]
                exact fun c => c.elim (unhide H) (fun e => hy e.symm)
              clear H hst hmem hy
              go_wp2_with fail
              go_roundw
              case rel => exact ⟨k + 1, unhide HLT, by go_num, trivial, E2⟩
              case measure => have := unhide HLT; simp [intOf]; omega
          · obtain rfl : k = n := by omega
            have E2 : Hid (m = true) := (unhide E).trans (by
              have := unhide H
              rw [List.take_of_length_le (by rw [(unhide HRD).1]; omega)] at this
              rw [Bool.not_eq_true', ← Bool.not_eq_true, List.contains_iff_mem]
              exact this)
            have kn : ¬ (k : Int) < (k : Int) := by omega
            clear H E
            go_wp2_with fail
            go_ret
            exact ⟨by rw [unhide E2]; rfl, rfl⟩
end Go.Proofs.Ytielpjdjlmkejaa

namespace Go.Proofs.Ytielpjdjlmkejaa
open Go.RowKit
set_option linter.unusedVariables false
set_option maxRecDepth 100000
set_option maxHeartbeats 1000000

def rdropF (x : Int) (r : Rn) : Rn := { r with l := r.l.dropWhile (fun y => decide (y ≤ x)), floor := max r.floor x }

theorem drop_while {l : List Int} {x : Int} {k : Nat} (h : ∀ j y, j < k → l[j]? = some y → y ≤ x) (he : l.length ≤ k ∨ ∃ y, l[k]? = some y ∧ ¬ y ≤ x) : l.dropWhile (fun y => decide (y ≤ x)) = l.drop k := by
  induction l generalizing k with
  | nil => simp
  | cons a l ih =>
    cases k with
    | zero =>
      rcases he with he | ⟨y, hy, hn⟩
      · simp at he
      · simp at hy
        subst hy
        rw [List.dropWhile_cons, if_neg (by simpa using hn)]
        rfl
    | succ k =>
      have ha := h 0 a (by omega) rfl
      rw [List.dropWhile_cons, if_pos (by simpa using ha), List.drop_succ_cons]
      exact ih (fun j y hj hy => h (j + 1) y (by omega) (by simpa using hy)) (he.imp (fun c => by simp at c; omega) (fun ⟨y, hy, hn⟩ => ⟨y, by simpa using hy, hn⟩))

theorem RdN.drop {w : World} {g off n : Nat} {l : List Int} (h : RdN w (some ⟨g, off, none⟩) n l) (k : Nat) (hk : k ≤ n) : RdN w (some ⟨g, off + k, none⟩) (n - k) (l.drop k) := by
  obtain ⟨h1, h2⟩ := h
  refine ⟨by rw [List.length_drop, h1], ?_⟩
  rcases h2 with rfl | ⟨g', off', cur, e, hg, hc⟩
  · exact .inl (by simp)
  · cases e
    refine .inr ⟨g, off + k, cur, rfl, hg, fun j x hj => ?_⟩
    rw [List.getElem?_drop] at hj
    rw [Nat.add_assoc]
    exact hc (k + j) x hj

theorem rdrop_put {b n c : Nat} {a : Option Addr} {r : Rn} {x : Int} {w : World} (h : RN w b a n c r) {a' : Option Addr} {n' c' : Nat} (hr : RdN w a' n' (r.l.dropWhile (fun y => decide (y ≤ x)))) (hc : n' ≤ c' ∧ c' ≤ 9223372036854775807) (hs : (a' = none ∧ n' = 0 ∧ c' = 0) ∨ ∃ g off, a' = some ⟨g, off, none⟩) :
    ((w.setCell ⟨b, 3, none⟩ (.slice a' n' c')).cell? ⟨b, 4, none⟩ = some (.int .i64 r.floor) ∧ (w.setCell ⟨b, 3, none⟩ (.slice a' n' c')).frozen? ⟨b, 4, none⟩ = false) ∧ (r.floor < x → RN ((w.setCell ⟨b, 3, none⟩ (.slice a' n' c')).setCell ⟨b, 4, none⟩ (.int .i64 x)) b a' n' c' (rdropF x r)) ∧ (¬ r.floor < x → RN (w.setCell ⟨b, 3, none⟩ (.slice a' n' c')) b a' n' c' (rdropF x r)) := by
  have q1 := h.put (r' := { r with l := r.l.dropWhile (fun y => decide (y ≤ x)) }) 3 (.slice a' n' c') rfl hr hc hs
  refine ⟨⟨q1.cells.2.1, q1.blk.thaw 4⟩, fun hf => ?_, fun hf => ?_⟩
  · exact q1.put (r' := rdropF x r) 4 (.int .i64 x) (by simp [rnc, rdropF, show max r.floor x = x by omega]) q1.rd q1.cap q1.sh
  · have e : rdropF x r = { r with l := r.l.dropWhile (fun y => decide (y ≤ x)) } := by unfold rdropF; rw [show max r.floor x = r.floor by omega]
    rw [e]
    exact q1

theorem rdrop_any (b n c : Nat) (a : Option Addr) (r : Rn) (x : Int) (w : World) (h : RN w b a n c r) :
    Calls Try.prog 49 #[ptr b, .int .i64 x] w fun e w' => e = .returned (.tuple #[]) ∧ (∃ a' n' c', RN w' b a' n' c' (rdropF x r)) ∧ Kp (fun g => g = b) w w' := by
  have c3 := h.cells.1
  have t3 := h.blk.thaw 3
  have cap := h.cap
  have HH := hide h
  have HRD := hide h.rd
  have hsh := h.sh
  clear h
  go_enter Try.func49, Try.ntmps49
  go_wp2_with fail
  go_loopw [4] (fun i wr => ∃ k : Nat, k ≤ n ∧ i = .int .i64 k ∧ wr = w ∧ Hid (∀ j y, j < k → r.l[j]? = some y → y ≤ x)) (fun i _ => n - (intOf i).toNat)
  case atStart => exact ⟨0, Nat.zero_le _, rfl, rfl, fun j y hj => absurd hj (Nat.not_lt_zero _)⟩
  case round =>
    obtain ⟨k, hk, rfl, rfl, H⟩ := hrel
    by_cases hgo : ∃ y, r.l[k]? = some y ∧ y ≤ x
    · obtain ⟨y, hy, hyx⟩ := hgo
      have hkl : k < r.l.length := (List.getElem?_eq_some_iff.1 hy).1
      have hlt : k < n := by rw [← (unhide HRD).1]; exact hkl
      obtain ⟨g, off, rfl, y0⟩ := rdN_at (unhide HRD) k hlt
      have ey : r.l.getD k 0 = y := by rw [List.getD_eq_getElem?_getD, hy]; rfl
      rw [ey] at y0
      have kn : (k : Int) < (n : Int) := by omega
      have knd : decide ((k : Int) < (n : Int)) = true := decide_eq_true kn
      have knn : decide (k < n) = true := decide_eq_true hlt
      have dy : decide (y ≤ x) = true := decide_eq_true hyx
      have E : Hid (∀ j z, j < k + 1 → r.l[j]? = some z → z ≤ x) := by
        intro j z hj hz
        by_cases c : j = k
        · subst c; rw [hy] at hz; cases hz; exact hyx
        · exact unhide H j z (by omega) hz
      have HLT := hide hlt
      clear H hy hkl ey
      go_wp2_with fail
      go_roundw
      case rel => exact ⟨k + 1, unhide HLT, by go_num, trivial, E⟩
      case measure => have := unhide HLT; simp [intOf]; omega
    · have hend : r.l.length ≤ k ∨ ∃ y, r.l[k]? = some y ∧ ¬ y ≤ x := by
        by_cases c : k < r.l.length
        · exact .inr ⟨r.l[k], List.getElem?_eq_getElem c, fun hc => hgo ⟨_, List.getElem?_eq_getElem c, hc⟩⟩
        · exact .inl (by omega)
      have hdw := drop_while (unhide H) hend
      have cc : Hid (((decide ((k : Int) < (n : Int)) = false) ∨ ∃ g off y, a = some ⟨g, off, none⟩ ∧ wr.cell? ⟨g, off + k, none⟩ = some (.int .i64 y) ∧ decide (y ≤ x) = false ∧ k < n)) := by
        rcases hend with c | ⟨y, hy, hn⟩
        · exact .inl (decide_eq_false (by have := (unhide HRD).1; omega))
        · have hkl : k < r.l.length := (List.getElem?_eq_some_iff.1 hy).1
          have hlt : k < n := by rw [← (unhide HRD).1]; exact hkl
          obtain ⟨g, off, e, y0⟩ := rdN_at (unhide HRD) k hlt
          have ey : r.l.getD k 0 = y := by rw [List.getD_eq_getElem?_getD, hy]; rfl
          rw [ey] at y0
          exact .inr ⟨g, off, y, e, y0, decide_eq_false hn, hlt⟩
      have kcI : (k : Int) ≤ (n : Int) := by omega
      have HDW := hide hdw
      clear H hgo hend hdw
      rcases hsh with ⟨rfl, rfl, rfl⟩ | ⟨g, off, rfl⟩
      · obtain rfl : k = 0 := by omega
        have L0 : r.l = [] := List.length_eq_zero_iff.1 (unhide HRD).1
        have PP := rdrop_put (unhide HH) (x := x) (a' := none) (n' := 0) (c' := 0) ⟨by rw [L0]; rfl, .inl (by rw [L0]; rfl)⟩ (by omega) (.inl ⟨rfl, rfl, rfl⟩)
        clear HH HRD cc HDW L0
        obtain ⟨⟨c4, t4⟩, P1, P2⟩ := PP
        have PH := hide (And.intro P1 P2)
        clear P1 P2
        generalize r.floor = fl at *
        by_cases hf : fl < x
        · have hfd : decide (fl < x) = true := decide_eq_true hf
          have F := hide ((unhide PH).1 hf)
          clear PH
          go_wp2_with fail
          refine bodyPost_end (results_none rfl _ _ _) rfl ?_
          exact ⟨rfl, ⟨_, _, _, unhide F⟩, (kp_put _ b 3 _).trans (kp_put _ b 4 _)⟩
        · have hfd : decide (fl < x) = false := decide_eq_false hf
          have F := hide ((unhide PH).2 hf)
          clear PH
          go_wp2_with fail
          refine bodyPost_end (results_none rfl _ _ _) rfl ?_
          exact ⟨rfl, ⟨_, _, _, unhide F⟩, kp_put _ b 3 _⟩
      · by_cases hck : c = k
        · have en : n = k := by omega
          subst hck
          subst en
          have PP := rdrop_put (unhide HH) (x := x) (a' := some ⟨g, off, none⟩) (n' := 0) (c' := 0) (by rw [unhide HDW, List.drop_eq_nil_of_le (by have := (unhide HRD).1; omega)]; exact ⟨rfl, .inl rfl⟩) (by omega) (.inr ⟨g, off, rfl⟩)
          have kn : ¬ (n : Int) < (n : Int) := by omega
          clear HH HRD cc HDW
          obtain ⟨⟨c4, t4⟩, P1, P2⟩ := PP
          have PH := hide (And.intro P1 P2)
          clear P1 P2
          generalize r.floor = fl at *
          by_cases hf : fl < x
          · have hfd : decide (fl < x) = true := decide_eq_true hf
            have F := hide ((unhide PH).1 hf)
            clear PH
            go_wp2_with fail
            refine bodyPost_end (results_none rfl _ _ _) rfl ?_
            exact ⟨rfl, ⟨_, _, _, unhide F⟩, (kp_put _ b 3 _).trans (kp_put _ b 4 _)⟩
          · have hfd : decide (fl < x) = false := decide_eq_false hf
            have F := hide ((unhide PH).2 hf)
            clear PH
            go_wp2_with fail
            refine bodyPost_end (results_none rfl _ _ _) rfl ?_
            exact ⟨rfl, ⟨_, _, _, unhide F⟩, kp_put _ b 3 _⟩
        · have PP := rdrop_put (unhide HH) (x := x) (a' := some ⟨g, off + k, none⟩) (n' := n - k) (c' := c - k) (by rw [unhide HDW]; exact (unhide HRD).drop k hk) (by omega) (.inr ⟨g, off + k, rfl⟩)
          rcases unhide cc with kd | ⟨g', off', y, e, y0, dy, hlt⟩
          · have kn : ¬ (k : Int) < (n : Int) := by simpa using kd
            clear HH HRD cc HDW kd
            obtain ⟨⟨c4, t4⟩, P1, P2⟩ := PP
            have PH := hide (And.intro P1 P2)
            clear P1 P2
            generalize r.floor = fl at *
            by_cases hf : fl < x
            · have hfd : decide (fl < x) = true := decide_eq_true hf
              have F := hide ((unhide PH).1 hf)
              clear PH
              go_wp2_with fail
              refine bodyPost_end (results_none rfl _ _ _) rfl ?_
              exact ⟨rfl, ⟨_, _, _, unhide F⟩, (kp_put _ b 3 _).trans (kp_put _ b 4 _)⟩
            · have hfd : decide (fl < x) = false := decide_eq_false hf
              have F := hide ((unhide PH).2 hf)
              clear PH
              go_wp2_with fail
              refine bodyPost_end (results_none rfl _ _ _) rfl ?_
              exact ⟨rfl, ⟨_, _, _, unhide F⟩, kp_put _ b 3 _⟩
          · cases e
            have kn : (k : Int) < (n : Int) := by omega
            have knd : decide ((k : Int) < (n : Int)) = true := decide_eq_true kn
            have knn : decide (k < n) = true := decide_eq_true hlt
            clear HH HRD cc HDW
            obtain ⟨⟨c4, t4⟩, P1, P2⟩ := PP
            have PH := hide (And.intro P1 P2)
            clear P1 P2
            generalize r.floor = fl at *
            by_cases hf : fl < x
            · have hfd : decide (fl < x) = true := decide_eq_true hf
              have F := hide ((unhide PH).1 hf)
              clear PH
              go_wp2_with fail
              refine bodyPost_end (results_none rfl _ _ _) rfl ?_
              exact ⟨rfl, ⟨_, _, _, unhide F⟩, (kp_put _ b 3 _).trans (kp_put _ b 4 _)⟩
            · have hfd : decide (fl < x) = false := decide_eq_false hf
              have F := hide ((unhide PH).2 hf)
              clear PH
              go_wp2_with fail
              refine bodyPost_end (results_none rfl _ _ _) rfl ?_
              exact ⟨rfl, ⟨_, _, _, unhide F⟩, kp_put _ b 3 _⟩

def rforgetF (x : Int) (r : Rn) : Rn := if (rdropF (min x r.largest) r).l = [] then rrestF (rdropF (min x r.largest) r) else rdropF (min x r.largest) r

theorem rforget_any (b n c : Nat) (a : Option Addr) (r : Rn) (x : Int) (w : World) (h : RN w b a n c r) :
    Calls Try.prog 28 #[ptr b, .int .i64 x] w fun e w' => e = .returned (.tuple #[]) ∧ (∃ a' n' c', RN w' b a' n' c' (rforgetF x r)) ∧ Kp (fun g => g = b) w w' := by
  have c5 := h.cells.2.2.1
  obtain ⟨m, hm⟩ : ∃ m, m = min x r.largest := ⟨_, rfl⟩
  have hd := rdrop_any b n c a r m w h
  have S : Hid (rforgetF x r = if (rdropF m r).l = [] then rrestF (rdropF m r) else rdropF m r) := by rw [hm]; rfl
  generalize rforgetF x r = r' at *
  generalize rdropF m r = r1 at *
  have H := hide hm
  clear h hm
  generalize r.largest = l at *
  by_cases hc : l < x
  all_goals
    have hx : min x l = m := by have := unhide H; omega
    clear H
    go_enter Try.func28, Try.ntmps28
    go_wp2_with fail
  all_goals
    first
      | (have hm2 : l = m := by omega)
      | (have hm2 : x = m := by omega)
  all_goals
    rw [hm2]
    refine hd.mono ?_
    rintro e W ⟨rfl, ⟨a1, n1, c1, h1⟩, k1⟩
    have c3 := h1.cells.1
    have T := hide (And.intro h1 k1)
    have hn := h1.rd.1
    clear hd h1 k1 c5
    by_cases hnil : r1.l = []
    · have S' := hide ((unhide S).trans (if_pos hnil))
      have hre := rrest_any b n1 c1 a1 r1 W (unhide T).1
      have h0 : n1 = 0 := by rw [← hn, hnil]; rfl
      subst h0
      clear S hnil hn
      go_wp2_with fail
      refine hre.mono ?_
      rintro e W2 ⟨rfl, h2, k2⟩
      have Z := hide (And.intro h2 k2)
      clear hre h2 k2
      go_wp2_with fail
      refine bodyPost_end (results_none rfl _ _ _) rfl ?_
      refine ⟨rfl, ⟨a1, 0, c1, ?_⟩, (unhide T).2.trans (unhide Z).2⟩
      rw [unhide S']
      exact (unhide Z).1
    · have S' := hide ((unhide S).trans (if_neg hnil))
      have h0 : 0 < n1 := by rw [← hn]; exact List.length_pos_iff.2 hnil
      have h0b : ((n1 : Int) == 0) = false := by rw [beq_eq_false_iff_ne]; omega
      clear S hnil hn
      go_wp2_with fail
      refine bodyPost_end (results_none rfl _ _ _) rfl ?_
      refine ⟨rfl, ⟨a1, n1, c1, ?_⟩, (unhide T).2⟩
      rw [unhide S']
      exact (unhide T).1
end Go.Proofs.Ytielpjdjlmkejaa

namespace Go.Proofs.Ytielpjdjlmkejaa
set_option linter.unusedVariables false
set_option maxRecDepth 100000

theorem memB_iff {x : Int} {L : List Sp} : memB x L = true ↔ ∃ s ∈ L, s.1 ≤ x ∧ x ≤ s.2 := by
  unfold memB
  rw [List.any_eq_true]
  simp only [Bool.and_eq_true, decide_eq_true_eq]

theorem good_ext {mn mx : Int} {A B : List Sp} (hA : Good mn mx A) (hB : Good mn mx B) (h : ∀ x, memB x A = true ↔ memB x B = true) : A = B := by
  induction A generalizing mn B with
  | nil =>
    cases B with
    | nil => rfl
    | cons t B =>
      have := (h t.1).2 (memB_true (s := t) (by simp) (Int.le_refl _) hB.2.1)
      simp [memB] at this
  | cons s A ih =>
    cases B with
    | nil =>
      have := (h s.1).1 (memB_true (s := s) (by simp) (Int.le_refl _) hA.2.1)
      simp [memB] at this
    | cons t B =>
      have inA : ∀ x, memB x (s :: A) = true → s.1 ≤ x ∧ (x ≤ s.2 ∨ s.2 + 2 ≤ x) := fun x hx => by
        obtain ⟨u, hu, h1, h2⟩ := memB_iff.1 hx
        rcases List.mem_cons.1 hu with rfl | hu
        · exact ⟨h1, .inl h2⟩
        · have := hA.2.2.2.mem hu; have := hA.2.1; omega
      have inB : ∀ x, memB x (t :: B) = true → t.1 ≤ x ∧ (x ≤ t.2 ∨ t.2 + 2 ≤ x) := fun x hx => by
        obtain ⟨u, hu, h1, h2⟩ := memB_iff.1 hx
        rcases List.mem_cons.1 hu with rfl | hu
        · exact ⟨h1, .inl h2⟩
        · have := hB.2.2.2.mem hu; have := hB.2.1; omega
      have e1 := (inB s.1 ((h s.1).1 (memB_true (s := s) (by simp) (Int.le_refl _) hA.2.1))).1
      have e2 := (inA t.1 ((h t.1).2 (memB_true (s := t) (by simp) (Int.le_refl _) hB.2.1))).1
      have e3 : s.2 = t.2 := by
        rcases Int.lt_trichotomy s.2 t.2 with hl | hl | hl
        · have := (inA (s.2 + 1) ((h (s.2 + 1)).2 (memB_true (s := t) (by simp) (by have := hA.2.1; omega) (by omega)))).2
          omega
        · exact hl
        · have := (inB (t.2 + 1) ((h (t.2 + 1)).1 (memB_true (s := s) (by simp) (by have := hB.2.1; omega) (by omega)))).2
          omega
      have e : s = t := Prod.ext (by omega) e3
      subst e
      have := ih (mn := s.2 + 2) hA.2.2.2 hB.2.2.2 (fun x => by
        constructor
        · intro hx
          obtain ⟨u, hu, h1, h2⟩ := memB_iff.1 hx
          have k := hA.2.2.2.mem hu
          obtain ⟨v, hv, h3, h4⟩ := memB_iff.1 ((h x).1 (memB_true (s := u) (by simp [hu]) h1 h2))
          rcases List.mem_cons.1 hv with rfl | hv
          · omega
          · exact memB_true hv h3 h4
        · intro hx
          obtain ⟨u, hu, h1, h2⟩ := memB_iff.1 hx
          have k := hB.2.2.2.mem hu
          obtain ⟨v, hv, h3, h4⟩ := memB_iff.1 ((h x).2 (memB_true (s := u) (by simp [hu]) h1 h2))
          rcases List.mem_cons.1 hv with rfl | hv
          · omega
          · exact memB_true hv h3 h4)
      rw [this]

theorem getLastD_cons (m m' : Sp) (M : List Sp) : (m' :: M).getLastD m = M.getLastD m' := by cases M <;> rfl

theorem grown_mem {k mx lo hi x : Int} {m : Sp} {M : List Sp} (h : Good k mx (m :: M)) (hlh : lo ≤ hi) (hM : ∀ s ∈ m :: M, lo - 1 ≤ s.2 ∧ s.1 ≤ hi + 1) :
    (min lo m.1 ≤ x ∧ x ≤ max hi (M.getLastD m).2) ↔ (memB x (m :: M) = true ∨ (lo ≤ x ∧ x ≤ hi)) := by
  induction M generalizing m k with
  | nil =>
    have := hM m (by simp)
    have := h.2.1
    have e : memB x [m] = true ↔ m.1 ≤ x ∧ x ≤ m.2 := by rw [memB_iff]; simp
    rw [e]
    simp only [List.getLastD]
    omega
  | cons m' M ih =>
    have h1 := hM m (by simp)
    have h2 := h.2.1
    have h3 := h.2.2.2
    have h4 := h3.1
    have h5 := h3.2.1
    have i := ih (m := m') h3 (fun s hs => hM s (by simp at hs; simp [hs]))
    have e : memB x (m :: m' :: M) = true ↔ (m.1 ≤ x ∧ x ≤ m.2) ∨ memB x (m' :: M) = true := by
      rw [memB_iff, memB_iff]
      simp
    have hl : m'.1 ≤ (M.getLastD m').2 := by
      cases M with
      | nil => exact h5
      | cons u M =>
        have hmem : (u :: M).getLastD m' ∈ m' :: u :: M := by
          have := getLastD_mem (M := u :: M) (by simp) m'
          exact List.mem_cons_of_mem _ this
        have := h3.mem hmem
        rcases List.mem_cons.1 hmem with hq | hq
        · rw [hq]; exact h5
        · have := h3.2.2.2.mem hq; omega
    rw [e, getLastD_cons]
    have hmin : min lo m'.1 = lo := Int.min_eq_left (by omega)
    rw [hmin] at i
    generalize (M.getLastD m').2 = z at *
    by_cases hmm : memB x (m' :: M) = true
    · have := i.2 (.inl hmm)
      simp only [hmm, or_true, true_or, iff_true]
      omega
    · have hi2 : (lo ≤ x ∧ x ≤ max hi z) ↔ (lo ≤ x ∧ x ≤ hi) := by rw [i]; simp [hmm]
      have e3 : (((m.1 ≤ x ∧ x ≤ m.2) ∨ memB x (m' :: M) = true) ∨ (lo ≤ x ∧ x ≤ hi)) ↔ ((m.1 ≤ x ∧ x ≤ m.2) ∨ (lo ≤ x ∧ x ≤ hi)) := by simp [hmm]
      rw [e3]
      clear e3 hmm i e ih
      omega

theorem memB_append (x : Int) (A B : List Sp) : memB x (A ++ B) = true ↔ memB x A = true ∨ memB x B = true := by
  unfold memB; rw [List.any_append, Bool.or_eq_true]

theorem memB_addS {L : List Sp} {lo hi : Int} (h : Good (-9223372036854775808) 9223372036854775807 L) (x : Int) : memB x (addS 0 lo hi L) = true ↔ memB x L = true ∨ (lo ≤ x ∧ x ≤ hi) := by
  unfold addS
  by_cases hlh : hi < lo
  · rw [if_pos hlh]
    constructor
    · exact .inl
    · rintro (h | h)
      · exact h
      · omega
  · rw [if_neg hlh, bound0]
    obtain ⟨A, M, D, rfl, hA, hM, hD⟩ := split3 (lo - 1) (hi + 1) h (by omega)
    rw [addF_split h (by omega) hA hM hD, memB_append, memB_append, memB_append, memB_append]
    have e : memB x [grownF lo hi M] = true ↔ memB x M = true ∨ (lo ≤ x ∧ x ≤ hi) := by
      cases M with
      | nil =>
        simp [memB, grownF]
      | cons m M =>
        rw [← grown_mem (h.right.left) (by omega) hM, memB_iff]
        simp [grownF]
    rw [e]
    constructor
    · rintro (h | (h | h) | h)
      · exact .inl (.inl h)
      · exact .inl (.inr (.inl h))
      · exact .inr h
      · exact .inl (.inr (.inr h))
    · rintro ((h | h | h) | h)
      · exact .inl h
      · exact .inr (.inl (.inl h))
      · exact .inr (.inr h)
      · exact .inr (.inl (.inr h))


theorem memB_cut {mn mx f : Int} {L : List Sp} (h : Good mn mx L) (h0 : 0 ≤ mn) (x : Int) : memB x (cutS 0 0 f L) = true ↔ memB x L = true ∧ f < x := by
  unfold cutS
  by_cases hf : f < 0
  · rw [if_pos hf]
    constructor
    · intro hx
      obtain ⟨s, hs, h1, h2⟩ := memB_iff.1 hx
      have := h.mem hs
      exact ⟨hx, by omega⟩
    · exact fun hx => hx.1
  · rw [if_neg hf, bound0]
    obtain ⟨A, M, D, rfl, hA, hM, hD⟩ := split3 0 f h (by omega)
    rw [cutF_split h (by omega) hA hM hD]
    have eA : A = [] := by
      cases A with
      | nil => rfl
      | cons a A => have := hA a (by simp); have := h.1; have := h.2.1; omega
    subst eA
    simp only [List.nil_append] at *
    rw [memB_append, memB_append]
    have eD : memB x D = true → f < x := fun hx => by
      obtain ⟨s, hs, h1, h2⟩ := memB_iff.1 hx
      have := hD s hs
      omega
    cases M with
    | nil =>
      have e0 : memB x (restF 0 f []) = true ↔ False := by simp [restF, memB]
      have e1 : memB x ([] : List Sp) = true ↔ False := by simp [memB]
      rw [e0, e1]
      exact ⟨fun h => h.elim False.elim (fun h => ⟨.inr h, eD h⟩), fun h => h.1.elim False.elim .inr⟩
    | cons m M =>
      have hm := h.left.mem (s := m) (by simp)
      have hl := h.left.mem (last_mem m M)
      have hlm := hM _ (last_mem m M)
      have key : f < x → (memB x (m :: M) = true ↔ x ≤ (M.getLastD m).2) := fun hx => by
        constructor
        · intro hb
          obtain ⟨s, hs, h1, h2⟩ := memB_iff.1 hb
          have : ∀ (M : List Sp) (k : Int) (m s : Sp), Good k mx (m :: M) → s ∈ m :: M → s.2 ≤ (M.getLastD m).2 := by
            intro M
            induction M with
            | nil => intro k m s hg hs; simp at hs; subst hs; exact Int.le_refl _
            | cons a M ih =>
              intro k m s hg hs
              rw [List.getLastD_cons]
              rcases List.mem_cons.1 hs with rfl | hs
              · have e1 := ih _ a a hg.2.2.2 (by simp)
                have e2 := hg.2.2.2.1
                have e3 := hg.2.2.2.2.1
                omega
              · exact ih _ a s hg.2.2.2 hs
          have := this M mn m s h.left hs
          omega
        · intro hx2
          exact memB_iff.2 ⟨_, last_mem m M, by omega, hx2⟩
      simp only [restF]
      rw [if_neg (by omega), List.nil_append]
      by_cases hc : f < (M.getLastD m).2
      · rw [if_pos hc]
        have e1 : memB x [(f + 1, (M.getLastD m).2)] = true ↔ f < x ∧ x ≤ (M.getLastD m).2 := by
          rw [memB_iff]
          constructor
          · rintro ⟨s, hs, h1, h2⟩
            rw [List.mem_singleton] at hs
            subst hs
            exact ⟨by have : f + 1 ≤ x := h1; omega, h2⟩
          · rintro ⟨h1, h2⟩
            exact ⟨(f + 1, (M.getLastD m).2), List.mem_singleton.2 rfl, by show f + 1 ≤ x; omega, h2⟩
        rw [e1]
        constructor
        · rintro (⟨h1, h2⟩ | h1)
          · exact ⟨.inl ((key h1).2 h2), h1⟩
          · exact ⟨.inr h1, eD h1⟩
        · rintro ⟨h1 | h1, h2⟩
          · exact .inl ⟨h2, (key h2).1 h1⟩
          · exact .inr h1
      · rw [if_neg hc]
        constructor
        · rintro (h1 | h1)
          · simp [memB] at h1
          · exact ⟨.inr h1, eD h1⟩
        · rintro ⟨h1 | h1, h2⟩
          · have := (key h2).1 h1; omega
          · exact .inr h1

/-- How many of a row lie between two numbers, where all do that can. -/
theorem in_count (T : List Int) (hT : T.Nodup) (a : Int) : ∀ n : Nat, (∀ x, a ≤ x → x < a + n → x ∈ T) → (T.filter fun x => decide (a ≤ x) && decide (x < a + n)).length = n
  | 0, _ => by
    rw [List.filter_eq_nil_iff.2 (fun x _ => by simp)]
    rfl
  | n + 1, h => by
    have ih := in_count T hT a n (fun x h1 h2 => h x h1 (by omega))
    have hm : a + n ∈ T := h _ (by omega) (by omega)
    have key : ∀ (T : List Int), T.Nodup → (T.filter fun x => decide (a ≤ x) && decide (x < a + ((n + 1 : Nat) : Int))).length = (T.filter fun x => decide (a ≤ x) && decide (x < a + (n : Int))).length + (if a + n ∈ T then 1 else 0) := by
      intro T
      induction T with
      | nil => intro _; rfl
      | cons y T iy =>
        intro hd
        rw [List.nodup_cons] at hd
        have e := iy hd.2
        by_cases c : y = a + n
        · subst c
          have n1 : ¬ (a + (n : Int) ∈ T) := hd.1
          rw [if_neg n1] at e
          rw [List.filter_cons_of_pos (by simp; omega), List.filter_cons_of_neg (by simp), if_pos (by simp), List.length_cons, e]
        · have e2 : (a + (n : Int) ∈ y :: T) ↔ (a + (n : Int) ∈ T) := by
            rw [List.mem_cons]
            exact ⟨fun h => h.resolve_left (fun q => c q.symm), .inr⟩
          by_cases c2 : a ≤ y ∧ y < a + n
          · rw [List.filter_cons_of_pos (by simp; omega), List.filter_cons_of_pos (by simp; omega), List.length_cons, List.length_cons, e]
            simp only [e2]
            omega
          · rw [List.filter_cons_of_neg (by simp; omega), List.filter_cons_of_neg (by simp; omega), e]
            simp only [e2]
    rw [key T hT, ih, if_pos hm]

/-- Runs hold as many numbers as a row that holds just them. -/
theorem cnt_row {mn mx : Int} {L : List Sp} (h : Good mn mx L) (T : List Int) (hT : T.Nodup) (hm : ∀ x, memB x L = true → x ∈ T) : cnt L = ((T.filter fun x => memB x L).length : Int) := by
  induction L generalizing mn with
  | nil =>
    have e : (T.filter fun x => memB x []) = [] := List.filter_eq_nil_iff.2 (fun x _ => by simp [memB])
    rw [e]
    rfl
  | cons s L ih =>
    have i := ih h.2.2.2 (fun x hx => hm x (by rw [memB_iff] at *; obtain ⟨t, ht, r⟩ := hx; exact ⟨t, by simp [ht], r⟩))
    have h2 := h.2.1
    have hc := in_count T hT s.1 (s.2 - s.1 + 1).toNat (fun x h3 h4 => hm x (memB_iff.2 ⟨s, by simp, h3, by omega⟩))
    have dis : ∀ x, memB x L = true → s.2 < x := fun x hx => by
      obtain ⟨t, ht, r1, r2⟩ := memB_iff.1 hx
      have := (show Good (s.2 + 2) mx L from h.2.2.2).mem ht
      omega
    have split : ∀ T : List Int, (T.filter fun x => memB x (s :: L)).length = (T.filter fun x => decide (s.1 ≤ x) && decide (x < s.1 + ((s.2 - s.1 + 1).toNat : Int))).length + (T.filter fun x => memB x L).length := by
      intro T
      induction T with
      | nil => rfl
      | cons y T iy =>
        have e : memB y (s :: L) = ((decide (s.1 ≤ y) && decide (y ≤ s.2)) || memB y L) := rfl
        by_cases c : s.1 ≤ y ∧ y ≤ s.2
        · have n1 : memB y L = false := by
            cases hb : memB y L with
            | false => rfl
            | true => have := dis y hb; omega
          rw [List.filter_cons_of_pos (by rw [e]; simp [c]), List.filter_cons_of_pos (by simp; omega), List.filter_cons_of_neg (by simp [n1]), List.length_cons, List.length_cons, iy]
          omega
        · have e' : memB y (s :: L) = memB y L := by
            rw [e]
            have : (decide (s.1 ≤ y) && decide (y ≤ s.2)) = false := by
              rw [Bool.and_eq_false_iff]
              by_cases c1 : s.1 ≤ y
              · right; simp; omega
              · left; simp; omega
            rw [this, Bool.false_or]
          cases hb : memB y L with
          | true => rw [List.filter_cons_of_pos (by rw [e', hb]), List.filter_cons_of_neg (by simp; omega), List.filter_cons_of_pos (by rw [hb]), List.length_cons, List.length_cons, iy]; omega
          | false => rw [List.filter_cons_of_neg (by simp [e', hb]), List.filter_cons_of_neg (by simp; omega), List.filter_cons_of_neg (by simp [hb]), iy]
    rw [split T, hc]
    simp only [cnt]
    omega
end Go.Proofs.Ytielpjdjlmkejaa

namespace Go.Proofs.Ytielpjdjlmkejaa
set_option linter.unusedVariables false
set_option maxRecDepth 100000

/-- One number more, behind the others. -/
def pushR (out : List Sp) (y : Int) : List Sp := if out ≠ [] ∧ (out.getLastD (0, 0)).2 + 1 = y then out.dropLast ++ [((out.getLastD (0, 0)).1, y)] else out ++ [(y, y)]
def runsF (l : List Int) : List Sp := l.foldl pushR []

theorem good_last {mn mx a b y : Int} {A : List Sp} (h : Good mn mx (A ++ [(a, b)])) (h1 : b ≤ y) (h2 : y ≤ mx) : Good mn mx (A ++ [(a, y)]) := by
  induction A generalizing mn with
  | nil => exact ⟨h.1, by have : a ≤ b := h.2.1; show a ≤ y; omega, h2, trivial⟩
  | cons s A ih => exact ⟨h.1, h.2.1, h.2.2.1, ih h.2.2.2⟩

theorem good_le_last {mn mx : Int} {A : List Sp} {t : Sp} (h : Good mn mx (A ++ [t])) : ∀ s ∈ A ++ [t], s.2 ≤ t.2 := by
  intro s hs
  rcases List.mem_append.1 hs with hs | hs
  · have := h.mid hs (t := t) (by simp)
    have := h.right.mem (s := t) (by simp)
    omega
  · rw [List.mem_singleton] at hs; subst hs; exact Int.le_refl _

theorem push_ok {mn mx : Int} {out : List Sp} (h : Good mn mx out) {y : Int} (hy : ∀ s ∈ out, s.2 < y) (h1 : mn ≤ y) (h2 : y ≤ mx) :
    Good mn mx (pushR out y) ∧ (∀ x, memB x (pushR out y) = true ↔ memB x out = true ∨ x = y) ∧ (∀ s ∈ pushR out y, s.2 ≤ y) ∧ pushR out y ≠ [] := by
  rcases (show out = [] ∨ ∃ A t, out = A ++ [t] from (List.eq_nil_or_concat out).imp id (fun ⟨A, t, e⟩ => ⟨A, t, by rw [e, List.concat_eq_append]⟩)) with rfl | ⟨A, t, rfl⟩
  · unfold pushR
    rw [if_neg (by simp)]
    refine ⟨⟨h1, Int.le_refl _, h2, trivial⟩, fun x => ?_, fun s hs => ?_, by simp⟩
    · simp only [memB, List.nil_append, List.any_cons, List.any_nil, Bool.or_false, Bool.and_eq_true, decide_eq_true_eq]
      constructor
      · rintro ⟨a, b⟩; exact .inr (by omega)
      · rintro (a | a)
        · cases a
        · omega
    · simp at hs; subst hs; exact Int.le_refl _
  · have el : (A ++ [t]).getLastD (0, 0) = t := by simp
    have ed : (A ++ [t]).dropLast = A := by simp
    have ht := hy t (by simp)
    have htm := h.right.mem (s := t) (by simp)
    have hle := good_le_last h
    unfold pushR
    rw [el, ed]
    by_cases c : t.2 + 1 = y
    · rw [if_pos ⟨by simp, c⟩]
      have h' : Good mn mx (A ++ [(t.1, t.2)]) := h
      refine ⟨good_last h' (by omega) h2, fun x => ?_, fun s hs => ?_, by simp⟩
      · rw [memB_append, memB_append]
        have e1 : memB x [(t.1, y)] = true ↔ t.1 ≤ x ∧ x ≤ y := by rw [memB_iff]; simp
        have e2 : memB x [t] = true ↔ t.1 ≤ x ∧ x ≤ t.2 := by rw [memB_iff]; simp
        rw [e1, e2]
        constructor
        · rintro (a | ⟨a, b⟩)
          · exact .inl (.inl a)
          · by_cases d : x = y
            · exact .inr d
            · exact .inl (.inr ⟨a, by omega⟩)
        · rintro ((a | ⟨a, b⟩) | a)
          · exact .inl a
          · exact .inr ⟨a, by omega⟩
          · exact .inr ⟨by omega, by omega⟩
      · rcases List.mem_append.1 hs with hs | hs
        · have := hy s (by simp [hs]); omega
        · rw [List.mem_singleton] at hs; subst hs; exact Int.le_refl _
    · rw [if_neg (fun q => c q.2)]
      refine ⟨h.join (fun s hs => by have := hle s hs; omega) h1 ⟨Int.le_refl _, Int.le_refl _, h2, trivial⟩, fun x => ?_, fun s hs => ?_, by simp⟩
      · rw [memB_append]
        have e1 : memB x [(y, y)] = true ↔ x = y := by
          rw [memB_iff]
          simp only [List.mem_singleton, exists_eq_left]
          omega
        rw [e1]
      · rcases List.mem_append.1 hs with hs | hs
        · have := hy s hs; omega
        · rw [List.mem_singleton] at hs; subst hs; exact Int.le_refl _

theorem runs_fold {mn mx : Int} : ∀ (l : List Int) (out : List Sp), Good mn mx out → l.Pairwise (· < ·) → (∀ y ∈ l, mn ≤ y ∧ y ≤ mx ∧ ∀ s ∈ out, s.2 < y) → Good mn mx (l.foldl pushR out) ∧ ∀ x, memB x (l.foldl pushR out) = true ↔ memB x out = true ∨ x ∈ l
  | [], out, h, _, _ => ⟨h, fun x => by simp⟩
  | y :: l, out, h, hp, hb => by
    rw [List.pairwise_cons] at hp
    obtain ⟨b1, b2, b3⟩ := hb y (by simp)
    obtain ⟨p1, p2, p3, -⟩ := push_ok h b3 b1 b2
    obtain ⟨i1, i2⟩ := runs_fold l (pushR out y) p1 hp.2 (fun z hz => ⟨(hb z (by simp [hz])).1, (hb z (by simp [hz])).2.1, fun s hs => by have := p3 s hs; have := hp.1 z hz; omega⟩)
    refine ⟨i1, fun x => ?_⟩
    show memB x (l.foldl pushR (pushR out y)) = true ↔ _
    rw [i2 x, p2 x, List.mem_cons]
    exact ⟨fun q => q.elim (fun q => q.elim .inl (fun q => .inr (.inl q))) (fun q => .inr (.inr q)), fun q => q.elim (fun q => .inl (.inl q)) (fun q => q.elim (fun q => .inl (.inr q)) .inr)⟩

/-- Numbers that rise and are the runs' numbers: their runs are the runs. -/
theorem runs_eq {mn mx : Int} {l : List Int} {L : List Sp} (hL : Good mn mx L) (hp : l.Pairwise (· < ·)) (hb : ∀ y ∈ l, mn ≤ y ∧ y ≤ mx) (hm : ∀ x, memB x L = true ↔ x ∈ l) : runsF l = L := by
  obtain ⟨i1, i2⟩ := runs_fold (mn := mn) (mx := mx) l [] trivial hp (fun y hy => ⟨(hb y hy).1, (hb y hy).2, fun s hs => by cases hs⟩)
  refine good_ext i1 hL (fun x => ?_)
  rw [hm x]
  show memB x (l.foldl pushR []) = true ↔ _
  rw [i2 x]
  simp [memB]
end Go.Proofs.Ytielpjdjlmkejaa

namespace Go.Proofs.Ytielpjdjlmkejaa
open Go.RowKit
set_option linter.unusedVariables false
set_option maxRecDepth 100000
set_option maxHeartbeats 2000000

theorem RowAt.hi {w : World} {g c : Nat} {A : List Sp} {t : Sp} {sp : List Value} (h : RowAt w g c (A ++ [t]) sp) (y : Int) : RowAt (w.setCell ⟨g, A.length * 2 + 1, none⟩ (.int .i64 y)) g c (A ++ [(t.1, y)]) sp := by
  refine ⟨?_, by have := h.2.1; simpa using this, h.2.2⟩
  have hg := h.1
  have e : (w.setCell ⟨g, A.length * 2 + 1, none⟩ (.int .i64 y)).heap[g]? = some (.cells ((cl (A ++ [t]) ++ sp).toArray.setIfInBounds (A.length * 2 + 1) (.int .i64 y)) 55 (0, 0)) := by
    simp [World.setCell, Array.getElem?_modify, hg]
  rw [e]
  congr 2
  rw [cl_append, cl_append, List.setIfInBounds_toArray, List.append_assoc, List.append_assoc, List.set_append_right _ _ (by rw [cl_length]; omega), cl_length]
  rw [show A.length * 2 + 1 - A.length * 2 = 1 by omega]
  rfl

theorem runsF_take (l : List Int) (k : Nat) (h : k < l.length) : runsF (l.take (k + 1)) = pushR (runsF (l.take k)) (l.getD k 0) := by
  have e : l.take (k + 1) = l.take k ++ [l.getD k 0] := by rw [List.take_add_one]; simp [List.getD, h]
  unfold runsF
  rw [e, List.foldl_append]
  rfl
theorem pushR_len (out : List Sp) (y : Int) : (pushR out y).length ≤ out.length + 1 := by
  unfold pushR
  split
  · rw [List.length_append, List.length_dropLast]
    simp only [List.length_cons, List.length_nil]
    omega
  · simp
theorem runsF_len (l : List Int) : (runsF l).length ≤ l.length := by
  have : ∀ (l : List Int) (out : List Sp), (l.foldl pushR out).length ≤ out.length + l.length := by
    intro l
    induction l with
    | nil => intro out; simp
    | cons y l ih => intro out; have := ih (pushR out y); have := pushR_len out y; simp only [List.foldl_cons, List.length_cons]; omega
  have := this l []
  unfold runsF
  simpa using this

theorem rruns_any (b n c : Nat) (a : Option Addr) (r : Rn) (w : World) (h : RN w b a n c r) (hp : r.l.Pairwise (· < ·)) (hb : ∀ y ∈ r.l, 0 ≤ y ∧ y ≤ 4611686018427387903) (hn : n ≤ 1000000000000) :
    Calls Try.prog 29 #[ptr b] w fun e w' => ∃ v, e = .returned v ∧ Row w' v (runsF r.l) ∧ Fresh w v ∧ w.grownBy w' none := by
  have HH := hide h
  have HRD := hide h.rd
  have HP := hide hp
  have HB := hide hb
  have cap := h.cap
  clear h hp hb
  go_enter Try.func29, Try.ntmps29
  go_wp2_with fail
  go_loopw [3, 4] (fun o i wr => ∃ (k : Nat) (oa : Option Addr) (on oc : Nat), k ≤ n ∧ o = .slice oa on oc ∧ i = .int .i64 k ∧ Hid (Row wr (.slice oa on oc) (runsF (r.l.take k)) ∧ Fresh w (.slice oa on oc) ∧ w.grownBy wr none)) (fun _ i _ => n - (intOf i).toNat)
  case atStart => exact ⟨0, none, 0, 0, Nat.zero_le _, rfl, rfl, row_nil _, fresh_nil _, grown_self _ _⟩
  case round =>
    obtain ⟨k, oa, on, oc, hk, rfl, rfl, H⟩ := hrel
    obtain ⟨hrow, hfr, hgr⟩ := unhide H
    have c3 := cell_grown_none hgr (unhide HH).cells.1
    obtain ⟨oa', oc', eo, -, hcm, hnc⟩ := hrow.shape
    cases eo
    unfold maxLen at hcm
    by_cases hlt : k < n
    · have hkl : k < r.l.length := by rw [(unhide HRD).1]; exact hlt
      obtain ⟨g, off, rfl, y0w⟩ := rdN_at (unhide HRD) k hlt
      have y0 := cell_grown_none hgr y0w
      have hst := runsF_take r.l k hkl
      have hln := runsF_len (r.l.take k)
      have hlk : (r.l.take k).length ≤ k := by simp; omega
      have MEMY : Hid (r.l.getD k 0 ∈ r.l) := by show _ ∈ _; rw [List.getD_eq_getElem?_getD, List.getElem?_eq_getElem hkl]; simp
      generalize r.l.getD k 0 = y at *
      generalize hR0 : runsF (r.l.take k) = R at *
      have kn : (k : Int) < (n : Int) := by omega
      have HLT := hide hlt
      by_cases hA : R ≠ [] ∧ (R.getLastD (0, 0)).2 + 1 = y
      · obtain ⟨hne, hla⟩ := hA
        have ep : pushR R y = R.dropLast ++ [((R.getLastD (0, 0)).1, y)] := by unfold pushR; rw [if_pos ⟨hne, hla⟩]
        obtain ⟨A, t, rfl⟩ : ∃ A t, R = A ++ [t] := (List.eq_nil_or_concat R).resolve_left hne |>.imp fun A ⟨t, e⟩ => ⟨t, by rw [e, List.concat_eq_append]⟩
        have el : (A ++ [t]).getLastD (0, 0) = t := by simp
        have ed : (A ++ [t]).dropLast = A := by simp
        rw [el] at hla ep
        rw [ed] at ep
        rw [ep] at hst
        obtain ⟨gl, hgl, sl, hLR⟩ : ∃ g, oa = some ⟨g, 0, none⟩ ∧ ∃ sp, RowAt wr g oc (A ++ [t]) sp := by
          rcases Row.at hrow with ⟨e1, e2⟩ | ⟨g, c', sp, e1, e2⟩
          · exact absurd e2 hne
          · simp only [Value.slice.injEq] at e1
            obtain ⟨rfl, -, rfl⟩ := e1
            exact ⟨g, rfl, sp, e2⟩
        subst hgl
        have eq1 : (A ++ [t]).length = A.length + 1 := by simp
        have z1 := hLR.cell (A.length * 2 + 1) (.int .i64 t.2) (by rw [cl_append, List.getElem?_append_right (by rw [cl_length]; omega), cl_length, show A.length * 2 + 1 - A.length * 2 = 1 by omega]; rfl)
        have f1 : wr.frozen? ⟨gl, A.length * 2 + 1, none⟩ = false := by simp [World.frozen?, hLR.1]
        have hgf : w.heap.size ≤ gl := hfr gl rfl
        have yb := unhide HB y
        have NX : Hid (∀ nq, Row ((wr.drewN nq).setCell ⟨gl, A.length * 2 + 1, none⟩ (.int .i64 y)) (.slice (some ⟨gl, 0, none⟩) (A.length + 1) oc) (runsF (r.l.take (k + 1))) ∧ Fresh w (.slice (some ⟨gl, 0, none⟩) (A.length + 1) oc) ∧ w.grownBy ((wr.drewN nq).setCell ⟨gl, A.length * 2 + 1, none⟩ (.int .i64 y)) none) := by
          intro nq
          refine ⟨?_, fun g e => by cases e; exact hgf, grown_set (grown_trans hgr (grown_drewN _ _)) gl _ _ hgf⟩
          rw [hst]
          have h1 : RowAt (wr.drewN nq) gl oc (A ++ [t]) sl := hLR
          have := (h1.hi y).row
          simpa using this
        have tb : -1 ≤ t.2 ∧ t.2 ≤ 4611686018427387903 := by
          have hyl : y ∈ r.l := unhide MEMY
          have := unhide HB y hyl
          omega
        have w1 : IntKind.i64.wrap (t.2 + 1) = t.2 + 1 := by rw [IntKind.wrap_i64]; omega
        have yq : (t.2 + 1 == y) = true := by rw [beq_iff_eq]; exact hla
        have hmB : A.length ≤ 1000000000000 := by rw [eq1] at hln; omega
        rw [eq1] at hnc ⊢
        clear H hrow hfr hgr hst hln hlk hLR eq1 ep el ed hne hgf yb tb y0w hR0 hkl hk hla
        generalize A.length = m at *
        have hm1 : ((m + 1 : Nat) : Int) - 1 = (m : Int) := by omega
        generalize hq : m + 1 = q at *
        have hqp : (0 : Int) < (q : Int) := by omega
        have hqd : decide ((0 : Int) < (q : Int)) = true := decide_eq_true hqp
        have hqn : decide (0 < q) = true := decide_eq_true (by omega)
        have hmq : (m : Int) < (q : Int) := by omega
        have wm : IntKind.i64.wrap (m : Int) = (m : Int) := by rw [IntKind.wrap_i64]; omega
        clear hq hmB
        go_wp2_with fail
        go_quiet (fail)
        go_wp2_with fail
        go_roundw
        case rel => exact ⟨k + 1, _, _, _, unhide HLT, rfl, by go_num, unhide NX _⟩
        case measure => have := unhide HLT; simp [intOf]; omega
      · have ep : pushR R y = R ++ [(y, y)] := by unfold pushR; rw [if_neg hA]
        rw [ep] at hst
        have hR1 : R.length ≤ 8000000000009 := by omega
        have AP : Hid (∀ nq, ∃ a' n' c' w', (Builtin.append_ #[33, 33] 33 #[.slice oa R.length oc, .slice (some ⟨wr.heap.size, 0, none⟩) 1 1]).run Try.prog ((wr.drewN nq).drew.alloc (.cells #[.int .i64 y, .int .i64 y] 55)) = .ok (.slice a' n' c') w' ∧ w'.cell? ⟨b, 3, none⟩ = some (.slice (some ⟨g, off, none⟩) n c) ∧ w'.cell? ⟨g, off + k, none⟩ = some (.int .i64 y) ∧ Hid (Row w' (.slice a' n' c') (runsF (r.l.take (k + 1))) ∧ Fresh w (.slice a' n' c') ∧ w.grownBy w' none)) := by
          intro nq
          have hrow' : Row (wr.drewN nq).drew (.slice oa R.length oc) R := row_kept hrow (fun _ _ => rfl)
          obtain ⟨v', w', q1, q2, q3, q4⟩ := app_one (wr.drewN nq).drew (.slice oa R.length oc) R y y 33 hrow' hR1
          obtain ⟨a', c', rfl, -, -, -⟩ := q2.shape
          have g1 : w.grownBy ((wr.drewN nq).drew.alloc (.cells #[.int .i64 y, .int .i64 y] 55)) none := grown_trans (grown_trans hgr (grown_drewN wr (nq + 1))) (grown_alloc _ _)
          obtain ⟨m1, m2⟩ := q3.fresh g1 hfr
          exact ⟨a', _, c', w', q1, cell_grown_none m1 (unhide HH).cells.1, cell_grown_none m1 y0w, by rw [hst]; exact q2, m2, m1⟩
        have hRn : ¬ (R ≠ [] ∧ (R.getLastD (0, 0)).2 + 1 = y) := hA
        by_cases hz : R = []
        · have hq0 : R.length = 0 := by rw [hz]; rfl
          rw [hq0] at AP ⊢
          clear H hrow hfr hgr hst hln hlk ep hA hRn hR0 hkl hk y0w hR1 hz hnc hcm hq0
          go_wp2_with fail
          go_quiet (fail)
          go_wp2_with fail
          obtain ⟨a', n', c', w', hap, s1, s2, E⟩ := unhide AP nq
          go_region_held_law (fun W => W.cell? ⟨b, 3, none⟩ = some (.slice (some ⟨g, off, none⟩) n c) ∧ W.cell? ⟨g, off + k, none⟩ = some (.int .i64 y)) (go_keep) (refine step_append_run rfl _ _ 33 33 rfl _ _ (by simp [Act.eval]) (by simp [Act.eval]) hap ?_)
          clear hap s1 s2 AP
          go_wp2_with fail
          go_roundw
          case rel => exact ⟨k + 1, _, _, _, unhide HLT, rfl, by go_num, E⟩
          case measure => have := unhide HLT; simp [intOf]; omega
        · obtain ⟨A, t, rfl⟩ : ∃ A t, R = A ++ [t] := (List.eq_nil_or_concat R).resolve_left hz |>.imp fun A ⟨t, e⟩ => ⟨t, by rw [e, List.concat_eq_append]⟩
          have el : (A ++ [t]).getLastD (0, 0) = t := by simp
          rw [el] at hA
          have hla : ¬ t.2 + 1 = y := fun e => hA ⟨hz, e⟩
          obtain ⟨gl, hgl, sl, hLR⟩ : ∃ g, oa = some ⟨g, 0, none⟩ ∧ ∃ sp, RowAt wr g oc (A ++ [t]) sp := by
            rcases Row.at hrow with ⟨e1, e2⟩ | ⟨g, c', sp, e1, e2⟩
            · exact absurd e2 hz
            · simp only [Value.slice.injEq] at e1
              obtain ⟨rfl, -, rfl⟩ := e1
              exact ⟨g, rfl, sp, e2⟩
          subst hgl
          have eq1 : (A ++ [t]).length = A.length + 1 := by simp
          have z1 := hLR.cell (A.length * 2 + 1) (.int .i64 t.2) (by rw [cl_append, List.getElem?_append_right (by rw [cl_length]; omega), cl_length, show A.length * 2 + 1 - A.length * 2 = 1 by omega]; rfl)
          have tb : -1 ≤ t.2 ∧ t.2 ≤ 4611686018427387903 := by
            have hm : memB t.2 (A ++ [t]) = true ∨ ¬ t.1 ≤ t.2 := by
              by_cases c : t.1 ≤ t.2
              · exact .inl (memB_iff.2 ⟨t, by simp, c, Int.le_refl _⟩)
              · exact .inr c
            obtain ⟨i1, i2⟩ := runs_fold (mn := 0) (mx := 4611686018427387903) (r.l.take k) [] trivial ((unhide HP).sublist (List.take_sublist _ _)) (fun z hz => ⟨(unhide HB z (List.mem_of_mem_take hz)).1, (unhide HB z (List.mem_of_mem_take hz)).2, fun s hs => by cases hs⟩)
            have hgd : Good 0 4611686018427387903 (A ++ [t]) := by rw [← hR0]; exact i1
            have := hgd.right.mem (s := t) (by simp)
            omega
          have w1 : IntKind.i64.wrap (t.2 + 1) = t.2 + 1 := by rw [IntKind.wrap_i64]; omega
          have yq : (t.2 + 1 == y) = false := by rw [beq_eq_false_iff_ne]; exact hla
          have hmB : A.length ≤ 1000000000000 := by rw [eq1] at hln; omega
          rw [eq1] at hnc AP ⊢
          clear H hrow hfr hgr hst hln hlk hLR eq1 ep el hA hRn hz tb y0w hR0 hkl hk hla hR1
          generalize A.length = m at *
          have hm1 : ((m + 1 : Nat) : Int) - 1 = (m : Int) := by omega
          generalize hq : m + 1 = q at *
          have hqp : (0 : Int) < (q : Int) := by omega
          have hqd : decide ((0 : Int) < (q : Int)) = true := decide_eq_true hqp
          have hqn : decide (0 < q) = true := decide_eq_true (by omega)
          have hmq : (m : Int) < (q : Int) := by omega
          have wm : IntKind.i64.wrap (m : Int) = (m : Int) := by rw [IntKind.wrap_i64]; omega
          clear hq hmB
          go_wp2_with fail
          go_quiet (fail)
          go_wp2_with fail
          obtain ⟨a', n', c', w', hap, s1, s2, E⟩ := unhide AP nq
          go_region_held_law (fun W => W.cell? ⟨b, 3, none⟩ = some (.slice (some ⟨g, off, none⟩) n c) ∧ W.cell? ⟨g, off + k, none⟩ = some (.int .i64 y)) (go_keep) (refine step_append_run rfl _ _ 33 33 rfl _ _ (by simp [Act.eval]) (by simp [Act.eval]) hap ?_)
          clear hap s1 s2 AP
          go_wp2_with fail
          go_roundw
          case rel => exact ⟨k + 1, _, _, _, unhide HLT, rfl, by go_num, E⟩
          case measure => have := unhide HLT; simp [intOf]; omega
    · obtain rfl : k = n := by omega
      have kn : ¬ (k : Int) < (k : Int) := by omega
      have E : Hid (Row wr (.slice oa (runsF (r.l.take k)).length oc) (runsF r.l) ∧ Fresh w (.slice oa (runsF (r.l.take k)).length oc) ∧ w.grownBy wr none) := by
        refine ⟨?_, hfr, hgr⟩
        have e : r.l.take k = r.l := List.take_of_length_le (by rw [(unhide HRD).1]; omega)
        rw [e] at hrow ⊢
        exact hrow
      clear H hrow hfr hgr
      generalize (runsF (r.l.take k)).length = q at *
      go_wp2_with fail
      go_ret
      exact ⟨_, rfl, (unhide E).1, (unhide E).2.1, (unhide E).2.2⟩
end Go.Proofs.Ytielpjdjlmkejaa

namespace Go.Proofs.Ytielpjdjlmkejaa
open Go.RowKit
set_option linter.unusedVariables false
set_option maxRecDepth 100000
set_option maxHeartbeats 2000000

theorem frA_cells {W : World} {g : Nat} {rv : Value} {d : Int} {m : Bool} {c0 c2 : Int} (h : Blk W g (frA rv d m c0 c2) 48) : W.cell? ⟨g, 0, none⟩ = some (.int .i64 2) ∧ W.cell? ⟨g, 11, none⟩ = some (.int .i64 d) ∧ W.cell? ⟨g, 12, none⟩ = some rv :=
  ⟨h.cell 0 _ rfl, h.cell 11 _ rfl, h.cell 12 _ rfl⟩

theorem shown_ok (w : World) : Calls Try.prog 6 #[] w fun e w' => e = .returned (.bool true) ∧ w.grownBy w' none := by
  have hnew := qs_new (grown_self w none) (space := 2) (delay := 25000) (by decide)
  have ok0 := sok0 (space := 2) (delay := 25000) (by decide)
  obtain ⟨s1, e1⟩ : ∃ s1, s1 = (⟨2, 25000, 100, [], -1, -1, 0, 0, 0, false, never⟩ : Sn) := ⟨_, rfl⟩
  obtain ⟨s2, e2⟩ : ∃ s2, s2 = (⟨2, 25000, 1000, [(7, 7)], -1, 7, 1000, 0, 0, true, 26000⟩ : Sn) := ⟨_, rfl⟩
  obtain ⟨s3, e3⟩ : ∃ s3, s3 = (⟨2, 25000, 1010, [(7, 7)], -1, 7, 1000, 0, 0, true, 26000⟩ : Sn) := ⟨_, rfl⟩
  obtain ⟨s4, e4⟩ : ∃ s4, s4 = (⟨2, 25000, 1020, [(7, 8)], -1, 8, 1020, 0, 0, true, 26000⟩ : Sn) := ⟨_, rfl⟩
  obtain ⟨s5, e5⟩ : ∃ s5, s5 = (⟨2, 25000, 1820, [(7, 8)], -1, 8, 1020, 0, 0, false, never⟩ : Sn) := ⟨_, rfl⟩
  have a1 : ackF 100 (sn0 2 25000) = s1 := by rw [e1]; rfl
  have a2 : freshF (goF 1000 s1) 7 = true ∧ takeF 1000 7 true 0 s1 = s2 := by rw [e1, e2]; exact ⟨rfl, rfl⟩
  have a3 : freshF (goF 1010 s2) 7 = false ∧ takeF 1010 7 true 0 s2 = s3 := by rw [e2, e3]; exact ⟨rfl, rfl⟩
  have a4 : freshF (goF 1020 s3) 8 = true ∧ takeF 1020 8 false 0 s3 = s4 := by rw [e3, e4]; exact ⟨rfl, rfl⟩
  have a5 : ackF 1820 s4 = s5 := by rw [e4, e5]; rfl
  have ok1 : SOk s1 := a1 ▸ sok_ack ok0 100
  have ok2 : SOk s2 := a2.2 ▸ sok_take ok1 1000 7 true 0
  have ok3 : SOk s3 := a3.2 ▸ sok_take ok2 1010 7 true 0
  have ok4 : SOk s4 := a4.2 ▸ sok_take ok3 1020 8 false 0
  have cb : Cb 0 s1 ∧ Cb 0 s2 ∧ Cb 0 s3 := by rw [e1, e2, e3]; exact ⟨⟨by decide, by decide⟩, ⟨by decide, by decide⟩, ⟨by decide, by decide⟩⟩
  have K1 := fun wr (h : QS w wr (w.heap.size + 1) (sn0 2 25000)) => qs_ack h ok0 100 3
  have K2 := fun wr (h : QS w wr (w.heap.size + 1) s1) => qs_take h ok1 cb.1 (by decide) 1000 7 true 0
  have K3 := fun wr (h : QS w wr (w.heap.size + 1) s2) => qs_take h ok2 cb.2.1 (by decide) 1010 7 true 0
  have K4 := fun wr (h : QS w wr (w.heap.size + 1) s3) => qs_take h ok3 cb.2.2 (by decide) 1020 8 false 0
  have K5 := fun wr (h : QS w wr (w.heap.size + 1) s4) => qs_ack h ok4 1820 3
  have D2 := fun wr (h : QS w wr (w.heap.size + 1) s2) => qs_due h
  have D5 := fun wr (h : QS w wr (w.heap.size + 1) s5) => qs_due h
  rw [a1] at K1
  rw [a2.1, a2.2] at K2
  rw [a3.1, a3.2] at K3
  rw [a4.1, a4.2] at K4
  rw [a5] at K5
  have d2 : s2.due = 26000 := by rw [e2]
  have d5 : s5.due = 4611686018427387904 := by rw [e5]
  rw [d2] at D2
  rw [d5] at D5
  have l4 : decide (s4.L ≠ []) = true := by rw [e4]; rfl
  have l0 : decide ((sn0 2 25000).L ≠ []) = false := rfl
  rw [l4] at K5
  rw [l0] at K1
  have F5 : Hid (∀ wr wr' cs, AckF s4 1820 3 wr wr' cs → ∃ a c, cs = frA (.slice a 1 c) 100 false 0 0 ∧ Row wr' (.slice a 1 c) [(7, 8)]) := by
    intro wr wr' cs h
    rw [e4] at h
    rcases h with ⟨h1, -⟩ | ⟨-, a, c, h1, h2, -⟩
    · cases h1
    · exact ⟨a, c, h1, h2⟩
  have K1H := hide K1; have K2H := hide K2; have K3H := hide K3; have K4H := hide K4; have K5H := hide K5; have D2H := hide D2; have D5H := hide D5
  clear ok0 ok1 ok2 ok3 ok4 cb a1 a2 a3 a4 a5 e1 e2 e3 e4 e5 d2 d5 l4 l0 K1 K2 K3 K4 K5 D2 D5
  go_enter Try.func6, Try.ntmps6
  go_wp2_with fail
  refine hnew.mono ?_
  rintro e W0 ⟨rfl, q0⟩
  clear hnew
  go_wp2_with fail
  refine (unhide K1H _ q0).mono ?_
  rintro e W1 ⟨cs, rfl, ⟨z1, z2⟩, -, q1⟩
  have q1' := hide (q1.keep (grown_alloc W1 (.cells cs 48)))
  clear q0 q1 K1H
  go_wp2_with (refine wpList_store_row rfl _ _ _ rfl W1.heap.size cs rfl rfl 48 _ (Blk.new W1 fr0 48) (by rw [z1]; exact Try.sizeFr) (by rw [z1]; rfl) z2 ?_; rw [World.setRow_alloc_new])
  refine (unhide K2H _ (unhide q1')).mono ?_
  rintro e W2 ⟨rfl, q2⟩
  clear q1' K2H
  go_wp2_with fail
  refine (unhide D2H _ q2).mono ?_
  rintro e W3 ⟨rfl, rfl⟩
  have q3 := q2
  clear q2 D2H
  go_wp2_with fail
  refine (unhide K3H _ q3).mono ?_
  rintro e W4 ⟨rfl, q4⟩
  clear q3 K3H
  go_wp2_with fail
  refine (unhide K4H _ q4).mono ?_
  rintro e W5 ⟨rfl, q5⟩
  clear q4 K4H
  go_wp2_with fail
  refine (unhide K5H _ q5).mono ?_
  rintro e W6 ⟨cs6, rfl, -, f6, q6⟩
  obtain ⟨a, c, rfl, hrow⟩ := unhide F5 _ _ _ f6
  have g6 := grown_alloc W6 (.cells (frA (.slice a 1 c) 100 false 0 0) 48)
  have q6' := hide (q6.keep g6)
  have b6 := Blk.new W6 (frA (.slice a 1 c) 100 false 0 0) 48
  have B6 := hide b6
  rcases Row.at hrow with ⟨_, h1⟩ | ⟨g, c', sp, h1, hR⟩
  · cases h1
  simp only [Value.slice.injEq] at h1
  obtain ⟨rfl, -, rfl⟩ := h1
  have y0 := cell_grown_none g6 (hR.cell 0 _ rfl)
  have y1 := cell_grown_none g6 (hR.cell 1 _ rfl)
  have Y := hide (And.intro y0 y1)
  have hfr := frA_one (some ⟨g, 0, none⟩) 1 c 100 false 0 0
  have Z1 := hide hfr.1; have Z2 := hide hfr.2
  clear q5 K5H f6 F5 hrow hR q6 y0 y1 g6 b6 hfr z1 z2
  go_wp2_with (refine wpList_store_row rfl _ _ _ rfl W6.heap.size (frA (.slice (some ⟨g, 0, none⟩) 1 c) 100 false 0 0) rfl rfl 48 _ (Blk.new W6 fr0 48) Try.sizeFr rfl (unhide Z2) ?_; rw [World.setRow_alloc_new])
  refine (unhide D5H _ (unhide q6')).mono ?_
  rintro e W7 ⟨rfl, rfl⟩
  have b0 := (frA_cells (unhide B6)).1
  have b11 := (frA_cells (unhide B6)).2.1
  have b12 := (frA_cells (unhide B6)).2.2
  have y0 := (unhide Y).1
  have y1 := (unhide Y).2
  have Q := hide (unhide q6').grown
  clear q6' D5H B6 Y Z1 Z2
  generalize W6.alloc (.cells (frA (.slice (some ⟨g, 0, none⟩) 1 c) 100 false 0 0) 48) = W7 at *
  generalize W6.heap.size = h6 at *
  go_wp2
  all_goals go_ret
  all_goals exact ⟨rfl, unhide Q⟩
end Go.Proofs.Ytielpjdjlmkejaa

namespace Go.Proofs.Ytielpjdjlmkejaa
open Go.RowKit
set_option linter.unusedVariables false
set_option maxRecDepth 100000
set_option maxHeartbeats 1000000

structure OI (s : Sn) (T : List Int) : Prop where
  ok : SOk s
  mem : ∀ x, memB x s.L = true ↔ x ∈ T ∧ s.floor < x
  nd : T.Nodup
  rng : ∀ x ∈ T, 0 ≤ x ∧ x ≤ 4611686018427387903

theorem oi0 {space delay : Int} (h : rightF space delay) : OI (sn0 space delay) [] := ⟨sok0 h, fun x => by simp [sn0, memB], List.nodup_nil, fun x h => by cases h⟩
theorem oi_ack {s : Sn} {T : List Int} (h : OI s T) (now : Int) : OI (ackF now s) T := by
  refine ⟨sok_ack h.ok now, ?_, h.nd, h.rng⟩
  unfold ackF
  split <;> exact h.mem
theorem oi_go {s : Sn} {T : List Int} (h : OI s T) (now : Int) : OI (goF now s) T := ⟨sok_go h.ok now, h.mem, h.nd, h.rng⟩

theorem oi_forget {s : Sn} {T : List Int} (h : OI s T) (n : Int) : OI (forgetF n s) T := by
  refine ⟨sok_forget h.ok n, ?_, h.nd, h.rng⟩
  have hf := h.ok.floor
  have key : ∀ x, memB x (raiseF (min n s.largest) s).L = true ↔ x ∈ T ∧ (raiseF (min n s.largest) s).floor < x := fun x => by
    show memB x (cutS 0 0 (min n s.largest) s.L) = true ↔ x ∈ T ∧ max s.floor (min n s.largest) < x
    rw [memB_cut h.ok.good (by omega), h.mem]
    constructor
    · rintro ⟨⟨h1, h2⟩, h3⟩
      exact ⟨h1, by omega⟩
    · rintro ⟨h1, h2⟩
      exact ⟨⟨h1, by omega⟩, by omega⟩
  unfold forgetF
  split
  · exact key
  · exact key

theorem fresh_new {s : Sn} {T : List Int} (h : OI s T) {n : Int} (hf : freshF s n = true) : n ∉ T ∧ 0 ≤ n ∧ n ≤ 4611686018427387903 := by
  obtain ⟨h1, h2, h3⟩ := fresh_iff.1 hf
  refine ⟨fun hn => ?_, by have := h.ok.floor; omega, h2⟩
  have := (h.mem n).2 ⟨hn, h1⟩
  rw [h3] at this
  cases this

theorem oi_took {s : Sn} {T : List Int} (h : OI s T) {n : Int} (hf : freshF s n = true) (el : Bool) (mark : Int) : OI (tookF n el mark s) (T ++ [n]) := by
  obtain ⟨n1, n2, n3⟩ := fresh_new h hf
  obtain ⟨h1, h2, h3⟩ := fresh_iff.1 hf
  refine ⟨sok_took h.ok hf el mark, ?_, ?_, ?_⟩
  · obtain ⟨X, hX⟩ : ∃ X, X = countF mark (topF n (w1F n el mark s)) := ⟨_, rfl⟩
    have xL : X.L = s.L := by rw [hX]; exact (topF_L n _).1.trans (w1F_L n el mark s).1
    have xf : X.floor = s.floor := by
      rw [hX]
      show (topF n (w1F n el mark s)).floor = s.floor
      have e1 : ∀ t : Sn, (topF n t).floor = t.floor := fun t => by unfold topF; split <;> rfl
      rw [e1]
      unfold w1F
      split <;> rfl
    have e : (tookF n el mark s).L = (keepF n X).L ∧ (tookF n el mark s).floor = (keepF n X).floor := by rw [hX]; exact ⟨rfl, rfl⟩
    rw [e.1, e.2]
    have ha : ∀ x, memB x (addS 0 n n X.L) = true ↔ (x ∈ T ∧ s.floor < x) ∨ x = n := fun x => by
      rw [xL, memB_addS h.ok.ok.good, h.mem]
      constructor
      · rintro (a | a)
        · exact .inl a
        · exact .inr (by omega)
      · rintro (a | a)
        · exact .inl a
        · exact .inr (by omega)
    intro x
    unfold keepF
    by_cases c : 32 < (addS 0 n n X.L).length
    · rw [if_pos c]
      have hg := addS_g (mx := 4611686018427387903) (h.ok.good.top h.ok.large) (n := n) (by omega) h2
      rw [← xL] at hg
      show memB x (cutS 0 0 ((addS 0 n n X.L).headD (0, 0)).2 (addS 0 n n X.L)) = true ↔ x ∈ T ++ [n] ∧ max X.floor ((addS 0 n n X.L).headD (0, 0)).2 < x
      rw [memB_cut hg.1 (by have := h.ok.floor; omega), ha, xf, List.mem_append, List.mem_singleton]
      constructor
      · rintro ⟨⟨a, b⟩ | a, c⟩
        · exact ⟨.inl a, by omega⟩
        · exact ⟨.inr a, by omega⟩
      · rintro ⟨a | a, c⟩
        · exact ⟨.inl ⟨a, by omega⟩, by omega⟩
        · exact ⟨.inr a, by omega⟩
    · rw [if_neg c]
      show memB x (addS 0 n n X.L) = true ↔ x ∈ T ++ [n] ∧ X.floor < x
      rw [ha, xf, List.mem_append, List.mem_singleton]
      constructor
      · rintro (⟨a, b⟩ | a)
        · exact ⟨.inl a, b⟩
        · exact ⟨.inr a, by omega⟩
      · rintro ⟨a | a, c⟩
        · exact .inl ⟨a, c⟩
        · exact .inr a
  · rw [List.nodup_append]
    exact ⟨h.nd, by simp, fun a ha b hb e => by rw [List.mem_singleton] at hb; subst hb; subst e; exact n1 ha⟩
  · intro x hx
    rcases List.mem_append.1 hx with a | a
    · exact h.rng x a
    · rw [List.mem_singleton] at a; subst a; exact ⟨n2, n3⟩

/-- Behind a Take the number isn't fresh. -/
theorem again_not {s : Sn} {T : List Int} (h : OI s T) (now n : Int) (el : Bool) (mark : Int) : freshF (takeF now n el mark s) n = false := by
  unfold takeF
  cases hf : freshF (goF now s) n with
  | false => exact hf
  | true =>
    rw [if_pos rfl]
    have o := oi_took (oi_go h now) hf el mark
    cases hq : freshF (tookF n el mark (goF now s)) n with
    | false => rfl
    | true => exact absurd (by simp : n ∈ T ++ [n]) (fresh_new o hq).1

theorem Row.kept2 {w w' : World} {v : Value} {L : List Sp} (h : Row w v L) (g : w.grownBy w' none) : Row w' v L := row_kept h (fun k e => g.block k (row_lt h k e) (by simp))

/-- The blocks of another make lie as they lay. -/
def Far (w w' : World) : Prop := w.heap.size ≤ w'.heap.size ∧ ∀ (g : Nat) (c : Array Value) (t : TypeId) (f : Nat × Nat), w.heap[g]? = some (.cells c t f) → t ≠ 63 → t ≠ 83 → t ≠ 55 → w'.heap[g]? = w.heap[g]?
theorem Far.trans {a b c : World} (h : Far a b) (k : Far b c) : Far a c := ⟨Nat.le_trans h.1 k.1, fun g x t f hg h1 h2 h3 => (k.2 g x t f ((h.2 g x t f hg h1 h2 h3).trans hg) h1 h2 h3).trans (h.2 g x t f hg h1 h2 h3)⟩
theorem Far.grown {w w' : World} (h : w.grownBy w' none) : Far w w' := ⟨h.size, fun g c t f hg _ _ _ => h.block g (Array.getElem?_eq_some_iff.1 hg).1 (by simp)⟩
theorem far_to {w w' : World} {b bs : Nat} {v : Value} {s s' : Sn} (h : SN w b bs v s) (ht : To b bs v w s' w') : Far w w' := by
  obtain ⟨v', -, -, k⟩ := ht
  refine ⟨k.size, fun g c t f hg h1 h2 h3 => k.block g (Array.getElem?_eq_some_iff.1 hg).1 ?_⟩
  rintro (e | e | e)
  · subst e
    have := h.blk
    unfold Blk at this
    rw [hg] at this
    cases this
    exact h1 rfl
  · subst e
    have := h.set.blk
    rw [hg] at this
    cases this
    exact h2 rfl
  · exact h.set.row.ne_of hg h3 e
theorem Blk.far2 {w w' : World} {g : Nat} {cs : Array Value} {t : TypeId} (h : Blk w g cs t) (hf : Far w w') (h1 : t ≠ 63) (h2 : t ≠ 83) (h3 : t ≠ 55) : Blk w' g cs t := (hf.2 g cs t (0, 0) h h1 h2 h3).trans h

theorem of_take {w wr : World} {b : Nat} {s : Sn} (h : QS w wr b s) (ok : SOk s) {k : Nat} (hc : Cb k s) (hk : (k : Int) < 9223372036854775807) (now n : Int) (el : Bool) (mark : Int) :
    Calls Try.prog 13 #[ptr b, .int .i64 now, .int .i64 n, .bool el, .int .i64 mark] wr fun e wr' => e = .returned (.bool (freshF s n)) ∧ QS w wr' b (takeF now n el mark s) ∧ Far wr wr' := by
  obtain ⟨bs, v, h1, h2⟩ := h.at_
  cases hf : freshF (goF now s) n with
  | false =>
    have hf' : freshF s n = false := hf
    refine (stale_any b bs v s now n mark el wr h1 ok.ok hf).mono fun e wr' ⟨he, ht⟩ => ⟨by rw [he, hf'], ?_, far_to h1 ht⟩
    unfold takeF
    rw [hf]
    exact QS.to h.grown h2 ht
  | true =>
    have hf' : freshF s n = true := hf
    exact (take_any b bs v s now n mark el wr h1 (take_ok ok hc hk now n hf) ok.floor.1).mono fun e wr' ⟨he, ht⟩ => ⟨by rw [he, hf, hf'], QS.to h.grown h2 ht, far_to h1 ht⟩
theorem of_forget {w wr : World} {b : Nat} {s : Sn} (h : QS w wr b s) (ok : SOk s) (n : Int) :
    Calls Try.prog 18 #[ptr b, .int .i64 n] wr fun e wr' => e = .returned (.tuple #[]) ∧ QS w wr' b (forgetF n s) ∧ Far wr wr' := by
  obtain ⟨bs, v, h1, h2⟩ := h.at_
  exact (forget_any b bs v s n wr h1 ok.ok (by have := ok.large; omega)).mono fun e wr' ⟨he, ht⟩ => ⟨he, QS.to h.grown h2 ht, far_to h1 ht⟩
theorem of_ack {w wr : World} {b : Nat} {s : Sn} (h : QS w wr b s) (ok : SOk s) (now ex : Int) :
    Calls Try.prog 14 #[ptr b, .int .i64 now, .int .i64 ex] wr fun e wr' => ∃ cs, e = .returned (.tuple #[.agg cs, .bool (decide (s.L ≠ []))]) ∧ (cs.size = 17 ∧ cs.all (·.oneCell') = true) ∧ AckF s now ex wr wr' cs ∧ QS w wr' b (ackF now s) ∧ Far wr wr' := by
  obtain ⟨bs, v, h1, h2⟩ := h.at_
  have g := sok_go ok now
  unfold ackF
  by_cases hL : s.L = []
  · refine (ack_none b bs v s now ex wr h1 hL).mono ?_
    rintro e wr' ⟨rfl, ht⟩
    rw [if_pos hL]
    exact ⟨fr0, by simp [hL], fr0_one, .inl ⟨hL, rfl⟩, QS.to h.grown h2 ht, far_to h1 ht⟩
  · refine (ack_some b bs v s now ex wr h1 hL ok.ok ⟨ok.came.1, g.came.2, g.clock.2⟩).mono ?_
    rintro e wr' ⟨a, c, rfl, h3, h4, ht⟩
    rw [if_neg hL]
    exact ⟨_, by simp [hL], frA_one _ _ _ _ _ _ _, .inr ⟨hL, a, c, rfl, h3, h4⟩, QS.to h.grown h2 ht, far_to h1 ht⟩
theorem of_fresh {w wr : World} {b : Nat} {s : Sn} (h : QS w wr b s) (ok : SOk s) (n : Int) :
    Calls Try.prog 12 #[ptr b, .int .i64 n] wr fun e wr' => e = .returned (.bool (freshF s n)) ∧ wr.grownBy wr' none := by
  obtain ⟨bs, v, h1, h2⟩ := h.at_
  exact fresh_any b bs v s n wr h1 ok.ok

theorem ack_cb2 {s : Sn} {k : Nat} (h : Cb k s) (now : Int) : Cb (k + 1) (ackF now s) := by
  unfold ackF
  split <;> exact cb_mono (show Cb k _ from h) (Nat.le_succ k)
theorem forget_cb2 {s : Sn} {k : Nat} (h : Cb k s) (n : Int) : Cb (k + 1) (forgetF n s) := by
  unfold forgetF
  split <;> exact cb_mono (show Cb k _ from h) (Nat.le_succ k)

/-- The numbers that were taken, as they lie in memory. -/
def tc (T : List Int) : List Value := T.map fun x => .int .i64 x
def RT (w wr : World) (v : Value) (T : List Int) : Prop := wr.ownsRow w.heap.size 2 1 v T.length (tc T)
theorem rt_nil (w wr : World) : RT w wr (.slice none 0 0) [] := ⟨rfl, .inl ⟨rfl, rfl⟩⟩
theorem RT.at {w wr : World} {a : Option Addr} {n c : Nat} {T : List Int} (h : RT w wr (.slice a n c) T) : n = T.length ∧ n ≤ c ∧ c ≤ maxLen ∧ (T = [] ∨ ∃ g cur, a = some ⟨g, 0, none⟩ ∧ w.heap.size ≤ g ∧ wr.heap[g]? = some (.cells cur 2 (0, 0)) ∧ ∀ j x, T[j]? = some x → wr.cell? ⟨g, j, none⟩ = some (.int .i64 x)) := by
  rcases h.2 with ⟨e1, e2⟩ | ⟨g, c', cur, e1, q1, q2, q3, q4, q5, q6⟩
  · cases e1
    exact ⟨e2.symm, Nat.le_refl _, Nat.zero_le _, .inl (List.length_eq_zero_iff.1 e2)⟩
  · cases e1
    refine ⟨rfl, q3, q4, .inr ⟨g, cur, rfl, q1, q2, fun j x hj => ?_⟩⟩
    have hlt := (List.getElem?_eq_some_iff.1 hj).1
    unfold World.cell?
    rw [q2]
    have h1 : (cur.toList.take (T.length * 1))[j]? = (tc T)[j]? := by rw [q6]
    rw [List.getElem?_take, if_pos (by omega), Array.getElem?_toList] at h1
    simp only
    rw [h1]
    simp [tc, hj]
theorem RT.kept {w wr wr' : World} {v : Value} {T : List Int} (h : RT w wr v T) (hk : ∀ (g : Nat) (c : Array Value), wr.heap[g]? = some (.cells c 2 (0, 0)) → wr'.heap[g]? = wr.heap[g]?) : RT w wr' v T := by
  refine ⟨h.1, ?_⟩
  rcases h.2 with h2 | ⟨g, c, cur, e1, q1, q2, q3⟩
  · exact .inl h2
  · exact .inr ⟨g, c, cur, e1, q1, (hk g cur q2).trans q2, q3⟩
theorem RT.far {w wr wr' : World} {v : Value} {T : List Int} (h : RT w wr v T) (hf : Far wr wr') : RT w wr' v T := h.kept (fun g c hg => hf.2 g c 2 (0, 0) hg (by decide) (by decide) (by decide))
theorem Try.infoE : (Try.prog.info? 2).map (fun i => (i.zero, i.size, i.bytes)) = some (some (.int .i64 0), 1, 8) := by kernel_rfl

/-- One more is taken. -/
theorem rt_app (w W : World) (v : Value) (T : List Int) (n : Int) (g : Nat) (c : Nat) (h : RT w W v T) (hg : w.grownBy W none) (hc : W.cell? ⟨g, 0, none⟩ = some (.int .i64 n)) (hb : (T.length + 1) * 8 ≤ 140737488355328) :
    ∃ a' c' W', (Builtin.append_ #[41, 41] 41 #[v, .slice (some ⟨g, 0, none⟩) 1 c]).run Try.prog W = .ok (.slice a' (T.length + 1) c') W' ∧ RT w W' (.slice a' (T.length + 1) c') (T ++ [n]) ∧ W.grownBy W' v.ownBlock := by
  obtain ⟨i, hi, hz0, hz1, hz2⟩ := info_parts Try.infoE
  obtain ⟨v', W', hr, ho, hgr, hnil⟩ := run_append_own (P := Try.prog) W w.heap.size 41 41 2 i _ 1 8 Try.underlying41 hi hz0 hz1 hz2 rfl (by decide) v T.length (tc T) h ⟨g, 0, none⟩ 1 c [.int .i64 n] rfl (fun j u hj => by
    match j, hj with
    | 0, hj => cases hj; exact hc) (by simp [Value.oneCell']) (by unfold maxLen; omega) hb hg.size
  have e : tc T ++ [.int .i64 n] = tc (T ++ [n]) := by simp [tc]
  have e2 : (T ++ [n]).length = T.length + 1 := by simp
  rw [e] at ho
  have ho' : RT w W' v' (T ++ [n]) := by unfold RT; rw [e2]; exact ho
  obtain ⟨a', c', rfl⟩ : ∃ a' c', v' = .slice a' (T.length + 1) c' := by
    rcases ho.2 with ⟨e1, e2⟩ | ⟨g', c', cur, e1, -⟩
    · omega
    · exact ⟨_, _, e1⟩
  exact ⟨a', c', W', hr, ho', hgr⟩

/-- What an append does to the row alone leaves a Seen as it is. -/
theorem QS.app {w W W' : World} {b : Nat} {s : Sn} {v : Value} {T : List Int} (h : QS w W b s) (ht : RT w W v T) (hg : W.grownBy W' v.ownBlock) : QS w W' b s := by
  obtain ⟨bs, u, h1, h2⟩ := h.at_
  have hv : ∀ g, v.ownBlock = some g → w.heap.size ≤ g ∧ ∃ c, W.heap[g]? = some (.cells c 2 (0, 0)) := fun g e => by
    rcases ht.2 with ⟨rfl, -⟩ | ⟨g', c, cur, rfl, q1, q2, -⟩
    · cases e
    · cases e; exact ⟨q1, _, q2⟩
  refine ⟨⟨bs, u, h1.kept (fun g hm => hg.block g (h1.mine_lt g hm) (fun e => ?_)), h2⟩, ?_⟩
  · obtain ⟨-, c, hc⟩ := hv g e.symm
    rcases hm with rfl | rfl | hm
    · have := h1.blk
      unfold Blk at this
      rw [hc] at this
      cases this
    · have := h1.set.blk
      rw [hc] at this
      cases this
    · exact h1.set.row.ne_of hc (by decide) hm
  · exact grown_fresh h.grown hg (fun k e => (hv k e).1)
end Go.Proofs.Ytielpjdjlmkejaa

namespace Go.Proofs.Ytielpjdjlmkejaa
open Go.RowKit
set_option linter.unusedVariables false
set_option maxRecDepth 100000
set_option maxHeartbeats 2000000

theorem app_nilsrc (w : World) (v : Value) (hv : (∃ n c, v = .slice none n c ∧ n = 0 ∧ c = 0) ∨ ∃ g n c, v = .slice (some ⟨g, 0, none⟩) n c ∧ n ≤ c) :
    (Builtin.append_ #[41, 41] 41 #[v, .slice none 0 0]).run Try.prog w = .ok v w := by
  obtain ⟨i, hi, hz0, hz1, hz2⟩ := info_parts Try.infoE
  rcases hv with ⟨n, c, rfl, rfl, rfl⟩ | ⟨g, n, c, rfl, hn⟩
  · simp [Builtin.append_, run_underlying Try.underlying41, sizeOf, typeInfo, hi, Builtin.lenOf, Builtin.firstCells]
  · simp [Builtin.append_, run_underlying Try.underlying41, sizeOf, typeInfo, hi, Builtin.lenOf, Builtin.firstCells, storeCells, hn]

theorem rt_shape {w W : World} {v : Value} {T : List Int} (h : RT w W v T) : ∃ a c, v = .slice a T.length c ∧ ((a = none ∧ T.length = 0 ∧ c = 0) ∨ ∃ g, a = some ⟨g, 0, none⟩) ∧ T.length ≤ c ∧ c ≤ maxLen := by
  rcases h.2 with ⟨rfl, e2⟩ | ⟨g, c, cur, rfl, q1, q2, q3, q4, -⟩
  · exact ⟨none, 0, by rw [e2], .inl ⟨rfl, e2, rfl⟩, by omega, Nat.zero_le _⟩
  · exact ⟨_, c, rfl, .inr ⟨g, rfl⟩, q3, q4⟩

theorem rt_apps (w W : World) (v : Value) (T S : List Int) (sa : Option Addr) (sn sc : Nat) (h : RT w W v T) (hg : w.grownBy W none) (hs : RdN W sa sn S) (hsh : (sa = none ∧ sn = 0 ∧ sc = 0) ∨ ∃ g off, sa = some ⟨g, off, none⟩) (hb : (T.length + S.length) * 8 ≤ 140737488355328) :
    ∃ a' c' W', (Builtin.append_ #[41, 41] 41 #[v, .slice sa sn sc]).run Try.prog W = .ok (.slice a' (T.length + S.length) c') W' ∧ RT w W' (.slice a' (T.length + S.length) c') (T ++ S) ∧ W.grownBy W' v.ownBlock := by
  obtain ⟨i, hi, hz0, hz1, hz2⟩ := info_parts Try.infoE
  obtain ⟨h1, h2⟩ := hs
  rcases hsh with ⟨rfl, rfl, rfl⟩ | ⟨g, off, rfl⟩
  · have e0 : S = [] := List.length_eq_zero_iff.1 h1
    subst e0
    obtain ⟨a, c, rfl, hsh, hc, -⟩ := rt_shape h
    refine ⟨a, c, W, ?_, by simpa using h, ⟨rfl, rfl, rfl, Nat.le_refl _, fun _ _ _ => rfl⟩⟩
    have := app_nilsrc W (.slice a T.length c) (by
      rcases hsh with ⟨rfl, q1, q2⟩ | ⟨g, rfl⟩
      · exact .inl ⟨_, _, rfl, q1, q2⟩
      · exact .inr ⟨g, _, _, rfl, hc⟩)
    simpa using this
  · have hcell : ∀ j u, (tc S)[j]? = some u → W.cell? ((⟨g, off, none⟩ : Addr).add j) = some u := by
      intro j u hj
      rcases h2 with e | ⟨g', off', cur, e, hg', hc⟩
      · rw [e] at hj; simp [tc] at hj
      · cases e
        simp only [tc, List.getElem?_map] at hj
        cases hx : S[j]? with
        | none => rw [hx] at hj; cases hj
        | some x =>
          rw [hx] at hj
          simp only [Option.map_some, Option.some.injEq] at hj
          subst hj
          rw [Addr.add_lit]
          unfold World.cell?
          simp only [hg']
          exact hc j x hx
    obtain ⟨v', W', hr, ho, hgr, hnil⟩ := run_append_own (P := Try.prog) W w.heap.size 41 41 2 i _ 1 8 Try.underlying41 hi hz0 hz1 hz2 rfl (by decide) v T.length (tc T) h ⟨g, off, none⟩ sn sc (tc S) (by simp [tc, h1]) hcell (by intro u hu; simp only [tc, List.mem_map] at hu; obtain ⟨x, -, rfl⟩ := hu; rfl) (by unfold maxLen; omega) (by rw [← h1]; exact hb) hg.size
    have e : tc T ++ tc S = tc (T ++ S) := by simp [tc]
    rw [e] at ho
    have ho' : RT w W' v' (T ++ S) := by unfold RT; rw [List.length_append, h1]; exact ho
    obtain ⟨a', c', rfl, -, -, -⟩ := rt_shape ho'
    rw [List.length_append] at hr ho'
    exact ⟨a', c', W', hr, ho', hgr⟩
end Go.Proofs.Ytielpjdjlmkejaa

namespace Go.Proofs.Ytielpjdjlmkejaa
open Go.RowKit
set_option linter.unusedVariables false
set_option maxRecDepth 100000
set_option maxHeartbeats 4000000

theorem RN.keep {w w' : World} {b n c : Nat} {a : Option Addr} {r : Rn} (h : RN w b a n c r) (hg : w.grownBy w' none) : RN w' b a n c r :=
  ⟨h.blk.grown hg, h.rd.kept (fun g cc hc => hg.block g (Array.getElem?_eq_some_iff.1 hc).1 (by simp)), h.cap, h.sh⟩

theorem rt_rdn {w W : World} {a : Option Addr} {n c : Nat} {T : List Int} (h : RT w W (.slice a n c) T) : RdN W a n T ∧ (n ≤ c ∧ c ≤ 9223372036854775807) ∧ ((a = none ∧ n = 0 ∧ c = 0) ∨ ∃ g off, a = some ⟨g, off, none⟩) := by
  obtain ⟨a', c', e, hsh, hc, hm⟩ := rt_shape h
  cases e
  unfold maxLen at hm
  refine ⟨⟨rfl, ?_⟩, ⟨hc, by omega⟩, hsh.imp id (fun ⟨g, e⟩ => ⟨g, 0, e⟩)⟩
  rcases h.2 with ⟨e1, e2⟩ | ⟨g, c', cur, e1, q1, q2, q3, q4, q5, q6⟩
  · exact .inl (List.length_eq_zero_iff.1 e2)
  · cases e1
    refine .inr ⟨g, 0, cur, rfl, q2, fun j x hj => ?_⟩
    have hlt := (List.getElem?_eq_some_iff.1 hj).1
    have h1 : (cur.toList.take (T.length * 1))[j]? = (tc T)[j]? := by rw [q6]
    rw [List.getElem?_take, if_pos (by omega), Array.getElem?_toList] at h1
    rw [Nat.zero_add, h1]
    simp [tc, hj]

theorem RdN.take {w : World} {a : Option Addr} {n : Nat} {l : List Int} (h : RdN w a n l) (k : Nat) (hk : k ≤ n) : RdN w a k (l.take k) := by
  obtain ⟨h1, h2⟩ := h
  refine ⟨by rw [List.length_take]; omega, ?_⟩
  rcases h2 with rfl | ⟨g, off, cur, e, hg, hc⟩
  · exact .inl (by simp)
  · refine .inr ⟨g, off, cur, e, hg, fun j x hj => ?_⟩
    rw [List.getElem?_take] at hj
    split at hj
    · exact hc j x hj
    · cases hj

def putF (x : Int) (l : List Int) : List Int := l.takeWhile (fun y => decide (y < x)) ++ ([x] ++ l.dropWhile (fun y => decide (y < x)))
theorem put_at {l : List Int} {x : Int} {k : Nat} (h : ∀ j y, j < k → l[j]? = some y → y < x) (he : l.length ≤ k ∨ ∃ y, l[k]? = some y ∧ ¬ y < x) : putF x l = (l.take k ++ [x]) ++ l.drop k := by
  unfold putF
  have : l.takeWhile (fun y => decide (y < x)) = l.take k ∧ l.dropWhile (fun y => decide (y < x)) = l.drop k := by
    induction l generalizing k with
    | nil => simp
    | cons a l ih =>
      cases k with
      | zero =>
        rcases he with he | ⟨y, hy, hn⟩
        · simp at he
        · simp at hy
          subst hy
          rw [List.dropWhile_cons, if_neg (by simpa using hn), List.takeWhile_cons, if_neg (by simpa using hn)]
          exact ⟨rfl, rfl⟩
      | succ k =>
        have ha := h 0 a (by omega) rfl
        obtain ⟨i1, i2⟩ := ih (k := k) (fun j y hj hy => h (j + 1) y (by omega) (by simpa using hy)) (he.imp (fun c => by simp at c; omega) (fun ⟨y, hy, hn⟩ => ⟨y, by simpa using hy, hn⟩))
        rw [List.dropWhile_cons, if_pos (by simpa using ha), List.takeWhile_cons, if_pos (by simpa using ha), i1, i2]
        exact ⟨rfl, rfl⟩
  rw [this.1, this.2]
  simp

def rput (x : Int) (r : Rn) : Rn := { r with l := putF x r.l }
def rkeepF (x : Int) (r : Rn) : Rn := if 32 < (runsF (putF x r.l)).length then rdropF ((runsF (putF x r.l)).headD (0, 0)).2 (rput x r) else rput x r

/-- What the three appends and the store leave. -/
theorem keep_apps (b n c : Nat) (a : Option Addr) (r : Rn) (x : Int) (w : World) (h : RN w b a n c r) (k : Nat) (hk : k ≤ n) (hn : n ≤ 1000000000000) (a2 : Option Addr) (c2 : Nat) (h2 : RdN w a2 (n - k) (r.l.drop k)) (hs2 : (a2 = none ∧ n - k = 0 ∧ c2 = 0) ∨ ∃ g off, a2 = some ⟨g, off, none⟩) (hpu : putF x r.l = (r.l.take k ++ [x]) ++ r.l.drop k) :
    ∃ a3 c3 W1, (Builtin.append_ #[41, 41] 41 #[.slice none 0 0, .slice a k c]).run Try.prog w = .ok (.slice a3 k c3) W1 ∧
    ∃ a4 c4 W2, (Builtin.append_ #[41, 41] 41 #[.slice a3 k c3, .slice (some ⟨W1.heap.size, 0, none⟩) 1 1]).run Try.prog (W1.alloc (.cells #[.int .i64 x] 2)) = .ok (.slice a4 (k + 1) c4) W2 ∧ W2.cell? ⟨b, 3, none⟩ = some (.slice a n c) ∧
    ∃ a5 c5 W3, (Builtin.append_ #[41, 41] 41 #[.slice a4 (k + 1) c4, .slice a2 (n - k) c2]).run Try.prog W2 = .ok (.slice a5 (n + 1) c5) W3 ∧ (W3.cell? ⟨b, 3, none⟩ = some (.slice a n c) ∧ W3.frozen? ⟨b, 3, none⟩ = false) ∧ RN (W3.setCell ⟨b, 3, none⟩ (.slice a5 (n + 1) c5)) b a5 (n + 1) c5 (rput x r) ∧ w.grownBy W3 none := by
  have hl := h.rd.1
  obtain ⟨a3, c3, W1, q1, q2, q3⟩ := rt_apps w w (.slice none 0 0) [] (r.l.take k) a k c (rt_nil _ _) (grown_self _ _) (h.rd.take k hk) (by
    rcases h.sh with ⟨e1, e2, e3⟩ | e
    · exact .inl ⟨e1, by omega, e3⟩
    · exact .inr e) (by simp; omega)
  have e1 : ([] : List Int).length + (r.l.take k).length = k := by simp; omega
  rw [e1] at q1 q2
  have g1 : w.grownBy W1 none := q3
  have q2' := q2.far (Far.grown (grown_alloc W1 (.cells #[.int .i64 x] 2)))
  have e2 : ([] ++ r.l.take k).length = k := by simp; omega
  obtain ⟨a4, c4, W2, p1, p2, p3⟩ := rt_app w (W1.alloc (.cells #[.int .i64 x] 2)) (.slice a3 k c3) ([] ++ r.l.take k) x W1.heap.size 1 q2' (grown_trans g1 (grown_alloc _ _)) ((Blk.new W1 #[.int .i64 x] 2).cell 0 _ rfl) (by rw [e2]; omega)
  rw [e2] at p1 p2
  have fr : ∀ {V : World} {v : Value} {T : List Int}, RT w V v T → ∀ k, v.ownBlock = some k → w.heap.size ≤ k := fun hv k e => by
    rcases hv.2 with ⟨rfl, -⟩ | ⟨g, c', cur, rfl, q, -⟩
    · cases e
    · cases e; exact q
  have g2 : w.grownBy W2 none := grown_fresh (grown_trans g1 (grown_alloc _ _)) p3 (fr q2')
  obtain ⟨a5, c5, W3, s1, s2, s3⟩ := rt_apps w W2 (.slice a4 (k + 1) c4) ([] ++ r.l.take k ++ [x]) (r.l.drop k) a2 (n - k) c2 p2 g2 (h2.kept (fun g cc hc => g2.block g (Array.getElem?_eq_some_iff.1 hc).1 (by simp))) hs2 (by simp; omega)
  have e3 : ([] ++ r.l.take k ++ [x]).length + (r.l.drop k).length = n + 1 := by simp; omega
  rw [e3] at s1 s2
  have g3 : w.grownBy W3 none := grown_fresh g2 s3 (fr p2)
  have h3 := h.keep g3
  obtain ⟨d1, d2, d3⟩ := rt_rdn s2
  refine ⟨a3, c3, W1, q1, a4, c4, W2, p1, (h.keep g2).cells.1, a5, c5, W3, s1, ⟨h3.cells.1, h3.blk.thaw 3⟩, ?_, g3⟩
  exact h3.put (r' := rput x r) 3 (.slice a5 (n + 1) c5) rfl (by show RdN W3 a5 (n + 1) (putF x r.l); rw [hpu]; simpa using d1) d2 d3
end Go.Proofs.Ytielpjdjlmkejaa

namespace Go.Proofs.Ytielpjdjlmkejaa
open Go.RowKit
set_option linter.unusedVariables false
set_option maxRecDepth 100000
set_option maxHeartbeats 8000000

theorem rkeep_any (b n c : Nat) (a : Option Addr) (r : Rn) (x : Int) (w : World) (h : RN w b a n c r) (hn : n + 1 ≤ 1000000000000) (hp1 : (putF x r.l).Pairwise (· < ·)) (hb1 : ∀ y ∈ putF x r.l, 0 ≤ y ∧ y ≤ 4611686018427387903) :
    Calls Try.prog 47 #[ptr b, .int .i64 x] w fun e w' => e = .returned (.tuple #[]) ∧ (∃ a' n' c', RN w' b a' n' c' (rkeepF x r)) ∧ Kp (fun g => g = b) w w' := by
  have c3 := h.cells.1
  have cap := h.cap
  have HH := hide h
  have HRD := hide h.rd
  have hsh := h.sh
  have HP := hide (And.intro hp1 hb1)
  clear h hp1 hb1
  go_enter Try.func47, Try.ntmps47
  go_wp2_with fail
  go_loopw [4] (fun i wr => ∃ k : Nat, k ≤ n ∧ i = .int .i64 k ∧ wr = w ∧ Hid (∀ j y, j < k → r.l[j]? = some y → y < x)) (fun i _ => n - (intOf i).toNat)
  case atStart => exact ⟨0, Nat.zero_le _, rfl, rfl, fun j y hj => absurd hj (Nat.not_lt_zero _)⟩
  case round =>
    obtain ⟨k, hk, rfl, rfl, H⟩ := hrel
    by_cases hgo : ∃ y, r.l[k]? = some y ∧ y < x
    · obtain ⟨y, hy, hyx⟩ := hgo
      have hkl : k < r.l.length := (List.getElem?_eq_some_iff.1 hy).1
      have hlt : k < n := by rw [← (unhide HRD).1]; exact hkl
      obtain ⟨g, off, rfl, y0⟩ := rdN_at (unhide HRD) k hlt
      have ey : r.l.getD k 0 = y := by rw [List.getD_eq_getElem?_getD, hy]; rfl
      rw [ey] at y0
      have kn : (k : Int) < (n : Int) := by omega
      have knd : decide ((k : Int) < (n : Int)) = true := decide_eq_true kn
      have knn : decide (k < n) = true := decide_eq_true hlt
      have dy : decide (y < x) = true := decide_eq_true hyx
      have E : Hid (∀ j z, j < k + 1 → r.l[j]? = some z → z < x) := by
        intro j z hj hz
        by_cases c : j = k
        · subst c; rw [hy] at hz; cases hz; exact hyx
        · exact unhide H j z (by omega) hz
      have HLT := hide hlt
      clear H hy hkl ey
      go_wp2_with fail
      go_roundw
      case rel => exact ⟨k + 1, unhide HLT, by go_num, trivial, E⟩
      case measure => have := unhide HLT; simp [intOf]; omega
    · have hend : r.l.length ≤ k ∨ ∃ y, r.l[k]? = some y ∧ ¬ y < x := by
        by_cases c : k < r.l.length
        · exact .inr ⟨r.l[k], List.getElem?_eq_getElem c, fun hc => hgo ⟨_, List.getElem?_eq_getElem c, hc⟩⟩
        · exact .inl (by omega)
      have hpu := put_at (unhide H) hend
      have cc : Hid (((decide ((k : Int) < (n : Int)) = false) ∨ ∃ g off y, a = some ⟨g, off, none⟩ ∧ wr.cell? ⟨g, off + k, none⟩ = some (.int .i64 y) ∧ decide (y < x) = false ∧ k < n)) := by
        rcases hend with c | ⟨y, hy, hn⟩
        · exact .inl (decide_eq_false (by have := (unhide HRD).1; omega))
        · have hkl : k < r.l.length := (List.getElem?_eq_some_iff.1 hy).1
          have hlt : k < n := by rw [← (unhide HRD).1]; exact hkl
          obtain ⟨g, off, e, y0⟩ := rdN_at (unhide HRD) k hlt
          have ey : r.l.getD k 0 = y := by rw [List.getD_eq_getElem?_getD, hy]; rfl
          rw [ey] at y0
          exact .inr ⟨g, off, y, e, y0, decide_eq_false hn, hlt⟩
      have kcI : (k : Int) ≤ (n : Int) := by omega
      have HPU := hide hpu
      clear H hgo hend hpu
      rcases hsh with ⟨rfl, rfl, rfl⟩ | ⟨g, off, rfl⟩
      · obtain rfl : k = 0 := by omega
        have KA := keep_apps b 0 0 none r x wr (unhide HH) 0 (by omega) (by omega) none 0 ((unhide HRD).take 0 (by omega) |> fun q => by have e : r.l = [] := List.length_eq_zero_iff.1 (unhide HRD).1; rw [e] at q ⊢; exact q) (.inl ⟨rfl, rfl, rfl⟩) (unhide HPU)
        clear HH HRD cc HPU
        obtain ⟨a3, c3', W1, q1, a4, c4, W2, p1, z2, a5, c5, W3, s1, ⟨z3, t3⟩, rn, g3⟩ := KA
        have KP := hide ((Kp.grown g3 (fun g => g = b)).trans (kp_put W3 b 3 (.slice a5 (0 + 1) c5)))
        have ru := rruns_any b (0 + 1) c5 a5 (rput x r) _ rn (unhide HP).1 (unhide HP).2 (by omega)
        have RNH := hide rn
        have LN := hide (runsF_len (putF x r.l))
        have RP : (rput x r).l = putF x r.l := rfl
        rw [RP] at ru
        have RK : Hid (rkeepF x r = if 32 < (runsF (putF x r.l)).length then rdropF ((runsF (putF x r.l)).headD (0, 0)).2 (rput x r) else rput x r) := rfl
        generalize runsF (putF x r.l) = R at *
        have Q1 := hide q1; have P1 := hide p1; have S1 := hide s1
        clear q1 p1 s1 g3 rn RP
        go_upto_region 5 with (at_builtin; refine wpList_append_run _ rfl _ _ 41 41 rfl _ _ rfl rfl (unhide Q1) ?_)
        go_upto_region 6 with (at_builtin; refine wpList_append_run _ rfl _ _ 41 41 rfl _ _ rfl rfl (unhide P1) ?_)
        go_upto_region 7 with (at_builtin; refine wpList_append_run _ rfl _ _ 41 41 rfl _ _ rfl rfl (unhide S1) ?_)
        go_wp2_with fail
        refine ru.mono ?_
        rintro e W5 ⟨v5, rfl, rrow, rfr, g5⟩
        have G5 := hide g5
        clear ru g5 rfr
        rcases Row.at rrow with ⟨rfl, rfl⟩ | ⟨gr, cr, sp, rfl, hR⟩
        · have RK' : Hid (rkeepF x r = rput x r) := (unhide RK).trans (if_neg (by simp))
          clear RK rrow LN
          go_wp2_with fail
          refine bodyPost_end (results_none rfl _ _ _) rfl ?_
          exact ⟨rfl, ⟨_, _, _, by rw [unhide RK']; exact (unhide RNH).keep (unhide G5)⟩, (unhide KP).trans (Kp.grown (unhide G5) _)⟩
        · by_cases hlt : 32 < R.length
          · have RK' := hide ((unhide RK).trans (if_pos hlt))
            obtain ⟨x0, T1, rfl⟩ : ∃ x0 T1, R = x0 :: T1 := by
              cases R with
              | nil => simp at hlt
              | cons x T1 => exact ⟨x, T1, rfl⟩
            have z1 : W5.cell? ⟨gr, 1, none⟩ = some (.int .i64 x0.2) := hR.cell 1 _ rfl
            have hd := rdrop_any b _ _ _ (rput x r) x0.2 W5 ((unhide RNH).keep (unhide G5))
            have hI : (32 : Int) < ((x0 :: T1).length : Int) := by omega
            clear RK rrow LN hR hlt
            generalize (x0 :: T1).length = q at *
            have hlz : (0 : Int) < (q : Int) := by omega
            go_wp2_with fail
            refine hd.mono ?_
            rintro e W6 ⟨rfl, hrn, hk⟩
            have Z := hide (And.intro hrn hk)
            clear hd hrn hk
            go_wp2_with fail
            refine bodyPost_end (results_none rfl _ _ _) rfl ?_
            refine ⟨rfl, ?_, ((unhide KP).trans (Kp.grown (unhide G5) _)).trans (unhide Z).2⟩
            rw [unhide RK']
            exact (unhide Z).1
          · have RK' : Hid (rkeepF x r = rput x r) := (unhide RK).trans (if_neg hlt)
            have hI : ¬ (32 : Int) < (R.length : Int) := by omega
            clear RK rrow LN hR hlt
            generalize R.length = q at *
            go_wp2_with fail
            refine bodyPost_end (results_none rfl _ _ _) rfl ?_
            exact ⟨rfl, ⟨_, _, _, by rw [unhide RK']; exact (unhide RNH).keep (unhide G5)⟩, (unhide KP).trans (Kp.grown (unhide G5) _)⟩
      · by_cases hck : c = k
        · have en : n = k := by omega
          subst hck
          subst en
          have KA := keep_apps b n n (some ⟨g, off, none⟩) r x wr (unhide HH) n (by omega) (by omega) (some ⟨g, off, none⟩) 0 ⟨by rw [List.length_drop, (unhide HRD).1], .inl (List.drop_eq_nil_of_le (by have := (unhide HRD).1; omega))⟩ (.inr ⟨g, off, rfl⟩) (unhide HPU)
          rw [Nat.sub_self] at KA
          have kn : ¬ (n : Int) < (n : Int) := by omega
          clear HH HRD cc HPU
          obtain ⟨a3, c3', W1, q1, a4, c4, W2, p1, z2, a5, c5, W3, s1, ⟨z3, t3⟩, rn, g3⟩ := KA
          have KP := hide ((Kp.grown g3 (fun g => g = b)).trans (kp_put W3 b 3 (.slice a5 (n + 1) c5)))
          have ru := rruns_any b (n + 1) c5 a5 (rput x r) _ rn (unhide HP).1 (unhide HP).2 (by omega)
          have RNH := hide rn
          have LN := hide (runsF_len (putF x r.l))
          have RP : (rput x r).l = putF x r.l := rfl
          rw [RP] at ru
          have RK : Hid (rkeepF x r = if 32 < (runsF (putF x r.l)).length then rdropF ((runsF (putF x r.l)).headD (0, 0)).2 (rput x r) else rput x r) := rfl
          generalize runsF (putF x r.l) = R at *
          have Q1 := hide q1; have P1 := hide p1; have S1 := hide s1
          clear q1 p1 s1 g3 rn RP
          go_upto_region 5 with (at_builtin; refine wpList_append_run _ rfl _ _ 41 41 rfl _ _ rfl rfl (unhide Q1) ?_)
          go_upto_region 6 with (at_builtin; refine wpList_append_run _ rfl _ _ 41 41 rfl _ _ rfl rfl (unhide P1) ?_)
          go_upto_region 7 with (at_builtin; refine wpList_append_run _ rfl _ _ 41 41 rfl _ _ rfl rfl (unhide S1) ?_)
          go_wp2_with fail
          refine ru.mono ?_
          rintro e W5 ⟨v5, rfl, rrow, rfr, g5⟩
          have G5 := hide g5
          clear ru g5 rfr
          rcases Row.at rrow with ⟨rfl, rfl⟩ | ⟨gr, cr, sp, rfl, hR⟩
          · have RK' : Hid (rkeepF x r = rput x r) := (unhide RK).trans (if_neg (by simp))
            clear RK rrow LN
            go_wp2_with fail
            refine bodyPost_end (results_none rfl _ _ _) rfl ?_
            exact ⟨rfl, ⟨_, _, _, by rw [unhide RK']; exact (unhide RNH).keep (unhide G5)⟩, (unhide KP).trans (Kp.grown (unhide G5) _)⟩
          · by_cases hlt : 32 < R.length
            · have RK' := hide ((unhide RK).trans (if_pos hlt))
              obtain ⟨x0, T1, rfl⟩ : ∃ x0 T1, R = x0 :: T1 := by
                cases R with
                | nil => simp at hlt
                | cons x T1 => exact ⟨x, T1, rfl⟩
              have z1 : W5.cell? ⟨gr, 1, none⟩ = some (.int .i64 x0.2) := hR.cell 1 _ rfl
              have hd := rdrop_any b _ _ _ (rput x r) x0.2 W5 ((unhide RNH).keep (unhide G5))
              have hI : (32 : Int) < ((x0 :: T1).length : Int) := by omega
              clear RK rrow LN hR hlt
              generalize (x0 :: T1).length = q at *
              have hlz : (0 : Int) < (q : Int) := by omega
              go_wp2_with fail
              refine hd.mono ?_
              rintro e W6 ⟨rfl, hrn, hk⟩
              have Z := hide (And.intro hrn hk)
              clear hd hrn hk
              go_wp2_with fail
              refine bodyPost_end (results_none rfl _ _ _) rfl ?_
              refine ⟨rfl, ?_, ((unhide KP).trans (Kp.grown (unhide G5) _)).trans (unhide Z).2⟩
              rw [unhide RK']
              exact (unhide Z).1
            · have RK' : Hid (rkeepF x r = rput x r) := (unhide RK).trans (if_neg hlt)
              have hI : ¬ (32 : Int) < (R.length : Int) := by omega
              clear RK rrow LN hR hlt
              generalize R.length = q at *
              go_wp2_with fail
              refine bodyPost_end (results_none rfl _ _ _) rfl ?_
              exact ⟨rfl, ⟨_, _, _, by rw [unhide RK']; exact (unhide RNH).keep (unhide G5)⟩, (unhide KP).trans (Kp.grown (unhide G5) _)⟩
        · have KA := keep_apps b n c (some ⟨g, off, none⟩) r x wr (unhide HH) k hk (by omega) (some ⟨g, off + k, none⟩) (c - k) ((unhide HRD).drop k hk) (.inr ⟨g, off + k, rfl⟩) (unhide HPU)
          have kc2 : (k : Int) ≤ (c : Int) := by omega
          rcases unhide cc with kd | ⟨g', off', y, e, y0, dy, hlt⟩
          · have kn : ¬ (k : Int) < (n : Int) := by simpa using kd
            clear HH HRD cc HPU kd
            obtain ⟨a3, c3', W1, q1, a4, c4, W2, p1, z2, a5, c5, W3, s1, ⟨z3, t3⟩, rn, g3⟩ := KA
            have KP := hide ((Kp.grown g3 (fun g => g = b)).trans (kp_put W3 b 3 (.slice a5 (n + 1) c5)))
            have ru := rruns_any b (n + 1) c5 a5 (rput x r) _ rn (unhide HP).1 (unhide HP).2 (by omega)
            have RNH := hide rn
            have LN := hide (runsF_len (putF x r.l))
            have RP : (rput x r).l = putF x r.l := rfl
            rw [RP] at ru
            have RK : Hid (rkeepF x r = if 32 < (runsF (putF x r.l)).length then rdropF ((runsF (putF x r.l)).headD (0, 0)).2 (rput x r) else rput x r) := rfl
            generalize runsF (putF x r.l) = R at *
            have Q1 := hide q1; have P1 := hide p1; have S1 := hide s1
            clear q1 p1 s1 g3 rn RP
            go_upto_region 5 with (at_builtin; refine wpList_append_run _ rfl _ _ 41 41 rfl _ _ rfl rfl (unhide Q1) ?_)
            go_upto_region 6 with (at_builtin; refine wpList_append_run _ rfl _ _ 41 41 rfl _ _ rfl rfl (unhide P1) ?_)
            go_upto_region 7 with (at_builtin; refine wpList_append_run _ rfl _ _ 41 41 rfl _ _ rfl rfl (unhide S1) ?_)
            go_wp2_with fail
            refine ru.mono ?_
            rintro e W5 ⟨v5, rfl, rrow, rfr, g5⟩
            have G5 := hide g5
            clear ru g5 rfr
            rcases Row.at rrow with ⟨rfl, rfl⟩ | ⟨gr, cr, sp, rfl, hR⟩
            · have RK' : Hid (rkeepF x r = rput x r) := (unhide RK).trans (if_neg (by simp))
              clear RK rrow LN
              go_wp2_with fail
              refine bodyPost_end (results_none rfl _ _ _) rfl ?_
              exact ⟨rfl, ⟨_, _, _, by rw [unhide RK']; exact (unhide RNH).keep (unhide G5)⟩, (unhide KP).trans (Kp.grown (unhide G5) _)⟩
            · by_cases hlt : 32 < R.length
              · have RK' := hide ((unhide RK).trans (if_pos hlt))
                obtain ⟨x0, T1, rfl⟩ : ∃ x0 T1, R = x0 :: T1 := by
                  cases R with
                  | nil => simp at hlt
                  | cons x T1 => exact ⟨x, T1, rfl⟩
                have z1 : W5.cell? ⟨gr, 1, none⟩ = some (.int .i64 x0.2) := hR.cell 1 _ rfl
                have hd := rdrop_any b _ _ _ (rput x r) x0.2 W5 ((unhide RNH).keep (unhide G5))
                have hI : (32 : Int) < ((x0 :: T1).length : Int) := by omega
                clear RK rrow LN hR hlt
                generalize (x0 :: T1).length = q at *
                have hlz : (0 : Int) < (q : Int) := by omega
                go_wp2_with fail
                refine hd.mono ?_
                rintro e W6 ⟨rfl, hrn, hk⟩
                have Z := hide (And.intro hrn hk)
                clear hd hrn hk
                go_wp2_with fail
                refine bodyPost_end (results_none rfl _ _ _) rfl ?_
                refine ⟨rfl, ?_, ((unhide KP).trans (Kp.grown (unhide G5) _)).trans (unhide Z).2⟩
                rw [unhide RK']
                exact (unhide Z).1
              · have RK' : Hid (rkeepF x r = rput x r) := (unhide RK).trans (if_neg hlt)
                have hI : ¬ (32 : Int) < (R.length : Int) := by omega
                clear RK rrow LN hR hlt
                generalize R.length = q at *
                go_wp2_with fail
                refine bodyPost_end (results_none rfl _ _ _) rfl ?_
                exact ⟨rfl, ⟨_, _, _, by rw [unhide RK']; exact (unhide RNH).keep (unhide G5)⟩, (unhide KP).trans (Kp.grown (unhide G5) _)⟩
          · cases e
            have kn : (k : Int) < (n : Int) := by omega
            have knd : decide ((k : Int) < (n : Int)) = true := decide_eq_true kn
            have knn : decide (k < n) = true := decide_eq_true hlt
            clear HH HRD cc HPU
            obtain ⟨a3, c3', W1, q1, a4, c4, W2, p1, z2, a5, c5, W3, s1, ⟨z3, t3⟩, rn, g3⟩ := KA
            have KP := hide ((Kp.grown g3 (fun g => g = b)).trans (kp_put W3 b 3 (.slice a5 (n + 1) c5)))
            have ru := rruns_any b (n + 1) c5 a5 (rput x r) _ rn (unhide HP).1 (unhide HP).2 (by omega)
            have RNH := hide rn
            have LN := hide (runsF_len (putF x r.l))
            have RP : (rput x r).l = putF x r.l := rfl
            rw [RP] at ru
            have RK : Hid (rkeepF x r = if 32 < (runsF (putF x r.l)).length then rdropF ((runsF (putF x r.l)).headD (0, 0)).2 (rput x r) else rput x r) := rfl
            generalize runsF (putF x r.l) = R at *
            have Q1 := hide q1; have P1 := hide p1; have S1 := hide s1
            clear q1 p1 s1 g3 rn RP
            go_upto_region 5 with (at_builtin; refine wpList_append_run _ rfl _ _ 41 41 rfl _ _ rfl rfl (unhide Q1) ?_)
            go_upto_region 6 with (at_builtin; refine wpList_append_run _ rfl _ _ 41 41 rfl _ _ rfl rfl (unhide P1) ?_)
            go_upto_region 7 with (at_builtin; refine wpList_append_run _ rfl _ _ 41 41 rfl _ _ rfl rfl (unhide S1) ?_)
            go_wp2_with fail
            refine ru.mono ?_
            rintro e W5 ⟨v5, rfl, rrow, rfr, g5⟩
            have G5 := hide g5
            clear ru g5 rfr
            rcases Row.at rrow with ⟨rfl, rfl⟩ | ⟨gr, cr, sp, rfl, hR⟩
            · have RK' : Hid (rkeepF x r = rput x r) := (unhide RK).trans (if_neg (by simp))
              clear RK rrow LN
              go_wp2_with fail
              refine bodyPost_end (results_none rfl _ _ _) rfl ?_
              exact ⟨rfl, ⟨_, _, _, by rw [unhide RK']; exact (unhide RNH).keep (unhide G5)⟩, (unhide KP).trans (Kp.grown (unhide G5) _)⟩
            · by_cases hlt : 32 < R.length
              · have RK' := hide ((unhide RK).trans (if_pos hlt))
                obtain ⟨x0, T1, rfl⟩ : ∃ x0 T1, R = x0 :: T1 := by
                  cases R with
                  | nil => simp at hlt
                  | cons x T1 => exact ⟨x, T1, rfl⟩
                have z1 : W5.cell? ⟨gr, 1, none⟩ = some (.int .i64 x0.2) := hR.cell 1 _ rfl
                have hd := rdrop_any b _ _ _ (rput x r) x0.2 W5 ((unhide RNH).keep (unhide G5))
                have hI : (32 : Int) < ((x0 :: T1).length : Int) := by omega
                clear RK rrow LN hR hlt
                generalize (x0 :: T1).length = q at *
                have hlz : (0 : Int) < (q : Int) := by omega
                go_wp2_with fail
                refine hd.mono ?_
                rintro e W6 ⟨rfl, hrn, hk⟩
                have Z := hide (And.intro hrn hk)
                clear hd hrn hk
                go_wp2_with fail
                refine bodyPost_end (results_none rfl _ _ _) rfl ?_
                refine ⟨rfl, ?_, ((unhide KP).trans (Kp.grown (unhide G5) _)).trans (unhide Z).2⟩
                rw [unhide RK']
                exact (unhide Z).1
              · have RK' : Hid (rkeepF x r = rput x r) := (unhide RK).trans (if_neg hlt)
                have hI : ¬ (32 : Int) < (R.length : Int) := by omega
                clear RK rrow LN hR hlt
                generalize R.length = q at *
                go_wp2_with fail
                refine bodyPost_end (results_none rfl _ _ _) rfl ?_
                exact ⟨rfl, ⟨_, _, _, by rw [unhide RK']; exact (unhide RNH).keep (unhide G5)⟩, (unhide KP).trans (Kp.grown (unhide G5) _)⟩
end Go.Proofs.Ytielpjdjlmkejaa

namespace Go.Proofs.Ytielpjdjlmkejaa
open Go.RowKit
set_option linter.unusedVariables false
set_option maxRecDepth 100000
set_option maxHeartbeats 1000000

def rgoF (now : Int) (r : Rn) : Rn := { r with clock := lat r.clock now }

theorem rstale_any (b n c : Nat) (a : Option Addr) (r : Rn) (now x mark : Int) (el : Bool) (w : World) (h : RN w b a n c r) (hc : r.clock ≤ 1125899906842624) (hfr : rfreshF (rgoF now r) x = false) :
    Calls Try.prog 22 #[ptr b, .int .i64 now, .int .i64 x, .bool el, .int .i64 mark] w fun e w' => e = .returned (.bool false) ∧ RN w' b a n c (rgoF now r) ∧ Kp (fun g => g = b) w w' := by
  have h1 := h.put (r' := rgoF now r) 2 (.int .i64 (lat r.clock now)) rfl h.rd h.cap h.sh
  have c2 := h.blk.cell 2 _ rfl
  have t2 := h.blk.thaw 2
  have hl := later_any r.clock now hc w
  have hf := rfresh_any b n c a (rgoF now r) x _ h1
  rw [hfr] at hf
  have F := hide (And.intro h1 (kp_put w b 2 (.int .i64 (lat r.clock now))))
  clear h h1 hfr hc
  go_enter Try.func22, Try.ntmps22
  go_wp2_with fail
  refine hl.mono ?_
  rintro e W ⟨rfl, rfl⟩
  clear hl
  go_wp2_with fail
  refine hf.mono ?_
  rintro e W ⟨rfl, rfl⟩
  clear hf
  go_wp2_with fail
  go_ret
  exact ⟨rfl, (unhide F).1, (unhide F).2⟩
end Go.Proofs.Ytielpjdjlmkejaa

namespace Go.Proofs.Ytielpjdjlmkejaa
open Go.RowKit
set_option linter.unusedVariables false
set_option maxRecDepth 100000
set_option maxHeartbeats 2000000

theorem RN.c2 {w : World} {b n c : Nat} {a : Option Addr} {r : Rn} (h : RN w b a n c r) : w.cell? ⟨b, 2, none⟩ = some (.int .i64 r.clock) := h.blk.cell 2 _ rfl
theorem RN.c5 {w : World} {b n c : Nat} {a : Option Addr} {r : Rn} (h : RN w b a n c r) : w.cell? ⟨b, 5, none⟩ = some (.int .i64 r.largest) := h.blk.cell 5 _ rfl
theorem RN.c6 {w : World} {b n c : Nat} {a : Option Addr} {r : Rn} (h : RN w b a n c r) : w.cell? ⟨b, 6, none⟩ = some (.int .i64 r.came) := h.blk.cell 6 _ rfl
theorem RN.c7 {w : World} {b n c : Nat} {a : Option Addr} {r : Rn} (h : RN w b a n c r) : w.cell? ⟨b, 7, none⟩ = some (.int .i64 r.c0) := h.blk.cell 7 _ rfl
theorem RN.c9 {w : World} {b n c : Nat} {a : Option Addr} {r : Rn} (h : RN w b a n c r) : w.cell? ⟨b, 9, none⟩ = some (.int .i64 r.c2) := h.blk.cell 9 _ rfl
theorem RN.c12 {w : World} {b n c : Nat} {a : Option Addr} {r : Rn} (h : RN w b a n c r) : w.cell? ⟨b, 12, none⟩ = some (.bool r.any) := h.blk.cell 12 _ rfl
theorem RN.c0 {w : World} {b n c : Nat} {a : Option Addr} {r : Rn} (h : RN w b a n c r) : w.cell? ⟨b, 0, none⟩ = some (.int .i64 r.space) := h.blk.cell 0 _ rfl
theorem RN.c1 {w : World} {b n c : Nat} {a : Option Addr} {r : Rn} (h : RN w b a n c r) : w.cell? ⟨b, 1, none⟩ = some (.int .i64 r.delay) := h.blk.cell 1 _ rfl
theorem RN.c10 {w : World} {b n c : Nat} {a : Option Addr} {r : Rn} (h : RN w b a n c r) : w.cell? ⟨b, 10, none⟩ = some (.int .i64 r.waits) := h.blk.cell 10 _ rfl
theorem RN.c11 {w : World} {b n c : Nat} {a : Option Addr} {r : Rn} (h : RN w b a n c r) : w.cell? ⟨b, 11, none⟩ = some (.int .i64 r.due) := h.blk.cell 11 _ rfl

theorem RN.same {w w' : World} {b n c : Nat} {a : Option Addr} {r : Rn} (h : RN w b a n c r) (hk : ∀ g : Nat, w'.heap[g]? = w.heap[g]?) : RN w' b a n c r :=
  ⟨(hk b).trans h.blk, h.rd.kept (fun g _ _ => hk g), h.cap, h.sh⟩

def rtopF (x : Int) (r : Rn) : Rn := if r.largest < x then { r with largest := x, came := r.clock } else r
def rcountF (mark : Int) (r : Rn) : Rn := { r with c0 := if mark = 1 then r.c0 + 1 else r.c0, c2 := if mark = 2 then r.c2 + 1 else r.c2 }
def rpreF (x mark : Int) (r : Rn) : Rn := rcountF mark (rtopF x r)
def rnotF (x mark : Int) (r : Rn) : Rn := { rkeepF x (rpreF x mark r) with any := true }

theorem rpreF_l (x mark : Int) (r : Rn) : (rpreF x mark r).l = r.l := by unfold rpreF rcountF rtopF; split <;> rfl

theorem rtake_ng1 (b n c : Nat) (a : Option Addr) (r : Rn) (now x mark : Int) (w : World) (h : RN w b a n c r) (hc : r.clock ≤ 1125899906842624) (r1 : Rn) (hr1 : r1 = rgoF now r) (hfr : rfreshF r1 x = true) (hn : n + 1 ≤ 1000000000000) (hp1 : (putF x r1.l).Pairwise (· < ·)) (hb1 : ∀ y ∈ putF x r1.l, 0 ≤ y ∧ y ≤ 4611686018427387903) (hc0 : 0 ≤ r1.c0 ∧ r1.c0 < 9223372036854775807) (hc2 : 0 ≤ r1.c2 ∧ r1.c2 < 9223372036854775807) (hgt : r1.largest < x) (hmk : mark = 1) :
    Calls Try.prog 22 #[ptr b, .int .i64 now, .int .i64 x, .bool false, .int .i64 mark] w fun e w' => e = .returned (.bool true) ∧ (∃ a' n' c', RN w' b a' n' c' (rnotF x mark r1)) ∧ Kp (fun g => g = b) w w' := by
  have h1 : RN (w.setCell ⟨b, 2, none⟩ (.int .i64 (lat r.clock now))) b a n c r1 := by rw [hr1]; exact h.put (r' := rgoF now r) 2 (.int .i64 (lat r.clock now)) rfl h.rd h.cap h.sh
  have k1 := kp_put w b 2 (.int .i64 (lat r.clock now))
  have c2 := h.c2
  have t2 := h.blk.thaw 2
  have hl := later_any r.clock now hc w
  have hf := rfresh_any b n c a r1 x _ h1
  rw [hfr] at hf
  have c5 := h1.c5
  have t5 := h1.blk.thaw 5
  have h2 := h1.put (r' := { r1 with largest := x }) 5 (.int .i64 x) rfl h1.rd h1.cap h1.sh
  have d2 := h2.c2
  have t6 := h2.blk.thaw 6
  have d6 := h2.c6
  have h3 := h2.put (r' := { r1 with largest := x, came := r1.clock }) 6 (.int .i64 r1.clock) rfl h2.rd h2.cap h2.sh
  have k3 := (k1.trans (kp_put _ b 5 (.int .i64 x))).trans (kp_put _ b 6 (.int .i64 r1.clock))
  have c7 := h3.c7
  have t7 := h3.blk.thaw 7
  have h4 := h3.put (r' := { r1 with largest := x, came := r1.clock, c0 := r1.c0 + 1 }) 7 (.int .i64 (r1.c0 + 1)) rfl h3.rd h3.cap h3.sh
  have k4 := k3.trans (kp_put _ b 7 (.int .i64 (r1.c0 + 1)))
  subst hmk
  have E : rpreF x 1 r1 = { r1 with largest := x, came := r1.clock, c0 := r1.c0 + 1 } := by simp [rpreF, rtopF, rcountF, hgt]
  have HK := hide (And.intro (show RN _ b a n c (rpreF x 1 r1) by rw [E]; exact h4) (And.intro (show (putF x (rpreF x 1 r1).l).Pairwise (· < ·) by rw [rpreF_l]; exact hp1) (show ∀ y ∈ putF x (rpreF x 1 r1).l, 0 ≤ y ∧ y ≤ 4611686018427387903 by rw [rpreF_l]; exact hb1)))
  have F := hide k4
  have S : Hid (rnotF x 1 r1 = { rkeepF x (rpreF x 1 r1) with any := true }) := rfl
  have hw0 : IntKind.i64.wrap (r1.c0 + 1) = r1.c0 + 1 := by rw [IntKind.wrap_i64]; omega
  have hw2 : IntKind.i64.wrap (r1.c2 + 1) = r1.c2 + 1 := by rw [IntKind.wrap_i64]; omega
  clear E h h1 hfr hc hp1 hb1 k1 hr1 h2 h3 k3 h4 k4
  generalize rpreF x 1 r1 = rp at *
  go_enter Try.func22, Try.ntmps22
  go_wp2_with fail
  refine hl.mono ?_
  rintro e W ⟨rfl, rfl⟩
  clear hl
  go_wp2_with fail
  refine hf.mono ?_
  rintro e W ⟨rfl, rfl⟩
  clear hf
  go_wp2_with fail
  go_region
  all_goals go_wp2_with fail
  all_goals
    refine (rkeep_any b n c a rp x (World.drew _) ((unhide HK).1.same (fun _ => rfl)) hn (unhide HK).2.1 (unhide HK).2.2).mono ?_
    rintro e W5 ⟨rfl, ⟨a5, n5, c5', h5⟩, k5⟩
    have d12 := h5.c12
    have t12 := h5.blk.thaw 12
    have h6 := h5.put (r' := { rkeepF x rp with any := true }) 12 (.bool true) rfl h5.rd h5.cap h5.sh
    have Z := hide (And.intro h6 (k5.trans (kp_put _ b 12 (.bool true))))
    clear h5 h6 k5
    go_wp2_with fail
    go_ret
    refine ⟨rfl, ⟨a5, n5, c5', ?_⟩, ((unhide F).drewN 1).trans (unhide Z).2⟩
    rw [unhide S]
    exact (unhide Z).1

theorem rtake_ng2 (b n c : Nat) (a : Option Addr) (r : Rn) (now x mark : Int) (w : World) (h : RN w b a n c r) (hc : r.clock ≤ 1125899906842624) (r1 : Rn) (hr1 : r1 = rgoF now r) (hfr : rfreshF r1 x = true) (hn : n + 1 ≤ 1000000000000) (hp1 : (putF x r1.l).Pairwise (· < ·)) (hb1 : ∀ y ∈ putF x r1.l, 0 ≤ y ∧ y ≤ 4611686018427387903) (hc0 : 0 ≤ r1.c0 ∧ r1.c0 < 9223372036854775807) (hc2 : 0 ≤ r1.c2 ∧ r1.c2 < 9223372036854775807) (hgt : r1.largest < x) (hmk : mark = 2) :
    Calls Try.prog 22 #[ptr b, .int .i64 now, .int .i64 x, .bool false, .int .i64 mark] w fun e w' => e = .returned (.bool true) ∧ (∃ a' n' c', RN w' b a' n' c' (rnotF x mark r1)) ∧ Kp (fun g => g = b) w w' := by
  have h1 : RN (w.setCell ⟨b, 2, none⟩ (.int .i64 (lat r.clock now))) b a n c r1 := by rw [hr1]; exact h.put (r' := rgoF now r) 2 (.int .i64 (lat r.clock now)) rfl h.rd h.cap h.sh
  have k1 := kp_put w b 2 (.int .i64 (lat r.clock now))
  have c2 := h.c2
  have t2 := h.blk.thaw 2
  have hl := later_any r.clock now hc w
  have hf := rfresh_any b n c a r1 x _ h1
  rw [hfr] at hf
  have c5 := h1.c5
  have t5 := h1.blk.thaw 5
  have h2 := h1.put (r' := { r1 with largest := x }) 5 (.int .i64 x) rfl h1.rd h1.cap h1.sh
  have d2 := h2.c2
  have t6 := h2.blk.thaw 6
  have d6 := h2.c6
  have h3 := h2.put (r' := { r1 with largest := x, came := r1.clock }) 6 (.int .i64 r1.clock) rfl h2.rd h2.cap h2.sh
  have k3 := (k1.trans (kp_put _ b 5 (.int .i64 x))).trans (kp_put _ b 6 (.int .i64 r1.clock))
  have c7 := h3.c9
  have t7 := h3.blk.thaw 9
  have h4 := h3.put (r' := { r1 with largest := x, came := r1.clock, c2 := r1.c2 + 1 }) 9 (.int .i64 (r1.c2 + 1)) rfl h3.rd h3.cap h3.sh
  have k4 := k3.trans (kp_put _ b 9 (.int .i64 (r1.c2 + 1)))
  subst hmk
  have E : rpreF x 2 r1 = { r1 with largest := x, came := r1.clock, c2 := r1.c2 + 1 } := by simp [rpreF, rtopF, rcountF, hgt]
  have HK := hide (And.intro (show RN _ b a n c (rpreF x 2 r1) by rw [E]; exact h4) (And.intro (show (putF x (rpreF x 2 r1).l).Pairwise (· < ·) by rw [rpreF_l]; exact hp1) (show ∀ y ∈ putF x (rpreF x 2 r1).l, 0 ≤ y ∧ y ≤ 4611686018427387903 by rw [rpreF_l]; exact hb1)))
  have F := hide k4
  have S : Hid (rnotF x 2 r1 = { rkeepF x (rpreF x 2 r1) with any := true }) := rfl
  have hw0 : IntKind.i64.wrap (r1.c0 + 1) = r1.c0 + 1 := by rw [IntKind.wrap_i64]; omega
  have hw2 : IntKind.i64.wrap (r1.c2 + 1) = r1.c2 + 1 := by rw [IntKind.wrap_i64]; omega
  clear E h h1 hfr hc hp1 hb1 k1 hr1 h2 h3 k3 h4 k4
  generalize rpreF x 2 r1 = rp at *
  go_enter Try.func22, Try.ntmps22
  go_wp2_with fail
  refine hl.mono ?_
  rintro e W ⟨rfl, rfl⟩
  clear hl
  go_wp2_with fail
  refine hf.mono ?_
  rintro e W ⟨rfl, rfl⟩
  clear hf
  go_wp2_with fail
  go_region
  all_goals go_wp2_with fail
  all_goals
    refine (rkeep_any b n c a rp x (World.drew _) ((unhide HK).1.same (fun _ => rfl)) hn (unhide HK).2.1 (unhide HK).2.2).mono ?_
    rintro e W5 ⟨rfl, ⟨a5, n5, c5', h5⟩, k5⟩
    have d12 := h5.c12
    have t12 := h5.blk.thaw 12
    have h6 := h5.put (r' := { rkeepF x rp with any := true }) 12 (.bool true) rfl h5.rd h5.cap h5.sh
    have Z := hide (And.intro h6 (k5.trans (kp_put _ b 12 (.bool true))))
    clear h5 h6 k5
    go_wp2_with fail
    go_ret
    refine ⟨rfl, ⟨a5, n5, c5', ?_⟩, ((unhide F).drewN 1).trans (unhide Z).2⟩
    rw [unhide S]
    exact (unhide Z).1

theorem rtake_ng0 (b n c : Nat) (a : Option Addr) (r : Rn) (now x mark : Int) (w : World) (h : RN w b a n c r) (hc : r.clock ≤ 1125899906842624) (r1 : Rn) (hr1 : r1 = rgoF now r) (hfr : rfreshF r1 x = true) (hn : n + 1 ≤ 1000000000000) (hp1 : (putF x r1.l).Pairwise (· < ·)) (hb1 : ∀ y ∈ putF x r1.l, 0 ≤ y ∧ y ≤ 4611686018427387903) (hc0 : 0 ≤ r1.c0 ∧ r1.c0 < 9223372036854775807) (hc2 : 0 ≤ r1.c2 ∧ r1.c2 < 9223372036854775807) (hgt : r1.largest < x) (hmk : mark ≠ 1 ∧ mark ≠ 2) :
    Calls Try.prog 22 #[ptr b, .int .i64 now, .int .i64 x, .bool false, .int .i64 mark] w fun e w' => e = .returned (.bool true) ∧ (∃ a' n' c', RN w' b a' n' c' (rnotF x mark r1)) ∧ Kp (fun g => g = b) w w' := by
  have h1 : RN (w.setCell ⟨b, 2, none⟩ (.int .i64 (lat r.clock now))) b a n c r1 := by rw [hr1]; exact h.put (r' := rgoF now r) 2 (.int .i64 (lat r.clock now)) rfl h.rd h.cap h.sh
  have k1 := kp_put w b 2 (.int .i64 (lat r.clock now))
  have c2 := h.c2
  have t2 := h.blk.thaw 2
  have hl := later_any r.clock now hc w
  have hf := rfresh_any b n c a r1 x _ h1
  rw [hfr] at hf
  have c5 := h1.c5
  have t5 := h1.blk.thaw 5
  have h2 := h1.put (r' := { r1 with largest := x }) 5 (.int .i64 x) rfl h1.rd h1.cap h1.sh
  have d2 := h2.c2
  have t6 := h2.blk.thaw 6
  have d6 := h2.c6
  have h3 := h2.put (r' := { r1 with largest := x, came := r1.clock }) 6 (.int .i64 r1.clock) rfl h2.rd h2.cap h2.sh
  have k3 := (k1.trans (kp_put _ b 5 (.int .i64 x))).trans (kp_put _ b 6 (.int .i64 r1.clock))
  obtain ⟨m1, m2⟩ := hmk
  have b1 : (mark == 1) = false := by rw [beq_eq_false_iff_ne]; exact m1
  have b2 : (mark == 2) = false := by rw [beq_eq_false_iff_ne]; exact m2
  have E : rpreF x mark r1 = { r1 with largest := x, came := r1.clock } := by simp [rpreF, rtopF, rcountF, hgt, m1, m2]
  have HK := hide (And.intro (show RN _ b a n c (rpreF x mark r1) by rw [E]; exact h3) (And.intro (show (putF x (rpreF x mark r1).l).Pairwise (· < ·) by rw [rpreF_l]; exact hp1) (show ∀ y ∈ putF x (rpreF x mark r1).l, 0 ≤ y ∧ y ≤ 4611686018427387903 by rw [rpreF_l]; exact hb1)))
  have F := hide k3
  have S : Hid (rnotF x mark r1 = { rkeepF x (rpreF x mark r1) with any := true }) := rfl
  have hw0 : IntKind.i64.wrap (r1.c0 + 1) = r1.c0 + 1 := by rw [IntKind.wrap_i64]; omega
  have hw2 : IntKind.i64.wrap (r1.c2 + 1) = r1.c2 + 1 := by rw [IntKind.wrap_i64]; omega
  clear E h h1 hfr hc hp1 hb1 k1 hr1 h2 h3 k3
  generalize rpreF x mark r1 = rp at *
  go_enter Try.func22, Try.ntmps22
  go_wp2_with fail
  refine hl.mono ?_
  rintro e W ⟨rfl, rfl⟩
  clear hl
  go_wp2_with fail
  refine hf.mono ?_
  rintro e W ⟨rfl, rfl⟩
  clear hf
  go_wp2_with fail
  refine (rkeep_any b n c a rp x _ ((unhide HK).1.same (fun _ => rfl)) hn (unhide HK).2.1 (unhide HK).2.2).mono ?_
  rintro e W5 ⟨rfl, ⟨a5, n5, c5', h5⟩, k5⟩
  have d12 := h5.c12
  have t12 := h5.blk.thaw 12
  have h6 := h5.put (r' := { rkeepF x rp with any := true }) 12 (.bool true) rfl h5.rd h5.cap h5.sh
  have Z := hide (And.intro h6 (k5.trans (kp_put _ b 12 (.bool true))))
  clear h5 h6 k5
  go_wp2_with fail
  go_ret
  refine ⟨rfl, ⟨a5, n5, c5', ?_⟩, (unhide F).trans (unhide Z).2⟩
  rw [unhide S]
  exact (unhide Z).1

theorem rtake_nl1 (b n c : Nat) (a : Option Addr) (r : Rn) (now x mark : Int) (w : World) (h : RN w b a n c r) (hc : r.clock ≤ 1125899906842624) (r1 : Rn) (hr1 : r1 = rgoF now r) (hfr : rfreshF r1 x = true) (hn : n + 1 ≤ 1000000000000) (hp1 : (putF x r1.l).Pairwise (· < ·)) (hb1 : ∀ y ∈ putF x r1.l, 0 ≤ y ∧ y ≤ 4611686018427387903) (hc0 : 0 ≤ r1.c0 ∧ r1.c0 < 9223372036854775807) (hc2 : 0 ≤ r1.c2 ∧ r1.c2 < 9223372036854775807) (hgt : ¬ r1.largest < x) (hmk : mark = 1) :
    Calls Try.prog 22 #[ptr b, .int .i64 now, .int .i64 x, .bool false, .int .i64 mark] w fun e w' => e = .returned (.bool true) ∧ (∃ a' n' c', RN w' b a' n' c' (rnotF x mark r1)) ∧ Kp (fun g => g = b) w w' := by
  have h1 : RN (w.setCell ⟨b, 2, none⟩ (.int .i64 (lat r.clock now))) b a n c r1 := by rw [hr1]; exact h.put (r' := rgoF now r) 2 (.int .i64 (lat r.clock now)) rfl h.rd h.cap h.sh
  have k1 := kp_put w b 2 (.int .i64 (lat r.clock now))
  have c2 := h.c2
  have t2 := h.blk.thaw 2
  have hl := later_any r.clock now hc w
  have hf := rfresh_any b n c a r1 x _ h1
  rw [hfr] at hf
  have c5 := h1.c5
  have t5 := h1.blk.thaw 5
  have c7 := h1.c7
  have t7 := h1.blk.thaw 7
  have h4 := h1.put (r' := { r1 with c0 := r1.c0 + 1 }) 7 (.int .i64 (r1.c0 + 1)) rfl h1.rd h1.cap h1.sh
  have k4 := k1.trans (kp_put _ b 7 (.int .i64 (r1.c0 + 1)))
  subst hmk
  have E : rpreF x 1 r1 = { r1 with c0 := r1.c0 + 1 } := by simp [rpreF, rtopF, rcountF, hgt]
  have HK := hide (And.intro (show RN _ b a n c (rpreF x 1 r1) by rw [E]; exact h4) (And.intro (show (putF x (rpreF x 1 r1).l).Pairwise (· < ·) by rw [rpreF_l]; exact hp1) (show ∀ y ∈ putF x (rpreF x 1 r1).l, 0 ≤ y ∧ y ≤ 4611686018427387903 by rw [rpreF_l]; exact hb1)))
  have F := hide k4
  have S : Hid (rnotF x 1 r1 = { rkeepF x (rpreF x 1 r1) with any := true }) := rfl
  have hw0 : IntKind.i64.wrap (r1.c0 + 1) = r1.c0 + 1 := by rw [IntKind.wrap_i64]; omega
  have hw2 : IntKind.i64.wrap (r1.c2 + 1) = r1.c2 + 1 := by rw [IntKind.wrap_i64]; omega
  clear E h h1 hfr hc hp1 hb1 k1 hr1 h4 k4
  generalize rpreF x 1 r1 = rp at *
  go_enter Try.func22, Try.ntmps22
  go_wp2_with fail
  refine hl.mono ?_
  rintro e W ⟨rfl, rfl⟩
  clear hl
  go_wp2_with fail
  refine hf.mono ?_
  rintro e W ⟨rfl, rfl⟩
  clear hf
  go_wp2_with fail
  go_region
  all_goals go_wp2_with fail
  all_goals
    refine (rkeep_any b n c a rp x (World.drew _) ((unhide HK).1.same (fun _ => rfl)) hn (unhide HK).2.1 (unhide HK).2.2).mono ?_
    rintro e W5 ⟨rfl, ⟨a5, n5, c5', h5⟩, k5⟩
    have d12 := h5.c12
    have t12 := h5.blk.thaw 12
    have h6 := h5.put (r' := { rkeepF x rp with any := true }) 12 (.bool true) rfl h5.rd h5.cap h5.sh
    have Z := hide (And.intro h6 (k5.trans (kp_put _ b 12 (.bool true))))
    clear h5 h6 k5
    go_wp2_with fail
    go_ret
    refine ⟨rfl, ⟨a5, n5, c5', ?_⟩, ((unhide F).drewN 1).trans (unhide Z).2⟩
    rw [unhide S]
    exact (unhide Z).1

theorem rtake_nl2 (b n c : Nat) (a : Option Addr) (r : Rn) (now x mark : Int) (w : World) (h : RN w b a n c r) (hc : r.clock ≤ 1125899906842624) (r1 : Rn) (hr1 : r1 = rgoF now r) (hfr : rfreshF r1 x = true) (hn : n + 1 ≤ 1000000000000) (hp1 : (putF x r1.l).Pairwise (· < ·)) (hb1 : ∀ y ∈ putF x r1.l, 0 ≤ y ∧ y ≤ 4611686018427387903) (hc0 : 0 ≤ r1.c0 ∧ r1.c0 < 9223372036854775807) (hc2 : 0 ≤ r1.c2 ∧ r1.c2 < 9223372036854775807) (hgt : ¬ r1.largest < x) (hmk : mark = 2) :
    Calls Try.prog 22 #[ptr b, .int .i64 now, .int .i64 x, .bool false, .int .i64 mark] w fun e w' => e = .returned (.bool true) ∧ (∃ a' n' c', RN w' b a' n' c' (rnotF x mark r1)) ∧ Kp (fun g => g = b) w w' := by
  have h1 : RN (w.setCell ⟨b, 2, none⟩ (.int .i64 (lat r.clock now))) b a n c r1 := by rw [hr1]; exact h.put (r' := rgoF now r) 2 (.int .i64 (lat r.clock now)) rfl h.rd h.cap h.sh
  have k1 := kp_put w b 2 (.int .i64 (lat r.clock now))
  have c2 := h.c2
  have t2 := h.blk.thaw 2
  have hl := later_any r.clock now hc w
  have hf := rfresh_any b n c a r1 x _ h1
  rw [hfr] at hf
  have c5 := h1.c5
  have t5 := h1.blk.thaw 5
  have c7 := h1.c9
  have t7 := h1.blk.thaw 9
  have h4 := h1.put (r' := { r1 with c2 := r1.c2 + 1 }) 9 (.int .i64 (r1.c2 + 1)) rfl h1.rd h1.cap h1.sh
  have k4 := k1.trans (kp_put _ b 9 (.int .i64 (r1.c2 + 1)))
  subst hmk
  have E : rpreF x 2 r1 = { r1 with c2 := r1.c2 + 1 } := by simp [rpreF, rtopF, rcountF, hgt]
  have HK := hide (And.intro (show RN _ b a n c (rpreF x 2 r1) by rw [E]; exact h4) (And.intro (show (putF x (rpreF x 2 r1).l).Pairwise (· < ·) by rw [rpreF_l]; exact hp1) (show ∀ y ∈ putF x (rpreF x 2 r1).l, 0 ≤ y ∧ y ≤ 4611686018427387903 by rw [rpreF_l]; exact hb1)))
  have F := hide k4
  have S : Hid (rnotF x 2 r1 = { rkeepF x (rpreF x 2 r1) with any := true }) := rfl
  have hw0 : IntKind.i64.wrap (r1.c0 + 1) = r1.c0 + 1 := by rw [IntKind.wrap_i64]; omega
  have hw2 : IntKind.i64.wrap (r1.c2 + 1) = r1.c2 + 1 := by rw [IntKind.wrap_i64]; omega
  clear E h h1 hfr hc hp1 hb1 k1 hr1 h4 k4
  generalize rpreF x 2 r1 = rp at *
  go_enter Try.func22, Try.ntmps22
  go_wp2_with fail
  refine hl.mono ?_
  rintro e W ⟨rfl, rfl⟩
  clear hl
  go_wp2_with fail
  refine hf.mono ?_
  rintro e W ⟨rfl, rfl⟩
  clear hf
  go_wp2_with fail
  go_region
  all_goals go_wp2_with fail
  all_goals
    refine (rkeep_any b n c a rp x (World.drew _) ((unhide HK).1.same (fun _ => rfl)) hn (unhide HK).2.1 (unhide HK).2.2).mono ?_
    rintro e W5 ⟨rfl, ⟨a5, n5, c5', h5⟩, k5⟩
    have d12 := h5.c12
    have t12 := h5.blk.thaw 12
    have h6 := h5.put (r' := { rkeepF x rp with any := true }) 12 (.bool true) rfl h5.rd h5.cap h5.sh
    have Z := hide (And.intro h6 (k5.trans (kp_put _ b 12 (.bool true))))
    clear h5 h6 k5
    go_wp2_with fail
    go_ret
    refine ⟨rfl, ⟨a5, n5, c5', ?_⟩, ((unhide F).drewN 1).trans (unhide Z).2⟩
    rw [unhide S]
    exact (unhide Z).1

theorem rtake_nl0 (b n c : Nat) (a : Option Addr) (r : Rn) (now x mark : Int) (w : World) (h : RN w b a n c r) (hc : r.clock ≤ 1125899906842624) (r1 : Rn) (hr1 : r1 = rgoF now r) (hfr : rfreshF r1 x = true) (hn : n + 1 ≤ 1000000000000) (hp1 : (putF x r1.l).Pairwise (· < ·)) (hb1 : ∀ y ∈ putF x r1.l, 0 ≤ y ∧ y ≤ 4611686018427387903) (hc0 : 0 ≤ r1.c0 ∧ r1.c0 < 9223372036854775807) (hc2 : 0 ≤ r1.c2 ∧ r1.c2 < 9223372036854775807) (hgt : ¬ r1.largest < x) (hmk : mark ≠ 1 ∧ mark ≠ 2) :
    Calls Try.prog 22 #[ptr b, .int .i64 now, .int .i64 x, .bool false, .int .i64 mark] w fun e w' => e = .returned (.bool true) ∧ (∃ a' n' c', RN w' b a' n' c' (rnotF x mark r1)) ∧ Kp (fun g => g = b) w w' := by
  have h1 : RN (w.setCell ⟨b, 2, none⟩ (.int .i64 (lat r.clock now))) b a n c r1 := by rw [hr1]; exact h.put (r' := rgoF now r) 2 (.int .i64 (lat r.clock now)) rfl h.rd h.cap h.sh
  have k1 := kp_put w b 2 (.int .i64 (lat r.clock now))
  have c2 := h.c2
  have t2 := h.blk.thaw 2
  have hl := later_any r.clock now hc w
  have hf := rfresh_any b n c a r1 x _ h1
  rw [hfr] at hf
  have c5 := h1.c5
  have t5 := h1.blk.thaw 5
  obtain ⟨m1, m2⟩ := hmk
  have b1 : (mark == 1) = false := by rw [beq_eq_false_iff_ne]; exact m1
  have b2 : (mark == 2) = false := by rw [beq_eq_false_iff_ne]; exact m2
  have E : rpreF x mark r1 = r1 := by simp [rpreF, rtopF, rcountF, hgt, m1, m2]
  have HK := hide (And.intro (show RN _ b a n c (rpreF x mark r1) by rw [E]; exact h1) (And.intro (show (putF x (rpreF x mark r1).l).Pairwise (· < ·) by rw [rpreF_l]; exact hp1) (show ∀ y ∈ putF x (rpreF x mark r1).l, 0 ≤ y ∧ y ≤ 4611686018427387903 by rw [rpreF_l]; exact hb1)))
  have F := hide k1
  have S : Hid (rnotF x mark r1 = { rkeepF x (rpreF x mark r1) with any := true }) := rfl
  have hw0 : IntKind.i64.wrap (r1.c0 + 1) = r1.c0 + 1 := by rw [IntKind.wrap_i64]; omega
  have hw2 : IntKind.i64.wrap (r1.c2 + 1) = r1.c2 + 1 := by rw [IntKind.wrap_i64]; omega
  clear E h h1 hfr hc hp1 hb1 k1 hr1
  generalize rpreF x mark r1 = rp at *
  go_enter Try.func22, Try.ntmps22
  go_wp2_with fail
  refine hl.mono ?_
  rintro e W ⟨rfl, rfl⟩
  clear hl
  go_wp2_with fail
  refine hf.mono ?_
  rintro e W ⟨rfl, rfl⟩
  clear hf
  go_wp2_with fail
  refine (rkeep_any b n c a rp x _ ((unhide HK).1.same (fun _ => rfl)) hn (unhide HK).2.1 (unhide HK).2.2).mono ?_
  rintro e W5 ⟨rfl, ⟨a5, n5, c5', h5⟩, k5⟩
  have d12 := h5.c12
  have t12 := h5.blk.thaw 12
  have h6 := h5.put (r' := { rkeepF x rp with any := true }) 12 (.bool true) rfl h5.rd h5.cap h5.sh
  have Z := hide (And.intro h6 (k5.trans (kp_put _ b 12 (.bool true))))
  clear h5 h6 k5
  go_wp2_with fail
  go_ret
  refine ⟨rfl, ⟨a5, n5, c5', ?_⟩, (unhide F).trans (unhide Z).2⟩
  rw [unhide S]
  exact (unhide Z).1

end Go.Proofs.Ytielpjdjlmkejaa
