/- A Seen in memory: its cells; goOn, rest, count, Deadline, Any, Largest, Floor. -/
import Derived.Test.YtielpjdjlmkejaaZB
import Derived.Test.YtielpjdjlmkejaaZA
import Derived.Test.YtielpjdjlmkejaaRA
namespace Go.Proofs.Ytielpjdjlmkejaa
open Go.RowKit
set_option linter.unusedVariables false
set_option maxHeartbeats 400000
set_option maxRecDepth 100000

/-- What a Seen knows. -/
structure Sn where
  space : Int
  delay : Int
  clock : Int
  L : List Sp
  floor : Int
  largest : Int
  came : Int
  c0 : Int
  c2 : Int
  any : Bool
  due : Int

def snc (bs : Nat) (s : Sn) : Array Value := #[.int .i64 s.space, .int .i64 s.delay, .int .i64 s.clock, .pointer (some ⟨bs, 0, none⟩), .int .i64 s.floor, .int .i64 s.largest, .int .i64 s.came, .int .i64 s.c0, .int .i64 0, .int .i64 s.c2, .bool s.any, .int .i64 s.due]

abbrev ptr (b : Nat) : Value := .pointer (some ⟨b, 0, none⟩)
abbrev never : Int := 4611686018427387904

structure SN (w : World) (b bs : Nat) (v : Value) (s : Sn) : Prop where
  blk : Blk w b (snc bs s) 63
  set : SetAt w bs 0 v s.L

/-- What is its own. -/
def Mine (b bs : Nat) (v : Value) (g : Nat) : Prop := g = b ∨ g = bs ∨ v.ownBlock = some g

theorem SN.ne {w : World} {b bs : Nat} {v : Value} {s : Sn} (h : SN w b bs v s) : b ≠ bs := heap_ne h.blk h.set.blk (by decide)
theorem SN.neV {w : World} {b bs : Nat} {v : Value} {s : Sn} (h : SN w b bs v s) : v.ownBlock ≠ some b := h.set.row.ne_of h.blk (by decide)
theorem SN.lt {w : World} {b bs : Nat} {v : Value} {s : Sn} (h : SN w b bs v s) : b < w.heap.size := h.blk.lt
theorem SN.grown {w w' : World} {b bs : Nat} {v : Value} {s : Sn} (h : SN w b bs v s) (g : w.grownBy w' none) : SN w' b bs v s := ⟨h.blk.grown g, h.set.keep g⟩

theorem row_kept {w w' : World} {v : Value} {L : List Sp} (h : Row w v L) (hk : ∀ g, v.ownBlock = some g → w'.heap[g]? = w.heap[g]?) : Row w' v L := by
  rcases Row.at h with ⟨rfl, rfl⟩ | ⟨g, c, sp, rfl, hR⟩
  · exact row_nil _
  · exact RowAt.row (sp := sp) ⟨(hk g rfl).trans hR.1, hR.2⟩
theorem row_lt {w : World} {v : Value} {L : List Sp} (h : Row w v L) : ∀ g, v.ownBlock = some g → g < w.heap.size := fun g e => by
  rcases Row.at h with ⟨rfl, rfl⟩ | ⟨g', c, sp, rfl, hR⟩
  · cases e
  · cases e; exact hR.lt

/-- Whatever leaves its blocks as they are leaves it as it is. -/
theorem SN.kept {w w' : World} {b bs : Nat} {v : Value} {s : Sn} (h : SN w b bs v s) (hk : ∀ g, Mine b bs v g → w'.heap[g]? = w.heap[g]?) : SN w' b bs v s :=
  ⟨(hk b (.inl rfl)).trans h.blk, ⟨(hk bs (.inr (.inl rfl))).trans h.set.blk, row_kept h.set.row (fun g e => hk g (.inr (.inr e)))⟩⟩
theorem SN.mine_lt {w : World} {b bs : Nat} {v : Value} {s : Sn} (h : SN w b bs v s) : ∀ g, Mine b bs v g → g < w.heap.size := by
  rintro g (rfl | rfl | e)
  · exact h.blk.lt
  · exact (Array.getElem?_eq_some_iff.1 h.set.blk).1
  · exact row_lt h.set.row g e
theorem SN.keep {w w' : World} {b bs : Nat} {v : Value} {s : Sn} (h : SN w b bs v s) {S : Nat → Prop} (k : Kp S w w') (hS : ∀ g, Mine b bs v g → ¬ S g) : SN w' b bs v s := h.kept (fun g hg => k.block g (h.mine_lt g hg) (hS g hg))

/-- A cell is written. -/
theorem SN.put {w : World} {b bs : Nat} {v : Value} {s s' : Sn} (h : SN w b bs v s) (j : Nat) (x : Value) (e : snc bs s' = (snc bs s).setIfInBounds j x) (eL : s'.L = s.L) : SN (w.setCell ⟨b, j, none⟩ x) b bs v s' := by
  refine ⟨by rw [e]; exact h.blk.setC j x, ?_, ?_⟩
  · rw [set_heap _ _ _ _ _ h.ne.symm]; exact h.set.blk
  · rw [eL]
    exact row_kept h.set.row (fun g hg => set_heap _ _ _ _ _ (fun e => h.neV (by rw [hg, e])))
theorem kp_put (w : World) (b j : Nat) (x : Value) : Kp (fun g => g = b) w (w.setCell ⟨b, j, none⟩ x) := (Kp.refl _ w).set b j x (fun _ => rfl)

theorem SN.cells {w : World} {b bs : Nat} {v : Value} {s : Sn} (h : SN w b bs v s) : w.cell? ⟨b, 0, none⟩ = some (.int .i64 s.space) ∧ w.cell? ⟨b, 1, none⟩ = some (.int .i64 s.delay) ∧ w.cell? ⟨b, 2, none⟩ = some (.int .i64 s.clock) ∧ w.cell? ⟨b, 3, none⟩ = some (ptr bs) ∧ w.cell? ⟨b, 4, none⟩ = some (.int .i64 s.floor) ∧ w.cell? ⟨b, 5, none⟩ = some (.int .i64 s.largest) ∧ w.cell? ⟨b, 6, none⟩ = some (.int .i64 s.came) ∧ w.cell? ⟨b, 7, none⟩ = some (.int .i64 s.c0) ∧ w.cell? ⟨b, 8, none⟩ = some (.int .i64 0) ∧ w.cell? ⟨b, 9, none⟩ = some (.int .i64 s.c2) ∧ w.cell? ⟨b, 10, none⟩ = some (.bool s.any) ∧ w.cell? ⟨b, 11, none⟩ = some (.int .i64 s.due) :=
  ⟨h.blk.cell 0 _ rfl, h.blk.cell 1 _ rfl, h.blk.cell 2 _ rfl, h.blk.cell 3 _ rfl, h.blk.cell 4 _ rfl, h.blk.cell 5 _ rfl, h.blk.cell 6 _ rfl, h.blk.cell 7 _ rfl, h.blk.cell 8 _ rfl, h.blk.cell 9 _ rfl, h.blk.cell 10 _ rfl, h.blk.cell 11 _ rfl⟩

/-- The clock goes on. -/
def goF (now : Int) (s : Sn) : Sn := { s with clock := min (max now s.clock) 1125899906842624 }
def restF0 (s : Sn) : Sn := { s with any := false, due := never }

theorem goOn_any (b bs : Nat) (v : Value) (s : Sn) (now : Int) (w : World) (h : SN w b bs v s) :
    Calls Try.prog 32 #[ptr b, .int .i64 now] w fun e w' => e = .returned (.tuple #[]) ∧ SN w' b bs v (goF now s) ∧ Kp (fun g => g = b) w w' := by
  have c2 := h.cells.2.2.1
  have t := h.blk.thaw 2
  have F : Hid (∀ x, x = min (max now s.clock) 1125899906842624 → SN (w.setCell ⟨b, 2, none⟩ (.int .i64 x)) b bs v (goF now s) ∧ Kp (fun g => g = b) w (w.setCell ⟨b, 2, none⟩ (.int .i64 x))) := by
    rintro x rfl
    exact ⟨h.put (s' := goF now s) 2 (.int .i64 (min (max now s.clock) 1125899906842624)) rfl rfl, kp_put w b 2 (.int .i64 (min (max now s.clock) 1125899906842624))⟩
  clear h
  generalize s.clock = c at *
  by_cases h1 : c ≤ now
  · by_cases h2 : now ≤ 1125899906842624
    all_goals
      go_enter Try.func32, Try.ntmps32
      go_wp2
      all_goals refine bodyPost_end (results_none rfl _ _ _) rfl ?_
      all_goals exact ⟨rfl, unhide F _ (by omega)⟩
  · by_cases h2 : c ≤ 1125899906842624
    all_goals
      go_enter Try.func32, Try.ntmps32
      go_wp2
      all_goals refine bodyPost_end (results_none rfl _ _ _) rfl ?_
      all_goals exact ⟨rfl, unhide F _ (by omega)⟩

theorem rest_any (b bs : Nat) (v : Value) (s : Sn) (w : World) (h : SN w b bs v s) :
    Calls Try.prog 37 #[ptr b] w fun e w' => e = .returned (.tuple #[]) ∧ SN w' b bs v (restF0 s) ∧ Kp (fun g => g = b) w w' := by
  have h1 := h.put (s' := { s with any := false }) 10 (.bool false) rfl rfl
  have h2 := h1.put (s' := restF0 s) 11 (.int .i64 never) rfl rfl
  have c10 := h.cells.2.2.2.2.2.2.2.2.2.2.1
  have t := h.blk.thaw 10
  have c11 := h1.cells.2.2.2.2.2.2.2.2.2.2.2
  have t11 := h1.blk.thaw 11
  have F := hide (And.intro h2 ((kp_put w b 10 (.bool false)).trans (kp_put _ b 11 (.int .i64 never))))
  clear h h1 h2
  go_enter Try.func37, Try.ntmps37
  go_wp2
  refine bodyPost_end (results_none rfl _ _ _) rfl ?_
  exact ⟨rfl, (unhide F).1, (unhide F).2⟩

theorem due_any (b bs : Nat) (v : Value) (s : Sn) (w : World) (h : SN w b bs v s) : Calls Try.prog 20 #[ptr b] w fun e w' => e = .returned (.int .i64 s.due) ∧ w' = w := by
  have c := h.cells.2.2.2.2.2.2.2.2.2.2.2
  clear h
  generalize s.due = d at *
  go_enter Try.func20, Try.ntmps20
  go_wp2
  go_ret
  exact ⟨rfl, rfl⟩
theorem any_any (b bs : Nat) (v : Value) (s : Sn) (w : World) (h : SN w b bs v s) : Calls Try.prog 24 #[ptr b] w fun e w' => e = .returned (.bool s.any) ∧ w' = w := by
  have c := h.cells.2.2.2.2.2.2.2.2.2.2.1
  clear h
  generalize s.any = d at *
  go_enter Try.func24, Try.ntmps24
  go_wp2
  go_ret
  exact ⟨rfl, rfl⟩
theorem largest_any (b bs : Nat) (v : Value) (s : Sn) (w : World) (h : SN w b bs v s) : Calls Try.prog 25 #[ptr b] w fun e w' => e = .returned (.int .i64 s.largest) ∧ w' = w := by
  have c := h.cells.2.2.2.2.2.1
  clear h
  generalize s.largest = d at *
  go_enter Try.func25, Try.ntmps25
  go_wp2
  go_ret
  exact ⟨rfl, rfl⟩
theorem floor_any (b bs : Nat) (v : Value) (s : Sn) (w : World) (h : SN w b bs v s) : Calls Try.prog 15 #[ptr b] w fun e w' => e = .returned (.int .i64 s.floor) ∧ w' = w := by
  have c := h.cells.2.2.2.2.1
  clear h
  generalize s.floor = d at *
  go_enter Try.func15, Try.ntmps15
  go_wp2
  go_ret
  exact ⟨rfl, rfl⟩
end Go.Proofs.Ytielpjdjlmkejaa
