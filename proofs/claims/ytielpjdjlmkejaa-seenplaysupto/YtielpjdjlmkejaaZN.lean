/- Ack. -/
import Derived.Test.YtielpjdjlmkejaaZK
import Derived.Deep.RegionHeld3
import Derived.Laws.StructEq
import Derived.ChangeKeysEq
namespace Go.Proofs.Ytielpjdjlmkejaa
open Go.RowKit Go.Shelf
set_option linter.unusedVariables false
set_option maxHeartbeats 4000000
set_option maxRecDepth 100000

/-- The cells of an acknowledgement; of none. -/
def fr0 : Array Value := #[.int .i64 0, .int .i64 0, .int .i64 0, .slice none 0 0, .int .i64 0, .bool false, .bool false, .int .i64 0, .bool false, .int .i64 0, .bool false, .int .i64 0, .slice none 0 0, .bool false, .int .i64 0, .int .i64 0, .int .i64 0]
def frA (rv : Value) (delay : Int) (marks : Bool) (c0 c2 : Int) : Array Value := #[.int .i64 2, .int .i64 0, .int .i64 0, .slice none 0 0, .int .i64 0, .bool false, .bool false, .int .i64 0, .bool false, .int .i64 0, .bool false, .int .i64 delay, rv, .bool marks, .int .i64 c0, .int .i64 0, .int .i64 c2]

theorem Try.sizeFr : (Try.prog.info? 48).map (·.size) = some 17 := by kernel_rfl

theorem Try.infoI : (Try.prog.info? 2).map (fun i => (i.zero, i.size, i.bytes)) = some (some (.int .i64 0), 1, 8) := by kernel_rfl
theorem Try.undI : Try.prog.underlying 2 = some (.int .i64) := by kernel_rfl
theorem Try.undA : Try.prog.underlying 46 = some (.array 3 2) := by kernel_rfl
theorem Try.cellsI : Try.prog.cellsOf 2 = 1 := by kernel_rfl
theorem eq3 (c0 c2 : Int) (W : World) : (Op.equalIn 10000 46 (.agg #[.int .i64 c0, .int .i64 0, .int .i64 c2]) (.agg #[.int .i64 0, .int .i64 0, .int .i64 0])).run Try.prog W = .ok (decide (c0 = 0 ∧ c2 = 0)) W := by
  obtain ⟨i, hi, -, hz, -⟩ := info_parts Try.infoI
  rw [run_equalIn_array W 9999 _ _ Try.undA hi]
  have hp : ∀ (xs : Array Value) (j : Nat) (v : Value), xs[j]? = some v → (part 2 xs j).run Try.prog W = .ok v W := fun xs j v hv => by
    simp [part, sizeOf, typeInfo, hi, hz, hv]
  simp only [show List.range 3 = [0, 1, 2] from rfl, Op.eqItems, Sem.run_bind, Try.cellsI, Nat.zero_mul, Nat.one_mul, Nat.reduceMul]
  have hq : ∀ a b : Int, (Op.equalIn 9999 2 (.int .i64 a) (.int .i64 b)).run Try.prog W = .ok (a == b) W := fun a b => run_equalIn_int W 9998 2 .i64 .i64 a b Try.undI
  rw [hp #[.int .i64 c0, .int .i64 0, .int .i64 c2] 0 (.int .i64 c0) rfl]
  simp only [Result.andThen_ok]
  rw [hp #[.int .i64 0, .int .i64 0, .int .i64 0] 0 (.int .i64 0) rfl]
  simp only [Result.andThen_ok, hq]
  have e1 := hp #[.int .i64 c0, .int .i64 0, .int .i64 c2] 1 (.int .i64 0) rfl
  have e2 := hp #[.int .i64 c0, .int .i64 0, .int .i64 c2] 2 (.int .i64 c2) rfl
  have e3 := hp #[.int .i64 0, .int .i64 0, .int .i64 0] 1 (.int .i64 0) rfl
  have e4 := hp #[.int .i64 0, .int .i64 0, .int .i64 0] 2 (.int .i64 0) rfl
  by_cases h0 : c0 = 0
  · subst h0
    by_cases h2 : c2 = 0
    · subst h2
      simp [e3, e4, hq]
    · simp [h2, e1, e2, e3, e4, hq]
  · simp [h0]

def CollPost (X : World) (L : List Sp) (a : Option Addr) (c : Nat) (W' : World) : Prop := Row W' (.slice a L.length c) L.reverse ∧ Fresh X (.slice a L.length c) ∧ X.grownBy W' none

theorem coll_at (W X : World) (bs k : Nat) (v : Value) (L : List Sp) (h0 : SetAt W bs 0 v L) (hg : W.grownBy X none) (hB : X.cell? ⟨k, 0, none⟩ = some (ptr bs)) (hlen : L.length ≤ 8000000000000) :
    Calls Try.prog 38 #[.func (.func 54) #[] #[.pointer (some ⟨k, 0, none⟩)]] X fun e W' => ∃ a c, e = .returned (.slice a L.length c) ∧ CollPost X L a c W' := by
  refine (collect_any k bs L X hB (fun Y hY => ?_) hlen).mono ?_
  · exact runs_any bs 0 v L Y (h0.keep (grown_trans hg ⟨hY.os, hY.tape, hY.output, hY.size, fun k hk _ => hY.block k hk⟩)) (by omega)
  · rintro e W' ⟨v', rfl, h1, h2, h3⟩
    obtain ⟨a, c, rfl, -, -, -⟩ := h1.shape
    rw [List.length_reverse] at h1 h2 ⊢
    exact ⟨a, c, rfl, h1, h2, h3⟩

theorem fr0_cells {W : World} {g : Nat} (h : Blk W g fr0 48) : (∀ j, W.frozen? ⟨g, j, none⟩ = false) ∧ W.cell? ⟨g, 0, none⟩ = some (.int .i64 0) ∧ W.cell? ⟨g, 1, none⟩ = some (.int .i64 0) ∧ W.cell? ⟨g, 2, none⟩ = some (.int .i64 0) ∧ W.cell? ⟨g, 3, none⟩ = some (.slice none 0 0) ∧ W.cell? ⟨g, 4, none⟩ = some (.int .i64 0) ∧ W.cell? ⟨g, 5, none⟩ = some (.bool false) ∧ W.cell? ⟨g, 6, none⟩ = some (.bool false) ∧ W.cell? ⟨g, 7, none⟩ = some (.int .i64 0) ∧ W.cell? ⟨g, 8, none⟩ = some (.bool false) ∧ W.cell? ⟨g, 9, none⟩ = some (.int .i64 0) ∧ W.cell? ⟨g, 10, none⟩ = some (.bool false) ∧ W.cell? ⟨g, 11, none⟩ = some (.int .i64 0) ∧ W.cell? ⟨g, 12, none⟩ = some (.slice none 0 0) ∧ W.cell? ⟨g, 13, none⟩ = some (.bool false) ∧ W.cell? ⟨g, 14, none⟩ = some (.int .i64 0) ∧ W.cell? ⟨g, 15, none⟩ = some (.int .i64 0) ∧ W.cell? ⟨g, 16, none⟩ = some (.int .i64 0) :=
  ⟨h.thaws, h.cell 0 _ rfl, h.cell 1 _ rfl, h.cell 2 _ rfl, h.cell 3 _ rfl, h.cell 4 _ rfl, h.cell 5 _ rfl, h.cell 6 _ rfl, h.cell 7 _ rfl, h.cell 8 _ rfl, h.cell 9 _ rfl, h.cell 10 _ rfl, h.cell 11 _ rfl, h.cell 12 _ rfl, h.cell 13 _ rfl, h.cell 14 _ rfl, h.cell 15 _ rfl, h.cell 16 _ rfl⟩

theorem ack_none (b bs : Nat) (v : Value) (s : Sn) (now ex : Int) (w : World) (h : SN w b bs v s) (hL : s.L = []) :
    Calls Try.prog 14 #[ptr b, .int .i64 now, .int .i64 ex] w fun e w' => e = .returned (.tuple #[.agg fr0, .bool false]) ∧ To b bs v w (goF now s) w' := by
  obtain ⟨W1, hW1⟩ : ∃ W1, W1 = w.alloc (.cells fr0 48) := ⟨_, rfl⟩
  have g1 : w.grownBy W1 none := by rw [hW1]; exact grown_alloc _ _
  have b1 : Blk W1 w.heap.size fr0 48 := by rw [hW1]; exact Blk.new _ _ _
  have hne : w.heap.size ≠ b := by have := h.lt; omega
  have hgo := goOn_any b bs v s now W1 (h.grown g1)
  have G1 := hide g1; have B1 := hide b1
  have HL := hide hL
  clear h hL g1 b1
  unfold fr0 at hW1
  go_enter Try.func14, Try.ntmps14
  go_wp2_with fail
  rw [← hW1]
  clear hW1
  refine hgo.mono ?_
  rintro e W2 ⟨rfl, h2, k2⟩
  have c3 := h2.cells.2.2.2.1
  have hl := len_set bs v s.L W2 h2.set
  rw [unhide HL] at hl
  have b2 : Hid (Blk W2 w.heap.size fr0 48) := (k2.block _ (unhide B1).lt hne).trans (unhide B1)
  have T := hide (And.intro h2 k2)
  clear hgo h2 k2 B1
  go_wp2_with fail
  refine hl.mono ?_
  rintro e W3 ⟨rfl, rfl⟩
  clear hl
  have srow := setRow_same (unhide b2)
  go_wp2_with (refine wpList_store_row rfl _ _ _ rfl w.heap.size fr0 rfl rfl 48 _ (unhide b2) Try.sizeFr rfl (by simp [fr0, Value.oneCell']) ?_; rw [srow])
  refine bodyPost_ret (results_ct rfl _ _ w.heap.size fr0 _ rfl (unhide b2) Try.underlying48 rfl Try.sizeFr) rfl ?_
  refine ⟨rfl, To.of (unhide T).1 ((Kp.grown (unhide G1) _).trans (unhide T).2)⟩

def ackS (now : Int) (s : Sn) : Sn := restF0 (goF now s)
def dlyF (x ex : Int) : Int := x / 2 ^ (min (max ex 0) 20).toNat
def mrkF (c0 c2 : Int) : Bool := !decide (c0 = 0 ∧ c2 = 0)
theorem dly_lo (x ex : Int) (h : ex < 0) : x = dlyF x ex := by
  unfold dlyF
  have e : (min (max ex 0) 20).toNat = 0 := by omega
  rw [e, Int.pow_zero, Int.ediv_one]
theorem dly_mid (x ex : Int) (h : 0 ≤ ex) (h2 : ex ≤ 20) : x / 2 ^ ex.toNat = dlyF x ex := by
  unfold dlyF
  have e : min (max ex 0) 20 = ex := by omega
  rw [e]
theorem dly_hi (x ex : Int) (h2 : 20 < ex) : x / 1048576 = dlyF x ex := by
  unfold dlyF
  have e : (min (max ex 0) 20).toNat = 20 := by omega
  rw [e]; rfl


theorem setRow_size (w : World) (g : Nat) (cs : Array Value) : (w.setRow g cs).heap.size = w.heap.size := by
  show (w.heap.modify g _).size = _
  rw [Array.size_modify]

/-- What stands behind the writing. -/
theorem ack_fin {w Wc : World} {b bs : Nat} {v : Value} {s' : Sn} (rv : Value) (L : List Sp) (cs : Array Value) (hb : Blk Wc w.heap.size fr0 48) (hsn : SN Wc b bs v s') (hml : ∀ g, Mine b bs v g → g < w.heap.size) (hk : Kp (fun g => g = b) w Wc) (row : Row Wc rv L) (hne : ∀ g, rv.ownBlock = some g → w.heap.size < g) :
    Blk (Wc.setRow w.heap.size cs) w.heap.size cs 48 ∧ Row (Wc.setRow w.heap.size cs) rv L ∧ Fresh w rv ∧ To b bs v w s' (Wc.setRow w.heap.size cs) :=
  ⟨hb.row cs, row_kept row (fun g e => setRow_other Wc _ g cs (by have := hne g e; omega)), fun g e => Nat.le_of_lt (hne g e),
    To.of (hsn.kept (fun g hg => setRow_other Wc _ g cs (by have := hml g hg; omega)))
      ⟨hk.os, hk.tape, hk.output, by rw [setRow_size]; exact hk.size, fun g hg hn => (setRow_other Wc _ g cs (by omega)).trans (hk.block g hg hn)⟩⟩
end Go.Proofs.Ytielpjdjlmkejaa
