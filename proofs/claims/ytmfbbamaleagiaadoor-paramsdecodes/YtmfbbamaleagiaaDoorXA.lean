/- Layer 6: the table; valuesOf, paramsOf, defaults, Default, place, Check. -/
import Derived.Test.YtmfbbamaleagiaaDoorX0
import Derived.BigQuiet
namespace Go.Proofs.YtmfbbamaleagiaaDoor
open Go.RowKit
set_option linter.unusedVariables false
set_option maxRecDepth 100000
set_option maxHeartbeats 1000000

/-- The table: numbers, greatest values, defaults. -/
def numT (k : Nat) : Int := [1, 4, 5, 6, 7, 8, 9, 10, 11].getD k 0
def mostT (k : Nat) : Int := [68719476736, 1048576, 1048576, 1048576, 1048576, 32, 32, 20, 16383000].getD k 0
def untT (k : Nat) : Int := [0, 0, 0, 0, 0, 0, 0, 3, 25000].getD k 0

def tbl : Array Value := #[.int .u64 1, .int .i64 68719476736, .int .i64 0, .int .u64 4, .int .i64 1048576, .int .i64 0, .int .u64 5, .int .i64 1048576, .int .i64 0, .int .u64 6, .int .i64 1048576, .int .i64 0,
  .int .u64 7, .int .i64 1048576, .int .i64 0, .int .u64 8, .int .i64 32, .int .i64 0, .int .u64 9, .int .i64 32, .int .i64 0, .int .u64 10, .int .i64 20, .int .i64 3, .int .u64 11, .int .i64 16383000, .int .i64 25000]

/-- The world has the table. -/
def Tb (w : World) : Prop := ∃ t f, w.heap[0]? = some (.cells tbl t f)

theorem Tb.lt {w : World} (h : Tb w) : 0 < w.heap.size := by
  obtain ⟨t, f, h⟩ := h
  by_cases c : 0 < w.heap.size
  · exact c
  · rw [Array.getElem?_eq_none (by omega)] at h; cases h
theorem Tb.grown {w W : World} (h : Tb w) (g : w.grownBy W none) : Tb W := by
  have hl := h.lt
  obtain ⟨t, f, h⟩ := h
  exact ⟨t, f, (g.block 0 hl (by simp)).trans h⟩
theorem Tb.far {w W : World} {b : Nat} (h : Tb w) (g : w.grownBy W (some b)) (hb : 0 < b) : Tb W := by
  have hl := h.lt
  obtain ⟨t, f, h⟩ := h
  exact ⟨t, f, (g.block 0 hl (by simp; omega)).trans h⟩
theorem Tb.alloc {w : World} (h : Tb w) (o : Obj) : Tb (w.alloc o) := h.grown (World.grownBy_alloc w o none)
theorem Tb.drewN {w : World} (h : Tb w) (q : Nat) : Tb (w.drewN q) := h
theorem Tb.cell {w : World} (h : Tb w) (j : Nat) (v : Value) (hv : tbl[j]? = some v) : w.cell? ⟨0, j, none⟩ = some v := by
  obtain ⟨t, f, h⟩ := h
  simp [World.cell?, h, hv]
theorem tbl_at (k : Nat) (hk : k < 9) : tbl[k * 3]? = some (.int .u64 (numT k)) ∧ tbl[k * 3 + 1]? = some (.int .i64 (mostT k)) ∧ tbl[k * 3 + 2]? = some (.int .i64 (untT k)) := by
  obtain rfl | rfl | rfl | rfl | rfl | rfl | rfl | rfl | rfl : k = 0 ∨ k = 1 ∨ k = 2 ∨ k = 3 ∨ k = 4 ∨ k = 5 ∨ k = 6 ∨ k = 7 ∨ k = 8 := by omega
  all_goals exact ⟨rfl, rfl, rfl⟩
theorem Tb.at_ {w : World} (h : Tb w) (k : Nat) (hk : k < 9) : w.cell? ⟨0, k * 3, none⟩ = some (.int .u64 (numT k)) ∧ w.cell? ⟨0, k * 3 + 1, none⟩ = some (.int .i64 (mostT k)) ∧ w.cell? ⟨0, k * 3 + 2, none⟩ = some (.int .i64 (untT k)) := by
  obtain ⟨h1, h2, h3⟩ := tbl_at k hk
  exact ⟨h.cell _ _ h1, h.cell _ _ h2, h.cell _ _ h3⟩

/-- Parameters. -/
structure Ps where
  (a0 a1 a2 a3 a4 a5 a6 a7 a8 : Int)
def Ps.cs (p : Ps) : Array Value := #[.int .i64 p.a0, .int .i64 p.a1, .int .i64 p.a2, .int .i64 p.a3, .int .i64 p.a4, .int .i64 p.a5, .int .i64 p.a6, .int .i64 p.a7, .int .i64 p.a8]
def Ps.l (p : Ps) : List Int := [p.a0, p.a1, p.a2, p.a3, p.a4, p.a5, p.a6, p.a7, p.a8]

theorem Tryd.sizeV : (Tryd.prog.info? 56).map (·.size) = some 9 := by kernel_rfl
theorem Tryd.sizePs : (Tryd.prog.info? 23).map (·.size) = some 9 := by kernel_rfl

theorem Ps.one (p : Ps) : p.cs.all (·.oneCell') = true := by simp [Ps.cs, Value.oneCell']
theorem Ps.size (p : Ps) : p.cs.size = 9 := rfl
theorem grown2 (w : World) (a b : Obj) : w.grownBy ((w.alloc a).alloc b) none := (World.grownBy_alloc w a none).trans (World.grownBy_alloc _ b none)

theorem valuesOf_any (p : Ps) (w : World) : Calls Tryd.prog 29 #[.agg p.cs] w fun e w' => e = .returned (.agg p.cs) ∧ w.grownBy w' none := by
  unfold Ps.cs
  go_enter Tryd.func29, Tryd.ntmps29
  go_wp2
  refine bodyPost_ret (results_cell_row rfl _ _ (w.heap.size + 1) 56 _ (0, 0) _ rfl (Blk.two w _ _ _ _).2.1 Tryd.underlying56 rfl Tryd.sizeV) rfl ?_
  exact ⟨rfl, grown2 _ _ _⟩
theorem paramsOf_any (p : Ps) (w : World) : Calls Tryd.prog 27 #[.agg p.cs] w fun e w' => e = .returned (.agg p.cs) ∧ w.grownBy w' none := by
  unfold Ps.cs
  go_enter Tryd.func27, Tryd.ntmps27
  go_wp2
  refine bodyPost_ret (results_cell_row rfl _ _ (w.heap.size + 1) 23 _ (0, 0) _ rfl (Blk.two w _ _ _ _).2.1 Tryd.underlying23 rfl Tryd.sizePs) rfl ?_
  exact ⟨rfl, grown2 _ _ _⟩

/-- What holds of what isn't told; of the first k. -/
def untK (k : Nat) : Array Value := ((List.range 9).map fun j => Value.int .i64 (if j < k then untT j else 0)).toArray
def dflt : Ps := ⟨0, 0, 0, 0, 0, 0, 0, 3, 25000⟩
theorem untK_step (k : Nat) (hk : k < 9) : (untK k).setIfInBounds k (.int .i64 (untT k)) = untK (k + 1) := by
  obtain rfl | rfl | rfl | rfl | rfl | rfl | rfl | rfl | rfl : k = 0 ∨ k = 1 ∨ k = 2 ∨ k = 3 ∨ k = 4 ∨ k = 5 ∨ k = 6 ∨ k = 7 ∨ k = 8 := by omega
  all_goals rfl
theorem untK_9 : untK 9 = dflt.cs := rfl
theorem untK_size (k : Nat) : (untK k).size = 9 := by simp [untK]
/-- A row of the table. -/
def rowT (k : Nat) : Array Value := #[.int .u64 (numT k), .int .i64 (mostT k), .int .i64 (untT k)]
theorem tbl_index (k : Nat) (hk : k < 9) (w : World) : (Instr.index 61 (.agg tbl) (.int .i64 k)).run Tryd.prog w = .ok (.agg (rowT k)) w := by
  obtain rfl | rfl | rfl | rfl | rfl | rfl | rfl | rfl | rfl : k = 0 ∨ k = 1 ∨ k = 2 ∨ k = 3 ∨ k = 4 ∨ k = 5 ∨ k = 6 ∨ k = 7 ∨ k = 8 := by omega
  all_goals kernel_rfl
theorem Tryd.sizeT : (Tryd.prog.info? 61).map (·.size) = some 27 := by kernel_rfl
theorem wpList_load_tbl {ops : Array Oper} {rest : List Oper} {o : Oper} {a : Act} {w : World} {Q : Exit → Act → World → Prop}
    (hg : o.guard = none) (x : Operand) (ho : o.op = .load 61 x) (hx : a.eval x = .pointer (some ⟨0, 0, none⟩)) (h : Tb w)
    (hK : wpList Tryd.prog ops Q rest (a.put o.dst (.agg tbl)) w) : wpList Tryd.prog ops Q (o :: rest) a w := by
  obtain ⟨t, f, h⟩ := h
  exact wpList_load_row hg _ x ho 0 hx t tbl f _ h Tryd.underlying61 rfl Tryd.sizeT hK

def zero9 : Array Value := #[.int .i64 0, .int .i64 0, .int .i64 0, .int .i64 0, .int .i64 0, .int .i64 0, .int .i64 0, .int .i64 0, .int .i64 0]
theorem untK_get (k j : Nat) (hj : j < 9) : ∃ v, (untK k)[j]? = some v := by
  refine ⟨_, Array.getElem?_eq_getElem (by rw [untK_size]; exact hj)⟩

theorem defaults_any (w : World) (h : Tb w) : Calls Tryd.prog 28 #[] w fun e w' => e = .returned (.agg dflt.cs) ∧ w.grownBy w' none := by
  go_enter Tryd.func28, Tryd.ntmps28
  go_wp2_with (refine wpList_load_tbl rfl _ rfl rfl (by first | exact h | exact (h.alloc _).alloc _) ?_)
  have b0 := (Blk.two w zero9 zero9 56 56)
  have g0 := grown2 w (.cells zero9 56) (.cells zero9 56)
  unfold zero9 at b0 g0
  generalize ((w.alloc _).alloc _) = W at *
  go_loopw [5] (fun i wr => ∃ k : Nat, k ≤ 9 ∧ i = .int .i64 k ∧ Blk wr w.heap.size (untK 0) 56 ∧ Blk wr (w.heap.size + 1) (untK k) 56 ∧ w.grownBy wr none) (fun i _ => 9 - (intOf i).toNat)
  case atStart => exact ⟨0, by omega, rfl, b0.1, b0.2.1, g0⟩
  case round =>
    obtain ⟨k, hk, rfl, B0, B1, gr⟩ := hrel
    clear b0 g0
    by_cases hk9 : k = 9
    · subst hk9
      have B1' : Blk wr (w.heap.size + 1) dflt.cs 56 := B1
      have FB : Hid (Blk (wr.setRow w.heap.size dflt.cs) w.heap.size dflt.cs 56 ∧ w.grownBy (wr.setRow w.heap.size dflt.cs) none) := ⟨B0.row _, grown_row gr _ _ (Nat.le_refl _)⟩
      have HB0 := hide B0; have HB1 := hide B1'
      clear B0 B1 B1' gr
      go_wp2_with (first | (refine wpList_load_row rfl _ _ rfl (w.heap.size + 1) rfl _ _ (0, 0) _ (unhide HB1) Tryd.underlying56 rfl Tryd.sizeV ?_) | (refine wpList_store_row rfl _ _ _ rfl w.heap.size dflt.cs rfl rfl 56 _ (unhide HB0) Tryd.sizeV (by rw [untK_size]; rfl) (Ps.one _) ?_))
      refine bodyPost_ret (results_cell_row rfl _ _ w.heap.size 56 _ (0, 0) _ rfl (unhide FB).1 Tryd.underlying56 rfl Tryd.sizeV) rfl ?_
      exact ⟨rfl, (unhide FB).2⟩
    · have hlt : (k : Int) < 9 := by omega
      have hi := fun W => tbl_index k (by omega) W
      have A1 := B1.alloc (.cells (rowT k) 60)
      obtain ⟨v, hv⟩ := untK_get k k (by omega)
      have c1 := A1.cell k v hv
      have t1 := A1.thaw k
      unfold rowT at hi c1 t1
      have F : Hid (∃ k' : Nat, k' ≤ 9 ∧ (.int .i64 ((k : Int) + 1) : Value) = .int .i64 k' ∧ Blk ((wr.alloc (.cells (rowT k) 60)).setCell ⟨w.heap.size + 1, k, none⟩ (.int .i64 (untT k))) w.heap.size (untK 0) 56 ∧ Blk ((wr.alloc (.cells (rowT k) 60)).setCell ⟨w.heap.size + 1, k, none⟩ (.int .i64 (untT k))) (w.heap.size + 1) (untK k') 56 ∧ w.grownBy ((wr.alloc (.cells (rowT k) 60)).setCell ⟨w.heap.size + 1, k, none⟩ (.int .i64 (untT k))) none) := by
        refine ⟨k + 1, by omega, rfl, (B0.alloc _).setO _ _ _ (by omega), ?_, grown_set (gr.trans (World.grownBy_alloc _ _ none)) _ _ _ (by omega)⟩
        have := A1.setC k (.int .i64 (untT k))
        rw [untK_step k (by omega)] at this
        exact this
      unfold rowT at F
      clear A1 B0 B1 gr hv
      go_wp2_with fail
      exact ⟨unhide F, by simp [intOf]; omega⟩

theorem default_any (w : World) (h : Tb w) : Calls Tryd.prog 10 #[] w fun e w' => e = .returned (.agg dflt.cs) ∧ w.grownBy w' none := by
  go_enter Tryd.func10, Tryd.ntmps10
  go_wp2_with (first | (go_at_call 28; refine (defaults_any _ (h.alloc _)).mono ?_; rintro e W1 ⟨rfl, g1⟩) | (go_at_call 27; refine (paramsOf_any dflt _).mono ?_; rintro e W2 ⟨rfl, g2⟩; have HB := hide (((Blk.new w zero9 23).grown g1).grown g2); have HG := hide (((World.grownBy_alloc w (.cells zero9 23) none).trans g1).trans g2); clear g1 g2) | (refine wpList_store_row rfl _ _ _ rfl w.heap.size dflt.cs rfl rfl 23 _ (unhide HB) Tryd.sizePs rfl (Ps.one _) ?_))
  refine bodyPost_ret (results_cell_row rfl _ _ w.heap.size 23 _ (0, 0) _ rfl ((unhide HB).row dflt.cs) Tryd.underlying23 rfl Tryd.sizePs) rfl ?_
  exact ⟨rfl, grown_row (unhide HG) _ _ (Nat.le_refl _)⟩

/-- Where a number stands in the table. -/
def placeFrom (n : Int) : Nat → Nat → Option Nat
  | 0, _ => none
  | f + 1, k => if numT k = n then some k else placeFrom n f (k + 1)
def placeF (n : Int) : Option Nat := placeFrom n 9 0
def placeV : Option Nat → Value
  | some k => .tuple #[.int .i64 k, .bool true]
  | none => .tuple #[.int .i64 0, .bool false]

theorem place_any (n : Int) (w : World) (h : Tb w) : Calls Tryd.prog 49 #[.int .u64 n] w fun e w' => e = .returned (placeV (placeF n)) ∧ w.grownBy w' none := by
  go_enter Tryd.func49, Tryd.ntmps49
  go_wp2_with (refine wpList_load_tbl rfl _ rfl rfl (by first | exact h | exact (h.alloc _).alloc _) ?_)
  go_loopw [7] (fun i wr => ∃ k : Nat, k ≤ 9 ∧ i = .int .i64 k ∧ placeF n = placeFrom n (9 - k) k ∧ w.grownBy wr none) (fun i _ => 9 - (intOf i).toNat)
  case atStart => exact ⟨0, by omega, rfl, rfl, World.grownBy.refl w none⟩
  case round =>
    obtain ⟨k, hk, rfl, hp, gr⟩ := hrel
    by_cases hk9 : k = 9
    · subst hk9
      have HP := hide hp
      clear hp
      go_wp2_with fail
      go_ret2
      exact ⟨by rw [unhide HP]; rfl, gr⟩
    · have hlt : (k : Int) < 9 := by omega
      have hi := fun W => tbl_index k (by omega) W
      unfold rowT at hi
      have e9 : 9 - k = (9 - (k + 1)) + 1 := by omega
      rw [e9, placeFrom] at hp
      have GA := hide (fun o => gr.trans (World.grownBy_alloc wr o none))
      by_cases hn : numT k = n
      · rw [if_pos hn] at hp
        have HP := hide hp
        have hd : (numT k == n) = true := by simpa using hn
        clear hp e9 hn
        go_wp2_with fail
        go_ret2
        exact ⟨by rw [unhide HP]; rfl, unhide GA _⟩
      · rw [if_neg hn] at hp
        have HP := hide hp
        have hd : (numT k == n) = false := by simpa using hn
        clear hp e9 hn
        go_wp2_with fail
        exact ⟨⟨k + 1, by omega, rfl, unhide HP, unhide GA _⟩, by simp [intOf]; omega⟩

/-- Check, as the document has it. -/
def okV (k : Nat) (v : Int) : Prop := 0 ≤ v ∧ v ≤ mostT k
def checkFrom (l : List Int) : Nat → Nat → Int
  | 0, _ => 0
  | f + 1, k => if 0 ≤ l.getD k 0 ∧ l.getD k 0 ≤ mostT k then checkFrom l f (k + 1) else 62
def checkF (p : Ps) : Int := checkFrom p.l 9 0

theorem vals_index (p : Ps) (k : Nat) (hk : k < 9) (w : World) : (Instr.index 56 (.agg p.cs) (.int .i64 k)).run Tryd.prog w = .ok (.int .i64 (p.l.getD k 0)) w := by
  obtain ⟨a0, a1, a2, a3, a4, a5, a6, a7, a8⟩ := p
  obtain rfl | rfl | rfl | rfl | rfl | rfl | rfl | rfl | rfl : k = 0 ∨ k = 1 ∨ k = 2 ∨ k = 3 ∨ k = 4 ∨ k = 5 ∨ k = 6 ∨ k = 7 ∨ k = 8 := by omega
  all_goals kernel_rfl

theorem check_any (p : Ps) (w : World) (h : Tb w) : Calls Tryd.prog 11 #[.agg p.cs] w fun e w' => e = .returned (.int .i64 (checkF p)) ∧ w.grownBy w' none := by
  go_enter Tryd.func11, Tryd.ntmps11
  go_wp2_with (first | (refine wpList_load_row rfl _ _ rfl w.heap.size rfl _ _ (0, 0) _ (Blk.new w p.cs 23) Tryd.underlying23 rfl Tryd.sizePs ?_) | (go_at_call 29; refine (valuesOf_any p _).mono ?_; rintro e W1 ⟨rfl, g1⟩))
  have gr := (World.grownBy_alloc w (.cells p.cs 23) none).trans g1
  have ht := h.grown gr
  have HG := hide gr
  clear g1 gr h
  go_loopw [7] (fun i wr => ∃ k : Nat, k ≤ 9 ∧ i = .int .i64 k ∧ checkF p = checkFrom p.l (9 - k) k ∧ wr = W1) (fun i _ => 9 - (intOf i).toNat)
  case atStart => exact ⟨0, by omega, rfl, rfl, rfl⟩
  case round =>
    obtain ⟨k, hk, rfl, hp, rfl⟩ := hrel
    by_cases hk9 : k = 9
    · subst hk9
      have HP := hide hp
      clear hp
      go_wp2_with fail
      go_ret
      exact ⟨by rw [unhide HP]; rfl, unhide HG⟩
    · have hlt : (k : Int) < 9 := by omega
      have hi := fun W => vals_index p k (by omega) W
      have e9 : 9 - k = (9 - (k + 1)) + 1 := by omega
      obtain ⟨-, c1, -⟩ := ht.at_ k (by omega)
      rw [e9, checkFrom] at hp
      generalize hv : p.l.getD k 0 = v at *
      generalize hm : mostT k = m at *
      by_cases h0 : v < 0
      · rw [if_neg (by omega)] at hp
        have HP := hide hp
        clear hp e9 ht hk9 hv hm
        go_wp2_with fail
        go_ret
        exact ⟨by rw [unhide HP]; rfl, unhide HG⟩
      by_cases h1 : v ≤ m
      · rw [if_pos (by omega)] at hp
        have HP := hide hp
        clear hp e9 ht hk9 hv hm
        go_wp2_with fail
        exact ⟨⟨k + 1, by omega, rfl, unhide HP, trivial⟩, by simp [intOf]; omega⟩
      · rw [if_neg (by omega)] at hp
        have HP := hide hp
        clear hp e9 ht hk9 hv hm
        go_wp2_with fail
        go_ret
        exact ⟨by rw [unhide HP]; rfl, unhide HG⟩
end Go.Proofs.YtmfbbamaleagiaaDoor
