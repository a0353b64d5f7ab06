import Derived.Test.YtihhgminbmngcaaXK
namespace Go.Proofs.Ytihhgminbmngcaa
open Go.RowKit
set_option linter.unusedVariables false
set_option maxRecDepth 100000

/-- A lent copy under way: its two rows so far, apart. -/
structure LP (w0 : World) (B : Nat) (wr : World) (g : Nat) (n : Nat) (fv wv : Value) (kf kw : Nat) (F W : List Int) : Prop where
  blk : wr.heap[g]? = some (.cells #[fv, wv, .int .i64 n] 44 (0, 0))
  full : wr.ownsRow (g + 1) 5 1 fv kf (vals F)
  was : wr.ownsRow (g + 1) 5 1 wv kw (vals W)
  sep : fv.ownBlock = none ∨ fv.ownBlock ≠ wv.ownBlock
  bel : Below B w0 wr
  low : B ≤ g

theorem LP.lt {w0 : World} {B : Nat} {wr : World} {g n : Nat} {fv wv : Value} {kf kw : Nat} {F W : List Int} (h : LP w0 B wr g n fv wv kf kw F W) : g < wr.heap.size := lt_of_block h.blk

theorem LP.cells {w0 : World} {B : Nat} {wr : World} {g n : Nat} {fv wv : Value} {kf kw : Nat} {F W : List Int} (h : LP w0 B wr g n fv wv kf kw F W) :
    wr.cell? ⟨g, 0, none⟩ = some fv ∧ wr.cell? ⟨g, 1, none⟩ = some wv ∧ wr.cell? ⟨g, 2, none⟩ = some (.int .i64 n) ∧ wr.frozen? ⟨g, 0, none⟩ = false ∧ wr.frozen? ⟨g, 1, none⟩ = false := by
  simp [World.cell?, World.frozen?, h.blk]

theorem LP.app_full {w0 : World} {B : Nat} {wr : World} {g n : Nat} {fv wv : Value} {kf kw : Nat} {F W : List Int} (h : LP w0 B wr g n fv wv kf kw F W) (o : Obj) {W1 : World} {fv' : Value} {k' : Nat} {F' : List Int}
    (hm : Moved (wr.alloc o) W1 fv fv') (ho : W1.ownsRow (g + 1) 5 1 fv' k' (vals F')) :
    (W1.cell? ⟨g, 0, none⟩ = some fv ∧ W1.frozen? ⟨g, 0, none⟩ = false ∧ W1.cell? ⟨g, 1, none⟩ = some wv ∧ W1.frozen? ⟨g, 1, none⟩ = false) ∧ LP w0 B (W1.setCell ⟨g, 0, none⟩ fv') g n fv' wv k' kw F' W := by
  have hlt := h.lt
  have row : ∀ k, fv.ownBlock = some k → g + 1 ≤ k := fun k hk => (h.full.lt k hk).1
  have wlt : ∀ k, wv.ownBlock = some k → k < wr.heap.size := fun k hk => (h.was.lt k hk).2
  have hb : W1.heap[g]? = some (.cells #[fv, wv, .int .i64 n] 44 (0, 0)) := by
    rcases hm with ⟨_, hg⟩ | ⟨_, hg, _⟩
    · rw [hg.block g (by simp; omega) (by intro e; have := row g e.symm; omega), Below.heap_alloc _ _ _ hlt]; exact h.blk
    · rw [hg.block g (by simp; omega) (by simp), Below.heap_alloc _ _ _ hlt]; exact h.blk
  have hw : W1.ownsRow (g + 1) 5 1 wv kw (vals W) := by
    rcases hm with ⟨_, hg⟩ | ⟨_, hg, _⟩
    · refine (h.was.alloc o).kept hg ?_
      rcases h.sep with hs | hs
      · rw [hs]; cases wv.ownBlock <;> simp
      · exact .inr (Ne.symm hs)
    · exact (h.was.alloc o).kept hg (by cases wv.ownBlock <;> simp)
  refine ⟨by simp [World.cell?, World.frozen?, hb], ⟨?_, ownsRow_setCell_below ho (by simp) _, ownsRow_setCell_below hw (by simp) _, ?_, ?_, h.low⟩⟩
  · rw [heap_setCell_same W1 g 0 _ _ fv' hb]; rfl
  · rcases hm with ⟨e, _⟩ | ⟨e, _, _⟩
    · rw [e]; exact h.sep
    · right
      rw [e]
      intro hc
      have := wlt _ hc.symm
      simp at this
      omega
  · exact (hm.below (h.bel.alloc (by have := h.bel.size; have := h.low; omega) o) (by have := h.low; simp; omega) (fun k hk => by have := row k hk; have := h.low; omega)).setCell (by simpa using h.low) _

theorem LP.app_was {w0 : World} {B : Nat} {wr : World} {g n : Nat} {fv wv : Value} {kf kw : Nat} {F W : List Int} (h : LP w0 B wr g n fv wv kf kw F W) (o : Obj) {W1 : World} {wv' : Value} {k' : Nat} {W' : List Int}
    (hm : Moved (wr.alloc o) W1 wv wv') (ho : W1.ownsRow (g + 1) 5 1 wv' k' (vals W')) :
    (W1.cell? ⟨g, 1, none⟩ = some wv ∧ W1.frozen? ⟨g, 1, none⟩ = false) ∧ LP w0 B (W1.setCell ⟨g, 1, none⟩ wv') g n fv wv' kf k' F W' := by
  have hlt := h.lt
  have row : ∀ k, wv.ownBlock = some k → g + 1 ≤ k := fun k hk => (h.was.lt k hk).1
  have flt : ∀ k, fv.ownBlock = some k → k < wr.heap.size := fun k hk => (h.full.lt k hk).2
  have hb : W1.heap[g]? = some (.cells #[fv, wv, .int .i64 n] 44 (0, 0)) := by
    rcases hm with ⟨_, hg⟩ | ⟨_, hg, _⟩
    · rw [hg.block g (by simp; omega) (by intro e; have := row g e.symm; omega), Below.heap_alloc _ _ _ hlt]; exact h.blk
    · rw [hg.block g (by simp; omega) (by simp), Below.heap_alloc _ _ _ hlt]; exact h.blk
  have hw : W1.ownsRow (g + 1) 5 1 fv kf (vals F) := by
    rcases hm with ⟨_, hg⟩ | ⟨_, hg, _⟩
    · exact (h.full.alloc o).kept hg h.sep
    · exact (h.full.alloc o).kept hg (by cases fv.ownBlock <;> simp)
  refine ⟨by simp [World.cell?, World.frozen?, hb], ⟨?_, ownsRow_setCell_below hw (by simp) _, ownsRow_setCell_below ho (by simp) _, ?_, ?_, h.low⟩⟩
  · rw [heap_setCell_same W1 g 1 _ _ wv' hb]; rfl
  · rcases hm with ⟨e, _⟩ | ⟨e, _, _⟩
    · rw [e]; exact h.sep
    · right
      rw [e]
      intro hc
      have := flt _ hc
      simp at this
      omega
  · exact (hm.below (h.bel.alloc (by have := h.bel.size; have := h.low; omega) o) (by have := h.low; simp; omega) (fun k hk => by have := row k hk; have := h.low; omega)).setCell (by simpa using h.low) _

/-- Lent bytes, with what lies behind them. -/
def lentL (l : List Int) : List Int := l ++ List.replicate 80 225
theorem lentL_length (l : List Int) : (lentL l).length = l.length + 80 := by simp [lentL]
theorem lentL_byte (l : List Int) (h : ∀ x ∈ l, IsB x) : ∀ x ∈ lentL l, IsB x := by
  intro x hx
  simp only [lentL, List.mem_append, List.mem_replicate] at hx
  rcases hx with hx | ⟨_, rfl⟩
  · exact h x hx
  · exact ⟨by decide, by decide⟩
theorem vals_take_snoc (M : List Int) (k : Nat) (h : k < M.length) : vals (M.take k) ++ [.int .u8 (M.getD k 0)] = vals (M.take (k + 1)) := by rw [take_snoc M k h, vals_snoc]

set_option maxHeartbeats 3200000 in
theorem lend_any (a : Option Addr) (l : List Int) (cap : Nat) (w : World) (hr : Rd w a l) (hm : l.length + 80 ≤ 140737488355328) :
    Calls Try.prog 5 #[.slice a l.length cap] w fun e w' => ∃ fv wv, e = .returned (.pointer (some ⟨w.heap.size, 0, none⟩)) ∧ LP w w.heap.size w' w.heap.size l.length fv wv (l.length + 80) (l.length + 80) (lentL l) (lentL l) := by
  have HR := hide hr
  clear hr
  go_enter Try.func5, Try.ntmps5
  go_wp2
  go_loopw [4] (fun i wr => ∃ (k : Nat) (fv wv : Value), k ≤ l.length + 80 ∧ i = .int .i64 k ∧ LP w w.heap.size wr w.heap.size l.length fv wv k k ((lentL l).take k) ((lentL l).take k)) (fun i _ => l.length + 80 - (intOf i).toNat)
  case atStart =>
    refine ⟨0, .slice none 0 0, .slice none 0 0, Nat.zero_le _, rfl, ⟨?_, World.ownsRow_nil _ _ _ _, World.ownsRow_nil _ _ _ _, .inl rfl, (Below.refl _ _).alloc (Nat.le_refl _) _, Nat.le_refl _⟩⟩
    exact heap_alloc_new w _
  case round =>
    obtain ⟨k, fv, wv, hk, rfl, lp⟩ := hrel
    by_cases hlt : k < l.length + 80
    · obtain ⟨c0, c1, c2, f0, f1⟩ := lp.cells
      have hML : k < (lentL l).length := by rw [lentL_length]; exact hlt
      have LPH := hide lp
      have hbase := lp.lt
      by_cases hkl : k < l.length
      · obtain ⟨b, off, rfl, hcell⟩ := (unhide HR).2 (by intro e; simp [e] at hkl)
        have hck : wr.cell? ⟨b, off + k, none⟩ = some (.int .u8 ((lentL l).getD k 0)) := by
          rw [lp.bel.cell (p := ⟨b, off + k, none⟩) (World.block_lt_of_cell? w _ (hcell k hkl)), hcell k hkl]
          congr 2
          simp [lentL, List.getD, hkl, List.getElem?_append_left]
        have HV := hide (vals_take_snoc (lentL l) k hML)
        generalize (lentL l).getD k 0 = y at hck HV
        clear hcell lp
        go_wp2_with (first
          | (at_builtin; refine wpList_app1g _ rfl (.tmp 29) (.tmp 31) rfl (w.heap.size + 1) _ k _ (unhide LPH).full rfl (.int .u8 y) rfl _ rfl (by simp) (by omega) (by omega) ?_; intro fv' W1 ho hmv _; rw [unhide HV] at ho; obtain ⟨gf, cf, rfl, -, -, -, -⟩ := ownsRow_open ho (Nat.succ_ne_zero _); obtain ⟨⟨q0, q1, q2, q3⟩, lp1⟩ := (unhide LPH).app_full _ hmv ho; have LP1 := hide lp1; have q4 := lp1.lt; clear ho hmv lp1)
          | (at_builtin; refine wpList_app1g _ rfl (.tmp 39) (.tmp 41) rfl (w.heap.size + 1) _ k _ (unhide LP1).was rfl (.int .u8 y) rfl _ rfl (by simp) (by omega) (by simp at q4; simp; omega) ?_; intro wv' W2 ho hmv _; rw [unhide HV] at ho; obtain ⟨gw, cw, rfl, -, -, -, -⟩ := ownsRow_open ho (Nat.succ_ne_zero _); obtain ⟨⟨r0, r1⟩, lp2⟩ := (unhide LP1).app_was _ hmv ho; have LP2 := hide lp2; clear ho hmv lp2)
          | go_in)
        go_roundw
        case rel => exact ⟨k + 1, _, _, by omega, by go_num, unhide LP2⟩
        case measure => simp [intOf]; omega
      · have HV := hide (vals_take_snoc (lentL l) k hML)
        have hy : (lentL l).getD k 0 = 225 := by
          have : k - l.length < 80 := by omega
          rw [lentL, List.getD, List.getElem?_append_right (show l.length ≤ k by omega), List.getElem?_replicate, if_pos this]; rfl
        rw [hy] at HV
        clear hy lp
        go_wp2_with (first
          | (at_builtin; refine wpList_app1g _ rfl (.tmp 29) (.tmp 31) rfl (w.heap.size + 1) _ k _ (unhide LPH).full rfl (.int .u8 225) rfl _ rfl (by simp) (by omega) (by omega) ?_; intro fv' W1 ho hmv _; rw [unhide HV] at ho; obtain ⟨gf, cf, rfl, -, -, -, -⟩ := ownsRow_open ho (Nat.succ_ne_zero _); obtain ⟨⟨q0, q1, q2, q3⟩, lp1⟩ := (unhide LPH).app_full _ hmv ho; have LP1 := hide lp1; have q4 := lp1.lt; clear ho hmv lp1)
          | (at_builtin; refine wpList_app1g _ rfl (.tmp 39) (.tmp 41) rfl (w.heap.size + 1) _ k _ (unhide LP1).was rfl (.int .u8 225) rfl _ rfl (by simp) (by omega) (by simp at q4; simp; omega) ?_; intro wv' W2 ho hmv _; rw [unhide HV] at ho; obtain ⟨gw, cw, rfl, -, -, -, -⟩ := ownsRow_open ho (Nat.succ_ne_zero _); obtain ⟨⟨r0, r1⟩, lp2⟩ := (unhide LP1).app_was _ hmv ho; have LP2 := hide lp2; clear ho hmv lp2)
          | go_in)
        go_roundw
        case rel => exact ⟨k + 1, _, _, by omega, by go_num, unhide LP2⟩
        case measure => simp [intOf]; omega
    · have hkn : k = l.length + 80 := by omega
      have e := List.take_of_length_le (show (lentL l).length ≤ k by rw [lentL_length]; omega)
      rw [e] at lp
      subst hkn
      have LPH := hide lp
      clear lp e
      go_wp2_with fail
      go_ret
      exact ⟨fv, wv, rfl, unhide LPH⟩
end Go.Proofs.Ytihhgminbmngcaa
