/- KWL, KWM, KWN, KL2, one text. -/
import Derived.Test.YtpcnpdippnljpaaKWF
import Derived.BigRegion
import Derived.RegionTactic
namespace Go.Proofs.Ytpcnpdippnljpaa
open Go.RowKit
set_option maxRecDepth 100000
set_option linter.unusedVariables false

/-- A lent copy under way: its two rows so far, apart. -/
structure LP (w0 : World) (B : Nat) (wr : World) (g : Nat) (n : Nat) (fv wv : Value) (kf kw : Nat) (F W : List Int) : Prop where
  blk : wr.heap[g]? = some (.cells #[fv, wv, .int .i64 n] 75 (0, 0))
  full : wr.ownsRow (g + 1) 5 1 fv kf (vals F)
  was : wr.ownsRow (g + 1) 5 1 wv kw (vals W)
  sep : fv.ownBlock = none ∨ fv.ownBlock ≠ wv.ownBlock
  bel : Below B w0 wr
  low : B ≤ g

theorem LP.lt {w0 : World} {B : Nat} {wr : World} {g n : Nat} {fv wv : Value} {kf kw : Nat} {F W : List Int} (h : LP w0 B wr g n fv wv kf kw F W) : g < wr.heap.size := lt_of_block h.blk

theorem LP.cells {w0 : World} {B : Nat} {wr : World} {g n : Nat} {fv wv : Value} {kf kw : Nat} {F W : List Int} (h : LP w0 B wr g n fv wv kf kw F W) :
    wr.cell? ⟨g, 0, none⟩ = some fv ∧ wr.cell? ⟨g, 1, none⟩ = some wv ∧ wr.cell? ⟨g, 2, none⟩ = some (.int .i64 n) ∧ wr.frozen? ⟨g, 0, none⟩ = false ∧ wr.frozen? ⟨g, 1, none⟩ = false := by
  simp [World.cell?, World.frozen?, h.blk]

theorem LP.app_full {w0 : World} {B : Nat} {wr : World} {g n : Nat} {fv wv : Value} {kf kw : Nat} {F W : List Int} (h : LP w0 B wr g n fv wv kf kw F W) (o : Obj) {W1 : World} {fv' : Value} {k' : Nat} {F' : List Int}
    (hm : Moved (wr.alloc o) W1 fv fv') (ho : W1.ownsRow (g + 1) 5 1 fv' k' (vals F')) :
    (W1.cell? ⟨g, 0, none⟩ = some fv ∧ W1.frozen? ⟨g, 0, none⟩ = false ∧ W1.cell? ⟨g, 1, none⟩ = some wv ∧ W1.frozen? ⟨g, 1, none⟩ = false) ∧ LP w0 B (W1.setCell ⟨g, 0, none⟩ fv') g n fv' wv k' kw F' W := by
  have hlt := h.lt
  have row : ∀ k, fv.ownBlock = some k → g + 1 ≤ k := fun k hk => (h.full.lt k hk).1
  have wlt : ∀ k, wv.ownBlock = some k → k < wr.heap.size := fun k hk => (h.was.lt k hk).2
  have hb : W1.heap[g]? = some (.cells #[fv, wv, .int .i64 n] 75 (0, 0)) := by
    rcases hm with ⟨_, hg⟩ | ⟨_, hg, _⟩
    · rw [hg.block g (by simp; omega) (by intro e; have := row g e.symm; omega), Below.heap_alloc _ _ _ hlt]; exact h.blk
    · rw [hg.block g (by simp; omega) (by simp), Below.heap_alloc _ _ _ hlt]; exact h.blk
  have hw : W1.ownsRow (g + 1) 5 1 wv kw (vals W) := by
    rcases hm with ⟨_, hg⟩ | ⟨_, hg, _⟩
    · refine (h.was.alloc o).kept hg ?_
      rcases h.sep with hs | hs
      · rw [hs]; cases wv.ownBlock <;> simp
      · exact .inr (Ne.symm hs)
    · exact (h.was.alloc o).kept hg (by cases wv.ownBlock <;> simp)
  refine ⟨by simp [World.cell?, World.frozen?, hb], ⟨?_, ownsRow_setCell_below ho (by simp) _, ownsRow_setCell_below hw (by simp) _, ?_, ?_, h.low⟩⟩
  · rw [heap_setCell_same W1 g 0 _ _ fv' hb]; rfl
  · rcases hm with ⟨e, _⟩ | ⟨e, _, _⟩
    · rw [e]; exact h.sep
    · right
      rw [e]
      intro hc
      have := wlt _ hc.symm
      simp at this
      omega
  · exact (hm.below (h.bel.alloc (by have := h.bel.size; have := h.low; omega) o) (by have := h.low; simp; omega) (fun k hk => by have := row k hk; have := h.low; omega)).setCell (by simpa using h.low) _

theorem LP.app_was {w0 : World} {B : Nat} {wr : World} {g n : Nat} {fv wv : Value} {kf kw : Nat} {F W : List Int} (h : LP w0 B wr g n fv wv kf kw F W) (o : Obj) {W1 : World} {wv' : Value} {k' : Nat} {W' : List Int}
    (hm : Moved (wr.alloc o) W1 wv wv') (ho : W1.ownsRow (g + 1) 5 1 wv' k' (vals W')) :
    (W1.cell? ⟨g, 1, none⟩ = some wv ∧ W1.frozen? ⟨g, 1, none⟩ = false) ∧ LP w0 B (W1.setCell ⟨g, 1, none⟩ wv') g n fv wv' kf k' F W' := by
  have hlt := h.lt
  have row : ∀ k, wv.ownBlock = some k → g + 1 ≤ k := fun k hk => (h.was.lt k hk).1
  have flt : ∀ k, fv.ownBlock = some k → k < wr.heap.size := fun k hk => (h.full.lt k hk).2
  have hb : W1.heap[g]? = some (.cells #[fv, wv, .int .i64 n] 75 (0, 0)) := by
    rcases hm with ⟨_, hg⟩ | ⟨_, hg, _⟩
    · rw [hg.block g (by simp; omega) (by intro e; have := row g e.symm; omega), Below.heap_alloc _ _ _ hlt]; exact h.blk
    · rw [hg.block g (by simp; omega) (by simp), Below.heap_alloc _ _ _ hlt]; exact h.blk
  have hw : W1.ownsRow (g + 1) 5 1 fv kf (vals F) := by
    rcases hm with ⟨_, hg⟩ | ⟨_, hg, _⟩
    · exact (h.full.alloc o).kept hg h.sep
    · exact (h.full.alloc o).kept hg (by cases fv.ownBlock <;> simp)
  refine ⟨by simp [World.cell?, World.frozen?, hb], ⟨?_, ownsRow_setCell_below hw (by simp) _, ownsRow_setCell_below ho (by simp) _, ?_, ?_, h.low⟩⟩
  · rw [heap_setCell_same W1 g 1 _ _ wv' hb]; rfl
  · rcases hm with ⟨e, _⟩ | ⟨e, _, _⟩
    · rw [e]; exact h.sep
    · right
      rw [e]
      intro hc
      have := flt _ hc
      simp at this
      omega
  · exact (hm.below (h.bel.alloc (by have := h.bel.size; have := h.low; omega) o) (by have := h.low; simp; omega) (fun k hk => by have := row k hk; have := h.low; omega)).setCell (by simpa using h.low) _

/-- Lent bytes, with what lies behind them. -/
def lentL (l : List Int) : List Int := l ++ List.replicate 80 225
theorem lentL_length (l : List Int) : (lentL l).length = l.length + 80 := by simp [lentL]
theorem lentL_byte (l : List Int) (h : ∀ x ∈ l, IsB x) : ∀ x ∈ lentL l, IsB x := by
  intro x hx
  simp only [lentL, List.mem_append, List.mem_replicate] at hx
  rcases hx with hx | ⟨_, rfl⟩
  · exact h x hx
  · exact ⟨by decide, by decide⟩
theorem vals_take_snoc (M : List Int) (k : Nat) (h : k < M.length) : vals (M.take k) ++ [.int .u8 (M.getD k 0)] = vals (M.take (k + 1)) := by rw [take_snoc M k h, vals_snoc]

set_option maxHeartbeats 3200000 in
theorem lend_any (a : Option Addr) (l : List Int) (cap : Nat) (w : World) (hr : Rd w a l) (hm : l.length + 80 ≤ 140737488355328) :
    Calls Try.prog 25 #[.slice a l.length cap] w fun e w' => ∃ fv wv, e = .returned (.pointer (some ⟨w.heap.size, 0, none⟩)) ∧ LP w w.heap.size w' w.heap.size l.length fv wv (l.length + 80) (l.length + 80) (lentL l) (lentL l) := by
  have HR := hide hr
  clear hr
  go_enter Try.func25, Try.ntmps25
  go_wp2
  go_loopw [4] (fun i wr => ∃ (k : Nat) (fv wv : Value), k ≤ l.length + 80 ∧ i = .int .i64 k ∧ LP w w.heap.size wr w.heap.size l.length fv wv k k ((lentL l).take k) ((lentL l).take k)) (fun i _ => l.length + 80 - (intOf i).toNat)
  case atStart =>
    refine ⟨0, .slice none 0 0, .slice none 0 0, Nat.zero_le _, rfl, ⟨?_, World.ownsRow_nil _ _ _ _, World.ownsRow_nil _ _ _ _, .inl rfl, (Below.refl _ _).alloc (Nat.le_refl _) _, Nat.le_refl _⟩⟩
    exact heap_alloc_new w _
  case round =>
    obtain ⟨k, fv, wv, hk, rfl, lp⟩ := hrel
    by_cases hlt : k < l.length + 80
    · obtain ⟨c0, c1, c2, f0, f1⟩ := lp.cells
      have hML : k < (lentL l).length := by rw [lentL_length]; exact hlt
      have LPH := hide lp
      have hbase := lp.lt
      by_cases hkl : k < l.length
      · obtain ⟨b, off, rfl, hcell⟩ := (unhide HR).2 (by intro e; simp [e] at hkl)
        have hck : wr.cell? ⟨b, off + k, none⟩ = some (.int .u8 ((lentL l).getD k 0)) := by
          rw [lp.bel.cell (p := ⟨b, off + k, none⟩) (World.block_lt_of_cell? w _ (hcell k hkl)), hcell k hkl]
          congr 2
          simp [lentL, List.getD, hkl, List.getElem?_append_left]
        have HV := hide (vals_take_snoc (lentL l) k hML)
        generalize (lentL l).getD k 0 = y at hck HV
        clear hcell lp
        go_wp2_with (first
          | (at_builtin; refine wpList_app1g _ rfl (.tmp 29) (.tmp 31) rfl (w.heap.size + 1) _ k _ (unhide LPH).full rfl (.int .u8 y) rfl _ rfl (by simp) (by omega) (by omega) ?_; intro fv' W1 ho hmv _; rw [unhide HV] at ho; obtain ⟨gf, cf, rfl, -, -, -, -⟩ := ownsRow_open ho (Nat.succ_ne_zero _); obtain ⟨⟨q0, q1, q2, q3⟩, lp1⟩ := (unhide LPH).app_full _ hmv ho; have LP1 := hide lp1; have q4 := lp1.lt; clear ho hmv lp1)
          | (at_builtin; refine wpList_app1g _ rfl (.tmp 39) (.tmp 41) rfl (w.heap.size + 1) _ k _ (unhide LP1).was rfl (.int .u8 y) rfl _ rfl (by simp) (by omega) (by simp at q4; simp; omega) ?_; intro wv' W2 ho hmv _; rw [unhide HV] at ho; obtain ⟨gw, cw, rfl, -, -, -, -⟩ := ownsRow_open ho (Nat.succ_ne_zero _); obtain ⟨⟨r0, r1⟩, lp2⟩ := (unhide LP1).app_was _ hmv ho; have LP2 := hide lp2; clear ho hmv lp2)
          | go_in)
        go_roundw
        case rel => exact ⟨k + 1, _, _, by omega, by go_num, unhide LP2⟩
        case measure => simp [intOf]; omega
      · have HV := hide (vals_take_snoc (lentL l) k hML)
        have hy : (lentL l).getD k 0 = 225 := by
          have : k - l.length < 80 := by omega
          rw [lentL, List.getD, List.getElem?_append_right (show l.length ≤ k by omega), List.getElem?_replicate, if_pos this]; rfl
        rw [hy] at HV
        clear hy lp
        go_wp2_with (first
          | (at_builtin; refine wpList_app1g _ rfl (.tmp 29) (.tmp 31) rfl (w.heap.size + 1) _ k _ (unhide LPH).full rfl (.int .u8 225) rfl _ rfl (by simp) (by omega) (by omega) ?_; intro fv' W1 ho hmv _; rw [unhide HV] at ho; obtain ⟨gf, cf, rfl, -, -, -, -⟩ := ownsRow_open ho (Nat.succ_ne_zero _); obtain ⟨⟨q0, q1, q2, q3⟩, lp1⟩ := (unhide LPH).app_full _ hmv ho; have LP1 := hide lp1; have q4 := lp1.lt; clear ho hmv lp1)
          | (at_builtin; refine wpList_app1g _ rfl (.tmp 39) (.tmp 41) rfl (w.heap.size + 1) _ k _ (unhide LP1).was rfl (.int .u8 225) rfl _ rfl (by simp) (by omega) (by simp at q4; simp; omega) ?_; intro wv' W2 ho hmv _; rw [unhide HV] at ho; obtain ⟨gw, cw, rfl, -, -, -, -⟩ := ownsRow_open ho (Nat.succ_ne_zero _); obtain ⟨⟨r0, r1⟩, lp2⟩ := (unhide LP1).app_was _ hmv ho; have LP2 := hide lp2; clear ho hmv lp2)
          | go_in)
        go_roundw
        case rel => exact ⟨k + 1, _, _, by omega, by go_num, unhide LP2⟩
        case measure => simp [intOf]; omega
    · have hkn : k = l.length + 80 := by omega
      have e := List.take_of_length_le (show (lentL l).length ≤ k by rw [lentL_length]; omega)
      rw [e] at lp
      subst hkn
      have LPH := hide lp
      clear lp e
      go_wp2_with fail
      go_ret
      exact ⟨fv, wv, rfl, unhide LPH⟩
end Go.Proofs.Ytpcnpdippnljpaa

namespace Go.Proofs.Ytpcnpdippnljpaa
open Go.RowKit
set_option maxRecDepth 100000
set_option linter.unusedVariables false

/-- Bytes that are lent: their two rows, whole. -/
abbrev Lent (w0 : World) (B : Nat) (wr : World) (g n gf cf gw cw : Nat) (F W : List Int) : Prop :=
  LP w0 B wr g n (.slice (some ⟨gf, 0, none⟩) (n + 80) cf) (.slice (some ⟨gw, 0, none⟩) (n + 80) cw) (n + 80) (n + 80) F W

theorem vals_set (l : List Int) (j : Nat) (x : Int) : vals (l.set j x) = (vals l).set j (.int .u8 x) := by simp [vals, List.map_set]
theorem vals_get (l : List Int) (j : Nat) (h : j < l.length) : (vals l)[j]? = some (.int .u8 (l.getD j 0)) := by simp [vals, List.getD, h]

section
variable {w0 wr : World} {B g n gf cf gw cw : Nat} {F W : List Int}

theorem Lent.flen (h : Lent w0 B wr g n gf cf gw cw F W) : F.length = n + 80 := by have := h.full.1; simpa [vals] using this
theorem Lent.wlen (h : Lent w0 B wr g n gf cf gw cw F W) : W.length = n + 80 := by have := h.was.1; simpa [vals] using this
theorem Lent.fcell (h : Lent w0 B wr g n gf cf gw cw F W) (j : Nat) (hj : j < n + 80) : wr.cell? ⟨gf, j, none⟩ = some (.int .u8 (F.getD j 0)) ∧ wr.frozen? ⟨gf, j, none⟩ = false :=
  ⟨by rw [h.full.cellAt j (by omega), vals_get F j (by rw [h.flen]; exact hj)], h.full.frozenAt j⟩
theorem Lent.wcell (h : Lent w0 B wr g n gf cf gw cw F W) (j : Nat) (hj : j < n + 80) : wr.cell? ⟨gw, j, none⟩ = some (.int .u8 (W.getD j 0)) ∧ wr.frozen? ⟨gw, j, none⟩ = false :=
  ⟨by rw [h.was.cellAt j (by omega), vals_get W j (by rw [h.wlen]; exact hj)], h.was.frozenAt j⟩
theorem Lent.ne (h : Lent w0 B wr g n gf cf gw cw F W) : gf ≠ gw ∧ g < gf ∧ g < gw ∧ n + 80 ≤ cf ∧ cf ≤ maxLen ∧ n + 80 ≤ cw ∧ cw ≤ maxLen := by
  refine ⟨?_, (h.full.lt gf rfl).1, (h.was.lt gw rfl).1, ?_⟩
  · intro e
    rcases h.sep with hs | hs
    · simp [Value.ownBlock] at hs
    · exact hs (by simp [Value.ownBlock, e])
  · obtain ⟨a, b, e, _, _, h1, h2⟩ := ownsRow_open h.full (by omega)
    obtain ⟨c, d, e', _, _, h3, h4⟩ := ownsRow_open h.was (by omega)
    simp at e e'
    omega

theorem Lent.setF (h : Lent w0 B wr g n gf cf gw cw F W) (j : Nat) (x : Int) : Lent w0 B (wr.setCell ⟨gf, j, none⟩ (.int .u8 x)) g n gf cf gw cw (F.set j x) W := by
  obtain ⟨hne, h1, h2, _⟩ := h.ne
  have st := h.full.stored j (.int .u8 x)
  refine ⟨?_, by rw [vals_set]; exact st.1, h.was.kept st.2 (.inr (by simp [Value.ownBlock]; omega)), h.sep, h.bel.setCell (by have := h.low; show B ≤ gf; omega) _, h.low⟩
  rw [heap_setCell_other _ _ _ _ (by show g ≠ gf; omega)]
  exact h.blk
theorem Lent.setW (h : Lent w0 B wr g n gf cf gw cw F W) (j : Nat) (x : Int) : Lent w0 B (wr.setCell ⟨gw, j, none⟩ (.int .u8 x)) g n gf cf gw cw F (W.set j x) := by
  obtain ⟨hne, h1, h2, _⟩ := h.ne
  have st := h.was.stored j (.int .u8 x)
  refine ⟨?_, h.full.kept st.2 (.inr (by simp [Value.ownBlock]; omega)), by rw [vals_set]; exact st.1, h.sep, h.bel.setCell (by have := h.low; show B ≤ gw; omega) _, h.low⟩
  rw [heap_setCell_other _ _ _ _ (by show g ≠ gw; omega)]
  exact h.blk
theorem Lent.drewN (h : Lent w0 B wr g n gf cf gw cw F W) (q : Nat) : Lent w0 B (wr.drewN q) g n gf cf gw cw F W := ⟨h.blk, h.full, h.was, h.sep, bel_drewN h.bel q, h.low⟩
/-- New blocks behind it turn nothing. -/
theorem Lent.below {w' : World} (h : Lent w0 B wr g n gf cf gw cw F W) (hb : Below wr.heap.size wr w') : Lent w0 B w' g n gf cf gw cw F W := by
  have l1 := h.lt
  have l2 := (h.full.lt gf rfl).2
  have l3 := (h.was.lt gw rfl).2
  have gr : wr.grownBy w' none := ⟨hb.os, hb.tape, hb.output, hb.size, fun k hk _ => hb.block k hk⟩
  exact ⟨by rw [hb.block g l1]; exact h.blk, h.full.kept gr (.inr (by simp [Value.ownBlock])), h.was.kept gr (.inr (by simp [Value.ownBlock])), h.sep, h.bel.trans (hb.mono (by have := h.low; omega)), h.low⟩
theorem Lent.rd (h : Lent w0 B wr g n gf cf gw cw F W) (hF : ∀ x ∈ F, IsB x) : Rd wr (some ⟨gf, 0, none⟩) (F.take n) := by
  refine ⟨fun x hx => hF x (List.mem_of_mem_take hx), fun _ => ⟨gf, 0, rfl, fun i hi => ?_⟩⟩
  have hi' : i < n := by simp at hi; omega
  rw [Nat.zero_add, (h.fcell i (by omega)).1]
  congr 2
  simp [List.getD, hi']
theorem Lent.tlen (h : Lent w0 B wr g n gf cf gw cw F W) : (F.take n).length = n := by have := h.flen; simp; omega
end

set_option maxHeartbeats 1600000 in
theorem bytes_any (w0 wr : World) (B g n gf cf gw cw : Nat) (F W : List Int) (h : Lent w0 B wr g n gf cf gw cw F W) :
    Calls Try.prog 26 #[.pointer (some ⟨g, 0, none⟩)] wr fun e w' => e = .returned (.slice (some ⟨gf, 0, none⟩) n cf) ∧ ∃ q, w' = wr.drewN q := by
  obtain ⟨c0, c1, c2, f0, f1⟩ := h.cells
  obtain ⟨_, _, _, h1, h2, _, _⟩ := h.ne
  unfold maxLen at h2
  clear h
  go_enter Try.func26, Try.ntmps26
  go_wp2
  go_quiet (fail)
  all_goals go_wp2
  all_goals go_ret
  all_goals exact ⟨rfl, _, rfl⟩

set_option maxHeartbeats 1600000 in
theorem kept_any (w0 wr : World) (B g n gf cf gw cw : Nat) (F : List Int) (h : Lent w0 B wr g n gf cf gw cw F F) :
    Calls Try.prog 30 #[.pointer (some ⟨g, 0, none⟩)] wr fun e w' => e = .returned (.bool true) ∧ ∃ q, w' = wr.drewN q := by
  obtain ⟨c0, c1, c2, f0, f1⟩ := h.cells
  obtain ⟨_, _, _, h1, h2, h3, h4⟩ := h.ne
  unfold maxLen at h2 h4
  have H := hide h
  clear h
  go_enter Try.func30, Try.ntmps30
  go_wp2
  go_loopw [3] (fun i w' => ∃ (k q : Nat), k ≤ n + 80 ∧ i = .int .i64 k ∧ w' = wr.drewN q) (fun i _ => n + 80 - (intOf i).toNat)
  case atStart => exact ⟨0, 0, Nat.zero_le _, rfl, rfl⟩
  case round =>
    obtain ⟨k, q, hk, rfl, rfl⟩ := hrel
    by_cases hlt : k < n + 80
    · have k1 := ((unhide H).fcell k hlt).1
      have k2 := ((unhide H).wcell k hlt).1
      generalize F.getD k 0 = x at k1 k2
      go_wp2
      go_quiet (fail)
      all_goals go_wp2
      go_roundw
      case rel => exact ⟨k + 1, _, by omega, by go_num, rfl⟩
      case measure => simp [intOf]; omega
    · go_wp2
      go_ret
      exact ⟨rfl, _, rfl⟩
end Go.Proofs.Ytpcnpdippnljpaa

namespace Go.Proofs.Ytpcnpdippnljpaa
open Go.RowKit
set_option maxRecDepth 100000
set_option linter.unusedVariables false

theorem getD_set_eq (l : List Int) (i : Nat) (x : Int) (h : i < l.length) : (l.set i x).getD i 0 = x := by simp [List.getD, h]
theorem getD_set_ne (l : List Int) (i j : Nat) (x : Int) (h : i ≠ j) : (l.set i x).getD j 0 = l.getD j 0 := by simp [List.getD, h]
theorem set_byte (l : List Int) (i : Nat) (x : Int) (hl : ∀ y ∈ l, IsB y) (hx : IsB x) : ∀ y ∈ l.set i x, IsB y := by
  intro y hy
  rcases List.mem_or_eq_of_mem_set hy with h | h
  · exact hl y h
  · rw [h]; exact hx
theorem xor1_byte (x : Int) (h : IsB x) : IsB (bits .xor .u8 x 1) := by
  obtain ⟨h0, h1⟩ := h
  obtain ⟨m, rfl⟩ := Int.eq_ofNat_of_zero_le h0
  rw [show (1 : Int) = ((1 : Nat) : Int) from rfl, u8_xor_nat m 1 (by omega) (by omega)]
  have : m ^^^ 1 < 2 ^ 8 := Nat.xor_lt_two_pow (by omega) (by omega)
  exact ⟨by omega, by omega⟩
theorem list_ext_getD (l m : List Int) (hl : l.length = m.length) (h : ∀ j, l.getD j 0 = m.getD j 0) : l = m := by
  apply List.ext_getElem hl
  intro i h1 h2
  have := h i
  simpa [List.getD, h1, h2] using this

/-- Turn's invariant. -/
def TI (n i : Nat) (F W : List Int) : Prop := (∀ x ∈ F, IsB x) ∧ ∀ j, j < i ∨ n ≤ j → W.getD j 0 = F.getD j 0
theorem TI.turn {n i : Nat} {F W : List Int} (h : TI n i F W) (hi : i < n) (hF : n ≤ F.length) (hW : n ≤ W.length) (x : Int) (hx : IsB x) : TI n (i + 1) (F.set i x) (W.set i x) := by
  refine ⟨set_byte F i x h.1 hx, fun j hj => ?_⟩
  by_cases e : i = j
  · subst e; rw [getD_set_eq _ _ _ (by omega), getD_set_eq _ _ _ (by omega)]
  · rw [getD_set_ne _ _ _ _ e, getD_set_ne _ _ _ _ e]; exact h.2 j (by omega)
theorem TI.leave {n i : Nat} {F W : List Int} (h : TI n i F W) (hi : i < n) (hW : n ≤ W.length) : TI n (i + 1) F (W.set i (F.getD i 0)) := by
  refine ⟨h.1, fun j hj => ?_⟩
  by_cases e : i = j
  · subst e; rw [getD_set_eq _ _ _ (by omega)]
  · rw [getD_set_ne _ _ _ _ e]; exact h.2 j (by omega)

theorem Lent.drew {w0 wr : World} {B g n gf cf gw cw : Nat} {F W : List Int} (h : Lent w0 B wr g n gf cf gw cw F W) : Lent w0 B wr.drew g n gf cf gw cw F W := ⟨h.blk, h.full, h.was, h.sep, h.bel.drew, h.low⟩

set_option maxHeartbeats 3200000 in
theorem turn_any (w0 w1 : World) (B g n gf cf gw cw : Nat) (k : Int) (F : List Int) (h : Lent w0 B w1 g n gf cf gw cw F F) (hF : ∀ x ∈ F, IsB x) (hk : 0 < k) (hk2 : k < 9223372036854775807) :
    Calls Try.prog 31 #[.pointer (some ⟨g, 0, none⟩), .int .i64 k] w1 fun e w' => e = .returned (.tuple #[]) ∧ ∃ F', Lent w0 B w' g n gf cf gw cw F' F' ∧ ∀ x ∈ F', IsB x := by
  obtain ⟨hne, hg1, hg2, h1, h2, h3, h4⟩ := h.ne
  unfold maxLen at h2 h4
  have H := hide h
  have HF := hide hF
  clear h hF
  go_enter Try.func31, Try.ntmps31
  go_wp2
  go_loopw [4] (fun i wr => ∃ (j : Nat) (F W : List Int), j ≤ n ∧ i = .int .i64 j ∧ Lent w0 B wr g n gf cf gw cw F W ∧ TI n j F W) (fun i _ => n - (intOf i).toNat)
  case atStart => exact ⟨0, F, F, Nat.zero_le _, rfl, unhide H, unhide HF, fun _ _ => rfl⟩
  case round =>
    obtain ⟨j, F, W, hj, rfl, lent, ti⟩ := hrel
    obtain ⟨c0, c1, c2, f0, f1⟩ := lent.cells
    by_cases hlt : j < n
    · have hfl := lent.flen
      have hwl := lent.wlen
      obtain ⟨k1, k3⟩ := lent.fcell j (by omega)
      obtain ⟨k2, k4⟩ := lent.wcell j (by omega)
      have hb := ti.1 (F.getD j 0) (by simp [List.getD, show j < F.length by omega])
      by_cases ht : (j : Int) % k = k - 1
      · have hte : ((j : Int) % k == k - 1) = true := by rw [beq_iff_eq]; exact ht
        have lf := lent.setF j (bits .xor .u8 (F.getD j 0) 1)
        obtain ⟨d0, d1, d2, d3, d4⟩ := lf.cells
        obtain ⟨e1, e3⟩ := lf.fcell j (by omega)
        rw [getD_set_eq _ _ _ (by omega)] at e1
        obtain ⟨e2, e4⟩ := lf.wcell j (by omega)
        have L := hide (lf.setW j (bits .xor .u8 (F.getD j 0) 1))
        have T := hide (ti.turn hlt (by omega) (by omega) (bits .xor .u8 (F.getD j 0) 1) (xor1_byte _ hb))
        generalize F.getD j 0 = x at k1 e1 e2 e3 e4 d0 d1 d2 d3 d4 L T
        generalize W.getD j 0 = y at k2 e2
        generalize F.set j (bits .xor .u8 x 1) = F1 at L T
        clear lent ti hfl hwl ht hb lf
        go_wp2
        go_region
        go_wp2
        go_region
        go_wp2
        go_roundw
        case rel => exact ⟨j + 1, _, _, by omega, by go_num, (unhide L).drew.drew, unhide T⟩
        case measure => simp [intOf]; omega
      · have hte : ((j : Int) % k == k - 1) = false := by rw [beq_eq_false_iff_ne]; exact ht
        have L := hide (lent.setW j (F.getD j 0))
        have T := hide (ti.leave hlt (by omega))
        generalize F.getD j 0 = x at k1 L T
        generalize W.getD j 0 = y at k2
        clear lent ti hfl hwl ht hb
        go_wp2
        go_region
        go_wp2
        go_roundw
        case rel => exact ⟨j + 1, _, _, by omega, by go_num, (unhide L).drew, unhide T⟩
        case measure => simp [intOf]; omega
    · have e : W = F := list_ext_getD W F (by rw [lent.flen, lent.wlen]) (fun i => ti.2 i (by omega))
      subst e
      have L := hide lent
      have T := hide ti
      clear lent ti
      go_wp2
      go_end0
      exact ⟨rfl, W, unhide L, (unhide T).1⟩
end Go.Proofs.Ytpcnpdippnljpaa

namespace Go.Proofs.Ytpcnpdippnljpaa
open Go.RowKit
set_option maxRecDepth 100000
set_option linter.unusedVariables false

/-- Nothing but two blocks was written. -/
def Only (w W : World) (a b : Nat) : Prop := W.heap.size = w.heap.size ∧ ∀ i, i ≠ a → i ≠ b → W.heap[i]? = w.heap[i]?
theorem Only.refl (w : World) (a b : Nat) : Only w w a b := ⟨rfl, fun _ _ _ => rfl⟩
theorem Only.setA {w W : World} {a b : Nat} (h : Only w W a b) (j : Nat) (v : Value) : Only w (W.setCell ⟨a, j, none⟩ v) a b := by
  refine ⟨?_, fun i h1 h2 => ?_⟩
  · have : (W.setCell ⟨a, j, none⟩ v).heap.size = W.heap.size := by simp [World.setCell]
    rw [this]; exact h.1
  · rw [heap_setCell_other _ _ _ _ (by show i ≠ a; exact h1)]; exact h.2 i h1 h2
theorem Only.setB {w W : World} {a b : Nat} (h : Only w W a b) (j : Nat) (v : Value) : Only w (W.setCell ⟨b, j, none⟩ v) a b := by
  refine ⟨?_, fun i h1 h2 => ?_⟩
  · have : (W.setCell ⟨b, j, none⟩ v).heap.size = W.heap.size := by simp [World.setCell]
    rw [this]; exact h.1
  · rw [heap_setCell_other _ _ _ _ (by show i ≠ b; exact h2)]; exact h.2 i h1 h2
theorem Only.drew {w W : World} {a b : Nat} (h : Only w W a b) : Only w W.drew a b := h

set_option maxHeartbeats 3200000 in
theorem turn_only (w0 w1 : World) (B g n gf cf gw cw : Nat) (k : Int) (F : List Int) (h : Lent w0 B w1 g n gf cf gw cw F F) (hF : ∀ x ∈ F, IsB x) (hk : 0 < k) (hk2 : k < 9223372036854775807) :
    Calls Try.prog 31 #[.pointer (some ⟨g, 0, none⟩), .int .i64 k] w1 fun e w' => e = .returned (.tuple #[]) ∧ ∃ F', Lent w0 B w' g n gf cf gw cw F' F' ∧ (∀ x ∈ F', IsB x) ∧ Only w1 w' gf gw := by
  obtain ⟨hne, hg1, hg2, h1, h2, h3, h4⟩ := h.ne
  unfold maxLen at h2 h4
  have H := hide h
  have HF := hide hF
  clear h hF
  go_enter Try.func31, Try.ntmps31
  go_wp2
  go_loopw [4] (fun i wr => ∃ (j : Nat) (F W : List Int), j ≤ n ∧ i = .int .i64 j ∧ Lent w0 B wr g n gf cf gw cw F W ∧ TI n j F W ∧ Only w1 wr gf gw) (fun i _ => n - (intOf i).toNat)
  case atStart => exact ⟨0, F, F, Nat.zero_le _, rfl, unhide H, ⟨unhide HF, fun _ _ => rfl⟩, Only.refl _ _ _⟩
  case round =>
    obtain ⟨j, F, W, hj, rfl, lent, ti, only⟩ := hrel
    obtain ⟨c0, c1, c2, f0, f1⟩ := lent.cells
    by_cases hlt : j < n
    · have hfl := lent.flen
      have hwl := lent.wlen
      obtain ⟨k1, k3⟩ := lent.fcell j (by omega)
      obtain ⟨k2, k4⟩ := lent.wcell j (by omega)
      have hb := ti.1 (F.getD j 0) (by simp [List.getD, show j < F.length by omega])
      by_cases ht : (j : Int) % k = k - 1
      · have hte : ((j : Int) % k == k - 1) = true := by rw [beq_iff_eq]; exact ht
        have lf := lent.setF j (bits .xor .u8 (F.getD j 0) 1)
        obtain ⟨d0, d1, d2, d3, d4⟩ := lf.cells
        obtain ⟨e1, e3⟩ := lf.fcell j (by omega)
        rw [getD_set_eq _ _ _ (by omega)] at e1
        obtain ⟨e2, e4⟩ := lf.wcell j (by omega)
        have O := hide ((only.setA j (.int .u8 (bits .xor .u8 (F.getD j 0) 1))).setB j (.int .u8 (bits .xor .u8 (F.getD j 0) 1)))
        have L := hide (lf.setW j (bits .xor .u8 (F.getD j 0) 1))
        have T := hide (ti.turn hlt (by omega) (by omega) (bits .xor .u8 (F.getD j 0) 1) (xor1_byte _ hb))
        generalize F.getD j 0 = x at k1 e1 e2 e3 e4 d0 d1 d2 d3 d4 L T O
        generalize W.getD j 0 = y at k2 e2
        generalize F.set j (bits .xor .u8 x 1) = F1 at L T
        clear lent ti hfl hwl ht hb lf only
        go_wp2
        go_region
        go_wp2
        go_region
        go_wp2
        go_roundw
        case rel => exact ⟨j + 1, _, _, by omega, by go_num, (unhide L).drew.drew, unhide T, (unhide O).drew.drew⟩
        case measure => simp [intOf]; omega
      · have hte : ((j : Int) % k == k - 1) = false := by rw [beq_eq_false_iff_ne]; exact ht
        have O := hide (only.setB j (.int .u8 (F.getD j 0)))
        have L := hide (lent.setW j (F.getD j 0))
        have T := hide (ti.leave hlt (by omega))
        generalize F.getD j 0 = x at k1 L T O
        generalize W.getD j 0 = y at k2
        clear lent ti hfl hwl ht hb only
        go_wp2
        go_region
        go_wp2
        go_roundw
        case rel => exact ⟨j + 1, _, _, by omega, by go_num, (unhide L).drew, unhide T, (unhide O).drew⟩
        case measure => simp [intOf]; omega
    · have e : W = F := list_ext_getD W F (by rw [lent.flen, lent.wlen]) (fun i => ti.2 i (by omega))
      subst e
      have L := hide lent
      have T := hide ti
      have O := hide only
      clear lent ti only
      go_wp2
      go_end0
      exact ⟨rfl, W, unhide L, (unhide T).1, unhide O⟩
end Go.Proofs.Ytpcnpdippnljpaa
