/- G4F, G4O, one text. -/
import Derived.Test.YtggjeamondampaaM4F
import Derived.Test.YtggjeamondampaaM4G
import Derived.Deep.RegionHeld
import Derived.OrdersHeld
import Derived.Test.YtggjeamondampaaM4C
namespace Go.Proofs.Ytggjeamondampaa
open Go.RowKit
set_option linter.unusedVariables false
set_option linter.unusedSimpArgs false
set_option maxRecDepth 100000
set_option maxHeartbeats 4000000

/-- A frame that is lent, in memory. -/
structure Ln (w : World) (G m : Nat) (f : Fr) (d r d' r' ptr : Value) (ra rc : Nat) : Prop where
  cF : ∀ j v, (f.cs d r)[j]? = some v → w.cell? ⟨G, 0 + j, none⟩ = some v
  cW : ∀ j v, (f.cs d' r')[j]? = some v → w.cell? ⟨G, 17 + j, none⟩ = some v
  cP : w.cell? ⟨G, 34, none⟩ = some ptr
  cR : w.cell? ⟨G, 35, none⟩ = some (.slice (some ⟨ra, 0, none⟩) (m + 40) rc)
  F : FrR w f d r
  was : FrR w f d' r'
  len : f.runs.length = m ∧ m ≤ 100000000 ∧ m + 40 ≤ rc ∧ rc ≤ 9223372036854775807
  marks : ∀ i, m ≤ i → i < m + 40 → w.cell? ⟨ra, i * 2, none⟩ = some (.int .i64 (-7)) ∧ w.cell? ⟨ra, i * 2 + 1, none⟩ = some (.int .i64 (-9))
theorem Ln.keep {w W : World} {G m : Nat} {f : Fr} {d r d' r' ptr : Value} {ra rc : Nat} (h : Ln w G m f d r d' r' ptr ra rc) (g : w.grownBy W none) : Ln W G m f d r d' r' ptr ra rc :=
  ⟨fun j v hv => cell_grown (h.cF j v hv) g, fun j v hv => cell_grown (h.cW j v hv) g, cell_grown h.cP g, cell_grown h.cR g, h.F.keep g, h.was.keep g, h.len, fun i h1 h2 => ⟨cell_grown (h.marks i h1 h2).1 g, cell_grown (h.marks i h1 h2).2 g⟩⟩

theorem loanKept_any (G m : Nat) (f : Fr) (d r d' r' : Value) (pt : Option Addr) (ra rc : Nat) (w : World) (h : Ln w G m f d r d' r' (.pointer pt) ra rc)
    (hk : ∀ W, w.grownBy W none → Calls Try.prog 24 #[.pointer pt] W fun e w' => e = .returned (.bool true) ∧ W.grownBy w' none) :
    Calls Try.prog 15 #[.pointer (some ⟨G, 0, none⟩)] w fun e w' => e = .returned (.bool true) ∧ w.grownBy w' none := by
  obtain ⟨C, hC⟩ : ∃ C, C = f.cs d r := ⟨_, rfl⟩
  obtain ⟨C', hC'⟩ : ∃ C', C' = f.cs d' r' := ⟨_, rfl⟩
  have C17 : C.size = 17 := by rw [hC]; rfl
  have C17' : C'.size = 17 := by rw [hC']; rfl
  have sm : Hid (∀ W, w.grownBy W none → Calls Try.prog 25 #[.agg C, .agg C'] W fun e w' => e = .returned (.bool true) ∧ W.grownBy w' none) := fun W g => by
    have hh := same_fr f d r d' r' W ((h.keep g).F) ((h.keep g).was)
    rw [hC, hC']; exact hh
  have cl : ∀ W, w.grownBy W none → ∀ j v, C[j]? = some v → W.cell? ⟨G, 0 + j, none⟩ = some v := fun W g j v hv => (h.keep g).cF j v (by rw [← hC]; exact hv)
  have cl' : ∀ W, w.grownBy W none → ∀ j v, C'[j]? = some v → W.cell? ⟨G, 17 + j, none⟩ = some v := fun W g j v hv => (h.keep g).cW j v (by rw [← hC']; exact hv)
  obtain ⟨p', q', er', -, -⟩ := h.was.runs
  have c29 : Hid (∀ W, w.grownBy W none → W.cell? ⟨G, 29, none⟩ = some (.slice p' m q')) := fun W g => by
    have := (h.keep g).cW 12 r' rfl
    rw [er', h.len.1] at this
    exact this
  have HH := hide h
  have kt := hk w (World.grownBy.refl w none)
  have cP := h.cP
  clear h hk hC hC'
  go_enter Try.func15, Try.ntmps15
  go_upto_region 2 with (go_at_call 24; refine kt.mono ?_; rintro e W1 ⟨rfl, g1⟩)
  have gd : w.grownBy W1.drew none := g1.trans (drew_gr W1)
  refine wp_region_held_drew (S := fun W => w.grownBy W none) (by kernel_rfl) gd (fun hHeld => ?_)
  refine wpAnyH_take (i := 0) (v := ?_) rfl (by as_aux_lemma => kernel_rfl) (by as_aux_lemma => kernel_rfl) (by as_aux_lemma => kernel_rfl) (fun _ _ _ h => h) (Or.inl ⟨by rfl, ?_⟩) (by assumption) ?_
  rotate_left
  · intro wH hSw
    try dsimp only at hSw
    go_simp
    try with_reducible rfl
  try simp only [Act.put, List.setIfInBounds_toArray, List.set_cons_zero, List.set_cons_succ]
  refine wpAnyH_take (i := 1) (v := ?_) rfl (by as_aux_lemma => kernel_rfl) (by as_aux_lemma => kernel_rfl) (by as_aux_lemma => kernel_rfl) (fun _ _ _ h => h) (Or.inl ⟨by rfl, ?_⟩) (by assumption) ?_
  rotate_left
  · intro wH hSw
    try dsimp only at hSw
    go_simp
    try with_reducible rfl
  try simp only [Act.put, List.setIfInBounds_toArray, List.set_cons_zero, List.set_cons_succ]
  refine wpAnyH_take (i := 2) (v := ?_) rfl (by as_aux_lemma => kernel_rfl) (by as_aux_lemma => kernel_rfl) (by as_aux_lemma => kernel_rfl) (fun _ _ _ h => h) (Or.inl ⟨by rfl, ?_⟩) (by assumption) ?_
  rotate_left
  · intro wH hSw
    try dsimp only at hSw
    go_simp
    try with_reducible rfl
  try simp only [Act.put, List.setIfInBounds_toArray, List.set_cons_zero, List.set_cons_succ]
  refine wpAnyH_take (i := 3) (v := .agg C) rfl (by as_aux_lemma => kernel_rfl) (by as_aux_lemma => kernel_rfl) (by as_aux_lemma => kernel_rfl) (fun _ _ _ h => h) (Or.inl ⟨by rfl, ?_⟩) (by assumption) ?_
  · intro wH hSw
    exact exec_load_at (x := .tmp 13) rfl rfl C17 (cl wH hSw)
  try simp only [Act.put, List.setIfInBounds_toArray, List.set_cons_zero, List.set_cons_succ]
  refine wpAnyH_take (i := 4) (v := ?_) rfl (by as_aux_lemma => kernel_rfl) (by as_aux_lemma => kernel_rfl) (by as_aux_lemma => kernel_rfl) (fun _ _ _ h => h) (Or.inl ⟨by rfl, ?_⟩) (by assumption) ?_
  rotate_left
  · intro wH hSw
    try dsimp only at hSw
    go_simp
    try with_reducible rfl
  try simp only [Act.put, List.setIfInBounds_toArray, List.set_cons_zero, List.set_cons_succ]
  refine wpAnyH_take (i := 5) (v := ?_) rfl (by as_aux_lemma => kernel_rfl) (by as_aux_lemma => kernel_rfl) (by as_aux_lemma => kernel_rfl) (fun _ _ _ h => h) (Or.inl ⟨by rfl, ?_⟩) (by assumption) ?_
  rotate_left
  · intro wH hSw
    try dsimp only at hSw
    go_simp
    try with_reducible rfl
  try simp only [Act.put, List.setIfInBounds_toArray, List.set_cons_zero, List.set_cons_succ]
  refine wpAnyH_take (i := 6) (v := ?_) rfl (by as_aux_lemma => kernel_rfl) (by as_aux_lemma => kernel_rfl) (by as_aux_lemma => kernel_rfl) (fun _ _ _ h => h) (Or.inl ⟨by rfl, ?_⟩) (by assumption) ?_
  rotate_left
  · intro wH hSw
    try dsimp only at hSw
    go_simp
    try with_reducible rfl
  try simp only [Act.put, List.setIfInBounds_toArray, List.set_cons_zero, List.set_cons_succ]
  refine wpAnyH_take (i := 7) (v := .agg C') rfl (by as_aux_lemma => kernel_rfl) (by as_aux_lemma => kernel_rfl) (by as_aux_lemma => kernel_rfl) (fun _ _ _ h => h) (Or.inl ⟨by rfl, ?_⟩) (by assumption) ?_
  · intro wH hSw
    exact exec_load_at (x := .tmp 17) rfl rfl C17' (cl' wH hSw)
  try simp only [Act.put, List.setIfInBounds_toArray, List.set_cons_zero, List.set_cons_succ]
  refine wpAnyH_ready (rs := [8]) (by as_aux_lemma => kernel_rfl) (by simp) ?_
  refine AllReadyH.cons rfl (fun KH hKH => ?_) AllReadyH.nil
  go_simp
  refine (unhide sm _ gd).mono ?_
  rintro e W9 ⟨rfl, g9⟩
  refine hKH.out _ _ (gd.trans g9) (fun hHeld2 => ?_)
  clear hKH KH
  try simp only [Act.put, List.setIfInBounds_toArray, List.set_cons_zero, List.set_cons_succ]
  refine wpAnyH_ready (rs := [9]) (by as_aux_lemma => kernel_rfl) (by simp) ?_
  refine AllReadyH.cons rfl (fun KH hKH => ?_) AllReadyH.nil
  go_simp
  refine hKH.out _ _ (gd.trans g9) (fun hHeld3 => ?_)
  clear hKH KH
  try simp only [Act.put, List.setIfInBounds_toArray, List.set_cons_zero, List.set_cons_succ]
  refine wpAnyH_done (by as_aux_lemma => kernel_rfl) ?_ _
  have G9 := hide (gd.trans g9)
  have d29 := unhide c29 W9 (gd.trans g9)
  have mB := (unhide HH).len.2.1
  have rcB := (unhide HH).len.2.2
  clear hHeld hHeld2 hHeld3 cl cl' sm g9 gd g1 c29 kt cP
  go_wp2_with fail
  go_loopw [5] (fun i wr => ∃ k : Nat, m ≤ k ∧ k ≤ m + 40 ∧ i = .int .i64 k ∧ Hid (w.grownBy wr none)) (fun i _ => m + 40 - (intOf i).toNat)
  case atStart => exact ⟨m, Nat.le_refl _, by omega, rfl, unhide G9⟩
  case round =>
    obtain ⟨k, k1, k2, rfl, H⟩ := hrel
    have hr := (unhide HH).keep (unhide H)
    have c35 := hr.cR
    by_cases hlt : k < m + 40
    · have kI : (k : Int) < (m : Int) + 40 := by omega
      have kI2 : (k : Int) < ((m + 40 : Nat) : Int) := by omega
      obtain ⟨m1, m2⟩ := hr.marks k k1 hlt
      clear hr
      go_wp2
      exact ⟨⟨k + 1, by omega, by omega, by go_num, unhide H⟩, by simp [intOf]; omega⟩
    · obtain rfl : k = m + 40 := by omega
      have kI : ¬ ((m + 40 : Nat) : Int) < ((m + 40 : Nat) : Int) := by omega
      clear hr
      go_wp2
      go_ret
      exact ⟨rfl, unhide H⟩
end Go.Proofs.Ytggjeamondampaa

namespace Go.Proofs.Ytggjeamondampaa
open Go.RowKit
set_option linter.unusedVariables false
set_option maxRecDepth 100000
set_option maxHeartbeats 1000000

/-- A frame that is lent: what its owner has of it. -/
def Lo (w0 w : World) (G : Nat) (f : Fr) (d1 r1 : Value) : Prop :=
  ∃ lg gf cf gw cw d' r' ra rc, Ln w G f.runs.length f d1 r1 d' r' (.pointer (some ⟨lg, 0, none⟩)) ra rc ∧ Lent w0 w0.heap.size w lg f.data.length gf cf gw cw (lentL f.data) (lentL f.data)
theorem Lo.keep {w0 w W : World} {G : Nat} {f : Fr} {d1 r1 : Value} (h : Lo w0 w G f d1 r1) (g : w.grownBy W none) : Lo w0 W G f d1 r1 := by
  obtain ⟨lg, gf, cf, gw, cw, d', r', ra, rc, h1, h2⟩ := h
  exact ⟨lg, gf, cf, gw, cw, d', r', ra, rc, h1.keep g, LP.onN h2 g⟩
theorem Lo.fr {w0 w : World} {G : Nat} {f : Fr} {d1 r1 : Value} (h : Lo w0 w G f d1 r1) : FrR w f d1 r1 := by
  obtain ⟨lg, gf, cf, gw, cw, d', r', ra, rc, h1, h2⟩ := h
  exact h1.F
theorem Lo.cells {w0 w : World} {G : Nat} {f : Fr} {d1 r1 : Value} (h : Lo w0 w G f d1 r1) : ∀ j v, (f.cs d1 r1)[j]? = some v → w.cell? ⟨G, 0 + j, none⟩ = some v := by
  obtain ⟨lg, gf, cf, gw, cw, d', r', ra, rc, h1, h2⟩ := h
  exact h1.cF
theorem Lo.kept {w0 w : World} {G : Nat} {f : Fr} {d1 r1 : Value} (h : Lo w0 w G f d1 r1) :
    Calls Try.prog 15 #[.pointer (some ⟨G, 0, none⟩)] w fun e w' => e = .returned (.bool true) ∧ w.grownBy w' none := by
  obtain ⟨lg, gf, cf, gw, cw, d', r', ra, rc, h1, h2⟩ := h
  exact loanKept_any G f.runs.length f d1 r1 d' r' _ ra rc w h1 (fun W g => (kept_any w0 W w0.heap.size lg f.data.length gf cf gw cw _ (LP.onN h2 g)).mono (by
    rintro e w' ⟨rfl, q, rfl⟩
    exact ⟨rfl, grown_drewM (World.grownBy.refl W none) q⟩))

theorem lo_of {w W : World} {b G lg gf cf gw cw ra rc : Nat} {f : Fr} {d0 r0 d' r' : Value} (mB : f.runs.length ≤ 100000000) (hb : ∀ x ∈ f.data, IsB x)
    (I : LdI w W b G lg f.data.length gf cf gw cw f d0 r0 (.slice (some ⟨gf, 0, none⟩) f.data.length cf) (.slice (some ⟨ra, 0, none⟩) f.runs.length rc) d' r' (.slice (some ⟨ra, 0, none⟩) (f.runs.length + 40) rc) (f.runs.length + 40)) :
    Lo w W G f (.slice (some ⟨gf, 0, none⟩) f.data.length cf) (.slice (some ⟨ra, 0, none⟩) f.runs.length rc) := by
  have eT : (lentR f.runs).take (f.runs.length + 40) = lentR f.runs := List.take_of_length_le (by rw [lentR_length]; exact Nat.le_refl _)
  have hO := I.own
  rw [eT] at hO
  have hO2 : W.ownsRow w.heap.size 81 2 (.slice (some ⟨ra, 0, none⟩) (f.runs.length + 40) rc) (lentR f.runs).length (clR (lentR f.runs)) := hO
  have cel : ∀ i, i < f.runs.length + 40 → W.cell? ⟨ra, i * 2, none⟩ = some (.int .i64 ((lentR f.runs).getD i (0, 0)).1) ∧ W.cell? ⟨ra, i * 2 + 1, none⟩ = some (.int .i64 ((lentR f.runs).getD i (0, 0)).2) := fun i hi => by
    have hg := clR_get (lentR f.runs) i (by rw [lentR_length]; exact hi)
    have hl := clR_length (lentR f.runs)
    rw [lentR_length] at hl
    rw [lentR_length] at hO2
    exact ⟨by rw [hO2.cellAt (i * 2) (by omega)]; exact hg.1, by rw [hO2.cellAt (i * 2 + 1) (by omega)]; exact hg.2⟩
  have rcb : f.runs.length + 40 ≤ rc ∧ rc ≤ 9223372036854775807 := by
    obtain ⟨a, c, e, h1, h2⟩ := row_shape hO2
    rw [lentR_length] at e h1
    injection e with e1 e2 e3
    omega
  obtain ⟨-, -, -, hc1, hc2, -, -⟩ := I.lent.ne
  unfold maxLen at hc2
  refine ⟨lg, gf, cf, gw, cw, d', r', ra, rc, ⟨fun j v hv => I.bG.cell _ v (loanC_lo f _ _ d' r' _ _ j v hv), fun j v hv => I.bG.cell _ v (loanC_hi f _ _ d' r' _ _ j v hv), I.bG.cell 34 _ (loanC_g f _ _ d' r' _ _).2.2.1, I.bG.cell 35 _ (loanC_g f _ _ d' r' _ _).2.2.2, ⟨⟨_, _, rfl, ?_, by omega, by omega⟩, ⟨_, _, rfl, ?_, by omega, rcb.2⟩⟩, FrR.own I.dat I.run hb, ⟨rfl, mB, rcb.1, rcb.2⟩, fun i h1 h2 => ?_⟩, I.lent⟩
  · have := I.lent.rd (lentL_byte _ hb)
    rw [show (lentL f.data).take f.data.length = f.data by simp [lentL]] at this
    exact this
  · exact fun hne => ⟨ra, 0, rfl, fun i hi => by
      have := cel i (by omega)
      rw [lentR_lo _ _ hi] at this
      rw [Nat.zero_add]
      exact this⟩
  · have := cel i h2
    rw [lentR_hi _ _ h1 h2] at this
    exact this

theorem lendFr_any (f : Fr) (d r : Value) (w : World) (hR : FrR w f d r) (hd : f.data.length ≤ 100000000) (hr : f.runs.length ≤ 100000000) :
    Calls Try.prog 10 #[f.val d r] w fun e w' => ∃ G d1 r1, e = .returned (.pointer (some ⟨G, 0, none⟩)) ∧ Hid (Lo w w' G f d1 r1 ∧ w.grownBy w' none) := by
  obtain ⟨a, c, rfl, h1, h2, h3⟩ := hR.data
  obtain ⟨p, q, rfl, h4, h5, h6⟩ := hR.runs
  refine (lend_of f a p _ _ c q w rfl rfl (fun W g => copiedFr_any f _ _ W (hR.keep g) hd hr) h1 h4 hd hr).mono ?_
  rintro e w' ⟨G, rfl, H⟩
  obtain ⟨b, lg, gf, cf, gw, cw, d', r', ra, rc, I⟩ := unhide H
  exact ⟨G, _, _, rfl, lo_of hr h1.1 I, I.gr⟩
end Go.Proofs.Ytggjeamondampaa
