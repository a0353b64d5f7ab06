/- The document's Encode. -/
import Derived.Test.YtmfbbamaleagiaaDoorYK
namespace Go.Proofs.YtmfbbamaleagiaaDoor
open Go.RowKit
set_option linter.unusedVariables false
set_option maxRecDepth 100000
set_option maxHeartbeats 1000000

/-- append, and where the new slice lies. -/
theorem app_moved (w0 w : World) (v : Value) (d e : List Int) (a : Option Addr) (c : Nat) (ho : OwnB w0.heap.size w v d) (hg : w0.grownBy w none) (hr : Rd w a e) (hm : d.length + e.length ≤ 140737488355328) :
    ∃ v' w', (∀ ty, (Builtin.append_ #[31, 31] ty #[v, .slice a e.length c]).run Tryd.prog w = .ok v' w') ∧ OwnB w0.heap.size w' v' (d ++ e) ∧ w0.grownBy w' none ∧ Moved w w' v v' := by
  obtain ⟨inf, hi0, hz0, hz1, hz2⟩ := info_parts Tryd.info5
  by_cases he : e = []
  · subst he
    refine ⟨v, w, fun ty => ?_, by simpa using ho, hg, .inl ⟨rfl, World.grownBy.refl w _⟩⟩
    obtain ⟨x, q, rfl⟩ := ho.shape
    rcases ho.2 with ⟨h1, h2⟩ | ⟨g, cap, cur, e1, -, -, hc, hx, -⟩
    · injection h1 with h3 h4 h5; subst h3 h5
      rw [h2]
      cases a <;> simp [Builtin.append_, run_underlying Tryd.underlying31, sizeOf, typeInfo, hi0, Builtin.lenOf, Builtin.firstCells, loadCells, loadCellsFrom]
    · injection e1 with h3 h4 h5; subst h3 h5
      cases a <;> simp [Builtin.append_, run_underlying Tryd.underlying31, sizeOf, typeInfo, hi0, Builtin.lenOf, Builtin.firstCells, loadCells, loadCellsFrom, hc, storeCells]
  · have hp : 0 < e.length := List.length_pos_iff.2 he
    obtain ⟨b, off, rfl, hc⟩ := hr.2 he
    have key := fun ty => app_keep (P := Tryd.prog) w w0.heap.size 31 ty 5 inf (.int .u8 0) 1 Tryd.underlying31 hi0 hz0 hz1 hz2 rfl v d.length (d.map (Value.int .u8)) ho ⟨b, off, none⟩ e.length c (e.map (Value.int .u8)) (by simp)
      (fun j u hu => by
        have hj : j < e.length := by
          by_cases c : j < e.length
          · exact c
          · simp [c] at hu
        have := hc j (by omega)
        simp [hj] at hu
        have hadd : (⟨b, off, none⟩ : Addr).add j = ⟨b, off + j, none⟩ := by simp [Addr.add]
        rw [hadd, this, ← hu]
        simp [List.getD, hj])
      (fun u hu => by simp at hu; obtain ⟨x, -, rfl⟩ := hu; rfl) hp (by unfold maxLen; omega) (by omega) hg.size
    obtain ⟨v', w', hr', ho', hmv, -⟩ := key 0
    refine ⟨v', w', fun ty => ?_, ?_, ?_, hmv⟩
    · have : (Builtin.append_ #[31, 31] ty #[v, .slice (some ⟨b, off, none⟩) e.length c]).run Tryd.prog w = (Builtin.append_ #[31, 31] 0 #[v, .slice (some ⟨b, off, none⟩) e.length c]).run Tryd.prog w := rfl
      rw [this]; exact hr'
    · unfold OwnB; simpa using ho'
    · refine bel_grown (hmv.below (grown_bel hg) hg.size (fun k hk => ?_))
      rcases ho.2 with ⟨h1, h2⟩ | ⟨g, cap, cur, e1, hbg, -⟩
      · subst h1; cases hk
      · subst e1; simp [Value.ownBlock] at hk; omega


/-- No own block between these two. -/
def Away (lo hi : Nat) (v : Value) : Prop := ∀ g, v.ownBlock = some g → g < lo ∨ hi ≤ g
theorem rd_moved {W W' : World} {v v' : Value} {a : Option Addr} {l : List Int} {lo hi : Nat} (hm : Moved W W' v v') (hr : Rd W a l) (ha : ∀ x, a = some x → lo ≤ x.block ∧ x.block < hi) (haw : Away lo hi v) (hhi : hi ≤ W.heap.size) : Rd W' a l := by
  refine ⟨hr.1, fun hne => ?_⟩
  obtain ⟨b, off, rfl, hc⟩ := hr.2 hne
  refine ⟨b, off, rfl, fun i hi' => ?_⟩
  obtain ⟨h1, h2⟩ := ha _ rfl
  simp only at h1 h2
  have e : W'.heap[b]? = W.heap[b]? := by
    rcases hm with ⟨-, hg⟩ | ⟨-, hg, -⟩
    · refine hg.block b (by omega) ?_
      intro c
      rcases haw b c.symm with h | h <;> omega
    · exact hg.block b (by omega) (by simp)
  have := hc i hi'
  simp only [World.cell?] at this ⊢
  rw [e]; exact this
theorem away_moved {W W' : World} {v v' : Value} {lo hi : Nat} (hm : Moved W W' v v') (haw : Away lo hi v) (hhi : hi ≤ W.heap.size) : Away lo hi v' := by
  intro g hg
  rcases hm with ⟨h, -⟩ | ⟨h, -, -⟩
  · exact haw g (by rw [← h]; exact hg)
  · rw [h] at hg; injection hg with hg; omega

theorem app3 (W0 wr W : World) (u : Value) (d l1 l2 l3 : List Int) (a1 a2 a3 : Option Addr) (c1 c2 c3 : Nat) (ho : OwnB W0.heap.size wr u d) (hg : W0.grownBy wr none) (gW : wr.grownBy W none)
    (r1 : Rd W a1 l1 ∧ ∀ x, a1 = some x → wr.heap.size ≤ x.block ∧ x.block < W.heap.size) (r2 : Rd W a2 l2 ∧ ∀ x, a2 = some x → wr.heap.size ≤ x.block ∧ x.block < W.heap.size) (r3 : Rd W a3 l3 ∧ ∀ x, a3 = some x → wr.heap.size ≤ x.block ∧ x.block < W.heap.size)
    (hl : d.length + l1.length + l2.length + l3.length ≤ 140737488355328) :
    ∃ x1 y1 x2 y2 x3 y3, (∀ ty, (Builtin.append_ #[31, 31] ty #[u, .slice a1 l1.length c1]).run Tryd.prog W = .ok x1 y1) ∧ (∀ ty, (Builtin.append_ #[31, 31] ty #[x1, .slice a3 l3.length c3]).run Tryd.prog y1 = .ok x2 y2) ∧
      (∀ ty, (Builtin.append_ #[31, 31] ty #[x2, .slice a2 l2.length c2]).run Tryd.prog y2 = .ok x3 y3) ∧ OwnB W0.heap.size y3 x3 (d ++ l1 ++ l3 ++ l2) ∧ W0.grownBy y3 none := by
  have haw : Away wr.heap.size W.heap.size u := by
    intro g hgo
    rcases ho.2 with ⟨h1, -⟩ | ⟨g', cap, cur, e1, -, hgg, -⟩
    · subst h1; cases hgo
    · subst e1
      simp [Value.ownBlock] at hgo
      subst hgo
      left
      by_cases cc : g' < wr.heap.size
      · exact cc
      · rw [Array.getElem?_eq_none (by omega)] at hgg; cases hgg
  obtain ⟨x1, y1, e1, o1, g1, m1⟩ := app_moved W0 W u d l1 a1 c1 (World.ownsRow.kept ho gW (by cases u.ownBlock <;> simp)) (hg.trans gW) r1.1 (by omega)
  have s1 : W.heap.size ≤ y1.heap.size := by rcases m1 with ⟨-, h⟩ | ⟨-, h, -⟩ <;> exact h.size
  have A1 := away_moved m1 haw (Nat.le_refl _)
  have r3' := rd_moved m1 r3.1 r3.2 haw (Nat.le_refl _)
  have r2' := rd_moved m1 r2.1 r2.2 haw (Nat.le_refl _)
  obtain ⟨x2, y2, e2, o2, g2, m2⟩ := app_moved W0 y1 x1 (d ++ l1) l3 a3 c3 o1 g1 r3' (by rw [List.length_append]; omega)
  have r2'' := rd_moved m2 r2' r2.2 A1 s1
  obtain ⟨x3, y3, e3, o3, g3⟩ := app_grown W0 y2 x2 (d ++ l1 ++ l3) l2 a2 c2 o2 g2 r2'' (by rw [List.length_append, List.length_append]; omega)
  exact ⟨x1, y1, x2, y2, x3, y3, e1, e2, e3, o3, g3⟩

theorem rput_ok (v : Int) (w : World) (v0 : 0 ≤ v) (v1 : v ≤ 4611686018427387903) :
    Calls Tryd.prog 33 #[.int .u64 v] w fun e w' => ∃ a c, e = .returned (.tuple #[.slice a (sizeF v) c, .int .i64 0]) ∧ (Rd w' a (sh v) ∧ ∀ x, a = some x → w.heap.size ≤ x.block ∧ x.block < w'.heap.size) ∧ w.grownBy w' none := by
  refine (rput_own v w v0 (by omega)).mono ?_
  rintro e w' ⟨s, rfl, ho⟩
  have hp : putF v = (sh v, 0) := by unfold putF sh; rw [if_pos v1]
  rw [hp] at ho ⊢
  obtain ⟨-, a, c, rfl, hr⟩ := own_rd ho.1 (lay_bytes v v0 v1)
  refine ⟨a, c, ?_, ⟨hr, fun x ex => ?_⟩, bel_grown ho.2⟩
  · rw [sh_length]
  · rcases ho.1.2 with ⟨h1, -⟩ | ⟨g, cap, cur, e1, hbg, hgg, -⟩
    · injection h1 with h1; rw [h1] at ex; cases ex
    · injection e1 with e1
      rw [e1] at ex
      cases ex
      refine ⟨hbg, ?_⟩
      by_cases cc : g < w'.heap.size
      · exact cc
      · rw [Array.getElem?_eq_none (by omega)] at hgg; cases hgg

/-- Encode by its numbers. -/
def partI (p : Ps) (k : Nat) : List Int := if knownB k = true then partK (ixF k) (p.l.getD (ixF k) 0) else []
def encI (p : Ps) : Nat → List Int
  | 0 => []
  | j + 1 => encI p j ++ partI p (j + 1)
theorem encI_is (p : Ps) : encI p 11 = encF p := by
  simp [encI, partI, encF, encK, knownB, ixF]
theorem num_ix (k : Nat) (h : 1 ≤ k ∧ k ≤ 11) (hk : knownB k = true) : numT (ixF k) = k ∧ ixF k < 9 := by
  obtain rfl | rfl | rfl | rfl | rfl | rfl | rfl | rfl | rfl | rfl | rfl : k = 1 ∨ k = 2 ∨ k = 3 ∨ k = 4 ∨ k = 5 ∨ k = 6 ∨ k = 7 ∨ k = 8 ∨ k = 9 ∨ k = 10 ∨ k = 11 := by omega
  all_goals first
    | exact ⟨by decide, by decide⟩
    | (exfalso; revert hk; decide)
theorem encI_len (p : Ps) (h : ∀ j, j < 9 → okV j (p.l.getD j 0)) : ∀ j, j ≤ 11 → (encI p j).length ≤ j * 24 := by
  intro j
  induction j with
  | zero => intro _; simp [encI]
  | succ j ih =>
    intro hj
    have := ih (by omega)
    simp only [encI, List.length_append, partI]
    split
    · rename_i hk
      have := part_len (ixF (j + 1)) (num_ix (j + 1) (by omega) hk).2 _ (h _ (num_ix (j + 1) (by omega) hk).2)
      omega
    · simp; omega

set_option maxHeartbeats 2000000 in
theorem rencode_any (p : Ps) (w : World) : Calls Tryd.prog 15 #[.agg p.cs] w fun e w' => ∃ s, e = .returned (.tuple #[s, .int .i64 (checkF p)]) ∧ OwnB w.heap.size w' s (if checkF p = 0 then encF p else []) ∧ w.grownBy w' none := by
  have hc := rcheck_any p (w.alloc (.cells p.cs 23))
  have B0 := Blk.new w p.cs 23
  have G0 := World.grownBy_alloc w (.cells p.cs 23) none
  by_cases h0 : checkF p = 0
  · rw [if_pos h0, h0]
    rw [h0] at hc
    have hok := (checkF_ok p).1 h0
    have rd := fun W => rdefault_any W
    go_enter Tryd.func15, Tryd.ntmps15
    go_wp2_with (first
      | (refine wpList_load_row rfl _ _ rfl w.heap.size rfl 23 p.cs (0, 0) _ B0 Tryd.underlying23 rfl Tryd.sizePs ?_)
      | (go_at_call 12; refine hc.mono ?_; rintro e W1 ⟨rfl, g1⟩; have B1 := B0.grown g1; have G1 := G0.trans g1; clear hc g1 B0 G0)
      | (go_at_call 13; refine (rd _).mono ?_; rintro e W2 ⟨rfl, g2⟩; have B2 := B1.grown g2; have G2 := G1.trans g2; clear rd g2 B1 G1)
      | (refine wpList_store_row rfl _ _ _ rfl W2.heap.size dflt.cs rfl rfl 23 _ (Blk.new W2 zero9 23) Tryd.sizePs rfl (Ps.one _) ?_; rw [World.setRow_alloc_new]))
    have D3 := Blk.new W2 dflt.cs 23
    have B3 := B2.alloc (.cells dflt.cs 23)
    have G3 := G2.trans (World.grownBy_alloc W2 (.cells dflt.cs 23) none)
    clear B2 G2
    generalize W2.alloc (.cells dflt.cs 23) = W0 at *
    generalize W2.heap.size = gd at *
    go_loopw [7, 5] (fun i s wr => ∃ j : Nat, j ≤ 11 ∧ i = .int .u64 ((j : Int) + 1) ∧ OwnB W0.heap.size wr s (encI p j) ∧ W0.grownBy wr none) (fun i _ _ => 12 - (intOf i).toNat)
    case atStart => exact ⟨0, by omega, rfl, World.ownsRow_nil _ _ _ _, World.grownBy.refl W0 none⟩
    case round =>
      obtain ⟨j, hj, rfl, ho, hg⟩ := hrel
      by_cases hj11 : j = 11
      · subst hj11
        rw [encI_is] at ho
        have F := hide (And.intro (OwnB.mono ho G3.size) (G3.trans hg))
        clear ho hg hok
        go_wp2_with fail
        go_ret2
        exact ⟨_, rfl, (unhide F).1, (unhide F).2⟩
      · have B4 := B3.grown hg
        have D4 := D3.grown hg
        have kn := known_any ((j : Int) + 1) wr (by omega)
        have hlt : (j : Int) + 1 ≤ 11 := by omega
        have hwk : IntKind.u64.wrap ((j : Int) + 1 + 1) = (j : Int) + 1 + 1 := by rw [IntKind.wrap_u64]; omega
        have gp := rget06_any p (j + 1) (by omega) wr
        have gd' := fun W => rget06_any dflt (j + 1) (by omega) W
        have el := encI_len p hok j hj
        have E : encI p (j + 1) = encI p j ++ partI p (j + 1) := rfl
        unfold partI at E
        unfold getR at gp gd'
        have ec : ((j + 1 : Nat) : Int) = (j : Int) + 1 := by omega
        simp only [ec] at gp gd' E
        cases hkn : knownB ((j : Int) + 1) with
        | false =>
          rw [hkn] at kn gp gd' E
          simp only [Bool.false_eq_true, if_false, List.append_nil] at gp gd' E
          have F : Hid (∀ W, wr.grownBy W none → OwnB W0.heap.size W u5 (encI p (j + 1)) ∧ W0.grownBy W none) := fun W gW => by rw [E]; exact ⟨World.ownsRow.kept ho gW (by cases u5.ownBlock <;> simp), hg.trans gW⟩
          clear ho hg E el hok hkn
          go_wp2_with (first
            | (go_at_call 30; refine kn.mono ?_; rintro e W1 ⟨rfl, hW⟩; replace hW := hW.symm; subst hW; clear kn)
            | (refine wpList_load_row rfl _ _ rfl w.heap.size rfl 23 p.cs (0, 0) _ B4 Tryd.underlying23 rfl Tryd.sizePs ?_)
            | (go_at_call 31; refine gp.mono ?_; rintro e W5 ⟨rfl, g5⟩; have D5 := D4.grown g5; clear gp)
            | (refine wpList_load_row rfl _ _ rfl gd rfl 23 dflt.cs (0, 0) _ D5 Tryd.underlying23 rfl Tryd.sizePs ?_)
            | (go_at_call 31; refine (gd' _).mono ?_; rintro e W6 ⟨rfl, g6⟩; have F6 := hide (unhide F _ (g5.trans g6)); clear gd' g5 g6))
          exact ⟨⟨j + 1, by omega, rfl, (unhide F6).1, (unhide F6).2⟩, by simp [intOf]; omega⟩
        | true =>
          have hkn' : knownB ((j + 1 : Nat) : Int) = true := by rw [ec]; exact hkn
          obtain ⟨hnum, hix⟩ := num_ix (j + 1) (by omega) hkn'
          rw [hkn] at kn gp gd' E
          simp only [if_true] at gp gd' E
          rw [dflt_get _ hix] at gd'
          have okk := hok _ hix
          obtain ⟨m1, m2, m3⟩ := most_small _ hix
          have pl := part_len _ hix _ okk
          unfold partK at E pl
          rw [hnum, ec] at E pl
          generalize hv : p.l.getD (ixF (j + 1)) 0 = v at *
          generalize hu : untT (ixF (j + 1)) = u at *
          obtain ⟨v1, v2⟩ := okk
          by_cases hvu : v = u
          · rw [if_pos hvu, List.append_nil] at E
            have hd : (v == u) = true := by simpa using hvu
            have F : Hid (∀ W, wr.grownBy W none → OwnB W0.heap.size W u5 (encI p (j + 1)) ∧ W0.grownBy W none) := fun W gW => by rw [E]; exact ⟨World.ownsRow.kept ho gW (by cases u5.ownBlock <;> simp), hg.trans gW⟩
            clear ho hg E el hok hkn hkn' pl hnum hv hu hvu
            go_wp2_with (first
              | (go_at_call 30; refine kn.mono ?_; rintro e W1 ⟨rfl, hW⟩; replace hW := hW.symm; subst hW; clear kn)
              | (refine wpList_load_row rfl _ _ rfl w.heap.size rfl 23 p.cs (0, 0) _ B4 Tryd.underlying23 rfl Tryd.sizePs ?_)
              | (go_at_call 31; refine gp.mono ?_; rintro e W5 ⟨rfl, g5⟩; have D5 := D4.grown g5; clear gp)
              | (refine wpList_load_row rfl _ _ rfl gd rfl 23 dflt.cs (0, 0) _ D5 Tryd.underlying23 rfl Tryd.sizePs ?_)
              | (go_at_call 31; refine (gd' _).mono ?_; rintro e W6 ⟨rfl, g6⟩; have F6 := hide (unhide F _ (g5.trans g6)); clear gd' g5 g6))
            exact ⟨⟨j + 1, by omega, rfl, (unhide F6).1, (unhide F6).2⟩, by simp [intOf]; omega⟩
          · rw [if_neg hvu] at E pl
            have hd : (v == u) = false := by simpa using hvu
            have s1 := sizeF_pos v (by omega)
            have q1 := fun W => rput_ok ((j : Int) + 1) W (by omega) (by omega)
            have q2 := fun W => rput_ok v W (by omega) (by omega)
            have q3 := fun W => rput_ok (sizeF v) W (by omega) (by omega)
            have hcv : IntKind.u64.wrap v = v := by rw [IntKind.wrap_u64]; omega
            have key : Hid (∀ W a1 c1 a2 c2 a3 c3, wr.grownBy W none → (Rd W a1 (sh ((j : Int) + 1)) ∧ ∀ x, a1 = some x → wr.heap.size ≤ x.block ∧ x.block < W.heap.size) → (Rd W a2 (sh v) ∧ ∀ x, a2 = some x → wr.heap.size ≤ x.block ∧ x.block < W.heap.size) → (Rd W a3 (sh (sizeF v)) ∧ ∀ x, a3 = some x → wr.heap.size ≤ x.block ∧ x.block < W.heap.size) →
                ∃ x1 y1 x2 y2 x3 y3, (∀ ty, (Builtin.append_ #[31, 31] ty #[u5, .slice a1 (sizeF ((j : Int) + 1)) c1]).run Tryd.prog W = .ok x1 y1) ∧ (∀ ty, (Builtin.append_ #[31, 31] ty #[x1, .slice a3 (sizeF (sizeF v)) c3]).run Tryd.prog y1 = .ok x2 y2) ∧
                  (∀ ty, (Builtin.append_ #[31, 31] ty #[x2, .slice a2 (sizeF v) c2]).run Tryd.prog y2 = .ok x3 y3) ∧ OwnB W0.heap.size y3 x3 (encI p (j + 1)) ∧ W0.grownBy y3 none) := by
              intro W a1 c1 a2 c2 a3 c3 gW r1 r2 r3
              have z1 := sizeF_pos ((j : Int) + 1) (by omega)
              have z3 := sizeF_pos (sizeF v) (by omega)
              obtain ⟨x1, y1, x2, y2, x3, y3, e1, e2, e3, o3, g3⟩ := app3 W0 wr W u5 (encI p j) _ _ _ a1 a2 a3 c1 c2 c3 ho hg gW r1 r2 r3 (by rw [sh_length, sh_length, sh_length]; omega)
              rw [sh_length] at e1 e2 e3
              refine ⟨x1, y1, x2, y2, x3, y3, e1, e2, e3, ?_, g3⟩
              rw [E, partB]
              rw [← List.append_assoc, ← List.append_assoc]
              exact o3
            clear ho hg E el hok hkn hkn' pl hnum hv hu hvu
            go_wp2_with (first
              | (go_at_call 30; refine kn.mono ?_; rintro e W1 ⟨rfl, hW⟩; replace hW := hW.symm; subst hW; clear kn)
              | (refine wpList_load_row rfl _ _ rfl w.heap.size rfl 23 p.cs (0, 0) _ B4 Tryd.underlying23 rfl Tryd.sizePs ?_)
              | (go_at_call 31; refine gp.mono ?_; rintro e W5 ⟨rfl, g5⟩; have D5 := D4.grown g5; clear gp)
              | (refine wpList_load_row rfl _ _ rfl gd rfl 23 dflt.cs (0, 0) _ D5 Tryd.underlying23 rfl Tryd.sizePs ?_)
              | (go_at_call 31; refine (gd' _).mono ?_; rintro e W6 ⟨rfl, g6⟩; have g56 := g5.trans g6; clear gd' g5 g6)
              | (go_at_call 33; refine (q1 _).mono ?_; rintro e W7 ⟨a1, c1, rfl, r1, g7⟩; have g67 := g56.trans g7; have r0 := g56.size; clear q1 g56 g7)
              | (go_at_call 33; refine (q2 _).mono ?_; rintro e W8 ⟨a2, c2, rfl, r2, g8⟩; have r18 : Rd W8 a1 (sh ((j : Int) + 1)) ∧ ∀ x, a1 = some x → wr.heap.size ≤ x.block ∧ x.block < W8.heap.size := ⟨rd_below r1.1 (grown_bel g8), fun x ex => ⟨Nat.le_trans r0 (r1.2 x ex).1, Nat.lt_of_lt_of_le (r1.2 x ex).2 g8.size⟩⟩; have r2w : Rd W8 a2 (sh v) ∧ ∀ x, a2 = some x → wr.heap.size ≤ x.block ∧ x.block < W8.heap.size := ⟨r2.1, fun x ex => ⟨Nat.le_trans g67.size (r2.2 x ex).1, (r2.2 x ex).2⟩⟩; have g78 := g67.trans g8; clear q2 g67 g8 r1 r2 r0)
              | (go_at_call 33; refine (q3 _).mono ?_; rintro e W9 ⟨a3, c3, rfl, r3, g9⟩; obtain ⟨x1, y1, x2, y2, x3, y3, e1, e2, e3, FF⟩ := unhide key W9 a1 c1 a2 c2 a3 c3 (g78.trans g9) ⟨rd_below r18.1 (grown_bel g9), fun x ex => ⟨(r18.2 x ex).1, Nat.lt_of_lt_of_le (r18.2 x ex).2 g9.size⟩⟩ ⟨rd_below r2w.1 (grown_bel g9), fun x ex => ⟨(r2w.2 x ex).1, Nat.lt_of_lt_of_le (r2w.2 x ex).2 g9.size⟩⟩ ⟨r3.1, fun x ex => ⟨Nat.le_trans g78.size (r3.2 x ex).1, (r3.2 x ex).2⟩⟩; replace FF := hide FF; clear q3 g78 g9 r18 r2w r3)
              | (at_builtin; refine Lib.wpList_append_run _ rfl _ _ _ _ rfl _ _ rfl rfl _ _ (e1 _) ?_)
              | (at_builtin; refine Lib.wpList_append_run _ rfl _ _ _ _ rfl _ _ rfl rfl _ _ (e2 _) ?_)
              | (at_builtin; refine Lib.wpList_append_run _ rfl _ _ _ _ rfl _ _ rfl rfl _ _ (e3 _) ?_))
            exact ⟨⟨j + 1, by omega, rfl, (unhide FF).1, (unhide FF).2⟩, by simp [intOf]; omega⟩
  · rw [if_neg h0]
    have h62 : checkF p = 62 := (checkFrom_two _ _ _).resolve_left h0
    rw [h62]
    rw [h62] at hc
    go_enter Tryd.func15, Tryd.ntmps15
    go_wp2_with (first
      | (refine wpList_load_row rfl _ _ rfl w.heap.size rfl 23 p.cs (0, 0) _ B0 Tryd.underlying23 rfl Tryd.sizePs ?_)
      | (go_at_call 12; refine hc.mono ?_; rintro e W1 ⟨rfl, g1⟩; have G1 := hide (G0.trans g1); clear hc g1 B0 G0))
    go_ret2
    exact ⟨_, rfl, World.ownsRow_nil _ _ _ _, unhide G1⟩
end Go.Proofs.YtmfbbamaleagiaaDoor
