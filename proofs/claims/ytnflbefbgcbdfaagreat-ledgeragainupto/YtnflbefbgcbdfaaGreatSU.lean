/- Holes. -/
import Derived.Test.YtnflbefbgcbdfaaGreatSS
namespace Go.Proofs.YtnflbefbgcbdfaaGreat
set_option maxRecDepth 100000
open Go.RowKit
set_option linter.unusedVariables false
set_option maxHeartbeats 400000

/-- One span more: it lies in a block of its own, the last one. -/
theorem app_one (W : World) (lv : Value) (H : List Sp) (x y : Int) (ty : TypeId) (hrow : Row W lv H) (hb : H.length ≤ 8000000000009) :
    ∃ v' w', (Builtin.append_ #[47, 47] ty #[lv, .slice (some ⟨W.heap.size, 0, none⟩) 1 1]).run Tryz.prog (W.alloc (.cells #[.int .i64 x, .int .i64 y] 63)) = .ok v' w' ∧ Row w' v' (H ++ [(x, y)]) ∧ Moved (W.alloc (.cells #[.int .i64 x, .int .i64 y] 63)) w' lv v' ∧ v' ≠ .slice none 0 0 := by
  refine app2 (W.alloc _) lv H [(x, y)] ty (hrow.keep (grown_alloc _ _)) ⟨W.heap.size, 0, none⟩ 1 ?_ (by simp) (by simp; omega)
  intro j u hj
  rw [Addr.add_lit, Nat.zero_add]
  unfold World.cell?
  simp only [heap_alloc_new]
  simpa [cl] using hj

theorem holesGo_length (hi nx : Int) (R : List Sp) : (holesGo hi nx R).length ≤ R.length + 1 := by
  induction R generalizing nx with
  | nil => simp [holesGo]
  | cons r R ih =>
    simp only [holesGo, List.length_append, List.length_cons]
    have h1 : (if nx < r.1 then [(nx, r.1 - 1)] else []).length ≤ 1 := by split <;> simp
    have h2 : (if r.2 = hi then [] else holesGo hi (r.2 + 1) R).length ≤ R.length + 1 := by split; simp; exact ih _
    omega

theorem withinF_length (lo hi : Int) (L : List Sp) : (withinF lo hi L).length ≤ L.length := by
  induction L with
  | nil => simp [withinF]
  | cons s L ih => simp only [withinF]; split <;> simp <;> omega

theorem drop_cons_getD (R : List Sp) (k : Nat) (h : k < R.length) : R.drop k = R.getD k (0, 0) :: R.drop (k + 1) := by
  rw [List.drop_eq_getElem_cons h, List.getD_eq_getElem?_getD, List.getElem?_eq_getElem h]; rfl

theorem Row.blk_lt {w : World} {v : Value} {L : List Sp} (h : Row w v L) : ∀ k, v.ownBlock = some k → k < w.heap.size := fun k hk => by
  rcases Row.at h with ⟨rfl, _⟩ | ⟨g, c, sp, rfl, hR⟩
  · cases hk
  · injection hk with hk; have := hR.lt; exact hk ▸ this

theorem box2 {w : World} {k : Nat} {x y : Value} {t : TypeId} (h : w.heap[k]? = some (.cells #[x, y] t)) : w.cell? ⟨k, 0, none⟩ = some x ∧ w.cell? ⟨k, 1, none⟩ = some y := by simp [World.cell?, h]

/-- Where the loop stands. -/
structure HS (W1 wr : World) (R : List Sp) (lo hi : Int) (k : Nat) (nx : Int) (lv : Value) (H : List Sp) : Prop where
  eq : holesGo hi lo R = H ++ holesGo hi nx (R.drop k)
  good : Good nx hi (R.drop k)
  le : nx ≤ hi
  ge : lo ≤ nx
  grown : W1.grownBy wr none
  row : Row wr lv H
  fresh : Fresh W1 lv

theorem HS.app {W1 wr : World} {R : List Sp} {lo hi : Int} {k : Nat} {nx : Int} {lv : Value} {H : List Sp} (h : HS W1 wr R lo hi k nx lv H) (hR : R.length ≤ 8000000000000) (x y : Int) (o : Obj) : ∃ v' w', (∀ ty, (Builtin.append_ #[47, 47] ty #[lv, .slice (some ⟨wr.heap.size + 1, 0, none⟩) 1 1]).run Tryz.prog ((wr.alloc o).alloc (.cells #[.int .i64 x, .int .i64 y] 63)) = .ok v' w') ∧ Row w' v' (H ++ [(x, y)]) ∧ W1.grownBy w' none ∧ Fresh W1 v' ∧ w'.heap[wr.heap.size]? = some o := by
  have hl := holesGo_length hi lo R
  have hHl : H.length ≤ R.length + 1 := by rw [h.eq, List.length_append] at hl; omega
  obtain ⟨v', w', hr, hro, hmo, _⟩ := app_one (wr.alloc o) lv H x y 47 (h.row.keep (grown_alloc _ _)) (by omega)
  have e : (wr.alloc o).heap.size = wr.heap.size + 1 := by simp
  rw [e] at hr
  have := Moved.fresh (grown_trans (grown_trans h.grown (grown_alloc wr o)) (grown_alloc _ _)) h.fresh hmo
  refine ⟨v', w', fun _ => hr, hro, this.1, this.2, ?_⟩
  have hb : ((wr.alloc o).alloc (.cells #[.int .i64 x, .int .i64 y] 63)).heap[wr.heap.size]? = some o := by
    rw [(grown_alloc (wr.alloc o) _).block wr.heap.size (by simp) (by simp)]; exact heap_alloc_new wr o
  have hlt : wr.heap.size < ((wr.alloc o).alloc (.cells #[.int .i64 x, .int .i64 y] 63)).heap.size := by simp; omega
  rcases hmo with ⟨_, h2⟩ | ⟨_, h2, _⟩
  · rw [h2.block wr.heap.size hlt (fun e => by have := h.row.blk_lt _ e.symm; omega)]; exact hb
  · rw [h2.block wr.heap.size hlt (by simp)]; exact hb

theorem HS.last {W1 wr : World} {R : List Sp} {lo hi : Int} {k : Nat} {nx : Int} {lv : Value} {H : List Sp} (h : HS W1 wr R lo hi k nx lv H) (hR : R.length ≤ 8000000000000) (x y : Int) : ∃ v' w', (∀ ty, (Builtin.append_ #[47, 47] ty #[lv, .slice (some ⟨wr.heap.size, 0, none⟩) 1 1]).run Tryz.prog (wr.alloc (.cells #[.int .i64 x, .int .i64 y] 63)) = .ok v' w') ∧ Row w' v' (H ++ [(x, y)]) ∧ W1.grownBy w' none ∧ Fresh W1 v' := by
  have hl := holesGo_length hi lo R
  have hHl : H.length ≤ R.length + 1 := by rw [h.eq, List.length_append] at hl; omega
  obtain ⟨v', w', hr, hro, hmo, _⟩ := app_one wr lv H x y 47 h.row (by omega)
  have := Moved.fresh (grown_trans h.grown (grown_alloc _ _)) h.fresh hmo
  exact ⟨v', w', fun _ => hr, hro, this.1, this.2⟩

set_option maxRecDepth 100000 in
theorem holes_any (b : Nat) (most lo hi : Int) (v : Value) (L : List Sp) (w : World) (h0 : SetAt w b most v L) (hL : Ok L) (hlh : lo ≤ hi) (hlo : -9223372036854775808 ≤ lo) (hhi : hi ≤ 9223372036854775807) :
    Calls Tryz.prog 65 #[.pointer (some ⟨b, 0, none⟩), .int .i64 lo, .int .i64 hi] w fun e w' => ∃ v', e = .returned v' ∧ Row w' v' (holesF lo hi L) ∧ Fresh w v' ∧ w.grownBy w' none := by
  have hwi := within_any b most lo hi v L w h0 hL hlh
  have hgR := ((within_good hL.good hlh).mono (mn' := lo) (by omega)).top (mx' := hi) (by omega)
  have hlR := withinF_length lo hi L
  have hsz := hL.size
  unfold holesF
  generalize withinF lo hi L = R at *
  have hRl : R.length ≤ 8000000000000 := by omega
  have hd1 : decide (hi < lo) = false := decide_eq_false (by omega)
  have hFF := hide (And.intro hgR (And.intro hRl (And.intro hlo (And.intro hhi hlh))))
  clear h0 hL hgR hlR hsz hRl hlo hhi hlh
  go_enter Tryz.func65, Tryz.ntmps65
  go_wp2_with (refine hwi.mono ?_; rintro e W1 ⟨v1, rfl, k1, k2, k3⟩; obtain ⟨a, c, rfl, hcells, hcm, hnc⟩ := k1.shape)
  have HC := hide hcells
  have K := hide (And.intro k2 k3)
  unfold maxLen at hcm
  clear hcells k1 k2 k3 hwi
  generalize hn : R.length = n at *
  have HN := hide hn
  clear hn
  go_loopw [7, 8, 20] (fun l x i wr => ∃ (k : Nat) (nx : Int) (H : List Sp), k ≤ n ∧ i = .int .i64 k ∧ x = .int .i64 nx ∧ HS W1 wr R lo hi k nx l H) (fun _ _ i _ => n - (intOf i).toNat)
  case atStart =>
    obtain ⟨f1, f2, f3, f4, f5⟩ := unhide hFF
    exact ⟨0, lo, [], Nat.zero_le _, rfl, rfl, ⟨rfl, f1, f5, Int.le_refl _, grown_self _ _, row_nil _, fresh_nil _⟩⟩
  case round =>
    obtain ⟨k, nx, H, hk, rfl, rfl, hs⟩ := hrel
    obtain ⟨f1, f2, f3, f4, f5⟩ := unhide hFF
    by_cases hlt : k < n
    · have hkL : k < R.length := by rw [unhide HN]; exact hlt
      obtain ⟨g, rfl, hcs⟩ : ∃ g, a = some ⟨g, 0, none⟩ ∧ _ := (unhide HC).resolve_left (fun e => by rw [e] at hkL; simp at hkL)
      have c0 := cell_grown_none hs.grown (hcs k hlt).1
      have c1 := cell_grown_none hs.grown (hcs k hlt).2
      have hdr := drop_cons_getD R k hkL
      generalize R.getD k (0, 0) = s at *
      obtain ⟨r1, r2⟩ := s
      simp only at c0 c1
      have hgd := hs.good
      rw [hdr] at hgd
      have q1 : nx ≤ r1 := hgd.1
      have q2 : r1 ≤ r2 := hgd.2.1
      have q3 : r2 ≤ hi := hgd.2.2.1
      have q4 : Good (r2 + 2) hi (R.drop (k + 1)) := hgd.2.2.2
      have q5 := hs.ge
      have heq := hs.eq
      rw [hdr] at heq
      simp only [holesGo] at heq
      have hkn : (k : Int) < (n : Int) := by omega
      have hw1 : IntKind.i64.wrap (r1 - 1) = r1 - 1 ∨ ¬ nx < r1 := by
        by_cases hh : nx < r1
        · left; rw [IntKind.wrap_i64]; omega
        · exact .inr hh
      have HR : R.length ≤ 8000000000000 := by rw [unhide HN]; exact f2
      have hw2 : IntKind.i64.wrap (r2 + 1) = r2 + 1 ∨ r2 = hi := by
        by_cases hh : r2 = hi
        · exact .inr hh
        · left; rw [IntKind.wrap_i64]; omega
      by_cases hB : r2 = hi
      · rw [if_pos hB, List.append_nil] at heq
        subst hB
        by_cases hA : nx < r1
        · rw [if_pos hA] at heq
          have hw1 := hw1.resolve_right (fun h => h hA)
          obtain ⟨v', w', hr, e1, e2, e3, e4⟩ := hs.app HR nx (r1 - 1) (.cells #[.int .i64 r1, .int .i64 r2] 63)
          have E := hide (And.intro e1 (And.intro e2 (And.intro e3 heq)))
          have d1 := (box2 e4).2
          clear hs hgd q1 q2 q3 q4 q5 e1 e2 e3 e4 heq hcs hdr f1 f2 f3 f4 f5 hkL HR hw2
          go_wp2_with (at_builtin; refine wpList_append_run _ rfl _ _ 47 47 rfl _ _ rfl rfl (hr _) ?_)
          all_goals go_ret
          obtain ⟨e1, e2, e3, e4⟩ := unhide E
          exact ⟨_, rfl, by rw [e4]; exact e1, fun q hq => Nat.le_trans (unhide K).2.size (e3 q hq), grown_trans (unhide K).2 e2⟩
        · rw [if_neg hA, List.append_nil] at heq
          have E := hide (And.intro hs heq)
          clear hs hgd q1 q2 q3 q4 q5 heq hcs hdr f1 f2 f3 f4 f5 hkL HR hw2 hw1
          go_wp2
          all_goals go_ret
          obtain ⟨hs, e4⟩ := unhide E
          exact ⟨_, rfl, by rw [e4]; exact hs.row.keep (grown_alloc _ _), fun q hq => Nat.le_trans (unhide K).2.size (hs.fresh q hq), grown_trans (grown_trans (unhide K).2 hs.grown) (grown_alloc _ _)⟩
      · rw [if_neg hB] at heq
        have hw2 := hw2.resolve_right hB
        by_cases hA : nx < r1
        · rw [if_pos hA] at heq
          have hw1 := hw1.resolve_right (fun h => h hA)
          obtain ⟨v', w', hr, e1, e2, e3, e4⟩ := hs.app HR nx (r1 - 1) (.cells #[.int .i64 r1, .int .i64 r2] 63)
          have E : Hid (HS W1 w' R lo hi (k + 1) (r2 + 1) v' (H ++ [(nx, r1 - 1)])) := ⟨by rw [heq]; simp, q4.mono (by omega), by omega, by omega, e2, e1, e3⟩
          have d1 := (box2 e4).2
          clear hs hgd q1 q2 q3 q4 q5 e1 e2 e3 e4 heq hcs hdr f1 f2 f3 f4 f5 hkL HR
          go_wp2_with (at_builtin; refine wpList_append_run _ rfl _ _ 47 47 rfl _ _ rfl rfl (hr _) ?_)
          exact ⟨⟨k + 1, r2 + 1, _, by omega, by go_num, rfl, unhide E⟩, by simp [intOf]; omega⟩
        · rw [if_neg hA, List.nil_append] at heq
          have E : Hid (HS W1 (wr.alloc (.cells #[.int .i64 r1, .int .i64 r2] 63)) R lo hi (k + 1) (r2 + 1) _ H) := ⟨heq, q4.mono (by omega), by omega, by omega, grown_trans hs.grown (grown_alloc _ _), hs.row.keep (grown_alloc _ _), hs.fresh⟩
          clear hs hgd q1 q2 q3 q4 q5 heq hcs hdr f1 f2 f3 f4 f5 hkL HR hw1
          go_wp2
          exact ⟨⟨k + 1, r2 + 1, _, by omega, by go_num, rfl, unhide E⟩, by simp [intOf]; omega⟩
    · obtain rfl : k = n := by omega
      have HR : R.length ≤ 8000000000000 := by rw [unhide HN]; exact f2
      have heq := hs.eq
      rw [List.drop_eq_nil_of_le (by rw [unhide HN]; exact Nat.le_refl _)] at heq
      simp only [holesGo] at heq
      obtain ⟨v', w', hr, e1, e2, e3⟩ := hs.last HR nx hi
      have E := hide (And.intro e1 (And.intro e2 (And.intro e3 heq)))
      clear hs e1 e2 e3 heq f1 f2 f3 f4 f5 HR
      go_wp2_with (at_builtin; refine wpList_append_run _ rfl _ _ 47 47 rfl _ _ rfl rfl (hr _) ?_)
      all_goals go_ret
      obtain ⟨e1, e2, e3, e4⟩ := unhide E
      exact ⟨_, rfl, by rw [e4]; exact e1, fun q hq => Nat.le_trans (unhide K).2.size (e3 q hq), grown_trans (unhide K).2 e2⟩

theorem holes_gt (b : Nat) (lo hi : Int) (w : World) (hlh : hi < lo) :
    Calls Tryz.prog 65 #[.pointer (some ⟨b, 0, none⟩), .int .i64 lo, .int .i64 hi] w fun e w' => e = .returned (.slice none 0 0) ∧ w' = w := by
  have hd1 : decide (hi < lo) = true := decide_eq_true hlh
  go_enter Tryz.func65, Tryz.ntmps65
  go_wp2
  all_goals go_ret
  all_goals exact ⟨rfl, rfl⟩
end Go.Proofs.YtnflbefbgcbdfaaGreat
