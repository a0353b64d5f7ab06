/- Within. -/
import Derived.Test.YtnflbefbgcbdfaaGreatSQ
namespace Go.Proofs.YtnflbefbgcbdfaaGreat
set_option maxRecDepth 100000
open Go.RowKit
set_option linter.unusedVariables false
set_option maxHeartbeats 400000

theorem RowAt.fro {w : World} {g c : Nat} {L : List Sp} {sp : List Value} (h : RowAt w g c L sp) (k : Nat) : w.frozen? ⟨g, k, none⟩ = false := by simp [World.frozen?, h.1]

def clipHi (hi : Int) (s : Sp) : Sp := (s.1, min s.2 hi)

theorem set_last {k mx hi : Int} (M : List Sp) (h : Good k mx M) (hM : ∀ s ∈ M, s.1 ≤ hi) (hne : M ≠ []) : (cl M).set ((M.length - 1) * 2 + 1) (.int .i64 (min (M.getD (M.length - 1) (0, 0)).2 hi)) = cl (M.map (clipHi hi)) := by
  induction M generalizing k with
  | nil => exact absurd rfl hne
  | cons s M ih =>
    cases M with
    | nil => simp [cl, clipHi]
    | cons t M =>
      have h1 := ih h.2.2.2 (fun u hu => hM u (List.mem_cons_of_mem _ hu)) (by simp)
      have ht := hM t (by simp)
      have h2 := h.2.2.2.1
      have e : clipHi hi s = s := by unfold clipHi; rw [Int.min_eq_left (by omega)]
      have e1 : ((s :: t :: M).length - 1) * 2 + 1 = ((t :: M).length - 1) * 2 + 1 + 1 + 1 := by simp only [List.length_cons]; omega
      have e2 : (s :: t :: M).getD ((s :: t :: M).length - 1) (0, 0) = (t :: M).getD ((t :: M).length - 1) (0, 0) := by simp
      rw [List.map_cons, e, e1, e2]
      show Value.int .i64 s.1 :: Value.int .i64 s.2 :: (cl (t :: M)).set (((t :: M).length - 1) * 2 + 1) _ = Value.int .i64 s.1 :: Value.int .i64 s.2 :: cl (List.map (clipHi hi) (t :: M))
      rw [h1]

theorem clip_rest {k mx lo hi : Int} (M : List Sp) (h : Good k mx M) (hk : lo ≤ k) : M.map (clip lo hi) = M.map (clipHi hi) := by
  apply List.map_congr_left
  intro t ht
  have := h.mem ht
  unfold clip clipHi
  rw [Int.max_eq_left (by omega)]

/-- The first one's beginning, the last one's end. -/
theorem set_clip {k mx lo hi : Int} (M : List Sp) (h : Good k mx M) (hM : ∀ s ∈ M, lo ≤ s.2 ∧ s.1 ≤ hi) (hlh : lo ≤ hi) (hne : M ≠ []) :
    ((cl M).set 0 (.int .i64 (max (M.getD 0 (0, 0)).1 lo))).set ((M.length - 1) * 2 + 1) (.int .i64 (min (M.getD (M.length - 1) (0, 0)).2 hi)) = cl (M.map (clip lo hi)) := by
  cases M with
  | nil => exact absurd rfl hne
  | cons s M =>
    have hs := hM s (by simp)
    have h1 := h.1; have h2 := h.2.1
    have hg : Good k mx ((max s.1 lo, s.2) :: M) := ⟨by simp; omega, by simp; omega, h.2.2.1, h.2.2.2⟩
    have := set_last ((max s.1 lo, s.2) :: M) hg (List.forall_mem_cons.2 ⟨by simp; omega, fun u hu => (hM u (List.mem_cons_of_mem _ hu)).2⟩) (by simp)
    have e : ((s :: M).getD ((s :: M).length - 1) (0, 0)).2 = (((max s.1 lo, s.2) :: M).getD ((s :: M).length - 1) (0, 0)).2 := by cases M <;> simp
    rw [e]
    simp only [cl, List.set_cons_zero, List.getD_cons_zero, List.length_cons] at this ⊢
    rw [this]
    simp only [List.map_cons]
    rw [clip_rest M h.2.2.2 (by omega)]
    rfl

/-- The world behind the two stores. -/
theorem stored (W : World) (k c p m : Nat) (M : List Sp) (sp : List Value) (x y : Value) (hR : RowAt W k c M sp) (hm : M.length = m) (hp : p + 1 = m) (L : List Sp) (hL : ((cl M).set 0 x).set (p * 2 + 1) y = cl L) (hl : L.length = M.length) :
    RowAt ((W.setCell ⟨k, 0, none⟩ x).setCell ⟨k, p * 2 + 1, none⟩ y) k c L sp ∧ W.grownBy ((W.setCell ⟨k, 0, none⟩ x).setCell ⟨k, p * 2 + 1, none⟩ y) (some k) := by
  have e1 := setCell_eq_setRow W k 0 _ _ _ x hR.1
  have h1 := setRow_heap W k _ ((cl M ++ sp).toArray.setIfInBounds 0 x) _ _ hR.1
  have e2 := setCell_eq_setRow (W.setRow k ((cl M ++ sp).toArray.setIfInBounds 0 x)) k (p * 2 + 1) _ _ _ y h1
  rw [e1, e2]
  have hlen := cl_length M
  have e3 : (((cl M ++ sp).toArray.setIfInBounds 0 x).setIfInBounds (p * 2 + 1) y) = (cl L ++ sp).toArray := by
    apply Array.toList_inj.1
    rw [← hL]
    simp only [Array.toList_setIfInBounds, List.set_append]
    rw [if_pos (by omega), List.set_append, if_pos (by simp; omega)]
  rw [e3]
  exact ⟨⟨setRow_heap _ k _ _ _ _ h1, by rw [hl]; exact hR.2.1, hR.2.2⟩, grown_step (grown_setRow W k _) _⟩

theorem within_fin {w W1 W2 W3 : World} {k c' p m : Nat} {M : List Sp} {sp' : List Value} {x0 y0 : Int} (hk2 : Hid (M.length = m ∧ p + 1 = m ∧ Fresh W1 (.slice (some ⟨k, 0, none⟩) m c') ∧ W1.grownBy W2 none ∧ w.grownBy W1 none)) (hRG : Hid (RowAt W3 k c' M sp' ∧ W2.grownBy W3 none))
    {lo hi : Int} (hset : ((cl M).set 0 (.int .i64 (max x0 lo))).set (p * 2 + 1) (.int .i64 (min y0 hi)) = cl (M.map (clip lo hi))) (x y : Int) (hx : x = max x0 lo) (hy : y = min y0 hi) :
    ∃ v', Ending.returned (.slice (some ⟨k, 0, none⟩) m c') = .returned v' ∧ Row ((W3.setCell ⟨k, 0, none⟩ (.int .i64 x)).setCell ⟨k, p * 2 + 1, none⟩ (.int .i64 y)).drew v' (M.map (clip lo hi)) ∧ Fresh w v' ∧ w.grownBy ((W3.setCell ⟨k, 0, none⟩ (.int .i64 x)).setCell ⟨k, p * 2 + 1, none⟩ (.int .i64 y)).drew none := by
  subst hx hy
  obtain ⟨hm, hp, k2, k3, hg1⟩ := unhide hk2
  obtain ⟨hR, hgn⟩ := unhide hRG
  have hst := stored W3 k c' p m M sp' _ _ hR hm hp _ hset (by simp)
  have hgw : w.grownBy W3 none := grown_trans (grown_trans hg1 k3) hgn
  have hfk : w.heap.size ≤ k := Nat.le_trans hg1.size (k2 k rfl)
  refine ⟨_, rfl, ?_, fun q hq => by injection hq with hq; exact hq ▸ hfk, grown_trans (grown_fresh hgw hst.2 (fun q hq => by injection hq with hq; exact hq ▸ hfk)) (grown_drewN _ 1)⟩
  have := hst.1.row
  rw [List.length_map, hm] at this
  exact this

set_option maxRecDepth 100000 in
/-- The walk behind reach and Clone. -/
theorem within_meet (b : Nat) (most lo hi : Int) (v : Value) (A M D : List Sp) (w : World) (h0 : SetAt w b most v (A ++ (M ++ D))) (hA : ∀ s ∈ A, s.2 < lo) (hM : ∀ s ∈ M, lo ≤ s.2 ∧ s.1 ≤ hi) (hD : ∀ s ∈ D, hi < s.1 ∧ lo ≤ s.2) (hA1 : ∀ s ∈ A, s.1 ≤ hi) (hbytes : (A ++ (M ++ D)).length * 16 ≤ 140737488355328)
    (hlh : lo ≤ hi) (hg : Good (-9223372036854775808) 9223372036854775807 M) (hne : M ≠ []) :
    Calls Tryz.prog 51 #[.pointer (some ⟨b, 0, none⟩), .int .i64 lo, .int .i64 hi] w fun e w' => ∃ v', e = .returned v' ∧ Row w' v' (M.map (clip lo hi)) ∧ Fresh w v' ∧ w.grownBy w' none := by
  rcases Row.at h0.row with ⟨_, h1⟩ | ⟨g, c, sp, rfl, hR⟩
  · exact absurd (List.append_eq_nil_iff.1 (List.append_eq_nil_iff.1 h1).2).1 hne
  have hrc := reach_walk b most lo hi _ A M D w h0 hA hM hD hA1 (by omega)
  have hcl : ∀ W, w.grownBy W none → ∀ cc, Calls Tryz.prog 74 #[.slice (some ⟨g, A.length * 2, none⟩) M.length cc] W fun e w' => ∃ v', e = .returned v' ∧ Row w' v' M ∧ Fresh W v' ∧ W.grownBy w' none := fun W hW cc =>
    clone_part g (A.length * 2) M.length cc M W rfl (fun j u hj => by
      rw [Addr.add_lit]
      refine cell_grown_none hW (hR.cell _ _ ?_)
      rw [cl_append, List.getElem?_append_right (by rw [cl_length]; omega), cl_length, Nat.add_sub_cancel_left, cl_append, List.getElem?_append_left (List.getElem?_eq_some_iff.1 hj).1]
      exact hj) (by simp only [List.length_append] at hbytes; omega)
  have hli := fun W (hW : w.grownBy W none) => list_any b most _ _ W (h0.keep hW)
  have hsz := hR.2.1
  have hcm := hR.2.2
  unfold maxLen at hcm
  simp only [List.length_append] at hsz
  have hMl : 0 < M.length := List.length_pos_iff.2 hne
  have hset := set_clip M hg hM hlh hne
  have hx0 := cl_lo M 0 hMl
  have hy0 := cl_hi M (M.length - 1) (by omega)
  generalize (M.getD 0 (0, 0)).1 = x0 at hset hx0
  generalize (M.getD (M.length - 1) (0, 0)).2 = y0 at hset hy0
  have hn : (A ++ (M ++ D)).length = A.length + (M.length + D.length) := by simp only [List.length_append]
  rw [hn] at hli
  have hMH := hide hM
  clear hA hM hD hA1 h0 hR hbytes hg hne
  generalize hi0 : A.length = i at *
  generalize hm : M.length = m at *
  generalize hd : D.length = d at *
  obtain ⟨p, hp⟩ : ∃ p, p + 1 = m := ⟨m - 1, by omega⟩
  have hp' : m - 1 = p := by omega
  rw [hp'] at hset hy0
  have hw1 : IntKind.i64.wrap ((i : Int) + (m : Int) - (i : Int)) = (m : Int) := by rw [IntKind.wrap_i64]; omega
  have hw2 : IntKind.i64.wrap ((m : Int) - 1) = (p : Int) := by rw [IntKind.wrap_i64]; omega
  have hb1 : (i : Int) < (i : Int) + (m : Int) := by omega
  have hb2 : (i : Int) + (m : Int) ≤ (c : Int) := by omega
  have hb3 : ¬ (c = i) := by omega
  have hb4 : (i : Int) ≤ (i : Int) + (m : Int) := by omega
  have hb5 : (0 : Int) ≤ (i : Int) + (m : Int) := by omega
  have htn : ((i : Int) + (m : Int)).toNat = i + m := by omega
  have him : i + m - i = m := by omega
  have hb6 : (p : Int) < (m : Int) := by omega
  have hb7 : (0 : Int) < (m : Int) := by omega
  have hd1 : decide (hi < lo) = false := decide_eq_false (by omega)
  have HH := hide (And.intro hp (And.intro hi0 (And.intro hm (And.intro hd (And.intro hsz hp')))))
  clear hp hi0 hm hd hsz hp' hMl hn
  go_enter Tryz.func51, Tryz.ntmps51
  go_wp2_with (refine hrc.mono ?_; rintro e W1 ⟨rfl, hg1⟩)
  have hli := hli W1 hg1
  have hcl := hcl W1 hg1
  go_wp2_with (first | (refine hli.mono ?_; rintro e w' ⟨rfl, hw'⟩; subst w') | (refine (hcl _).mono ?_; rintro e W2 ⟨v', rfl, k1, k2, k3⟩))
  obtain ⟨hp, _, hm, _⟩ := unhide HH
  rcases Row.at k1 with ⟨rfl, h1⟩ | ⟨k, c', sp', rfl, hR⟩
  · rw [h1] at hm; simp at hm; omega
  rw [hm] at k1 k2 ⊢
  have hk2 := hide (And.intro hm (And.intro hp (And.intro k2 (And.intro k3 hg1))))
  clear k1 k2 k3 hm hp hg1 hli hcl
  go_quiet (fail)
  rename_i nq
  have hR : RowAt (W2.drewN nq) k c' M sp' := hR
  have hcx : (W2.drewN nq).cell? ⟨k, 0, none⟩ = some (.int .i64 x0) := hR.cell _ _ hx0
  have hcy : (W2.drewN nq).cell? ⟨k, p * 2 + 1, none⟩ = some (.int .i64 y0) := hR.cell _ _ hy0
  have hfx : (W2.drewN nq).frozen? ⟨k, 0, none⟩ = false := hR.fro 0
  have hfy : (W2.drewN nq).frozen? ⟨k, p * 2 + 1, none⟩ = false := hR.fro _
  have hRG := hide (And.intro hR (grown_drewN W2 nq))
  clear hR
  generalize W2.drewN nq = W3 at *
  go_wp2
  go_region
  go_wp2
  all_goals go_ret
  all_goals exact within_fin hk2 hRG hset _ _ (by omega) (by omega)

set_option maxRecDepth 100000 in
/-- Nothing there. -/
theorem within_void (b : Nat) (most lo hi : Int) (v : Value) (A D : List Sp) (w : World) (h0 : SetAt w b most v (A ++ ([] ++ D))) (hA : ∀ s ∈ A, s.2 < lo) (hD : ∀ s ∈ D, hi < s.1 ∧ lo ≤ s.2) (hA1 : ∀ s ∈ A, s.1 ≤ hi) (hbytes : (A ++ ([] ++ D)).length * 16 ≤ 140737488355328)
    (hlh : lo ≤ hi) :
    Calls Tryz.prog 51 #[.pointer (some ⟨b, 0, none⟩), .int .i64 lo, .int .i64 hi] w fun e w' => ∃ v', e = .returned v' ∧ Row w' v' [] ∧ Fresh w v' ∧ w.grownBy w' none := by
  have hrc := reach_walk b most lo hi _ A [] D w h0 hA (by simp) hD hA1 (by omega)
  have hli := fun W (hW : w.grownBy W none) => list_any b most _ _ W (h0.keep hW)
  have hd1 : decide (hi < lo) = false := decide_eq_false (by omega)
  rcases Row.at h0.row with ⟨rfl, h1⟩ | ⟨g, c, sp, rfl, hR⟩
  · obtain ⟨rfl, h1⟩ := List.append_eq_nil_iff.1 h1
    have hcl := fun W => clone_nil W 0 0
    clear hA hD hA1 h0 hbytes
    simp only [List.length_nil, Nat.add_zero] at hrc
    go_enter Tryz.func51, Tryz.ntmps51
    go_wp2_with (refine hrc.mono ?_; rintro e W1 ⟨rfl, hg1⟩)
    have hli := hli W1 hg1
    go_wp2_with (first | (refine hli.mono ?_; rintro e w' ⟨rfl, hw'⟩; subst w') | (refine (hcl _).mono ?_; rintro e w' ⟨rfl, hw'⟩; subst w'))
    all_goals go_ret
    all_goals exact ⟨_, rfl, row_nil _, fresh_nil _, hg1⟩
  · have hcl := fun W a cc => clone_part g a 0 cc [] W rfl (fun j u hj => by simp [cl] at hj) (by omega)
    have hsz := hR.2.1
    have hcm := hR.2.2
    unfold maxLen at hcm
    simp only [List.length_append, List.length_nil, Nat.add_zero, List.nil_append] at hsz hrc hli
    clear hA hD hA1 h0 hbytes hR
    generalize A.length = i at *
    generalize D.length = d at *
    have hb1 : (i : Int) ≤ (c : Int) := by omega
    clear hsz
    by_cases hci : c = i
    · go_enter Tryz.func51, Tryz.ntmps51
      go_wp2_with (refine hrc.mono ?_; rintro e W1 ⟨rfl, hg1⟩)
      have hli := hli W1 hg1
      have hcl := fun a cc => hcl W1 a cc
      go_wp2_with (first | (refine hli.mono ?_; rintro e w' ⟨rfl, hw'⟩; subst w') | (refine (hcl _ _).mono ?_; rintro e W2 ⟨v', rfl, k1, k2, k3⟩))
      all_goals go_ret
      all_goals exact ⟨_, rfl, k1, fun q hq => Nat.le_trans hg1.size (k2 q hq), grown_trans hg1 k3⟩
    · go_enter Tryz.func51, Tryz.ntmps51
      go_wp2_with (refine hrc.mono ?_; rintro e W1 ⟨rfl, hg1⟩)
      have hli := hli W1 hg1
      have hcl := fun a cc => hcl W1 a cc
      go_wp2_with (first | (refine hli.mono ?_; rintro e w' ⟨rfl, hw'⟩; subst w') | (refine (hcl _ _).mono ?_; rintro e W2 ⟨v', rfl, k1, k2, k3⟩))
      all_goals go_ret
      all_goals exact ⟨_, rfl, k1, fun q hq => Nat.le_trans hg1.size (k2 q hq), grown_trans hg1 k3⟩

theorem within_gt (b : Nat) (lo hi : Int) (w : World) (hlh : hi < lo) :
    Calls Tryz.prog 51 #[.pointer (some ⟨b, 0, none⟩), .int .i64 lo, .int .i64 hi] w fun e w' => e = .returned (.slice none 0 0) ∧ w' = w := by
  have hd1 : decide (hi < lo) = true := decide_eq_true hlh
  go_enter Tryz.func51, Tryz.ntmps51
  go_wp2
  all_goals go_ret
  all_goals exact ⟨rfl, rfl⟩

/-- A set whose runs rise, apart, within the type's numbers; not too many for memory. -/
structure Ok (L : List Sp) : Prop where
  good : Good (-9223372036854775808) 9223372036854775807 L
  size : L.length ≤ 8000000000000

/-- Within. -/
theorem within_any (b : Nat) (most lo hi : Int) (v : Value) (L : List Sp) (w : World) (h0 : SetAt w b most v L) (hL : Ok L) (hlh : lo ≤ hi) :
    Calls Tryz.prog 51 #[.pointer (some ⟨b, 0, none⟩), .int .i64 lo, .int .i64 hi] w fun e w' => ∃ v', e = .returned v' ∧ Row w' v' (withinF lo hi L) ∧ Fresh w v' ∧ w.grownBy w' none := by
  obtain ⟨A, M, D, rfl, hA, hM, hD⟩ := split3 lo hi hL.good (by omega)
  have hA1 : ∀ s ∈ A, s.1 ≤ hi := fun s hs => by have := hL.good.left.mem hs; have := hA s hs; omega
  rw [withinF_append, withinF_append, withinF_none fun s hs => .inl (hA s hs), withinF_none (A := D) fun s hs => .inr (hD s hs).1, withinF_all hM, List.nil_append, List.append_nil]
  by_cases hne : M = []
  · subst hne
    exact within_void b most lo hi v A D w h0 hA hD hA1 (by have := hL.size; omega) hlh
  · exact within_meet b most lo hi v A M D w h0 hA hM hD hA1 (by have := hL.size; omega) hlh hL.good.right.left hne
end Go.Proofs.YtnflbefbgcbdfaaGreat
