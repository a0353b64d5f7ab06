/- Cut of what meets. -/
import Derived.Test.YtdalekjpjnhboaaSY
import Derived.Deep.RegionHeld3
namespace Go.Proofs.Ytdalekjpjnhboaa
open Go.RowKit
set_option linter.unusedVariables false
set_option maxRecDepth 100000
set_option maxHeartbeats 400000

theorem two_new (U : World) (a b c d : Value) : U.grownBy ((U.alloc (.cells #[a, b] 86)).alloc (.cells #[c, d] 86)).drew none ∧ ((U.alloc (.cells #[a, b] 86)).alloc (.cells #[c, d] 86)).drew.cell? ⟨U.heap.size, 0, none⟩ = some a ∧ ((U.alloc (.cells #[a, b] 86)).alloc (.cells #[c, d] 86)).drew.cell? ⟨U.heap.size, 1, none⟩ = some b ∧ ((U.alloc (.cells #[a, b] 86)).alloc (.cells #[c, d] 86)).drew.cell? ⟨U.heap.size + 1, 0, none⟩ = some c ∧ ((U.alloc (.cells #[a, b] 86)).alloc (.cells #[c, d] 86)).drew.cell? ⟨U.heap.size + 1, 1, none⟩ = some d := by
  have h1 : (U.alloc (.cells #[a, b] 86)).heap[U.heap.size]? = some (.cells #[a, b] 86) := heap_alloc_new U _
  have h2 := heap_alloc_new (U.alloc (.cells #[a, b] 86)) (.cells #[c, d] 86)
  have e : (U.alloc (.cells #[a, b] 86)).heap.size = U.heap.size + 1 := by simp
  rw [e] at h2
  have h3 := (grown_alloc (U.alloc (.cells #[a, b] 86)) (.cells #[c, d] 86)).block U.heap.size (by simp) (by simp)
  rw [h1] at h3
  exact ⟨grown_trans (grown_trans (grown_alloc _ _) (grown_alloc _ _)) (grown_drewN _ 1), (box2 h3).1, (box2 h3).2, (box2 h2).1, (box2 h2).2⟩

theorem app_rest (X W : World) (rv : Value) (H : List Sp) (x y : Int) (hrow : Row W rv H) (hH : H.length ≤ 1) (hf : Fresh X rv) (hg : X.grownBy W none) :
    ∃ v' w', (∀ ty, (Builtin.append_ #[34, 34] ty #[rv, .slice (some ⟨W.heap.size, 0, none⟩) 1 1]).run Try.prog (W.alloc (.cells #[.int .i64 x, .int .i64 y] 86)) = .ok v' w') ∧ Row w' v' (H ++ [(x, y)]) ∧ Fresh X v' ∧ X.grownBy w' none := by
  obtain ⟨v', w', hr, hro, hmo, _⟩ := app_one W rv H x y 34 hrow (by omega)
  have := Moved.fresh (grown_trans hg (grown_alloc _ _)) hf hmo
  exact ⟨v', w', fun _ => hr, hro, this.2, this.1⟩

/-- Replace, once the rest is made. -/
theorem cut_end {w X W : World} {b : Nat} {most : Int} {v rv : Value} {A M D V : List Sp} (h0 : SetAt w b most v (A ++ (M ++ D))) (hL : Ok (A ++ (M ++ D))) (hgX : w.grownBy X none) (hgW : X.grownBy W none) (hV : V.length ≤ 2) (hrv : Row W rv V) (hnil : V = [] → rv = .slice none 0 0) (hf : Fresh X rv) :
    Calls Try.prog 67 #[v, .int .i64 A.length, .int .i64 ((A.length + M.length : Nat) : Int), rv] W fun e w' => ∃ v', e = .returned v' ∧ CutPost W w' b most v v' (A ++ (V ++ D)) :=
  cut_replace W b most v rv A M D V (h0.keep (grown_trans hgX hgW)) hL hV hrv hnil (fun k hk e => by have := hf k hk; have := h0.row.blk_lt k e; have := hgX.size; omega)

set_option maxHeartbeats 4000000 in
set_option maxRecDepth 100000 in
theorem cut_meet (b : Nat) (most lo hi : Int) (v : Value) (A M D : List Sp) (w : World) (h0 : SetAt w b most v (A ++ (M ++ D))) (hL : Ok (A ++ (M ++ D))) (hlh : lo ≤ hi) (hlo : -9223372036854775808 ≤ lo) (hhi : hi ≤ 9223372036854775807)
    (hA : ∀ s ∈ A, s.2 < lo) (hM : ∀ s ∈ M, lo ≤ s.2 ∧ s.1 ≤ hi) (hD : ∀ s ∈ D, hi < s.1 ∧ lo ≤ s.2) (hne : M ≠ []) :
    Calls Try.prog 48 #[.pointer (some ⟨b, 0, none⟩), .int .i64 lo, .int .i64 hi] w (AddPost b most v w (toldF (withinF lo hi (A ++ (M ++ D)))) (boundF most (A ++ (restF lo hi M ++ D)))) := by
  have hA1 : ∀ s ∈ A, s.1 ≤ hi := fun s hs => by have := hL.good.left.mem hs; have := hA s hs; omega
  have hsz := hL.size
  have hwi := within_any b most lo hi v _ w h0 hL hlh
  have hto := fun v1 W (hr : Row W v1 (withinF lo hi (A ++ (M ++ D)))) => total_any v1 _ W hr (hL.within hlh hlo hhi).good
  have hre := fun W (hW : w.grownBy W none) => reach_walk b most lo hi v A M D W (h0.keep hW) hA hM hD hA1 (by omega)
  have hd1 : decide (hi < lo) = false := decide_eq_false (by omega)
  rcases Row.at h0.row with ⟨_, h1⟩ | ⟨g, c, sp, rfl, hR⟩
  · exact absurd (List.append_eq_nil_iff.1 (List.append_eq_nil_iff.1 h1).2).1 hne
  have hc1 := fun U (hU : w.grownBy U none) => (h0.keep hU).c1
  have hMl : 0 < M.length := List.length_pos_iff.2 hne
  have hcl := fun U (hU : w.grownBy U none) j u (hj : (cl M)[j]? = some u) => cell_grown_none hU (hR.cell (A.length * 2 + j) u (by rw [cl_append, List.getElem?_append_right (by rw [cl_length]; omega), cl_length, Nat.add_sub_cancel_left, cl_append, List.getElem?_append_left (List.getElem?_eq_some_iff.1 hj).1]; exact hj))
  have HC1 := hide hc1
  have HRE := hide hre
  have HCL := hide hcl
  have hs1 : -9223372036854775808 ≤ (M.getD 0 (0, 0)).1 := (hL.good.right.left.mem (getD_mem M 0 hMl)).1
  have ht2 : (M.getD (M.length - 1) (0, 0)).2 ≤ 9223372036854775807 := (hL.good.right.left.mem (getD_mem M (M.length - 1) (by omega))).2.2
  have HA := hide (And.intro h0 hL)
  have hcm := hR.2.2
  unfold maxLen at hcm
  have hz := hR.2.1
  have hn : (A ++ (M ++ D)).length = A.length + M.length + D.length := by simp only [List.length_append]; omega
  have x0 := cl_lo M 0 hMl
  have x1 := cl_hi M 0 hMl
  have y0 := cl_lo M (M.length - 1) (by omega)
  have y1 := cl_hi M (M.length - 1) (by omega)
  have hres : restF lo hi M = (if (M.getD 0 (0, 0)).1 < lo then [((M.getD 0 (0, 0)).1, lo - 1)] else []) ++ (if hi < (M.getD (M.length - 1) (0, 0)).2 then [(hi + 1, (M.getD (M.length - 1) (0, 0)).2)] else []) := by
    cases M with
    | nil => exact absurd rfl hne
    | cons s M =>
      have e : (s :: M).getD ((s :: M).length - 1) (0, 0) = M.getLastD s := by
        rw [List.getD_eq_getElem?_getD, ← List.getLast?_eq_getElem?]
        cases M with
        | nil => rfl
        | cons t M => simp [List.getLast?_cons]
      rw [e]
      rfl
  rw [hres]
  generalize M.getD 0 (0, 0) = s at *
  generalize M.getD (M.length - 1) (0, 0) = t at *
  obtain ⟨s1, s2⟩ := s
  obtain ⟨t1, t2⟩ := t
  simp only at x0 x1 y0 y1 hres hs1 ht2 ⊢
  generalize hVV : (if s1 < lo then [(s1, lo - 1)] else []) ++ (if hi < t2 then [(hi + 1, t2)] else []) = V
  have HV := hide (And.intro hVV (And.intro hs1 (And.intro ht2 (And.intro hlo (And.intro hhi hlh)))))
  clear hVV
  clear hc1 hre hcl h0 hL hA hM hD hA1 hlh hlo hhi hsz hR hne hres hs1 ht2
  rw [hn] at hz HC1
  generalize withinF lo hi (A ++ (M ++ D)) = HL at *
  generalize hal : A.length = i at *
  generalize hml : M.length = m at *
  generalize hdl : D.length = d at *
  obtain ⟨p, hp⟩ : ∃ p, i + m = p + 1 := ⟨i + m - 1, by omega⟩
  have hw1 : IntKind.i64.wrap ((i : Int) + (m : Int) - 1) = (p : Int) := by rw [IntKind.wrap_i64]; omega
  have hb1 : (i : Int) < (i : Int) + (m : Int) := by omega
  have hb2 : (i : Int) < (i : Int) + (m : Int) + (d : Int) := by omega
  have hb0 : 0 < m := hMl
  have hb0' : (0 : Int) < (m : Int) := by omega
  have hb3 : (p : Int) < (i : Int) + (m : Int) + (d : Int) := by omega
  have hpm : i * 2 + (m - 1) * 2 = p * 2 := by omega
  have HH := hide (And.intro hp (And.intro hal (And.intro hml (And.intro hdl (And.intro hz (And.intro hMl hpm))))))
  clear hp hal hml hdl hz hMl hn hpm
  go_enter Try.func48, Try.ntmps48
  go_wp2_with (first | (go_at_call 61; refine hwi.mono ?_; rintro e W1 ⟨v1, rfl, p1, p2, p3⟩) | (go_at_call 62; refine (hto _ _ p1).mono ?_; rintro e W2 ⟨rfl, p5⟩; have hU := grown_trans p3 p5) | (go_at_call 72; refine (unhide HRE _ hU).mono ?_; rintro e U ⟨rfl, p6⟩; have hUU := grown_trans hU p6; have u1 := unhide HC1 _ hUU))
  have g0 := unhide HCL _ hUU _ _ x0
  have g1 := unhide HCL _ hUU _ _ x1
  have g2 := unhide HCL _ hUU _ _ y0
  have g3 := unhide HCL _ hUU _ _ y1
  obtain ⟨q1, q2, q3, q4, q5, q6, q7⟩ := unhide HH
  rw [← Nat.add_assoc, q7] at g3
  rw [q7] at g2
  simp only [Nat.zero_mul, Nat.add_zero, Nat.zero_add] at g0 g1
  have n0 := World.new_ne U _ u1
  have n1 := World.new_ne U _ g0
  have n2 := World.new_ne U _ g1
  have n3 := World.new_ne U _ g2
  have n4 := World.new_ne U _ g3
  clear q1 q2 q3 q4 q5 q6 q7 x0 x1 y0 y1
  go_region_held3 (fun W => W.cell? ⟨b, 1, none⟩ = some (.slice (some ⟨g, 0, none⟩) (i + m + d) c) ∧ W.cell? ⟨g, i * 2, none⟩ = some (.int .i64 s1) ∧ W.cell? ⟨g, i * 2 + 1, none⟩ = some (.int .i64 s2) ∧ W.cell? ⟨g, p * 2, none⟩ = some (.int .i64 t1) ∧ W.cell? ⟨g, p * 2 + 1, none⟩ = some (.int .i64 t2)) (go_keep) (fail)
  · obtain ⟨tg, f0, -, -, l1⟩ := two_new U (.int .i64 s1) (.int .i64 s2) (.int .i64 t1) (.int .i64 t2)
    generalize ((U.alloc (.cells #[.int .i64 s1, .int .i64 s2] 86)).alloc (.cells #[.int .i64 t1, .int .i64 t2] 86)).drew = X at *
    obtain ⟨h0, hL⟩ := unhide HA
    obtain ⟨hVV, q1, q2, q3, q4, q5⟩ := unhide HV
    obtain ⟨-, r1, r2, r3, -⟩ := unhide HH
    have hgX := grown_trans hUU tg
    have hlen : (A ++ (M ++ D)).length = i + m + d := by simp only [List.length_append]; omega
    rw [hlen] at h0
    have HLEN := hide hlen
    clear n0 n1 n2 n3 n4 g0 g1 g2 g3 p1 p2 p3 p5 p6 hU hwi hto u1 HCL HRE
    by_cases hs : s1 < lo
    · rw [if_pos hs] at hVV
      by_cases ht : hi < t2
      · rw [if_pos ht] at hVV
        obtain ⟨v1', w1', hr1, e1, e2, e3⟩ := app_rest X X (.slice none 0 0) [] s1 (lo - 1) (row_nil X) (by simp) (fresh_nil X) (grown_self X none)
        have l1' := cell_grown_none e3 l1
        have hw2 : IntKind.i64.wrap (lo - 1) = lo - 1 := by rw [IntKind.wrap_i64]; omega
        obtain ⟨v2', w2', hr2, k1, k2, k3⟩ := app_rest X w1' (v1') ([] ++ [(s1, lo - 1)]) (hi + 1) t2 (e1) (by simp) (e2) (e3)
        have hw3 : IntKind.i64.wrap (hi + 1) = hi + 1 := by rw [IntKind.wrap_i64]; omega
        have hrp := cut_end (W := w2') (rv := v2') (V := V) h0 hL hgX (k3) (by rw [← hVV]; simp) (by rw [← hVV]; simpa using k1) (fun e => by rw [← hVV] at e; simp at e) (k2)
        rw [r1, r2] at hrp
        have u1 := unhide HC1 _ (grown_trans hgX (k3))
        have hG := hide (grown_trans hgX (k3))
        have HX := hide (And.intro h0 hL)
        clear h0 hL hVV q1 q2 q3 q4 q5 r1 r2 r3 hgX hlen tg hUU HA HV HH HC1 e1 e2 e3 k1 k2 k3
        go_wp2_with (first | (at_builtin; refine wpList_append_run _ rfl _ _ 34 34 rfl _ _ rfl rfl (hr1 _) ?_) | (at_builtin; refine wpList_append_run _ rfl _ _ 34 34 rfl _ _ rfl rfl (hr2 _) ?_) | (go_at_call 67; refine hrp.mono ?_; rintro e w' ⟨v', rfl, hpo⟩; obtain ⟨a', n', c', rfl⟩ := hpo.shape; have y3 := hpo.c1; have y4 := hpo.f1) | (go_at_call 68; refine (keep_any _ _ _ _ _ hpo.set).mono ?_; rintro e w2 ⟨rfl, ⟨v2, z1, z2⟩, z3⟩))
        all_goals go_ret
        all_goals (rw [unhide HLEN]; exact post_end (unhide hG) hpo.own hpo.touch z1 z2 z3)
      · rw [if_neg ht] at hVV
        obtain ⟨v1', w1', hr1, e1, e2, e3⟩ := app_rest X X (.slice none 0 0) [] s1 (lo - 1) (row_nil X) (by simp) (fresh_nil X) (grown_self X none)
        have l1' := cell_grown_none e3 l1
        have hw2 : IntKind.i64.wrap (lo - 1) = lo - 1 := by rw [IntKind.wrap_i64]; omega
        have hrp := cut_end (W := w1') (rv := v1') (V := V) h0 hL hgX (e3) (by rw [← hVV]; simp) (by rw [← hVV]; simpa using e1) (fun e => by rw [← hVV] at e; simp at e) (e2)
        rw [r1, r2] at hrp
        have u1 := unhide HC1 _ (grown_trans hgX (e3))
        have hG := hide (grown_trans hgX (e3))
        have HX := hide (And.intro h0 hL)
        clear h0 hL hVV q1 q2 q3 q4 q5 r1 r2 r3 hgX hlen tg hUU HA HV HH HC1 e1 e2 e3
        go_wp2_with (first | (at_builtin; refine wpList_append_run _ rfl _ _ 34 34 rfl _ _ rfl rfl (hr1 _) ?_) | (go_at_call 67; refine hrp.mono ?_; rintro e w' ⟨v', rfl, hpo⟩; obtain ⟨a', n', c', rfl⟩ := hpo.shape; have y3 := hpo.c1; have y4 := hpo.f1) | (go_at_call 68; refine (keep_any _ _ _ _ _ hpo.set).mono ?_; rintro e w2 ⟨rfl, ⟨v2, z1, z2⟩, z3⟩))
        all_goals go_ret
        all_goals (rw [unhide HLEN]; exact post_end (unhide hG) hpo.own hpo.touch z1 z2 z3)
    · rw [if_neg hs] at hVV
      by_cases ht : hi < t2
      · rw [if_pos ht] at hVV
        obtain ⟨v2', w2', hr2, k1, k2, k3⟩ := app_rest X X (.slice none 0 0) ([]) (hi + 1) t2 (row_nil X) (by simp) (fresh_nil X) (grown_self X none)
        have hw3 : IntKind.i64.wrap (hi + 1) = hi + 1 := by rw [IntKind.wrap_i64]; omega
        have hrp := cut_end (W := w2') (rv := v2') (V := V) h0 hL hgX (k3) (by rw [← hVV]; simp) (by rw [← hVV]; simpa using k1) (fun e => by rw [← hVV] at e; simp at e) (k2)
        rw [r1, r2] at hrp
        have u1 := unhide HC1 _ (grown_trans hgX (k3))
        have hG := hide (grown_trans hgX (k3))
        have HX := hide (And.intro h0 hL)
        clear h0 hL hVV q1 q2 q3 q4 q5 r1 r2 r3 hgX hlen tg hUU HA HV HH HC1 k1 k2 k3
        go_wp2_with (first | (at_builtin; refine wpList_append_run _ rfl _ _ 34 34 rfl _ _ rfl rfl (hr2 _) ?_) | (go_at_call 67; refine hrp.mono ?_; rintro e w' ⟨v', rfl, hpo⟩; obtain ⟨a', n', c', rfl⟩ := hpo.shape; have y3 := hpo.c1; have y4 := hpo.f1) | (go_at_call 68; refine (keep_any _ _ _ _ _ hpo.set).mono ?_; rintro e w2 ⟨rfl, ⟨v2, z1, z2⟩, z3⟩))
        all_goals go_ret
        all_goals (rw [unhide HLEN]; exact post_end (unhide hG) hpo.own hpo.touch z1 z2 z3)
      · rw [if_neg ht] at hVV
        have hrp := cut_end (W := X) (rv := .slice none 0 0) (V := V) h0 hL hgX (grown_self X none) (by rw [← hVV]; simp) (by rw [← hVV]; simpa using row_nil X) (fun e => by rfl) (fresh_nil X)
        rw [r1, r2] at hrp
        have u1 := unhide HC1 _ (grown_trans hgX (grown_self X none))
        have hG := hide (grown_trans hgX (grown_self X none))
        have HX := hide (And.intro h0 hL)
        clear h0 hL hVV q1 q2 q3 q4 q5 r1 r2 r3 hgX hlen tg hUU HA HV HH HC1
        go_wp2_with (first | (go_at_call 67; refine hrp.mono ?_; rintro e w' ⟨v', rfl, hpo⟩; obtain ⟨a', n', c', rfl⟩ := hpo.shape; have y3 := hpo.c1; have y4 := hpo.f1) | (go_at_call 68; refine (keep_any _ _ _ _ _ hpo.set).mono ?_; rintro e w2 ⟨rfl, ⟨v2, z1, z2⟩, z3⟩))
        all_goals go_ret
        all_goals (rw [unhide HLEN]; exact post_end (unhide hG) hpo.own hpo.touch z1 z2 z3)
  · obtain ⟨tg, -, l1, f0, -⟩ := two_new U (.int .i64 t1) (.int .i64 t2) (.int .i64 s1) (.int .i64 s2)
    generalize ((U.alloc (.cells #[.int .i64 t1, .int .i64 t2] 86)).alloc (.cells #[.int .i64 s1, .int .i64 s2] 86)).drew = X at *
    obtain ⟨h0, hL⟩ := unhide HA
    obtain ⟨hVV, q1, q2, q3, q4, q5⟩ := unhide HV
    obtain ⟨-, r1, r2, r3, -⟩ := unhide HH
    have hgX := grown_trans hUU tg
    have hlen : (A ++ (M ++ D)).length = i + m + d := by simp only [List.length_append]; omega
    rw [hlen] at h0
    have HLEN := hide hlen
    clear n0 n1 n2 n3 n4 g0 g1 g2 g3 p1 p2 p3 p5 p6 hU hwi hto u1 HCL HRE
    by_cases hs : s1 < lo
    · rw [if_pos hs] at hVV
      by_cases ht : hi < t2
      · rw [if_pos ht] at hVV
        obtain ⟨v1', w1', hr1, e1, e2, e3⟩ := app_rest X X (.slice none 0 0) [] s1 (lo - 1) (row_nil X) (by simp) (fresh_nil X) (grown_self X none)
        have l1' := cell_grown_none e3 l1
        have hw2 : IntKind.i64.wrap (lo - 1) = lo - 1 := by rw [IntKind.wrap_i64]; omega
        obtain ⟨v2', w2', hr2, k1, k2, k3⟩ := app_rest X w1' (v1') ([] ++ [(s1, lo - 1)]) (hi + 1) t2 (e1) (by simp) (e2) (e3)
        have hw3 : IntKind.i64.wrap (hi + 1) = hi + 1 := by rw [IntKind.wrap_i64]; omega
        have hrp := cut_end (W := w2') (rv := v2') (V := V) h0 hL hgX (k3) (by rw [← hVV]; simp) (by rw [← hVV]; simpa using k1) (fun e => by rw [← hVV] at e; simp at e) (k2)
        rw [r1, r2] at hrp
        have u1 := unhide HC1 _ (grown_trans hgX (k3))
        have hG := hide (grown_trans hgX (k3))
        have HX := hide (And.intro h0 hL)
        clear h0 hL hVV q1 q2 q3 q4 q5 r1 r2 r3 hgX hlen tg hUU HA HV HH HC1 e1 e2 e3 k1 k2 k3
        go_wp2_with (first | (at_builtin; refine wpList_append_run _ rfl _ _ 34 34 rfl _ _ rfl rfl (hr1 _) ?_) | (at_builtin; refine wpList_append_run _ rfl _ _ 34 34 rfl _ _ rfl rfl (hr2 _) ?_) | (go_at_call 67; refine hrp.mono ?_; rintro e w' ⟨v', rfl, hpo⟩; obtain ⟨a', n', c', rfl⟩ := hpo.shape; have y3 := hpo.c1; have y4 := hpo.f1) | (go_at_call 68; refine (keep_any _ _ _ _ _ hpo.set).mono ?_; rintro e w2 ⟨rfl, ⟨v2, z1, z2⟩, z3⟩))
        all_goals go_ret
        all_goals (rw [unhide HLEN]; exact post_end (unhide hG) hpo.own hpo.touch z1 z2 z3)
      · rw [if_neg ht] at hVV
        obtain ⟨v1', w1', hr1, e1, e2, e3⟩ := app_rest X X (.slice none 0 0) [] s1 (lo - 1) (row_nil X) (by simp) (fresh_nil X) (grown_self X none)
        have l1' := cell_grown_none e3 l1
        have hw2 : IntKind.i64.wrap (lo - 1) = lo - 1 := by rw [IntKind.wrap_i64]; omega
        have hrp := cut_end (W := w1') (rv := v1') (V := V) h0 hL hgX (e3) (by rw [← hVV]; simp) (by rw [← hVV]; simpa using e1) (fun e => by rw [← hVV] at e; simp at e) (e2)
        rw [r1, r2] at hrp
        have u1 := unhide HC1 _ (grown_trans hgX (e3))
        have hG := hide (grown_trans hgX (e3))
        have HX := hide (And.intro h0 hL)
        clear h0 hL hVV q1 q2 q3 q4 q5 r1 r2 r3 hgX hlen tg hUU HA HV HH HC1 e1 e2 e3
        go_wp2_with (first | (at_builtin; refine wpList_append_run _ rfl _ _ 34 34 rfl _ _ rfl rfl (hr1 _) ?_) | (go_at_call 67; refine hrp.mono ?_; rintro e w' ⟨v', rfl, hpo⟩; obtain ⟨a', n', c', rfl⟩ := hpo.shape; have y3 := hpo.c1; have y4 := hpo.f1) | (go_at_call 68; refine (keep_any _ _ _ _ _ hpo.set).mono ?_; rintro e w2 ⟨rfl, ⟨v2, z1, z2⟩, z3⟩))
        all_goals go_ret
        all_goals (rw [unhide HLEN]; exact post_end (unhide hG) hpo.own hpo.touch z1 z2 z3)
    · rw [if_neg hs] at hVV
      by_cases ht : hi < t2
      · rw [if_pos ht] at hVV
        obtain ⟨v2', w2', hr2, k1, k2, k3⟩ := app_rest X X (.slice none 0 0) ([]) (hi + 1) t2 (row_nil X) (by simp) (fresh_nil X) (grown_self X none)
        have hw3 : IntKind.i64.wrap (hi + 1) = hi + 1 := by rw [IntKind.wrap_i64]; omega
        have hrp := cut_end (W := w2') (rv := v2') (V := V) h0 hL hgX (k3) (by rw [← hVV]; simp) (by rw [← hVV]; simpa using k1) (fun e => by rw [← hVV] at e; simp at e) (k2)
        rw [r1, r2] at hrp
        have u1 := unhide HC1 _ (grown_trans hgX (k3))
        have hG := hide (grown_trans hgX (k3))
        have HX := hide (And.intro h0 hL)
        clear h0 hL hVV q1 q2 q3 q4 q5 r1 r2 r3 hgX hlen tg hUU HA HV HH HC1 k1 k2 k3
        go_wp2_with (first | (at_builtin; refine wpList_append_run _ rfl _ _ 34 34 rfl _ _ rfl rfl (hr2 _) ?_) | (go_at_call 67; refine hrp.mono ?_; rintro e w' ⟨v', rfl, hpo⟩; obtain ⟨a', n', c', rfl⟩ := hpo.shape; have y3 := hpo.c1; have y4 := hpo.f1) | (go_at_call 68; refine (keep_any _ _ _ _ _ hpo.set).mono ?_; rintro e w2 ⟨rfl, ⟨v2, z1, z2⟩, z3⟩))
        all_goals go_ret
        all_goals (rw [unhide HLEN]; exact post_end (unhide hG) hpo.own hpo.touch z1 z2 z3)
      · rw [if_neg ht] at hVV
        have hrp := cut_end (W := X) (rv := .slice none 0 0) (V := V) h0 hL hgX (grown_self X none) (by rw [← hVV]; simp) (by rw [← hVV]; simpa using row_nil X) (fun e => by rfl) (fresh_nil X)
        rw [r1, r2] at hrp
        have u1 := unhide HC1 _ (grown_trans hgX (grown_self X none))
        have hG := hide (grown_trans hgX (grown_self X none))
        have HX := hide (And.intro h0 hL)
        clear h0 hL hVV q1 q2 q3 q4 q5 r1 r2 r3 hgX hlen tg hUU HA HV HH HC1
        go_wp2_with (first | (go_at_call 67; refine hrp.mono ?_; rintro e w' ⟨v', rfl, hpo⟩; obtain ⟨a', n', c', rfl⟩ := hpo.shape; have y3 := hpo.c1; have y4 := hpo.f1) | (go_at_call 68; refine (keep_any _ _ _ _ _ hpo.set).mono ?_; rintro e w2 ⟨rfl, ⟨v2, z1, z2⟩, z3⟩))
        all_goals go_ret
        all_goals (rw [unhide HLEN]; exact post_end (unhide hG) hpo.own hpo.touch z1 z2 z3)
end Go.Proofs.Ytdalekjpjnhboaa
