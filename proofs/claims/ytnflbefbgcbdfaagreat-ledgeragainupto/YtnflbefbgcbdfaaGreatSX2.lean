/- Add, whole. -/
import Derived.Test.YtnflbefbgcbdfaaGreatSXa
import Derived.Deep.DeepCutAuto
import Derived.Deep.RegionHeld3
namespace Go.Proofs.YtnflbefbgcbdfaaGreat
set_option maxRecDepth 100000
open Go.RowKit
set_option linter.unusedVariables false
set_option maxHeartbeats 400000

theorem mid_set {X : World} {G : Nat} {a b : Value} {t : TypeId} (h : X.heap[G]? = some (.cells #[a, b] t (0, 0))) (x y : Value) :
    ((X.setCell ⟨G, 0, none⟩ x).setCell ⟨G, 1, none⟩ y).heap[G]? = some (.cells #[x, y] t (0, 0)) ∧ X.grownBy ((X.setCell ⟨G, 0, none⟩ x).setCell ⟨G, 1, none⟩ y) (some G) := by
  have h1 := setRow_heap X G _ (#[a, b].setIfInBounds 0 x) _ _ h
  rw [setCell_eq_setRow X G 0 _ _ _ x h, setCell_eq_setRow _ G 1 _ _ _ y h1]
  exact ⟨setRow_heap _ G _ _ _ _ h1, grown_step (grown_setRow X G _) _⟩

theorem mid_rel {w U X0 : World} {N : Nat} {bx : Obj} {lo hi x y : Int} (hgU : w.grownBy U none) (hNU : U.heap[N]? = some bx) (hGb : X0.heap[U.heap.size]? = some (.cells #[.int .i64 lo, .int .i64 hi] 63)) (hXg : U.grownBy X0 none) (x' y' : Int) (hx : x = x') (hy : y = y') :
    w.grownBy ((X0.setCell ⟨U.heap.size, 0, none⟩ (.int .i64 x')).setCell ⟨U.heap.size, 1, none⟩ (.int .i64 y')).drew none ∧ ((X0.setCell ⟨U.heap.size, 0, none⟩ (.int .i64 x')).setCell ⟨U.heap.size, 1, none⟩ (.int .i64 y')).drew.heap[N]? = some bx ∧ ((X0.setCell ⟨U.heap.size, 0, none⟩ (.int .i64 x')).setCell ⟨U.heap.size, 1, none⟩ (.int .i64 y')).drew.heap[U.heap.size]? = some (.cells #[.int .i64 x, .int .i64 y] 63) := by
  subst hx hy
  have hms := mid_set hGb (.int .i64 x) (.int .i64 y)
  have hlt := heap_some_lt hNU
  refine ⟨grown_trans (grown_fresh (grown_trans hgU hXg) hms.2 (fun k hk => by injection hk with hk; have := hgU.size; omega)) (grown_drewN _ 1), ?_, hms.1⟩
  show ((X0.setCell ⟨U.heap.size, 0, none⟩ (.int .i64 x)).setCell ⟨U.heap.size, 1, none⟩ (.int .i64 y)).heap[N]? = _
  rw [hms.2.block N (Nat.lt_of_lt_of_le hlt hXg.size) (fun e => by injection e with e; omega), hXg.block N hlt (by simp)]
  exact hNU

theorem mid_fin {w U X0 : World} {N : Nat} {bx : Obj} {lo hi x y s1 t2 : Int} (F : Hid (w.grownBy U none ∧ U.heap[N]? = some bx ∧ (x, y) = (min lo s1, max hi t2))) (F2 : Hid (X0.heap[U.heap.size]? = some (.cells #[.int .i64 lo, .int .i64 hi] 63) ∧ U.grownBy X0 none)) (x' y' : Int) (hx : min lo s1 = x') (hy : max hi t2 = y') :
    w.grownBy ((X0.setCell ⟨U.heap.size, 0, none⟩ (.int .i64 x')).setCell ⟨U.heap.size, 1, none⟩ (.int .i64 y')).drew none ∧ ((X0.setCell ⟨U.heap.size, 0, none⟩ (.int .i64 x')).setCell ⟨U.heap.size, 1, none⟩ (.int .i64 y')).drew.heap[N]? = some bx ∧ ((X0.setCell ⟨U.heap.size, 0, none⟩ (.int .i64 x')).setCell ⟨U.heap.size, 1, none⟩ (.int .i64 y')).drew.heap[U.heap.size]? = some (.cells #[.int .i64 x, .int .i64 y] 63) := by
  obtain ⟨hgU, hNU, hxy⟩ := unhide F
  obtain ⟨hGb, hXg⟩ := unhide F2
  simp only [Prod.mk.injEq] at hxy
  exact mid_rel hgU hNU hGb hXg _ _ (hxy.1.trans hx) (hxy.2.trans hy)

set_option maxHeartbeats 40000000 in
set_option maxRecDepth 100000 in
theorem add_walk (b : Nat) (most lo hi : Int) (v : Value) (A M D : List Sp) (w : World) (h0 : SetAt w b most v (A ++ (M ++ D))) (hL : Ok (A ++ (M ++ D))) (hlh : lo ≤ hi) (hlo : -9223372036854775808 ≤ lo) (hhi : hi ≤ 9223372036854775807)
    (hA : ∀ s ∈ A, s.2 < lo - 1) (hM : ∀ s ∈ M, lo - 1 ≤ s.2 ∧ s.1 ≤ hi + 1) (hD : ∀ s ∈ D, hi + 1 < s.1 ∧ lo - 1 ≤ s.2) :
    Calls Tryz.prog 41 #[.pointer (some ⟨b, 0, none⟩), .int .i64 lo, .int .i64 hi] w (AddPost b most v w (toldF (holesF lo hi (A ++ (M ++ D)))) (boundF most (A ++ ([grownF lo hi M] ++ D)))) := by
  obtain ⟨a, c, rfl, -, hcm, hnc⟩ := h0.row.shape
  obtain ⟨W1, hW1⟩ : ∃ W1, W1 = ((w.alloc (.cells #[.pointer (some ⟨b, 0, none⟩)] 71)).alloc (.cells #[.int .i64 lo] 2)).alloc (.cells #[.int .i64 hi] 2) := ⟨_, rfl⟩
  have hg1 : w.grownBy W1 none := by rw [hW1]; exact grown_trans (grown_trans (grown_alloc _ _) (grown_alloc _ _)) (grown_alloc _ _)
  have k0 : W1.cell? ⟨w.heap.size, 0, none⟩ = some (.pointer (some ⟨b, 0, none⟩)) := box_cell w W1 _ _ _ _ rfl rfl (by rw [hW1]; exact grown_trans (grown_alloc _ _) (grown_alloc _ _))
  have k1 : W1.cell? ⟨w.heap.size + 1, 0, none⟩ = some (.int .i64 lo) := by
    have := box_cell (w.alloc (.cells #[.pointer (some ⟨b, 0, none⟩)] 71)) W1 _ #[.int .i64 lo] 2 _ rfl rfl (by rw [hW1]; exact grown_alloc _ _)
    simpa using this
  have k2 : W1.cell? ⟨w.heap.size + 2, 0, none⟩ = some (.int .i64 hi) := by
    have := box_cell ((w.alloc (.cells #[.pointer (some ⟨b, 0, none⟩)] 71)).alloc (.cells #[.int .i64 lo] 2)) W1 _ #[.int .i64 hi] 2 _ rfl rfl (by rw [hW1]; exact grown_self _ _)
    simpa using this
  have hk : W1.heap[w.heap.size]? = some (.cells #[.pointer (some ⟨b, 0, none⟩)] 71) := by
    rw [hW1, (grown_trans (grown_alloc (w.alloc (.cells #[.pointer (some ⟨b, 0, none⟩)] 71)) (.cells #[.int .i64 lo] 2)) (grown_alloc _ (.cells #[.int .i64 hi] 2))).block w.heap.size (by simp) (by simp)]
    exact heap_alloc_new w _
  have HK := hide hk
  clear hk
  have hho := holes_any b most lo hi _ _ W1 (h0.keep hg1) hL hlh hlo hhi
  have hOkH : Good (-9223372036854775808) 9223372036854775807 (holesF lo hi (A ++ (M ++ D))) := hL.holes hlh hlo hhi
  have hto := fun v1 W (hr : Row W v1 (holesF lo hi (A ++ (M ++ D)))) => total_any v1 _ W hr hOkH
  have hse := fun U (hU : W1.grownBy U none) => add_search b most lo hi a c w.heap.size A M D U (h0.keep (grown_trans hg1 hU)) hL hlh hlo hhi hA hM hD (cell_grown_none hU k0) (cell_grown_none hU k1) (cell_grown_none hU k2)
  have hd1 : decide (hi < lo) = false := decide_eq_false (by omega)
  have hc1 := fun U (hU : W1.grownBy U none) => (h0.keep (grown_trans hg1 hU)).c1
  have HSE := hide hse
  have HC1 := hide hc1
  have HA := hide (And.intro h0 (And.intro hL hg1))
  have HM := hide hM
  clear hse hc1 h0 hL hA hM hD hcm hnc hOkH hlh hlo hhi hg1
  obtain ⟨x, y, hxy⟩ : ∃ x y, grownF lo hi M = (x, y) := ⟨_, _, rfl⟩
  rw [hxy]
  have HXY := hide hxy
  clear hxy
  generalize hnn : (A ++ (M ++ D)).length = n at *
  have HNN := hide hnn
  clear hnn
  generalize holesF lo hi (A ++ (M ++ D)) = HL at *
  go_enter Tryz.func41, Tryz.ntmps41
  have HW1 := hide hW1
  clear hW1
  go_upto_if 42 with (first | (go_at_call 65; rw [← unhide HW1]; refine hho.mono ?_; rintro e W2 ⟨v1, rfl, p1, p2, p3⟩) | (go_at_call 64; refine (hto _ _ p1).mono ?_; rintro e W3 ⟨rfl, p5⟩; have hU := grown_trans p3 p5; have u0 := cell_grown_none hU k0; have u1 := cell_grown_none hU k1; have u2 := cell_grown_none hU k2; have u3 := unhide HC1 _ hU; have hs1 := (unhide HSE _ hU).1; have hs2 := (unhide HSE _ hU).2) | (go_at_call 66; first | (refine hs1.mono ?_; rintro e w' ⟨rfl, q1, rfl⟩; clear hs1) | (refine (hs2 q1).mono ?_; rintro e U ⟨rfl, hq2⟩; have hUU := drewN2_grown hU hq2; have w0 := cell_grown_none hUU k0; have w1 := cell_grown_none hUU k1; have w2 := cell_grown_none hUU k2; have w3 := unhide HC1 _ hUU; clear hq2 hs2 u0 u1 u2 u3)))
  go_cut [] (fun wc => w.grownBy wc none ∧ wc.heap[w.heap.size]? = some (.cells #[.pointer (some ⟨b, 0, none⟩)] 71) ∧ wc.heap[U.heap.size]? = some (.cells #[.int .i64 x, .int .i64 y] 63))
  case first =>
    obtain ⟨h0, hL, hg1⟩ := unhide HA
    have hgU := grown_trans hg1 hUU
    have hNU : U.heap[w.heap.size]? = some (.cells #[.pointer (some ⟨b, 0, none⟩)] 71) := by rw [hUU.block w.heap.size (heap_some_lt (unhide HK)) (by simp)]; exact unhide HK
    by_cases hm : M = []
    · have HXY' := unhide HXY
      rw [hm] at HXY'
      simp only [grownF, Prod.mk.injEq] at HXY'
      have F := hide (And.intro hgU (And.intro hNU HXY'))
      have hd2 : decide ((0 : Int) < (M.length : Int)) = false := decide_eq_false (by rw [hm]; simp)
      have hd3 : decide ((A.length : Int) < (A.length : Int) + (M.length : Int)) = false := decide_eq_false (by rw [hm]; simp)
      have hd4 : ¬ ((0 : Int) < (M.length : Int)) := by rw [hm]; simp
      have hd5 : ¬ (0 < M.length) := by rw [hm]; simp
      clear HXY' hm HXY HK HA HC1 HSE HW1 h0 hL hg1 hgU hNU hUU hU p1 p2 p3 p5 k0 k1 k2 hho hto HM
      go_wp2
      go_meet
      case rel =>
        obtain ⟨hgU, hNU, e1, e2⟩ := unhide F
        subst e1 e2
        exact ⟨grown_trans hgU (grown_alloc _ _), by rw [(grown_alloc U _).block w.heap.size (heap_some_lt hNU) (by simp)]; exact hNU, heap_alloc_new U _⟩
    · rcases Row.at h0.row with ⟨_, h1⟩ | ⟨g, c', sp, h1, hR⟩
      · exact absurd (List.append_eq_nil_iff.1 (List.append_eq_nil_iff.1 h1).2).1 hm
      injection h1 with h1 h3 h2
      subst h1 h2
      clear h3
      have hMl : 0 < M.length := List.length_pos_iff.2 hm
      have hsz := hR.2.1
      have hcm := hR.2.2
      unfold maxLen at hcm
      have hnn := unhide HNN
      have hnl : (A ++ (M ++ D)).length = A.length + M.length + D.length := by simp only [List.length_append]; omega
      have hcl := fun j u (hj : (cl M)[j]? = some u) => cell_grown_none hgU (hR.cell (A.length * 2 + j) u (by rw [cl_append, List.getElem?_append_right (by rw [cl_length]; omega), cl_length, Nat.add_sub_cancel_left, cl_append, List.getElem?_append_left (List.getElem?_eq_some_iff.1 hj).1]; exact hj))
      have g0 := hcl _ _ (cl_lo M 0 hMl)
      have g1 := hcl _ _ (cl_hi M (M.length - 1) (by omega))
      have hxy : (x, y) = (min lo (M.getD 0 (0, 0)).1, max hi (M.getD (M.length - 1) (0, 0)).2) := by
        rw [← unhide HXY]
        cases M with
        | nil => exact absurd rfl hm
        | cons s M =>
          have e : (s :: M).getD ((s :: M).length - 1) (0, 0) = M.getLastD s := by
            rw [List.getD_eq_getElem?_getD, ← List.getLast?_eq_getElem?]
            cases M with
            | nil => rfl
            | cons t M => simp [List.getLast?_cons]
          rw [e]
          rfl
      simp only [Nat.zero_mul, Nat.add_zero] at g0
      rw [← Nat.add_assoc, show A.length * 2 + (M.length - 1) * 2 = (A.length + M.length - 1) * 2 by omega] at g1
      generalize (M.getD 0 (0, 0)).1 = s1 at *
      generalize (M.getD (M.length - 1) (0, 0)).2 = t2 at *
      rw [hnl] at hsz hnn
      have hb1 : (A.length : Int) < (A.length : Int) + (M.length : Int) := by omega
      have hb0 : (0 : Int) < (M.length : Int) := by omega
      have hd2 : decide ((0 : Int) < (M.length : Int)) = true := decide_eq_true hb0
      have hd3 : 0 < M.length := hMl
      obtain ⟨p, hp⟩ : ∃ p, A.length + M.length - 1 = p := ⟨_, rfl⟩
      rw [hp] at g1
      have hw1 : IntKind.i64.wrap ((A.length : Int) + (M.length : Int) - 1) = (p : Int) := by rw [IntKind.wrap_i64]; omega
      have hb2 : (A.length : Int) < (n : Int) := by omega
      have hb3 : (p : Int) < (n : Int) := by omega
      have F := hide (And.intro hgU (And.intro hNU hxy))
      have hne : ∀ a u, U.cell? a = some u → (U.alloc (.cells #[.int .i64 lo, .int .i64 hi] 63)).cell? a = some u := fun a u hu => cell_grown_none (grown_alloc _ _) hu
      have c0 := hne _ _ w0
      have c1 := hne _ _ w1
      have c2 := hne _ _ w2
      have c3 := hne _ _ w3
      have d0 := hne _ _ g0
      have d1 := hne _ _ g1
      obtain ⟨e0, e1⟩ := box2 (heap_alloc_new U (.cells #[.int .i64 lo, .int .i64 hi] 63))
      have ef : ∀ k, (U.alloc (.cells #[.int .i64 lo, .int .i64 hi] 63)).frozen? ⟨U.heap.size, k, none⟩ = false := fun k => RowAt.fro (c := 1) (L := [(lo, hi)]) (sp := []) ⟨heap_alloc_new U _, rfl, by unfold maxLen; omega⟩ k
      have ef0 := ef 0
      have ef1 := ef 1
      have hGb := heap_alloc_new U (.cells #[.int .i64 lo, .int .i64 hi] 63)
      have hXg := grown_alloc U (.cells #[.int .i64 lo, .int .i64 hi] 63)
      have F2 := hide (And.intro hGb hXg)
      clear HXY HK HA HC1 HSE HW1 h0 hL hg1 hgU hNU hUU hU p1 p2 p3 p5 k0 k1 k2 hho hto HM hR hcl hm hMl hsz hcm hnn hnl hxy hp w0 w1 w2 w3 g0 g1 hne ef hGb hXg HNN
      generalize hgen : U.alloc (.cells #[.int .i64 lo, .int .i64 hi] 63) = X0 at *
      clear hgen
      generalize A.length = i at *
      generalize M.length = m at *
      go_wp2
      go_region
      go_wp2
      all_goals (go_meet; case rel => exact mid_fin F F2 _ _ (by omega) (by omega))
  case rest =>
    obtain ⟨hgX, hN, hG⟩ := hcut
    obtain ⟨h0, hL, hg1⟩ := unhide HA
    have hGv : (Value.slice a n c).ownBlock ≠ some U.heap.size := fun e => by have := h0.row.blk_lt _ e; have := (grown_trans hg1 hUU).size; omega
    have h0X := h0.keep hgX
    have hrep := fun W hW => add_replace wc W b w.heap.size U.heap.size most x y _ A M D h0X hL hN hG hGv hW
    have x0 : wc.cell? ⟨w.heap.size, 0, none⟩ = some (.pointer (some ⟨b, 0, none⟩)) := by simp [World.cell?, hN]
    have xg := box2 hG
    have xg0 := xg.1
    have xg1 := xg.2
    have x3 := h0X.c1
    have x3' := cell_grown_none (grown_alloc wc (.cells #[.int .i64 x, .int .i64 y] 63)) x3
    have x0' := cell_grown_none (grown_alloc wc (.cells #[.int .i64 x, .int .i64 y] 63)) x0
    have HR := hide hrep
    have HX := hide hgX
    clear hrep hgX hN hG hGv h0X h0 hL hg1 hUU w0 w1 w2 w3 xg hU p1 p2 p3 p5 k0 k1 k2 hho hto hd1 HSE HC1 HA HW1 HK HXY HM HNN
    go_wp2
    go_region_law (refine step_call rfl _ _ enters_replace _ _ rfl (by simp [Act.eval]) (unhide HR _ (grown_drewN _ 1)) ?_; rintro e w' ⟨v', rfl, hpo⟩; obtain ⟨a', n', c', rfl⟩ := hpo.shape; refine ⟨_, rfl, ?_⟩; have y0 := hpo.n0; have y3 := hpo.c1; have y4 := hpo.f1)
    all_goals go_wp2_with (go_at_call 71; refine (keep_any _ _ _ _ _ hpo.set).mono ?_; rintro e w2 ⟨rfl, ⟨v2, z1, z2⟩, z3⟩)
    all_goals go_ret
    all_goals exact post_end (unhide HX) hpo.own hpo.touch z1 z2 z3
end Go.Proofs.YtnflbefbgcbdfaaGreat
