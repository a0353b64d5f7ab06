/- RunsApart. -/
import Derived.Test.YtebpcgljmcdllaaSH
import Derived.BigQuiet
namespace Go.Proofs.Ytebpcgljmcdllaa
open Go.RowKit
set_option linter.unusedVariables false
set_option maxRecDepth 100000
set_option maxHeartbeats 400000

theorem ends_of {mn mx : Int} {L : List Sp} (h : Good mn mx L) (k : Nat) (hk : k < L.length) :
    (L.getD k (0, 0)).1 ≤ (L.getD k (0, 0)).2 ∧ mn ≤ (L.getD k (0, 0)).1 ∧ (L.getD k (0, 0)).2 ≤ mx ∧ memB (L.getD k (0, 0)).1 L = true ∧ memB (L.getD k (0, 0)).2 L = true ∧ memB ((L.getD k (0, 0)).1 - 1) L = false ∧ memB ((L.getD k (0, 0)).2 + 1) L = false ∧ (0 < k → (L.getD (k - 1) (0, 0)).2 + 1 < (L.getD k (0, 0)).1 ∧ mn ≤ (L.getD (k - 1) (0, 0)).2) := by
  have hm := h.mem (getD_mem L k hk)
  have hs := getD_mem L k hk
  have hd := drop_cons_getD L k hk
  have hprev : 0 < k → L.getD (k - 1) (0, 0) ∈ L.take k := fun h0 => by
    have := getD_mem (L.take k) (k - 1) (by simp; omega)
    have e : (L.take k).getD (k - 1) (0, 0) = L.getD (k - 1) (0, 0) := by
      simp only [List.getD_eq_getElem?_getD, List.getElem?_take]
      rw [if_pos (by omega)]
    rwa [e] at this
  have hsp : L = L.take k ++ (L.getD k (0, 0) :: L.drop (k + 1)) := by rw [← hd, List.take_append_drop]
  generalize L.getD k (0, 0) = s at *
  rw [hsp] at h
  have hA : ∀ t ∈ L.take k, t.2 + 1 < s.1 := fun t ht => h.mid ht (by simp)
  have hr := h.right
  have hD : ∀ t ∈ L.drop (k + 1), s.2 + 2 ≤ t.1 := fun t ht => (hr.2.2.2.mem ht).1
  have hAs : ∀ t ∈ L.take k, mn ≤ t.1 ∧ t.1 ≤ t.2 := fun t ht => by have := h.left.mem ht; omega
  have hno : ∀ x, (∀ t ∈ L.take k, t.2 < x ∨ x < t.1) → (s.2 < x ∨ x < s.1) → (∀ t ∈ L.drop (k + 1), t.2 < x ∨ x < t.1) → memB x L = false := fun x h1 h2 h3 => memB_false fun t ht => by
    rw [hsp] at ht
    rcases List.mem_append.1 ht with ht | ht
    · exact h1 t ht
    · rcases List.mem_cons.1 ht with rfl | ht
      · exact h2
      · exact h3 t ht
  refine ⟨hm.2.1, hm.1, hm.2.2, memB_true hs (Int.le_refl _) hm.2.1, memB_true hs hm.2.1 (Int.le_refl _), hno _ (fun t ht => by have := hA t ht; omega) (by omega) (fun t ht => by have := hD t ht; omega), hno _ (fun t ht => by have := hA t ht; omega) (by omega) (fun t ht => by have := hD t ht; omega), fun h0 => ?_⟩
  have := hA _ (hprev h0)
  have := hAs _ (hprev h0)
  omega

set_option maxHeartbeats 4000000 in
set_option maxRecDepth 100000 in
theorem apart_walk (a : Option Addr) (len cap : Nat) (lo hi : Int) (w : World) (rlo : -9223372036854775808 ≤ lo ∧ lo ≤ 9223372036854775807) (rhi : -9223372036854775808 ≤ hi ∧ hi ≤ 9223372036854775807)
    (hsh : Calls Try.prog 9 #[] w fun e w' => e = .returned (.bool true) ∧ w.grownBy w' none)
    (hset : ∀ W, w.grownBy W none → Calls Try.prog 30 #[.slice a len cap] W fun e w' => ∃ b L, e = .returned (.pointer (some ⟨b, 0, none⟩)) ∧ LS w w' b 0 L ∧ Ok L) :
    Calls Try.prog 5 #[.slice a len cap, .int .i64 lo, .int .i64 hi] w fun e w' => e = .returned (.bool true) ∧ w.grownBy w' none := by
  have HSET := hide hset
  clear hset
  go_enter Try.func5, Try.ntmps5
  go_wp2_with fail
  refine hsh.mono ?_
  rintro e W0 ⟨rfl, g0⟩
  clear hsh
  go_wp2_with fail
  refine (unhide HSET _ g0).mono ?_
  rintro e W1 ⟨b, L, rfl, l1, hok⟩
  clear HSET g0
  obtain ⟨v, hv, -⟩ := l1.at_
  have g1 := l1.grown
  go_wp2_with fail
  refine (runs_any b 0 v L W1 hv (by have := hok.size; omega)).mono ?_
  rintro e W2 ⟨va, rfl, ra, -, g2⟩
  obtain ⟨a1, c1, rfl, z1, m1, n1⟩ := ra.shape
  unfold maxLen at m1
  have hsz := hok.size
  have HAS := hide (fun W (hW : W2.grownBy W none) x => has_any b 0 x v L W (hv.keep (grown_trans g2 hW)) hok)
  have HWI := hide (fun W (hW : W2.grownBy W none) h => within_any b 0 lo hi v L W (hv.keep (grown_trans g2 hW)) hok h)
  have HHO := hide (fun W (hW : W2.grownBy W none) h => holes_any b 0 lo hi v L W (hv.keep (grown_trans g2 hW)) hok h rlo.1 rhi.2)
  have HG := hide (grown_trans g1 g2)
  have HZ := hide z1
  have HOK := hide hok
  clear l1 hv g1 g2 ra z1 hok
  generalize hn : L.length = n at *
  have HN := hide hn
  clear hn
  go_wp2
  go_loopw [10] (fun i wr => ∃ (k : Nat), k ≤ n ∧ i = .int .i64 k ∧ W2.grownBy wr none) (fun i _ => n - (intOf i).toNat)
  case atStart => exact ⟨0, Nat.zero_le _, rfl, grown_self _ _⟩
  case round =>
    obtain ⟨k, hk, rfl, hg⟩ := hrel
    by_cases hlt : k < n
    · have hkL : k < L.length := by rw [unhide HN]; exact hlt
      obtain ⟨g, rfl, hcs⟩ := (unhide HZ).resolve_left (fun e => by rw [e] at hkL; simp at hkL)
      obtain ⟨f1, f2, f3, f4, f5, f6, f7, f8⟩ := ends_of (unhide HOK).good k hkL
      have y1 := cell_grown_none hg (hcs k hlt).1
      have y2 := cell_grown_none hg (hcs k hlt).2
      have y3 : 0 < k → wr.cell? ⟨g, (k - 1) * 2 + 1, none⟩ = some (.int .i64 (L.getD (k - 1) (0, 0)).2) := fun h0 => cell_grown_none hg (hcs (k - 1) (by omega)).2
      generalize L.getD k (0, 0) = s at *
      generalize (L.getD (k - 1) (0, 0)).2 = t2 at *
      obtain ⟨s1, s2⟩ := s
      simp only at f1 f2 f3 f4 f5 f6 f7 f8 y1 y2
      have hkn : (k : Int) < (n : Int) := by omega
      have hkd : decide ((k : Int) < (n : Int)) = true := decide_eq_true hkn
      have hd1 : decide (s2 < s1) = false := decide_eq_false (by omega)
      clear hcs
      by_cases h0 : 0 < k
      · obtain ⟨p, hp⟩ : ∃ p, k - 1 = p := ⟨_, rfl⟩
        have y3 := y3 h0
        rw [hp] at y3
        have q1 := f8 h0
        have hd2 : decide ((0 : Int) < (k : Int)) = true := decide_eq_true (by omega)
        have hd2' : (0 : Int) < (k : Int) := by omega
        have hw1 : IntKind.i64.wrap ((k : Int) - 1) = (p : Int) := by rw [IntKind.wrap_i64]; omega
        have hpn : (p : Int) < (n : Int) := by omega
        have hd3 : decide (s1 ≤ t2) = false := decide_eq_false (by omega)
        have hw2 : IntKind.i64.wrap (t2 + 1) = t2 + 1 := by rw [IntKind.wrap_i64]; omega
        have hd4 : decide (s1 ≤ t2 + 1) = false := decide_eq_false (by omega)
        clear f8 hp q1
        by_cases hmn : s1 = -9223372036854775808
        · have e1 : decide (-9223372036854775808 < s1) = false := decide_eq_false (by omega)
          have e1' : ¬ (-9223372036854775808 < s1) := by omega
          by_cases hmx : s2 = 9223372036854775807
          · have e2 : decide (s2 < 9223372036854775807) = false := decide_eq_false (by omega)
            have e2' : ¬ (s2 < 9223372036854775807) := by omega
            clear f1 f2 f3 hmn hmx
            go_wp2
            go_quiet (fail)
            have hg := grown_trans hg (grown_drewN _ nq)
            have y1 : (World.drewN _ nq).cell? ⟨g, k * 2, none⟩ = some (.int .i64 s1) := y1
            have y2 : (World.drewN _ nq).cell? ⟨g, k * 2 + 1, none⟩ = some (.int .i64 s2) := y2
            go_wp2_with (go_at_call 32; refine (unhide HAS _ hg _).mono ?_; rintro e W' ⟨rfl, g'⟩; have hg := grown_trans hg g'; have y1 := cell_grown_none g' y1; have y2 := cell_grown_none g' y2)
            exact ⟨⟨k + 1, by omega, by go_num, hg⟩, by simp [intOf]; omega⟩
          · have e2 : decide (s2 < 9223372036854775807) = true := decide_eq_true (by omega)
            have e2' : s2 < 9223372036854775807 := by omega
            have w2 : IntKind.i64.wrap (s2 + 1) = s2 + 1 := by rw [IntKind.wrap_i64]; omega
            clear f1 f2 f3 hmn hmx
            go_wp2
            go_quiet (fail)
            have hg := grown_trans hg (grown_drewN _ nq)
            have y1 : (World.drewN _ nq).cell? ⟨g, k * 2, none⟩ = some (.int .i64 s1) := y1
            have y2 : (World.drewN _ nq).cell? ⟨g, k * 2 + 1, none⟩ = some (.int .i64 s2) := y2
            go_wp2_with (go_at_call 32; refine (unhide HAS _ hg _).mono ?_; rintro e W' ⟨rfl, g'⟩; have hg := grown_trans hg g'; have y1 := cell_grown_none g' y1; have y2 := cell_grown_none g' y2)
            exact ⟨⟨k + 1, by omega, by go_num, hg⟩, by simp [intOf]; omega⟩
        · have e1 : decide (-9223372036854775808 < s1) = true := decide_eq_true (by omega)
          have e1' : -9223372036854775808 < s1 := by omega
          have w1 : IntKind.i64.wrap (s1 - 1) = s1 - 1 := by rw [IntKind.wrap_i64]; omega
          by_cases hmx : s2 = 9223372036854775807
          · have e2 : decide (s2 < 9223372036854775807) = false := decide_eq_false (by omega)
            have e2' : ¬ (s2 < 9223372036854775807) := by omega
            clear f1 f2 f3 hmn hmx
            go_wp2
            go_quiet (fail)
            have hg := grown_trans hg (grown_drewN _ nq)
            have y1 : (World.drewN _ nq).cell? ⟨g, k * 2, none⟩ = some (.int .i64 s1) := y1
            have y2 : (World.drewN _ nq).cell? ⟨g, k * 2 + 1, none⟩ = some (.int .i64 s2) := y2
            go_wp2_with (go_at_call 32; refine (unhide HAS _ hg _).mono ?_; rintro e W' ⟨rfl, g'⟩; have hg := grown_trans hg g'; have y1 := cell_grown_none g' y1; have y2 := cell_grown_none g' y2)
            exact ⟨⟨k + 1, by omega, by go_num, hg⟩, by simp [intOf]; omega⟩
          · have e2 : decide (s2 < 9223372036854775807) = true := decide_eq_true (by omega)
            have e2' : s2 < 9223372036854775807 := by omega
            have w2 : IntKind.i64.wrap (s2 + 1) = s2 + 1 := by rw [IntKind.wrap_i64]; omega
            clear f1 f2 f3 hmn hmx
            go_wp2
            go_quiet (fail)
            have hg := grown_trans hg (grown_drewN _ nq)
            have y1 : (World.drewN _ nq).cell? ⟨g, k * 2, none⟩ = some (.int .i64 s1) := y1
            have y2 : (World.drewN _ nq).cell? ⟨g, k * 2 + 1, none⟩ = some (.int .i64 s2) := y2
            go_wp2_with (go_at_call 32; refine (unhide HAS _ hg _).mono ?_; rintro e W' ⟨rfl, g'⟩; have hg := grown_trans hg g'; have y1 := cell_grown_none g' y1; have y2 := cell_grown_none g' y2)
            exact ⟨⟨k + 1, by omega, by go_num, hg⟩, by simp [intOf]; omega⟩
      · have hd2 : decide ((0 : Int) < (k : Int)) = false := decide_eq_false (by omega)
        have hd2' : ¬ ((0 : Int) < (k : Int)) := by omega
        clear f8 y3
        by_cases hmn : s1 = -9223372036854775808
        · have e1 : decide (-9223372036854775808 < s1) = false := decide_eq_false (by omega)
          have e1' : ¬ (-9223372036854775808 < s1) := by omega
          by_cases hmx : s2 = 9223372036854775807
          · have e2 : decide (s2 < 9223372036854775807) = false := decide_eq_false (by omega)
            have e2' : ¬ (s2 < 9223372036854775807) := by omega
            clear f1 f2 f3 hmn hmx
            go_wp2
            go_quiet (fail)
            have hg := grown_trans hg (grown_drewN _ nq)
            have y1 : (World.drewN _ nq).cell? ⟨g, k * 2, none⟩ = some (.int .i64 s1) := y1
            have y2 : (World.drewN _ nq).cell? ⟨g, k * 2 + 1, none⟩ = some (.int .i64 s2) := y2
            go_wp2_with (go_at_call 32; refine (unhide HAS _ hg _).mono ?_; rintro e W' ⟨rfl, g'⟩; have hg := grown_trans hg g'; have y1 := cell_grown_none g' y1; have y2 := cell_grown_none g' y2)
            exact ⟨⟨k + 1, by omega, by go_num, hg⟩, by simp [intOf]; omega⟩
          · have e2 : decide (s2 < 9223372036854775807) = true := decide_eq_true (by omega)
            have e2' : s2 < 9223372036854775807 := by omega
            have w2 : IntKind.i64.wrap (s2 + 1) = s2 + 1 := by rw [IntKind.wrap_i64]; omega
            clear f1 f2 f3 hmn hmx
            go_wp2
            go_quiet (fail)
            have hg := grown_trans hg (grown_drewN _ nq)
            have y1 : (World.drewN _ nq).cell? ⟨g, k * 2, none⟩ = some (.int .i64 s1) := y1
            have y2 : (World.drewN _ nq).cell? ⟨g, k * 2 + 1, none⟩ = some (.int .i64 s2) := y2
            go_wp2_with (go_at_call 32; refine (unhide HAS _ hg _).mono ?_; rintro e W' ⟨rfl, g'⟩; have hg := grown_trans hg g'; have y1 := cell_grown_none g' y1; have y2 := cell_grown_none g' y2)
            exact ⟨⟨k + 1, by omega, by go_num, hg⟩, by simp [intOf]; omega⟩
        · have e1 : decide (-9223372036854775808 < s1) = true := decide_eq_true (by omega)
          have e1' : -9223372036854775808 < s1 := by omega
          have w1 : IntKind.i64.wrap (s1 - 1) = s1 - 1 := by rw [IntKind.wrap_i64]; omega
          by_cases hmx : s2 = 9223372036854775807
          · have e2 : decide (s2 < 9223372036854775807) = false := decide_eq_false (by omega)
            have e2' : ¬ (s2 < 9223372036854775807) := by omega
            clear f1 f2 f3 hmn hmx
            go_wp2
            go_quiet (fail)
            have hg := grown_trans hg (grown_drewN _ nq)
            have y1 : (World.drewN _ nq).cell? ⟨g, k * 2, none⟩ = some (.int .i64 s1) := y1
            have y2 : (World.drewN _ nq).cell? ⟨g, k * 2 + 1, none⟩ = some (.int .i64 s2) := y2
            go_wp2_with (go_at_call 32; refine (unhide HAS _ hg _).mono ?_; rintro e W' ⟨rfl, g'⟩; have hg := grown_trans hg g'; have y1 := cell_grown_none g' y1; have y2 := cell_grown_none g' y2)
            exact ⟨⟨k + 1, by omega, by go_num, hg⟩, by simp [intOf]; omega⟩
          · have e2 : decide (s2 < 9223372036854775807) = true := decide_eq_true (by omega)
            have e2' : s2 < 9223372036854775807 := by omega
            have w2 : IntKind.i64.wrap (s2 + 1) = s2 + 1 := by rw [IntKind.wrap_i64]; omega
            clear f1 f2 f3 hmn hmx
            go_wp2
            go_quiet (fail)
            have hg := grown_trans hg (grown_drewN _ nq)
            have y1 : (World.drewN _ nq).cell? ⟨g, k * 2, none⟩ = some (.int .i64 s1) := y1
            have y2 : (World.drewN _ nq).cell? ⟨g, k * 2 + 1, none⟩ = some (.int .i64 s2) := y2
            go_wp2_with (go_at_call 32; refine (unhide HAS _ hg _).mono ?_; rintro e W' ⟨rfl, g'⟩; have hg := grown_trans hg g'; have y1 := cell_grown_none g' y1; have y2 := cell_grown_none g' y2)
            exact ⟨⟨k + 1, by omega, by go_num, hg⟩, by simp [intOf]; omega⟩
    · have hkd : decide ((k : Int) < (n : Int)) = false := decide_eq_false (by omega)
      have hkd' : ¬ ((k : Int) < (n : Int)) := by omega
      by_cases hlh : hi < lo
      · have hd5 : decide (hi < lo) = true := decide_eq_true hlh
        go_wp2_with (first | (go_at_call 33; refine (within_gt b lo hi _ hlh).mono ?_; rintro e w' ⟨rfl, hw'⟩; subst w') | (go_at_call 34; refine (holes_gt b lo hi _ hlh).mono ?_; rintro e w' ⟨rfl, hw'⟩; subst w'))
        all_goals go_ret
        all_goals exact ⟨rfl, grown_trans (unhide HG) hg⟩
      · have hd5 : decide (hi < lo) = false := decide_eq_false hlh
        have hgR := ((within_good (unhide HOK).good (show lo ≤ hi by omega)).mono (mn' := lo) (by omega)).top (mx' := hi) (by omega)
        have hmem := fun x (h1 : lo ≤ x) (h2 : x ≤ hi) => memB_within x lo hi L h1 h2
        have hWI := unhide HWI _ hg (by omega)
        have hHO := fun W h => unhide HHO W h (by omega)
        unfold holesF at hHO
        generalize withinF lo hi L = R at *
        generalize hH : holesGo hi lo R = H at *
        have T0 := hide (Tile.start hH.symm hgR (by omega))
        have HM := hide hmem
        have HHO' := hide hHO
        clear hgR hmem HWI HHO hHO hH HZ HN HOK hlt hk
        go_wp2_with fail
        refine hWI.mono ?_
        rintro e W3 ⟨v1, rfl, r1, -, g3⟩
        clear hWI
        go_wp2_with fail
        refine (unhide HHO' _ (grown_trans hg g3)).mono ?_
        rintro e W4 ⟨v2, rfl, r2, -, g4⟩
        obtain ⟨a3, c3, rfl, z3, m3, n3⟩ := (r1.keep g4).shape
        obtain ⟨a4, c4, rfl, z4, m4, n4⟩ := r2.shape
        unfold maxLen at m3 m4
        have hg4 := grown_trans hg (grown_trans g3 g4)
        have HZ3 := hide z3
        have HZ4 := hide z4
        clear z3 z4 r1 r2 g3 g4 HHO' hg
        generalize hl1 : R.length = l1 at *
        generalize hl2 : H.length = l2 at *
        have HL1 := hide hl1
        have HL2 := hide hl2
        clear hl1 hl2
        go_wp2
        go_loopw [17, 18, 19] (fun i k t wr => ∃ (i' k' : Nat) (nx : Int), i' ≤ l1 ∧ k' ≤ l2 ∧ i = .int .i64 i' ∧ k = .int .i64 k' ∧ t = .int .i64 nx ∧ Tile R H lo hi i' k' nx ∧ W4.grownBy wr none) (fun i k _ _ => (l1 - (intOf i).toNat) + (l2 - (intOf k).toNat))
        case atStart => exact ⟨0, 0, lo, Nat.zero_le _, Nat.zero_le _, rfl, rfl, rfl, unhide T0, grown_self _ _⟩
        case round =>
          obtain ⟨i, k, nx, hi1, hk1, rfl, rfl, rfl, tl, gw⟩ := hrel
          have HL1' := unhide HL1
          have HL2' := unhide HL2
          by_cases hA : i < l1 ∧ (R.getD i (0, 0)).1 = nx
          · obtain ⟨hil, hat⟩ := hA
            obtain ⟨g, rfl, hcs⟩ := (unhide HZ3).resolve_left (fun e => by rw [e] at HL1'; simp at HL1'; omega)
            obtain ⟨f1, f2, f3, f4⟩ := tl.run (by omega) hat (by omega)
            have x1 := cell_grown_none gw (hcs i hil).1
            have x2 := cell_grown_none gw (hcs i hil).2
            have hin := getD_mem R i (by omega)
            rw [hat] at x1 f1
            have e1 : memB nx L = true := by rw [← unhide HM nx tl.ge tl.le]; exact memB_true hin (by omega) (by omega)
            have e2 : memB (R.getD i (0, 0)).2 L = true := by rw [← unhide HM _ (by have := tl.ge; omega) f2]; exact memB_true hin (by omega) (Int.le_refl _)
            generalize (R.getD i (0, 0)).2 = y at *
            have hc1 : decide ((i : Int) < (l1 : Int)) = true := decide_eq_true (by omega)
            have hc1' : (i : Int) < (l1 : Int) := by omega
            have b1 : (wr.alloc (.cells #[.int .i64 nx, .int .i64 y] 64)).cell? ⟨wr.heap.size, 0, none⟩ = some (.int .i64 nx) := (box2 (heap_alloc_new wr _)).1
            have b2 : (wr.alloc (.cells #[.int .i64 nx, .int .i64 y] 64)).cell? ⟨wr.heap.size, 1, none⟩ = some (.int .i64 y) := (box2 (heap_alloc_new wr _)).2
            have x1' := cell_grown_none (grown_alloc wr (.cells #[.int .i64 0, .int .i64 0] 64)) x1
            have x2' := cell_grown_none (grown_alloc wr (.cells #[.int .i64 0, .int .i64 0] 64)) x2
            have hgX := grown_trans gw (grown_alloc wr (.cells #[.int .i64 nx, .int .i64 y] 64))
            have hd6 : decide (y < nx) = false := decide_eq_false (by omega)
            have hd7 : decide (hi < y) = false := decide_eq_false (by omega)
            have hnx := tl.ge
            have TL := hide tl
            have GW := hide gw
            clear hcs hin tl hat gw
            have hgY := hgX
            have hgX := grown_trans hg4 hgX
            by_cases hy : y = hi
            · subst hy
              obtain ⟨j1, j2⟩ := f3 rfl
              rw [unhide HL1] at j1
              rw [unhide HL2] at j2
              have j1' : (i : Int) + 1 = (l1 : Int) := by omega
              have j2' : (k : Int) = (l2 : Int) := by omega
              have hi3 : IntKind.i64.wrap ((i : Int) + 1) = (l1 : Int) := by rw [IntKind.wrap_i64]; omega
              clear f3 f4 j1 j2 j1' x1 x2
              go_wp2_with (go_at_call 32; refine (unhide HAS _ hgX _).mono ?_; rintro e W' ⟨rfl, g'⟩; have hgX := grown_trans hgX g'; have hgY := grown_trans hgY g'; have b1 := cell_grown_none g' b1; have b2 := cell_grown_none g' b2)
              all_goals go_ret
              all_goals exact ⟨rfl, grown_trans (unhide HG) hgX⟩
            · have f4 := hide (f4 hy)
              have hw3 : IntKind.i64.wrap (y + 1) = y + 1 := by rw [IntKind.wrap_i64]; omega
              clear f3 x1 x2
              go_wp2_with (go_at_call 32; refine (unhide HAS _ hgX _).mono ?_; rintro e W' ⟨rfl, g'⟩; have hgX := grown_trans hgX g'; have hgY := grown_trans hgY g'; have b1 := cell_grown_none g' b1; have b2 := cell_grown_none g' b2)
              exact ⟨⟨i + 1, k, y + 1, by omega, by omega, by go_num, rfl, rfl, unhide f4, hgY⟩, by simp [intOf]; omega⟩
          · have hat : i < R.length → (R.getD i (0, 0)).1 ≠ nx := fun h e => hA ⟨by omega, e⟩
            obtain ⟨k1, h1, h2, h3, h4, h5, h6, h7⟩ := tl.hole (by omega) hat
            obtain ⟨g, rfl, hcs⟩ := (unhide HZ4).resolve_left (fun e => by rw [e] at k1; simp at k1)
            have x1 := cell_grown_none gw (hcs k (by omega)).1
            have x2 := cell_grown_none gw (hcs k (by omega)).2
            rw [h1] at x1
            have hnx := tl.ge
            have e1 : memB nx L = false := by rw [← unhide HM nx tl.ge tl.le]; exact h4
            have e2 : memB (H.getD k (0, 0)).2 L = false := by rw [← unhide HM _ (by omega) h3]; exact h5
            generalize (H.getD k (0, 0)).2 = y at *
            have b1 : (wr.alloc (.cells #[.int .i64 nx, .int .i64 y] 64)).cell? ⟨wr.heap.size, 0, none⟩ = some (.int .i64 nx) := (box2 (heap_alloc_new wr _)).1
            have b2 : (wr.alloc (.cells #[.int .i64 nx, .int .i64 y] 64)).cell? ⟨wr.heap.size, 1, none⟩ = some (.int .i64 y) := (box2 (heap_alloc_new wr _)).2
            have x1' := cell_grown_none (grown_alloc wr (.cells #[.int .i64 0, .int .i64 0] 64)) x1
            have x2' := cell_grown_none (grown_alloc wr (.cells #[.int .i64 0, .int .i64 0] 64)) x2
            have hgY := grown_trans gw (grown_alloc wr (.cells #[.int .i64 nx, .int .i64 y] 64))
            have hgX := grown_trans hg4 hgY
            have hd6 : decide (y < nx) = false := decide_eq_false (by omega)
            have hd7 : decide (hi < y) = false := decide_eq_false (by omega)
            have hk2 : (k : Int) < (l2 : Int) := by omega
            have hk3 : decide ((k : Int) < (l2 : Int)) = true := decide_eq_true hk2
            have hk4 : ((k : Int) == (l2 : Int)) = false := by simp; omega
            have hk5 : ¬ ((k : Int) = (l2 : Int)) := by omega
            by_cases hil : i < l1
            · obtain ⟨g5, rfl, hcs5⟩ := (unhide HZ3).resolve_left (fun e => by rw [e] at HL1'; simp at HL1'; omega)
              have x5 := cell_grown_none (grown_alloc wr (.cells #[.int .i64 0, .int .i64 0] 64)) (cell_grown_none gw (hcs5 i hil).1)
              have hne := hat (by omega)
              generalize (R.getD i (0, 0)).1 = s5 at *
              have hs5 : (s5 == nx) = false := by simp; omega
              have hc1 : decide ((i : Int) < (l1 : Int)) = true := decide_eq_true (by omega)
              have hc1' : (i : Int) < (l1 : Int) := by omega
              clear hcs hcs5 tl gw h1 h4 h5 k1 hat hA x1 x2
              by_cases hy : y = hi
              · have := (h6 hy).1
                omega
              · have f4 := hide (h7 hy)
                have hw3 : IntKind.i64.wrap (y + 1) = y + 1 := by rw [IntKind.wrap_i64]; omega
                clear h6 h7
                go_wp2_with (go_at_call 32; refine (unhide HAS _ hgX _).mono ?_; rintro e W' ⟨rfl, g'⟩; have hgX := grown_trans hgX g'; have hgY := grown_trans hgY g'; have b1 := cell_grown_none g' b1; have b2 := cell_grown_none g' b2)
                exact ⟨⟨i, k + 1, y + 1, by omega, by omega, rfl, by go_num, rfl, unhide f4, hgY⟩, by simp [intOf]; omega⟩
            · have hc1 : decide ((i : Int) < (l1 : Int)) = false := decide_eq_false (by omega)
              have hc1' : ¬ ((i : Int) < (l1 : Int)) := by omega
              clear hcs tl gw h1 h4 h5 k1 hat hA x1 x2
              by_cases hy : y = hi
              · subst hy
                obtain ⟨j1, j2⟩ := h6 rfl
                rw [unhide HL1] at j1
                rw [unhide HL2] at j2
                have j1' : (i : Int) = (l1 : Int) := by omega
                have hi3 : IntKind.i64.wrap ((k : Int) + 1) = (l2 : Int) := by rw [IntKind.wrap_i64]; omega
                clear h6 h7 j1 j2
                go_wp2_with (go_at_call 32; refine (unhide HAS _ hgX _).mono ?_; rintro e W' ⟨rfl, g'⟩; have hgX := grown_trans hgX g'; have hgY := grown_trans hgY g'; have b1 := cell_grown_none g' b1; have b2 := cell_grown_none g' b2)
                all_goals go_ret
                all_goals exact ⟨rfl, grown_trans (unhide HG) hgX⟩
              · have f4 := hide (h7 hy)
                have hw3 : IntKind.i64.wrap (y + 1) = y + 1 := by rw [IntKind.wrap_i64]; omega
                clear h6 h7
                go_wp2_with (go_at_call 32; refine (unhide HAS _ hgX _).mono ?_; rintro e W' ⟨rfl, g'⟩; have hgX := grown_trans hgX g'; have hgY := grown_trans hgY g'; have b1 := cell_grown_none g' b1; have b2 := cell_grown_none g' b2)
                exact ⟨⟨i, k + 1, y + 1, by omega, by omega, rfl, by go_num, rfl, unhide f4, hgY⟩, by simp [intOf]; omega⟩
end Go.Proofs.Ytebpcgljmcdllaa
