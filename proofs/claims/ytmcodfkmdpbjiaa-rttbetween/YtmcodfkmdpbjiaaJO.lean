/- RttBetween. -/
import Derived.Test.YtmcodfkmdpbjiaaJZ
namespace Go.Proofs.Ytmcodfkmdpbjiaa
open Go.RowKit
set_option linter.unusedVariables false
set_option maxRecDepth 100000
set_option maxHeartbeats 8000000

/-- The least and the greatest so far. -/
structure MM (T : List Int) (k : Nat) (le gr : Int) : Prop where
  l1 : le ∈ T
  l2 : ∀ j x, j < k → T[j]? = some x → le ≤ x
  g1 : gr ∈ T
  g2 : ∀ j x, j < k → T[j]? = some x → x ≤ gr
theorem mm_step {T : List Int} {k : Nat} {le gr x : Int} (h : MM T k le gr) (hx : T[k]? = some x) : MM T (k + 1) (min le x) (max gr x) := by
  have hm := List.mem_of_getElem? hx
  refine ⟨?_, ?_, ?_, ?_⟩
  · by_cases c : le ≤ x
    · rw [show min le x = le by omega]; exact h.l1
    · rw [show min le x = x by omega]; exact hm
  · intro j y hj hy
    by_cases c : j = k
    · subst c
      rw [hx] at hy
      cases hy
      omega
    · have := h.l2 j y (by omega) hy
      omega
  · by_cases c : x ≤ gr
    · rw [show max gr x = gr by omega]; exact h.g1
    · rw [show max gr x = x by omega]; exact hm
  · intro j y hj hy
    by_cases c : j = k
    · subst c
      rw [hx] at hy
      cases hy
      omega
    · have := h.g2 j y (by omega) hy
      omega
theorem mm_end {s : Es} {T : List Int} {lo hi hd le gr : Int} (h : MM T T.length le gr) (b : Bw s T lo hi hd) : le = lo ∧ gr = hi := by
  have a1 := b.all le h.l1
  have a2 := b.all gr h.g1
  obtain ⟨j, hj⟩ := List.getElem?_of_mem b.lo_
  obtain ⟨m, hm⟩ := List.getElem?_of_mem b.hi_
  have a3 := h.l2 j lo (List.getElem?_eq_some_iff.1 hj).1 hj
  have a4 := h.g2 m hi (List.getElem?_eq_some_iff.1 hm).1 hm
  omega

theorem between_walk (i0 g0 : Int) (a0 : Option Addr) (len cap : Nat) (ol : List OpE) (w : World) (h : IsOps w a0 len cap ol) :
    Calls Try.prog 5 #[.int .i64 i0, .int .i64 g0, .slice a0 len cap] w fun e w' => e = .returned (.bool true) ∧ w.grownBy w' none := by
  have sh := shown_any w
  have HO := hide h
  have he := fun W => est_any i0 g0 W
  have fits := e_fits i0 g0
  clear h
  go_enter Try.func5, Try.ntmps5
  go_wp2_with fail
  refine sh.mono ?_
  rintro e w1 ⟨rfl, g1⟩
  clear sh
  go_wp2_with fail
  refine (he _).mono ?_
  rintro e w2 ⟨rfl, hw2⟩
  have q2 : QE w w2 (w1.heap.size + 1) (es0 (eI i0) (eG g0)) := by
    rw [hw2]
    exact ⟨(Blk.two w1 _ _ _ _).2.1, by have := g1.size; omega, gtrans g1 (Blk.two w1 _ _ _ _).2.2⟩
  have q3 := q2.keep (World.grownBy_alloc w2 (.cells (rsc (rs0 (eI i0) (eG g0))) 32) none)
  have SM := samples_any a0 len cap ol w _ (unhide HO) _ _ q3 ⟨es0_ok fits, rfl, (fun _ => rfl), (fun h => absurd rfl h), (fun x h => by cases h)⟩
  clear he hw2 q2 q3 g1 HO
  unfold rsc rs0 at *
  generalize eI i0 = I at *
  generalize eG g0 = G at *
  generalize w1.heap.size + 1 = b at *
  go_wp2_with fail
  refine SM.mono ?_
  rintro e w3 ⟨ta, tn, tq, rfl, s, Q3, T, R3, B3, T4⟩
  clear SM
  have VW := qe_view Q3
  obtain ⟨tl, tc1, tc2, tcs⟩ := R3.at
  by_cases hT : T = []
  · subst hT
    have hh := B3.none rfl
    have tz : tn = 0 := tl
    have vE : viewF s = zrt := by unfold viewF; rw [hh]; rfl
    rw [vE] at VW
    subst tz
    clear R3 tcs tl tc1 tc2 hh vE B3 T4
    go_wp2_with fail
    refine VW.mono ?_
    rintro e w4 ⟨rfl, Q4, -⟩
    have Q5 := hide (Q4.keep (World.grownBy_alloc w4 (.cells zrt 30) none))
    clear VW Q3 Q4
    go_wp2_with fail
    go_ret
    exact ⟨rfl, (unhide Q5).grown⟩
  · obtain ⟨lo, hi, hd, B⟩ := B3.some_ hT
    obtain ⟨g, cur, rfl, hg1, hg2, hce⟩ := tcs.resolve_left hT
    have t0 : 0 < T.length := List.length_pos_iff.2 hT
    have vE : viewF s = #[.bool true, .int .i64 s.latest, .int .i64 s.least, .int .i64 s.smooth, .int .i64 s.var, .int .i64 s.first] := by unfold viewF; rw [B.has]; rfl
    rw [vE, B.least] at VW
    have hmax : (tn : Int) ≤ 4000 := by omega
    have tI : (0 : Int) < (tn : Int) := by omega
    have tb : ((tn : Int) == 0) = false := by rw [beq_eq_false_iff_ne]; omega
    have HB := hide B
    have hdm := List.mem_of_getElem? B.hd_
    have M0 : Hid (MM T 0 hd hd) := ⟨hdm, fun j x h => by omega, hdm, fun j x h => by omega⟩
    have l1 := B.last
    have l0 := B.hd_
    have sm1 := B.sm.1
    have sm2 := B.sm.2
    have va1 := B.va.1
    have va2 := B.va.2
    have hdb := B3.ok
    have bl := B.all
    have lob := B3.rng lo B.lo_
    have hib := B3.rng hi B.hi_
    have hdr := B3.rng hd hdm
    have bs := B3.rng
    clear R3 vE B3 B bl hdb hT hdm
    obtain ⟨m, rfl⟩ : ∃ m, tn = m + 1 := ⟨tn - 1, by omega⟩
    have hmI : (m : Int) ≤ 4000 := by omega
    clear tc1 tc2
    have lm : T[m]? = some s.latest := by rw [← l1, ← tl]; rfl
    have TL := hide tl
    clear tl t0 l1 T4
    generalize s.latest = la at *
    generalize s.smooth = sm at *
    generalize s.var = va at *
    generalize s.first = fi at *
    go_wp2_with fail
    refine VW.mono ?_
    rintro e w4 ⟨rfl, Q4, g4⟩
    have g5 := g4.trans (World.grownBy_alloc w4 (.cells #[.bool true, .int .i64 la, .int .i64 lo, .int .i64 sm, .int .i64 va, .int .i64 fi] 30) none)
    have Q5 := hide (Q4.keep (World.grownBy_alloc w4 (.cells #[.bool true, .int .i64 la, .int .i64 lo, .int .i64 sm, .int .i64 va, .int .i64 fi] 30) none)).grown
    have D := Blk.new w4 #[.bool true, .int .i64 la, .int .i64 lo, .int .i64 sm, .int .i64 va, .int .i64 fi] 30
    obtain ⟨z0, z1, z2, z3, z4, z5⟩ := D.sixes
    have y0 := cell_grown (hce 0 hd l0) g5
    have ym := cell_grown (hce m la lm) g5
    have CE : Hid (∀ j x, T[j]? = some x → (w4.alloc (.cells #[.bool true, .int .i64 la, .int .i64 lo, .int .i64 sm, .int .i64 va, .int .i64 fi] 30)).cell? ⟨g, j, none⟩ = some (.int .i64 x)) := fun j x hj => cell_grown (hce j x hj) g5
    clear VW Q3 Q4 g4 g5 D hce hg1 hg2
    go_wp2_with fail
    generalize w4.heap.size = d at *
    generalize w4.alloc _ = W5 at *
    go_loopw [12, 13, 14] (fun l r i wr => ∃ (k : Nat) (le gr : Int), k ≤ m + 1 ∧ l = .int .i64 le ∧ r = .int .i64 gr ∧ i = .int .i64 k ∧ Hid (wr = W5 ∧ MM T k le gr)) (fun _ _ i _ => m + 1 - (intOf i).toNat)
    case atStart => exact ⟨0, hd, hd, Nat.zero_le _, rfl, rfl, rfl, ⟨rfl, unhide M0⟩⟩
    case round =>
      clear M0
      obtain ⟨k, le, gr, hk, rfl, rfl, rfl, R⟩ := hrel
      by_cases hlt : k < m + 1
      · have hkT : k < T.length := by have := unhide TL; omega
        have hx : T[k]? = some T[k] := List.getElem?_eq_getElem hkT
        have yk := unhide CE k _ hx
        rw [← (unhide R).1] at yk
        have ST : Hid (wr = W5 ∧ MM T (k + 1) (min le T[k]) (max gr T[k])) := ⟨(unhide R).1, mm_step (unhide R).2 hx⟩
        have kn : (k : Int) < ((m + 1 : Nat) : Int) := by omega
        have kn' : (k : Int) < (m : Int) + 1 := by omega
        generalize T[k] = x at *
        have HLT := hide hlt
        clear R hk hlt hkT hx z0 z1 z2 z3 z4 z5 y0 ym
        have ml : (le ≤ x ∧ min le x = le) ∨ (x < le ∧ min le x = x) := by omega
        have mg : (gr < x ∧ max gr x = x) ∨ (x ≤ gr ∧ max gr x = gr) := by omega
        rcases ml with ⟨m1, m2⟩ | ⟨m1, m2⟩ <;> rcases mg with ⟨m3, m4⟩ | ⟨m3, m4⟩
        all_goals
          rw [m2, m4] at ST
          clear m2 m4
          go_wp2_with fail
          go_roundw
          case rel => exact ⟨k + 1, _, _, unhide HLT, rfl, rfl, by go_num, ST⟩
          case measure => have := unhide HLT; simp [intOf]; omega
      · obtain rfl : k = m + 1 := by omega
        obtain ⟨rfl, hM⟩ := unhide R
        rw [unhide TL] at hM
        obtain ⟨rfl, rfl⟩ := mm_end hM (unhide HB)
        clear R hM hk hlt HB CE
        obtain ⟨lob1, lob2⟩ := lob
        obtain ⟨hib1, hib2⟩ := hib
        obtain ⟨hdr1, hdr2⟩ := hdr
        have dv1 : decide (le ≤ sm) = true := decide_eq_true sm1
        have dv2 : decide (sm ≤ gr) = true := decide_eq_true sm2
        have dv3 : decide (0 ≤ va) = true := decide_eq_true va1
        have mI : (m : Int) < (m : Int) + 1 := by omega
        have way : (hd / 2 < gr - le ∧ va ≤ gr - le) ∨ (gr - le ≤ hd / 2 ∧ va ≤ hd / 2) := by omega
        rcases way with ⟨w1, w2⟩ | ⟨w1, w2⟩
        · have dv4 : decide (va ≤ gr - le) = true := decide_eq_true w2
          go_wp2_with fail
          go_quiet (fail)
          go_wp2_with fail
          all_goals go_ret
          all_goals exact ⟨rfl, grown_drewN (unhide Q5)⟩
        · have dv4 : decide (va ≤ hd / 2) = true := decide_eq_true w2
          go_wp2_with fail
          go_quiet (fail)
          go_wp2_with fail
          all_goals go_ret
          all_goals exact ⟨rfl, grown_drewN (unhide Q5)⟩
end Go.Proofs.Ytmcodfkmdpbjiaa
