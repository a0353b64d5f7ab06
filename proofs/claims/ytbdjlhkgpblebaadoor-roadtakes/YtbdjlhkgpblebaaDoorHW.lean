/- slots: walked. -/
import Derived.Test.YtbdjlhkgpblebaaDoorHV
namespace Go.Proofs.YtbdjlhkgpblebaaDoor
open Go.RowKit Go.Shelf
set_option linter.unusedVariables false
set_option maxHeartbeats 1000000
set_option maxRecDepth 100000
attribute [local go_sem] Oper.semAt_some

theorem tz_at (x j : Nat) (hx : x < 18446744073709551616) (hj : Low x j) (w : World) (ht : Tb w) : Calls Tryd.prog 51 #[.int .u64 x] w fun e w' => e = .returned (.int .i64 (j : Int)) ∧ w' = w := by
  refine (tz_any x hx w ht).mono ?_
  rintro e w' ⟨⟨k, hk, rfl⟩, rfl⟩
  have : k = j := by
    rcases hk with ⟨h1, h2⟩ | ⟨h1, h2, h3⟩ <;> rcases hj with ⟨g1, g2⟩ | ⟨g1, g2, g3⟩
    · omega
    · rw [h1, Nat.zero_testBit] at g2; cases g2
    · rw [g1, Nat.zero_testBit] at h2; cases h2
    · by_cases c : k < j
      · rw [g3 k c] at h2; cases h2
      · by_cases c2 : j < k
        · rw [h3 j c2] at g2; cases g2
        · omega
  rw [this]
  exact ⟨rfl, rfl⟩

theorem till_len {sl : Nat → Nat → List Nd} {pre : List (SlIn sl)} (h : (pre.map Subtype.val).Pairwise lexP) : pre.length ≤ 704 := by
  have h1 : (pre.map (fun p => p.1.1 * 64 + p.1.2)).Nodup := by
    unfold List.Nodup
    rw [List.pairwise_map] at h ⊢
    refine h.imp_of_mem (fun {a b} ha hb hab => ?_)
    have := a.2.2.1; have := b.2.2.1
    unfold lexP at hab; omega
  have := pigeon 704 _ h1 (fun x hx => by
    obtain ⟨p, hp, rfl⟩ := List.mem_map.1 hx
    have := p.2.1; have := p.2.2.1
    omega)
  simpa using this

theorem slots1_in (n : Nat) (hn : 1 ≤ n) (l Bw n₀ W mb c : Nat) (fl : Nat → Nat) (sl : Nat → Nat → List Nd) (J Jx : List (SlIn sl) → World → Prop)
    (hY : ∀ pre x W, J pre W → pre.length < 705 → YieldAt Fence.wide (n - 1) Tryd.prog l (encP x) W fun e W' =>
      (e = .returned (.bool true) ∧ J (pre ++ [x]) W' ∧ Below n₀ W W') ∨ (e = .returned (.bool false) ∧ Jx (pre ++ [x]) W'))
    (hJd : ∀ pre W q, J pre W → J pre (W.drewN q))
    (w : World) (hBw : w.cell? ⟨Bw, 0, none⟩ = some (ptr W)) (hB : Bw < n₀) (wb : WB w W mb c fl sl) (hW : W < n₀) (ht : Tb w) (h00 : 0 < n₀) (h0 : J [] w) :
    CallsIn Fence.wide n Tryd.prog 50 #[.func (.yield l) #[] #[], .pointer (some ⟨Bw, 0, none⟩)] w fun e W' => (∃ v, e = .returned v) ∧
      ((∃ ys : List (SlIn sl), Whole ys ∧ J ys W') ∨ (∃ pre : List (SlIn sl), Upto pre ∧ Jx pre W')) := by
  have HY := hide hY; have H0 := hide h0; have WBH := hide wb; have HT := hide ht; have HJD := hide hJd
  have HLT := hide (And.intro hB (And.intro hW h00))
  clear hY h0 wb ht hJd hB hW h00
  refine callsIn_of_wp Tryd.func50 rfl trivial ?_ rfl
  simp only [Tryd.ntmps50, List.size_toArray, List.length_cons, List.length_nil, Nat.reduceAdd, Nat.reduceSub, Array.replicate_succ, Array.replicate_zero, List.push_toArray, List.append_toArray, List.nil_append, List.cons_append]
  gi_wp2_with fail
  gi_loopw [6] (fun iv wr => ∃ (i : Nat) (pre : List (SlIn sl)), iv = .int .i64 i ∧ i ≤ 11 ∧ Hid (Till i 0 pre ∧ J pre wr ∧ Below n₀ w wr)) (fun iv _ => 11 - (intOf iv).toNat)
  case atStart => exact ⟨0, [], rfl, by omega, till_zero, unhide H0, Below.refl _ _⟩
  case round =>
    obtain ⟨i, pre, rfl, hi, H⟩ := hrel
    by_cases hlt : i < 11
    · have iI : (i : Int) < 11 := by omega
      obtain ⟨tl, hJ, hb⟩ := unhide H
      have cB := (hb.cell (p := ⟨Bw, 0, none⟩) (unhide HLT).1).trans hBw
      have wb1 := (unhide WBH).kept (hb.block W (unhide HLT).2.1)
      have cR := wb1.ring i hlt
      have HH := hide (And.intro tl (And.intro hJ hb))
      clear tl hJ hb wb1 H
      gi_wp2_with fail
      gi_loopw [5] (fun lv wr => ∃ (x k : Nat) (pre : List (SlIn sl)), lv = .int .u64 x ∧ x < 2 ^ 64 ∧ Hid (k ≤ 64 ∧ (∀ s, s < 64 → x.testBit s = ((fl i).testBit s && decide (k ≤ s))) ∧ Till i k pre ∧ J pre wr ∧ Below n₀ w wr)) (fun lv _ => (intOf lv).toNat)
      case atStart =>
        obtain ⟨tl, hJ, hb⟩ := unhide HH
        exact ⟨fl i, 0, pre, rfl, (unhide WBH).lt i hlt, by omega, fun s _ => by simp, tl, hJ, hb⟩
      case round =>
        clear HH cR cB
        obtain ⟨x, k, pre, rfl, hx, H⟩ := hrel
        by_cases hx0 : x = 0
        · subst hx0
          have E : Hid (Till (i + 1) 0 pre ∧ J pre wr ∧ Below n₀ w wr) := by
            obtain ⟨k64, bits, tl, hJ, hb⟩ := unhide H
            refine ⟨tl.next (fun s h1 h2 => ?_), hJ, hb⟩
            have b1 := bits s h2
            have b2 := (unhide WBH).bit i s hlt h2
            rw [Nat.zero_testBit] at b1
            have : (fl i).testBit s = false := by
              have : decide (k ≤ s) = true := by simpa using h1
              rw [this, Bool.and_true] at b1
              exact b1.symm
            rw [this] at b2
            simpa using b2.symm
          clear H
          gi_wp2_with fail
          go_roundw
          case rel => exact ⟨i + 1, pre, by go_num, hlt, unhide E⟩
          case measure => simp [intOf]; omega
        · have xb : ((x : Int) != 0) = true := by simp; omega
          obtain ⟨k64, bits, tl, hJ, hb⟩ := unhide H
          obtain ⟨j, j1, j2, j3, -⟩ := low_bit x hx0 hx
          have kj : k ≤ j := by
            have := bits j j1
            rw [j2] at this
            have : decide (k ≤ j) = true := by
              cases h : decide (k ≤ j) with
              | true => rfl
              | false => rw [h, Bool.and_false] at this; cases this
            simpa using this
          have fj : (fl i).testBit j = true := by
            have := bits j j1
            rw [j2] at this
            cases h : (fl i).testBit j with
            | true => rfl
            | false => rw [h, Bool.false_and] at this; cases this
          have hne : sl i j ≠ [] := by
            have b2 := (unhide WBH).bit i j hlt j1
            rw [fj] at b2
            intro e; rw [e] at b2; simp at b2
          have gap : ∀ s, k ≤ s → s < j → sl i s = [] := fun s h1 h2 => by
            have b1 := bits s (by omega)
            have b2 := (unhide WBH).bit i s hlt (by omega)
            rw [j3 s h2] at b1
            have h3 : decide (k ≤ s) = true := by simpa using h1
            rw [h3, Bool.and_true] at b1
            rw [← b1] at b2
            simpa using b2.symm
          have tl2 := tl.step kj gap ⟨(i, j), hlt, j1, hne⟩ rfl
          obtain ⟨y, y1, y2, y3, y4⟩ := and_pred x j hx ⟨j1, j2, j3⟩
          have wb1 := (unhide WBH).kept (hb.block W (unhide HLT).2.1)
          have cS := wb1.slot i j hlt j1
          have tb1 : Tb wr := (unhide HT).kept (hb.block 0 (unhide HLT).2.2)
          obtain ⟨q, hq⟩ : ∃ q, hdp nilp (sl i j) = .pointer q := by cases sl i j <;> exact ⟨_, rfl⟩
          rw [hq] at cS
          have yy : YieldAt Fence.wide (n - 1) Tryd.prog l #[.pointer q] wr.drew fun e W' => ∃ b : Bool, e = .returned (.bool b) ∧ Hid ((b = true ∧ J (pre ++ [⟨(i, j), hlt, j1, hne⟩]) W' ∧ Below n₀ wr.drew W') ∨ (b = false ∧ Jx (pre ++ [⟨(i, j), hlt, j1, hne⟩]) W')) := by
            have := unhide HY pre ⟨(i, j), hlt, j1, hne⟩ wr.drew (unhide HJD pre wr 1 hJ) (by have := till_len tl.1; omega)
            unfold encP at this
            simp only [hq] at this
            refine YieldAt.mono this (fun e W' h => ?_)
            rcases h with ⟨rfl, h1, h2⟩ | ⟨rfl, h1⟩
            · exact ⟨true, rfl, .inl ⟨rfl, h1, h2⟩⟩
            · exact ⟨false, rfl, .inr ⟨rfl, h1⟩⟩
          have NXT : Hid (∀ W', J (pre ++ [⟨(i, j), hlt, j1, hne⟩]) W' → Below n₀ wr.drew W' → (k ≤ 64 → j + 1 ≤ 64 ∧ (∀ s, s < 64 → y.testBit s = ((fl i).testBit s && decide (j + 1 ≤ s))) ∧ Till i (j + 1) (pre ++ [⟨(i, j), hlt, j1, hne⟩]) ∧ J (pre ++ [⟨(i, j), hlt, j1, hne⟩]) W' ∧ Below n₀ w W')) := by
            intro W' hj' hb' _
            refine ⟨by omega, fun s hs => ?_, tl2, hj', (hb.trans (show Below n₀ wr wr.drew from (Below.refl _ _).drew)).trans hb'⟩
            rw [y4, bits s hs]
            by_cases c1 : j < s
            · have c2 : k ≤ s := by omega
              have c3 : j + 1 ≤ s := by omega
              simp [c1, c2, c3]
            · have c3 : ¬ j + 1 ≤ s := by omega
              simp [c1, c3]
          have TL2 := hide tl2.upto
          have tz := fun W (hT : Tb W) => tz_at x j hx (.inr ⟨j1, j2, j3⟩) W hT
          have TZ := hide tz
          have TB1 := hide tb1
          have j64 : (j : Int) < 64 := by omega
          obtain ⟨fn, tmps, assign, body, hy, hRR⟩ := yy
          have HRR := hide hRR
          have mixed : Tryd.prog.follows .mixedOrders = true := by kernel_rfl
          have xm : IntKind.u64.wrap ((x : Int) - 1) = (x : Int) - 1 := by rw [IntKind.wrap_u64]; omega
          clear H tl hJ hb bits tl2 wb1 gap hRR tz tb1 hq y4 fj j2 j3
          gi_wp2_with fail
          gi_region_with_o (first
            | (refine ⟨trivial, ?_⟩; gi_at_call 51; refine (callsIn_wide.2 (unhide TZ _ (by first | exact unhide TB1 | exact (unhide TB1).kept rfl))).mono ?_; rintro e W2 ⟨rfl, hw⟩; subst hw)
            | (gi_at_call 51; refine (callsIn_wide.2 (unhide TZ _ (by first | exact unhide TB1 | exact (unhide TB1).kept rfl))).mono ?_; rintro e W2 ⟨rfl, hw⟩; subst hw)
            | (refine (unhide HRR).mono ?_; rintro e W3 ⟨b, rfl, HB⟩))
          all_goals
            cases b with
            | true =>
              have E : Hid (j + 1 ≤ 64 ∧ (∀ s, s < 64 → y.testBit s = ((fl i).testBit s && decide (j + 1 ≤ s))) ∧ Till i (j + 1) (pre ++ [⟨(i, j), hlt, j1, hne⟩]) ∧ J (pre ++ [⟨(i, j), hlt, j1, hne⟩]) W3 ∧ Below n₀ w W3) := by
                rcases unhide HB with ⟨-, h1, h2⟩ | ⟨h1, -⟩
                · exact unhide NXT W3 h1 h2 k64
                · cases h1
              clear HB NXT HRR hy TL2
              gi_wp2_with fail
              go_roundw
              case rel => exact ⟨y, j + 1, _, rfl, y3, unhide E⟩
              case measure => simp [intOf]; omega
            | false =>
              have E : Hid (Jx (pre ++ [⟨(i, j), hlt, j1, hne⟩]) W3) := by
                rcases unhide HB with ⟨h1, -⟩ | ⟨-, h1⟩
                · cases h1
                · exact h1
              clear HB NXT HRR hy
              gi_wp2_with fail
              refine bodyPost_ret (results_none rfl _ _ _) rfl ?_
              exact ⟨⟨_, rfl⟩, .inr ⟨_, unhide TL2, unhide E⟩⟩
    · obtain rfl : i = 11 := by omega
      have E : Hid (∃ ys : List (SlIn sl), Whole ys ∧ J ys wr) := ⟨pre, (unhide H).1.whole, (unhide H).2.1⟩
      clear H
      have iI : ¬ ((11 : Nat) : Int) < 11 := by omega
      gi_wp2_with fail
      go_end0
      exact ⟨⟨_, rfl⟩, .inl (unhide E)⟩
end Go.Proofs.YtbdjlhkgpblebaaDoor
