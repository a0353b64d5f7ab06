/- KD4, KD5, KD6, one text. -/
import Derived.Test.YtdmjejfnohhpiaaKD1
import Derived.Deep.DeepCutAuto
namespace Go.Proofs.Ytdmjejfnohhpiaa
open Go.RowKit
set_option linter.unusedVariables false
set_option maxRecDepth 100000
set_option maxHeartbeats 4000000

section
variable {w W : World} {G : Lg} {q : Array Value}
theorem B3.rz (S : B3 w W G q) : W.cell? ⟨w.heap.size + 1 + 1, 0, none⟩ = some (.int .i64 0) ∧ W.cell? ⟨w.heap.size + 1 + 1, 1, none⟩ = some nilV ∧ W.cell? ⟨w.heap.size + 1 + 1, 2, none⟩ = some nilV ∧ W.cell? ⟨w.heap.size + 1 + 1, 3, none⟩ = some (.int .i64 0) ∧ W.cell? ⟨w.heap.size + 1 + 1, 4, none⟩ = some (.int .i64 0) ∧ W.cell? ⟨w.heap.size + 1 + 1, 5, none⟩ = some nilV ∧ (∀ j, W.frozen? ⟨w.heap.size + 1 + 1, j, none⟩ = false) :=
  ⟨S.bR.cell 0 _ rfl, S.bR.cell 1 _ rfl, S.bR.cell 2 _ rfl, S.bR.cell 3 _ rfl, S.bR.cell 4 _ rfl, S.bR.cell 5 _ rfl, S.bR.thaws⟩
theorem B3.err (S : B3 w W G q) {R : Pk × Int × Int} {y : Int} (h : R = (noP, 0, y)) :
    Blk ((((((W.setCell ⟨w.heap.size + 1 + 1, 0, none⟩ (.int .i64 0)).setCell ⟨w.heap.size + 1 + 1, 1, none⟩ nilV).setCell ⟨w.heap.size + 1 + 1, 2, none⟩ nilV).setCell ⟨w.heap.size + 1 + 1, 3, none⟩ (.int .i64 0)).setCell ⟨w.heap.size + 1 + 1, 4, none⟩ (.int .i64 0)).setCell ⟨w.heap.size + 1 + 1, 5, none⟩ nilV) (w.heap.size + 1 + 1) (pcs 0 nilV nilV 0 0 nilV) 24 ∧
    DecPost w R (.returned (.tuple #[noP.val nilV nilV nilV, .int .i64 0, .int .i64 y])) ((((((W.setCell ⟨w.heap.size + 1 + 1, 0, none⟩ (.int .i64 0)).setCell ⟨w.heap.size + 1 + 1, 1, none⟩ nilV).setCell ⟨w.heap.size + 1 + 1, 2, none⟩ nilV).setCell ⟨w.heap.size + 1 + 1, 3, none⟩ (.int .i64 0)).setCell ⟨w.heap.size + 1 + 1, 4, none⟩ (.int .i64 0)).setCell ⟨w.heap.size + 1 + 1, 5, none⟩ nilV) := by
  subst h
  have gg := grown_at (grown_at (grown_at (grown_at (grown_at (grown_at (World.grownBy.refl W (some (w.heap.size + 1 + 1))) 0 (.int .i64 0)) 1 nilV) 2 nilV) 3 (.int .i64 0)) 4 (.int .i64 0)) 5 nilV
  exact ⟨S.bR.set6, DecPost.no y (grown_over S.gr gg (by omega))⟩
end

theorem bits_not (x : Int) (hb : IsB x) (h : x / 4 % 4 = 0) : bitR x 3 = false ∧ bitR x 2 = false := by
  unfold bitR
  exact ⟨decide_eq_false (by simp; omega), decide_eq_false (by simp; omega)⟩
theorem bits_some (x : Int) (hb : IsB x) (h : ¬ x / 4 % 4 = 0) : bitR x 3 = true ∨ (bitR x 3 = false ∧ bitR x 2 = true) := by
  unfold bitR IsB at *
  by_cases c : x / 8 % 2 = 1
  · exact .inl (decide_eq_true (by simpa using c))
  · exact .inr ⟨decide_eq_false (by simp; omega), decide_eq_true (by simp; omega)⟩

theorem longer_err (g c : Nat) (l : List Int) (k : Nat) (G : Lg) (x : Int) (w : World) (h : InL w g c l) (hl : l.length ≤ 140737488351232) (hk : k < l.length) (hx : l.getD k 0 = x) (hb : IsB x) (b64 : x / 64 % 2 = 1)
    (herr : ¬ (x / 4 % 4 = 0 ∧ k + 5 ≤ l.length ∧ joinF 0 ((l.drop (k + 1)).take 4) = 1 ∧ (spcF x).2 = true)) :
    Calls Try.prog 41 #[.slice (some ⟨g, 0, none⟩) l.length c, .int .i64 k, G.v, .agg (pcs 0 nilV nilV 0 (widF x) nilV)] w (DecPost w (decR (longR l G (k + 1, 0) x))) := by
  have hmx := h.max
  have hlt := h.lt
  unfold maxLen at hmx
  have S0 := B3.start w G (pcs 0 nilV nilV 0 (widF x) nilV)
  have hc := cell_grown (h.cell k hk) S0.gr
  rw [hx] at hc
  have hb5 := fun W => bit_any x 3 W hb (by decide)
  have hb6 := fun W => bit_any x 2 W hb (by decide)
  have hib := hb
  unfold IsB at hib
  have kl : (k : Int) < (l.length : Int) := by omega
  have kl0 : k < l.length := hk
  by_cases f1 : x / 4 % 4 = 0
  · have hbl : bitL x = true := decide_eq_true ⟨b64, f1⟩
    have s1 : sL1 (k + 1, 0) x = (k + 1, 0) := by unfold sL1; rw [hbl, rMust_yes]
    obtain ⟨v5, v6⟩ := bits_not x hb f1
    rw [v5] at hb5
    rw [v6] at hb6
    have w1 : IntKind.i64.wrap ((k : Int) + 1) = (k : Int) + 1 := by rw [IntKind.wrap_i64]; omega
    have hrd : ∀ W, w.grownBy W none → Calls Try.prog 52 #[.slice (some ⟨g, 0, none⟩) l.length c, .int .i64 ((k : Int) + 1), .int .i64 4] W fun e w' => e = .returned (tup3 (readF l ((k + 1 : Nat) : Int) 4)) ∧ w' = W := fun W gr => by
      have := rread_any (some ⟨g, 0, none⟩) l c ((k + 1 : Nat) : Int) 4 W (h.grown gr).rd (by unfold maxLen; omega)
      simpa using this
    by_cases f2 : k + 5 ≤ l.length
    · have s2 : sL2 l (k + 1, 0) x = (joinF 0 ((l.drop (k + 1)).take 4), (k + 5, 0)) := by
        unfold sL2; rw [s1]
        unfold rPlain rRead
        rw [if_pos rfl, show (4 : Int) = ((4 : Nat) : Int) from rfl, readF_in l (k + 1) 4 (by decide) (by omega)]
        simp
        omega
      rw [show (4 : Int) = ((4 : Nat) : Int) from rfl, readF_in l (k + 1) 4 (by decide) (by omega)] at hrd
      by_cases f3 : joinF 0 ((l.drop (k + 1)).take 4) = 1
      · have s3 : sL3 l (k + 1, 0) x = (k + 5, 0) := by unfold sL3; rw [s2]; simp only; rw [decide_eq_true f3, rMust_yes]
        have f4 : (spcF x).2 = false := by
          cases e : (spcF x).2 with
          | false => rfl
          | true => exact absurd ⟨f1, f2, f3, e⟩ herr
        have s4 : (sL4 l (k + 1, 0) x).2 = 53 := by unfold sL4; rw [s3, f4]; unfold rMust; rw [if_pos ⟨rfl, rfl⟩]
        have HE := hide (decR_no (P := longR l G (k + 1, 0) x) (y := 53) (by rw [dead4 (by rw [s4]; decide)]; exact s4) (by decide))
        have k1 : (x / 16 % 4 != 0) = true ∧ (x / 16 % 4 != 2) = true := by
          unfold spcF at f4
          split at f4
          · cases f4
          · split at f4
            · cases f4
            · simp; omega
        obtain ⟨k1, k2⟩ := k1
        have t1 : (joinF 0 ((l.drop (k + 1)).take 4) != 1) = false := by simpa using f3
        have HRD := hide hrd
        clear s1 s2 s3 s4 f3 f4 herr h hx hrd hbl f1 f2
        generalize decR (longR l G (k + 1, 0) x) = R at *
        generalize joinF 0 ((l.drop (k + 1)).take 4) = ver at *
        go_enter Try.func41, Try.ntmps41
        go_wp2_with fail
        generalize (((w.alloc (.cells #[.int .i64 G.1, .int .i64 G.2.1, .int .i64 G.2.2] 46)).alloc (.cells (pcs 0 nilV nilV 0 (widF x) nilV) 24)).alloc (.cells (pcs 0 nilV nilV 0 0 nilV) 24)) = W0 at *
        refine (hb5 _).mono ?_
        rintro e W1 ⟨rfl, hw1⟩
        subst hw1
        go_wp2_with fail
        refine (hb6 _).mono ?_
        rintro e W2 ⟨rfl, hw2⟩
        subst hw2
        go_wp2_with fail
        refine (unhide HRD _ S0.gr).mono ?_
        rintro e W3 ⟨rfl, hw3⟩
        subst hw3
        obtain ⟨r0, r1, r2, r3, r4, r5, tR⟩ := S0.rz
        have X := hide (S0.err (unhide HE))
        clear S0 HE HRD
        go_wp2_with fail
        refine bodyPost_ret (results_ctu rfl _ _ (w.heap.size + 1 + 1) _ _ rfl (unhide X).1 Try.underlying24 rfl Try.sizeP) rfl ?_
        exact (unhide X).2
      · have s3 : (sL3 l (k + 1, 0) x).2 = 52 := by unfold sL3; rw [s2]; unfold rMust; rw [if_pos ⟨decide_eq_false f3, rfl⟩]
        have HE := hide (decR_no (P := longR l G (k + 1, 0) x) (y := 52) (by rw [dead3 (by rw [s3]; decide)]; exact s3) (by decide))
        have t1 : (joinF 0 ((l.drop (k + 1)).take 4) != 1) = true := by simpa using f3
        have HRD := hide hrd
        clear s1 s2 s3 f3 herr h hx hrd hbl f1 f2
        generalize decR (longR l G (k + 1, 0) x) = R at *
        generalize joinF 0 ((l.drop (k + 1)).take 4) = ver at *
        go_enter Try.func41, Try.ntmps41
        go_wp2_with fail
        generalize (((w.alloc (.cells #[.int .i64 G.1, .int .i64 G.2.1, .int .i64 G.2.2] 46)).alloc (.cells (pcs 0 nilV nilV 0 (widF x) nilV) 24)).alloc (.cells (pcs 0 nilV nilV 0 0 nilV) 24)) = W0 at *
        refine (hb5 _).mono ?_
        rintro e W1 ⟨rfl, hw1⟩
        subst hw1
        go_wp2_with fail
        refine (hb6 _).mono ?_
        rintro e W2 ⟨rfl, hw2⟩
        subst hw2
        go_wp2_with fail
        refine (unhide HRD _ S0.gr).mono ?_
        rintro e W3 ⟨rfl, hw3⟩
        subst hw3
        obtain ⟨r0, r1, r2, r3, r4, r5, tR⟩ := S0.rz
        have X := hide (S0.err (unhide HE))
        clear S0 HE HRD
        go_wp2_with fail
        refine bodyPost_ret (results_ctu rfl _ _ (w.heap.size + 1 + 1) _ _ rfl (unhide X).1 Try.underlying24 rfl Try.sizeP) rfl ?_
        exact (unhide X).2
    · have s2 : (sL2 l (k + 1, 0) x).2.2 = 50 := by
        unfold sL2; rw [s1]
        unfold rPlain rRead
        rw [if_pos rfl, readF_short l _ 4 (by simp only; omega) (by simp only; omega)]
        rfl
      have HE := hide (decR_no (P := longR l G (k + 1, 0) x) (y := 50) (by rw [dead2 (by rw [s2]; decide)]; exact s2) (by decide))
      rw [readF_short l _ 4 (by omega) (by omega)] at hrd
      have HRD := hide hrd
      clear s1 s2 herr h hx hrd hbl f1 f2
      generalize decR (longR l G (k + 1, 0) x) = R at *
      go_enter Try.func41, Try.ntmps41
      go_wp2_with fail
      generalize (((w.alloc (.cells #[.int .i64 G.1, .int .i64 G.2.1, .int .i64 G.2.2] 46)).alloc (.cells (pcs 0 nilV nilV 0 (widF x) nilV) 24)).alloc (.cells (pcs 0 nilV nilV 0 0 nilV) 24)) = W0 at *
      refine (hb5 _).mono ?_
      rintro e W1 ⟨rfl, hw1⟩
      subst hw1
      go_wp2_with fail
      refine (hb6 _).mono ?_
      rintro e W2 ⟨rfl, hw2⟩
      subst hw2
      go_wp2_with fail
      refine (unhide HRD _ S0.gr).mono ?_
      rintro e W3 ⟨rfl, hw3⟩
      subst hw3
      obtain ⟨r0, r1, r2, r3, r4, r5, tR⟩ := S0.rz
      have X := hide (S0.err (unhide HE))
      clear S0 HE HRD
      go_wp2_with fail
      refine bodyPost_ret (results_ctu rfl _ _ (w.heap.size + 1 + 1) _ _ rfl (unhide X).1 Try.underlying24 rfl Try.sizeP) rfl ?_
      exact (unhide X).2
  · have hbl : bitL x = false := decide_eq_false (fun hh => f1 hh.2)
    have s1 : (sL1 (k + 1, 0) x).2 = 51 := by unfold sL1; rw [hbl]; unfold rMust; rw [if_pos ⟨rfl, rfl⟩]
    have HE := hide (decR_no (P := longR l G (k + 1, 0) x) (y := 51) (by rw [dead1 (by rw [s1]; decide)]; exact s1) (by decide))
    generalize decR (longR l G (k + 1, 0) x) = R at *
    rcases bits_some x hb f1 with v5 | ⟨v5, v6⟩
    · rw [v5] at hb5
      clear s1 herr h hx hbl f1
      go_enter Try.func41, Try.ntmps41
      go_wp2_with fail
      generalize (((w.alloc (.cells #[.int .i64 G.1, .int .i64 G.2.1, .int .i64 G.2.2] 46)).alloc (.cells (pcs 0 nilV nilV 0 (widF x) nilV) 24)).alloc (.cells (pcs 0 nilV nilV 0 0 nilV) 24)) = W0 at *
      refine (hb5 _).mono ?_
      rintro e W1 ⟨rfl, hw1⟩
      subst hw1
      go_wp2_with fail
      refine (hb6 _).mono ?_
      rintro e W2 ⟨rfl, hw2⟩
      subst hw2
      obtain ⟨r0, r1, r2, r3, r4, r5, tR⟩ := S0.rz
      have X := hide (S0.err (unhide HE))
      clear S0 HE 
      go_wp2_with fail
      refine bodyPost_ret (results_ctu rfl _ _ (w.heap.size + 1 + 1) _ _ rfl (unhide X).1 Try.underlying24 rfl Try.sizeP) rfl ?_
      exact (unhide X).2
    · rw [v5] at hb5
      rw [v6] at hb6
      clear s1 herr h hx hbl f1
      go_enter Try.func41, Try.ntmps41
      go_wp2_with fail
      generalize (((w.alloc (.cells #[.int .i64 G.1, .int .i64 G.2.1, .int .i64 G.2.2] 46)).alloc (.cells (pcs 0 nilV nilV 0 (widF x) nilV) 24)).alloc (.cells (pcs 0 nilV nilV 0 0 nilV) 24)) = W0 at *
      refine (hb5 _).mono ?_
      rintro e W1 ⟨rfl, hw1⟩
      subst hw1
      go_wp2_with fail
      refine (hb6 _).mono ?_
      rintro e W2 ⟨rfl, hw2⟩
      subst hw2
      obtain ⟨r0, r1, r2, r3, r4, r5, tR⟩ := S0.rz
      have X := hide (S0.err (unhide HE))
      clear S0 HE 
      go_wp2_with fail
      refine bodyPost_ret (results_ctu rfl _ _ (w.heap.size + 1 + 1) _ _ rfl (unhide X).1 Try.underlying24 rfl Try.sizeP) rfl ?_
      exact (unhide X).2
end Go.Proofs.Ytdmjejfnohhpiaa

namespace Go.Proofs.Ytdmjejfnohhpiaa
open Go.RowKit
set_option linter.unusedVariables false
set_option maxRecDepth 100000
set_option maxHeartbeats 4000000

theorem longer_1 (g c : Nat) (l : List Int) (k : Nat) (G : Lg) (x : Int) (w : World) (h : InL w g c l) (hl : l.length ≤ 140737488351232) (hG : okG G) (hk : k < l.length) (hx : l.getD k 0 = x) (hb : IsB x) (b64 : x / 64 % 2 = 1)
    (f1 : x / 4 % 4 = 0) (f2 : k + 5 ≤ l.length) (f3 : joinF 0 ((l.drop (k + 1)).take 4) = 1) (f4 : x / 16 % 4 = 2) :
    Calls Try.prog 41 #[.slice (some ⟨g, 0, none⟩) l.length c, .int .i64 k, G.v, .agg (pcs 0 nilV nilV 0 (widF x) nilV)] w (DecPost w (decR (longR l G (k + 1, 0) x))) := by
  have hmx := h.max
  have hlt := h.lt
  unfold maxLen at hmx
  have S0 := B3.start w G (pcs 0 nilV nilV 0 (widF x) nilV)
  have hc := cell_grown (h.cell k hk) S0.gr
  rw [hx] at hc
  have hb5 := fun W => bit_any x 3 W hb (by decide)
  have hb6 := fun W => bit_any x 2 W hb (by decide)
  have hib := hb
  unfold IsB at hib
  have kl : (k : Int) < (l.length : Int) := by omega
  have kl0 : k < l.length := hk
  have hbl : bitL x = true := decide_eq_true ⟨b64, f1⟩
  have s1 : sL1 (k + 1, 0) x = (k + 1, 0) := by unfold sL1; rw [hbl, rMust_yes]
  obtain ⟨v5, v6⟩ := bits_not x hb f1
  rw [v5] at hb5
  rw [v6] at hb6
  have w1 : IntKind.i64.wrap ((k : Int) + 1) = (k : Int) + 1 := by rw [IntKind.wrap_i64]; omega
  have hrd : ∀ W, w.grownBy W none → Calls Try.prog 52 #[.slice (some ⟨g, 0, none⟩) l.length c, .int .i64 ((k : Int) + 1), .int .i64 4] W fun e w' => e = .returned (.tuple #[.int .u64 1, .int .i64 ((k + 5 : Nat) : Int), .int .i64 0]) ∧ w' = W := fun W gr => by
    have := rread_any (some ⟨g, 0, none⟩) l c ((k + 1 : Nat) : Int) 4 W (h.grown gr).rd (by unfold maxLen; omega)
    rw [show (4 : Int) = ((4 : Nat) : Int) from rfl, readF_in l (k + 1) 4 (by decide) (by omega), f3] at this
    have e5 : ((k + 1 : Nat) : Int) + ((4 : Nat) : Int) = ((k + 5 : Nat) : Int) := by omega
    rw [e5] at this
    simpa using this
  have s2 : sL2 l (k + 1, 0) x = (1, (k + 5, 0)) := by
    unfold sL2; rw [s1]
    unfold rPlain rRead
    rw [if_pos rfl, show (4 : Int) = ((4 : Nat) : Int) from rfl, readF_in l (k + 1) 4 (by decide) (by omega), f3]
    simp
    omega
  have s3 : sL3 l (k + 1, 0) x = (k + 5, 0) := by unfold sL3; rw [s2]; simp only [decide_true]; rw [rMust_yes]
  have hspc : spcF x = (1, true) := by unfold spcF; rw [if_neg (by rw [f4]; decide), if_pos f4]
  have s4 : sL4 l (k + 1, 0) x = (k + 5, 0) := by unfold sL4; rw [s3, hspc, rMust_yes]
  have hkq : x / 16 % 4 / 2 = 1 := by rw [f4]; decide
  have k1 : (x / 16 % 4 != 0) = true := by rw [f4]; rfl
  have k2 : (x / 16 % 4 != 2) = false := by rw [f4]; rfl
  have hid : ∀ (j : Nat) W, j ≤ l.length → w.grownBy W none → Calls Try.prog 53 #[.slice (some ⟨g, 0, none⟩) l.length c, .int .i64 j] W (IdPost W (idR l j)) := fun j W hj gr => id_any g c l j W (h.grown gr) hl hj
  have hget : ∀ (j : Nat) W, w.grownBy W none → Calls Try.prog 54 #[.slice (some ⟨g, 0, none⟩) l.length c, .int .i64 j] W fun e w' => e = .returned (tup3 (getF l j)) ∧ Below W.heap.size W w' := fun j W gr => rget_any (some ⟨g, 0, none⟩) l c j W (h.grown gr).rd (by unfold maxLen; omega)
  have hwi := widF_in x
  obtain ⟨m, hm⟩ := Int.eq_ofNat_of_zero_le (show 0 ≤ widF x by omega)
  have hwh : ∀ (j n : Nat) (a1 a2 : Option Addr) (n1 n2 c1 c2 : Nat) W, w.grownBy W none → m ≤ n → j + n ≤ l.length → Calls Try.prog 42 #[.slice (some ⟨g, 0, none⟩) l.length c, .int .i64 j, .int .i64 ((j + n : Nat) : Int), G.v, .agg (pcs 1 (.slice a1 n1 c1) (.slice a2 n2 c2) 0 (widF x) nilV)] W (WhPost W 1 (widF x) (wholeV (G.at 1) (joinF 0 ((l.drop j).take m)) (widF x)) ((j + n : Nat) : Int) (.slice a1 n1 c1) (.slice a2 n2 c2) ((l.drop (j + m)).take (j + n - (j + m)))) := fun j n a1 a2 n1 n2 c1 c2 W gr h1 h2 => whole_any g c l j m (j + n) G 1 (widF x) a1 a2 n1 n2 c1 c2 W (h.grown gr) hl hm (by omega) (by decide) hG (by omega) h2
  have hcase := id_cases l (k + 5) f2 h.b
  have HB := hide h.b
  have s5 : sL5 l (k + 1, 0) x = rId l (k + 5, 0) := by unfold sL5; rw [s4]
  have hml : ¬ (9223372036854775807 : Int) < (l.length : Int) := by omega
  have HRD := hide hrd; have HID := hide hid; have HGET := hide hget; have HWH := hide hwh; have HM := hide hm; have HWI := hide hwi; have HSPC := hide hspc
  have S5 := hide s5
  clear f4
  clear hrd hid hget hwh h hx s1 s2 s3 s4 s5 hbl f3 f1 hspc hm hwi hG
  generalize hR : decR (longR l G (k + 1, 0) x) = R
  have HR := hide hR
  clear hR
  go_enter Try.func41, Try.ntmps41
  go_wp2_with fail
  generalize (((w.alloc (.cells #[.int .i64 G.1, .int .i64 G.2.1, .int .i64 G.2.2] 46)).alloc (.cells (pcs 0 nilV nilV 0 (widF x) nilV) 24)).alloc (.cells (pcs 0 nilV nilV 0 0 nilV) 24)) = W0 at *
  refine (hb5 _).mono ?_
  rintro e W1 ⟨rfl, hw1⟩
  subst hw1
  go_wp2_with fail
  refine (hb6 _).mono ?_
  rintro e W2 ⟨rfl, hw2⟩
  subst hw2
  go_wp2_with fail
  refine (unhide HRD _ S0.gr).mono ?_
  rintro e W3 ⟨rfl, hw3⟩
  subst hw3
  have z0 := S0.bP.cell 0 (.int .i64 0) rfl
  have th := S0.bP.thaws
  have S1 := S0.set 0 (.int .i64 1)
  have hidk := unhide HID (k + 5) _ f2 S1.gr
  clear S0 hb5 hb6 HRD
  go_wp2_with fail
  generalize W3.setCell ⟨w.heap.size + 1, 0, none⟩ (.int .i64 1) = U1 at *
  rcases hcase with ⟨y, hy, e1, e2⟩ | ⟨D1, t1, e1, e2, q1, q2, q3, q4⟩
  · have HE := hide ((unhide HR).symm.trans (decR_no (P := longR l G (k + 1, 0) x) (y := y) (by rw [dead5 (by rw [unhide S5, e2]; exact hy), unhide S5]; exact e2) hy))
    rw [e1] at hidk
    have ty : (y != 0) = true := by simpa using hy
    clear z0 th HR S5 e1 e2
    refine hidk.mono ?_
    intro e U2 hq
    obtain ⟨a1, c1, rfl, o1, g1⟩ := hq
    have S2 := S1.grown g1
    clear S1 g1 o1 hidk
    obtain ⟨r0, r1, r2, r3, r4, r5, tR⟩ := S2.rz
    have X := hide (S2.err (unhide HE))
    clear S2 HE 
    go_wp2_with fail
    refine bodyPost_ret (results_ctu rfl _ _ (w.heap.size + 1 + 1) _ _ rfl (unhide X).1 Try.underlying24 rfl Try.sizeP) rfl ?_
    exact (unhide X).2
  · rw [e1] at hidk
    have s5 : sL5 l (k + 1, 0) x = (D1, (t1, 0)) := (unhide S5).trans e2
    have s6 : sL6 l (k + 1, 0) x = rId l (t1, 0) := by unfold sL6; rw [s5]
    have hcase2 := id_cases l t1 q2 (unhide HB)
    have S5 := hide s5; have S6 := hide s6
    have Q := hide (And.intro q1 (And.intro q3 q4))
    clear z0 th e1 e2 s5 s6 q1 q3 q4
    refine hidk.mono ?_
    intro e U2 hq
    obtain ⟨a1, c1, rfl, o1, g1⟩ := hq
    have S2 := S1.grown g1
    have O1 := hide o1
    have hs12 := g1.size
    have hB1 := S1.bR.lt
    have hid2 := unhide HID t1 _ q2 S2.gr
    clear S1 g1 o1 hidk
    generalize hn1 : D1.length = n1 at *
    have HN1 := hide hn1
    clear hn1
    go_wp2_with fail
    rcases hcase2 with ⟨y, hy, e1, e2⟩ | ⟨D2, t2, e1, e2, q1, q3, q4, q5⟩
    · have HE := hide ((unhide HR).symm.trans (decR_no (P := longR l G (k + 1, 0) x) (y := y) (by rw [dead6 (by rw [unhide S6, e2]; exact hy), unhide S6]; exact e2) hy))
      rw [e1] at hid2
      have ty : (y != 0) = true := by simpa using hy
      clear HR S5 S6 e1 e2
      refine hid2.mono ?_
      intro e U3 hq
      obtain ⟨a2, c2, rfl, o2, g2⟩ := hq
      have S3 := S2.grown g2
      clear S2 g2 o2 hid2
      obtain ⟨r0, r1, r2, r3, r4, r5, tR⟩ := S3.rz
      have X := hide (S3.err (unhide HE))
      clear S3 HE 
      go_wp2_with fail
      refine bodyPost_ret (results_ctu rfl _ _ (w.heap.size + 1 + 1) _ _ rfl (unhide X).1 Try.underlying24 rfl Try.sizeP) rfl ?_
      exact (unhide X).2
    · rw [e1] at hid2
      have s6 : sL6 l (k + 1, 0) x = (D2, (t2, 0)) := (unhide S6).trans e2
      have S6 := hide s6
      have Q2 := hide (And.intro q1 (And.intro q4 q5))
      clear e1 e2 s6 q1 q4 q5
      refine hid2.mono ?_
      intro e U3 hq
      obtain ⟨a2, c2, rfl, o2, g2⟩ := hq
      have S3 := S2.grown g2
      have O1b := hide ((unhide O1).far g2 (fun q e => by cases e))
      have O2 := hide o2
      have hs23 := g2.size
      generalize hn2 : D2.length = n2 at *
      have HN2 := hide hn2
      clear S2 o2 hid2 O1 hn2
      have z1 := S3.bP.cell 1 nilV rfl
      have z2 := S3.bP.cell 2 nilV rfl
      have th := S3.bP.thaws
      have S4 := (S3.set 1 (.slice a1 n1 c1)).set 2 (.slice a2 n2 c2)
      have th2 := (S3.set 1 (.slice a1 n1 c1)).bP.thaws
      have z2' := (S3.set 1 (.slice a1 n1 c1)).bP.cell 2 nilV rfl
      have gs := grown_at (grown_at (World.grownBy.refl U3 (some (w.heap.size + 1))) 1 (.slice a1 n1 c1)) 2 (.slice a2 n2 c2)
      have hbq : w.heap.size + 1 < U1.heap.size := by omega
      have O1c := hide ((unhide O1b).far gs (fun q e => by cases e; omega))
      have O2c := hide ((unhide O2).far gs (fun q e => by cases e; omega))
      have x0 := S4.bP.cell 0 (.int .i64 1) rfl
      have hs34 := gs.size
      clear gs S3 O1b O2 g2
      have s7 : sL7 l (k + 1, 0) x = (t2, 0) := by unfold sL7; rw [unhide S6, unhide HSPC]; rfl
      have S7 := hide s7
      clear s7
      go_wp2_with fail
      generalize (U3.setCell ⟨w.heap.size + 1, 1, none⟩ (.slice a1 n1 c1)).setCell ⟨w.heap.size + 1, 2, none⟩ (.slice a2 n2 c2) = U4 at *
      have hf := unhide HGET t2 _ S4.gr
      rcases get_cases l t2 q3 (unhide HB) with ⟨y, hy, e1, e2⟩ | ⟨n, t5, e1, e2, q6, q7, q8⟩
      · have HE := hide ((unhide HR).symm.trans (decR_no (P := longR l G (k + 1, 0) x) (y := 50) (by rw [dead8 (by unfold sL8; rw [unhide S7, e2]; simp)]; unfold sL8; rw [unhide S7, e2]) (by decide)))
        rw [e1] at hf
        have ty : (y != 0) = true := by simpa using hy
        clear e1 e2 HR
        refine hf.mono ?_
        rintro e V1 ⟨rfl, bel⟩
        have SY := S4.grown (below_grown bel)
        clear S4 bel hf
        obtain ⟨r0, r1, r2, r3, r4, r5, tR⟩ := SY.rz
        have X := hide (SY.err (unhide HE))
        clear SY HE O1c O2c
        go_wp2_with fail
        refine bodyPost_ret (results_ctu rfl _ _ (w.heap.size + 1 + 1) _ _ rfl (unhide X).1 Try.underlying24 rfl Try.sizeP) rfl ?_
        exact (unhide X).2
      · rw [e1] at hf
        have h8 : sL8 l (k + 1, 0) x = ((n : Int), (t5, 0)) := by unfold sL8; rw [unhide S7]; exact e2
        have H8 := hide h8
        have Q8 := hide (And.intro q7 q8)
        clear e1 e2 h8
        refine hf.mono ?_
        rintro e V1 ⟨rfl, bel⟩
        have SY := S4.grown (below_grown bel)
        have o1 := (unhide O1c).far (below_grown bel) (fun q e => by cases e)
        have o2 := (unhide O2c).far (below_grown bel) (fun q e => by cases e)
        have hs45 := (below_grown bel).size
        have y4 := SY.bP.cell 4 (.int .i64 (widF x)) rfl
        have O1d := hide o1; have O2d := hide o2
        clear S4 bel hf o1 o2 O1c O2c
        have hwu : IntKind.u64.wrap (widF x) = widF x := by have := unhide HWI; rw [IntKind.wrap_u64]; omega
        have hw1 : IntKind.i64.wrap ((l.length : Int) - (t5 : Int)) = (l.length : Int) - (t5 : Int) := by rw [IntKind.wrap_i64]; omega
        have hw2 : IntKind.u64.wrap ((l.length : Int) - (t5 : Int)) = (l.length : Int) - (t5 : Int) := by rw [IntKind.wrap_u64]; omega
        clear q7 q8
        by_cases d1 : (n : Int) < widF x
        · have HE := hide ((unhide HR).symm.trans (decR_no (P := longR l G (k + 1, 0) x) (y := 54) (by
            have s9 : (sL9 l (k + 1, 0) x).2 = 54 := by unfold sL9; rw [unhide H8]; unfold rMust; rw [if_pos ⟨decide_eq_false (by simp only; omega), rfl⟩]
            rw [dead9 (by rw [s9]; decide)]; exact s9) (by decide)))
          clear HR H8 O1d O2d
          obtain ⟨r0, r1, r2, r3, r4, r5, tR⟩ := SY.rz
          have X := hide (SY.err (unhide HE))
          clear SY HE 
          go_wp2_with fail
          refine bodyPost_ret (results_ctu rfl _ _ (w.heap.size + 1 + 1) _ _ rfl (unhide X).1 Try.underlying24 rfl Try.sizeP) rfl ?_
          exact (unhide X).2
        · by_cases d2 : (l.length : Int) - (t5 : Int) < (n : Int)
          · have HE := hide ((unhide HR).symm.trans (long_short l G (k + 1, 0) x t5 n (unhide H8) (unhide Q8).2 (by omega) d2 q6))
            clear HR H8 O1d O2d
            clear hk f2 hmx hlt kl kl0 w1 hkq q2 q3 hl HID HGET HWH hc Q8
            generalize l.length = ll at *
            generalize (t5 : Int) = T5 at *
            generalize (n : Int) = N5 at *
            obtain ⟨r0, r1, r2, r3, r4, r5, tR⟩ := SY.rz
            have X := hide (SY.err (unhide HE))
            clear SY HE 
            go_wp2_with fail
            refine bodyPost_ret (results_ctu rfl _ _ (w.heap.size + 1 + 1) _ _ rfl (unhide X).1 Try.underlying24 rfl Try.sizeP) rfl ?_
            exact (unhide X).2
          · have hmn : m ≤ n := by have := unhide HM; omega
            have htn : t5 + n ≤ l.length := by have := unhide Q8; omega
            have HE := hide ((unhide HR).symm.trans (long_ok l G (k + 1, 0) x t5 n m (unhide HM) (unhide H8) hmn htn q6))
            have wh := unhide HWH t5 n a1 a2 n1 n2 c1 c2 _ SY.gr hmn htn
            have hwn : IntKind.i64.wrap (n : Int) = (n : Int) := by rw [IntKind.wrap_i64]; omega
            have hw3 : IntKind.i64.wrap ((t5 : Int) + (n : Int)) = ((t5 + n : Nat) : Int) := by rw [IntKind.wrap_i64]; omega
            have y0 := SY.bP.cell 0 (.int .i64 1) rfl
            have y1 := SY.bP.cell 1 (.slice a1 n1 c1) rfl
            have y2 := SY.bP.cell 2 (.slice a2 n2 c2) rfl
            have y3 := SY.bP.cell 3 (.int .i64 0) rfl
            have y5 := SY.bP.cell 5 nilV rfl
            have g0' := SY.bG.cell 0 (.int .i64 G.1) rfl
            have g1' := SY.bG.cell 1 (.int .i64 G.2.1) rfl
            have g2' := SY.bG.cell 2 (.int .i64 G.2.2) rfl
            have SYH := hide SY
            have E5 : Hid ((sL5 l (k + 1, 0) x).1 = D1) := by show _ = _; rw [unhide S5]
            have E6 : Hid ((sL6 l (k + 1, 0) x).1 = D2) := by show _ = _; rw [unhide S6]
            have WHH := hide wh
            clear SY wh HR H8 S5 S6 HWH HID HGET hmn htn
            generalize hPAY : (l.drop (t5 + m)).take (t5 + n - (t5 + m)) = PAY at *
            generalize hNUM : wholeV (G.at 1) (joinF 0 ((l.drop t5).take m)) (widF x) = NUM at *
            have HP := hide hPAY; have HNM := hide hNUM
            clear hPAY hNUM
            generalize hEN : ((t5 + n : Nat) : Int) = EN at *
            have HEN := hide hEN
            clear hEN hk f2 hmx hlt kl kl0 w1 hkq q2 q3 hl hc Q8
            generalize l.length = ll at *
            generalize (t5 : Int) = T5 at *
            generalize (n : Int) = N5 at *
            go_wp2_with fail
            refine (unhide WHH).mono ?_
            intro e V2 hq
            obtain ⟨a3, c3, rfl, o3, g3⟩ := hq
            have SZ := (unhide SYH).grown g3
            obtain ⟨r0, r1, r2, r3, r4, r5, tR⟩ := SZ.rz
            have o1 := (unhide O1d).far g3 (fun q e => by cases e)
            have o2 := (unhide O2d).far g3 (fun q e => by cases e)
            have hV1 := (unhide SYH).bR.lt
            have gg := grown_at (grown_at (grown_at (grown_at (grown_at (grown_at (World.grownBy.refl V2 (some (w.heap.size + 1 + 1))) 0 (.int .i64 1)) 1 (.slice a1 n1 c1)) 2 (.slice a2 n2 c2)) 3 (.int .i64 NUM)) 4 (.int .i64 (widF x))) 5 (.slice a3 PAY.length c3)
            have BR := hide (SZ.bR.set6 (v0 := .int .i64 1) (v1 := .slice a1 n1 c1) (v2 := .slice a2 n2 c2) (v3 := .int .i64 NUM) (v4 := .int .i64 (widF x)) (v5 := .slice a3 PAY.length c3))
            have X : Hid (DecPost w R (.returned (.tuple #[.agg (pcs 1 (.slice a1 n1 c1) (.slice a2 n2 c2) NUM (widF x) (.slice a3 PAY.length c3)), .int .i64 EN, .int .i64 0])) ((((((V2.setCell ⟨w.heap.size + 1 + 1, 0, none⟩ (.int .i64 1)).setCell ⟨w.heap.size + 1 + 1, 1, none⟩ (.slice a1 n1 c1)).setCell ⟨w.heap.size + 1 + 1, 2, none⟩ (.slice a2 n2 c2)).setCell ⟨w.heap.size + 1 + 1, 3, none⟩ (.int .i64 NUM)).setCell ⟨w.heap.size + 1 + 1, 4, none⟩ (.int .i64 (widF x))).setCell ⟨w.heap.size + 1 + 1, 5, none⟩ (.slice a3 PAY.length c3))) := by
              have hh := unhide HE
              rw [unhide E5, unhide E6, unhide HSPC, ← unhide HM, unhide HNM] at hh
              show DecPost w R _ _
              rw [hh]
              exact ⟨_, _, _, rfl, (o1.far gg (fun q e => by cases e; omega)).mono (base' := w.heap.size) (by omega), (o2.far gg (fun q e => by cases e; omega)).mono (base' := w.heap.size) (by omega), (o3.far gg (fun q e => by cases e; omega)).mono (base' := w.heap.size) (by omega), grown_over SZ.gr gg (by omega)⟩
            clear gg o1 o2 o3 SZ SYH O1d O2d g3 HE E5 E6 WHH
            go_wp2_with fail
            refine bodyPost_ret (results_ctu rfl _ _ (w.heap.size + 1 + 1) _ _ rfl (unhide BR) Try.underlying24 rfl Try.sizeP) rfl ?_
            exact unhide X
end Go.Proofs.Ytdmjejfnohhpiaa

namespace Go.Proofs.Ytdmjejfnohhpiaa
open Go.RowKit
set_option linter.unusedVariables false
set_option maxRecDepth 100000
set_option maxHeartbeats 4000000

theorem longer_0 (g c : Nat) (l : List Int) (k : Nat) (G : Lg) (x : Int) (w : World) (h : InL w g c l) (hl : l.length ≤ 140737488351232) (hG : okG G) (hk : k < l.length) (hx : l.getD k 0 = x) (hb : IsB x) (b64 : x / 64 % 2 = 1)
    (f1 : x / 4 % 4 = 0) (f2 : k + 5 ≤ l.length) (f3 : joinF 0 ((l.drop (k + 1)).take 4) = 1) (f4 : x / 16 % 4 = 0) :
    Calls Try.prog 41 #[.slice (some ⟨g, 0, none⟩) l.length c, .int .i64 k, G.v, .agg (pcs 0 nilV nilV 0 (widF x) nilV)] w (DecPost w (decR (longR l G (k + 1, 0) x))) := by
  have hmx := h.max
  have hlt := h.lt
  unfold maxLen at hmx
  have S0 := B3.start w G (pcs 0 nilV nilV 0 (widF x) nilV)
  have hc := cell_grown (h.cell k hk) S0.gr
  rw [hx] at hc
  have hb5 := fun W => bit_any x 3 W hb (by decide)
  have hb6 := fun W => bit_any x 2 W hb (by decide)
  have hib := hb
  unfold IsB at hib
  have kl : (k : Int) < (l.length : Int) := by omega
  have kl0 : k < l.length := hk
  have hbl : bitL x = true := decide_eq_true ⟨b64, f1⟩
  have s1 : sL1 (k + 1, 0) x = (k + 1, 0) := by unfold sL1; rw [hbl, rMust_yes]
  obtain ⟨v5, v6⟩ := bits_not x hb f1
  rw [v5] at hb5
  rw [v6] at hb6
  have w1 : IntKind.i64.wrap ((k : Int) + 1) = (k : Int) + 1 := by rw [IntKind.wrap_i64]; omega
  have hrd : ∀ W, w.grownBy W none → Calls Try.prog 52 #[.slice (some ⟨g, 0, none⟩) l.length c, .int .i64 ((k : Int) + 1), .int .i64 4] W fun e w' => e = .returned (.tuple #[.int .u64 1, .int .i64 ((k + 5 : Nat) : Int), .int .i64 0]) ∧ w' = W := fun W gr => by
    have := rread_any (some ⟨g, 0, none⟩) l c ((k + 1 : Nat) : Int) 4 W (h.grown gr).rd (by unfold maxLen; omega)
    rw [show (4 : Int) = ((4 : Nat) : Int) from rfl, readF_in l (k + 1) 4 (by decide) (by omega), f3] at this
    have e5 : ((k + 1 : Nat) : Int) + ((4 : Nat) : Int) = ((k + 5 : Nat) : Int) := by omega
    rw [e5] at this
    simpa using this
  have s2 : sL2 l (k + 1, 0) x = (1, (k + 5, 0)) := by
    unfold sL2; rw [s1]
    unfold rPlain rRead
    rw [if_pos rfl, show (4 : Int) = ((4 : Nat) : Int) from rfl, readF_in l (k + 1) 4 (by decide) (by omega), f3]
    simp
    omega
  have s3 : sL3 l (k + 1, 0) x = (k + 5, 0) := by unfold sL3; rw [s2]; simp only [decide_true]; rw [rMust_yes]
  have hspc : spcF x = (0, true) := by unfold spcF; rw [if_pos f4]
  have s4 : sL4 l (k + 1, 0) x = (k + 5, 0) := by unfold sL4; rw [s3, hspc, rMust_yes]
  have hkq : x / 16 % 4 / 2 = 0 := by rw [f4]; decide
  have k1 : (x / 16 % 4 != 0) = false := by rw [f4]; rfl
  have hid : ∀ (j : Nat) W, j ≤ l.length → w.grownBy W none → Calls Try.prog 53 #[.slice (some ⟨g, 0, none⟩) l.length c, .int .i64 j] W (IdPost W (idR l j)) := fun j W hj gr => id_any g c l j W (h.grown gr) hl hj
  have hget : ∀ (j : Nat) W, w.grownBy W none → Calls Try.prog 54 #[.slice (some ⟨g, 0, none⟩) l.length c, .int .i64 j] W fun e w' => e = .returned (tup3 (getF l j)) ∧ Below W.heap.size W w' := fun j W gr => rget_any (some ⟨g, 0, none⟩) l c j W (h.grown gr).rd (by unfold maxLen; omega)
  have hwi := widF_in x
  obtain ⟨m, hm⟩ := Int.eq_ofNat_of_zero_le (show 0 ≤ widF x by omega)
  have hwh : ∀ (j n : Nat) (a1 a2 : Option Addr) (n1 n2 c1 c2 : Nat) W, w.grownBy W none → m ≤ n → j + n ≤ l.length → Calls Try.prog 42 #[.slice (some ⟨g, 0, none⟩) l.length c, .int .i64 j, .int .i64 ((j + n : Nat) : Int), G.v, .agg (pcs 0 (.slice a1 n1 c1) (.slice a2 n2 c2) 0 (widF x) nilV)] W (WhPost W 0 (widF x) (wholeV (G.at 0) (joinF 0 ((l.drop j).take m)) (widF x)) ((j + n : Nat) : Int) (.slice a1 n1 c1) (.slice a2 n2 c2) ((l.drop (j + m)).take (j + n - (j + m)))) := fun j n a1 a2 n1 n2 c1 c2 W gr h1 h2 => whole_any g c l j m (j + n) G 0 (widF x) a1 a2 n1 n2 c1 c2 W (h.grown gr) hl hm (by omega) (by decide) hG (by omega) h2
  have hcase := id_cases l (k + 5) f2 h.b
  have HB := hide h.b
  have s5 : sL5 l (k + 1, 0) x = rId l (k + 5, 0) := by unfold sL5; rw [s4]
  have hml : ¬ (9223372036854775807 : Int) < (l.length : Int) := by omega
  have HRD := hide hrd; have HID := hide hid; have HGET := hide hget; have HWH := hide hwh; have HM := hide hm; have HWI := hide hwi; have HSPC := hide hspc
  have S5 := hide s5
  clear f4
  clear hrd hid hget hwh h hx s1 s2 s3 s4 s5 hbl f3 f1 hspc hm hwi hG
  generalize hR : decR (longR l G (k + 1, 0) x) = R
  have HR := hide hR
  clear hR
  go_enter Try.func41, Try.ntmps41
  go_wp2_with fail
  generalize (((w.alloc (.cells #[.int .i64 G.1, .int .i64 G.2.1, .int .i64 G.2.2] 46)).alloc (.cells (pcs 0 nilV nilV 0 (widF x) nilV) 24)).alloc (.cells (pcs 0 nilV nilV 0 0 nilV) 24)) = W0 at *
  refine (hb5 _).mono ?_
  rintro e W1 ⟨rfl, hw1⟩
  subst hw1
  go_wp2_with fail
  refine (hb6 _).mono ?_
  rintro e W2 ⟨rfl, hw2⟩
  subst hw2
  go_wp2_with fail
  refine (unhide HRD _ S0.gr).mono ?_
  rintro e W3 ⟨rfl, hw3⟩
  subst hw3
  have z0 := S0.bP.cell 0 (.int .i64 0) rfl
  have th := S0.bP.thaws
  have S1 := S0.set 0 (.int .i64 0)
  have hidk := unhide HID (k + 5) _ f2 S1.gr
  clear S0 hb5 hb6 HRD
  go_wp2_with fail
  generalize W3.setCell ⟨w.heap.size + 1, 0, none⟩ (.int .i64 0) = U1 at *
  rcases hcase with ⟨y, hy, e1, e2⟩ | ⟨D1, t1, e1, e2, q1, q2, q3, q4⟩
  · have HE := hide ((unhide HR).symm.trans (decR_no (P := longR l G (k + 1, 0) x) (y := y) (by rw [dead5 (by rw [unhide S5, e2]; exact hy), unhide S5]; exact e2) hy))
    rw [e1] at hidk
    have ty : (y != 0) = true := by simpa using hy
    clear z0 th HR S5 e1 e2
    refine hidk.mono ?_
    intro e U2 hq
    obtain ⟨a1, c1, rfl, o1, g1⟩ := hq
    have S2 := S1.grown g1
    clear S1 g1 o1 hidk
    obtain ⟨r0, r1, r2, r3, r4, r5, tR⟩ := S2.rz
    have X := hide (S2.err (unhide HE))
    clear S2 HE 
    go_wp2_with fail
    refine bodyPost_ret (results_ctu rfl _ _ (w.heap.size + 1 + 1) _ _ rfl (unhide X).1 Try.underlying24 rfl Try.sizeP) rfl ?_
    exact (unhide X).2
  · rw [e1] at hidk
    have s5 : sL5 l (k + 1, 0) x = (D1, (t1, 0)) := (unhide S5).trans e2
    have s6 : sL6 l (k + 1, 0) x = rId l (t1, 0) := by unfold sL6; rw [s5]
    have hcase2 := id_cases l t1 q2 (unhide HB)
    have S5 := hide s5; have S6 := hide s6
    have Q := hide (And.intro q1 (And.intro q3 q4))
    clear z0 th e1 e2 s5 s6 q1 q3 q4
    refine hidk.mono ?_
    intro e U2 hq
    obtain ⟨a1, c1, rfl, o1, g1⟩ := hq
    have S2 := S1.grown g1
    have O1 := hide o1
    have hs12 := g1.size
    have hB1 := S1.bR.lt
    have hid2 := unhide HID t1 _ q2 S2.gr
    clear S1 g1 o1 hidk
    generalize hn1 : D1.length = n1 at *
    have HN1 := hide hn1
    clear hn1
    go_wp2_with fail
    rcases hcase2 with ⟨y, hy, e1, e2⟩ | ⟨D2, t2, e1, e2, q1, q3, q4, q5⟩
    · have HE := hide ((unhide HR).symm.trans (decR_no (P := longR l G (k + 1, 0) x) (y := y) (by rw [dead6 (by rw [unhide S6, e2]; exact hy), unhide S6]; exact e2) hy))
      rw [e1] at hid2
      have ty : (y != 0) = true := by simpa using hy
      clear HR S5 S6 e1 e2
      refine hid2.mono ?_
      intro e U3 hq
      obtain ⟨a2, c2, rfl, o2, g2⟩ := hq
      have S3 := S2.grown g2
      clear S2 g2 o2 hid2
      obtain ⟨r0, r1, r2, r3, r4, r5, tR⟩ := S3.rz
      have X := hide (S3.err (unhide HE))
      clear S3 HE 
      go_wp2_with fail
      refine bodyPost_ret (results_ctu rfl _ _ (w.heap.size + 1 + 1) _ _ rfl (unhide X).1 Try.underlying24 rfl Try.sizeP) rfl ?_
      exact (unhide X).2
    · rw [e1] at hid2
      have s6 : sL6 l (k + 1, 0) x = (D2, (t2, 0)) := (unhide S6).trans e2
      have S6 := hide s6
      have Q2 := hide (And.intro q1 (And.intro q4 q5))
      clear e1 e2 s6 q1 q4 q5
      refine hid2.mono ?_
      intro e U3 hq
      obtain ⟨a2, c2, rfl, o2, g2⟩ := hq
      have S3 := S2.grown g2
      have O1b := hide ((unhide O1).far g2 (fun q e => by cases e))
      have O2 := hide o2
      have hs23 := g2.size
      generalize hn2 : D2.length = n2 at *
      have HN2 := hide hn2
      clear S2 o2 hid2 O1 hn2
      have z1 := S3.bP.cell 1 nilV rfl
      have z2 := S3.bP.cell 2 nilV rfl
      have th := S3.bP.thaws
      have S4 := (S3.set 1 (.slice a1 n1 c1)).set 2 (.slice a2 n2 c2)
      have th2 := (S3.set 1 (.slice a1 n1 c1)).bP.thaws
      have z2' := (S3.set 1 (.slice a1 n1 c1)).bP.cell 2 nilV rfl
      have gs := grown_at (grown_at (World.grownBy.refl U3 (some (w.heap.size + 1))) 1 (.slice a1 n1 c1)) 2 (.slice a2 n2 c2)
      have hbq : w.heap.size + 1 < U1.heap.size := by omega
      have O1c := hide ((unhide O1b).far gs (fun q e => by cases e; omega))
      have O2c := hide ((unhide O2).far gs (fun q e => by cases e; omega))
      have x0 := S4.bP.cell 0 (.int .i64 0) rfl
      have hs34 := gs.size
      clear gs S3 O1b O2 g2
      have hg := unhide HGET t2 _ S4.gr
      go_wp2_with fail
      generalize (U3.setCell ⟨w.heap.size + 1, 1, none⟩ (.slice a1 n1 c1)).setCell ⟨w.heap.size + 1, 2, none⟩ (.slice a2 n2 c2) = U4 at *
      rcases get_cases l t2 q3 (unhide HB) with ⟨y, hy, e1, e2⟩ | ⟨v, t3, e1, e2, p1, p2, p3⟩
      · have HE := hide ((unhide HR).symm.trans (decR_no (P := longR l G (k + 1, 0) x) (y := 50) (by
          have s7 : sL7 l (k + 1, 0) x = (t2, 50) := by unfold sL7 sT; rw [unhide S6, unhide HSPC]; rw [if_pos rfl, e2]; exact rPass_no (by simp)
          rw [dead7 (by rw [s7]; simp), s7]) (by decide)))
        rw [e1] at hg
        have ty : (y != 0) = true := by simpa using hy
        clear e1 e2 HR
        refine hg.mono ?_
        rintro e V0 ⟨rfl, bel⟩
        have S5' := S4.grown (below_grown bel)
        clear S4 bel hg
        obtain ⟨r0, r1, r2, r3, r4, r5, tR⟩ := S5'.rz
        have X := hide (S5'.err (unhide HE))
        clear S5' HE O1c O2c
        go_wp2_with fail
        refine bodyPost_ret (results_ctu rfl _ _ (w.heap.size + 1 + 1) _ _ rfl (unhide X).1 Try.underlying24 rfl Try.sizeP) rfl ?_
        exact (unhide X).2
      · rw [e1] at hg
        have hw1 : IntKind.i64.wrap ((l.length : Int) - (t3 : Int)) = (l.length : Int) - (t3 : Int) := by rw [IntKind.wrap_i64]; omega
        have hw2 : IntKind.u64.wrap ((l.length : Int) - (t3 : Int)) = (l.length : Int) - (t3 : Int) := by rw [IntKind.wrap_u64]; omega
        have P3 := hide (And.intro p2 p3)
        clear p2 p3
        by_cases d0 : (l.length : Int) - (t3 : Int) < (v : Int)
        · have HE := hide ((unhide HR).symm.trans (decR_no (P := longR l G (k + 1, 0) x) (y := 50) (by
            have s7 : sL7 l (k + 1, 0) x = (t3, 50) := by unfold sL7 sT; rw [unhide S6, unhide HSPC]; rw [if_pos rfl, e2]; unfold rPass; rw [if_pos rfl, if_neg (by simp only; omega)]
            rw [dead7 (by rw [s7]; simp), s7]) (by decide)))
          clear e1 e2 HR hk f2 hmx hlt kl kl0 w1 hkq q2 q3 hl HID HGET HWH hc P3
          generalize l.length = ll at *
          generalize (t3 : Int) = T3 at *
          generalize (v : Int) = V3 at *
          refine hg.mono ?_
          rintro e V0 ⟨rfl, bel⟩
          have S5' := S4.grown (below_grown bel)
          clear S4 bel hg
          obtain ⟨r0, r1, r2, r3, r4, r5, tR⟩ := S5'.rz
          have X := hide (S5'.err (unhide HE))
          clear S5' HE O1c O2c
          go_wp2_with fail
          refine bodyPost_ret (results_ctu rfl _ _ (w.heap.size + 1 + 1) _ _ rfl (unhide X).1 Try.underlying24 rfl Try.sizeP) rfl ?_
          exact (unhide X).2
        · obtain ⟨t4, ht4⟩ : ∃ t4 : Nat, t4 = t3 + v := ⟨_, rfl⟩
          have s7 : sL7 l (k + 1, 0) x = (t4, 0) := by unfold sL7 sT; rw [unhide S6, unhide HSPC]; rw [if_pos rfl, e2]; simp only; rw [pass_at (by have := unhide P3; omega), ht4]
          have S7 := hide s7
          have qT : t4 ≤ l.length := by have := unhide P3; omega
          have QT := hide qT
          have hwv : IntKind.i64.wrap (v : Int) = (v : Int) := by rw [IntKind.wrap_i64]; have := unhide P3; omega
          have hw3 : IntKind.i64.wrap ((t3 : Int) + (v : Int)) = (t4 : Int) := by rw [IntKind.wrap_i64]; omega
          clear e1 e2 s7 qT
          refine hg.mono ?_
          rintro e V0 ⟨rfl, bel⟩
          have S5' := S4.grown (below_grown bel)
          have O1e := hide ((unhide O1c).far (below_grown bel) (fun q e => by cases e))
          have O2e := hide ((unhide O2c).far (below_grown bel) (fun q e => by cases e))
          have hs4e := (below_grown bel).size
          clear S4 bel hg O1c O2c ht4
          have Q3 := hide q3
          have HLL := hide hl
          clear q3 P3
          generalize (t3 : Int) = T3 at *
          generalize (v : Int) = V3 at *
          generalize hLL : l.length = ll at *
          go_wp2_with fail
          subst hLL
          have q3 := unhide Q3
          clear hw1 hw2 hw3 hwv
          have hf := unhide HGET t4 _ S5'.gr
          rcases get_cases l t4 (unhide QT) (unhide HB) with ⟨y, hy, e1, e2⟩ | ⟨n, t5, e1, e2, q6, q7, q8⟩
          · have HE := hide ((unhide HR).symm.trans (decR_no (P := longR l G (k + 1, 0) x) (y := 50) (by rw [dead8 (by unfold sL8; rw [unhide S7, e2]; simp)]; unfold sL8; rw [unhide S7, e2]) (by decide)))
            rw [e1] at hf
            have ty : (y != 0) = true := by simpa using hy
            clear e1 e2 HR
            refine hf.mono ?_
            rintro e V1 ⟨rfl, bel⟩
            have SY := S5'.grown (below_grown bel)
            clear S5' bel hf
            obtain ⟨r0, r1, r2, r3, r4, r5, tR⟩ := SY.rz
            have X := hide (SY.err (unhide HE))
            clear SY HE O1e O2e
            go_wp2_with fail
            refine bodyPost_ret (results_ctu rfl _ _ (w.heap.size + 1 + 1) _ _ rfl (unhide X).1 Try.underlying24 rfl Try.sizeP) rfl ?_
            exact (unhide X).2
          · rw [e1] at hf
            have h8 : sL8 l (k + 1, 0) x = ((n : Int), (t5, 0)) := by unfold sL8; rw [unhide S7]; exact e2
            have H8 := hide h8
            have Q8 := hide (And.intro q7 q8)
            clear e1 e2 h8
            refine hf.mono ?_
            rintro e V1 ⟨rfl, bel⟩
            have SY := S5'.grown (below_grown bel)
            have o1 := (unhide O1e).far (below_grown bel) (fun q e => by cases e)
            have o2 := (unhide O2e).far (below_grown bel) (fun q e => by cases e)
            have hs45 := (below_grown bel).size
            have y4 := SY.bP.cell 4 (.int .i64 (widF x)) rfl
            have O1d := hide o1; have O2d := hide o2
            clear S5' bel hf o1 o2 O1e O2e
            have hwu : IntKind.u64.wrap (widF x) = widF x := by have := unhide HWI; rw [IntKind.wrap_u64]; omega
            have hw1 : IntKind.i64.wrap ((l.length : Int) - (t5 : Int)) = (l.length : Int) - (t5 : Int) := by rw [IntKind.wrap_i64]; omega
            have hw2 : IntKind.u64.wrap ((l.length : Int) - (t5 : Int)) = (l.length : Int) - (t5 : Int) := by rw [IntKind.wrap_u64]; omega
            clear q7 q8
            by_cases d1 : (n : Int) < widF x
            · have HE := hide ((unhide HR).symm.trans (decR_no (P := longR l G (k + 1, 0) x) (y := 54) (by
                have s9 : (sL9 l (k + 1, 0) x).2 = 54 := by unfold sL9; rw [unhide H8]; unfold rMust; rw [if_pos ⟨decide_eq_false (by simp only; omega), rfl⟩]
                rw [dead9 (by rw [s9]; decide)]; exact s9) (by decide)))
              clear HR H8 O1d O2d
              obtain ⟨r0, r1, r2, r3, r4, r5, tR⟩ := SY.rz
              have X := hide (SY.err (unhide HE))
              clear SY HE 
              go_wp2_with fail
              refine bodyPost_ret (results_ctu rfl _ _ (w.heap.size + 1 + 1) _ _ rfl (unhide X).1 Try.underlying24 rfl Try.sizeP) rfl ?_
              exact (unhide X).2
            · by_cases d2 : (l.length : Int) - (t5 : Int) < (n : Int)
              · have HE := hide ((unhide HR).symm.trans (long_short l G (k + 1, 0) x t5 n (unhide H8) (unhide Q8).2 (by omega) d2 q6))
                clear HR H8 O1d O2d
                clear hk f2 hmx hlt kl kl0 w1 hkq q2 q3 hl HID HGET HWH hc Q8
                generalize l.length = ll at *
                generalize (t5 : Int) = T5 at *
                generalize (n : Int) = N5 at *
                obtain ⟨r0, r1, r2, r3, r4, r5, tR⟩ := SY.rz
                have X := hide (SY.err (unhide HE))
                clear SY HE 
                go_wp2_with fail
                refine bodyPost_ret (results_ctu rfl _ _ (w.heap.size + 1 + 1) _ _ rfl (unhide X).1 Try.underlying24 rfl Try.sizeP) rfl ?_
                exact (unhide X).2
              · have hmn : m ≤ n := by have := unhide HM; omega
                have htn : t5 + n ≤ l.length := by have := unhide Q8; omega
                have HE := hide ((unhide HR).symm.trans (long_ok l G (k + 1, 0) x t5 n m (unhide HM) (unhide H8) hmn htn q6))
                have wh := unhide HWH t5 n a1 a2 n1 n2 c1 c2 _ SY.gr hmn htn
                have hwn : IntKind.i64.wrap (n : Int) = (n : Int) := by rw [IntKind.wrap_i64]; omega
                have hw3 : IntKind.i64.wrap ((t5 : Int) + (n : Int)) = ((t5 + n : Nat) : Int) := by rw [IntKind.wrap_i64]; omega
                have y0 := SY.bP.cell 0 (.int .i64 0) rfl
                have y1 := SY.bP.cell 1 (.slice a1 n1 c1) rfl
                have y2 := SY.bP.cell 2 (.slice a2 n2 c2) rfl
                have y3 := SY.bP.cell 3 (.int .i64 0) rfl
                have y5 := SY.bP.cell 5 nilV rfl
                have g0' := SY.bG.cell 0 (.int .i64 G.1) rfl
                have g1' := SY.bG.cell 1 (.int .i64 G.2.1) rfl
                have g2' := SY.bG.cell 2 (.int .i64 G.2.2) rfl
                have SYH := hide SY
                have E5 : Hid ((sL5 l (k + 1, 0) x).1 = D1) := by show _ = _; rw [unhide S5]
                have E6 : Hid ((sL6 l (k + 1, 0) x).1 = D2) := by show _ = _; rw [unhide S6]
                have WHH := hide wh
                clear SY wh HR H8 S5 S6 HWH HID HGET hmn htn
                generalize hPAY : (l.drop (t5 + m)).take (t5 + n - (t5 + m)) = PAY at *
                generalize hNUM : wholeV (G.at 0) (joinF 0 ((l.drop t5).take m)) (widF x) = NUM at *
                have HP := hide hPAY; have HNM := hide hNUM
                clear hPAY hNUM
                generalize hEN : ((t5 + n : Nat) : Int) = EN at *
                have HEN := hide hEN
                clear hEN hk f2 hmx hlt kl kl0 w1 hkq q2 q3 hl hc Q8
                generalize l.length = ll at *
                generalize (t5 : Int) = T5 at *
                generalize (n : Int) = N5 at *
                go_wp2_with fail
                refine (unhide WHH).mono ?_
                intro e V2 hq
                obtain ⟨a3, c3, rfl, o3, g3⟩ := hq
                have SZ := (unhide SYH).grown g3
                obtain ⟨r0, r1, r2, r3, r4, r5, tR⟩ := SZ.rz
                have o1 := (unhide O1d).far g3 (fun q e => by cases e)
                have o2 := (unhide O2d).far g3 (fun q e => by cases e)
                have hV1 := (unhide SYH).bR.lt
                have gg := grown_at (grown_at (grown_at (grown_at (grown_at (grown_at (World.grownBy.refl V2 (some (w.heap.size + 1 + 1))) 0 (.int .i64 0)) 1 (.slice a1 n1 c1)) 2 (.slice a2 n2 c2)) 3 (.int .i64 NUM)) 4 (.int .i64 (widF x))) 5 (.slice a3 PAY.length c3)
                have BR := hide (SZ.bR.set6 (v0 := .int .i64 0) (v1 := .slice a1 n1 c1) (v2 := .slice a2 n2 c2) (v3 := .int .i64 NUM) (v4 := .int .i64 (widF x)) (v5 := .slice a3 PAY.length c3))
                have X : Hid (DecPost w R (.returned (.tuple #[.agg (pcs 0 (.slice a1 n1 c1) (.slice a2 n2 c2) NUM (widF x) (.slice a3 PAY.length c3)), .int .i64 EN, .int .i64 0])) ((((((V2.setCell ⟨w.heap.size + 1 + 1, 0, none⟩ (.int .i64 0)).setCell ⟨w.heap.size + 1 + 1, 1, none⟩ (.slice a1 n1 c1)).setCell ⟨w.heap.size + 1 + 1, 2, none⟩ (.slice a2 n2 c2)).setCell ⟨w.heap.size + 1 + 1, 3, none⟩ (.int .i64 NUM)).setCell ⟨w.heap.size + 1 + 1, 4, none⟩ (.int .i64 (widF x))).setCell ⟨w.heap.size + 1 + 1, 5, none⟩ (.slice a3 PAY.length c3))) := by
                  have hh := unhide HE
                  rw [unhide E5, unhide E6, unhide HSPC, ← unhide HM, unhide HNM] at hh
                  show DecPost w R _ _
                  rw [hh]
                  exact ⟨_, _, _, rfl, (o1.far gg (fun q e => by cases e; omega)).mono (base' := w.heap.size) (by omega), (o2.far gg (fun q e => by cases e; omega)).mono (base' := w.heap.size) (by omega), (o3.far gg (fun q e => by cases e; omega)).mono (base' := w.heap.size) (by omega), grown_over SZ.gr gg (by omega)⟩
                clear gg o1 o2 o3 SZ SYH O1d O2d g3 HE E5 E6 WHH
                go_wp2_with fail
                refine bodyPost_ret (results_ctu rfl _ _ (w.heap.size + 1 + 1) _ _ rfl (unhide BR) Try.underlying24 rfl Try.sizeP) rfl ?_
                exact unhide X
end Go.Proofs.Ytdmjejfnohhpiaa
