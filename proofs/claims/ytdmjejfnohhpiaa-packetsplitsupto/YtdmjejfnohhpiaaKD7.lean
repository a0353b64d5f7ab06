/- KD7, KD8, one text. -/
import Derived.Test.YtdmjejfnohhpiaaKD4
import Derived.Deep.DeepCutAuto
namespace Go.Proofs.Ytdmjejfnohhpiaa
open Go.RowKit
set_option linter.unusedVariables false
set_option maxRecDepth 100000
set_option maxHeartbeats 4000000

structure D2 (w W : World) (G : Lg) : Prop where
  bG : Blk W w.heap.size #[.int .i64 G.1, .int .i64 G.2.1, .int .i64 G.2.2] 46
  bR : Blk W (w.heap.size + 1) (pcs 0 nilV nilV 0 0 nilV) 24
  gr : w.grownBy W none
theorem D2.start (w : World) (G : Lg) : D2 w ((w.alloc (.cells #[.int .i64 G.1, .int .i64 G.2.1, .int .i64 G.2.2] 46)).alloc (.cells (pcs 0 nilV nilV 0 0 nilV) 24)) G := by
  obtain ⟨b0, bR, g1⟩ := Blk.two w #[.int .i64 G.1, .int .i64 G.2.1, .int .i64 G.2.2] (pcs 0 nilV nilV 0 0 nilV) 46 24
  exact ⟨b0, bR, g1⟩
theorem D2.grown {w W W' : World} {G : Lg} (h : D2 w W G) (g : W.grownBy W' none) : D2 w W' G := ⟨h.bG.grown g, h.bR.grown g, h.gr.trans g⟩
theorem D2.setO {w W : World} {G : Lg} (h : D2 w W G) (g j : Nat) (v : Value) (hg : w.heap.size + 1 < g) : D2 w (W.setCell ⟨g, j, none⟩ v) G :=
  ⟨h.bG.setO _ j v (by omega), h.bR.setO _ j v (by omega), grown_set h.gr _ j v (by omega)⟩
section
variable {w W : World} {G : Lg}
theorem D2.rz (S : D2 w W G) : W.cell? ⟨w.heap.size + 1, 0, none⟩ = some (.int .i64 0) ∧ W.cell? ⟨w.heap.size + 1, 1, none⟩ = some nilV ∧ W.cell? ⟨w.heap.size + 1, 2, none⟩ = some nilV ∧ W.cell? ⟨w.heap.size + 1, 3, none⟩ = some (.int .i64 0) ∧ W.cell? ⟨w.heap.size + 1, 4, none⟩ = some (.int .i64 0) ∧ W.cell? ⟨w.heap.size + 1, 5, none⟩ = some nilV ∧ (∀ j, W.frozen? ⟨w.heap.size + 1, j, none⟩ = false) :=
  ⟨S.bR.cell 0 _ rfl, S.bR.cell 1 _ rfl, S.bR.cell 2 _ rfl, S.bR.cell 3 _ rfl, S.bR.cell 4 _ rfl, S.bR.cell 5 _ rfl, S.bR.thaws⟩
theorem D2.err (S : D2 w W G) {R : Pk × Int × Int} {y : Int} (h : R = (noP, 0, y)) :
    Blk ((((((W.setCell ⟨w.heap.size + 1, 0, none⟩ (.int .i64 0)).setCell ⟨w.heap.size + 1, 1, none⟩ nilV).setCell ⟨w.heap.size + 1, 2, none⟩ nilV).setCell ⟨w.heap.size + 1, 3, none⟩ (.int .i64 0)).setCell ⟨w.heap.size + 1, 4, none⟩ (.int .i64 0)).setCell ⟨w.heap.size + 1, 5, none⟩ nilV) (w.heap.size + 1) (pcs 0 nilV nilV 0 0 nilV) 24 ∧
    DecPost w R (.returned (.tuple #[noP.val nilV nilV nilV, .int .i64 0, .int .i64 y])) ((((((W.setCell ⟨w.heap.size + 1, 0, none⟩ (.int .i64 0)).setCell ⟨w.heap.size + 1, 1, none⟩ nilV).setCell ⟨w.heap.size + 1, 2, none⟩ nilV).setCell ⟨w.heap.size + 1, 3, none⟩ (.int .i64 0)).setCell ⟨w.heap.size + 1, 4, none⟩ (.int .i64 0)).setCell ⟨w.heap.size + 1, 5, none⟩ nilV) := by
  subst h
  have gg := grown_at (grown_at (grown_at (grown_at (grown_at (grown_at (World.grownBy.refl W (some (w.heap.size + 1))) 0 (.int .i64 0)) 1 nilV) 2 nilV) 3 (.int .i64 0)) 4 (.int .i64 0)) 5 nilV
  exact ⟨S.bR.set6, DecPost.no y (grown_over S.gr gg (by omega))⟩
/-- A packet is laid into the result. -/
theorem D2.ok {R : Pk × Int × Int} {a1 a2 a3 : Option Addr} {n1 n2 n3 c1 c2 c3 B : Nat} (S : D2 w W G) (hB : w.heap.size + 1 < B) (o1 : OwnB B W (.slice a1 n1 c1) R.1.dst) (o2 : OwnB B W (.slice a2 n2 c2) R.1.src) (o3 : OwnB B W (.slice a3 n3 c3) R.1.payload) :
    Blk ((((((W.setCell ⟨w.heap.size + 1, 0, none⟩ (.int .i64 R.1.space)).setCell ⟨w.heap.size + 1, 1, none⟩ (.slice a1 n1 c1)).setCell ⟨w.heap.size + 1, 2, none⟩ (.slice a2 n2 c2)).setCell ⟨w.heap.size + 1, 3, none⟩ (.int .i64 R.1.number)).setCell ⟨w.heap.size + 1, 4, none⟩ (.int .i64 R.1.width)).setCell ⟨w.heap.size + 1, 5, none⟩ (.slice a3 n3 c3)) (w.heap.size + 1) (R.1.cs (.slice a1 n1 c1) (.slice a2 n2 c2) (.slice a3 n3 c3)) 24 ∧
    DecPost w R (.returned (.tuple #[R.1.val (.slice a1 n1 c1) (.slice a2 n2 c2) (.slice a3 n3 c3), .int .i64 R.2.1, .int .i64 R.2.2])) ((((((W.setCell ⟨w.heap.size + 1, 0, none⟩ (.int .i64 R.1.space)).setCell ⟨w.heap.size + 1, 1, none⟩ (.slice a1 n1 c1)).setCell ⟨w.heap.size + 1, 2, none⟩ (.slice a2 n2 c2)).setCell ⟨w.heap.size + 1, 3, none⟩ (.int .i64 R.1.number)).setCell ⟨w.heap.size + 1, 4, none⟩ (.int .i64 R.1.width)).setCell ⟨w.heap.size + 1, 5, none⟩ (.slice a3 n3 c3)) := by
  have gg := grown_at (grown_at (grown_at (grown_at (grown_at (grown_at (World.grownBy.refl W (some (w.heap.size + 1))) 0 (.int .i64 R.1.space)) 1 (.slice a1 n1 c1)) 2 (.slice a2 n2 c2)) 3 (.int .i64 R.1.number)) 4 (.int .i64 R.1.width)) 5 (.slice a3 n3 c3)
  have ho : ∀ q, some (w.heap.size + 1) = some q → q < B := fun q e => by cases e; exact hB
  exact ⟨S.bR.set6, _, _, _, rfl, (o1.far gg ho).mono (by omega), (o2.far gg ho).mono (by omega), (o3.far gg ho).mono (by omega), grown_over S.gr gg (by omega)⟩
end

theorem short_dead2 (l : List Int) (G : Lg) (s : St) (x n : Int) (h : (sS1 s x).2 ≠ 0) : (shortR l G s x n).2 = sS1 s x := by
  have e2 : sS2 l s x n = ([], sS1 s x) := rBytes_no h
  have e3 : (sS3 l G s x n).2 = sS1 s x := by unfold sS3 rNum rPlain; rw [e2]; simp only; rw [rRead_no h]
  show (sS4 l G s x n).2 = _
  unfold sS4
  rw [e3, rBytes_no h]

theorem short_51 (l : List Int) (G : Lg) (k : Nat) (x n : Int) (h : bitS x = false) : decR (shortR l G (k + 1, 0) x n) = (noP, 0, 51) := by
  have s1 : (sS1 (k + 1, 0) x).2 = 51 := by unfold sS1; rw [h]; unfold rMust; rw [if_pos ⟨rfl, rfl⟩]
  exact decR_no (by rw [short_dead2 l G _ x n (by rw [s1]; decide)]; exact s1) (by decide)

theorem short_50 (l : List Int) (G : Lg) (k n m : Nat) (x : Int) (h : bitS x = true) (hm : widF x = m) (hk : k < l.length) (hn : l.length < k + 1 + n + m) : decR (shortR l G (k + 1, 0) x n) = (noP, 0, 50) := by
  have hwi := widF_in x
  have s1 : sS1 (k + 1, 0) x = (k + 1, 0) := by unfold sS1; rw [h, rMust_yes]
  refine decR_no ?_ (by decide)
  show (rBytes l (sS3 l G (k + 1, 0) x n).2 _).2.2 = 50
  have e3 : (sS3 l G (k + 1, 0) x n).2 = (rPlain l (sS2 l (k + 1, 0) x n).2 m).2 := by unfold sS3 rNum; rw [hm]
  have e2 : (sS2 l (k + 1, 0) x n).2 = rPass l (k + 1, 0) n := by unfold sS2 rBytes; rw [s1]
  by_cases c : k + 1 + n ≤ l.length
  · rw [e2, pass_at c] at e3
    have ep : rPlain l (k + 1 + n, 0) (m : Int) = (0, (k + 1 + n, 50)) := by
      unfold rPlain rRead; rw [if_pos rfl, readF_short l _ m (by simp only; omega) (by simp only; omega)]; rfl
    rw [e3, ep, rBytes_no (by simp)]
  · have ep : rPass l (k + 1, 0) (n : Int) = (k + 1, 50) := by unfold rPass; rw [if_pos rfl, if_neg (by simp only; omega)]
    have e4 : (sS3 l G (k + 1, 0) x n).2 = (k + 1, 50) := by rw [e3, e2, ep]; unfold rPlain; rw [rRead_no (by simp)]
    rw [e4, rBytes_no (by simp)]

theorem short_okD (l : List Int) (G : Lg) (k n m : Nat) (x : Int) (h : bitS x = true) (hm : widF x = m) (hk : k < l.length) (hn : k + 1 + n + m ≤ l.length) :
    decR (shortR l G (k + 1, 0) x n) = (⟨2, (l.drop (k + 1)).take n, [], wholeV (G.at 2) (joinF 0 ((l.drop (k + 1 + n)).take m)) m, m, (l.drop (k + 1 + n + m)).take (l.length - (k + 1 + n + m))⟩, (l.length : Int), 0) := by
  have hwi := widF_in x
  have s1 : sS1 (k + 1, 0) x = (k + 1, 0) := by unfold sS1; rw [h, rMust_yes]
  have e2 : sS2 l (k + 1, 0) x n = ((l.drop (k + 1)).take n, (k + 1 + n, 0)) := by
    unfold sS2 rBytes; rw [s1, pass_at (by omega)]; simp
  have ep : rPlain l (k + 1 + n, 0) (m : Int) = (joinF 0 ((l.drop (k + 1 + n)).take m), (k + 1 + n + m, 0)) := by
    unfold rPlain rRead; rw [if_pos rfl, readF_in l (k + 1 + n) m (by omega) (by omega)]; simp; omega
  have e3 : sS3 l G (k + 1, 0) x n = (wholeV (G.at 2) (joinF 0 ((l.drop (k + 1 + n)).take m)) m, (k + 1 + n + m, 0)) := by
    unfold sS3 rNum; rw [e2, hm]; simp only; rw [ep]
  have e4 : sS4 l G (k + 1, 0) x n = ((l.drop (k + 1 + n + m)).take (l.length - (k + 1 + n + m)), (l.length, 0)) := by
    unfold sS4; rw [e3]; simp only
    rw [show (l.length : Int) - ((k + 1 + n + m : Nat) : Int) = ((l.length - (k + 1 + n + m) : Nat) : Int) by omega]
    unfold rBytes; rw [pass_at (by omega)]
    simp only [Prod.mk.injEq, and_true]
    exact ⟨by congr 1; omega, by omega⟩
  unfold decR
  have e5 : (shortR l G (k + 1, 0) x n).2 = (l.length, 0) := by show (sS4 l G (k + 1, 0) x n).2 = _; rw [e4]
  rw [if_pos (by rw [e5])]
  unfold shortR
  rw [e2, e3, e4, hm]

/-- packR at a byte. -/
theorem packR_at (l : List Int) (G : Lg) (k : Nat) (n : Int) (hk : k < l.length) : packR l G k n = if 128 ≤ l.getD k 0 then longR l G (k + 1, 0) (l.getD k 0) else shortR l G (k + 1, 0) (l.getD k 0) n := by
  have e : rPlain l (k, 0) 1 = (l.getD k 0, (k + 1, 0)) := by
    have hd : l.drop k = l.getD k 0 :: l.drop (k + 1) := by
      rw [List.drop_eq_getElem_cons hk]
      simp [List.getD, hk]
    exact (byte_at hd).1
  unfold packR
  rw [e]
theorem packR_end (l : List Int) (G : Lg) (n : Int) : decR (packR l G l.length n) = (noP, 0, 50) := by
  have e : rPlain l (l.length, 0) 1 = (0, (l.length, 50)) := by
    unfold rPlain rRead
    rw [if_pos rfl, readF_short l _ 1 (by simp) (by simp)]
    rfl
  refine decR_no ?_ (by decide)
  unfold packR
  rw [e]
  simp only [if_neg (show ¬ (128 : Int) ≤ 0 by decide)]
  rw [short_dead _ _ _ _ _ (by simp)]
theorem bitL_64 {x : Int} (h : ¬ x / 64 % 2 = 1) : bitL x = false := decide_eq_false (fun c => h c.1)
theorem bitS_64 {x : Int} (h : ¬ x / 64 % 2 = 1) : bitS x = false := decide_eq_false (fun c => h c.1)
theorem long_51 (l : List Int) (G : Lg) (k : Nat) (x : Int) (h : bitL x = false) : decR (longR l G (k + 1, 0) x) = (noP, 0, 51) := by
  have s1 : (sL1 (k + 1, 0) x).2 = 51 := by unfold sL1; rw [h]; unfold rMust; rw [if_pos ⟨rfl, rfl⟩]
  exact decR_no (by rw [dead1 (by rw [s1]; decide)]; exact s1) (by decide)

/-- longer, whatever stands there. -/
theorem longer_any (g c : Nat) (l : List Int) (k : Nat) (G : Lg) (x : Int) (w : World) (h : InL w g c l) (hl : l.length ≤ 140737488351232) (hG : okG G) (hk : k < l.length) (hx : l.getD k 0 = x) (hb : IsB x) (b64 : x / 64 % 2 = 1) :
    Calls Try.prog 41 #[.slice (some ⟨g, 0, none⟩) l.length c, .int .i64 k, G.v, .agg (pcs 0 nilV nilV 0 (widF x) nilV)] w (DecPost w (decR (longR l G (k + 1, 0) x))) := by
  by_cases h1 : x / 4 % 4 = 0 ∧ k + 5 ≤ l.length ∧ joinF 0 ((l.drop (k + 1)).take 4) = 1 ∧ (spcF x).2 = true
  · obtain ⟨f1, f2, f3, f4⟩ := h1
    unfold spcF at f4
    split at f4
    · rename_i q; exact longer_0 g c l k G x w h hl hG hk hx hb b64 f1 f2 f3 q
    · split at f4
      · rename_i q; exact longer_1 g c l k G x w h hl hG hk hx hb b64 f1 f2 f3 q
      · cases f4
  · exact longer_err g c l k G x w h hl hk hx hb b64 h1

end Go.Proofs.Ytdmjejfnohhpiaa

namespace Go.Proofs.Ytdmjejfnohhpiaa
open Go.RowKit
set_option linter.unusedVariables false
set_option maxRecDepth 100000
set_option maxHeartbeats 1000000

theorem okTo_at {G : Lg} {k : Nat} (hk : k < 3) (ho : okTo G k) {w : World} {g : Nat} {t : TypeId} (b : Blk w g #[.int .i64 G.1, .int .i64 G.2.1, .int .i64 G.2.2] t) :
    ∃ v, w.cell? ⟨g, k, none⟩ = some (.int .i64 v) ∧ Hid (okN v → okTo G (k + 1)) ∧ Hid (¬ okN v → ¬ okG G) := by
  obtain rfl | rfl | rfl : k = 0 ∨ k = 1 ∨ k = 2 := by omega
  · exact ⟨_, b.cell 0 _ rfl, fun h => h, fun h g => h g.1⟩
  · exact ⟨_, b.cell 1 _ rfl, fun h => ⟨ho, h⟩, fun h g => h g.2.1⟩
  · exact ⟨_, b.cell 2 _ rfl, fun h => ⟨ho.1, ho.2, h⟩, fun h g => h g.2.2⟩

theorem bitR_6 (x : Int) : bitR x 6 = decide (x / 64 % 2 = 1) := rfl
theorem bitR_7 (x : Int) (h : IsB x) : bitR x 7 = decide (128 ≤ x) := by
  unfold bitR IsB at *
  by_cases c : 128 ≤ x
  · rw [decide_eq_true c]; exact decide_eq_true (by simp; omega)
  · rw [decide_eq_false c]; exact decide_eq_false (by simp; omega)

theorem rdec_arg (g c : Nat) (l : List Int) (i n : Int) (G : Lg) (w : World) (hml : l.length ≤ 140737488351232) (hbad : i < 0 ∨ (l.length : Int) < i ∨ n < 0 ∨ 20 < n) :
    Calls Try.prog 22 #[.slice (some ⟨g, 0, none⟩) l.length c, .int .i64 i, .int .i64 n, G.v] w (DecPost w (decP l i n G)) := by
  have S0 := D2.start w G
  have HE : Hid (decP l i n G = (noP, 0, 1)) := by
    show _ = _
    unfold decP
    rw [if_pos]
    rcases hbad with h | h | h | h
    · exact .inl h
    · exact .inr (.inl h)
    · exact .inr (.inr (fun q => by omega))
    · exact .inr (.inr (fun q => by omega))
  have hmx : ¬ (9223372036854775807 : Int) < (l.length : Int) := by omega
  generalize decP l i n G = R at *
  by_cases h1 : i < 0
  · clear hbad
    have X := hide (show DecPost w R (.returned (.tuple #[noP.val nilV nilV nilV, .int .i64 0, .int .i64 1])) _ from by rw [unhide HE]; exact DecPost.no 1 S0.gr)
    have BR := hide S0.bR
    clear S0 HE
    go_enter Try.func22, Try.ntmps22
    go_wp2_with fail
    refine bodyPost_ret (results_ctu rfl _ _ (w.heap.size + 1) _ _ rfl (unhide BR) Try.underlying24 rfl Try.sizeP) rfl ?_
    exact unhide X
  by_cases h2 : (l.length : Int) < i
  · clear hbad
    have X := hide (show DecPost w R (.returned (.tuple #[noP.val nilV nilV nilV, .int .i64 0, .int .i64 1])) _ from by rw [unhide HE]; exact DecPost.no 1 S0.gr)
    have BR := hide S0.bR
    clear S0 HE
    go_enter Try.func22, Try.ntmps22
    go_wp2_with fail
    refine bodyPost_ret (results_ctu rfl _ _ (w.heap.size + 1) _ _ rfl (unhide BR) Try.underlying24 rfl Try.sizeP) rfl ?_
    exact unhide X
  by_cases h3 : n < 0
  · clear hbad
    have X := hide (show DecPost w R (.returned (.tuple #[noP.val nilV nilV nilV, .int .i64 0, .int .i64 1])) _ from by rw [unhide HE]; exact DecPost.no 1 S0.gr)
    have BR := hide S0.bR
    clear S0 HE
    go_enter Try.func22, Try.ntmps22
    go_wp2_with fail
    refine bodyPost_ret (results_ctu rfl _ _ (w.heap.size + 1) _ _ rfl (unhide BR) Try.underlying24 rfl Try.sizeP) rfl ?_
    exact unhide X
  · have h4 : 20 < n := by omega
    clear hbad
    have X := hide (show DecPost w R (.returned (.tuple #[noP.val nilV nilV nilV, .int .i64 0, .int .i64 1])) _ from by rw [unhide HE]; exact DecPost.no 1 S0.gr)
    have BR := hide S0.bR
    clear S0 HE
    go_enter Try.func22, Try.ntmps22
    go_wp2_with fail
    refine bodyPost_ret (results_ctu rfl _ _ (w.heap.size + 1) _ _ rfl (unhide BR) Try.underlying24 rfl Try.sizeP) rfl ?_
    exact unhide X

theorem rdec_any (g c : Nat) (l : List Int) (i n : Int) (G : Lg) (w : World) (h : InL w g c l) (hl : l.length ≤ 140737488351232) :
    Calls Try.prog 22 #[.slice (some ⟨g, 0, none⟩) l.length c, .int .i64 i, .int .i64 n, G.v] w (DecPost w (decP l i n G)) := by
  by_cases hbad : i < 0 ∨ (l.length : Int) < i ∨ n < 0 ∨ 20 < n
  · exact rdec_arg g c l i n G w hl hbad
  obtain ⟨k, rfl⟩ := Int.eq_ofNat_of_zero_le (show 0 ≤ i by omega)
  obtain ⟨d, rfl⟩ := Int.eq_ofNat_of_zero_le (show 0 ≤ n by omega)
  have a1 : ¬ (k : Int) < 0 := by omega
  have a2 : ¬ (l.length : Int) < (k : Int) := by omega
  have a3 : ¬ (d : Int) < 0 := by omega
  have a4 : ¬ (20 : Int) < (d : Int) := by omega
  have S0 := D2.start w G
  have hno : ¬ okG G → decP l k d G = (noP, 0, 1) := fun q => by unfold decP; rw [if_pos (.inr (.inr (fun c => q c.1)))]
  have hyes : okG G → decP l k d G = decR (packR l G k d) := fun q => by
    unfold decP; rw [if_neg (by rintro (c | c | c); exact a1 c; exact a2 c; exact c ⟨q, by omega, by omega⟩), Int.toNat_natCast]; rfl
  have hmx := h.max
  have hlt := h.lt
  unfold maxLen at hmx
  have hml : ¬ (9223372036854775807 : Int) < (l.length : Int) := by omega
  generalize hR : decP l k d G = R at *
  have HN := hide hno; have HY := hide hyes; have HI := hide h
  clear hno hyes hR h hbad
  go_enter Try.func22, Try.ntmps22
  go_wp2_with fail
  generalize ((w.alloc (.cells #[.int .i64 G.1, .int .i64 G.2.1, .int .i64 G.2.2] 46)).alloc (.cells (pcs 0 nilV nilV 0 0 nilV) 24)) = W0 at *
  go_loopw [11] (fun i wr => ∃ j : Nat, j ≤ 3 ∧ i = .int .i64 j ∧ Hid (okTo G j) ∧ wr = W0) (fun i _ => 3 - (intOf i).toNat)
  case atStart => exact ⟨0, by omega, rfl, trivial, rfl⟩
  case round =>
    obtain ⟨j, hj, rfl, ho, hwr⟩ := hrel
    subst hwr
    by_cases hj3 : j = 3
    · subst hj3
      have hG : okG G := ho
      have hy := unhide HY hG
      clear ho HN HY hj
      by_cases hkl : k = l.length
      · have hpe : decR (packR l G k d) = (noP, 0, 50) := by rw [hkl]; exact packR_end l G d
        have HE := hide (hy.trans hpe)
        have t1 : ((k : Int) == (l.length : Int)) = true := by rw [hkl]; simp
        have t2 : (k == l.length) = true := by rw [hkl]; simp
        clear hkl hy HI a2 hpe
        obtain ⟨r0, r1, r2, r3, r4, r5, tR⟩ := S0.rz
        have X := hide (S0.err (unhide HE))
        clear S0 HE 
        go_wp2_with fail
        refine bodyPost_ret (results_ctu rfl _ _ (w.heap.size + 1) _ _ rfl (unhide X).1 Try.underlying24 rfl Try.sizeP) rfl ?_
        exact (unhide X).2
      have hk : k < l.length := by omega
      have t1 : ((k : Int) == (l.length : Int)) = false := by simp; omega
      have t2 : (k == l.length) = false := by simp; omega
      have kl : (k : Int) < (l.length : Int) := by omega
      rw [packR_at l G k d hk] at hy
      have hc := (((unhide HI).grown S0.gr).cell k hk)
      have hb := (unhide HI).b (l.getD k 0) (by simp [List.getD, hk])
      have lg : ∀ W, w.grownBy W none → (l.getD k 0) / 64 % 2 = 1 → Calls Try.prog 41 #[.slice (some ⟨g, 0, none⟩) l.length c, .int .i64 k, G.v, .agg (pcs 0 nilV nilV 0 (widF (l.getD k 0)) nilV)] W (DecPost W (decR (longR l G (k + 1, 0) (l.getD k 0)))) := fun W gr b64 => longer_any g c l k G (l.getD k 0) W ((unhide HI).grown gr) hl hG hk rfl hb b64
      have LG := hide lg
      clear lg
      generalize l.getD k 0 = x at *
      have hb2 := fun W => bit_any x 6 W hb (by decide)
      have hb1 := fun W => bit_any x 7 W hb (by decide)
      have hb4 := fun W => bit_any x 4 W hb (by decide)
      have hb5 := fun W => bit_any x 3 W hb (by decide)
      have hib := hb
      unfold IsB at hib
      have hwf : x % 4 + 1 = widF x := rfl
      have hwi := widF_in x
      have HB := hide hb
      have HY := hide hy
      clear hy hb hkl
      by_cases b64 : x / 64 % 2 = 1
      · rw [bitR_6, decide_eq_true b64] at hb2
        rw [bitR_7 x (unhide HB)] at hb1
        go_wp2_with fail
        refine (hb2 _).mono ?_
        rintro e W1 ⟨rfl, hw1⟩
        subst hw1
        have S1 := S0.grown (World.grownBy_alloc W1 (.cells (pcs 0 nilV nilV 0 (widF x) nilV) 24) none)
        have bP := Blk.new W1 (pcs 0 nilV nilV 0 (widF x) nilV) 24
        have hsz : w.heap.size + 1 < W1.heap.size := S0.bR.lt
        clear S0 hb2 hc
        go_wp2_with fail
        generalize W1.alloc (.cells (pcs 0 nilV nilV 0 (widF x) nilV) 24) = U1 at *
        generalize W1.heap.size = gp at *
        refine (hb1 _).mono ?_
        rintro e U2 ⟨rfl, hw2⟩
        subst hw2
        by_cases h128 : 128 ≤ x
        · rw [decide_eq_true h128]
          have lg := unhide LG _ S1.gr b64
          rw [if_pos h128] at HY
          have y0 := S1.bG.cell 0 (.int .i64 G.1) rfl
          have y1 := S1.bG.cell 1 (.int .i64 G.2.1) rfl
          have y2 := S1.bG.cell 2 (.int .i64 G.2.2) rfl
          have x0 := bP.cell 0 (.int .i64 0) rfl
          have x1 := bP.cell 1 nilV rfl
          have x2 := bP.cell 2 nilV rfl
          have x3 := bP.cell 3 (.int .i64 0) rfl
          have x4 := bP.cell 4 (.int .i64 (widF x)) rfl
          have x5 := bP.cell 5 nilV rfl
          rw [← unhide HY] at lg
          have LGG := hide lg
          clear lg LG HY hb4 hb5 hb1 HI b64
          obtain ⟨P, rE, rF⟩ := R
          go_wp2_with fail
          refine (unhide LGG).mono ?_
          intro e U3 hd
          obtain ⟨e1, m1, f1, e2, m2, f2, e3, m3, f3, rfl, o1, o2, o3, gd, q1, q2, q3⟩ := hd.parts
          have S2 := S1.grown gd
          obtain ⟨r0, r1, r2, r3, r4, r5, tR⟩ := S2.rz
          have X := hide (S2.ok (R := (P, rE, rF)) S1.bR.lt o1 o2 o3)
          clear S1 S2 o1 o2 o3 gd q1 q2 q3 hd LGG bP
          go_wp2_with fail
          refine bodyPost_ret (results_ctu rfl _ _ (w.heap.size + 1) _ _ rfl (unhide X).1 Try.underlying24 rfl Try.sizeP) rfl ?_
          exact (unhide X).2
        · rw [decide_eq_false h128]
          rw [if_neg h128] at HY
          clear LG hb1
          by_cases b8 : x / 8 % 4 = 0
          · have hbs : bitS x = true := decide_eq_true ⟨b64, b8⟩
            have v4 : bitR x 4 = false := decide_eq_false (by simp; omega)
            have v5 : bitR x 3 = false := decide_eq_false (by simp; omega)
            rw [v4] at hb4
            rw [v5] at hb5
            obtain ⟨m, hm⟩ := Int.eq_ofNat_of_zero_le (show 0 ≤ widF x by omega)
            have x0 := bP.cell 0 (.int .i64 0) rfl
            have th := bP.thaws
            have bP1 := bP.setC 0 (.int .i64 2)
            have S2 := S1.setO gp 0 (.int .i64 2) hsz
            have x4 := bP1.cell 4 (.int .i64 (widF x)) rfl
            have w1 : IntKind.i64.wrap ((k : Int) + 1) = (k : Int) + 1 := by rw [IntKind.wrap_i64]; omega
            have w2 : IntKind.i64.wrap ((k : Int) + 1 + (d : Int)) = ((k : Int) + 1 + (d : Int)) := by rw [IntKind.wrap_i64]; omega
            have w3 : IntKind.i64.wrap (((k : Int) + 1 + (d : Int)) + widF x) = ((k : Int) + 1 + (d : Int)) + widF x := by rw [IntKind.wrap_i64]; omega
            go_wp2_with fail
            refine (hb4 _).mono ?_
            rintro e U3 ⟨rfl, hw3⟩
            subst hw3
            go_wp2_with fail
            refine (hb5 _).mono ?_
            rintro e U4 ⟨rfl, hw4⟩
            subst hw4
            clear hb4 hb5 S1 bP
            have hgp := bP1.lt
            have HM := hide hm
            have HBS := hide hbs
            by_cases hn : l.length < k + 1 + d + m
            · have HE := hide ((unhide HY).trans (short_50 l G k d m x hbs hm hk hn))
              have tn : (l.length : Int) < ((k : Int) + 1 + (d : Int)) + widF x := by omega
              clear hm
              go_upto_if 101 with fail
              have hm := unhide HM
              clear x0 th
              generalize World.setCell _ ⟨gp, 0, none⟩ (.int .i64 2) = U5 at *
              clear HY HI hn hm bP1 hk a2 kl hbs
              generalize ((k : Int) + 1 + (d : Int)) = KD at *
              generalize l.length = ll at *
              obtain ⟨r0, r1, r2, r3, r4, r5, tR⟩ := S2.rz
              have X := hide (S2.err (unhide HE))
              clear S2 HE 
              go_wp2_with fail
              refine bodyPost_ret (results_ctu rfl _ _ (w.heap.size + 1) _ _ rfl (unhide X).1 Try.underlying24 rfl Try.sizeP) rfl ?_
              exact (unhide X).2
            · have HE := hide ((unhide HY).trans (short_okD l G k d m x hbs hm hk (by omega)))
              have tn : ¬ (l.length : Int) < ((k : Int) + 1 + (d : Int)) + widF x := by omega
              clear hm
              go_upto_if 101 with fail
              have hm := unhide HM
              clear x0 th
              generalize World.setCell _ ⟨gp, 0, none⟩ (.int .i64 2) = U5 at *
              have hsl : ((l.drop (k + 1)).take d).length = d := sub_len l (k + 1) d (by omega)
              have cp := copied_sh (some ⟨g, k + 1, none⟩) (c - (k + 1)) ((l.drop (k + 1)).take d) _ (by rw [hsl]; exact ((unhide HI).grown S2.gr).sub (k + 1) d (by omega)) (by omega)
              rw [hsl] at cp
              have wh := fun (a1 : Option Addr) (c1 : Nat) W (gr : w.grownBy W none) => whole_any g c l (k + 1 + d) m l.length G 2 (widF x) a1 none d 0 c1 0 W ((unhide HI).grown gr) hl hm (by omega) (.inr (.inr rfl)) hG (by omega) (Nat.le_refl _)
              have hkd : ((k + 1 + d : Nat) : Int) = (k : Int) + 1 + (d : Int) := by omega
              simp only [hkd] at wh
              clear hkd
              have s1 : ¬ c = k + 1 := by omega
              have s2 : (k : Int) + 1 ≤ ((k : Int) + 1 + (d : Int)) := by omega
              have s3 : ((k : Int) + 1 + (d : Int)) ≤ (c : Int) := by omega
              have s4 : ((k : Int) + 1).toNat = k + 1 := by omega
              have s5 : ((k : Int) + 1 + (d : Int)).toNat = k + 1 + d := by omega
              have s6 : k + 1 + d - (k + 1) = d := by omega
              have CPY := hide cp; have WHH := hide wh
              have s7 : 0 ≤ ((k : Int) + 1 + (d : Int)) := by omega
              clear cp wh hsl HY HI hn hm hk a2 kl hbs b8 b64 h128
              generalize hPAY : (l.drop (k + 1 + d + m)).take (l.length - (k + 1 + d + m)) = PAY at *
              generalize hNUM : wholeV (G.at 2) (joinF 0 ((l.drop (k + 1 + d)).take m)) (widF x) = NUM at *
              have HNM := hide hNUM
              clear hPAY hNUM
              generalize (l.drop (k + 1)).take d = D1 at *
              generalize ((k : Int) + 1 + (d : Int)) = KD at *
              generalize l.length = ll at *
              go_wp2_with fail
              refine (unhide CPY).mono ?_
              rintro e V1 ⟨a1, c1, rfl, o1, g1⟩
              have bP2 := bP1.grown g1
              have bP3 := bP2.setC 1 (.slice a1 d c1)
              have S3 := (S2.grown g1).setO gp 1 (.slice a1 d c1) hsz
              have z1 := bP2.cell 1 nilV rfl
              have th2 := bP2.thaws
              have gs := grown_at (World.grownBy.refl V1 (some gp)) 1 (.slice a1 d c1)
              have o1' := o1.far gs (fun q e => by cases e; exact hgp)
              have hsV := Nat.le_trans g1.size gs.size
              have wh := unhide WHH a1 c1 _ S3.gr
              have y0 := bP3.cell 0 (.int .i64 2) rfl
              have y1 := bP3.cell 1 (.slice a1 d c1) rfl
              have y2 := bP3.cell 2 nilV rfl
              have y3 := bP3.cell 3 (.int .i64 0) rfl
              have y4 := bP3.cell 4 (.int .i64 (widF x)) rfl
              have y5 := bP3.cell 5 nilV rfl
              have g0' := S3.bG.cell 0 (.int .i64 G.1) rfl
              have g1' := S3.bG.cell 1 (.int .i64 G.2.1) rfl
              have g2' := S3.bG.cell 2 (.int .i64 G.2.2) rfl
              clear o1 gs bP1 bP2 bP3 g1 CPY WHH
              have WHH := hide wh
              clear wh
              go_wp2_with fail
              refine (unhide WHH).mono ?_
              intro e V2 hq
              obtain ⟨a3, c3, rfl, o3, g3⟩ := hq
              have S4 := S3.grown g3
              obtain ⟨r0, r1, r2, r3, r4, r5, tR⟩ := S4.rz
              have hh := unhide HE
              rw [← unhide HM, unhide HNM] at hh
              have X := hide (S4.ok (R := (⟨2, D1, [], NUM, widF x, PAY⟩, (ll : Int), 0)) (Nat.lt_trans hsz hgp) (o1'.far g3 (fun q e => by cases e)) (World.ownsRow_nil _ _ _ _) (o3.mono hsV))
              have HH := hide hh
              clear S2 S3 S4 o1' o3 g3 WHH HE HNM hh
              go_wp2_with fail
              refine bodyPost_ret (results_ctu rfl _ _ (w.heap.size + 1) _ _ rfl (unhide X).1 Try.underlying24 rfl Try.sizeP) rfl ?_
              rw [unhide HH]
              exact (unhide X).2
          · have HE := hide ((unhide HY).trans (short_51 l G k x d (decide_eq_false (fun c => b8 c.2))))
            have vv : bitR x 4 = true ∨ (bitR x 4 = false ∧ bitR x 3 = true) := by
              unfold bitR
              by_cases q : x / 16 % 2 = 1
              · exact .inl (decide_eq_true (by simpa using q))
              · exact .inr ⟨decide_eq_false (by simp; omega), decide_eq_true (by simp; omega)⟩
            rcases vv with v4 | ⟨v4, v5⟩
            · rw [v4] at hb4
              clear v4 HY HI bP b8
              go_wp2_with fail
              refine (hb4 _).mono ?_
              rintro e U3 ⟨rfl, hw3⟩
              subst hw3
              go_wp2_with fail
              refine (hb5 _).mono ?_
              rintro e U4 ⟨rfl, hw4⟩
              subst hw4
              obtain ⟨r0, r1, r2, r3, r4, r5, tR⟩ := S1.rz
              have X := hide (S1.err (unhide HE))
              clear S1 HE hb4 hb5
              go_wp2_with fail
              refine bodyPost_ret (results_ctu rfl _ _ (w.heap.size + 1) _ _ rfl (unhide X).1 Try.underlying24 rfl Try.sizeP) rfl ?_
              exact (unhide X).2
            · rw [v4] at hb4
              rw [v5] at hb5
              clear v4 v5 HY HI bP b8
              go_wp2_with fail
              refine (hb4 _).mono ?_
              rintro e U3 ⟨rfl, hw3⟩
              subst hw3
              go_wp2_with fail
              refine (hb5 _).mono ?_
              rintro e U4 ⟨rfl, hw4⟩
              subst hw4
              obtain ⟨r0, r1, r2, r3, r4, r5, tR⟩ := S1.rz
              have X := hide (S1.err (unhide HE))
              clear S1 HE hb4 hb5
              go_wp2_with fail
              refine bodyPost_ret (results_ctu rfl _ _ (w.heap.size + 1) _ _ rfl (unhide X).1 Try.underlying24 rfl Try.sizeP) rfl ?_
              exact (unhide X).2
      · rw [bitR_6, decide_eq_false b64] at hb2
        have HE : Hid (R = (noP, 0, 51)) := by
          show _ = _
          rw [unhide HY]
          split
          · exact long_51 l G k x (bitL_64 b64)
          · exact short_51 l G k x d (bitS_64 b64)
        clear HY LG hb1 hb4 hb5 HI b64
        go_wp2_with fail
        refine (hb2 _).mono ?_
        rintro e W1 ⟨rfl, hw1⟩
        subst hw1
        obtain ⟨r0, r1, r2, r3, r4, r5, tR⟩ := S0.rz
        have X := hide (S0.err (unhide HE))
        clear S0 HE hb2
        go_wp2_with fail
        refine bodyPost_ret (results_ctu rfl _ _ (w.heap.size + 1) _ _ rfl (unhide X).1 Try.underlying24 rfl Try.sizeP) rfl ?_
        exact (unhide X).2
    · have hlt3 : (j : Int) < 3 := by omega
      obtain ⟨v, hc, hs, hno⟩ := okTo_at (by omega) (unhide ho) S0.bG
      clear ho hj3 HY HI
      by_cases h1 : v < -1
      · have HE := hide (unhide HN (unhide hno (by unfold okN MAXP; omega)))
        clear hs hno HN
        obtain ⟨r0, r1, r2, r3, r4, r5, tR⟩ := S0.rz
        have X := hide (S0.err (unhide HE))
        clear S0 HE 
        go_wp2_with fail
        refine bodyPost_ret (results_ctu rfl _ _ (w.heap.size + 1) _ _ rfl (unhide X).1 Try.underlying24 rfl Try.sizeP) rfl ?_
        exact (unhide X).2
      · by_cases h2 : 4611686018427387903 < v
        · have HE := hide (unhide HN (unhide hno (by unfold okN MAXP; omega)))
          clear hs hno HN
          obtain ⟨r0, r1, r2, r3, r4, r5, tR⟩ := S0.rz
          have X := hide (S0.err (unhide HE))
          clear S0 HE 
          go_wp2_with fail
          refine bodyPost_ret (results_ctu rfl _ _ (w.heap.size + 1) _ _ rfl (unhide X).1 Try.underlying24 rfl Try.sizeP) rfl ?_
          exact (unhide X).2
        · have ho := hide (unhide hs (by unfold okN MAXP; omega))
          clear hs hno HN S0
          go_wp2_with fail
          exact ⟨⟨j + 1, by omega, by go_num, ho, trivial⟩, by simp [intOf]; omega⟩

end Go.Proofs.Ytdmjejfnohhpiaa
