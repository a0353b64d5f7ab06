/- F1G, F1H, F1J, G5X, G7A, G7B, G7D, G7E, G7C, G7F, G7G, G7H, G7I, P4Par, one text. -/
import Derived.Test.YtggjeamondampaaM4F
import Derived.Test.YtggjeamondampaaM4A
import Derived.Test.YtggjeamondampaaN4D
import Derived.Test.YtggjeamondampaaM4D
import Derived.Test.YtggjeamondampaaM4I
import Derived.Deep.MidRow
import Derived.ProofKit
import Derived.OpenShut
import Derived.ShutString
import Derived.ChangeOld
import Derived.SizedLaws
import Derived.JoinedCond
import Derived.Deep.CondSized
namespace Go.Proofs.Ytggjeamondampaa
open Go.RowKit
set_option linter.unusedVariables false
set_option maxRecDepth 100000
set_option maxHeartbeats 4000000

theorem keep_as (f : Fr) (d r : Value) (w : World) (h : keepS f.kind = 1) (hR : FrR w f d r) (hd : f.data.length ≤ 140737488351232) (hr : f.runs.length * 16 ≤ 140737488351232) : Calls Try.prog 39 #[f.val d r] w (KeepPost f w) := by
  have e : keepF f = f := by unfold keepF; rw [h]; rfl
  have hk : f.kind = 4 ∨ f.kind = 5 ∨ f.kind = 16 ∨ f.kind = 17 ∨ f.kind = 18 ∨ f.kind = 20 ∨ f.kind = 21 ∨ f.kind = 22 ∨ f.kind = 30 := by
    unfold keepS at h
    split at h
    · cases h
    · split at h
      · assumption
      · cases h
  obtain ⟨a, c, rfl, h1, h2, h3⟩ := hR.data
  obtain ⟨p, q, rfl, h4, h5, h6⟩ := hR.runs
  obtain ⟨B1, B2, g2⟩ := Blk.two w (f.cs (.slice a f.data.length c) (.slice p f.runs.length q)) (Fr.zero.cs nilS nilS) 26 26
  obtain ⟨W2, hW2⟩ : ∃ W2, W2 = (w.alloc (.cells (f.cs (.slice a f.data.length c) (.slice p f.runs.length q)) 26)).alloc (.cells (Fr.zero.cs nilS nilS) 26) := ⟨_, rfl⟩
  rw [← hW2] at B1 B2 g2
  obtain ⟨da, dc, W3, hap, oB, g3⟩ := app_rd (w0 := W2) c (own_nilB W2.heap.size W2) (World.grownBy.refl W2 none) (h1.grow g2) (by simp; omega)
  simp only [List.length_nil, Nat.zero_add, List.nil_append] at hap oB
  have B3 := B1.grown g3
  have B4 : Blk (W3.setCell ⟨w.heap.size, 3, none⟩ (.slice da f.data.length dc)) w.heap.size (f.cs (.slice da f.data.length dc) (.slice p f.runs.length q)) 26 := B3.setC 3 _
  obtain ⟨ra, rc, W5, hapr, g5, B5, B6, B7, B8, oB8, oR8, g8⟩ := keep_end f w (W3.setCell ⟨w.heap.size, 3, none⟩ (.slice da f.data.length dc)) w.heap.size (w.heap.size + 1) p q (.slice da f.data.length dc) (.slice p f.runs.length q) (Fr.zero.cs nilS nilS) (Nat.le_refl _) (by omega) (by omega) (grown_set (g2.trans g3) _ 3 _ (Nat.le_refl _)) B4 ((B2.grown g3).setO _ 3 _ (by omega)) ((oB.mono g2.size).cell B3) h4 hr
  have B8' := hide B8
  have B67 := hide (And.intro B6 B7)
  obtain ⟨C, hC⟩ : ∃ C, C = f.cs (.slice da f.data.length dc) (.slice ra f.runs.length rc) := ⟨_, rfl⟩
  have C17 : C.size = 17 := by rw [hC]; rfl
  have iC : (Try.prog.info? 26).map (·.size) = some C.size := by rw [C17]; exact Try.size26
  have C1 : C.all (·.oneCell') = true := by rw [hC]; exact one17 _ _ _ rfl rfl
  rw [← hC] at B8' B67 oB8 oR8 g8
  have FIN : Hid (KeepPost f w (.returned (.tuple #[.agg C, .bool true])) _) := ⟨_, _, by rw [e, h, hC]; rfl, by rw [e]; exact oB8, by rw [e]; exact oR8, g8⟩
  have x0 := B1.cell 0 (.int .i64 f.kind) rfl
  have x3 := B1.cell 3 (.slice a f.data.length c) rfl
  have y3 := B3.cell 3 (.slice a f.data.length c) rfl
  have y4 := B3.thaws
  have z12 := B4.cell 12 (.slice p f.runs.length q) rfl
  have u12 := B5.cell 12 (.slice p f.runs.length q) rfl
  have u13 := B5.thaws
  clear e h hR h1 h2 h3 h4 h5 h6 g2 oB g3 g5 oB8 oR8 g8 B1 B2 B3 B4 B5 B6 B7 B8 hd hr hC
  generalize f.data.length = n at *
  generalize f.runs.length = m at *
  generalize KeepPost f w = Q at *
  subst hW2
  obtain ⟨kind, stream, offset, data, size, fin, tail, limit, uni, code, own, delay, runs, marks, c0, c1, c2⟩ := f
  simp only at hk x0
  rcases hk with rfl | rfl | rfl | rfl | rfl | rfl | rfl | rfl | rfl
  all_goals as_aux_lemma =>
    go_enter Try.func39, Try.ntmps39
    go_upto_region 16 with fail
    go_wp2_with (first | (at_builtin; refine wpList_append_run _ rfl (Operand.const (.slice none 0 0)) (Operand.tmp 27) 22 22 rfl (.slice none 0 0) (.slice a n c) rfl rfl (hap 22) ?_) | (at_builtin; refine wpList_append_run _ rfl (Operand.const (.slice none 0 0)) (Operand.tmp 31) 23 23 rfl (.slice none 0 0) (.slice p m q) rfl rfl (hapr 23) ?_) | (refine wpList_load_row rfl _ _ rfl w.heap.size rfl 26 C (0, 0) _ (unhide B67).1 Try.underlying26 rfl iC ?_) | (refine wpList_store_row rfl _ _ _ rfl (w.heap.size + 1) C rfl rfl 26 _ (unhide B67).2 iC (by rw [C17]; rfl) C1 ?_))
    refine bodyPost_ret (results_ct (p := 2) (u := 3) (tp := 26) Try.results39 _ _ (w.heap.size + 1) C _ rfl (unhide B8') Try.underlying26 rfl iC) rfl ?_
    exact unhide FIN
end Go.Proofs.Ytggjeamondampaa

namespace Go.Proofs.Ytggjeamondampaa
open Go.RowKit
set_option linter.unusedVariables false
set_option maxRecDepth 100000
set_option maxHeartbeats 4000000

theorem keep_data (f : Fr) (d r : Value) (w : World) (h : keepS f.kind = 2) (hR : FrR w f d r) (hr : f.runs.length * 16 ≤ 140737488351232) : Calls Try.prog 39 #[f.val d r] w (KeepPost f w) := by
  have e : keepF f = { f with size := (f.data.length : Int), data := [], tail := false } := by unfold keepF; rw [h]; rfl
  have hk : f.kind = 6 ∨ f.kind = 8 := by
    unfold keepS at h
    split at h
    · assumption
    · split at h <;> cases h
  obtain ⟨a, c, rfl, h1, h2, h3⟩ := hR.data
  obtain ⟨p, q, rfl, h4, h5, h6⟩ := hR.runs
  obtain ⟨B1, B2, g2⟩ := Blk.two w (f.cs (.slice a f.data.length c) (.slice p f.runs.length q)) #[.int .i64 0, .int .i64 0, .int .i64 0, .slice none 0 0, .int .i64 0, .bool false, .bool false, .int .i64 0, .bool false, .int .i64 0, .bool false, .int .i64 0, .slice none 0 0, .bool false, .int .i64 0, .int .i64 0, .int .i64 0] 26 26
  obtain ⟨W2, hW2⟩ : ∃ W2, W2 = (w.alloc (.cells (f.cs (.slice a f.data.length c) (.slice p f.runs.length q)) 26)).alloc (.cells #[.int .i64 0, .int .i64 0, .int .i64 0, .slice none 0 0, .int .i64 0, .bool false, .bool false, .int .i64 0, .bool false, .int .i64 0, .bool false, .int .i64 0, .slice none 0 0, .bool false, .int .i64 0, .int .i64 0, .int .i64 0] 26) := ⟨_, rfl⟩
  rw [← hW2] at B1 B2 g2
  have B3 := ((B1.setC 4 (.int .i64 (f.data.length : Int))).setC 3 nilS).setC 6 (.bool false)
  have b3 := ((B2.setO w.heap.size 4 (.int .i64 (f.data.length : Int)) (by omega)).setO w.heap.size 3 nilS (by omega)).setO w.heap.size 6 (.bool false) (by omega)
  have g3 : w.grownBy (((W2.setCell ⟨w.heap.size, 4, none⟩ (.int .i64 (f.data.length : Int))).setCell ⟨w.heap.size, 3, none⟩ nilS).setCell ⟨w.heap.size, 6, none⟩ (.bool false)) none := grown_set (grown_set (grown_set g2 _ 4 _ (Nat.le_refl _)) _ 3 _ (Nat.le_refl _)) _ 6 _ (Nat.le_refl _)
  have hap := fun ty => app_none (((W2.setCell ⟨w.heap.size, 4, none⟩ (.int .i64 (f.data.length : Int))).setCell ⟨w.heap.size, 3, none⟩ nilS).setCell ⟨w.heap.size, 6, none⟩ (.bool false)) none 0 ty
  have B4 := B3.setC 3 nilS
  obtain ⟨ra, rc, W5, hapr, g5, B5, B6, B7, B8, oB8, oR8, g8⟩ := keep_end { f with size := (f.data.length : Int), data := [], tail := false } w ((((W2.setCell ⟨w.heap.size, 4, none⟩ (.int .i64 (f.data.length : Int))).setCell ⟨w.heap.size, 3, none⟩ nilS).setCell ⟨w.heap.size, 6, none⟩ (.bool false)).setCell ⟨w.heap.size, 3, none⟩ nilS) w.heap.size (w.heap.size + 1) p q nilS (.slice p f.runs.length q) #[.int .i64 0, .int .i64 0, .int .i64 0, .slice none 0 0, .int .i64 0, .bool false, .bool false, .int .i64 0, .bool false, .int .i64 0, .bool false, .int .i64 0, .slice none 0 0, .bool false, .int .i64 0, .int .i64 0, .int .i64 0] (Nat.le_refl _) (by omega) (by omega) (grown_set g3 _ 3 _ (Nat.le_refl _)) B4 (b3.setO _ 3 _ (by omega)) (own_nilB _ _) h4 hr
  have B8' := hide B8
  have B67 := hide (And.intro B6 B7)
  obtain ⟨C, hC⟩ : ∃ C, C = ({ f with size := (f.data.length : Int), data := [], tail := false } : Fr).cs nilS (.slice ra f.runs.length rc) := ⟨_, rfl⟩
  have C17 : C.size = 17 := by rw [hC]; rfl
  have iC : (Try.prog.info? 26).map (·.size) = some C.size := by rw [C17]; exact Try.size26
  have C1 : C.all (·.oneCell') = true := by rw [hC]; exact one17 _ _ _ rfl rfl
  rw [← hC] at B8' B67 oB8 oR8 g8
  have FIN : Hid (KeepPost f w (.returned (.tuple #[.agg C, .bool true])) _) := ⟨_, _, by rw [e, h, hC]; rfl, by rw [e]; exact oB8, by rw [e]; exact oR8, g8⟩
  have x0 := B1.cell 0 (.int .i64 f.kind) rfl
  have x3 := B1.cell 3 (.slice a f.data.length c) rfl
  have x4 := B1.cell 4 (.int .i64 f.size) rfl
  have tw := B1.thaws
  have y3 := (B1.setC 4 (.int .i64 (f.data.length : Int))).cell 3 (.slice a f.data.length c) rfl
  have yt := (B1.setC 4 (.int .i64 (f.data.length : Int))).thaws
  have y6 := ((B1.setC 4 (.int .i64 (f.data.length : Int))).setC 3 nilS).cell 6 (.bool f.tail) rfl
  have yu := ((B1.setC 4 (.int .i64 (f.data.length : Int))).setC 3 nilS).thaws
  have v3 := B3.cell 3 nilS rfl
  have v4 := B3.thaws
  have z12 := B4.cell 12 (.slice p f.runs.length q) rfl
  have u12 := B5.cell 12 (.slice p f.runs.length q) rfl
  have u13 := B5.thaws
  clear e h hR h1 h2 h3 h4 h5 h6 g2 g3 g5 oB8 oR8 g8 B1 B2 B3 b3 B4 B5 B6 B7 B8 hr hC
  generalize f.data.length = n at *
  generalize f.runs.length = m at *
  generalize KeepPost f w = Q at *
  obtain ⟨kind, stream, offset, data, size, fin, tail, limit, uni, code, own, delay, runs, marks, c0, c1, c2⟩ := f
  simp only at hk x0 x4 y6
  rcases hk with rfl | rfl
  all_goals as_aux_lemma =>
    go_enter Try.func39, Try.ntmps39
    go_upto_region 5 with fail
    rw [← hW2]
    clear hW2
    go_upto_region 16 with fail
    generalize ((W2.setCell ⟨w.heap.size, 4, none⟩ (.int .i64 (n : Int))).setCell ⟨w.heap.size, 3, none⟩ (.slice none 0 0)).setCell ⟨w.heap.size, 6, none⟩ (.bool false) = W3 at *
    go_upto_region 17 with (at_builtin; refine wpList_append_run _ rfl (Operand.const (.slice none 0 0)) (Operand.tmp 27) 22 22 rfl (.slice none 0 0) (.slice none 0 0) rfl rfl (hap 22) ?_)
    generalize W3.setCell ⟨w.heap.size, 3, none⟩ (.slice none 0 0) = W4 at *
    go_upto_region 18 with (at_builtin; refine wpList_append_run _ rfl (Operand.const (.slice none 0 0)) (Operand.tmp 31) 23 23 rfl (.slice none 0 0) (.slice p m q) rfl rfl (hapr 23) ?_)
    go_wp2_with (first | (refine wpList_load_row rfl _ _ rfl w.heap.size rfl 26 C (0, 0) _ (unhide B67).1 Try.underlying26 rfl iC ?_) | (refine wpList_store_row rfl _ _ _ rfl (w.heap.size + 1) C rfl rfl 26 _ (unhide B67).2 iC (by rw [C17]; rfl) C1 ?_))
    refine bodyPost_ret (results_ct (p := 2) (u := 3) (tp := 26) Try.results39 _ _ (w.heap.size + 1) C _ rfl (unhide B8') Try.underlying26 rfl iC) rfl ?_
    exact unhide FIN

theorem keep_any (f : Fr) (d r : Value) (w : World) (hR : FrR w f d r) (hd : f.data.length ≤ 140737488351232) (hr : f.runs.length * 16 ≤ 140737488351232) : Calls Try.prog 39 #[f.val d r] w (KeepPost f w) := by
  have : keepS f.kind = 0 ∨ keepS f.kind = 1 ∨ keepS f.kind = 2 := by unfold keepS; (repeat' split) <;> omega
  rcases this with h | h | h
  · exact keep_zero f d r w h
  · exact keep_as f d r w h hR hd hr
  · exact keep_data f d r w h hR hr
end Go.Proofs.Ytggjeamondampaa

namespace Go.Proofs.Ytggjeamondampaa
open Go.RowKit
set_option linter.unusedVariables false
set_option maxRecDepth 100000
set_option maxHeartbeats 4000000

theorem kinds_keep (k : Int) (own : Bool) : (elicF k = true → allowF 2 k own = true) ∧ (allowF 0 k own = allowF 1 k own) ∧ (allowF 0 k own = true → allowF 2 k own = true) ∧ allowF 3 k own = false ∧
    (0 < keepS k → elicF k = true) ∧ (keepS k = 0 → elicF k = false ∨ k = 1 ∨ k = 26 ∨ k = 27) := by
  have e2 : allowF 2 k own = isKindF k := rfl
  have e0 : allowF 0 k own = allowF 1 k own := rfl
  have hid : isKindF k = true → _ := kind_dom (k := k)
  have hki : (k = 0 ∨ k = 1 ∨ k = 2 ∨ k = 4 ∨ k = 5 ∨ k = 6 ∨ k = 8 ∨ k = 16 ∨ k = 17 ∨ k = 18 ∨ k = 20 ∨ k = 21 ∨ k = 22 ∨ k = 26 ∨ k = 27 ∨ k = 28 ∨ k = 30) → isKindF k = true := fun h => by
    rcases h with rfl | rfl | rfl | rfl | rfl | rfl | rfl | rfl | rfl | rfl | rfl | rfl | rfl | rfl | rfl | rfl | rfl <;> rfl
  refine ⟨fun h => ?_, e0, fun h => ?_, rfl, fun h => ?_, fun h => ?_⟩
  · rw [e2]; unfold elicF at h; split at h
    · cases h
    · exact h
  · rw [e2]
    apply hki
    have e : allowF 0 k own = (if k = 0 ∨ k = 1 ∨ k = 2 ∨ k = 6 then true else if k = 28 then !own else false) := rfl
    rw [e] at h
    split at h
    · omega
    · split at h
      · omega
      · cases h
  · unfold keepS at h
    unfold elicF
    have : k = 6 ∨ k = 8 ∨ k = 4 ∨ k = 5 ∨ k = 16 ∨ k = 17 ∨ k = 18 ∨ k = 20 ∨ k = 21 ∨ k = 22 ∨ k = 30 := by
      split at h
      · omega
      · split at h
        · omega
        · omega
    rw [if_neg (by omega)]
    exact hki (by omega)
  · by_cases hk : isKindF k = true
    · have := hid hk
      unfold keepS at h
      unfold elicF
      split at h
      · cases h
      · split at h
        · cases h
        · by_cases c : k = 0 ∨ k = 2 ∨ k = 28
          · rw [if_pos c]; exact .inl rfl
          · exact .inr (by omega)
    · left
      unfold elicF
      split
      · rfl
      · simpa using hk

/-- Keep, its frame folded. -/
theorem keep_folded (f : Fr) (d r : Value) (w : World) (hR : FrR w f d r) (hd : f.data.length ≤ 140737488351232) (hr : f.runs.length * 16 ≤ 140737488351232) :
    Calls Try.prog 39 #[f.val d r] w fun e w' => ∃ C2 : Array Value, e = .returned (.tuple #[.agg C2, .bool (decide (0 < keepS f.kind))]) ∧ C2.size = 17 ∧ C2.all (·.oneCell') = true ∧
      Hid (∃ d' r', C2 = (keepF f).cs d' r' ∧ OwnB w.heap.size w' d' (keepF f).data ∧ OwnR w.heap.size w' r' (keepF f).runs ∧ w.grownBy w' none) := by
  refine (keep_any f d r w hR hd hr).mono ?_
  rintro e w' ⟨d', r', rfl, h1, h2, h3⟩
  refine ⟨_, rfl, rfl, ?_, d', r', rfl, h1, h2, h3⟩
  apply one17
  · obtain ⟨a, c, e⟩ := h1.shape; rw [e]; rfl
  · obtain ⟨a, c, e, -⟩ := h2.rd; rw [e]; rfl
end Go.Proofs.Ytggjeamondampaa

namespace Go.Proofs.Ytggjeamondampaa
open Go.RowKit
set_option linter.unusedVariables false
set_option linter.unusedSimpArgs false
set_option maxRecDepth 100000
set_option maxHeartbeats 4000000

theorem shape_pad {k : Int} {bare : Fr} {l : Parts} (hs : shapeF k = some (bare, l)) (h : l.1 = 14) : l = (14, 0, 0, 0) := by
  have hd := shape_list hs
  rcases hd with rfl | rfl | rfl | rfl | rfl | rfl | rfl | rfl | rfl | rfl | rfl | rfl | rfl | rfl | rfl | rfl | rfl | rfl | rfl | rfl | rfl | rfl | rfl | rfl | rfl | rfl | rfl | rfl
  all_goals (cases hs; first | rfl | exact absurd h (by decide))
theorem tell_data {f : Fr} {n rs : List Int} (ht : tellF f = .inl (n, rs)) : f.data.length ≤ rs.length := by
  unfold tellF at ht
  split at ht
  · split at ht
    · cases ht
    · rename_i bare l hs
      split at ht
      · rename_i hm
        cases ht
        unfold restF
        split
        · rename_i h14
          have hl := shape_pad hs h14
          subst hl
          have h2 : f.data = [] := (may_fields hm).2.1
          rw [h2]; simp
        · exact Nat.le_refl _
      · cases ht
  · cases ht

/-- What Decode answers, both ways alike. -/
def DecA (w : World) (f : Fr) (m : Nat) (e0 : Int) (e : Ending) (w' : World) : Prop :=
  ∃ C : Array Value, e = .returned (.tuple #[.agg C, .int .i64 (m : Int), .int .i64 e0]) ∧ C.size = 17 ∧ C.all (·.oneCell') = true ∧ w.grownBy w' none ∧ Hid (∃ d r, C = f.cs d r ∧ OwnB w.heap.size w' d f.data ∧ OwnR w.heap.size w' r f.runs)
theorem dec_one (l : List Int) (k : Int) (hb : ∀ x ∈ l, IsB x) (hl : l.length ≤ 1048576) : ∃ (f : Fr) (m : Nat) (e0 : Int), ((∀ z ∈ f.data, IsB z) ∧ f.data.length ≤ 140737488355000 ∧ f.runs.length ≤ 200000000) ∧ ∀ w e w', DecR w l k e w' → DecA w f m e0 e w' := by
  have err : ∀ e0 : Int, ((0 ≤ k ∧ k ≤ l.length ∧ decF (l.drop k.toNat) = .inr e0) ∨ ((k < 0 ∨ (l.length : Int) < k) ∧ e0 = 1)) → ∃ (f : Fr) (m : Nat) (e0 : Int), ((∀ z ∈ f.data, IsB z) ∧ f.data.length ≤ 140737488355000 ∧ f.runs.length ≤ 200000000) ∧ ∀ w e w', DecR w l k e w' → DecA w f m e0 e w' := fun e0 h0 =>
    ⟨Fr.zero, 0, e0, ⟨(fun z hz => by cases hz), (by simp [Fr.zero]), (by simp [Fr.zero])⟩, fun w e w' h => by
      rcases h with ⟨C, m, rfl, c1, c2, g, hh⟩ | ⟨e', h1, rfl, g⟩
      · obtain ⟨a1, a2, f', l1, d', r', a3, -⟩ := unhide hh
        exfalso
        rcases h0 with ⟨-, -, h0⟩ | ⟨h0, -⟩
        · rw [a3] at h0; cases h0
        · omega
      · have : e' = e0 := by
          rcases h0 with ⟨b1, b2, h0⟩ | ⟨b1, rfl⟩ <;> rcases h1 with ⟨c1, c2, h1⟩ | ⟨c1, rfl⟩
          · rw [h0] at h1; cases h1; rfl
          · omega
          · omega
          · rfl
        subst this
        exact ⟨Z17, rfl, rfl, one17 Fr.zero nilS nilS rfl rfl, g, nilS, nilS, rfl, World.ownsRow_nil _ _ _ _, World.ownsRow_nil _ _ _ _⟩⟩
  by_cases hin : 0 ≤ k ∧ k ≤ l.length
  · cases hd : decF (l.drop k.toNat) with
    | inr e0 => exact err e0 (.inl ⟨hin.1, hin.2, hd⟩)
    | inl p =>
      obtain ⟨f, l1⟩ := p
      refine ⟨f, l.length - l1.length, 0, ?_, fun w e w' h => ?_⟩
      · obtain ⟨n, rs, ht, h1, h2, h3, h4⟩ := read_pure (fun x hx => hb x (List.mem_of_mem_drop hx)) hd
        rw [List.length_drop] at h1 h3
        refine ⟨h4, ?_, by omega⟩
        have := tell_data ht
        omega
      · rcases h with ⟨C, m, rfl, c1, c2, g, hh⟩ | ⟨e', h1, rfl, g⟩
        · obtain ⟨a1, a2, f', l1', d', r', a3, a4, a5, a6, a7⟩ := unhide hh
          rw [hd] at a3
          cases a3
          exact ⟨C, by rw [a4], c1, c2, g, d', r', a5, a6, a7⟩
        · exfalso
          rcases h1 with ⟨-, -, h1⟩ | ⟨h1, -⟩
          · rw [hd] at h1; cases h1
          · omega
  · exact err 1 (.inr ⟨by omega, rfl⟩)
end Go.Proofs.Ytggjeamondampaa

namespace Go.Proofs.Ytggjeamondampaa
open Go.RowKit
set_option linter.unusedVariables false
set_option linter.unusedSimpArgs false
set_option maxRecDepth 100000

/-- The frames from a place on, each with its place; where it stops, and why. -/
inductive AllP (l : List Int) : Nat → List (Nat × Fr) → Nat → Int → Prop
  | stop {k : Nat} : l.length ≤ k → AllP l k [] k 0
  | bad {k : Nat} {e : Int} : k < l.length → decF (l.drop k) = .inr e → AllP l k [] k e
  | next {k : Nat} {f : Fr} {l1 : List Int} {L : List (Nat × Fr)} {j : Nat} {e : Int} : k < l.length → decF (l.drop k) = .inl (f, l1) → AllP l (l.length - l1.length) L j e → AllP l k ((k, f) :: L) j e
theorem dec_far {l l1 : List Int} {f : Fr} {k : Nat} (hb : ∀ x ∈ l, IsB x) (hk : k < l.length) (h : decF (l.drop k) = .inl (f, l1)) : k < l.length - l1.length ∧ l.length - l1.length ≤ l.length := by
  obtain ⟨n, rs, -, h1, h2, -⟩ := read_pure (fun x hx => hb x (List.mem_of_mem_drop hx)) h
  rw [List.length_drop] at h1
  omega
theorem all_total {l : List Int} (hb : ∀ x ∈ l, IsB x) : ∀ (n k : Nat), l.length - k ≤ n → ∃ L j e, AllP l k L j e := by
  intro n
  induction n with
  | zero => exact fun k h => ⟨_, _, _, .stop (by omega)⟩
  | succ n ih =>
    intro k h
    by_cases c : k < l.length
    · cases hd : decF (l.drop k) with
      | inr e => exact ⟨_, _, _, .bad c hd⟩
      | inl p =>
        obtain ⟨f, l1⟩ := p
        have hf := dec_far hb c hd
        obtain ⟨L, j, e, hA⟩ := ih (l.length - l1.length) (by omega)
        exact ⟨_, _, _, .next c hd hA⟩
    · exact ⟨_, _, _, .stop (by omega)⟩
/-- What may be of a frame that was read. -/
def FrOk (f : Fr) : Prop := (∀ z ∈ f.data, IsB z) ∧ f.data.length ≤ 140737488355000 ∧ f.runs.length ≤ 200000000
theorem dec_frok {l l1 : List Int} {f : Fr} {k : Nat} (hb : ∀ x ∈ l, IsB x) (hl : l.length ≤ 1048576) (h : decF (l.drop k) = .inl (f, l1)) : FrOk f := by
  obtain ⟨n, rs, ht, h1, h2, h3, h4⟩ := read_pure (fun x hx => hb x (List.mem_of_mem_drop hx)) h
  rw [List.length_drop] at h1 h3
  refine ⟨h4, ?_, by omega⟩
  have := tell_data ht
  omega
theorem AllP.len {l : List Int} (hb : ∀ x ∈ l, IsB x) {k j : Nat} {L : List (Nat × Fr)} {e : Int} (h : AllP l k L j e) : L.length ≤ l.length - k := by
  induction h with
  | stop _ => exact Nat.zero_le _
  | bad _ _ => exact Nat.zero_le _
  | next c hd _ ih =>
    have := dec_far hb c hd
    rw [List.length_cons]
    omega
theorem AllP.ok {l : List Int} (hb : ∀ x ∈ l, IsB x) (hl : l.length ≤ 1048576) {k j : Nat} {L : List (Nat × Fr)} {e : Int} (h : AllP l k L j e) : ∀ x ∈ L, FrOk x.2 := by
  induction h with
  | stop _ => exact fun x hx => by cases hx
  | bad _ _ => exact fun x hx => by cases hx
  | next c hd _ ih =>
    intro x hx
    rcases List.mem_cons.1 hx with rfl | hx
    · exact dec_frok hb hl hd
    · exact ih x hx
theorem AllP.end_le {l : List Int} {k j : Nat} {L : List (Nat × Fr)} {e : Int} (h : AllP l k L j e) (hk : k ≤ l.length) : j ≤ l.length ∧ (e = 0 → j = l.length ∨ ∃ i, i < l.length ∧ decF (l.drop i) = .inr 0) := by
  induction h with
  | stop c => exact ⟨hk, fun _ => .inl (by omega)⟩
  | bad c hd => exact ⟨hk, fun e0 => .inr ⟨_, c, by rw [hd, e0]⟩⟩
  | next c hd _ ih => exact ih (by omega)
theorem AllP.err {l : List Int} {k j : Nat} {L : List (Nat × Fr)} {e : Int} (h : AllP l k L j e) : (e = 0 ∨ e = 40 ∨ e = 41 ∨ e = 42) ∧ (e = 0 → l.length ≤ j) := by
  induction h with
  | stop c => exact ⟨.inl rfl, fun _ => c⟩
  | bad c hd =>
    have := decF_err hd
    exact ⟨.inr this, fun e0 => by omega⟩
  | next c hd _ ih => exact ih
/-- The last one ends where it stops. -/
theorem AllP.last {l : List Int} {k j : Nat} {L : List (Nat × Fr)} {e : Int} (h : AllP l k L j e) : L = [] ∧ j = k ∨ ∃ (L' : List (Nat × Fr)) (p : Nat) (f : Fr) (l1 : List Int), L = L' ++ [(p, f)] ∧ p < l.length ∧ decF (l.drop p) = .inl (f, l1) ∧ j = l.length - l1.length := by
  induction h with
  | stop _ => exact .inl ⟨rfl, rfl⟩
  | bad _ _ => exact .inl ⟨rfl, rfl⟩
  | @next k f l1 L j e c hd _ ih =>
    right
    rcases ih with ⟨rfl, rfl⟩ | ⟨L', p, g, l2, rfl, h1, h2, h3⟩
    · exact ⟨[], k, f, l1, rfl, c, hd, rfl⟩
    · exact ⟨(k, f) :: L', p, g, l2, rfl, h1, h2, h3⟩
theorem AllP.fun_ {l : List Int} {k j j' : Nat} {L L' : List (Nat × Fr)} {e e' : Int} (h : AllP l k L j e) (h' : AllP l k L' j' e') : L = L' ∧ j = j' ∧ e = e' := by
  induction h generalizing L' j' e' with
  | stop c =>
    cases h' with
    | stop _ => exact ⟨rfl, rfl, rfl⟩
    | bad c' _ => omega
    | next c' _ _ => omega
  | bad c hd =>
    cases h' with
    | stop c' => omega
    | bad _ hd' => rw [hd] at hd'; cases hd'; exact ⟨rfl, rfl, rfl⟩
    | next _ hd' _ => rw [hd] at hd'; cases hd'
  | next c hd _ ih =>
    cases h' with
    | stop c' => omega
    | bad _ hd' => rw [hd] at hd'; cases hd'
    | next _ hd' h2 =>
      rw [hd] at hd'
      cases hd'
      obtain ⟨rfl, rfl, rfl⟩ := ih h2
      exact ⟨rfl, rfl, rfl⟩
end Go.Proofs.Ytggjeamondampaa

namespace Go.Proofs.Ytggjeamondampaa
open Go.RowKit
set_option linter.unusedVariables false
set_option linter.unusedSimpArgs false
set_option maxRecDepth 100000
set_option maxHeartbeats 1000000

/-- Frames that were collected since B. -/
structure FR (B : Nat) (W : World) (lv : Value) (L : List FV) : Prop where
  row : W.ownsRow B 26 17 lv L.length (clF L)
  own : ApF B W L
  bt : ∀ x ∈ L, ∀ z ∈ x.f.data, IsB z
theorem FR.nil (B : Nat) (W : World) : FR B W (.slice none 0 0) [] := ⟨World.ownsRow_nil _ _ _ _, ⟨fun x hx => (by cases hx), fun x hx => (by cases hx), List.Pairwise.nil, List.Pairwise.nil⟩, fun x hx => (by cases hx)⟩
theorem FR.kpt {B : Nat} {W W' : World} {L : List FV} {lv : Value} (I : FR B W lv L) (hk : ∀ i, B ≤ i → i < W.heap.size → W'.heap[i]? = W.heap[i]?) : FR B W' lv L := by
  have kp : ∀ {e : TypeId} {size m : Nat} {v : Value} {xs : List Value}, W.ownsRow B e size v m xs → W'.ownsRow B e size v m xs := fun {e size m v xs} h => by
    refine ⟨h.1, ?_⟩
    rcases h.2 with h2 | ⟨q, cap, cur, e1, q1, q2, q3⟩
    · exact .inl h2
    · exact .inr ⟨q, cap, cur, e1, q1, (hk q q1 (lt_of_block q2)).trans q2, q3⟩
  exact ⟨kp I.row, ⟨fun x hx => ⟨kp (I.own.dat x hx).1, (I.own.dat x hx).2⟩, fun x hx => ⟨kp (I.own.run x hx).1, (I.own.run x hx).2⟩, I.own.sepd, I.own.sepr⟩, I.bt⟩
theorem FR.onN {B : Nat} {W W' : World} {L : List FV} {lv : Value} (I : FR B W lv L) (gr : W.grownBy W' none) : FR B W' lv L := I.kpt (fun i _ hi => gr.block i hi (by simp))
theorem FR.mono {B B' : Nat} {W : World} {L : List FV} {lv : Value} (I : FR B W lv L) (h : B' ≤ B) : FR B' W lv L := by
  have kp : ∀ {e : TypeId} {size m : Nat} {v : Value} {xs : List Value}, W.ownsRow B e size v m xs → W.ownsRow B' e size v m xs := fun {e size m v xs} h1 => by
    refine ⟨h1.1, ?_⟩
    rcases h1.2 with h2 | ⟨q, cap, cur, e1, q1, q2, q3⟩
    · exact .inl h2
    · exact .inr ⟨q, cap, cur, e1, Nat.le_trans h q1, q2, q3⟩
  exact ⟨kp I.row, ⟨fun x hx => ⟨kp (I.own.dat x hx).1, (I.own.dat x hx).2⟩, fun x hx => ⟨kp (I.own.run x hx).1, (I.own.run x hx).2⟩, I.own.sepd, I.own.sepr⟩, I.bt⟩
theorem FR.shape {B : Nat} {W : World} {L : List FV} {lv : Value} (I : FR B W lv L) : ∃ a c, lv = .slice a L.length c := by
  obtain ⟨a, c, e, -⟩ := row_shapeF I.row
  exact ⟨a, c, e⟩
/-- Lists that a frame of earlier owns lie below. -/
theorem FR.lt {B : Nat} {W : World} {L : List FV} {lv : Value} (I : FR B W lv L) : (∀ y ∈ L, ∀ q, y.d.ownBlock = some q → q < W.heap.size) ∧ (∀ y ∈ L, ∀ q, y.r.ownBlock = some q → q < W.heap.size) :=
  ⟨fun y hy q hq => (World.ownsRow.lt (I.own.dat y hy).1 q hq).2, fun y hy q hq => (World.ownsRow.lt (I.own.run y hy).1 q hq).2⟩
/-- One frame more. -/
theorem FR.push {B Bn : Nat} {W : World} {L : List FV} {lv : Value} (I : FR B W lv L) (x : FV) (hB : B ≤ Bn) (h1 : OwnB Bn W x.d x.f.data) (h2 : OwnR Bn W x.r x.f.runs) (ok : FrOk x.f) (hBW : B ≤ W.heap.size)
    (hd : ∀ y ∈ L, ∀ q, y.d.ownBlock = some q → q < Bn) (hr : ∀ y ∈ L, ∀ q, y.r.ownBlock = some q → q < Bn) (few : L.length ≤ 100000000) :
    ∃ a' c' W', (∀ ty, (Builtin.append_ #[47, 47] ty #[lv, .slice (some ⟨W.heap.size, 0, none⟩) 1 1]).run Try.prog (W.alloc (.cells x.C 26)) = .ok (.slice a' (L.length + 1) c') W') ∧ FR B W' (.slice a' (L.length + 1) c') (L ++ [x]) ∧ (W.alloc (.cells x.C 26)).grownBy W' lv.ownBlock := by
  obtain ⟨hb, l1, l2⟩ := ok
  obtain ⟨inf, hi0, hz0, hz1, hz2⟩ := info_parts Try.infoF
  have gA := World.grownBy_alloc W (.cells x.C 26) none
  have one : x.C.all (·.oneCell') = true := by
    obtain ⟨_, _, e1, -⟩ := row_shapeF h1
    obtain ⟨_, _, e2, -⟩ := row_shapeF h2
    exact one17 _ _ _ (by rw [e1]; rfl) (by rw [e2]; rfl)
  obtain ⟨v', W', hrn, ho, hm, -⟩ := Rl.app_keepN (P := Try.prog) (W.alloc (.cells x.C 26)) B 47 47 26 inf (.agg Z17) 17 160 Try.underlying47 hi0 hz0 hz1 (by decide) hz2 rfl lv L.length (clF L) (World.ownsRow.kept I.row gA (by cases lv.ownBlock <;> simp)) ⟨W.heap.size, 0, none⟩ 1 1 x.C.toList (by rw [Array.length_toList, x.size]) (fun j u hu => by
    rw [show (⟨W.heap.size, 0, none⟩ : Addr).add j = ⟨W.heap.size, j, none⟩ by simp [Addr.add]; exact fun e => e.symm]
    simp only [World.cell?, heap_alloc_new]
    simpa using hu) (fun u hu => by
    have := Array.all_eq_true_iff_forall_mem.1 one u (by simpa using hu)
    exact this) (by decide) (by unfold maxLen; omega) (by omega) (Nat.le_trans hBW gA.size)
  obtain ⟨a', c', rfl, -⟩ := row_shapeF ho
  refine ⟨a', c', W', fun _ => hrn, ?_, hm.gr⟩
  have IA := I.onN gA
  have g4 := hm.gr
  have kp : ∀ {e : TypeId} {size m : Nat} {v : Value} {xs : List Value} {Bq : Nat}, (W.alloc (.cells x.C 26)).ownsRow Bq e size v m xs → e ≠ 26 → W'.ownsRow Bq e size v m xs := fun {e size m v xs Bq} h he => World.ownsRow.kept h g4 (Rl.rows_apart h IA.row he)
  have dA := h1.keepN gA
  have rA : OwnR Bn (W.alloc (.cells x.C 26)) x.r x.f.runs := World.ownsRow.kept h2 gA (by cases x.r.ownBlock <;> simp)
  refine ⟨?_, ⟨fun y hy => ?_, fun y hy => ?_, ?_, ?_⟩, fun y hy => ?_⟩
  · rw [List.length_append, show clF (L ++ [x]) = clF L ++ x.C.toList by simp [clF]]
    exact ho
  · rcases List.mem_append.1 hy with hy | hy
    · exact ⟨kp (IA.own.dat y hy).1 (by decide), (I.own.dat y hy).2⟩
    · obtain rfl := List.mem_singleton.1 hy; exact ⟨(show OwnB Bn W' y.d y.f.data from kp dA (by decide)).mono hB, l1⟩
  · rcases List.mem_append.1 hy with hy | hy
    · exact ⟨kp (IA.own.run y hy).1 (by decide), (I.own.run y hy).2⟩
    · obtain rfl := List.mem_singleton.1 hy; exact ⟨(show OwnR Bn W' y.r y.f.runs from kp rA (by decide)).mono hB, l2⟩
  · rw [List.map_append]
    refine sep_snoc I.own.sepd (fun u hu => ?_)
    obtain ⟨y, hy, rfl⟩ := List.mem_map.1 hu
    unfold Bg.sepV
    cases hv : y.d.ownBlock with
    | none => exact .inl rfl
    | some q => right; intro e; have := hd y hy q hv; have := (World.ownsRow.lt h1 q e.symm).1; omega
  · rw [List.map_append]
    refine sep_snoc I.own.sepr (fun u hu => ?_)
    obtain ⟨y, hy, rfl⟩ := List.mem_map.1 hu
    unfold Bg.sepV
    cases hv : y.r.ownBlock with
    | none => exact .inl rfl
    | some q => right; intro e; have := hr y hy q hv; have := (World.ownsRow.lt h2 q e.symm).1; omega
  · rcases List.mem_append.1 hy with hy | hy
    · exact I.bt y hy
    · obtain rfl := List.mem_singleton.1 hy; exact hb
end Go.Proofs.Ytggjeamondampaa

namespace Go.Proofs.Ytggjeamondampaa.Fl
open Go.RowKit Go.Proofs.Ytggjeamondampaa
set_option maxRecDepth 100000
set_option linter.unusedVariables false
set_option linter.unusedSimpArgs false
set_option pp.deepTerms true
set_option pp.maxSteps 10000000
set_option maxHeartbeats 2000000

def mkA (i k : Nat) : Int := 1000 * (i : Int) + (k : Int)
def cA (i : Nat) : Int := -1 - (i : Int)
/-- A frame that is a mark. -/
def zM (x y : Int) : List Value := [.int .i64 x, .int .i64 0, .int .i64 0, .slice none 0 0, .int .i64 y, .bool false, .bool false, .int .i64 0, .bool false, .int .i64 0, .bool false, .int .i64 0, .slice none 0 0, .bool false, .int .i64 0, .int .i64 0, .int .i64 0]
theorem zM_one (x y : Int) : ∀ v ∈ zM x y, v.oneCell' = true := fun v hv => by
  simp only [zM, List.mem_cons, List.not_mem_nil, or_false] at hv
  rcases hv with rfl | rfl | rfl | rfl | rfl | rfl | rfl | rfl | rfl | rfl | rfl | rfl | rfl | rfl | rfl | rfl | rfl <;> rfl
def zc (x : Int) : List Value := zM x (-2)
/-- Cells side by side are written into a row of one's own. -/
theorem storedN {B size n g cap : Nat} {e : TypeId} : ∀ (vs : List Value) (o : Nat) (xs : List Value) (w : World), w.ownsRow B e size (.slice (some ⟨g, 0, none⟩) n cap) n xs →
    ∃ ys, (w.setCells g o vs).ownsRow B e size (.slice (some ⟨g, 0, none⟩) n cap) n ys ∧ w.grownBy (w.setCells g o vs) (some g) ∧ (∀ j, j < o ∨ o + vs.length ≤ j → ys[j]? = xs[j]?) ∧ ∀ j, j < vs.length → o + j < xs.length → ys[o + j]? = vs[j]?
  | [], o, xs, w, h => ⟨xs, h, World.grownBy.refl w _, fun _ _ => rfl, fun j hj => by simp at hj⟩
  | v :: vs, o, xs, w, h => by
    have s1 := h.stored o v
    obtain ⟨ys, h1, h2, h3, h4⟩ := storedN vs (o + 1) (xs.set o v) (w.setCell ⟨g, o, none⟩ v) s1.1
    refine ⟨ys, h1, s1.2.trans h2, fun j hj => ?_, fun j hj hx => ?_⟩
    · rw [List.length_cons] at hj
      rw [h3 j (by omega), List.getElem?_set_ne (by omega)]
    · cases j with
      | zero =>
        rw [Nat.add_zero, h3 o (by omega), List.getElem?_set_self (by omega)]
        rfl
      | succ j =>
        rw [List.length_cons] at hj
        have := h4 j (by omega) (by rw [List.length_set]; omega)
        rw [show o + (j + 1) = o + 1 + j by omega, this]
        rfl

section
variable {P : Program}
theorem app_keepN (w : World) (base : Nat) (t ty e : TypeId) (i : TypeInfo) (z : Value) (size bytes : Nat) (ht : P.underlying t = some (.slice e)) (hi : P.info? e = some i) (hz : i.zero = some z)
    (hsize : i.size = size) (hsz : 0 < size) (hby : i.bytes = bytes) (hzs : z.cells.size = size)
    (v : Value) (n : Nat) (xs : List Value) (hown : w.ownsRow base e size v n xs)
    (a : Addr) (m c : Nat) (news : List Value) (hl : news.length = m * size) (hnews : ∀ j u, news[j]? = some u → w.cell? (a.add j) = some u) (h1 : ∀ u ∈ news, u.oneCell' = true)
    (hm : 0 < m) (h63 : n + m ≤ maxLen) (hbytes : (n + m) * bytes ≤ 140737488355328) (hbase : base ≤ w.heap.size) :
    ∃ v' w', (Builtin.append_ #[t, t] ty #[v, .slice (some a) m c]).run P w = .ok v' w' ∧ w'.ownsRow base e size v' (n + m) (xs ++ news) ∧ Moved w w' v v' ∧ v' ≠ .slice none 0 0 := by
  obtain ⟨v', w', hr, ho, hg, hnil⟩ := run_append_own (P := P) w base t ty e i z size bytes ht hi hz hsize hby hzs hsz v n xs hown a m c news hl hnews h1 h63 hbytes hbase
  refine ⟨v', w', hr, ho, ?_, fun h => by have := (hnil.1 h).2; omega⟩
  have h63' : n + m ≤ 9223372036854775807 := by simp only [maxLen] at h63; omega
  rcases hown.2 with ⟨rfl, rfl⟩ | ⟨g, cap, cur, rfl, hbg, hgg, hnc, hcm, hcs, htake⟩
  · have := run_append_nil (P := P) w t ty e i z ht hi hz a m c news (by rw [hsize]; exact hl) hnews hm (by omega) (by rw [hby]; simp only [Nat.zero_add] at hbytes; omega)
    rw [this] at hr
    injection hr with e1 e2
    subst e1 e2
    exact .inr ⟨rfl, grown_drew_alloc w _⟩
  · by_cases hroom : n + m ≤ cap
    · have := run_append_room (P := P) w t ty e i ht hi g n cap cur hgg a m c news (by rw [hsize]; exact hl) hnews h1 hroom (by rw [hsize, hcs, hl, ← Nat.add_mul]; exact Nat.mul_le_mul_right _ hroom)
      rw [this] at hr
      injection hr with e1 e2
      subst e1
      exact .inl ⟨rfl, hg⟩
    · have := run_append_grow (P := P) w t ty e i z ht hi hz ⟨g, 0, none⟩ n cap xs (by rw [hsize]; exact hown.1) (hown.cells (g := g) rfl) a m c news (by rw [hsize]; exact hl) hnews (by omega) (by omega) (growslice_fits (by omega) (by rw [hby]; exact hbytes))
      rw [this] at hr
      injection hr with e1 e2
      subst e1 e2
      exact .inr ⟨rfl, grown_drew_alloc w _⟩

end
theorem ownsRow_open {w : World} {base size : Nat} {e : TypeId} {v : Value} {n : Nat} {xs : List Value} (h : w.ownsRow base e size v n xs) (hn : n ≠ 0) : ∃ g cap, v = .slice (some ⟨g, 0, none⟩) n cap ∧ base ≤ g ∧ g < w.heap.size ∧ n ≤ cap ∧ cap ≤ maxLen := by
  have hl := h.lt
  rcases h.2 with ⟨_, h0⟩ | ⟨g, cap, cur, rfl, hb, hg, hnc, hm, _⟩
  · exact absurd h0 hn
  · exact ⟨g, cap, rfl, hb, (hl g rfl).2, hnc, hm⟩
theorem ownsRow_block {w : World} {base size : Nat} {e : TypeId} {v : Value} {n : Nat} {xs : List Value} (h : w.ownsRow base e size v n xs) : ∀ g, v.ownBlock = some g → ∃ c, w.heap[g]? = some (.cells c e (0, 0)) := by
  intro g hg
  rcases h.2 with ⟨rfl, _⟩ | ⟨g', cap, cur, rfl, _, hh, _⟩
  · simp [Value.ownBlock] at hg
  · simp [Value.ownBlock] at hg
    subst hg
    exact ⟨cur, hh⟩

theorem keptM {w w' : World} {y y' v : Value} {e : TypeId} {B n size : Nat} {xs : List Value} (h : Moved w w' y y') (ho : w.ownsRow B e size v n xs) (hs : v.ownBlock = none ∨ v.ownBlock ≠ y.ownBlock) : w'.ownsRow B e size v n xs := by
  rcases h with ⟨_, hg⟩ | ⟨_, hg, _⟩
  · exact ho.kept hg hs
  · exact ho.kept hg (by cases v.ownBlock <;> simp)
theorem rows_apart {e e' : TypeId} {v v' : Value} {n n' s1 s2 : Nat} {xs xs' : List Value} {wr : World} {B B' : Nat} (h : wr.ownsRow B e s1 v n xs) (h' : wr.ownsRow B' e' s2 v' n' xs') (hne : e ≠ e') : v.ownBlock = none ∨ v.ownBlock ≠ v'.ownBlock := by
  cases hv : v.ownBlock with
  | none => exact .inl rfl
  | some g =>
    right
    intro e1
    obtain ⟨c, h1⟩ := ownsRow_block h g hv
    obtain ⟨c', h2⟩ := ownsRow_block h' g e1.symm
    rw [h1] at h2
    simp at h2
    exact hne h2.2

/-- The lists that are held against one another: where each lies, how long it is, its room. -/
structure Held where
  m : Nat
  ad : Nat → Option Addr
  ns : Nat → Nat
  cp : Nat → Nat
  cb : Array Value
def Held.v (h : Held) (j : Nat) : Value := .slice (h.ad j) (h.ns j) (h.cp j)

structure Held.Fit (h : Held) : Prop where
  cell : ∀ j, j < h.m → h.cb[j]? = some (h.v j)
  sep : ∀ i j, i < h.m → j < h.m → i ≠ j → (h.v i).ownBlock = none ∨ (h.v i).ownBlock ≠ (h.v j).ownBlock
  small : ∀ j, j < h.m → h.ns j ≤ 2000000
  few : h.m ≤ 1000

section
variable {H : Held} {w0 wr : World} {B b : Nat}

/-- The first phase: the first i lists are written full, of the next one k places. -/
structure A1 (H : Held) (w0 : World) (B b : Nat) (wr : World) (i k : Nat) : Prop where
  blk : wr.heap[b]? = some (.cells H.cb 47 (0, 0))
  own : ∀ j, j < H.m → ∃ xs, wr.ownsRow B 26 17 (H.v j) (H.ns j) xs ∧ ∀ q, q < H.ns j → (j < i ∨ (j = i ∧ q < k)) → xs[q * 17]? = some (.int .i64 (mkA j q))
  bel : Below B w0 wr
  low : B ≤ b

theorem A1.next {i : Nat} (h : A1 H w0 B b wr i (H.ns i)) : A1 H w0 B b wr (i + 1) 0 :=
  ⟨h.blk, fun j hj => by
    obtain ⟨xs, h1, h2⟩ := h.own j hj
    refine ⟨xs, h1, fun q hq hd => h2 q hq ?_⟩
    by_cases e : j = i
    · subst e; exact .inr ⟨rfl, hq⟩
    · left; omega, h.bel, h.low⟩

theorem cellB (hb : wr.heap[b]? = some (.cells H.cb 47 (0, 0))) (hf : H.Fit) (j : Nat) (hj : j < H.m) : wr.cell? ⟨b, j, none⟩ = some (.slice (H.ad j) (H.ns j) (H.cp j)) := by
  simp only [World.cell?, hb]
  simpa [Held.v] using hf.cell j hj

theorem neB (hb : wr.heap[b]? = some (.cells H.cb 47 (0, 0))) {g : Nat} {c : Array Value} (hg : wr.heap[g]? = some (.cells c 26 (0, 0))) : b ≠ g := by
  intro e
  subst e
  rw [hb] at hg
  simp at hg

theorem A1.step {i k : Nat} (h : A1 H w0 B b wr i k) (hf : H.Fit) (hi : i < H.m) (hk : k < H.ns i) :
    ∃ g, H.ad i = some ⟨g, 0, none⟩ ∧ H.ns i ≤ H.cp i ∧ H.cp i ≤ maxLen ∧ wr.there g (k * 17) 17
      ∧ A1 H w0 B b (wr.setCells g (k * 17) (zM (mkA i k) (-1))) i (k + 1) := by
  obtain ⟨xs, ho, hx⟩ := h.own i hi
  obtain ⟨g, cap, e, hg, hgl, hnc, hcm⟩ := ownsRow_open ho (by omega)
  have e' := e
  simp only [Held.v, Value.slice.injEq] at e'
  obtain ⟨ea, -, ec⟩ := e'
  rw [e] at ho
  have hl := ho.1
  have hc : ∀ j, j < 17 → wr.cell? ⟨g, k * 17 + j, none⟩ = some (xs.getD (k * 17 + j) (.slice none 0 0)) := fun j hj => by
    rw [ho.cellAt (k * 17 + j) (by omega)]
    simp [List.getD, show k * 17 + j < xs.length by omega]
  obtain ⟨ys, s6, gg, y1, y2⟩ := storedN (zM (mkA i k) (-1)) (k * 17) xs wr ho
  obtain ⟨c, hcb⟩ := ownsRow_block ho g rfl
  refine ⟨g, ea, by omega, by rw [ec]; exact hcm, fun j hj => ⟨by rw [hc j hj]; rfl, ho.frozenAt _⟩, ⟨?_, fun j hj => ?_, h.bel.grown gg (by have := lt_of_block h.blk; have := h.low; omega) (fun k e => by cases e; exact hg), h.low⟩⟩
  · rw [gg.block b (lt_of_block h.blk) (fun e => by cases e; exact neB h.blk hcb rfl)]; exact h.blk
  · by_cases eij : j = i
    · subst eij
      refine ⟨ys, by rw [e]; exact s6, fun q hq hd => ?_⟩
      by_cases eq : k = q
      · subst eq
        have := y2 0 (show 0 < 17 by omega) (by omega)
        rw [Nat.add_zero] at this
        rw [this]; rfl
      · rw [y1 (q * 17) (by rw [show (zM (mkA j k) (-1)).length = 17 from rfl]; omega)]
        exact hx q hq (by omega)
    · obtain ⟨ys, h1, h2⟩ := h.own j hj
      refine ⟨ys, h1.kept gg ?_, fun q hq hd => h2 q hq (by omega)⟩
      rcases hf.sep j i hj hi eij with hs | hs
      · exact .inl hs
      · right; rw [e] at hs; exact hs

/-- What holds of a list that was made longer. -/
def Long (H : Held) (B : Nat) (w : World) (j k : Nat) (u : Value) : Prop :=
  ∃ xs, w.ownsRow B 26 17 u (H.ns j + k) xs ∧ (∀ q, q < H.ns j → xs[q * 17]? = some (.int .i64 (mkA j q))) ∧ ∀ q, H.ns j ≤ q → q < H.ns j + k → xs[q * 17]? = some (.int .i64 (cA j))

/-- The second phase, between two lists. -/
structure A2 (H : Held) (w0 : World) (B b : Nat) (wr : World) (i : Nat) (lv : Value) (ys : List Value) : Prop where
  blk : wr.heap[b]? = some (.cells H.cb 47 (0, 0))
  rd : ∀ j, j < H.m → ∀ q, q < H.ns j → ∃ g, H.ad j = some ⟨g, 0, none⟩ ∧ wr.cell? ⟨g, q * 17, none⟩ = some (.int .i64 (mkA j q))
  own : ∀ j, i ≤ j → j < H.m → Long H B wr j 0 (H.v j)
  typ : ∀ j, j < H.m → ∀ g, (H.v j).ownBlock = some g → ∃ c, wr.heap[g]? = some (.cells c 26 (0, 0))
  len : ys.length = i
  old : ∀ (j : Nat) (u : Value), ys[j]? = some u → Long H B wr j 40 u
  row : wr.ownsRow (b + 1) 47 1 lv i ys
  sep : ∀ (j : Nat) (u : Value), ys[j]? = some u → ∀ q, q < H.m → i ≤ q → u.ownBlock ≠ (H.v q).ownBlock
  bel : Below B w0 wr
  low : B ≤ b

/-- The second phase, within a list: y is made longer. -/
structure A2y (H : Held) (w0 : World) (B b : Nat) (wr : World) (i k : Nat) (y lv : Value) (ys : List Value) : Prop where
  blk : wr.heap[b]? = some (.cells H.cb 47 (0, 0))
  rd : ∀ j, j < H.m → ∀ q, q < H.ns j → ∃ g, H.ad j = some ⟨g, 0, none⟩ ∧ wr.cell? ⟨g, q * 17, none⟩ = some (.int .i64 (mkA j q))
  own : ∀ j, i < j → j < H.m → Long H B wr j 0 (H.v j)
  cur : Long H B wr i k y
  typ : ∀ j, j < H.m → ∀ g, (H.v j).ownBlock = some g → ∃ c, wr.heap[g]? = some (.cells c 26 (0, 0))
  len : ys.length = i
  old : ∀ (j : Nat) (u : Value), ys[j]? = some u → Long H B wr j 40 u
  row : wr.ownsRow (b + 1) 47 1 lv i ys
  sepv : ∀ j, j < H.m → j ≠ i → y.ownBlock = none ∨ y.ownBlock ≠ (H.v j).ownBlock
  sepu : ∀ (j : Nat) (u : Value), ys[j]? = some u → y.ownBlock = none ∨ y.ownBlock ≠ u.ownBlock
  sep : ∀ (j : Nat) (u : Value), ys[j]? = some u → ∀ q, q < H.m → i < q → u.ownBlock ≠ (H.v q).ownBlock
  bel : Below B w0 wr
  low : B ≤ b

theorem A1.turn (h : A1 H w0 B b wr H.m 0) : A2 H w0 B b wr 0 (.slice none 0 0) [] := by
  have ow : ∀ j, j < H.m → Long H B wr j 0 (H.v j) := fun j hj => by
    obtain ⟨xs, h1, h2⟩ := h.own j hj
    exact ⟨xs, h1, fun q hq => h2 q hq (.inl hj), fun q h1 h2 => by omega⟩
  refine ⟨h.blk, fun j hj q hq => ?_, fun j _ hj => ow j hj, fun j hj g hg => ?_, rfl, fun j u hu => by simp at hu, World.ownsRow_nil _ _ _ _, fun j u hu => by simp at hu, h.bel, h.low⟩
  · obtain ⟨xs, h1, h2, _⟩ := ow j hj
    obtain ⟨g, cap, e, _⟩ := ownsRow_open h1 (by omega)
    have e' := e
    simp only [Held.v, Value.slice.injEq] at e'
    rw [e] at h1
    exact ⟨g, e'.1, by rw [h1.cellAt (q * 17) (by omega)]; exact h2 q hq⟩
  · obtain ⟨xs, h1, h2, _⟩ := ow j hj
    exact ownsRow_block h1 g hg

theorem A2.enter {i : Nat} {lv : Value} {ys : List Value} (h : A2 H w0 B b wr i lv ys) (hf : H.Fit) (hi : i < H.m) : A2y H w0 B b wr i 0 (H.v i) lv ys :=
  ⟨h.blk, h.rd, fun j h1 h2 => h.own j (by omega) h2, h.own i (Nat.le_refl _) hi, h.typ, h.len, h.old, h.row, fun j hj hne => hf.sep i j hi hj (Ne.symm hne),
    fun j u hu => .inr (Ne.symm (h.sep j u hu i hi (Nat.le_refl _))), fun j u hu q hq hiq => h.sep j u hu q hq (by omega), h.bel, h.low⟩

theorem A2y.app {i k : Nat} {y lv : Value} {ys : List Value} (h : A2y H w0 B b wr i k y lv ys) (hi : i < H.m) (o : Obj) {W1 : World} {y' : Value} {xs : List Value} (hx : wr.ownsRow B 26 17 y (H.ns i + k) xs) (hm : Moved (wr.alloc o) W1 y y') (ho : W1.ownsRow B 26 17 y' (H.ns i + k + 1) (xs ++ zc (cA i))) :
    A2y H w0 B b W1 i (k + 1) y' lv ys := by
  have hsz := hm.size
  simp only [World.size_alloc] at hsz
  have yb : y.ownBlock ≠ some b := fun e => by
    obtain ⟨c, hc⟩ := ownsRow_block hx b e
    exact neB h.blk hc rfl
  have hl := hx.1
  obtain ⟨xs0, hx0, hx1, hx2⟩ := h.cur
  have exs : xs0 = xs := by
    rcases hx.2 with ⟨rfl, h0⟩ | ⟨g, cap, c, rfl, _, hg, _, _, _, ht⟩
    · have := hx0.1
      simp only [h0, Nat.zero_mul] at this hl
      rw [List.eq_nil_of_length_eq_zero this, List.eq_nil_of_length_eq_zero hl]
    · rcases hx0.2 with ⟨h', _⟩ | ⟨g', cap', c', h', _, hg', _, _, _, ht'⟩
      · simp at h'
      · simp only [Value.slice.injEq, Option.some.injEq, Addr.mk.injEq, and_true, true_and] at h'
        obtain ⟨rfl, rfl⟩ := h'
        rw [hg] at hg'
        simp only [Option.some.injEq, Obj.cells.injEq, and_true] at hg'
        subst hg'
        rw [← ht, ← ht']
  subst exs
  have cur' : Long H B W1 i (k + 1) y' := by
    refine ⟨xs0 ++ zc (cA i), by rw [← Nat.add_assoc]; exact ho, fun q hq => ?_, fun q h1 h2 => ?_⟩
    · rw [List.getElem?_append_left (by omega)]; exact hx1 q hq
    · by_cases e : q < H.ns i + k
      · rw [List.getElem?_append_left (by omega)]; exact hx2 q h1 e
      · have : q * 17 = xs0.length := by omega
        rw [this, List.getElem?_append_right (Nat.le_refl _), Nat.sub_self]
        rfl
  have nb : ∀ g, y'.ownBlock = some g → y.ownBlock = some g ∨ g = wr.heap.size + 1 := fun g hg => by
    rcases hm with ⟨e, _⟩ | ⟨e, _, _⟩
    · left; rw [← e]; exact hg
    · right; rw [e] at hg; simpa using hg.symm
  refine ⟨hm.block (block_alloc h.blk o) yb, fun j hj q hq => ?_, fun j h1 h2 => ?_, cur', fun j hj g hg => ?_, h.len, fun j u hu => ?_, ?_, fun j hj hne => ?_, fun j u hu => ?_, h.sep, ?_, h.low⟩
  · obtain ⟨g, hg, hc⟩ := h.rd j hj q hq
    refine ⟨g, hg, ?_⟩
    by_cases e : y.ownBlock = some g
    · have eji : j = i := by
        by_cases e2 : j = i
        · exact e2
        · rcases h.sepv j hj e2 with hs | hs
          · rw [hs] at e; cases e
          · exact absurd (by rw [e, Held.v, hg]; rfl) hs
      subst eji
      rcases hm with ⟨e3, hgr⟩ | ⟨e3, hgr, _⟩
      · obtain ⟨g2, cap, e4, _⟩ := ownsRow_open ho (by omega)
        rw [e4] at e3 ho
        rw [e] at e3
        simp only [Value.ownBlock, Option.some.injEq] at e3
        subst e3
        rw [ho.cellAt (q * 17) (by omega), List.getElem?_append_left (by omega)]
        exact hx1 q hq
      · exact hgr.cell (cell_alloc hc o) (by simp)
    · exact hm.cell (cell_alloc hc o) e
  · obtain ⟨zs, z1, z2, z3⟩ := h.own j h1 h2
    refine ⟨zs, keptM hm (z1.alloc o) ?_, z2, z3⟩
    rcases h.sepv j h2 (by omega) with hs | hs
    · rw [hs]; cases (H.v j).ownBlock <;> simp
    · exact .inr (Ne.symm hs)
  · obtain ⟨c, hc⟩ := h.typ j hj g hg
    by_cases e : y.ownBlock = some g
    · rcases hm with ⟨e3, hgr⟩ | ⟨e3, hgr, _⟩
      · exact ownsRow_block ho g (by rw [e3]; exact e)
      · exact ⟨c, by rw [hgr.block g (by have := lt_of_block hc; simp; omega) (by simp)]; exact block_alloc hc o⟩
    · exact ⟨c, hm.block (block_alloc hc o) e⟩
  · obtain ⟨zs, z1, z2, z3⟩ := h.old j u hu
    refine ⟨zs, keptM hm (z1.alloc o) ?_, z2, z3⟩
    rcases h.sepu j u hu with hs | hs
    · rw [hs]; cases u.ownBlock <;> simp
    · exact .inr (Ne.symm hs)
  · exact keptM hm (h.row.alloc o) (rows_apart (h.row.alloc o) (hx.alloc o) (by decide))
  · cases hy : y'.ownBlock with
    | none => exact .inl rfl
    | some g =>
      right
      intro e
      rcases nb g hy with h1 | h1
      · rcases h.sepv j hj hne with hs | hs
        · rw [hs] at h1; cases h1
        · exact hs (by rw [h1]; exact e)
      · obtain ⟨c, hc⟩ := h.typ j hj g e.symm
        have := lt_of_block hc
        omega
  · cases hy : y'.ownBlock with
    | none => exact .inl rfl
    | some g =>
      right
      intro e
      rcases nb g hy with h1 | h1
      · rcases h.sepu j u hu with hs | hs
        · rw [hs] at h1; cases h1
        · exact hs (by rw [h1]; exact e)
      · obtain ⟨zs, z1, _⟩ := h.old j u hu
        have := (z1.lt g e.symm).2
        omega
  · exact hm.below (h.bel.alloc (by have := h.bel.size; have := lt_of_block h.blk; have := h.low; omega) o) (by have := lt_of_block h.blk; have := h.low; simp; omega) (fun g hg => (hx.lt g hg).1)

theorem A2y.leave {i : Nat} {y lv : Value} {ys : List Value} (h : A2y H w0 B b wr i 40 y lv ys) (hi : i < H.m) (o : Obj) {W1 : World} {lv' : Value} (hm : Moved (wr.alloc o) W1 lv lv') (ho : W1.ownsRow (b + 1) 47 1 lv' (i + 1) (ys ++ [y])) :
    A2 H w0 B b W1 (i + 1) lv' (ys ++ [y]) := by
  have hsz := hm.size
  simp only [World.size_alloc] at hsz
  have hb : lv.ownBlock ≠ some b := fun e => by have := (h.row.lt b e).1; omega
  have keep : ∀ j k u, Long H B wr j k u → Long H B W1 j k u := fun j k u ⟨xs, h1, h2, h3⟩ =>
    ⟨xs, keptM hm (h1.alloc o) (rows_apart (h1.alloc o) (h.row.alloc o) (by decide)), h2, h3⟩
  have ge : ∀ (j : Nat) (u : Value), (ys ++ [y])[j]? = some u → (ys[j]? = some u) ∨ (j = i ∧ u = y) := fun j u hu => by
    by_cases e : j < ys.length
    · rw [List.getElem?_append_left e] at hu; exact .inl hu
    · rw [List.getElem?_append_right (by omega)] at hu
      have hl := h.len
      match hj : j - ys.length, hu with
      | 0, hu => right; simp at hu; exact ⟨by omega, hu.symm⟩
      | q + 1, hu => simp at hu
  refine ⟨hm.block (block_alloc h.blk o) hb, fun j hj q hq => ?_, fun j h1 h2 => keep j 0 _ (h.own j (by omega) h2), fun j hj g hg => ?_, by simp [h.len], fun j u hu => ?_, ho, fun j u hu q hq hiq => ?_, ?_, h.low⟩
  · obtain ⟨g, hg, hc⟩ := h.rd j hj q hq
    refine ⟨g, hg, hm.cell (cell_alloc hc o) (fun e => ?_)⟩
    obtain ⟨c, h1⟩ := ownsRow_block h.row g e
    obtain ⟨c', h2⟩ := h.typ j hj g (by rw [Held.v, hg]; rfl)
    rw [h1] at h2
    simp at h2
  · obtain ⟨c, hc⟩ := h.typ j hj g hg
    refine ⟨c, hm.block (block_alloc hc o) (fun e => ?_)⟩
    obtain ⟨c', h1⟩ := ownsRow_block h.row g e
    rw [hc] at h1
    simp at h1
  · rcases ge j u hu with h1 | ⟨rfl, rfl⟩
    · exact keep j 40 u (h.old j u h1)
    · exact keep _ 40 _ h.cur
  · rcases ge j u hu with h1 | ⟨rfl, rfl⟩
    · exact h.sep j u h1 q hq (by omega)
    · rcases h.sepv q hq (by omega) with hs | hs
      · obtain ⟨xs, z1, _⟩ := h.cur
        obtain ⟨g, cap, e, _⟩ := ownsRow_open z1 (by omega)
        rw [e] at hs
        simp [Value.ownBlock] at hs
      · exact hs
  · exact hm.below (h.bel.alloc (by have := h.bel.size; have := lt_of_block h.blk; have := h.low; omega) o) (by have := lt_of_block h.blk; have := h.low; simp; omega) (fun g hg => by have := (h.row.lt g hg).1; have := h.low; omega)
end

theorem Long.cells {H : Held} {B : Nat} {w : World} {j : Nat} {u : Value} (h : Long H B w j 40 u) : ∃ g cap, u = .slice (some ⟨g, 0, none⟩) (H.ns j + 40) cap ∧ H.ns j + 40 ≤ cap ∧ cap ≤ maxLen ∧ (∀ q, q < H.ns j → w.cell? ⟨g, q * 17, none⟩ = some (.int .i64 (mkA j q))) ∧ ∀ q, H.ns j ≤ q → q < H.ns j + 40 → w.cell? ⟨g, q * 17, none⟩ = some (.int .i64 (cA j)) := by
  obtain ⟨xs, h1, h2, h3⟩ := h
  obtain ⟨g, cap, rfl, _, _, hc, hm⟩ := ownsRow_open h1 (by omega)
  exact ⟨g, cap, rfl, hc, hm, fun q hq => by rw [h1.cellAt (q * 17) (by omega)]; exact h2 q hq, fun q hq hq2 => by rw [h1.cellAt (q * 17) (by omega)]; exact h3 q hq hq2⟩

theorem Try.infoL : (Try.prog.info? 47).map (fun i => (i.zero, i.size, i.bytes)) = some (some (.slice none 0 0), 1, 24) := by kernel_rfl

theorem app17 {w : World} {B n : Nat} {y : Value} {xs : List Value} (hx : w.ownsRow B 26 17 y n xs) (x : Int) (few : n ≤ 10000000) (hB : B ≤ w.heap.size) :
    ∃ y' W1, (Builtin.append_ #[47, 47] 47 #[y, .slice (some ⟨w.heap.size, 0, none⟩) 1 1]).run Try.prog (w.alloc (.cells #[.int .i64 x, .int .i64 0, .int .i64 0, .slice none 0 0, .int .i64 (-2), .bool false, .bool false, .int .i64 0, .bool false, .int .i64 0, .bool false, .int .i64 0, .slice none 0 0, .bool false, .int .i64 0, .int .i64 0, .int .i64 0] 26)) = .ok y' W1
      ∧ W1.ownsRow B 26 17 y' (n + 1) (xs ++ zc x) ∧ Moved (w.alloc (.cells #[.int .i64 x, .int .i64 0, .int .i64 0, .slice none 0 0, .int .i64 (-2), .bool false, .bool false, .int .i64 0, .bool false, .int .i64 0, .bool false, .int .i64 0, .slice none 0 0, .bool false, .int .i64 0, .int .i64 0, .int .i64 0] 26)) W1 y y' := by
  obtain ⟨inf, hi0, hz0, hz1, hz2⟩ := info_parts Try.infoF
  have hsz := World.size_alloc w (.cells #[.int .i64 x, .int .i64 0, .int .i64 0, .slice none 0 0, .int .i64 (-2), .bool false, .bool false, .int .i64 0, .bool false, .int .i64 0, .bool false, .int .i64 0, .slice none 0 0, .bool false, .int .i64 0, .int .i64 0, .int .i64 0] 26)
  have hnews : ∀ (i : Nat) u, (zc x)[i]? = some u → (w.alloc (.cells #[.int .i64 x, .int .i64 0, .int .i64 0, .slice none 0 0, .int .i64 (-2), .bool false, .bool false, .int .i64 0, .bool false, .int .i64 0, .bool false, .int .i64 0, .slice none 0 0, .bool false, .int .i64 0, .int .i64 0, .int .i64 0] 26)).cell? ((⟨w.heap.size, 0, none⟩ : Addr).add i) = some u := fun i u hu => by
    rw [show (⟨w.heap.size, 0, none⟩ : Addr).add i = ⟨w.heap.size, i, none⟩ by simp [Addr.add]; exact fun e => e.symm]
    simp only [World.cell?, heap_alloc_new]
    rw [← hu]
    simp [zc, zM]
  obtain ⟨y', W1, hr, ho, hm, -⟩ := app_keepN (P := Try.prog) (w.alloc (.cells #[.int .i64 x, .int .i64 0, .int .i64 0, .slice none 0 0, .int .i64 (-2), .bool false, .bool false, .int .i64 0, .bool false, .int .i64 0, .bool false, .int .i64 0, .slice none 0 0, .bool false, .int .i64 0, .int .i64 0, .int .i64 0] 26)) B 47 47 26 inf (.agg Z17) 17 160 Try.underlying47 hi0 hz0 hz1 (by decide) hz2 rfl y n xs (hx.alloc _) ⟨w.heap.size, 0, none⟩ 1 1 (zc x) rfl hnews
    (zM_one x (-2)) (by decide) (by unfold maxLen; omega) (by omega) (by omega)
  exact ⟨y', W1, hr, ho, hm⟩

theorem appL {w : World} {B n : Nat} {y : Value} {xs : List Value} (hx : w.ownsRow B 47 1 y n xs) (v : Value) (h1 : v.oneCell' = true) (few : n ≤ 10000000) (hB : B ≤ w.heap.size) :
    ∃ y' W1, (Builtin.append_ #[57, 57] 57 #[y, .slice (some ⟨w.heap.size, 0, none⟩) 1 1]).run Try.prog (w.alloc (.cells #[v] 47)) = .ok y' W1
      ∧ W1.ownsRow B 47 1 y' (n + 1) (xs ++ [v]) ∧ Moved (w.alloc (.cells #[v] 47)) W1 y y' := by
  obtain ⟨inf, hi0, hz0, hz1, hz2⟩ := info_parts Try.infoL
  have hsz := World.size_alloc w (.cells #[v] 47)
  have hnews : ∀ (i : Nat) u, ([v] : List Value)[i]? = some u → (w.alloc (.cells #[v] 47)).cell? ((⟨w.heap.size, 0, none⟩ : Addr).add i) = some u := fun i u hu => by
    rw [show (⟨w.heap.size, 0, none⟩ : Addr).add i = ⟨w.heap.size, i, none⟩ by simp [Addr.add]; exact fun e => e.symm]
    simp only [World.cell?, heap_alloc_new]
    rw [← hu]
    simp
  obtain ⟨y', W1, hr, ho, hm, -⟩ := app_keepN (P := Try.prog) (w.alloc (.cells #[v] 47)) B 57 57 47 inf (.slice none 0 0) 1 24 Try.underlying57 hi0 hz0 hz1 (by decide) hz2 rfl y n xs (hx.alloc _) ⟨w.heap.size, 0, none⟩ 1 1 [v] rfl hnews
    (fun u hu => by simp at hu; subst hu; exact h1) (by decide) (by unfold maxLen; omega) (by omega) (by omega)
  exact ⟨y', W1, hr, ho, hm⟩

theorem apartLists_any (H : Held) (w0 wr : World) (B b c : Nat) (hf : H.Fit) (ha : A1 H w0 B b wr 0 0) :
    Calls Try.prog 31 #[.slice (some ⟨b, 0, none⟩) H.m c] wr fun e w' => e = .returned (.bool true) ∧ Below B w0 w' := by
  have few := hf.few
  have HF := hide hf; have HA := hide ha
  clear hf ha
  go_enter Try.func31, Try.ntmps31
  go_wp2
  go_loopw [3] (fun i w => ∃ j : Nat, j ≤ H.m ∧ i = .int .i64 j ∧ A1 H w0 B b w j 0) (fun i _ => H.m - (intOf i).toNat)
  case atStart => exact ⟨0, Nat.zero_le _, rfl, unhide HA⟩
  case round =>
    clear HA
    obtain ⟨i, hi, rfl, h1⟩ := hrel
    by_cases hlt : i < H.m
    · have small := (unhide HF).small i hlt
      have A0 := hide h1
      clear h1
      go_wp2
      go_loopw [4] (fun q w => ∃ k : Nat, k ≤ H.ns i ∧ q = .int .i64 k ∧ A1 H w0 B b w i k) (fun q _ => H.ns i - (intOf q).toNat)
      case atStart => exact ⟨0, Nat.zero_le _, rfl, unhide A0⟩
      case round =>
        clear A0
        obtain ⟨k, hk, rfl, h1⟩ := hrel
        have cb := cellB h1.blk (unhide HF) i hlt
        by_cases hlk : k < H.ns i
        · obtain ⟨g, e1, e2, e3, th, h2⟩ := h1.step (unhide HF) hlt hlk
          unfold maxLen at e3
          have w1 : IntKind.i64.wrap (1000 * (i : Int)) = 1000 * (i : Int) := by rw [IntKind.wrap_i64]; omega
          have w2 : IntKind.i64.wrap (1000 * (i : Int) + (k : Int)) = 1000 * (i : Int) + (k : Int) := by rw [IntKind.wrap_i64]; omega
          have A2 := hide h2
          unfold mkA at A2
          obtain ⟨C, hC⟩ : ∃ C : Array Value, C = #[.int .i64 (1000 * (i : Int) + (k : Int)), .int .i64 0, .int .i64 0, .slice none 0 0, .int .i64 (-1), .bool false, .bool false, .int .i64 0, .bool false, .int .i64 0, .bool false, .int .i64 0, .slice none 0 0, .bool false, .int .i64 0, .int .i64 0, .int .i64 0] := ⟨_, rfl⟩
          have eC : zM (1000 * (i : Int) + (k : Int)) (-1) = C.toList := by rw [hC]; rfl
          have TH : Hid (wr.there g (k * 17) C.size) := by rw [hC]; exact th
          have SZ : (Try.prog.info? 26).map (·.size) = some C.size := by rw [hC]; exact Try.size26
          have ON : C.all (·.oneCell') = true := by
            have := Go.all_oneCell_toArray (zM_one (1000 * (i : Int) + (k : Int)) (-1))
            rw [eC] at this
            simpa using this
          rw [eC] at A2
          have HSZ := hide SZ
          have HON := hide ON
          have HC := hide hC
          clear h1 h2 th hC SZ ON eC
          go_wp2_with (refine Go.wpList_store_mid rfl _ _ _ rfl g (k * 17) C rfl (by rw [unhide HC]; rfl) (unhide TH) (unhide HSZ) (unhide HON) ?_)
          go_roundw
          case rel => exact ⟨k + 1, by omega, by go_num, unhide A2⟩
          case measure => simp [intOf]; omega
        · have ek : k = H.ns i := by omega
          subst ek
          have A2 := hide h1.next
          clear h1
          go_wp2
          go_roundw
          case rel => exact ⟨i + 1, by omega, by go_num, unhide A2⟩
          case measure => simp [intOf]; omega
    · have ei : i = H.m := by omega
      subst ei
      have A0 := hide h1.turn
      clear h1 hlt
      go_wp2
      go_loopw [5, 6] (fun lv i w => ∃ (j : Nat) (ys : List Value), j ≤ H.m ∧ i = .int .i64 j ∧ A2 H w0 B b w j lv ys) (fun _ i _ => H.m - (intOf i).toNat)
      case atStart => exact ⟨0, [], Nat.zero_le _, rfl, unhide A0⟩
      case round =>
        clear A0
        obtain ⟨i, ys, hi, rfl, h1⟩ := hrel
        by_cases hlt : i < H.m
        · have small := (unhide HF).small i hlt
          have cb := cellB h1.blk (unhide HF) i hlt
          have A0 := hide (h1.enter (unhide HF) hlt)
          unfold Held.v at A0
          clear h1
          go_wp2
          go_loopw [7, 8] (fun y q w => ∃ k : Nat, k ≤ 40 ∧ q = .int .i64 k ∧ A2y H w0 B b w i k y u5 ys) (fun _ q _ => 40 - (intOf q).toNat)
          case atStart => exact ⟨0, by omega, rfl, unhide A0⟩
          case round =>
            clear A0 cb
            obtain ⟨k, hk, rfl, h1⟩ := hrel
            have hB : B ≤ wr.heap.size := by have := lt_of_block h1.blk; have := h1.low; omega
            have hb1 : b + 1 ≤ wr.heap.size := lt_of_block h1.blk
            have w3 : IntKind.i64.wrap (-1 - (i : Int)) = -1 - (i : Int) := by rw [IntKind.wrap_i64]; omega
            by_cases hlk : k < 40
            · obtain ⟨xs, hx, -⟩ := h1.cur
              obtain ⟨y', W1, hrun, ho, hmv⟩ := app17 hx (cA i) (by omega) hB
              have HN := hide (h1.app hlt _ hx hmv ho)
              have HRUN := hide hrun
              unfold cA at HRUN
              clear hx h1 ho hmv hrun
              go_wp2_with (at_builtin; refine Rl.wpList_append_runQ _ rfl _ _ 47 47 rfl _ _ rfl rfl (unhide HRUN) ?_)
              go_roundw
              case rel => exact ⟨k + 1, by omega, by go_num, unhide HN⟩
              case measure => simp [intOf]; omega
            · have ek : k = 40 := by omega
              subst ek
              obtain ⟨xs, hx, -⟩ := h1.cur
              obtain ⟨g, cap, rfl, -⟩ := ownsRow_open hx (by omega)
              obtain ⟨lv', W1, hrun, ho, hmv⟩ := appL h1.row (.slice (some ⟨g, 0, none⟩) (H.ns i + 40) cap) rfl (by omega) hb1
              have HN := hide (h1.leave hlt _ hmv ho)
              have HRUN := hide hrun
              clear hx h1 ho hmv hrun
              go_wp2_with (at_builtin; refine Rl.wpList_append_runQ _ rfl _ _ 57 57 rfl _ _ rfl rfl (unhide HRUN) ?_)
              go_roundw
              case rel => exact ⟨i + 1, _, by omega, by go_num, unhide HN⟩
              case measure => simp [intOf]; omega
        · have ei : i = H.m := by omega
          subst ei
          have A0 := hide h1
          clear h1 hlt hi
          go_wp2
          go_loop [9] (fun i => ∃ j : Nat, j ≤ H.m ∧ i = .int .i64 j) (fun i => H.m - (intOf i).toNat)
          case atStart => exact ⟨0, Nat.zero_le _, rfl⟩
          case round =>
            obtain ⟨i, hi, rfl⟩ := hrel
            by_cases hlt : i < H.m
            · have small := (unhide HF).small i hlt
              have cb := cellB (unhide A0).blk (unhide HF) i hlt
              have hlen := (unhide A0).len
              obtain ⟨gl, cl, el, -, -, ncl, mcl⟩ := ownsRow_open (unhide A0).row (by omega)
              subst el
              have hu := (unhide A0).row.cellAt i (by omega)
              rw [List.getElem?_eq_getElem (by omega)] at hu
              have lg := (unhide A0).old i _ (List.getElem?_eq_getElem (by omega))
              generalize ys[i] = u at hu lg
              obtain ⟨gu, cu, rfl, ncu, mcu, cu1, cu2⟩ := lg.cells
              have RD := hide ((unhide A0).rd i hlt); have CU1 := hide cu1; have CU2 := hide cu2
              unfold maxLen at mcl mcu
              have w3 : IntKind.i64.wrap (-1 - (i : Int)) = -1 - (i : Int) := by rw [IntKind.wrap_i64]; omega
              have w1 : IntKind.i64.wrap (1000 * (i : Int)) = 1000 * (i : Int) := by rw [IntKind.wrap_i64]; omega
              clear lg cu1 cu2 hlen
              go_wp2
              go_loop [10] (fun q => ∃ k : Nat, k ≤ H.ns i + 40 ∧ q = .int .i64 k) (fun q => H.ns i + 40 - (intOf q).toNat)
              case atStart => exact ⟨0, Nat.zero_le _, rfl⟩
              case round =>
                obtain ⟨k, hk, rfl⟩ := hrel
                have w2 : IntKind.i64.wrap (1000 * (i : Int) + (k : Int)) = 1000 * (i : Int) + (k : Int) := by rw [IntKind.wrap_i64]; omega
                by_cases hlk : k < H.ns i
                · obtain ⟨g, eg, cg⟩ := (unhide RD) k hlk
                  have cu := (unhide CU1) k hlk
                  unfold mkA at cg cu
                  have rr : ((1000 * (i : Int) + (k : Int)) != (1000 * (i : Int) + (k : Int))) = false := by simp
                  go_wp2
                  go_round
                  case rel => exact ⟨k + 1, by omega, by go_num⟩
                  case measure => simp [intOf]; omega
                · by_cases hl2 : k < H.ns i + 40
                  · have cu := (unhide CU2) k (by omega) hl2
                    unfold cA at cu
                    have rr : ((-1 - (i : Int)) != (-1 - (i : Int))) = false := by simp
                    go_wp2
                    go_round
                    case rel => exact ⟨k + 1, by omega, by go_num⟩
                    case measure => simp [intOf]; omega
                  · go_wp2
                    go_round
                    case rel => exact ⟨i + 1, by omega, by go_num⟩
                    case measure => simp [intOf]; omega
            · go_wp2
              go_ret
              exact ⟨rfl, (unhide A0).bel⟩

def heldIn (vs : List Value) (cur : Array Value) : Held := ⟨vs.length, fun j => vad (vs.getD j (.slice none 0 0)), fun j => vns (vs.getD j (.slice none 0 0)), fun j => vcp (vs.getD j (.slice none 0 0)), cur⟩
theorem shape6 {w : World} {base size : Nat} {e : TypeId} {v : Value} {n : Nat} {xs : List Value} (h : w.ownsRow base e size v n xs) : v = .slice (vad v) (vns v) (vcp v) ∧ vns v = n := by
  rcases h.2 with ⟨rfl, rfl⟩ | ⟨g, cap, cur, rfl, _⟩ <;> exact ⟨rfl, rfl⟩
theorem lists_row (vs : List Value) (cur : Array Value) (w0 wr : World) (B b c : Nat) (hB : B ≤ b) (hb : wr.heap[b]? = some (.cells cur 47 (0, 0))) (hcur : cur.toList.take vs.length = vs) (hown : ∀ v ∈ vs, ∃ n xs, wr.ownsRow B 26 17 v n xs ∧ n ≤ 2000000)
    (hsep : vs.Pairwise Bg.sepV) (few : vs.length ≤ 1000) (bel : Below B w0 wr) :
    Calls Try.prog 31 #[.slice (some ⟨b, 0, none⟩) vs.length c] wr fun e w' => e = .returned (.bool true) ∧ Below B w0 w' := by
  have get : ∀ j, j < vs.length → vs[j]? = some (vs.getD j (.slice none 0 0)) := fun j hj => by simp [List.getD, hj]
  have mem : ∀ j, j < vs.length → vs.getD j (.slice none 0 0) ∈ vs := fun j hj => List.mem_of_getElem? (get j hj)
  have hv : ∀ j, j < vs.length → (heldIn vs cur).v j = vs.getD j (.slice none 0 0) := fun j hj => by
    obtain ⟨n, xs, ho, _⟩ := hown _ (mem j hj)
    exact (shape6 ho).1.symm
  have fit : (heldIn vs cur).Fit := by
    refine ⟨fun j hj => ?_, fun i j hi hj hne => ?_, fun j hj => ?_, few⟩
    · rw [hv j hj]
      show cur[j]? = _
      have hj' : j < vs.length := hj
      have e : (cur.toList.take vs.length)[j]? = vs[j]? := by rw [hcur]
      rw [List.getElem?_take, if_pos hj', Array.getElem?_toList] at e
      rw [e]; exact get j hj'
    · rw [hv i hi, hv j hj]
      rw [List.pairwise_iff_getElem] at hsep
      have hi' : i < vs.length := hi
      have hj' : j < vs.length := hj
      have e1 : vs.getD i (.slice none 0 0) = vs[i] := by simp [List.getD, hi']
      have e2 : vs.getD j (.slice none 0 0) = vs[j] := by simp [List.getD, hj']
      rw [e1, e2]
      rcases Nat.lt_or_gt_of_ne hne with h | h
      · exact hsep i j hi' hj' h
      · rcases hsep j i hj' hi' h with h1 | h1
        · rw [h1]; cases vs[i].ownBlock <;> simp
        · exact .inr (Ne.symm h1)
    · obtain ⟨n, xs, ho, hn⟩ := hown _ (mem j hj)
      show vns _ ≤ _
      rw [(shape6 ho).2]; exact hn
  exact apartLists_any (heldIn vs cur) w0 wr B b c fit ⟨hb, fun j hj => by
    obtain ⟨n, xs, ho, _⟩ := hown _ (mem j hj)
    refine ⟨xs, ?_, fun q _ h => by omega⟩
    rw [hv j hj]
    show wr.ownsRow B 26 17 _ (vns _) xs
    rw [(shape6 ho).2]; exact ho, bel, hB⟩


end Go.Proofs.Ytggjeamondampaa.Fl

namespace Go.Proofs.Ytggjeamondampaa
open Go.RowKit
set_option linter.unusedVariables false
set_option linter.unusedSimpArgs false
set_option maxRecDepth 100000
set_option maxHeartbeats 1000000

/-- All frames side by side, and the lists that they came in. -/
structure SF (B : Nat) (w : World) (lv lw : Value) (ps : List FV) (qs : List (Value × List FV)) : Prop where
  all : FR B w lv ps
  few : ps.length ≤ qs.length * 1048576
  row : w.ownsRow B 47 1 lw qs.length (qs.map (·.1))
  each : ∀ q ∈ qs, w.ownsRow B 26 17 q.1 q.2.length (clF q.2) ∧ q.2.length ≤ 1048576
  sep : qs.Pairwise fun a b => Bg.sepV a.1 b.1
  sepl : ∀ q ∈ qs, Bg.sepV q.1 lv
theorem row_kpi {W W' : World} {B : Nat} (hk : ∀ i, B ≤ i → i < W.heap.size → W'.heap[i]? = W.heap[i]?) {e : TypeId} {size m : Nat} {v : Value} {xs : List Value} (h : W.ownsRow B e size v m xs) : W'.ownsRow B e size v m xs := by
  refine ⟨h.1, ?_⟩
  rcases h.2 with h2 | ⟨q, cap, cur, e1, q1, q2, q3⟩
  · exact .inl h2
  · exact .inr ⟨q, cap, cur, e1, q1, (hk q q1 (lt_of_block q2)).trans q2, q3⟩
theorem row_low {W : World} {B B' : Nat} (h : B' ≤ B) {e : TypeId} {size m : Nat} {v : Value} {xs : List Value} (h1 : W.ownsRow B e size v m xs) : W.ownsRow B' e size v m xs := by
  refine ⟨h1.1, ?_⟩
  rcases h1.2 with h2 | ⟨q, cap, cur, e1, q1, q2, q3⟩
  · exact .inl h2
  · exact .inr ⟨q, cap, cur, e1, Nat.le_trans h q1, q2, q3⟩
theorem SF.kpt {B : Nat} {w w' : World} {lv lw : Value} {ps : List FV} {qs : List (Value × List FV)} (h : SF B w lv lw ps qs) (hk : ∀ g, B ≤ g → g < w.heap.size → w'.heap[g]? = w.heap[g]?) : SF B w' lv lw ps qs :=
  ⟨h.all.kpt hk, h.few, row_kpi hk h.row, fun q hq => ⟨row_kpi hk (h.each q hq).1, (h.each q hq).2⟩, h.sep, h.sepl⟩
theorem SF.onN {B : Nat} {w w' : World} {lv lw : Value} {ps : List FV} {qs : List (Value × List FV)} (h : SF B w lv lw ps qs) (g : w.grownBy w' none) : SF B w' lv lw ps qs := h.kpt (fun i _ hi => g.block i hi (by simp))
theorem SF.nil (B : Nat) (w : World) : SF B w (.slice none 0 0) (.slice none 0 0) [] [] := ⟨FR.nil _ _, by simp, World.ownsRow_nil _ _ _ _, by simp, by simp, by simp⟩
theorem fv_ones {Bn : Nat} {W : World} {x : FV} (h1 : OwnB Bn W x.d x.f.data) (h2 : OwnR Bn W x.r x.f.runs) : ∀ u ∈ x.C.toList, u.oneCell' = true := by
  have one : x.C.all (·.oneCell') = true := by
    obtain ⟨_, _, e1, -⟩ := row_shapeF h1
    obtain ⟨_, _, e2, -⟩ := row_shapeF h2
    exact one17 _ _ _ (by rw [e1]; rfl) (by rw [e2]; rfl)
  exact fun u hu => Array.all_eq_true_iff_forall_mem.1 one u (by simpa using hu)
theorem app_zeroF (w : World) (a a' : Option Addr) (n c c' : Nat) (hn : n ≤ c) : (Builtin.append_ #[47, 47] 47 #[.slice a n c, .slice a' 0 c']).run Try.prog w = .ok (.slice a n c) w := by
  obtain ⟨inf, hi0, hz0, hz1, hz2⟩ := info_parts Try.infoF
  cases a <;> cases a' <;> simp [Builtin.append_, run_underlying Try.underlying47, sizeOf, typeInfo, hi0, Builtin.lenOf, Builtin.firstCells, loadCells, loadCellsFrom, storeCells, hn]

/-- The frames of one list, laid behind those of the others. -/
theorem SF.push {B : Nat} {w wb : World} {lv lw : Value} {ps : List FV} {qs : List (Value × List FV)} {a : Option Addr} {m c : Nat} {rs : List FV} (h : SF B w lv lw ps qs) (hwb : SF B wb lv lw ps qs) (hm : rs.length = m) (hm2 : m ≤ 1048576) (hq : qs.length ≤ 50)
    (hr : FR wb.heap.size w (.slice a m c) rs) (hB : B ≤ wb.heap.size) (hwr : wb.grownBy w none) :
    ∃ a1 n1 c1 W1 a2 c2 W2, (Builtin.append_ #[47, 47] 47 #[lv, .slice a m c]).run Try.prog w = .ok (.slice a1 n1 c1) W1
      ∧ (Builtin.append_ #[57, 57] 57 #[lw, .slice (some ⟨W1.heap.size, 0, none⟩) 1 1]).run Try.prog (W1.alloc (.cells #[.slice a m c] 47)) = .ok (.slice a2 (qs.length + 1) c2) W2
      ∧ n1 = (ps ++ rs).length ∧ SF B W2 (.slice a1 n1 c1) (.slice a2 (qs.length + 1) c2) (ps ++ rs) (qs ++ [(.slice a m c, rs)]) ∧ Below B w W2 := by
  have hsz := hwr.size
  have hBw : B ≤ w.heap.size := Nat.le_trans hB hsz
  have hrB : FR B w (.slice a m c) rs := hr.mono hB
  have hfew := h.few
  have first : ∃ a1 n1 c1 W1, (Builtin.append_ #[47, 47] 47 #[lv, .slice a m c]).run Try.prog w = .ok (.slice a1 n1 c1) W1 ∧ n1 = (ps ++ rs).length
      ∧ W1.ownsRow B 26 17 (.slice a1 n1 c1) (ps ++ rs).length (clF (ps ++ rs)) ∧ w.grownBy W1 lv.ownBlock ∧ ((Value.slice a1 n1 c1).ownBlock = lv.ownBlock ∨ (Value.slice a1 n1 c1).ownBlock = some w.heap.size) := by
    by_cases h0 : m = 0
    · subst h0
      have e0 : rs = [] := List.eq_nil_of_length_eq_zero hm
      subst e0
      rcases h.all.row.2 with ⟨e, e2⟩ | ⟨g, cap, cur, e, q1, q2, q3, q4, q5, q6⟩
      · refine ⟨none, 0, 0, w, by rw [e]; exact app_zeroF w none a 0 0 c (Nat.le_refl _), by simp [e2], ?_, World.grownBy.refl w _, .inl (by rw [e])⟩
        have := h.all.row; rw [e] at this; simpa using this
      · refine ⟨some ⟨g, 0, none⟩, ps.length, cap, w, by rw [e]; exact app_zeroF w _ a _ _ c q3, by simp, ?_, World.grownBy.refl w _, .inl (by rw [e])⟩
        have := h.all.row; rw [e] at this; simpa using this
    · obtain ⟨inf, hi0, hz0, hz1, hz2⟩ := info_parts Try.infoF
      obtain ⟨g, rfl⟩ : ∃ g, a = some ⟨g, 0, none⟩ := by
        rcases hr.row.2 with ⟨e, e2⟩ | ⟨g, cap, cur, e, -⟩
        · omega
        · injection e with e; exact ⟨g, e⟩
      have ones : ∀ u ∈ clF rs, u.oneCell' = true := fun u hu => by
        unfold clF at hu
        rw [List.mem_flatMap] at hu
        obtain ⟨x, hx, hu⟩ := hu
        exact fv_ones (hr.own.dat x hx).1 (hr.own.run x hx).1 u hu
      have hrow := hr.row
      rw [hm] at hrow
      obtain ⟨y', W1, hrun, ho, hmv, -⟩ := Rl.app_keepN (P := Try.prog) w B 47 47 26 inf (.agg Z17) 17 160 Try.underlying47 hi0 hz0 hz1 (by decide) hz2 rfl lv ps.length (clF ps) h.all.row ⟨g, 0, none⟩ m c (clF rs) (by rw [clF_length, hm]) (fun j u hu => by
        have hj := (List.getElem?_eq_some_iff.1 hu).1
        rw [clF_length, hm] at hj
        rw [show (⟨g, 0, none⟩ : Addr).add j = ⟨g, j, none⟩ by simp [Addr.add]; exact fun e => e.symm]
        rcases hrow.2 with ⟨e, e2⟩ | ⟨g2, cap, cur, e, q1, q2, q3, q4, q5, q6⟩
        · omega
        · injection e with e e2 e3
          cases e
          simp only [World.cell?, q2]
          have h6 : (cur.toList.take (m * 17))[j]? = some u := by rw [q6]; exact hu
          rw [List.getElem?_take, if_pos hj, Array.getElem?_toList] at h6
          exact h6) ones (by omega) (by unfold maxLen; omega) (by omega) hBw
      obtain ⟨a5, c5, rfl, -⟩ := row_shapeF ho
      have e1 : (ps ++ rs).length = ps.length + m := by simp [hm]
      refine ⟨a5, ps.length + m, c5, W1, hrun, e1.symm, by rw [e1, show clF (ps ++ rs) = clF ps ++ clF rs by simp [clF]]; exact ho, hmv.gr, ?_⟩
      rcases hmv with ⟨e, _⟩ | ⟨e, _⟩
      · exact .inl e
      · exact .inr e
  obtain ⟨a1, n1, c1, W1, run1, en1, row1, g1, blk1⟩ := first
  have lvlt : ∀ g, lv.ownBlock = some g → g < wb.heap.size := fun g e => (World.ownsRow.lt hwb.all.row g e).2
  have kp1 : ∀ {e : TypeId} {size n : Nat} {v : Value} {xs : List Value} {Bq : Nat}, w.ownsRow Bq e size v n xs → e ≠ 26 → W1.ownsRow Bq e size v n xs := fun {e size n v xs Bq} ho he => World.ownsRow.kept ho g1 (Rl.rows_apart ho h.all.row he)
  have rlv : Bg.sepV (.slice a m c) lv := by
    show _ ∨ _
    cases e : (Value.slice a m c).ownBlock with
    | none => exact .inl rfl
    | some g =>
      right
      intro e2
      have := (World.ownsRow.lt hr.row g e).1
      have := lvlt g e2.symm
      omega
  have kr : ∀ {v : Value} {n : Nat} {xs : List Value}, w.ownsRow B 26 17 v n xs → Bg.sepV v lv → W1.ownsRow B 26 17 v n xs := fun {v n xs} ho hse => World.ownsRow.kept ho g1 hse
  have gotW : W1.ownsRow B 26 17 (.slice a m c) rs.length (clF rs) := kr hrB.row rlv
  have lwW : W1.ownsRow B 47 1 lw qs.length (qs.map (·.1)) := kp1 h.row (by decide)
  have bl1 : Below B w W1 := (Below.refl B w).grown g1 hBw (fun k e => (World.ownsRow.lt h.all.row k e).1)
  obtain ⟨y', W2, run2, row2, mv2⟩ := Fl.appL lwW (.slice a m c) rfl (by omega) (Nat.le_trans hBw bl1.size)
  obtain ⟨a5, c5, rfl, -⟩ := row_shapeF row2
  have ga := World.grownBy_alloc W1 (.cells #[.slice a m c] 47) none
  have k2 : ∀ {e : TypeId} {size n : Nat} {v : Value} {xs : List Value} {Bq : Nat}, W1.ownsRow Bq e size v n xs → e ≠ 47 → W2.ownsRow Bq e size v n xs := fun {e size n v xs Bq} ho he =>
    World.ownsRow.kept (ho.alloc (.cells #[.slice a m c] 47)) mv2.gr (Rl.rows_apart ho lwW he)
  have dat : ∀ x ∈ ps ++ rs, OwnB B W2 x.d x.f.data ∧ x.f.data.length ≤ 140737488355000 := fun x hx => by
    have x1 : OwnB B w x.d x.f.data ∧ x.f.data.length ≤ 140737488355000 := by
      rcases List.mem_append.1 hx with hx | hx
      · exact h.all.own.dat x hx
      · exact hrB.own.dat x hx
    exact ⟨k2 (kp1 x1.1 (by decide)) (by decide), x1.2⟩
  have run : ∀ x ∈ ps ++ rs, OwnR B W2 x.r x.f.runs ∧ x.f.runs.length ≤ 200000000 := fun x hx => by
    have x1 : OwnR B w x.r x.f.runs ∧ x.f.runs.length ≤ 200000000 := by
      rcases List.mem_append.1 hx with hx | hx
      · exact h.all.own.run x hx
      · exact hrB.own.run x hx
    exact ⟨k2 (kp1 x1.1 (by decide)) (by decide), x1.2⟩
  refine ⟨a1, n1, c1, W1, a5, c5, W2, run1, run2, en1, ⟨⟨?_, ⟨dat, run, ?_, ?_⟩, ?_⟩, ?_, ?_, ?_, ?_, ?_⟩, ?_⟩
  · rw [en1] at row1 ⊢
    exact k2 row1 (by decide)
  · rw [List.map_append, List.pairwise_append]
    refine ⟨h.all.own.sepd, hr.own.sepd, fun u hu v hv => ?_⟩
    obtain ⟨x, hx, rfl⟩ := List.mem_map.1 hu
    obtain ⟨y, hy, rfl⟩ := List.mem_map.1 hv
    show _ ∨ _
    cases e : x.d.ownBlock with
    | none => exact .inl rfl
    | some g =>
      right
      intro e2
      have := (World.ownsRow.lt (hwb.all.own.dat x hx).1 g e).2
      have := (World.ownsRow.lt (hr.own.dat y hy).1 g e2.symm).1
      omega
  · rw [List.map_append, List.pairwise_append]
    refine ⟨h.all.own.sepr, hr.own.sepr, fun u hu v hv => ?_⟩
    obtain ⟨x, hx, rfl⟩ := List.mem_map.1 hu
    obtain ⟨y, hy, rfl⟩ := List.mem_map.1 hv
    show _ ∨ _
    cases e : x.r.ownBlock with
    | none => exact .inl rfl
    | some g =>
      right
      intro e2
      have := (World.ownsRow.lt (hwb.all.own.run x hx).1 g e).2
      have := (World.ownsRow.lt (hr.own.run y hy).1 g e2.symm).1
      omega
  · intro x hx
    rcases List.mem_append.1 hx with hx | hx
    · exact h.all.bt x hx
    · exact hr.bt x hx
  · simp [hm]; omega
  · rw [List.length_append, List.map_append]; exact row2
  · intro q hq'
    rcases List.mem_append.1 hq' with hq' | hq'
    · exact ⟨k2 (kr (h.each q hq').1 (h.sepl q hq')) (by decide), (h.each q hq').2⟩
    · simp only [List.mem_singleton] at hq'; subst hq'
      exact ⟨k2 gotW (by decide), by show rs.length ≤ _; omega⟩
  · rw [List.pairwise_append]
    refine ⟨h.sep, by simp, fun p hp q hq' => ?_⟩
    simp only [List.mem_singleton] at hq'; subst hq'
    show _ ∨ _
    cases e : p.1.ownBlock with
    | none => exact .inl rfl
    | some g =>
      right
      intro e2
      have := (World.ownsRow.lt (hwb.each p hp).1 g e).2
      have := (World.ownsRow.lt hr.row g e2.symm).1
      omega
  · intro q hq'
    have old : q.1.ownBlock = none ∨ (q.1.ownBlock ≠ lv.ownBlock ∧ ∀ g, q.1.ownBlock = some g → g < w.heap.size) := by
      rcases List.mem_append.1 hq' with hq' | hq'
      · rcases h.sepl q hq' with h1 | h1
        · exact .inl h1
        · exact .inr ⟨h1, fun g e => (World.ownsRow.lt (h.each q hq').1 g e).2⟩
      · simp only [List.mem_singleton] at hq'; subst hq'
        rcases rlv with h1 | h1
        · exact .inl h1
        · exact .inr ⟨h1, fun g e => (World.ownsRow.lt hrB.row g e).2⟩
    rcases old with h1 | ⟨h1, h2⟩
    · exact .inl h1
    · right
      rcases blk1 with e | e
      · rw [e]; exact h1
      · rw [e]
        intro e2
        have := h2 _ e2
        omega
  · have ga2 : Below B w (W1.alloc (.cells #[.slice a m c] 47)) := bl1.grown ga (Nat.le_trans hBw bl1.size) (fun k e => by cases e)
    exact ga2.grown mv2.gr (Nat.le_trans hBw ga2.size) (fun k e => (World.ownsRow.lt lwW k e).1)
end Go.Proofs.Ytggjeamondampaa

namespace Go.Proofs.Ytggjeamondampaa
open Go.RowKit
set_option linter.unusedVariables false
set_option linter.unusedSimpArgs false
set_option maxRecDepth 100000
set_option maxHeartbeats 4000000

theorem decR_ok {w w' : World} {l l1 : List Int} {k : Nat} {en : Ending} {f : Fr} (h : DecR w l (k : Int) en w') (hd : decF (l.drop k) = .inl (f, l1)) :
    ∃ C : Array Value, en = .returned (.tuple #[.agg C, .int .i64 ((l.length - l1.length : Nat) : Int), .int .i64 0]) ∧ C.size = 17 ∧ C.all (·.oneCell') = true ∧ w.grownBy w' none ∧ Hid (∃ d r, C = f.cs d r ∧ OwnB w.heap.size w' d f.data ∧ OwnR w.heap.size w' r f.runs) := by
  rcases h with ⟨C, m, rfl, c1, c2, g, hh⟩ | ⟨e', h1, rfl, g⟩
  · obtain ⟨a1, a2, f', l1', d', r', a3, a4, a5, a6, a7⟩ := unhide hh
    rw [Int.toNat_natCast, hd] at a3
    cases a3
    exact ⟨C, by rw [a4], c1, c2, g, d', r', a5, a6, a7⟩
  · exfalso
    rcases h1 with ⟨-, b2, h1⟩ | ⟨h1, -⟩
    · rw [Int.toNat_natCast, hd] at h1; cases h1
    · have hz : l.drop k = [] := List.drop_eq_nil_of_le (by omega)
      rw [hz] at hd
      unfold decF at hd
      simp [numF] at hd
theorem decR_err {w w' : World} {l : List Int} {k : Nat} {en : Ending} {e : Int} (h : DecR w l (k : Int) en w') (hk : k ≤ l.length) (hd : decF (l.drop k) = .inr e) :
    en = .returned (.tuple #[.agg Z17, .int .i64 0, .int .i64 e]) ∧ w.grownBy w' none := by
  rcases h with ⟨C, m, rfl, c1, c2, g, hh⟩ | ⟨e', h1, rfl, g⟩
  · obtain ⟨a1, a2, f', l1', d', r', a3, -⟩ := unhide hh
    rw [Int.toNat_natCast, hd] at a3
    cases a3
  · rcases h1 with ⟨-, b2, h1⟩ | ⟨h1, -⟩
    · rw [Int.toNat_natCast, hd] at h1
      cases h1
      exact ⟨rfl, g⟩
    · omega

theorem FR.kpr {B : Nat} {W W' : World} {L : List FV} {lv : Value} (I : FR B W lv L) (kp : ∀ {e : TypeId} {size m : Nat} {v : Value} {xs : List Value}, W.ownsRow B e size v m xs → e ≠ 3 → W'.ownsRow B e size v m xs) : FR B W' lv L :=
  ⟨kp I.row (by decide), ⟨fun x hx => ⟨kp (I.own.dat x hx).1 (by decide), (I.own.dat x hx).2⟩, fun x hx => ⟨kp (I.own.run x hx).1 (by decide), (I.own.run x hx).2⟩, I.own.sepd, I.own.sepr⟩, I.bt⟩
theorem Try.infoInt : (Try.prog.info? 3).map (fun i => (i.zero, i.size, i.bytes)) = some (some (.int .i64 0), 1, 8) := by kernel_rfl
/-- Places as they are laid. -/
def plV (L : List (Nat × Fr)) : List Value := L.map fun x => .int .i64 (x.1 : Int)
/-- What was collected: places, frames. -/
structure DA (w W : World) (pv lv : Value) (L : List (Nat × Fr)) : Prop where
  p : W.ownsRow w.heap.size 3 1 pv L.length (plV L)
  f : ∃ fs : List FV, fs.map FV.f = L.map Prod.snd ∧ FR w.heap.size W lv fs
  gr : w.grownBy W none
theorem DA.nil (w : World) : DA w w (.slice none 0 0) (.slice none 0 0) [] := ⟨World.ownsRow_nil _ _ _ _, ⟨[], rfl, FR.nil _ _⟩, World.grownBy.refl w none⟩
theorem DA.onN {w W W' : World} {pv lv : Value} {L : List (Nat × Fr)} (h : DA w W pv lv L) (g : W.grownBy W' none) : DA w W' pv lv L := by
  obtain ⟨fs, e, hf⟩ := h.f
  exact ⟨World.ownsRow.kept h.p g (by cases pv.ownBlock <;> simp), ⟨fs, e, hf.onN g⟩, h.gr.trans g⟩
/-- One more: the place, then the frame. -/
theorem DA.push {w W W1 : World} {pv lv d r : Value} {L : List (Nat × Fr)} {f : Fr} (h : DA w W pv lv L) (k : Nat) (g : W.grownBy W1 none) (h1 : OwnB W.heap.size W1 d f.data) (h2 : OwnR W.heap.size W1 r f.runs) (ok : FrOk f) (few : L.length ≤ 1048576) :
    ∃ a1 c1 W2 a2 c2 W3, (∀ ty, (Builtin.append_ #[68, 68] ty #[pv, .slice (some ⟨W1.heap.size, 0, none⟩) 1 1]).run Try.prog (W1.alloc (.cells #[.int .i64 (k : Int)] 3)) = .ok (.slice a1 (L.length + 1) c1) W2)
      ∧ (∀ ty, (Builtin.append_ #[47, 47] ty #[lv, .slice (some ⟨W2.heap.size, 0, none⟩) 1 1]).run Try.prog (W2.alloc (.cells (f.cs d r) 26)) = .ok (.slice a2 (L.length + 1) c2) W3)
      ∧ DA w W3 (.slice a1 (L.length + 1) c1) (.slice a2 (L.length + 1) c2) (L ++ [(k, f)]) ∧ (∀ b cs t, t ≠ 3 → Blk W1 b cs t → Blk W2 b cs t) := by
  obtain ⟨fs, ef, hf⟩ := h.f
  have hlen : fs.length = L.length := by have := congrArg List.length ef; simpa using this
  obtain ⟨inf, hi0, hz0, hz1, hz2⟩ := info_parts Try.infoInt
  have gA := World.grownBy_alloc W1 (.cells #[.int .i64 (k : Int)] 3) none
  have hP1 := h.onN g
  obtain ⟨fs1, ef1, hf1⟩ := hP1.f
  have sz := h.gr.size
  have sz1 := hP1.gr.size
  have pA : (W1.alloc (.cells #[.int .i64 (k : Int)] 3)).ownsRow w.heap.size 3 1 pv L.length (plV L) := hP1.p.alloc _
  obtain ⟨v', W2, hrn, ho, hm, -⟩ := Rl.app_keepN (P := Try.prog) (W1.alloc (.cells #[.int .i64 (k : Int)] 3)) w.heap.size 68 68 3 inf (.int .i64 0) 1 8 Try.underlying68 hi0 hz0 hz1 (by decide) hz2 rfl pv L.length (plV L) pA ⟨W1.heap.size, 0, none⟩ 1 1 [.int .i64 (k : Int)] rfl (fun j u hu => by
    rw [show (⟨W1.heap.size, 0, none⟩ : Addr).add j = ⟨W1.heap.size, j, none⟩ by simp [Addr.add]; exact fun e => e.symm]
    simp only [World.cell?, heap_alloc_new]
    simpa using hu) (fun u hu => by simp only [List.mem_singleton] at hu; subst hu; rfl) (by decide) (by unfold maxLen; omega) (by omega) (Nat.le_trans sz1 gA.size)
  obtain ⟨a1, c1, rfl, -⟩ := row_shapeF ho
  have g2 := hm.gr
  have kp : ∀ {e : TypeId} {size m : Nat} {v : Value} {xs : List Value} {Bq : Nat}, W1.ownsRow Bq e size v m xs → e ≠ 3 → W2.ownsRow Bq e size v m xs := fun {e size m v xs Bq} h3 he => World.ownsRow.kept (h3.alloc _) g2 (Rl.rows_apart (h3.alloc _) pA he)
  have hf2 : FR w.heap.size W2 lv fs := (hf.onN g).kpr (fun {e size m v xs} h3 he => kp h3 he)
  have d2 : OwnB W.heap.size W2 d f.data := kp h1 (by decide)
  have r2 : OwnR W.heap.size W2 r f.runs := kp h2 (by decide)
  have sz2 : W1.heap.size ≤ W2.heap.size := Nat.le_trans gA.size g2.size
  obtain ⟨lt1, lt2⟩ := hf.lt
  obtain ⟨a2, c2, W3, hrn3, hf3, g3⟩ := hf2.push ⟨f, d, r⟩ sz d2 r2 ok (Nat.le_trans sz1 sz2) lt1 lt2 (by omega)
  rw [hlen] at hrn3 hf3
  have gr2 : w.grownBy W2 none := by
    have gw := hP1.gr.trans gA
    exact ⟨g2.os.trans gw.os, g2.tape.trans gw.tape, g2.output.trans gw.output, Nat.le_trans gw.size g2.size, fun i hi _ => (g2.block i (Nat.lt_of_lt_of_le hi gw.size) (fun e => by have := (World.ownsRow.lt pA i e.symm).1; omega)).trans (gw.block i hi (by simp))⟩
  have gA3 := World.grownBy_alloc W2 (.cells (f.cs d r) 26) none
  have gr3 : w.grownBy W3 none := by
    have gw := gr2.trans gA3
    exact ⟨g3.os.trans gw.os, g3.tape.trans gw.tape, g3.output.trans gw.output, Nat.le_trans gw.size g3.size, fun i hi _ => (g3.block i (Nat.lt_of_lt_of_le hi gw.size) (fun e => by have := (World.ownsRow.lt hf2.row i e.symm).1; omega)).trans (gw.block i hi (by simp))⟩
  refine ⟨a1, c1, W2, a2, c2, W3, fun _ => hrn, hrn3, ⟨?_, ⟨fs ++ [⟨f, d, r⟩], by simp [ef], hf3⟩, gr3⟩, fun b cs t ht hb => ?_⟩
  · have h4 : W2.ownsRow w.heap.size 3 1 (.slice a1 (L.length + 1) c1) (L ++ [(k, f)]).length (plV (L ++ [(k, f)])) := by
      rw [List.length_append]
      show W2.ownsRow w.heap.size 3 1 _ (L.length + 1) _
      rw [show plV (L ++ [(k, f)]) = plV L ++ [.int .i64 (k : Int)] by simp [plV]]
      exact ho
    exact World.ownsRow.kept (h4.alloc _) g3 (Rl.rows_apart h4 hf2.row (by decide))
  · have hbA : Blk (W1.alloc (.cells #[.int .i64 (k : Int)] 3)) b cs t := hb.grown gA
    refine (g2.block b (lt_of_block hbA) (fun e => ?_)).trans hbA
    rcases pA.2 with ⟨e2, -⟩ | ⟨g4, c4, cur, e2, p1, p2, -⟩
    · rw [e2] at e; cases e
    · rw [e2] at e
      injection e with e
      have e' : b = g4 := e
      subst e'
      have hbb : (W1.alloc (.cells #[.int .i64 (k : Int)] 3)).heap[b]? = some (.cells cs t (0, 0)) := hbA
      rw [hbb] at p2
      injection p2 with p2
      injection p2 with _ p2
      exact ht p2
end Go.Proofs.Ytggjeamondampaa

namespace Go.Proofs.Ytggjeamondampaa
open Go.RowKit
set_option linter.unusedVariables false
set_option linter.unusedSimpArgs false
set_option maxRecDepth 100000
set_option pp.deepTerms true
set_option pp.maxSteps 10000000
set_option maxHeartbeats 4000000

theorem all_doc {ab ao n c : Nat} {l : List Int} (w : World) (hr : Rd w (some ⟨ab, ao, none⟩) l) (hn : l.length = n) (hc : n < c) (hc2 : c ≤ maxLen) (hl : n ≤ 1048576) (hb : ∀ x ∈ l, IsB x) {L : List (Nat × Fr)} {j : Nat} {e : Int} (hA : AllP l 0 L j e) :
    Calls Try.prog 33 #[.slice (some ⟨ab, ao, none⟩) n c] w fun en W => ∃ pv lv, en = .returned (.tuple #[pv, lv, .int .i64 e]) ∧ DA w W pv lv L := by
  have lenI : ¬ (9223372036854775807 : Int) < (n : Int) := by omega
  have few : L.length ≤ 1048576 := by have := hA.len hb; omega
  have HX := hide (And.intro hr (And.intro hn (And.intro hc (And.intro hc2 (And.intro hl (And.intro hb few))))))
  have HA := hide hA
  clear hr hn hc hc2 hl hb hA few
  go_enter Try.func33, Try.ntmps33
  go_wp2_with fail
  go_loopw [5, 6, 7] (fun pv lv av wr => ∃ (k : Nat) (pre rest : List (Nat × Fr)) (p q : Value), p = pv ∧ q = lv ∧ av = .int .i64 (k : Int) ∧ Hid (AllP l k rest j e ∧ pre ++ rest = L ∧ DA w wr p q pre)) (fun _ _ av _ => n - (intOf av).toNat)
  case atStart => exact ⟨0, [], L, _, _, rfl, rfl, rfl, unhide HA, rfl, DA.nil w⟩
  case round =>
    clear HA
    obtain ⟨k, pre, rest, p, q, rfl, rfl, rfl, I⟩ := hrel
    obtain ⟨hr, hn, hc, hc2, hl, hb, few⟩ := unhide HX
    obtain ⟨hA, hL, hD⟩ := unhide I
    by_cases hlt : k < n
    · have kI : (k : Int) < (n : Int) := by omega
      have DD := decR_any (k : Int) wr (hr.grow hD.gr) hn hc hc2 (by omega) (by omega)
      cases hA with
      | stop h => omega
      | bad h hd =>
        have er := decF_err hd
        have DE := DD.mono fun en W' h => decR_err h (by omega) hd
        have FIN := hide (fun W' (g : wr.grownBy W' none) => hD.onN g)
        have PL : Hid (pre = L) := by show pre = L; rw [← hL, List.append_nil]
        clear DD hr hn hc hc2 hl hb few hL hD hd I
        go_upto_region 6 with (first | (go_at_call 21; refine DE.mono ?_; rintro e1 Y ⟨rfl, gY⟩) | (refine wpList_store_new Y Z17 Z17 Y.heap.size rfl _ _ _ rfl rfl rfl rfl Try.size26 rfl oneZ ?_))
        have F2 := hide (unhide FIN _ (gY.trans (World.grownBy_alloc Y (.cells Z17 26) none)))
        clear DE FIN gY
        generalize Y.alloc _ = Y1 at *
        rcases er with rfl | rfl | rfl
        all_goals go_wp2_with fail
        all_goals go_ret3
        all_goals exact ⟨_, _, rfl, by rw [← unhide PL]; exact unhide F2⟩
      | @next _ f l1 L' _ _ h hd hA' =>
        have DE := DD.mono fun en W' h => decR_ok h hd
        have ok := dec_frok hb (by omega) hd
        have far := dec_far hb h hd
        have fewp : pre.length ≤ 1048576 := by have := congrArg List.length hL; rw [List.length_append] at this; omega
        have PS := hide (fun W1 d r (g : wr.grownBy W1 none) (h1 : OwnB wr.heap.size W1 d f.data) (h2 : OwnR wr.heap.size W1 r f.runs) => hD.push k g h1 h2 ok fewp)
        have NA : Hid (AllP l (l.length - l1.length) L' j e ∧ (pre ++ [(k, f)]) ++ L' = L) := ⟨hA', by rw [List.append_assoc]; exact hL⟩
        have FAR : Hid (k < l.length - l1.length ∧ l.length - l1.length ≤ n) := by rw [← hn]; exact far
        clear DD hr hn hc hc2 hl hb few hL hD hd hA' ok far fewp I h
        generalize l.length - l1.length = M at *
        go_upto_region 6 with (first | (go_at_call 21; refine DE.mono ?_; rintro e1 Y ⟨C, rfl, C17, C1, gY, HC⟩) | (refine wpList_store_new Y Z17 C Y.heap.size rfl _ _ _ rfl rfl rfl rfl (by rw [C17]; exact Try.size26) (by rw [C17]; rfl) C1 ?_))
        have gf := World.grownBy_alloc Y (.cells C 26) none
        have bf := Blk.new Y C 26
        obtain ⟨d, r, eC, o1, o2⟩ := unhide HC
        obtain ⟨a1, c1, W2, a2, c2, W3, run1, run2, D3, kb⟩ := unhide PS (Y.alloc (.cells C 26)) d r (gY.trans gf) (o1.keepN gf) (World.ownsRow.kept o2 gf (by cases r.ownBlock <;> simp))
        rw [← eC] at run2
        have bf2 := kb _ _ _ (by decide) bf
        have R1 := hide run1
        have R2 := hide run2
        have HD := hide D3
        have iF : (Try.prog.info? 26).map (·.size) = some C.size := by rw [C17]; exact Try.size26
        clear DE HC gY gf bf eC o1 o2 run1 run2 D3 kb PS
        generalize Y.alloc _ = W1 at *
        generalize Y.heap.size = nf at *
        go_upto_region 9 with (at_builtin; refine Rl.wpList_append_runQ _ rfl _ _ 68 68 rfl _ _ rfl rfl (unhide R1 _) ?_)
        go_upto_region 10 with (first | (refine wpList_load_row rfl _ _ rfl nf rfl 26 C (0, 0) _ bf2 Try.underlying26 rfl iF ?_) | (refine wpList_one_frame rfl _ rfl C rfl C17 ?_) | (at_builtin; refine Rl.wpList_append_runQ _ rfl _ _ 47 47 rfl _ _ rfl rfl (unhide R2 _) ?_))
        clear R1 R2 bf2 iF
        go_wp2_with fail
        exact ⟨⟨M, pre ++ [(k, f)], L', _, _, rfl, rfl, rfl, (unhide NA).1, (unhide NA).2, unhide HD⟩, by have := unhide FAR; simp [intOf]; omega⟩
    · have kI : ¬ (k : Int) < (n : Int) := by omega
      cases hA with
      | bad h hd => omega
      | next h hd hA' => omega
      | stop h =>
        have PL : Hid (pre = L) := by show pre = L; rw [← hL, List.append_nil]
        have F2 := hide hD
        clear hr hn hc hc2 hl hb few hL hD I
        go_wp2_with fail
        go_ret3
        exact ⟨_, _, rfl, by rw [← unhide PL]; exact unhide F2⟩
end Go.Proofs.Ytggjeamondampaa

namespace Go.Proofs.Ytggjeamondampaa
open Go.RowKit
set_option linter.unusedVariables false
set_option linter.unusedSimpArgs false
set_option maxRecDepth 100000
set_option pp.deepTerms true
set_option pp.maxSteps 10000000
set_option maxHeartbeats 4000000

/-- What Parse answers. -/
def PaR (w : World) (fs0 : List Fr) (at0 : Nat) (e0 : Int) (en : Ending) (W : World) : Prop :=
  ∃ (lv : Value) (fs : List FV), en = .returned (.tuple #[lv, .int .i64 (at0 : Int), .int .i64 e0]) ∧ FR w.heap.size W lv fs ∧ fs.map FV.f = fs0 ∧ w.grownBy W none
/-- What was collected: frames. -/
structure FA (w W : World) (lv : Value) (L : List (Nat × Fr)) : Prop where
  f : ∃ fs : List FV, fs.map FV.f = L.map Prod.snd ∧ FR w.heap.size W lv fs
  gr : w.grownBy W none
theorem FA.onN {w W W' : World} {lv : Value} {L : List (Nat × Fr)} (h : FA w W lv L) (g : W.grownBy W' none) : FA w W' lv L := by
  obtain ⟨fs, e, hf⟩ := h.f
  exact ⟨⟨fs, e, hf.onN g⟩, h.gr.trans g⟩
theorem FA.push {w W W1 : World} {lv d r : Value} {L : List (Nat × Fr)} {f : Fr} (h : FA w W lv L) (k : Nat) (g : W.grownBy W1 none) (h1 : OwnB W.heap.size W1 d f.data) (h2 : OwnR W.heap.size W1 r f.runs) (ok : FrOk f) (few : L.length ≤ 1048576) :
    ∃ a2 c2 W3, (∀ ty, (Builtin.append_ #[47, 47] ty #[lv, .slice (some ⟨W1.heap.size, 0, none⟩) 1 1]).run Try.prog (W1.alloc (.cells (f.cs d r) 26)) = .ok (.slice a2 (L.length + 1) c2) W3)
      ∧ FA w W3 (.slice a2 (L.length + 1) c2) (L ++ [(k, f)]) := by
  obtain ⟨fs, ef, hf⟩ := h.f
  have hlen : fs.length = L.length := by have := congrArg List.length ef; simpa using this
  have hf1 := hf.onN g
  have gr1 := h.gr.trans g
  obtain ⟨lt1, lt2⟩ := hf.lt
  obtain ⟨a2, c2, W3, hrn3, hf3, g3⟩ := hf1.push ⟨f, d, r⟩ h.gr.size h1 h2 ok gr1.size lt1 lt2 (by omega)
  rw [hlen] at hrn3 hf3
  have gA3 := World.grownBy_alloc W1 (.cells (f.cs d r) 26) none
  have gw := gr1.trans gA3
  exact ⟨a2, c2, W3, hrn3, ⟨⟨fs ++ [⟨f, d, r⟩], by simp [ef], hf3⟩, ⟨g3.os.trans gw.os, g3.tape.trans gw.tape, g3.output.trans gw.output, Nat.le_trans gw.size g3.size, fun i hi _ => (g3.block i (Nat.lt_of_lt_of_le hi gw.size) (fun e => by have := (World.ownsRow.lt hf1.row i e.symm).1; omega)).trans (gw.block i hi (by simp))⟩⟩⟩

theorem parse_code {ab ao n c : Nat} {l : List Int} (w : World) (hab : ab < w.heap.size) (hr : Rd w (some ⟨ab, ao, none⟩) l) (hn : l.length = n) (h0 : 0 < n) (hc : n < c) (hc2 : c ≤ maxLen) (hl : n ≤ 1048576) (hb : ∀ x ∈ l, IsB x) {L : List (Nat × Fr)} {j : Nat} {e : Int} (hA : AllP l 0 L j e) :
    Calls Try.prog 29 #[.slice (some ⟨ab, ao, none⟩) n c] w (PaR w (if e = 0 then L.map Prod.snd else []) j e) := by
  obtain ⟨fs0, hfs⟩ : ∃ fs0, fs0 = if e = 0 then L.map Prod.snd else [] := ⟨_, rfl⟩
  rw [← hfs]
  have HFS := hide hfs
  clear hfs
  have lenI : ¬ (9223372036854775807 : Int) < (n : Int) := by omega
  have n0 : ((n : Int) == 0) = false := by rw [beq_eq_false_iff_ne]; omega
  have few : L.length ≤ 1048576 := by have := hA.len hb; omega
  have jn : e = 0 → j = n := fun e0 => by
    have h1 := (hA.end_le (Nat.zero_le _)).1
    have h2 := hA.err.2 e0
    omega
  have HX := hide (And.intro hr (And.intro hn (And.intro hc (And.intro hc2 (And.intro hl (And.intro hb (And.intro few (And.intro hab jn))))))))
  have HA := hide hA
  clear hr hn hc hc2 hl hb hA few hab jn
  have p2 : ¬ (n : Int) = 0 := by omega
  have p3 : (n == 0) = false := by rw [beq_eq_false_iff_ne]; omega
  have p4 : ¬ n = 0 := by omega
  go_enter Try.func29, Try.ntmps29
  go_wp2
  go_loopw [5, 6] (fun lv av wr => ∃ (k : Nat) (pre rest : List (Nat × Fr)) (q : Value), q = lv ∧ av = .int .i64 (k : Int) ∧ Hid (AllP l k rest j e ∧ pre ++ rest = L ∧ FA w wr q pre)) (fun _ av _ => n - (intOf av).toNat)
  case atStart => exact ⟨0, [], L, _, rfl, rfl, unhide HA, rfl, ⟨[], rfl, FR.nil _ _⟩, World.grownBy.refl w none⟩
  case round =>
    clear HA
    obtain ⟨k, pre, rest, q, rfl, rfl, I⟩ := hrel
    obtain ⟨hr, hn, hc, hc2, hl, hb, few, hab, jn⟩ := unhide HX
    obtain ⟨hA, hL, hD⟩ := unhide I
    by_cases hlt : k < n
    · have kI : (k : Int) < (n : Int) := by omega
      have DD := decC_any (k : Int) wr (hr.grow hD.gr) hn (Nat.lt_of_lt_of_le hab hD.gr.size) hc hc2 (by omega)
      cases hA with
      | stop h => omega
      | bad h hd =>
        have er := decF_err hd
        have DE := DD.mono fun en W' h => decR_err h (by omega) hd
        have FIN := hide (fun W' (g : wr.grownBy W' none) => (hD.onN g).gr)
        clear DD hr hn hc hc2 hl hb few hab jn hL hD hd I
        go_upto_region 7 with (first | (go_at_call 23; refine DE.mono ?_; rintro e1 Y ⟨rfl, gY⟩) | (refine wpList_store_new Y Z17 Z17 Y.heap.size rfl _ _ _ rfl rfl rfl rfl Try.size26 rfl oneZ ?_))
        have F2 := hide (unhide FIN _ (gY.trans (World.grownBy_alloc Y (.cells Z17 26) none)))
        clear DE FIN gY
        generalize Y.alloc _ = Y1 at *
        rcases er with rfl | rfl | rfl
        all_goals go_wp2_with fail
        all_goals go_ret3
        all_goals exact ⟨_, [], rfl, FR.nil _ _, by have hq := unhide HFS; simp at hq; rw [hq]; rfl, unhide F2⟩
      | @next _ f l1 L' _ _ h hd hA' =>
        have DE := DD.mono fun en W' h => decR_ok h hd
        have ok := dec_frok hb (by omega) hd
        have far := dec_far hb h hd
        have fewp : pre.length ≤ 1048576 := by have := congrArg List.length hL; rw [List.length_append] at this; omega
        have PS := hide (fun W1 d r (g : wr.grownBy W1 none) (h1 : OwnB wr.heap.size W1 d f.data) (h2 : OwnR wr.heap.size W1 r f.runs) => hD.push k g h1 h2 ok fewp)
        have NA : Hid (AllP l (l.length - l1.length) L' j e ∧ (pre ++ [(k, f)]) ++ L' = L) := ⟨hA', by rw [List.append_assoc]; exact hL⟩
        have FAR : Hid (k < l.length - l1.length ∧ l.length - l1.length ≤ n) := by rw [← hn]; exact far
        clear DD hr hn hc hc2 hl hb few hab jn hL hD hd hA' ok far fewp I h
        generalize l.length - l1.length = M at *
        go_upto_region 7 with (first | (go_at_call 23; refine DE.mono ?_; rintro e1 Y ⟨C, rfl, C17, C1, gY, HC⟩) | (refine wpList_store_new Y Z17 C Y.heap.size rfl _ _ _ rfl rfl rfl rfl (by rw [C17]; exact Try.size26) (by rw [C17]; rfl) C1 ?_))
        have gf := World.grownBy_alloc Y (.cells C 26) none
        have bf := Blk.new Y C 26
        obtain ⟨d, r, eC, o1, o2⟩ := unhide HC
        obtain ⟨a2, c2, W3, run2, D3⟩ := unhide PS (Y.alloc (.cells C 26)) d r (gY.trans gf) (o1.keepN gf) (World.ownsRow.kept o2 gf (by cases r.ownBlock <;> simp))
        rw [← eC] at run2
        have R2 := hide run2
        have HD := hide D3
        have iF : (Try.prog.info? 26).map (·.size) = some C.size := by rw [C17]; exact Try.size26
        clear DE HC gY gf eC o1 o2 run2 D3 PS
        generalize Y.alloc _ = W1 at *
        generalize Y.heap.size = nf at *
        go_upto_region 10 with (first | (refine wpList_load_row rfl _ _ rfl nf rfl 26 C (0, 0) _ bf Try.underlying26 rfl iF ?_) | (refine wpList_one_frame rfl _ rfl C rfl C17 ?_) | (at_builtin; refine Rl.wpList_append_runQ _ rfl _ _ 47 47 rfl _ _ rfl rfl (unhide R2 _) ?_))
        clear R2 bf iF
        go_wp2_with fail
        exact ⟨⟨M, pre ++ [(k, f)], L', _, rfl, rfl, (unhide NA).1, (unhide NA).2, unhide HD⟩, by have := unhide FAR; simp [intOf]; omega⟩
    · have kI : ¬ (k : Int) < (n : Int) := by omega
      cases hA with
      | bad h hd => omega
      | next h hd hA' => omega
      | stop h =>
        have PL : Hid (pre = L) := by show pre = L; rw [← hL, List.append_nil]
        have F2 := hide hD
        have HJ := hide (jn rfl)
        clear hr hn hc hc2 hl hb few hab jn hL hD I h hlt
        go_wp2_with fail
        go_ret3
        obtain ⟨⟨fs, e1, e2⟩, g⟩ := unhide F2
        exact ⟨_, fs, by rw [unhide HJ]; rfl, e2, by have hq := unhide HFS; simp at hq; rw [hq, e1, unhide PL], g⟩

theorem parse_doc {ab ao n c : Nat} {l : List Int} (w : World) (hr : Rd w (some ⟨ab, ao, none⟩) l) (hn : l.length = n) (h0 : 0 < n) (hc : n < c) (hc2 : c ≤ maxLen) (hl : n ≤ 1048576) (hb : ∀ x ∈ l, IsB x) {L : List (Nat × Fr)} {j : Nat} {e : Int} (hA : AllP l 0 L j e) :
    Calls Try.prog 28 #[.slice (some ⟨ab, ao, none⟩) n c] w (PaR w (if e = 0 then L.map Prod.snd else []) j e) := by
  obtain ⟨fs0, hfs⟩ : ∃ fs0, fs0 = if e = 0 then L.map Prod.snd else [] := ⟨_, rfl⟩
  rw [← hfs]
  have HFS := hide hfs
  clear hfs
  have lenI : ¬ (9223372036854775807 : Int) < (n : Int) := by omega
  have n0 : ((n : Int) == 0) = false := by rw [beq_eq_false_iff_ne]; omega
  have few : L.length ≤ 1048576 := by have := hA.len hb; omega
  have jn : e = 0 → j = n := fun e0 => by
    have h1 := (hA.end_le (Nat.zero_le _)).1
    have h2 := hA.err.2 e0
    omega
  have AL := all_doc w hr hn hc hc2 hl hb hA
  have er := hA.err.1
  have la := hA.last
  have DR := hide (fun W (g : w.grownBy W none) (p : Nat) (h : p < l.length) => decR_any (p : Int) W (hr.grow g) hn hc hc2 (by omega) (by omega))
  have JN := hide jn
  have LA := hide la
  have FW := hide few
  have HN := hide hn
  clear hr hn hc hc2 hl hb hA few jn la
  go_enter Try.func28, Try.ntmps28
  go_upto_region 4 with (go_at_call 33; refine AL.mono ?_; rintro e1 Y ⟨pv, lv, rfl, D⟩)
  clear AL
  obtain ⟨pa, pc, rfl, -, pc2⟩ := row_shapeF D.p
  have few := unhide FW
  have LI : ¬ (9223372036854775807 : Int) < (L.length : Int) := by omega
  have HD := hide D
  clear D few
  by_cases c0 : e = 0
  · subst c0
    have HJ := hide (unhide JN rfl)
    go_wp2_with fail
    go_ret3
    obtain ⟨fs, e1, e2⟩ := (unhide HD).f
    exact ⟨_, fs, by rw [unhide HJ]; rfl, e2, by have hq := unhide HFS; simp at hq; rw [hq, e1], (unhide HD).gr⟩
  · have eb : (e == 0) = false := by rw [beq_eq_false_iff_ne]; exact c0
    rcases unhide LA with ⟨hL, hj⟩ | ⟨L', p, f, l1, hL, hp, hd, hj⟩
    · have l0 : Hid (L.length = 0) := by show L.length = 0; rw [hL]; rfl
      have lI : ¬ (0 : Int) < (L.length : Int) := by have := unhide l0; omega
      have HJ := hide hj
      clear hL hj LA l0
      go_wp2_with fail
      go_ret3
      exact ⟨_, [], by rw [unhide HJ]; rfl, FR.nil _ _, by have hq := unhide HFS; simp [c0] at hq; rw [hq]; rfl, (unhide HD).gr⟩
    · have hlen : L.length = L'.length + 1 := by rw [hL, List.length_append]; rfl
      have lI : (0 : Int) < (L.length : Int) := by omega
      obtain ⟨pg, rfl⟩ : ∃ g, pa = some ⟨g, 0, none⟩ := by
        rcases (unhide HD).p.2 with ⟨e, e2⟩ | ⟨g, cap, cur, e, -⟩
        · omega
        · injection e with e; exact ⟨g, e⟩
      have pc1 : Y.cell? ⟨pg, L'.length, none⟩ = some (.int .i64 (p : Int)) := by
        have hq := (unhide HD).p
        rcases hq.2 with ⟨e, e2⟩ | ⟨g2, cap, cur, e, q1, q2, q3, q4, q5, q6⟩
        · omega
        · injection e with e e2 e3
          cases e
          simp only [World.cell?, q2]
          have h6 : (cur.toList.take (L.length * 1))[L'.length]? = some (.int .i64 (p : Int)) := by
            rw [q6, hL]
            simp [plV]
          rw [List.getElem?_take, if_pos (by omega), Array.getElem?_toList] at h6
          exact h6
      have DE := (unhide DR Y (unhide HD).gr p hp).mono fun en W' h => decR_ok h hd
      obtain ⟨N, hN⟩ : ∃ N, N = L'.length := ⟨_, rfl⟩
      have hlN : L.length = N + 1 := by omega
      rw [← hN] at pc1
      have cl : pc = pc := rfl
      have HJ := hide hj
      have eI : IntKind.i64.wrap (((N + 1 : Nat) : Int) - 1) = (N : Int) := by rw [IntKind.wrap_i64]; have := unhide FW; omega
      have nI : (N : Int) < ((N + 1 : Nat) : Int) := by omega
      have nN : (0 : Int) ≤ (N : Int) := by omega
      have GR := hide (unhide HD).gr
      rw [hlN] at lI LI ⊢
      clear hL hp hd hj hlen hN hlN LA HD DR
      generalize l.length - l1.length = M at *
      go_upto_region 9 with (first | (go_at_call 21; refine DE.mono ?_; rintro e1 Y2 ⟨C, rfl, C17, C1, gY, HC⟩) | (refine wpList_store_new Y2 Z17 C Y2.heap.size rfl _ _ _ rfl rfl rfl rfl (by rw [C17]; exact Try.size26) (by rw [C17]; rfl) C1 ?_))
      have GF := hide (((unhide GR).trans gY).trans (World.grownBy_alloc Y2 (.cells C 26) none))
      clear gY DE HC GR C1 pc1
      go_wp2_with fail
      go_ret3
      exact ⟨_, [], by rw [unhide HJ]; rfl, FR.nil _ _, by have hq := unhide HFS; simp [c0] at hq; rw [hq]; rfl, unhide GF⟩
theorem parse_doc0 (a : Option Addr) (c : Nat) (w : World) : Calls Try.prog 28 #[.slice a 0 c] w (PaR w [] 0 43) := by
  go_enter Try.func28, Try.ntmps28
  go_wp2
  go_ret3
  exact ⟨_, [], rfl, FR.nil _ _, rfl, World.grownBy.refl w none⟩
theorem parse_code0 (a : Option Addr) (c : Nat) (w : World) : Calls Try.prog 29 #[.slice a 0 c] w (PaR w [] 0 43) := by
  go_enter Try.func29, Try.ntmps29
  go_wp2
  go_ret3
  exact ⟨_, [], rfl, FR.nil _ _, rfl, World.grownBy.refl w none⟩
/-- Both alike. -/
theorem parse_one (l : List Int) (hb : ∀ x ∈ l, IsB x) (hl : l.length ≤ 1048576) : ∃ (fs0 : List Fr) (at0 : Nat) (e0 : Int), fs0.length ≤ 1048576 ∧
    (∀ (ab ao c : Nat) (w : World), Rd w (some ⟨ab, ao, none⟩) l → l.length < c → c ≤ maxLen → Calls Try.prog 28 #[.slice (some ⟨ab, ao, none⟩) l.length c] w (PaR w fs0 at0 e0)) ∧
    (∀ (ab ao c : Nat) (w : World), ab < w.heap.size → Rd w (some ⟨ab, ao, none⟩) l → l.length < c → c ≤ maxLen → Calls Try.prog 29 #[.slice (some ⟨ab, ao, none⟩) l.length c] w (PaR w fs0 at0 e0)) := by
  by_cases h0 : l.length = 0
  · rw [h0]
    exact ⟨[], 0, 43, Nat.zero_le _, fun ab ao c w _ _ _ => parse_doc0 _ c w, fun ab ao c w _ _ _ _ => parse_code0 _ c w⟩
  · obtain ⟨L, j, e, hA⟩ := all_total hb l.length 0 (by omega)
    have hlen := hA.len hb
    refine ⟨if e = 0 then L.map Prod.snd else [], j, e, ?_, fun ab ao c w h1 h2 h3 => parse_doc w h1 rfl (by omega) h2 h3 hl hb hA, fun ab ao c w h h1 h2 h3 => parse_code w h h1 rfl (by omega) h2 h3 hl hb hA⟩
    split
    · rw [List.length_map]; omega
    · exact Nat.zero_le _
end Go.Proofs.Ytggjeamondampaa

namespace Go.Proofs.Ytggjeamondampaa
open Go.RowKit
set_option linter.unusedVariables false
set_option linter.unusedSimpArgs false
set_option maxRecDepth 100000
set_option maxHeartbeats 4000000

theorem lent_bel {wA W W' : World} {B0 B g n gf cf gw cw : Nat} {F : List Int} (h : Lent wA B0 W g n gf cf gw cw F F) (hB : g < B ∧ gf < B ∧ gw < B) (hBB : B0 ≤ B) (b : Below B W W') : Lent wA B0 W' g n gf cf gw cw F F := by
  have g8 : ∀ i, i < B → W'.heap[i]? = W.heap[i]? := fun i hi => b.block i hi
  have kp : ∀ {e : TypeId} {size m : Nat} {v : Value} {xs : List Value} {Bq : Nat}, W.ownsRow Bq e size v m xs → (∀ q, v.ownBlock = some q → q < B) → W'.ownsRow Bq e size v m xs := fun {e size m v xs Bq} h hq => by
    refine ⟨h.1, ?_⟩
    rcases h.2 with h2 | ⟨q, cp, cur, e1, q1, q2, q3⟩
    · exact .inl h2
    · exact .inr ⟨q, cp, cur, e1, q1, (g8 q (hq q (by rw [e1]; rfl))).trans q2, q3⟩
  refine ⟨(g8 g hB.1).trans h.blk, kp h.full (fun q e => ?_), kp h.was (fun q e => ?_), h.sep, h.bel.trans (b.mono ?_), h.low⟩
  · injection e with e; have e' : gf = q := e; omega
  · injection e with e; have e' : gw = q := e; omega
  · exact hBB
theorem FR.rd {B : Nat} {W : World} {L : List FV} {la : Option Addr} {q lc : Nat} (I : FR B W (.slice la q lc) L) (hq : L.length = q) : RdF W la L ∧ q ≤ lc ∧ lc ≤ 9223372036854775807 := by
  have each : ∀ x ∈ L, FrR W x.f x.d x.r := fun x hx => FrR.own (I.own.dat x hx).1 (I.own.run x hx).1 (I.bt x hx)
  rcases I.row.2 with ⟨e1, e2⟩ | ⟨g1, c1, cur, e1, q1, q2, q3, q4, q5, q6⟩
  · injection e1 with e1 e3 e4
    subst e3 e4
    exact ⟨⟨each, fun hne => absurd (List.length_eq_zero_iff.1 hq) hne⟩, by omega, by omega⟩
  · injection e1 with e1 e2 e3
    unfold maxLen at q4
    refine ⟨⟨each, fun _ => ⟨g1, 0, e1, fun i hi j v hv => ?_⟩⟩, by omega, by omega⟩
    have hj : j < 17 := Nat.lt_of_lt_of_eq (Array.getElem?_eq_some_iff.1 hv).1 (FV.size _)
    have := clF_get L i j hi hj
    rw [hv, ← q6, List.getElem?_take] at this
    simp only [World.cell?, q2]
    rw [if_pos (by omega), Array.getElem?_toList] at this
    rw [Nat.zero_add]
    exact this
/-- What is held between two rounds. -/
structure PJ (wA W : World) (B0 g n gf cf gw cw : Nat) (F : List Int) (lv lw : Value) (ps : List FV) (qs : List (Value × List FV)) : Prop where
  lent : Lent wA wA.heap.size W g n gf cf gw cw F F
  fb : ∀ x ∈ F, IsB x
  sf : SF B0 W lv lw ps qs
  lt : g < B0 ∧ gf < B0 ∧ gw < B0 ∧ B0 ≤ W.heap.size
section
variable {wA W W' : World} {B0 g n gf cf gw cw : Nat} {F F' : List Int} {lv lw : Value} {ps : List FV} {qs : List (Value × List FV)}
theorem PJ.onN (I : PJ wA W B0 g n gf cf gw cw F lv lw ps qs) (gr : W.grownBy W' none) : PJ wA W' B0 g n gf cf gw cw F lv lw ps qs :=
  ⟨LP.onN I.lent gr, I.fb, I.sf.onN gr, ⟨I.lt.1, I.lt.2.1, I.lt.2.2.1, Nat.le_trans I.lt.2.2.2 gr.size⟩⟩
theorem PJ.turn (I : PJ wA W B0 g n gf cf gw cw F lv lw ps qs) (o : Tu.Only W W' gf gw) (hl : Lent wA wA.heap.size W' g n gf cf gw cw F' F') (hb : ∀ x ∈ F', IsB x) : PJ wA W' B0 g n gf cf gw cw F' lv lw ps qs :=
  ⟨hl, hb, I.sf.kpt (fun i h1 _ => o.2 i (by have := I.lt; omega) (by have := I.lt; omega)), ⟨I.lt.1, I.lt.2.1, I.lt.2.2.1, by rw [o.1]; exact I.lt.2.2.2⟩⟩
theorem PJ.push {wb : World} {a : Option Addr} {m c : Nat} {rs : List FV} (I : PJ wA W B0 g n gf cf gw cw F lv lw ps qs) (Ib : PJ wA wb B0 g n gf cf gw cw F lv lw ps qs) (hm : rs.length = m) (hm2 : m ≤ 1048576) (hq : qs.length ≤ 50)
    (hr : FR wb.heap.size W (.slice a m c) rs) (hwr : wb.grownBy W none) :
    ∃ a1 n1 c1 W1 a2 c2 W2, (Builtin.append_ #[47, 47] 47 #[lv, .slice a m c]).run Try.prog W = .ok (.slice a1 n1 c1) W1
      ∧ (Builtin.append_ #[57, 57] 57 #[lw, .slice (some ⟨W1.heap.size, 0, none⟩) 1 1]).run Try.prog (W1.alloc (.cells #[.slice a m c] 47)) = .ok (.slice a2 (qs.length + 1) c2) W2
      ∧ (ps ++ rs).length = n1 ∧ (qs ++ [(Value.slice a m c, rs)]).length = qs.length + 1 ∧ PJ wA W2 B0 g n gf cf gw cw F (.slice a1 n1 c1) (.slice a2 (qs.length + 1) c2) (ps ++ rs) (qs ++ [(.slice a m c, rs)]) := by
  obtain ⟨a1, n1, c1, W1, a2, c2, W2, r1, r2, e1, s, b⟩ := I.sf.push Ib.sf hm hm2 hq hr Ib.lt.2.2.2 hwr
  refine ⟨a1, n1, c1, W1, a2, c2, W2, r1, r2, e1.symm, by simp, ⟨lent_bel I.lent ⟨I.lt.1, I.lt.2.1, I.lt.2.2.1⟩ ?_ b, I.fb, s, ⟨I.lt.1, I.lt.2.1, I.lt.2.2.1, Nat.le_trans I.lt.2.2.2 b.size⟩⟩⟩
  have := I.lent.low
  have := I.lt
  omega
end
theorem apart_nil0 (w : World) : Calls Try.prog 19 #[.slice none 0 0] w fun e w' => e = .returned (.bool true) ∧ w.grownBy w' none := by
  go_enter Try.func19, Try.ntmps19
  go_wp2_with fail
  go_loopw [3] (fun i wr => i = .int .i64 0 ∧ w.grownBy wr none) (fun _ _ => 0)
  case atStart => exact ⟨rfl, World.grownBy.refl w none⟩
  case round =>
    obtain ⟨rfl, gw⟩ := hrel
    go_wp2_with fail
    go_loopw [6] (fun i wr => i = .int .i64 0 ∧ w.grownBy wr none) (fun _ _ => 0)
    case atStart => exact ⟨rfl, gw⟩
    case round =>
      clear gw
      obtain ⟨rfl, gw⟩ := hrel
      go_wp2_with fail
      go_loopw [9] (fun i wr => i = .int .i64 0 ∧ w.grownBy wr none) (fun _ _ => 0)
      case atStart => exact ⟨rfl, gw⟩
      case round =>
        clear gw
        obtain ⟨rfl, gw⟩ := hrel
        go_wp2_with fail
        go_ret
        exact ⟨rfl, gw⟩

theorem apartRuns_nil0 (w : World) : Calls Try.prog 59 #[.slice none 0 0] w fun e w' => e = .returned (.bool true) ∧ w.grownBy w' none := by
  go_enter Try.func59, Try.ntmps59
  go_wp2_with fail
  go_loopw [3] (fun i wr => i = .int .i64 0 ∧ w.grownBy wr none) (fun _ _ => 0)
  case atStart => exact ⟨rfl, World.grownBy.refl w none⟩
  case round =>
    obtain ⟨rfl, gw⟩ := hrel
    go_wp2_with fail
    go_loopw [6] (fun i wr => i = .int .i64 0 ∧ w.grownBy wr none) (fun _ _ => 0)
    case atStart => exact ⟨rfl, gw⟩
    case round =>
      clear gw
      obtain ⟨rfl, gw⟩ := hrel
      go_wp2_with fail
      go_loopw [9] (fun i wr => i = .int .i64 0 ∧ w.grownBy wr none) (fun _ _ => 0)
      case atStart => exact ⟨rfl, gw⟩
      case round =>
        clear gw
        obtain ⟨rfl, gw⟩ := hrel
        go_wp2_with fail
        go_ret
        exact ⟨rfl, gw⟩

theorem apartFr_nil (a : Option Addr) (c : Nat) (w : World) : Calls Try.prog 27 #[.slice a 0 c] w fun e w' => e = .returned (.bool true) ∧ w.grownBy w' none := by
  go_enter Try.func27, Try.ntmps27
  go_wp2_with fail
  go_loopw [3, 4, 5] (fun v u i wr => v = .slice none 0 0 ∧ u = .slice none 0 0 ∧ i = .int .i64 0 ∧ w.grownBy wr none) (fun _ _ _ _ => 0)
  case atStart => exact ⟨rfl, rfl, rfl, World.grownBy.refl w none⟩
  case round =>
    obtain ⟨rfl, rfl, rfl, gw⟩ := hrel
    have an := apart_nil0 wr
    go_wp2_with fail
    refine an.mono ?_
    rintro e W1 ⟨rfl, g1⟩
    have ar := apartRuns_nil0 W1
    clear an
    go_wp2_with fail
    refine ar.mono ?_
    rintro e W2 ⟨rfl, g2⟩
    clear ar
    go_wp2_with fail
    go_ret
    exact ⟨rfl, (gw.trans g1).trans g2⟩
end Go.Proofs.Ytggjeamondampaa

namespace Go.Proofs.Ytggjeamondampaa
open Go.RowKit
set_option linter.unusedVariables false
set_option linter.unusedSimpArgs false
set_option maxRecDepth 100000
set_option pp.deepTerms true
set_option pp.maxSteps 10000000
set_option maxHeartbeats 4000000

theorem parses_of (a : Option Addr) (l : List Int) (cap n : Nat) (w : World) (hr : Rd w a l) (hn : l.length = n) (hl : n ≤ 1048576) :
    Calls Try.prog 5 #[.slice a n cap] w fun e w' => e = .returned (.bool true) ∧ Below w.heap.size w w' := by
  have AW := awake_any w
  have LN := hide (fun W (g : w.grownBy W none) => lend_any a l cap W (hr.grow g) (by omega))
  rw [hn] at LN
  have HL := hide hr.1
  have HN := hide hn
  clear hr hn
  go_enter Try.func5, Try.ntmps5
  go_upto_region 2 with (go_at_call 9; refine AW.mono ?_; rintro e W1 ⟨rfl, g1⟩)
  have ln := unhide LN W1 g1
  clear AW LN
  go_upto_region 3 with (go_at_call 20; refine ln.mono ?_; rintro e W2 ⟨fv, wv, rfl, lp⟩)
  obtain ⟨gf, cf, rfl, -⟩ := ownsRow_open lp.full (by omega)
  obtain ⟨gw, cw, rfl, -⟩ := ownsRow_open lp.was (by omega)
  have HI : Hid (PJ W1 W2 W2.heap.size W1.heap.size n gf cf gw cw (lentL l) (.slice none 0 0) (.slice none 0 0) [] []) := ⟨lp, lentL_byte _ (unhide HL), SF.nil _ _, ⟨lp.lt, (lp.full.lt gf rfl).2, (lp.was.lt gw rfl).2, Nat.le_refl _⟩⟩
  have HG1 := hide g1
  clear ln lp g1
  generalize W1.heap.size = g at *
  go_wp2_with fail
  go_loopw [5, 6, 7] (fun lv lw iv wr => ∃ (q : Nat) (la lb : Option Addr) (na ca cb : Nat) (F : List Int) (ps : List FV) (qs : List (Value × List FV)), lv = .slice la na ca ∧ lw = .slice lb q cb ∧ iv = .int .i64 (q : Int) ∧ q ≤ 3 ∧ Hid (ps.length = na ∧ qs.length = q ∧ PJ W1 wr W2.heap.size g n gf cf gw cw F (.slice la na ca) (.slice lb q cb) ps qs)) (fun _ _ iv _ => 3 - (intOf iv).toNat)
  case atStart => exact ⟨0, none, none, 0, 0, 0, lentL l, [], [], rfl, rfl, rfl, by omega, rfl, rfl, unhide HI⟩
  case round =>
    clear HI
    obtain ⟨q, la, lb, na, ca, cb, F, ps, qs, rfl, rfl, rfl, hq, H⟩ := hrel
    obtain ⟨hps, hqs, I⟩ := unhide H
    by_cases hlt : q < 3
    · have qI : (q : Int) < 3 := by omega
      obtain ⟨hne, hg1, hg2, hc1, hc2, hc3, hc4⟩ := I.lent.ne
      have hlen : (F.take n).length = n := I.lent.tlen
      have rdF := I.lent.rd I.fb
      have bF : ∀ x ∈ F.take n, IsB x := fun x hx => I.fb x (List.mem_of_mem_take hx)
      obtain ⟨fs0, at0, e0, hf0, PD, PC⟩ := parse_one (F.take n) bF (by omega)
      rw [hlen] at PD PC
      have BY : Hid (∀ X, wr.grownBy X none → Calls Try.prog 22 #[.pointer (some ⟨g, 0, none⟩)] X fun e w' => e = .returned (.slice (some ⟨gf, 0, none⟩) n cf) ∧ X.grownBy w' none) := fun X gx => (bytes_any W1 X W1.heap.size g n gf cf gw cw F F (LP.onN I.lent gx)).mono (by rintro e w' ⟨rfl, qq, rfl⟩; exact ⟨rfl, grown_drewM (World.grownBy.refl X none) qq⟩)
      have DW : Hid (∀ X, wr.grownBy X none → Calls Try.prog 28 #[.slice (some ⟨gf, 0, none⟩) n cf] X (PaR X fs0 at0 e0)) := fun X gx => PD gf 0 cf X (rdF.grow gx) (by omega) hc2
      have DC : Hid (∀ X, wr.grownBy X none → Calls Try.prog 29 #[.slice (some ⟨gf, 0, none⟩) n cf] X (PaR X fs0 at0 e0)) := fun X gx => PC gf 0 cf X (Nat.lt_of_lt_of_le (I.lent.full.lt gf rfl).2 gx.size) (rdF.grow gx) (by omega) hc2
      have KT : Hid (∀ X, wr.grownBy X none → Calls Try.prog 24 #[.pointer (some ⟨g, 0, none⟩)] X fun e w' => e = .returned (.bool true) ∧ X.grownBy w' none) := fun X gx => (kept_any W1 X W1.heap.size g n gf cf gw cw F (LP.onN I.lent gx)).mono (by rintro e w' ⟨rfl, qq, rfl⟩; exact ⟨rfl, grown_drewM (World.grownBy.refl X none) qq⟩)
      have by1 := unhide BY wr (World.grownBy.refl wr none)
      have HF0 := hide hf0
      clear hne hg1 hg2 hc1 hc3 hc4 hlen rdF bF PD PC hps hqs I hf0 hc2
      go_upto_region 9 with (first | (go_at_call 22; refine by1.mono ?_; rintro e X1 ⟨rfl, gx1⟩; have dw := unhide DW X1 gx1) | (go_at_call 28; refine dw.mono ?_; rintro e Y1 ⟨lvw, fsw, rfl, hfw, efw, gy1⟩))
      have gT1 := gx1.trans gy1
      have HW := hide (And.intro hfw efw)
      have by2 := unhide BY Y1 gT1
      clear by1 dw hfw efw gy1 gx1
      go_upto_region 10 with (first | (go_at_call 22; refine by2.mono ?_; rintro e X2 ⟨rfl, gx2⟩; have dc := unhide DC X2 (gT1.trans gx2)) | (go_at_call 29; refine dc.mono ?_; rintro e Y2 ⟨lvc, fsc, rfl, hfc, efc, gy2⟩))
      have gT2 := (gT1.trans gx2).trans gy2
      have kt := unhide KT Y2 gT2
      have HC := hide (And.intro hfc (And.intro efc (And.intro (gT1.trans gx2) (And.intro gy2 (gx2.trans gy2)))))
      clear by2 dc hfc efc gx2 gy2 gT1
      go_upto_region 11 with (go_at_call 24; refine kt.mono ?_; rintro e Z3 ⟨rfl, g3⟩)
      obtain ⟨hfw, efw⟩ := unhide HW
      obtain ⟨hfc, efc, gwb, gy2, g12⟩ := unhide HC
      obtain ⟨ac, cc, rfl⟩ := hfc.shape
      obtain ⟨aw, cw2, rfl⟩ := hfw.shape
      have elen : fsw.length = fsc.length := by have := congrArg List.length (efw.trans efc.symm); simpa using this
      have clen : fsc.length ≤ 1048576 := by have := congrArg List.length efc; rw [List.length_map] at this; have := unhide HF0; omega
      obtain ⟨m, hm⟩ : ∃ m, m = fsc.length := ⟨_, rfl⟩
      rw [elen, ← hm] at hfw
      rw [← hm] at hfc
      obtain ⟨rd1, c11, c12⟩ := (hfc.onN g3).rd hm.symm
      obtain ⟨rd2, c21, c22⟩ := (hfw.onN (g12.trans g3)).rd (elen.trans hm.symm)
      have sm := sameFrames_any ac aw cc cw2 m fsc fsw Z3 hm.symm (efc.trans efw.symm) rd1 rd2 ⟨c11, c12⟩ ⟨c21, c22⟩
      have G3 := hide g3
      have CL : Hid (m = fsc.length ∧ m ≤ 1048576) := ⟨hm, by omega⟩
      rw [elen, ← hm]
      clear kt hfw efw hfc efc gwb gy2 g12 elen clen hm rd1 c11 c12 rd2 c21 c22 HW g3
      go_upto_region 12 with (go_at_call 30; refine sm.mono ?_; rintro e Z4 ⟨rfl, g4⟩)
      have mm : ((at0 : Int) != (at0 : Int)) = false := by simp
      have ee : (e0 != e0) = false := by simp
      have cd := fun W => code_any e0 W
      have G4 := hide g4
      clear sm g4
      go_upto_region 14 with (go_at_call 16; refine (cd _).mono ?_; rintro e Z5 ⟨rfl, hZ5⟩; subst hZ5)
      obtain ⟨hfc, efc, gwb, gy2, g12⟩ := unhide HC
      obtain ⟨hps, hqs, I⟩ := unhide H
      obtain ⟨hm, hm2⟩ := unhide CL
      have g35 := (unhide G3).trans (unhide G4)
      have hfc5 := hfc.onN g35
      rw [← hm] at hfc5
      have gb5 := gy2.trans g35
      obtain ⟨a6, n6, c6, W6, b6, d6, W7, run1, run2, en6, eq6, I7⟩ := (I.onN (gwb.trans gb5)).push (I.onN gwb) hm.symm hm2 (by omega) hfc5 gb5
      rw [hqs] at run2 eq6 I7
      have R1 := hide run1
      have R2 := hide run2
      have NX := hide (And.intro en6 (And.intro eq6 I7))
      clear hfc efc gwb gy2 g12 hps hqs I hm hm2 g35 hfc5 gb5 run1 run2 en6 eq6 I7 HC H BY DW DC KT HF0 cd gT2 G3 G4 CL mm ee
      go_upto_region 15 with (at_builtin; refine Rl.wpList_append_runQ _ rfl _ _ 47 47 rfl _ _ rfl rfl (unhide R1) ?_)
      go_upto_region 16 with (at_builtin; refine Rl.wpList_append_runQ _ rfl _ _ 57 57 rfl _ _ rfl rfl (unhide R2) ?_)
      generalize ps ++ fsc = ps' at *
      generalize qs ++ _ = qs' at *
      clear R1 R2
      by_cases h1 : q = 1
      · subst h1
        have tu := Tu.turn_only W1 W7 W1.heap.size g n gf cf gw cw 5 F (unhide NX).2.2.lent (unhide NX).2.2.fb (by decide) (by decide)
        go_wp2_with (go_at_call 26; refine tu.mono ?_; rintro e W8 ⟨rfl, F', l8, b8, o8⟩)
        exact ⟨⟨2, a6, b6, n6, c6, d6, F', ps', qs', rfl, rfl, by go_num, by omega, (unhide NX).1, (unhide NX).2.1, (unhide NX).2.2.turn o8 l8 b8⟩, by simp [intOf]⟩
      · have e1 : ((q : Int) == 1) = false := by rw [beq_eq_false_iff_ne]; omega
        go_wp2_with fail
        exact ⟨⟨q + 1, a6, b6, n6, c6, d6, F, ps', qs', rfl, rfl, by go_num, by omega, (unhide NX).1, (unhide NX).2.1, (unhide NX).2.2⟩, by simp [intOf]; omega⟩
    · obtain rfl : q = 3 := by omega
      have ap : Calls Try.prog 27 #[.slice la na ca] wr fun e w' => e = .returned (.bool true) ∧ Below W2.heap.size wr w' ∧ KF wr w' := by
        by_cases h0 : na = 0
        · subst h0
          refine (apartFr_nil la ca wr).mono ?_
          rintro e w' ⟨rfl, g⟩
          exact ⟨rfl, (bel_ofF g).mono I.lt.2.2.2, fun g0 c t fr h _ _ _ _ => g.block g0 (lt_of_block h) (by simp)⟩
        · obtain ⟨rdL, lc1, lc2⟩ := I.sf.all.rd hps
          have := I.sf.few
          exact apartFr_any W2.heap.size na ca la ps wr hps (by omega) (by omega) I.lt.2.2.2 rdL I.sf.all.own ⟨lc1, lc2⟩
      have HI3 := hide (And.intro hps (And.intro hqs I))
      clear hps hqs I H
      go_upto_region 19 with (go_at_call 27; refine ap.mono ?_; rintro e W8 ⟨rfl, b8, k8⟩)
      obtain ⟨hps, hqs, I⟩ := unhide HI3
      have kr : ∀ {t : TypeId} {size n : Nat} {v : Value} {xs : List Value}, wr.ownsRow W2.heap.size t size v n xs → t ≠ 5 → t ≠ 22 → t ≠ 81 → t ≠ 23 → W8.ownsRow W2.heap.size t size v n xs := fun {t size n v xs} ho h1 h2 h3 h4 => by
        refine ⟨ho.1, ?_⟩
        rcases ho.2 with h5 | ⟨g, cap, cur, e1, q1, q2, q3⟩
        · exact .inl h5
        · exact .inr ⟨g, cap, cur, e1, q1, (k8 g cur t (0, 0) q2 h1 h2 h3 h4).trans q2, q3⟩
      have lrow := kr I.sf.row (by decide) (by decide) (by decide) (by decide)
      have AL : Calls Try.prog 31 #[.slice lb 3 cb] W8 fun e w' => e = .returned (.bool true) ∧ Below W2.heap.size W8 w' := by
        obtain ⟨b, cap2, cur, e, q1, q2, q3, q4, q5, q6⟩ : ∃ g cap cur, Value.slice lb 3 cb = .slice (some ⟨g, 0, none⟩) 3 cap ∧ W2.heap.size ≤ g ∧ W8.heap[g]? = some (.cells cur 47 (0, 0)) ∧ 3 ≤ cap ∧ cap ≤ maxLen ∧ cur.size = cap * 1 ∧ cur.toList.take (3 * 1) = qs.map (·.1) := by
          rcases lrow.2 with ⟨e, e2⟩ | hh
          · omega
          · rw [hqs] at hh; exact hh
        have hvl : (qs.map (·.1)).length = 3 := by rw [List.length_map, hqs]
        have al := Fl.lists_row (qs.map (·.1)) cur W8 W8 W2.heap.size b cap2 q1 q2 (by rw [hvl]; exact q6) (fun v hv => by
          rw [List.mem_map] at hv
          obtain ⟨q, hq, rfl⟩ := hv
          have hh := I.sf.each q hq
          exact ⟨_, _, kr hh.1 (by decide) (by decide) (by decide) (by decide), by omega⟩) (by rw [List.pairwise_map]; exact I.sf.sep) (by rw [hvl]; decide) (Below.refl _ W8)
        rw [hvl, ← e] at al
        exact al
      have LN8 := hide (lent_bel I.lent ⟨I.lt.1, I.lt.2.1, I.lt.2.2.1⟩ (by have := I.lent.low; have := I.lt; omega) b8)
      have HB := hide (And.intro I.lt I.lent.low)
      clear ap b8 k8 kr lrow hps hqs I HI3
      go_upto_region 20 with (go_at_call 31; refine AL.mono ?_; rintro e W9 ⟨rfl, b9⟩)
      have l9 := lent_bel (unhide LN8) ⟨(unhide HB).1.1, (unhide HB).1.2.1, (unhide HB).1.2.2.1⟩ (by have := (unhide HB).2; have := (unhide HB).1; omega) b9
      have kt := kept_any W1 W9 W1.heap.size g n gf cf gw cw F l9
      have FB := hide (((bel_of (unhide HG1)).trans (l9.bel.mono (unhide HG1).size)))
      clear AL b9 l9 LN8 HB
      go_upto_region 21 with (go_at_call 24; refine kt.mono ?_; rintro e W10 ⟨rfl, qq, rfl⟩)
      go_wp2_with fail
      go_ret
      exact ⟨rfl, bel_drewN (unhide FB) qq⟩
theorem parses_walk (a : Option Addr) (len cap : Nat) (l : List Int) (w : World) (h : InS w (.slice a len cap) l) (hl : l.length ≤ 1048576) :
    Calls Try.prog 5 #[.slice a len cap] w fun e w' => e = .returned (.bool true) ∧ Below w.heap.size w w' := by
  obtain ⟨a', c', e, h1, -⟩ := h.ex
  injection e with e1 e2 e3
  subst e1 e2 e3
  exact parses_of a l cap l.length w h1 rfl hl
end Go.Proofs.Ytggjeamondampaa

namespace Go.Proofs.Ytggjeamondampaa
open Go.ChangeShapes Go.WideShapes Go.ChangeAt Go.RowKit
set_option linter.unusedVariables false
set_option maxRecDepth 100000
namespace frameParsesFrame

theorem own : ownKnob Try.prog.godebug = none := by kernel_rfl
theorem laidOut : laidOutB Try.prog = true := by kernel_rfl

set_option maxRecDepth 100000 in
theorem lifted (os : Os) (started : os.Started) (H : Type) (enc : TypeId × Value → H) (F : Stop.Interp) :
    ReturnsInHanded {} Try.checked os 5 .any ((Rows.OpenSpec.upto Rows.frameParsesSpec).pre6 enc Try.prog Try.f5 Rows.frameParsesUptoRow.domain false) (((Rows.OpenSpec.upto Rows.frameParsesSpec).at F).post enc Try.prog Try.f5 false true false false) := by
  refine returnsInHanded_of_cond_sized (C := Try.checked) (s := Rows.OpenSpec.upto Rows.frameParsesSpec) (k := Rows.uptoSmall) rfl own started (by kernel_rfl) Try.func5
    (OpenSpec.witness (enc := enc) (C := Try.checked) (s := Rows.OpenSpec.upto Rows.frameParsesSpec) (k := Rows.uptoSmall) rfl false ⟨#[], #[.slice none 0 0], []⟩ 8 (by kernel_rfl) (by kernel_rfl) (by kernel_rfl)
      (x := ([.nil], [], [])) (by kernel_rfl) rfl (by kernel_rfl)) ?_
  intro W base args ds gs before hval0 hW hcnd hk hsz0 _
  have hsz : (DataW.weightsEach Try.prog (Try.f5.params.toList ++ (Rows.OpenSpec.upto Rows.frameParsesSpec).bare.plain.varTypes Try.prog) (ds ++ gs)).all (· ≤ reachBytes) = true := hsz0
  have hval : ∀ (j : Nat) t v, Try.f5.params[j]? = some t → args[j]? = some v → Value.okWide Try.prog W .any base t v := hval0
  have hW' := hW
  obtain ⟨p, q, hA0, hV, rfl, hfz, hnd⟩ := hW
  have hA : DataW.TrodAll enc Try.prog W 0 (fun _ => true) true Try.f5.params.toList args.toList ds p := hA0
  rw [Try.params5] at hA hval hsz
  obtain ⟨v0, vs0, d0, ds0, p0, q0, hargs, rfl, rfl, h0, r0⟩ := trodAll_cons hA
  obtain ⟨rfl, rfl, rfl⟩ := trodAll_nil r0
  obtain rfl : args = #[v0] := by cases args; simp_all
  obtain ⟨rfl, rfl⟩ := trodVars_none hV
  have k0 := h0
  have lt0 : ∀ x ∈ p0, x.block < W.heap.size := by obtain ⟨m, hm⟩ := k0; exact DataW.trod_lt m _ _ _ hm
  obtain ⟨a0, len0, cap0, rfl⟩ := okWide_slice Try.underlying22 (hval 0 22 v0 rfl rfl)
  obtain ⟨z0, w0, e0⟩ := open_row h0
  have g0 := row_size hsz (j := 0) rfl rfl e0
  have bk0 : (z0.take len0).length ≤ 1048576 := by
    have hb := bulk_mem hk (d := d0) (by simp)
    exact Nat.le_trans (row_bulk e0) hb
  clear hA0 hval0
  refine (parses_walk a0 len0 cap0 _ W (isRow_in w0) bk0).mono fun e W' ⟨he, gr⟩ => ?_
  have bel := gr
  subst he
  exact ⟨_, rfl, _, _, _, [], _, [], hW', trodAll_mk1 (shut_bool Try.underlying4 _), (trodAll_cons_mk (Below.trod laidOut (by kernel_rfl) (of_decide_eq_true (by kernel_rfl)) k0 bel lt0) trodAll_mk0), rfl, bel.frame _, fun h => by cases h⟩

theorem over : Rows.frameParsesUptoRow.holds Try.pinned (Rows.OpenSpec.upto Rows.frameParsesSpec) :=
  OpenClaim.holds_of_cond 5 Try.f5 rfl rfl rfl rfl rfl rfl rfl ⟨rfl, rfl, rfl, rfl, rfl⟩ rfl rfl rfl rfl rfl (by kernel_rfl) Try.func5 (by kernel_rfl)
    (of_decide_eq_true (by kernel_rfl)) (by unfold Func.isWrapper; first | (rw [if_pos (by decide +kernel)]; kernel_rfl) | (rw [if_neg (by decide +kernel)]; exact ⟨rfl, rfl⟩))
    (fun os started H enc _ F => lifted os started H enc F)
end frameParsesFrame

/-- THE STATEMENT -/
theorem frameParses_holds : Rows.FrameParsesUptoSaid := frameParsesFrame.over
end Go.Proofs.Ytggjeamondampaa
