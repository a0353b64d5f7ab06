/- F1J, F1T0, F1T1, F1T2, F1T, P4Tel, one text. -/
import Derived.Test.YtggjeamondampabF1E
import Derived.Test.YtggjeamondampabF1H
import Derived.Test.YtggjeamondampabF1I
import Derived.Test.YtggjeamondampabF1F
import Derived.ProofKit
import Derived.OpenShut
import Derived.ShutString
import Derived.ChangeOld
import Derived.SizedLaws
namespace Go.Proofs.Ytggjeamondampab
open Go.RowKit
set_option linter.unusedVariables false
set_option maxRecDepth 100000
set_option maxHeartbeats 4000000

theorem kinds_keep (k : Int) (own : Bool) : (elicF k = true → allowF 2 k own = true) ∧ (allowF 0 k own = allowF 1 k own) ∧ (allowF 0 k own = true → allowF 2 k own = true) ∧ allowF 3 k own = false ∧
    (0 < keepS k → elicF k = true) ∧ (keepS k = 0 → elicF k = false ∨ k = 1 ∨ k = 26 ∨ k = 27) := by
  have e2 : allowF 2 k own = isKindF k := rfl
  have e0 : allowF 0 k own = allowF 1 k own := rfl
  have hid : isKindF k = true → _ := kind_dom (k := k)
  have hki : (k = 0 ∨ k = 1 ∨ k = 2 ∨ k = 4 ∨ k = 5 ∨ k = 6 ∨ k = 8 ∨ k = 16 ∨ k = 17 ∨ k = 18 ∨ k = 20 ∨ k = 21 ∨ k = 22 ∨ k = 26 ∨ k = 27 ∨ k = 28 ∨ k = 30) → isKindF k = true := fun h => by
    rcases h with rfl | rfl | rfl | rfl | rfl | rfl | rfl | rfl | rfl | rfl | rfl | rfl | rfl | rfl | rfl | rfl | rfl <;> rfl
  refine ⟨fun h => ?_, e0, fun h => ?_, rfl, fun h => ?_, fun h => ?_⟩
  · rw [e2]; unfold elicF at h; split at h
    · cases h
    · exact h
  · rw [e2]
    apply hki
    have e : allowF 0 k own = (if k = 0 ∨ k = 1 ∨ k = 2 ∨ k = 6 then true else if k = 28 then !own else false) := rfl
    rw [e] at h
    split at h
    · omega
    · split at h
      · omega
      · cases h
  · unfold keepS at h
    unfold elicF
    have : k = 6 ∨ k = 8 ∨ k = 4 ∨ k = 5 ∨ k = 16 ∨ k = 17 ∨ k = 18 ∨ k = 20 ∨ k = 21 ∨ k = 22 ∨ k = 30 := by
      split at h
      · omega
      · split at h
        · omega
        · omega
    rw [if_neg (by omega)]
    exact hki (by omega)
  · by_cases hk : isKindF k = true
    · have := hid hk
      unfold keepS at h
      unfold elicF
      split at h
      · cases h
      · split at h
        · cases h
        · by_cases c : k = 0 ∨ k = 2 ∨ k = 28
          · rw [if_pos c]; exact .inl rfl
          · exact .inr (by omega)
    · left
      unfold elicF
      split
      · rfl
      · simpa using hk

/-- Keep, its frame folded. -/
theorem keep_folded (f : Fr) (d r : Value) (w : World) (hR : FrR w f d r) (hd : f.data.length ≤ 140737488351232) (hr : f.runs.length * 16 ≤ 140737488351232) :
    Calls Try.prog 20 #[f.val d r] w fun e w' => ∃ C2 : Array Value, e = .returned (.tuple #[.agg C2, .bool (decide (0 < keepS f.kind))]) ∧ C2.size = 17 ∧ C2.all (·.oneCell') = true ∧
      Hid (∃ d' r', C2 = (keepF f).cs d' r' ∧ OwnB w.heap.size w' d' (keepF f).data ∧ OwnR w.heap.size w' r' (keepF f).runs ∧ w.grownBy w' none) := by
  refine (keep_any f d r w hR hd hr).mono ?_
  rintro e w' ⟨d', r', rfl, h1, h2, h3⟩
  refine ⟨_, rfl, rfl, ?_, d', r', rfl, h1, h2, h3⟩
  apply one17
  · obtain ⟨a, c, e⟩ := h1.shape; rw [e]; rfl
  · obtain ⟨a, c, e, -⟩ := h2.rd; rw [e]; rfl
end Go.Proofs.Ytggjeamondampab

namespace Go.Proofs.Ytggjeamondampab
open Go.RowKit
set_option linter.unusedVariables false
set_option linter.unusedSimpArgs false
set_option maxRecDepth 100000
set_option maxHeartbeats 4000000

theorem tells_0 (f : Fr) (d r : Value) (w : World) (hF : FrIn w f d r) (hD : TS w d f.data) (hdl : f.data.length ≤ 140737488351232) (hrl : f.runs.length * 16 ≤ 140737488351232) (hS : keepS f.kind = 0) :
    Calls Try.prog 7 #[f.val d r] w fun e w' => e = .returned (.bool true) ∧ w.grownBy w' none := by
  have hR := FrR.of hF hD
  obtain ⟨a, c, rfl, -⟩ := hR.data
  obtain ⟨p, q, rfl, -⟩ := hR.runs
  obtain ⟨C, hC⟩ : ∃ C, C = f.cs (.slice a f.data.length c) (.slice p f.runs.length q) := ⟨_, rfl⟩
  have C17 : C.size = 17 := by rw [hC]; rfl
  have iC : (Try.prog.info? 26).map (·.size) = some C.size := by rw [C17]; exact Try.size26
  have eV : f.val (.slice a f.data.length c) (.slice p f.runs.length q) = .agg C := by rw [hC]
  have B0 := Blk.new w C 26
  have g0 := World.grownBy_alloc w (.cells C 26) none
  have AW := awake_any (w.alloc (.cells C 26))
  have KE := hide (fun W (g : w.grownBy W none) => keep_folded f _ _ W (hR.keep g) hdl hrl)
  have EL := hide (fun W => eliciting_any f (.slice a f.data.length c) (.slice p f.runs.length q) W)
  have AL := hide (fun s W => allowed_any s f (.slice a f.data.length c) (.slice p f.runs.length q) W)
  rw [eV] at KE EL AL ⊢
  rw [hS, show decide (0 < 0) = false from rfl] at KE
  have HC := hide hC
  have HB := hide B0
  have HR := hide hR
  obtain ⟨k1, k2, k3, k4, k5, k6⟩ := kinds_keep f.kind f.own
  clear eV B0 hC hR hF hD hdl hrl
  obtain ⟨el, hel⟩ : ∃ b, b = elicF f.kind := ⟨_, rfl⟩
  obtain ⟨ap, hap⟩ : ∃ b, b = allowF 2 f.kind f.own := ⟨_, rfl⟩
  obtain ⟨ea, hea⟩ : ∃ b, b = allowF 0 f.kind f.own := ⟨_, rfl⟩
  have A2 := hide (fun W => unhide AL 2 W)
  have A0 := hide (fun W => unhide AL 0 W)
  have A1 := hide (fun W => unhide AL 1 W)
  have A3 := hide (fun W => unhide AL 3 W)
  rw [← k2] at A1
  rw [k4] at A3
  rw [← hel] at EL k1 k5 k6
  rw [← hap] at A2 k1 k3
  rw [← hea] at A0 A1 k3
  have HK := hide (And.intro k1 (And.intro k3 (And.intro k5 k6)))
  clear k1 k2 k3 k4 k5 k6 hel hap hea AL
  go_enter Try.func7, Try.ntmps7
  go_upto_region 2 with (go_at_call 8; refine AW.mono ?_; rintro e W1 ⟨rfl, g1⟩)
  have b1 := (unhide HB).grown g1
  have ke := unhide KE W1 (g0.trans g1)
  clear AW KE HB
  go_upto_region 3 with (first | (refine wpList_load_row rfl _ _ rfl w.heap.size rfl 26 C (0, 0) _ b1 Try.underlying26 rfl iC ?_) | (go_at_call 20; refine ke.mono ?_; rintro e W2 ⟨C2, rfl, s2, o2, H2⟩; have iC2 : (Try.prog.info? 26).map (·.size) = some C2.size := (by rw [s2]; exact Try.size26)) | (refine wpList_store_new _ Z17 C2 W2.heap.size rfl _ _ _ rfl rfl rfl rfl iC2 (by rw [s2]; rfl) o2 ?_))
  obtain ⟨d', r', hC2, oB, oR, g2⟩ := unhide H2
  replace hC2 := hide hC2
  have g3 := World.grownBy_alloc W2 (.cells C2 26) none
  have c0 := (b1.grown g2).grown g3
  have c1 := Blk.new W2 C2 26
  have oB3 := oB.keepN g3
  have oR3 := World.ownsRow.kept oR g3 (by cases r'.ownBlock <;> simp)
  have G3 := hide ((g0.trans g1).trans (g2.trans g3))
  clear ke b1 g0 g1 g2 g3 oB oR H2
  generalize W2.alloc (.cells C2 26) = W3 at *
  generalize W2.heap.size = bb at *
  go_upto_region 4 with (first | (refine wpList_load_row rfl _ _ rfl w.heap.size rfl 26 C (0, 0) _ c0 Try.underlying26 rfl iC ?_) | (go_at_call 21; refine (unhide EL W3).mono ?_; rintro e W4 ⟨rfl, g4⟩))
  have d0 := c0.grown g4
  go_upto_region 5 with (first | (refine wpList_load_row rfl _ _ rfl w.heap.size rfl 26 C (0, 0) _ d0 Try.underlying26 rfl iC ?_) | (go_at_call 22; refine (unhide A2 W4).mono ?_; rintro e W5 ⟨rfl, g5⟩))
  have e0 := d0.grown g5
  go_upto_region 6 with (first | (refine wpList_load_row rfl _ _ rfl w.heap.size rfl 26 C (0, 0) _ e0 Try.underlying26 rfl iC ?_) | (go_at_call 22; refine (unhide A0 W5).mono ?_; rintro e W6 ⟨rfl, g6⟩))
  have f0 := e0.grown g6
  go_upto_region 7 with (first | (refine wpList_load_row rfl _ _ rfl w.heap.size rfl 26 C (0, 0) _ f0 Try.underlying26 rfl iC ?_) | (go_at_call 22; refine (unhide A1 W6).mono ?_; rintro e W7 ⟨rfl, g7⟩))
  have h0 := f0.grown g7
  go_upto_region 8 with (first | (refine wpList_load_row rfl _ _ rfl w.heap.size rfl 26 C (0, 0) _ h0 Try.underlying26 rfl iC ?_) | (go_at_call 22; refine (unhide A3 W7).mono ?_; rintro e W8 ⟨rfl, g8⟩))
  have gg := (((g4.trans g5).trans g6).trans g7).trans g8
  have j0 := c0.grown gg
  have j1 := c1.grown gg
  have oB8 := oB3.keepN gg
  have oR8 := World.ownsRow.kept oR3 gg (by cases r'.ownBlock <;> simp)
  have G8 := hide ((unhide G3).trans gg)
  have R8 := hide ((unhide HR).keep (unhide G8))
  clear EL A2 A0 A1 A3 c0 c1 d0 e0 f0 h0 g4 g5 g6 g7 g8 gg oB3 oR3 G3 HR
  have eC2 : C2 = Fr.zero.cs d' r' := by rw [unhide hC2]; unfold keepF; rw [hS]; rfl
  have eB : OwnB w.heap.size W8 d' [] ∨ True := .inr trivial
  have kz : keepF f = Fr.zero := by unfold keepF; rw [hS]; rfl
  rw [kz] at oB8 oR8
  have sm := hide (same_fr Fr.zero d' r' nilS nilS W8 (FrR.own oB8 oR8 (by intro x hx; cases hx)) (FrR.zero W8))
  have ev : Fr.zero.val d' r' = .agg C2 := by rw [eC2]
  rw [ev] at sm
  have sm2 : Calls Try.prog 13 #[.agg C2, .agg Z17] W8 fun e w' => e = .returned (.bool true) ∧ W8.grownBy w' none := unhide sm
  have hk := (unhide HK).2.2.2 hS
  have ap1 := (unhide HK).1
  have ap2 := (unhide HK).2.1
  have B00 := hide j0
  clear oB8 oR8 sm ev eC2 kz eB hC2 HK hS R8
  have HKK : Hid (el = false ∨ (f.kind = 1) ∨ (¬ f.kind = 1 ∧ f.kind = 26) ∨ (¬ f.kind = 1 ∧ ¬ f.kind = 26 ∧ f.kind = 27)) := by
    show _ ∨ _
    by_cases q1 : f.kind = 1
    · exact .inr (.inl q1)
    · by_cases q2 : f.kind = 26
      · exact .inr (.inr (.inl ⟨q1, q2⟩))
      · rcases hk with h | h | h | h
        · exact .inl h
        · exact absurd h q1
        · exact absurd h q2
        · exact .inr (.inr (.inr ⟨q1, q2, h⟩))
  have arms : Hid ((ap = true ∧ ea = true) ∨ (ap = true ∧ ea = false) ∨ (ap = false ∧ ea = false ∧ el = false)) := by
    show _ ∨ _
    cases ap <;> cases ea <;> cases el <;> simp_all
  clear hk ap1 ap2
  have go8 : Hid True := trivial
  rcases unhide arms with ⟨rfl, rfl⟩ | ⟨rfl, rfl⟩ | ⟨rfl, rfl, rfl⟩
  case inr.inr =>
    clear arms HKK
    go_upto_region 11 with fail
    go_upto_region 12 with (first | (refine wpList_load_row rfl _ _ rfl bb rfl 26 C2 (0, 0) _ j1 Try.underlying26 rfl iC2 ?_) | (go_at_call 13; refine sm2.mono ?_; rintro e W9 ⟨rfl, g9⟩))
    have x0 := ((unhide B00).grown g9).cell 0 (.int .i64 f.kind) (by rw [unhide HC]; rfl)
    go_wp2
    go_ret
    exact ⟨rfl, (unhide G8).trans g9⟩
  all_goals
    clear arms
    rcases unhide HKK with rfl | t1 | ⟨t1, t2⟩ | ⟨t1, t2, t3⟩
    · clear HKK
      go_upto_region 11 with fail
      go_upto_region 12 with (first | (refine wpList_load_row rfl _ _ rfl bb rfl 26 C2 (0, 0) _ j1 Try.underlying26 rfl iC2 ?_) | (go_at_call 13; refine sm2.mono ?_; rintro e W9 ⟨rfl, g9⟩))
      have x0 := ((unhide B00).grown g9).cell 0 (.int .i64 f.kind) (by rw [unhide HC]; rfl)
      go_wp2
      go_ret
      exact ⟨rfl, (unhide G8).trans g9⟩
    all_goals
      clear HKK
      first
        | (have u1 := beq_no t1; have u2 := beq_no t2; have u3 := beq_yes t3; clear t1 t2 t3)
        | (have u1 := beq_no t1; have u2 := beq_yes t2; clear t1 t2)
        | (have u1 := beq_yes t1; clear t1)
      cases el
      all_goals
        go_upto_region 11 with fail
        go_upto_region 12 with (first | (refine wpList_load_row rfl _ _ rfl bb rfl 26 C2 (0, 0) _ j1 Try.underlying26 rfl iC2 ?_) | (go_at_call 13; refine sm2.mono ?_; rintro e W9 ⟨rfl, g9⟩))
        have x0 := ((unhide B00).grown g9).cell 0 (.int .i64 f.kind) (by rw [unhide HC]; rfl)
        go_wp2
        go_ret
        exact ⟨rfl, (unhide G8).trans g9⟩
end Go.Proofs.Ytggjeamondampab

namespace Go.Proofs.Ytggjeamondampab
open Go.RowKit
set_option linter.unusedVariables false
set_option linter.unusedSimpArgs false
set_option maxRecDepth 100000
set_option maxHeartbeats 4000000

theorem tells_1 (f : Fr) (d r : Value) (w : World) (hF : FrIn w f d r) (hD : TS w d f.data) (hdl : f.data.length ≤ 140737488351232) (hrl : f.runs.length * 16 ≤ 140737488351232) (hS : keepS f.kind = 1) :
    Calls Try.prog 7 #[f.val d r] w fun e w' => e = .returned (.bool true) ∧ w.grownBy w' none := by
  have hR := FrR.of hF hD
  obtain ⟨a, c, rfl, -⟩ := hR.data
  obtain ⟨p, q, rfl, -⟩ := hR.runs
  obtain ⟨C, hC⟩ : ∃ C, C = f.cs (.slice a f.data.length c) (.slice p f.runs.length q) := ⟨_, rfl⟩
  have C17 : C.size = 17 := by rw [hC]; rfl
  have iC : (Try.prog.info? 26).map (·.size) = some C.size := by rw [C17]; exact Try.size26
  have eV : f.val (.slice a f.data.length c) (.slice p f.runs.length q) = .agg C := by rw [hC]
  have B0 := Blk.new w C 26
  have g0 := World.grownBy_alloc w (.cells C 26) none
  have AW := awake_any (w.alloc (.cells C 26))
  have KE := hide (fun W (g : w.grownBy W none) => keep_folded f _ _ W (hR.keep g) hdl hrl)
  have EL := hide (fun W => eliciting_any f (.slice a f.data.length c) (.slice p f.runs.length q) W)
  have AL := hide (fun s W => allowed_any s f (.slice a f.data.length c) (.slice p f.runs.length q) W)
  rw [eV] at KE EL AL ⊢
  rw [hS, show decide (0 < 1) = true from rfl] at KE
  have HC := hide hC
  have HB := hide B0
  have HR := hide hR
  obtain ⟨k1, k2, k3, k4, k5, k6⟩ := kinds_keep f.kind f.own
  clear eV B0 hC hR hF hD hdl hrl
  obtain ⟨el, hel⟩ : ∃ b, b = elicF f.kind := ⟨_, rfl⟩
  obtain ⟨ap, hap⟩ : ∃ b, b = allowF 2 f.kind f.own := ⟨_, rfl⟩
  obtain ⟨ea, hea⟩ : ∃ b, b = allowF 0 f.kind f.own := ⟨_, rfl⟩
  have A2 := hide (fun W => unhide AL 2 W)
  have A0 := hide (fun W => unhide AL 0 W)
  have A1 := hide (fun W => unhide AL 1 W)
  have A3 := hide (fun W => unhide AL 3 W)
  rw [← k2] at A1
  rw [k4] at A3
  rw [← hel] at EL k1 k5 k6
  rw [← hap] at A2 k1 k3
  rw [← hea] at A0 A1 k3
  have HK := hide (And.intro k1 (And.intro k3 (And.intro k5 k6)))
  clear k1 k2 k3 k4 k5 k6 hel hap hea AL
  go_enter Try.func7, Try.ntmps7
  go_upto_region 2 with (go_at_call 8; refine AW.mono ?_; rintro e W1 ⟨rfl, g1⟩)
  have b1 := (unhide HB).grown g1
  have ke := unhide KE W1 (g0.trans g1)
  clear AW KE HB
  go_upto_region 3 with (first | (refine wpList_load_row rfl _ _ rfl w.heap.size rfl 26 C (0, 0) _ b1 Try.underlying26 rfl iC ?_) | (go_at_call 20; refine ke.mono ?_; rintro e W2 ⟨C2, rfl, s2, o2, H2⟩; have iC2 : (Try.prog.info? 26).map (·.size) = some C2.size := (by rw [s2]; exact Try.size26)) | (refine wpList_store_new _ Z17 C2 W2.heap.size rfl _ _ _ rfl rfl rfl rfl iC2 (by rw [s2]; rfl) o2 ?_))
  obtain ⟨d', r', hC2, oB, oR, g2⟩ := unhide H2
  replace hC2 := hide hC2
  have g3 := World.grownBy_alloc W2 (.cells C2 26) none
  have c0 := (b1.grown g2).grown g3
  have c1 := Blk.new W2 C2 26
  have oB3 := oB.keepN g3
  have oR3 := World.ownsRow.kept oR g3 (by cases r'.ownBlock <;> simp)
  have G3 := hide ((g0.trans g1).trans (g2.trans g3))
  clear ke b1 g0 g1 g2 g3 oB oR H2
  generalize W2.alloc (.cells C2 26) = W3 at *
  generalize W2.heap.size = bb at *
  go_upto_region 4 with (first | (refine wpList_load_row rfl _ _ rfl w.heap.size rfl 26 C (0, 0) _ c0 Try.underlying26 rfl iC ?_) | (go_at_call 21; refine (unhide EL W3).mono ?_; rintro e W4 ⟨rfl, g4⟩))
  have d0 := c0.grown g4
  go_upto_region 5 with (first | (refine wpList_load_row rfl _ _ rfl w.heap.size rfl 26 C (0, 0) _ d0 Try.underlying26 rfl iC ?_) | (go_at_call 22; refine (unhide A2 W4).mono ?_; rintro e W5 ⟨rfl, g5⟩))
  have e0 := d0.grown g5
  go_upto_region 6 with (first | (refine wpList_load_row rfl _ _ rfl w.heap.size rfl 26 C (0, 0) _ e0 Try.underlying26 rfl iC ?_) | (go_at_call 22; refine (unhide A0 W5).mono ?_; rintro e W6 ⟨rfl, g6⟩))
  have f0 := e0.grown g6
  go_upto_region 7 with (first | (refine wpList_load_row rfl _ _ rfl w.heap.size rfl 26 C (0, 0) _ f0 Try.underlying26 rfl iC ?_) | (go_at_call 22; refine (unhide A1 W6).mono ?_; rintro e W7 ⟨rfl, g7⟩))
  have h0 := f0.grown g7
  go_upto_region 8 with (first | (refine wpList_load_row rfl _ _ rfl w.heap.size rfl 26 C (0, 0) _ h0 Try.underlying26 rfl iC ?_) | (go_at_call 22; refine (unhide A3 W7).mono ?_; rintro e W8 ⟨rfl, g8⟩))
  have gg := (((g4.trans g5).trans g6).trans g7).trans g8
  have j0 := c0.grown gg
  have j1 := c1.grown gg
  have oB8 := oB3.keepN gg
  have oR8 := World.ownsRow.kept oR3 gg (by cases r'.ownBlock <;> simp)
  have G8 := hide ((unhide G3).trans gg)
  have R8 := hide ((unhide HR).keep (unhide G8))
  clear EL A2 A0 A1 A3 c0 c1 d0 e0 f0 h0 g4 g5 g6 g7 g8 gg oB3 oR3 G3 HR
  obtain rfl : el = true := (unhide HK).2.2.1 (by rw [hS]; omega)
  obtain rfl : ap = true := (unhide HK).1 rfl
  clear HK
  have kz : keepF f = f := by unfold keepF; rw [hS]; rfl
  replace hC2 := unhide hC2
  rw [kz] at hC2 oB8 oR8
  obtain ⟨da, dc, rfl⟩ := oB8.shape
  have hk6 : ¬ f.kind = 6 ∧ ¬ f.kind = 8 := by
    unfold keepS at hS
    split at hS
    · cases hS
    · omega
  have t6 := beq_no hk6.1
  have t8 := beq_no hk6.2
  have bd : ∀ x ∈ f.data, IsB x := by obtain ⟨_, _, _, h1, -⟩ := (unhide R8).data; exact h1.1
  have sm := same_fr f (.slice da f.data.length dc) r' _ _ W8 (FrR.own oB8 oR8 bd) (unhide R8)
  have ev : f.val (.slice da f.data.length dc) r' = .agg C2 := by rw [hC2]
  have ev2 : f.val (.slice a f.data.length c) (.slice p f.runs.length q) = .agg C := by rw [unhide HC]
  rw [ev, ev2] at sm
  obtain ⟨x0, x1, x2, x3, x4, x5, x6, x7, x8, x9, x10, x11, x12, x13, x14, x15, x16⟩ := (show Blk W8 w.heap.size (f.cs (.slice a f.data.length c) (.slice p f.runs.length q)) 26 by rw [← unhide HC]; exact j0).cells
  obtain ⟨y0, y1, y2, y3, y4, y5, y6, y7, y8, y9, y10, y11, y12, y13, y14, y15, y16⟩ := (show Blk W8 bb (f.cs (.slice da f.data.length dc) r') 26 by rw [← hC2]; exact j1).cells
  clear hk6 hS kz bd ev ev2 oB8 oR8 R8 hC2 HC
  cases ea
  all_goals
    go_upto_region 18 with fail
    go_wp2_with (first | (refine wpList_load_row rfl _ _ rfl bb rfl 26 C2 (0, 0) _ j1 Try.underlying26 rfl iC2 ?_) | (refine wpList_load_row rfl _ _ rfl w.heap.size rfl 26 C (0, 0) _ j0 Try.underlying26 rfl iC ?_) | (go_at_call 13; refine sm.mono ?_; rintro e W9 ⟨rfl, g9⟩))
    go_ret
    exact ⟨rfl, (unhide G8).trans g9⟩
end Go.Proofs.Ytggjeamondampab

namespace Go.Proofs.Ytggjeamondampab
open Go.RowKit
set_option linter.unusedVariables false
set_option linter.unusedSimpArgs false
set_option maxRecDepth 100000
set_option maxHeartbeats 4000000

theorem tells_2 (f : Fr) (d r : Value) (w : World) (hF : FrIn w f d r) (hD : TS w d f.data) (hdl : f.data.length ≤ 140737488351232) (hrl : f.runs.length * 16 ≤ 140737488351232) (hS : keepS f.kind = 2) :
    Calls Try.prog 7 #[f.val d r] w fun e w' => e = .returned (.bool true) ∧ w.grownBy w' none := by
  have hR := FrR.of hF hD
  obtain ⟨a, c, rfl, -⟩ := hR.data
  obtain ⟨p, q, rfl, -⟩ := hR.runs
  obtain ⟨C, hC⟩ : ∃ C, C = f.cs (.slice a f.data.length c) (.slice p f.runs.length q) := ⟨_, rfl⟩
  have C17 : C.size = 17 := by rw [hC]; rfl
  have iC : (Try.prog.info? 26).map (·.size) = some C.size := by rw [C17]; exact Try.size26
  have eV : f.val (.slice a f.data.length c) (.slice p f.runs.length q) = .agg C := by rw [hC]
  have B0 := Blk.new w C 26
  have g0 := World.grownBy_alloc w (.cells C 26) none
  have AW := awake_any (w.alloc (.cells C 26))
  have KE := hide (fun W (g : w.grownBy W none) => keep_folded f _ _ W (hR.keep g) hdl hrl)
  have EL := hide (fun W => eliciting_any f (.slice a f.data.length c) (.slice p f.runs.length q) W)
  have AL := hide (fun s W => allowed_any s f (.slice a f.data.length c) (.slice p f.runs.length q) W)
  rw [eV] at KE EL AL ⊢
  rw [hS, show decide (0 < 2) = true from rfl] at KE
  have HC := hide hC
  have HB := hide B0
  have HR := hide hR
  obtain ⟨k1, k2, k3, k4, k5, k6⟩ := kinds_keep f.kind f.own
  clear eV B0 hC hR hF hD hdl hrl
  obtain ⟨el, hel⟩ : ∃ b, b = elicF f.kind := ⟨_, rfl⟩
  obtain ⟨ap, hap⟩ : ∃ b, b = allowF 2 f.kind f.own := ⟨_, rfl⟩
  obtain ⟨ea, hea⟩ : ∃ b, b = allowF 0 f.kind f.own := ⟨_, rfl⟩
  have A2 := hide (fun W => unhide AL 2 W)
  have A0 := hide (fun W => unhide AL 0 W)
  have A1 := hide (fun W => unhide AL 1 W)
  have A3 := hide (fun W => unhide AL 3 W)
  rw [← k2] at A1
  rw [k4] at A3
  rw [← hel] at EL k1 k5 k6
  rw [← hap] at A2 k1 k3
  rw [← hea] at A0 A1 k3
  have HK := hide (And.intro k1 (And.intro k3 (And.intro k5 k6)))
  clear k1 k2 k3 k4 k5 k6 hel hap hea AL
  go_enter Try.func7, Try.ntmps7
  go_upto_region 2 with (go_at_call 8; refine AW.mono ?_; rintro e W1 ⟨rfl, g1⟩)
  have b1 := (unhide HB).grown g1
  have ke := unhide KE W1 (g0.trans g1)
  clear AW KE HB
  go_upto_region 3 with (first | (refine wpList_load_row rfl _ _ rfl w.heap.size rfl 26 C (0, 0) _ b1 Try.underlying26 rfl iC ?_) | (go_at_call 20; refine ke.mono ?_; rintro e W2 ⟨C2, rfl, s2, o2, H2⟩; have iC2 : (Try.prog.info? 26).map (·.size) = some C2.size := (by rw [s2]; exact Try.size26)) | (refine wpList_store_new _ Z17 C2 W2.heap.size rfl _ _ _ rfl rfl rfl rfl iC2 (by rw [s2]; rfl) o2 ?_))
  obtain ⟨d', r', hC2, oB, oR, g2⟩ := unhide H2
  have g3 := World.grownBy_alloc W2 (.cells C2 26) none
  have c0 := (b1.grown g2).grown g3
  have c1 := Blk.new W2 C2 26
  have oB3 := oB.keepN g3
  have oR3 := World.ownsRow.kept oR g3 (by cases r'.ownBlock <;> simp)
  have G3 := hide ((g0.trans g1).trans (g2.trans g3))
  clear ke b1 g0 g1 g2 g3 oB oR H2
  generalize W2.alloc (.cells C2 26) = W3 at *
  generalize W2.heap.size = bb at *
  go_upto_region 4 with (first | (refine wpList_load_row rfl _ _ rfl w.heap.size rfl 26 C (0, 0) _ c0 Try.underlying26 rfl iC ?_) | (go_at_call 21; refine (unhide EL W3).mono ?_; rintro e W4 ⟨rfl, g4⟩))
  have d0 := c0.grown g4
  go_upto_region 5 with (first | (refine wpList_load_row rfl _ _ rfl w.heap.size rfl 26 C (0, 0) _ d0 Try.underlying26 rfl iC ?_) | (go_at_call 22; refine (unhide A2 W4).mono ?_; rintro e W5 ⟨rfl, g5⟩))
  have e0 := d0.grown g5
  go_upto_region 6 with (first | (refine wpList_load_row rfl _ _ rfl w.heap.size rfl 26 C (0, 0) _ e0 Try.underlying26 rfl iC ?_) | (go_at_call 22; refine (unhide A0 W5).mono ?_; rintro e W6 ⟨rfl, g6⟩))
  have f0 := e0.grown g6
  go_upto_region 7 with (first | (refine wpList_load_row rfl _ _ rfl w.heap.size rfl 26 C (0, 0) _ f0 Try.underlying26 rfl iC ?_) | (go_at_call 22; refine (unhide A1 W6).mono ?_; rintro e W7 ⟨rfl, g7⟩))
  have h0 := f0.grown g7
  go_upto_region 8 with (first | (refine wpList_load_row rfl _ _ rfl w.heap.size rfl 26 C (0, 0) _ h0 Try.underlying26 rfl iC ?_) | (go_at_call 22; refine (unhide A3 W7).mono ?_; rintro e W8 ⟨rfl, g8⟩))
  have gg := (((g4.trans g5).trans g6).trans g7).trans g8
  have j0 := c0.grown gg
  have j1 := c1.grown gg
  have oB8 := oB3.keepN gg
  have oR8 := World.ownsRow.kept oR3 gg (by cases r'.ownBlock <;> simp)
  have G8 := hide ((unhide G3).trans gg)
  have R8 := hide ((unhide HR).keep (unhide G8))
  clear EL A2 A0 A1 A3 c0 c1 d0 e0 f0 h0 g4 g5 g6 g7 g8 gg oB3 oR3 G3 HR
  obtain rfl : el = true := (unhide HK).2.2.1 (by rw [hS]; omega)
  obtain rfl : ap = true := (unhide HK).1 rfl
  clear HK
  have kz : keepF f = { f with size := (f.data.length : Int), data := [], tail := false } := by unfold keepF; rw [hS]; rfl
  rw [kz] at hC2 oB8 oR8
  obtain ⟨da, dc, rfl⟩ := oB8.shape
  have hk6 : f.kind = 6 ∨ (¬ f.kind = 6 ∧ f.kind = 8) := by
    unfold keepS at hS
    split at hS
    · omega
    · split at hS <;> cases hS
  obtain ⟨x0, x1, x2, x3, x4, x5, x6, x7, x8, x9, x10, x11, x12, x13, x14, x15, x16⟩ := (show Blk W8 w.heap.size (f.cs (.slice a f.data.length c) (.slice p f.runs.length q)) 26 by rw [← unhide HC]; exact j0).cells
  obtain ⟨y0, y1, y2, y3, y4, y5, y6, y7, y8, y9, y10, y11, y12, y13, y14, y15, y16⟩ := (show Blk W8 bb (({ f with size := (f.data.length : Int), data := [], tail := false } : Fr).cs (.slice da 0 dc) r') 26 by rw [hC2] at j1; exact j1).cells
  simp only at y0 y1 y2 y3 y4 y5 y6
  clear hS kz oB8 oR8 R8 hC2 HC
  rcases hk6 with t6 | ⟨t6, t8⟩
  · have u6 := beq_yes t6
    clear t6
    cases ea
    all_goals
      go_wp2
      go_ret
      exact ⟨rfl, unhide G8⟩
  · have u6 := beq_no t6
    have u8 := beq_yes t8
    clear t6 t8
    cases ea
    all_goals
      go_wp2
      go_ret
      exact ⟨rfl, unhide G8⟩
end Go.Proofs.Ytggjeamondampab

namespace Go.Proofs.Ytggjeamondampab
open Go.RowKit
set_option linter.unusedVariables false
theorem tells_walk (f : Fr) (d r : Value) (w : World) (hF : FrIn w f d r) (hD : TS w d f.data) (hdl : f.data.length ≤ 140737488351232) (hrl : f.runs.length * 16 ≤ 140737488351232) :
    Calls Try.prog 7 #[f.val d r] w fun e w' => e = .returned (.bool true) ∧ w.grownBy w' none := by
  have : keepS f.kind = 0 ∨ keepS f.kind = 1 ∨ keepS f.kind = 2 := by unfold keepS; (repeat' split) <;> omega
  rcases this with h | h | h
  · exact tells_0 f d r w hF hD hdl hrl h
  · exact tells_1 f d r w hF hD hdl hrl h
  · exact tells_2 f d r w hF hD hdl hrl h
end Go.Proofs.Ytggjeamondampab

namespace Go.Proofs.Ytggjeamondampab
open Go.ChangeShapes Go.WideShapes Go.ChangeAt Go.RowKit
set_option linter.unusedVariables false
set_option maxRecDepth 100000
namespace frameTellsFrame

theorem own : ownKnob Try.prog.godebug = none := by kernel_rfl
theorem laidOut : laidOutB Try.prog = true := by kernel_rfl

set_option maxRecDepth 100000 in
theorem lifted (os : Os) (started : os.Started) (H : Type) (enc : TypeId × Value → H) :
    ReturnsInHanded {} Try.checked os 7 .any (Rows.frameTellsSpec.pre6 enc Try.prog Try.f7 Rows.frameTellsRow.domain false) (Rows.frameTellsSpec.post enc Try.prog Try.f7 false true false false) := by
  refine returnsInHanded_of_change_sized (C := Try.checked) own started (by kernel_rfl) Try.func7
    (ChangeSpec.witness6 (enc := enc) (C := Try.checked) false ⟨#[], #[.agg #[.int .i64 0, .int .i64 0, .int .i64 0, .slice none 0 0, .int .i64 0, .bool false, .bool false, .int .i64 0, .bool false, .int .i64 0, .bool false, .int .i64 0, .slice none 0 0, .bool false, .int .i64 0, .int .i64 0, .int .i64 0]], []⟩ 8 (by kernel_rfl) (by kernel_rfl) (by kernel_rfl) (by kernel_rfl)) ?_
  intro W base args ds gs before hval0 hW hcnd hsz0 _
  have hsz : (DataW.weightsEach Try.prog (Try.f7.params.toList ++ Rows.frameTellsSpec.plain.varTypes Try.prog) (ds ++ gs)).all (· ≤ reachBytes) = true := hsz0
  have hval : ∀ (j : Nat) t v, Try.f7.params[j]? = some t → args[j]? = some v → Value.okWide Try.prog W .any base t v := hval0
  have hW' := hW
  obtain ⟨p, q, hA0, hV, rfl, hfz, hnd⟩ := hW
  have hA : DataW.TrodAll enc Try.prog W 0 (fun _ => true) true Try.f7.params.toList args.toList ds p := hA0
  rw [Try.params7] at hA hval hsz
  obtain ⟨v0, vs0, d0, ds0, p0, q0, hargs, rfl, rfl, h0, r0⟩ := trodAll_cons hA
  obtain ⟨rfl, rfl, rfl⟩ := trodAll_nil r0
  obtain rfl : args = #[v0] := by cases args; simp_all
  obtain ⟨rfl, rfl⟩ := trodVars_none hV
  have k0 := h0
  have lt0 : ∀ x ∈ p0, x.block < W.heap.size := by obtain ⟨m, hm⟩ := k0; exact DataW.trod_lt m _ _ _ hm
  obtain ⟨P0, x0, y0, rfl, i0, j0, l0, m0, n0, b0, c0⟩ := open_frame (hval 0 26 v0 rfl rfl) h0 (fun n hn => List.all_eq_true.1 hsz n (DataW.weights_mem_each (j := 0) rfl rfl n hn))
  clear hA0 hval0
  refine (tells_walk P0 x0 y0 W i0 j0 m0 n0).mono fun e W' ⟨he, gr⟩ => ?_
  have bel := grown_bel gr
  subst he
  exact ⟨_, rfl, _, _, _, [], _, [], hW', trodAll_mk1 (shut_bool Try.underlying4 _), (trodAll_cons_mk (Below.trod laidOut (by kernel_rfl) (of_decide_eq_true (by kernel_rfl)) k0 bel lt0) trodAll_mk0), rfl, bel.frame _, fun h => by cases h⟩

theorem over : Rows.frameTellsRow.holds Try.pinned (OpenSpec.ofChange Rows.frameTellsSpec) :=
  OpenClaim.holds_of_wide 7 Try.f7 rfl rfl rfl rfl rfl rfl rfl ⟨rfl, rfl, rfl, rfl, rfl⟩ rfl rfl rfl rfl rfl (by kernel_rfl) Try.func7 (by kernel_rfl)
    (of_decide_eq_true (by kernel_rfl)) (by unfold Func.isWrapper; first | (rw [if_pos (by decide +kernel)]; kernel_rfl) | (rw [if_neg (by decide +kernel)]; exact ⟨rfl, rfl⟩))
    (fun os started H enc _ => lifted os started H enc)
end frameTellsFrame

/-- THE STATEMENT -/
theorem frameTells_holds : Rows.FrameTellsSaid := frameTellsFrame.over
end Go.Proofs.Ytggjeamondampab
