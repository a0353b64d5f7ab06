import Derived.Test.YtmfbbamaleagiaaDoorYH
import Derived.Test.YtmfbbamaleagiaaDoorYO
import Derived.Test.YtmfbbamaleagiaaDoorCards
import Derived.Test.YtmfbbamaleagiaaDoorTie
namespace Go.Proofs.YtmfbbamaleagiaaDoor
open Go.ChangeShapes Go.WideShapes Go.ChangeAt Go.RowKit
set_option linter.unusedVariables false
set_option maxRecDepth 100000
namespace paramsDecodesFrame

theorem own : ownKnob Tryd.prog.godebug = none := by kernel_rfl
theorem laidOut : laidOutB Tryd.prog = true := by kernel_rfl
theorem laid_met (os : Os) : laidMet Tryd.prog Rows.paramsDecodesRow.laid (({ World.holding Tryd.prog os ⟨#[], #[], []⟩ with heap := (World.holding Tryd.prog os ⟨#[], #[], []⟩).heap.modify 0 fun | .cells _ t frozen => .cells #[.int .u64 1, .int .i64 68719476736, .int .i64 0, .int .u64 4, .int .i64 1048576, .int .i64 0, .int .u64 5, .int .i64 1048576, .int .i64 0, .int .u64 6, .int .i64 1048576, .int .i64 0, .int .u64 7, .int .i64 1048576, .int .i64 0, .int .u64 8, .int .i64 32, .int .i64 0, .int .u64 9, .int .i64 32, .int .i64 0, .int .u64 10, .int .i64 20, .int .i64 3, .int .u64 11, .int .i64 16383000, .int .i64 25000] t frozen | o => o } : World).forCall (fun _ _ => 0) ⟨#[], #[.slice none 0 0], []⟩).memory :=
  laidMet_of_run' 8 (by kernel_rfl) (by kernel_rfl)
theorem reads (os : Os) {H : Type} (enc : TypeId × Value → H) : ∃ places, DataW.whole enc Tryd.prog (({ World.holding Tryd.prog os ⟨#[], #[], []⟩ with heap := (World.holding Tryd.prog os ⟨#[], #[], []⟩).heap.modify 0 fun | .cells _ t frozen => .cells #[.int .u64 1, .int .i64 68719476736, .int .i64 0, .int .u64 4, .int .i64 1048576, .int .i64 0, .int .u64 5, .int .i64 1048576, .int .i64 0, .int .u64 6, .int .i64 1048576, .int .i64 0, .int .u64 7, .int .i64 1048576, .int .i64 0, .int .u64 8, .int .i64 32, .int .i64 0, .int .u64 9, .int .i64 32, .int .i64 0, .int .u64 10, .int .i64 20, .int .i64 3, .int .u64 11, .int .i64 16383000, .int .i64 25000] t frozen | o => o } : World).forCall (fun _ _ => 0) ⟨#[], #[.slice none 0 0], []⟩).memory Tryd.f5.params.toList Rows.paramsDecodesSpec.vars false (#[.slice none 0 0] : Array Value).toList 8 = some ([.nil], [], places) :=
  ⟨[], by kernel_rfl⟩

set_option maxRecDepth 100000 in
theorem lifted (os : Os) (started : os.Started) (H : Type) (enc : TypeId × Value → H) (F : Stop.Interp) :
    ReturnsInHanded {} Tryd.checked os 5 .any ((OpenSpec.ofChange Rows.paramsDecodesSpec).preRow enc Tryd.prog Tryd.f5 Rows.paramsDecodesRow.domain false Rows.paramsDecodesRow.laid) (((OpenSpec.ofChange Rows.paramsDecodesSpec).at F).post enc Tryd.prog Tryd.f5 false true false false) := by
  obtain ⟨places, hx⟩ := reads os enc
  refine returnsInHanded_of_row (C := Tryd.checked) (s := OpenSpec.ofChange Rows.paramsDecodesSpec) own started (by kernel_rfl) Tryd.func5
    (witness_row_at (enc := enc) (C := Tryd.checked) false ({ World.holding Tryd.prog os ⟨#[], #[], []⟩ with heap := (World.holding Tryd.prog os ⟨#[], #[], []⟩).heap.modify 0 fun | .cells _ t frozen => .cells #[.int .u64 1, .int .i64 68719476736, .int .i64 0, .int .u64 4, .int .i64 1048576, .int .i64 0, .int .u64 5, .int .i64 1048576, .int .i64 0, .int .u64 6, .int .i64 1048576, .int .i64 0, .int .u64 7, .int .i64 1048576, .int .i64 0, .int .u64 8, .int .i64 32, .int .i64 0, .int .u64 9, .int .i64 32, .int .i64 0, .int .u64 10, .int .i64 20, .int .i64 3, .int .u64 11, .int .i64 16383000, .int .i64 25000] t frozen | o => o } : World) #[.slice none 0 0] rfl (by kernel_rfl) (by kernel_rfl) (by kernel_rfl)
      (OpenSpec.preRow_of_cond 8 hx (by kernel_rfl) (fun k hk => by cases hk) (by kernel_rfl) (laid_met os))) ?_
  intro W base args ds gs before hval0 hW hcnd hcond hsz0 hL _ _
  have hT : Tb W := tab_of hL
  have hsz : (DataW.weightsEach Tryd.prog (Tryd.f5.params.toList ++ (OpenSpec.ofChange Rows.paramsDecodesSpec).bare.plain.varTypes Tryd.prog) (ds ++ gs)).all (· ≤ reachBytes) = true := hsz0
  have hval : ∀ (j : Nat) t v, Tryd.f5.params[j]? = some t → args[j]? = some v → Value.okWide Tryd.prog W .any base t v := hval0
  have hW' := hW
  obtain ⟨p, q, hA0, hV, rfl, hfz, hnd⟩ := hW
  have hA : DataW.TrodAll enc Tryd.prog W 0 (fun _ => true) true Tryd.f5.params.toList args.toList ds p := hA0
  rw [Tryd.params5] at hA hval hsz
  obtain ⟨v0, vs0, d0, ds0, p0, q0, hargs, rfl, rfl, h0, r0⟩ := trodAll_cons hA
  obtain ⟨rfl, rfl, rfl⟩ := trodAll_nil r0
  obtain rfl : args = #[v0] := by cases args; simp_all
  obtain ⟨rfl, rfl⟩ := trodVars_none hV
  have k0 := h0
  have lt0 : ∀ x ∈ p0, x.block < W.heap.size := by obtain ⟨m, hm⟩ := k0; exact DataW.trod_lt m _ _ _ hm
  obtain ⟨a0, len0, cap0, rfl⟩ := okWide_slice Tryd.underlying31 (hval 0 31 v0 rfl rfl)
  obtain ⟨z0, w0, e0⟩ := open_row h0
  have g0 := row_size hsz (j := 0) rfl rfl e0
  clear hA0 hval0
  refine (decodes_walk a0 _ len0 cap0 W hT (isRow_in w0).1 (isRow_in w0).2.1 (by rw [List.length_take]; omega)).mono fun e W' ⟨he, gr⟩ => ?_
  have bel := grown_below gr
  subst he
  exact ⟨_, rfl, _, _, _, [], _, [], hW', trodAll_mk1 (shut_bool Tryd.underlying4 _), (trodAll_cons_mk (Below.trod laidOut (by kernel_rfl) (of_decide_eq_true (by kernel_rfl)) k0 bel lt0) trodAll_mk0), rfl, bel.frame _, fun h => by cases h⟩

theorem said : Rows.ParamsDecodesSaid :=
  OpenClaim.holds_of_cond 5 Tryd.f5 rfl rfl rfl rfl rfl rfl rfl ⟨rfl, rfl, rfl, rfl, rfl⟩ rfl rfl rfl rfl rfl (by kernel_rfl) Tryd.func5 (by kernel_rfl)
    (of_decide_eq_true (by kernel_rfl)) (by unfold Func.isWrapper; first | (rw [if_pos (by decide +kernel)]; kernel_rfl) | (rw [if_neg (by decide +kernel)]; exact ⟨rfl, rfl⟩))
    (fun os started H enc _ F => by rw [OpenClaim.pre_eq_preRow]; exact lifted os started H enc F)

/-- No parameter wants a stand-in; the program's own looks are off. -/
theorem plain (f : FuncId) (fn : Func) (hf : Tryd.pinned.checked.prog.funcNamed "portage/portagelaw06.ParamsDecodes" = some f) (hfn : Tryd.pinned.checked.prog.funcs[f]? = some fn) :
    false = Tryd.pinned.checked.prog.looks [] ∧ ∀ (j : Nat) t, fn.params[j]? = some t → Tryd.pinned.checked.prog.wantsStandIn t = false := by
  obtain rfl : f = 5 := Option.some.inj ((show Tryd.prog.funcNamed "portage/portagelaw06.ParamsDecodes" = some 5 by kernel_rfl).symm.trans hf) |>.symm
  obtain rfl : fn = Tryd.f5 := (Option.some.inj (Tryd.func5.symm.trans hfn)).symm
  refine ⟨by kernel_rfl, fun j t ht => ?_⟩
  rw [Tryd.params5] at ht
  have hm := Array.mem_of_getElem? ht
  have hm' : t = 31 := by simpa using hm
  subst hm'
  exact (show Tryd.prog.wantsStandIn 31 = false by kernel_rfl)
end paramsDecodesFrame

/-- THE CARD -/
theorem paramsDecodes_holds : Rows.ParamsDecodesCardSaid :=
  Claim7.holds_tied_plain_at .later [] _ _ _ _ paramsDecodesFrame.said (fun _ h => by cases h) (by kernel_rfl) (fun _ h => by cases h) paramsDecodes_row_tie rfl ⟨rfl, rfl⟩ (by kernel_rfl) rfl paramsDecodesFrame.plain (by kernel_rfl)
end Go.Proofs.YtmfbbamaleagiaaDoor
