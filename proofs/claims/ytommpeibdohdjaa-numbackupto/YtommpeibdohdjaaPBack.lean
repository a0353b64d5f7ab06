import Derived.Test.YtommpeibdohdjaaLBackC
import Derived.Test.YtommpeibdohdjaaLBackB
import Derived.Test.YtommpeibdohdjaaWR
import Derived.Test.YtommpeibdohdjaaBK
import Derived.ProofKit
import Derived.OpenShut
import Derived.ShutString
import Derived.ChangeOld
import Derived.SizedLaws
import Derived.JoinedCond
import Derived.Deep.CondSized
namespace Go.Proofs.Ytommpeibdohdjaa
open Go.ChangeShapes Go.WideShapes Go.ChangeAt Go.RowKit
set_option linter.unusedVariables false
namespace numBackFrame

theorem own : ownKnob Try.prog.godebug = none := by kernel_rfl
theorem laidOut : laidOutB Try.prog = true := by kernel_rfl

theorem walk (a0 a1 : Int) (a2 : Option Addr) (len2 cap2 : Nat) (z2 : List Int) (a3 : Option Addr) (len3 cap3 : Nat) (z3 : List Int) (w : World) (w0 : (Lit.int .u64 a0).wf = true) (w1 : (Lit.int .i64 a1).wf = true)
    (w2 : IsRow .u8 w a2 len2 cap2 z2) (g2 : z2.length * 1 ≤ 140737488351232 ∧ z2.length ≤ 1048576) (w3 : IsRow .u8 w a3 len3 cap3 z3) (g3 : z3.length * 1 ≤ 140737488351232 ∧ z3.length ≤ 1048576) :
    Calls Try.prog 8 #[.int .u64 a0, .int .i64 a1, .slice a2 len2 cap2, .slice a3 len3 cap3] w fun e w' => e = .returned (.bool true) ∧ Below w.heap.size w w' := by
  have b0 := bounds_u64 w0
  obtain ⟨hl, hr, h1, h2, h3⟩ := isRow_rd w2
  obtain ⟨kl, kr, k1, k2, k3⟩ := isRow_rd w3
  have n2 : a2 = none → cap2 = 0 := fun e => by rcases w2 with ⟨_, _, h, _⟩ | ⟨x, h, _⟩; exact h; rw [h] at e; cases e
  have n3 : a3 = none → cap3 = 0 := fun e => by rcases w3 with ⟨_, _, h, _⟩ | ⟨x, h, _⟩; exact h; rw [h] at e; cases e
  rw [← hl, ← kl]
  by_cases hv : a0 ≤ 4611686018427387903
  · rcases putAsF_cases a0 a1 with ⟨_, hs, hle, _⟩ | hp
    · obtain ⟨n, rfl⟩ := Int.eq_ofNat_of_zero_le (show 0 ≤ a1 by unfold isSize at hs; omega)
      exact back_both a0 n a2 a3 _ _ cap2 cap3 w (by omega) (by omega) hr kr (by omega) h2 (by omega) k2 n2 n3 (by omega) (by omega) hv hs (by omega)
    · exact back_half a0 a1 a2 a3 _ _ cap2 cap3 w (by omega) (by omega) hr kr (by omega) h2 (by omega) k2 n2 n3 (by omega) (by omega) hv hp
  · exact back_no a0 a1 a2 a3 _ _ cap2 cap3 w (by omega) (by omega) hr kr (by omega) h2 (by omega) k2 n2 n3 (by omega) (by omega) (by omega)

set_option maxRecDepth 100000 in
theorem lifted (os : Os) (started : os.Started) (H : Type) (enc : TypeId × Value → H) (F : Stop.Interp) :
    ReturnsInHanded {} Try.checked os 8 .any ((Rows.OpenSpec.upto Rows.numBackSpec).pre6 enc Try.prog Try.f8 Rows.numBackUptoRow.domain false) (((Rows.OpenSpec.upto Rows.numBackSpec).at F).post enc Try.prog Try.f8 false true false false) := by
  refine returnsInHanded_of_cond_sized (C := Try.checked) (s := Rows.OpenSpec.upto Rows.numBackSpec) (k := Rows.uptoSmall) rfl own started (by kernel_rfl) Try.func8
    (OpenSpec.witness (enc := enc) (C := Try.checked) (s := Rows.OpenSpec.upto Rows.numBackSpec) (k := Rows.uptoSmall) rfl false ⟨#[], #[.int .u64 0, .int .i64 0, .slice none 0 0, .slice none 0 0], []⟩ 8 (by kernel_rfl) (by kernel_rfl) (by kernel_rfl)
      (x := ([.lit (.int .u64 0), .lit (.int .i64 0), .nil, .nil], [], [])) (by kernel_rfl) rfl (by kernel_rfl)) ?_
  intro W base args ds gs before hval0 hW hcnd hk hsz0 _
  have hsz : (DataW.weightsEach Try.prog (Try.f8.params.toList ++ (Rows.OpenSpec.upto Rows.numBackSpec).bare.plain.varTypes Try.prog) (ds ++ gs)).all (· ≤ reachBytes) = true := hsz0
  have hval : ∀ (j : Nat) t v, Try.f8.params[j]? = some t → args[j]? = some v → Value.okWide Try.prog W .any base t v := hval0
  have hW' := hW
  obtain ⟨p, q, hA0, hV, rfl, hfz, hnd⟩ := hW
  have hA : DataW.TrodAll enc Try.prog W 0 (fun _ => true) true Try.f8.params.toList args.toList ds p := hA0
  rw [Try.params8] at hA hval hsz
  obtain ⟨v0, vs0, d0, ds0, p0, q0, hargs, rfl, rfl, h0, r0⟩ := trodAll_cons hA
  obtain ⟨v1, vs1, d1, ds1, p1, q1, rfl, rfl, rfl, h1, r1⟩ := trodAll_cons r0
  obtain ⟨v2, vs2, d2, ds2, p2, q2, rfl, rfl, rfl, h2, r2⟩ := trodAll_cons r1
  obtain ⟨v3, vs3, d3, ds3, p3, q3, rfl, rfl, rfl, h3, r3⟩ := trodAll_cons r2
  obtain ⟨rfl, rfl, rfl⟩ := trodAll_nil r3
  obtain rfl : args = #[v0, v1, v2, v3] := by cases args; simp_all
  obtain ⟨rfl, rfl⟩ := trodVars_none hV
  obtain ⟨a0, rfl, rfl, rfl, w0⟩ := open_int Try.underlying22 (hval 0 22 v0 rfl rfl) h0
  obtain ⟨a1, rfl, rfl, rfl, w1⟩ := open_int Try.underlying3 (hval 1 3 v1 rfl rfl) h1
  obtain ⟨a2, len2, cap2, rfl⟩ := okWide_slice Try.underlying25 (hval 2 25 v2 rfl rfl)
  have k2 := h2
  have lt2 : ∀ x ∈ p2, x.block < W.heap.size := by obtain ⟨m, hm⟩ := k2; exact DataW.trod_lt m _ _ _ hm
  obtain ⟨z2, w2, g2⟩ : ∃ zs, IsRow .u8 W a2 len2 cap2 zs ∧ zs.length * 1 ≤ 140737488351232 ∧ zs.length ≤ 1048576 := by
    obtain ⟨fuel, hf⟩ := h2
    rcases open_ints Try.underlying25 Try.underlying5 (by kernel_rfl) hf with ⟨hcs, _⟩ | ⟨x, l, c, zs, hcs, _, hl, hm, hz, hx, hcell, hwz⟩
    · simp [Value.cells] at hcs
      obtain ⟨rfl, rfl, rfl⟩ := hcs
      exact ⟨[], .inl ⟨rfl, rfl, rfl, rfl⟩, by simp, by simp⟩
    · simp [Value.cells] at hcs
      obtain ⟨rfl, rfl, rfl⟩ := hcs
      refine ⟨zs, .inr ⟨_, rfl, hl, hm, by simpa using hz, hcell, hwz⟩, ?_⟩
      have hbk := bulk_mem hk (d := d2) (by simp)
      simp only [Prod.mk.injEq] at hx
      obtain ⟨hd, _⟩ := hx
      have hb : Try.prog.bytesOf 5 = 1 := by kernel_rfl
      subst hd
      have := sized_slice hsz (j := 2) (t := 25) (e := 5) rfl rfl Try.underlying25
      rw [hb] at this
      have hbs := bulk_slice (H := H) (lits .u8 (zs.take len2)) (lits .u8 (zs.drop len2))
      simp only [lits, List.length_map, List.length_take, List.length_drop, reachBytes] at this hbs hbk
      omega
  obtain ⟨a3, len3, cap3, rfl⟩ := okWide_slice Try.underlying25 (hval 3 25 v3 rfl rfl)
  have k3 := h3
  have lt3 : ∀ x ∈ p3, x.block < W.heap.size := by obtain ⟨m, hm⟩ := k3; exact DataW.trod_lt m _ _ _ hm
  obtain ⟨z3, w3, g3⟩ : ∃ zs, IsRow .u8 W a3 len3 cap3 zs ∧ zs.length * 1 ≤ 140737488351232 ∧ zs.length ≤ 1048576 := by
    obtain ⟨fuel, hf⟩ := h3
    rcases open_ints Try.underlying25 Try.underlying5 (by kernel_rfl) hf with ⟨hcs, _⟩ | ⟨x, l, c, zs, hcs, _, hl, hm, hz, hx, hcell, hwz⟩
    · simp [Value.cells] at hcs
      obtain ⟨rfl, rfl, rfl⟩ := hcs
      exact ⟨[], .inl ⟨rfl, rfl, rfl, rfl⟩, by simp, by simp⟩
    · simp [Value.cells] at hcs
      obtain ⟨rfl, rfl, rfl⟩ := hcs
      refine ⟨zs, .inr ⟨_, rfl, hl, hm, by simpa using hz, hcell, hwz⟩, ?_⟩
      have hbk := bulk_mem hk (d := d3) (by simp)
      simp only [Prod.mk.injEq] at hx
      obtain ⟨hd, _⟩ := hx
      have hb : Try.prog.bytesOf 5 = 1 := by kernel_rfl
      subst hd
      have := sized_slice hsz (j := 3) (t := 25) (e := 5) rfl rfl Try.underlying25
      rw [hb] at this
      have hbs := bulk_slice (H := H) (lits .u8 (zs.take len3)) (lits .u8 (zs.drop len3))
      simp only [lits, List.length_map, List.length_take, List.length_drop, reachBytes] at this hbs hbk
      omega
  clear hA0 hval0
  refine (walk a0 a1 a2 len2 cap2 z2 a3 len3 cap3 z3 W w0 w1 w2 g2 w3 g3).mono fun e W' ⟨he, bel⟩ => ?_
  subst he
  exact ⟨_, rfl, _, _, _, [], _, [], hW', trodAll_mk1 (shut_bool Try.underlying4 _), (trodAll_cons_mk (shut_int Try.underlying22 w0) (trodAll_cons_mk (shut_int Try.underlying3 w1) (trodAll_cons_mk (Below.trod laidOut (by kernel_rfl) (of_decide_eq_true (by kernel_rfl)) k2 bel lt2) (trodAll_cons_mk (Below.trod laidOut (by kernel_rfl) (of_decide_eq_true (by kernel_rfl)) k3 bel lt3) trodAll_mk0)))), rfl, bel.frame _, fun h => by cases h⟩

theorem over : Rows.numBackUptoRow.holds Try.pinned (Rows.OpenSpec.upto Rows.numBackSpec) :=
  OpenClaim.holds_of_cond 8 Try.f8 rfl rfl rfl rfl rfl rfl rfl ⟨rfl, rfl, rfl, rfl, rfl⟩ rfl rfl rfl rfl rfl (by kernel_rfl) Try.func8 (by kernel_rfl)
    (of_decide_eq_true (by kernel_rfl)) (by unfold Func.isWrapper; first | (rw [if_pos (by decide +kernel)]; kernel_rfl) | (rw [if_neg (by decide +kernel)]; exact ⟨rfl, rfl⟩))
    (fun os started H enc _ F => lifted os started H enc F)
end numBackFrame

/-- THE STATEMENT -/
theorem numBack_holds : Rows.NumBackUptoSaid := numBackFrame.over
end Go.Proofs.Ytommpeibdohdjaa
