/- From the listed variable to the table's cells. -/
import Derived.Test.YtmfbbamaleagiaaDoorXA
import Derived.ProofKit
import Derived.OpenShut
import Derived.Deep.DeepHandedRow
import Derived.Lib.LaidTab
import Derived.Test.YtmfbbamaleagiaaDoorCards
namespace Go.Proofs.YtmfbbamaleagiaaDoor
open Go.RowKit Go.WideShapes
set_option linter.unusedVariables false
set_option maxRecDepth 100000
set_option maxHeartbeats 1000000

theorem gTab : Tryd.prog.globalNamed "portage/params.table" = some 0 := by kernel_rfl
theorem gTabType : (Tryd.prog.globals[0]?).map (·.type) = some 61 := by kernel_rfl

/-- A row of three numbers, read. -/
theorem row_read {H : Type} {enc : TypeId × Value → H} {w : World} {base : Nat} {sp : Nat → Bool} {held : Bool} {fuel : Nat} {cs : List Value} {a b c : Int} {p : List MemPlace}
    (h : DataW.trod enc Tryd.prog w base sp held fuel 60 cs = some (.agg [.lit (.int .u64 a), .lit (.int .i64 b), .lit (.int .i64 c)], p)) : cs = [.int .u64 a, .int .i64 b, .int .i64 c] := by
  obtain ⟨xs, n, rfl, hx, hl, hn, hf⟩ := DataW.trod_struct Tryd.underlying60 h
  have c2 : Tryd.prog.cellsOf 2 = 1 := by kernel_rfl
  have c52 : Tryd.prog.cellsOf 52 = 1 := by kernel_rfl
  have c60 : Tryd.prog.cellsOf 60 = 3 := by kernel_rfl
  have f0 : DataW.trod enc Tryd.prog w base sp held n 52 ((cs.drop 0).take (Tryd.prog.cellsOf 52)) = xs[0]? := hf 0 _ rfl
  have f1 : DataW.trod enc Tryd.prog w base sp held n 2 ((cs.drop 1).take (Tryd.prog.cellsOf 2)) = xs[1]? := hf 1 _ rfl
  have f2 : DataW.trod enc Tryd.prog w base sp held n 2 ((cs.drop 2).take (Tryd.prog.cellsOf 2)) = xs[2]? := hf 2 _ rfl
  rw [c52] at f0
  rw [c2] at f1 f2
  rw [c60] at hl
  match xs, hn, hx, f0, f1, f2 with
  | [x0, x1, x2], _, hx, f0, f1, f2 =>
    obtain ⟨n0, e0, e0', -⟩ := DataW.trod_int Tryd.underlying52 f0
    obtain ⟨n1, e1, e1', -⟩ := DataW.trod_int Tryd.underlying2 f1
    obtain ⟨n2, e2, e2', -⟩ := DataW.trod_int Tryd.underlying2 f2
    subst e0' e1' e2'
    simp only [List.map_cons, List.map_nil, Prod.mk.injEq, DataW.agg.injEq, List.cons.injEq, DataW.lit.injEq, Lit.int.injEq, true_and, and_true] at hx
    obtain ⟨⟨rfl, rfl, rfl⟩, -⟩ := hx
    match cs, hl, e0, e1, e2 with
    | [d0, d1, d2], _, e0, e1, e2 =>
      simp at e0 e1 e2
      rw [e0, e1, e2]

theorem cells60 : Tryd.prog.cellsOf 60 = 3 := by kernel_rfl
theorem cells61 : Tryd.prog.cellsOf 61 = 27 := by kernel_rfl

theorem tab_of {W : World} (h0 : laidMetH Tryd.prog [("portage/params.table", Rows.laid_portage_params_table)] W) : Tb W := by
  have h : laidMet Tryd.prog [("portage/params.table", Rows.laid_portage_params_table)] W := h0
  obtain ⟨ps, ⟨g', t', cs, fuel, p, q, hg', ht', hvar, hd, _, _⟩, _⟩ := h
  obtain rfl := Option.some.inj (gTab.symm.trans hg')
  obtain rfl := Option.some.inj (gTabType.symm.trans ht')
  obtain ⟨xs, n, rfl, hx, hl, hn, hf⟩ := DataW.trod_array Tryd.underlying61 hd
  rw [cells61] at hl
  simp only [cells60] at hf
  have hcs : cs = tbl := by
    match xs, hn, hx, hf with
    | [x0, x1, x2, x3, x4, x5, x6, x7, x8], _, hx, hf =>
      unfold Rows.laid_portage_params_table at hx
      simp only [List.map_cons, List.map_nil, Prod.mk.injEq, DataW.agg.injEq, List.cons.injEq, and_true] at hx
      obtain ⟨⟨y0, y1, y2, y3, y4, y5, y6, y7, y8⟩, -⟩ := hx
      have key : ∀ (j : Nat) (x : DataW Unit × List MemPlace) (a b c : Int), j < 9 → [x0, x1, x2, x3, x4, x5, x6, x7, x8][j]? = some x → .agg [.lit (.int .u64 a), .lit (.int .i64 b), .lit (.int .i64 c)] = x.1 → ((cs.toList.drop (j * 3)).take 3) = [.int .u64 a, .int .i64 b, .int .i64 c] := by
        intro j x a b c hj hxj hxa
        have hh := hf j hj
        rw [hxj] at hh
        obtain ⟨xa, xb⟩ := x
        simp only at hxa
        subst hxa
        exact row_read hh
      have k0 := key 0 x0 1 68719476736 0 (by omega) rfl y0
      have k1 := key 1 x1 4 1048576 0 (by omega) rfl y1
      have k2 := key 2 x2 5 1048576 0 (by omega) rfl y2
      have k3 := key 3 x3 6 1048576 0 (by omega) rfl y3
      have k4 := key 4 x4 7 1048576 0 (by omega) rfl y4
      have k5 := key 5 x5 8 32 0 (by omega) rfl y5
      have k6 := key 6 x6 9 32 0 (by omega) rfl y6
      have k7 := key 7 x7 10 20 3 (by omega) rfl y7
      have k8 := key 8 x8 11 16383000 25000 (by omega) rfl y8
      have hsplit : ∀ l : List Value, l = l.take 3 ++ l.drop 3 := fun l => (List.take_append_drop 3 l).symm
      have hT : cs.toList = tbl.toList := by
        rw [hsplit cs.toList]
        rw [hsplit (cs.toList.drop 3), List.drop_drop, hsplit (cs.toList.drop (3 + 3)), List.drop_drop, hsplit (cs.toList.drop (3 + 3 + 3)), List.drop_drop, hsplit (cs.toList.drop (3 + 3 + 3 + 3)), List.drop_drop, hsplit (cs.toList.drop (3 + 3 + 3 + 3 + 3)), List.drop_drop,
          hsplit (cs.toList.drop (3 + 3 + 3 + 3 + 3 + 3)), List.drop_drop, hsplit (cs.toList.drop (3 + 3 + 3 + 3 + 3 + 3 + 3)), List.drop_drop, hsplit (cs.toList.drop (3 + 3 + 3 + 3 + 3 + 3 + 3 + 3)), List.drop_drop]
        simp only [Nat.reduceMul, Nat.reduceAdd, List.drop_zero] at k0 k1 k2 k3 k4 k5 k6 k7 k8 ⊢
        rw [k0, k1, k2, k3, k4, k5, k6, k7, k8, List.drop_eq_nil_of_le (by omega)]
        rfl
      exact Array.toList_inj.1 hT
  subst hcs
  unfold World.var? at hvar
  rw [gTab] at hvar
  simp only [Option.bind_some] at hvar
  split at hvar
  · rename_i c t f e
    injection hvar with hvar
    exact ⟨t, f, by rw [e, hvar]⟩
  · cases hvar
end Go.Proofs.YtmfbbamaleagiaaDoor
