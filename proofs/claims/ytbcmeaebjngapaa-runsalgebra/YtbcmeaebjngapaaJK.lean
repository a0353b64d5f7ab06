/- Join. -/
import Derived.Test.YtbcmeaebjngapaaJJ
namespace Go.Proofs.Ytbcmeaebjngapaa
open Go.RowKit Go.Shelf
set_option linter.unusedVariables false
set_option maxRecDepth 100000
set_option maxHeartbeats 400000
attribute [local go_sem] Oper.semAt_some

def JI (w : World) (B : Nat) (w1 : World) (L : List Sp) (pre : List Sp) (W : World) : Prop := ∃ v, CI w B W v (L ++ pre)

theorem JI.own {w : World} {B n₀ : Nat} {w1 : World} {L : List Sp} (hn : w.heap.size ≤ n₀) : OwnFrom n₀ (JI w B w1 L) := by
  rintro s W W' row ⟨v, h⟩ hg hr
  exact ⟨v, h.kept hg (fun r e => ⟨Nat.le_trans hn (hr r e).1, (hr r e).2⟩)⟩

/-- ... and a block that is no cells. -/
def JD (D : Nat) (W : World) : Prop := W.heap[D]? = some (.deferred (some []))

theorem LS.put {w W : World} {b D : Nat} {most : Int} {L : List Sp} {o o' : Obj} (h : LS w W b most L) (hd : W.heap[D]? = some o) (hc : o.isCells = false) (hD : w.heap.size ≤ D) : LS w (W.putObj D o') b most L := by
  obtain ⟨v, hv, hf⟩ := h.at_
  have hg := grownBy_putObj' W D o'
  have hno : ∀ k c t fr, W.heap[k]? = some (.cells c t fr) → k ≠ D := fun k c t fr hk e => by
    rw [e, hd] at hk
    cases hk
    cases hc
  refine ⟨⟨v, ⟨?_, ?_⟩, hf⟩, h.new, grown_fresh h.grown hg (fun k e => by cases e; exact hD)⟩
  · rw [hg.block b (Array.getElem?_eq_some_iff.1 hv.blk).1 (by simpa using hno b _ _ _ hv.blk)]
    exact hv.blk
  · refine World.ownsRow.kept hv.row hg ?_
    cases hvo : v.ownBlock with
    | none => exact .inl rfl
    | some g =>
      right
      obtain ⟨c, h3⟩ := hv.row.block g hvo
      simpa using hno g _ _ _ h3

theorem defer_own {B : Nat} (D : Nat) (hD : D < B) : OwnFrom B (fun (_ : List Sp) W => W.heap[D]? = some (.deferred (some []))) := by
  intro s W W' row h hg hr
  rw [hg.block D (Array.getElem?_eq_some_iff.1 h).1 (fun e => by have := (hr D e.symm).1; omega)]
  exact h

set_option maxRecDepth 100000 in
set_option maxHeartbeats 1600000 in
theorem join_in (hS : SortOk) (pa pb : Option Addr) (La Lb : List Sp) (w : World) (ha : HasRuns w (.pointer pa) La) (hb : HasRuns w (.pointer pb) Lb) (hA : InB La) (hB : InB Lb) (hlen : (La.length + Lb.length) * 16 ≤ 100000000000000) :
    CallsIn Fence.wide 4 Try.prog 8 #[.pointer pa, .pointer pb] w fun e w' => ∃ b P, e = .returned (.pointer (some ⟨b, 0, none⟩)) ∧ P.Perm (La ++ Lb) ∧ P.Pairwise (fun a b => a.1 ≤ b.1) ∧ LS w w' b 0 (putL [] P) := by
  have hwide : ∀ f, Fence.wide.fn f := fun _ => trivial
  have HA := hide ha; have HB := hide hb
  clear ha hb
  refine callsIn_of_wp_marks Try.func8 rfl trivial ?_ rfl
  simp only [Try.ntmps8, List.size_toArray, List.length_cons, List.length_nil, Nat.reduceAdd, Nat.reduceSub, Array.replicate_succ, Array.replicate_zero, List.push_toArray, List.append_toArray, List.nil_append, List.cons_append]
  gi_wp2_with fail
  refine (callsIn_wide.2 (upC_any pa _)).mono ?_
  rintro e W' ⟨rfl, rfl⟩
  have ci0 : CI w w.heap.size ((w.alloc (.cells #[.slice none 0 0] 26)).alloc (.cells #[.pointer pa] 24)) (.slice none 0 0) [] := by
    refine ⟨?_, row_nil _, fresh_nil _, grown_trans (grown_alloc _ _) (grown_alloc _ _), Nat.le_refl _⟩
    unfold Boxed
    rw [Below.heap_alloc _ _ _ (by simp)]
    exact heap_alloc_new w _
  have cb : ((w.alloc (.cells #[.slice none 0 0] 26)).alloc (.cells #[.pointer pa] 24)).cell? ⟨w.heap.size + 1, 0, none⟩ = some (.pointer pa) := by
    have h1 := heap_alloc_new (w.alloc (.cells #[.slice none 0 0] 26)) (.cells #[.pointer pa] 24)
    simp only [World.size_alloc] at h1
    exact Boxed.cell (show Boxed _ _ _ _ from h1)
  have bel1 : Below w.heap.size w ((w.alloc (.cells #[.slice none 0 0] 26)).alloc (.cells #[.pointer pa] 24)) := ((Below.refl _ _).alloc (Nat.le_refl _) _).alloc (by simp) _
  gi_wp2_with fail
  generalize hW1 : (w.alloc (.cells #[.slice none 0 0] 26)).alloc (.cells #[.pointer pa] 24) = W1 at *
  have hB1 : w.heap.size < W1.heap.size := ci0.bx.lt
  refine rangeJ 6 w.heap.size rfl (by omega) (gf := 25) (lb := #[.pointer (some ⟨w.heap.size + 1, 0, none⟩)]) rfl trivial (enters_of Try.func25 (by kernel_rfl) rfl)
    (up_stops (4 - 1) (by omega) (w.heap.size + 1) w.heap.size (.pointer pa) La W1 cb ((unhide HA).below bel1) hB1 ci0.lt (by omega)) hB1
    (JI w w.heap.size W1 []) (JI.own (by omega)) ⟨_, ci0⟩ ?assign ?body ?done
  case assign =>
    rintro l pre x W K ⟨v, ci⟩ hK
    have hK2 := hK _ _ ((KeepsOthers.alloc W (.cells #[.int .i64 x.1, .int .i64 x.2] 31)).from _) (KpB.grown ci.bx.lt (grown_alloc _ _)) ⟨v, ci.kept (World.grownBy_alloc W _ none) (fun r e => by cases e)⟩ (AxJ.mk W)
    gi_wp2
    exact hK2
  case body =>
    rintro l pre x Bx W ⟨v, ci⟩ hx hpl
    have y0 := (box2 hx).1
    have y1 := (box2 hx).2
    have cv := ci.bx.cell
    obtain ⟨v', w', hr, hro, hmo, hnn⟩ := app_one W v ([] ++ pre) x.1 x.2 26 ci.row (by simp; omega)
    obtain ⟨⟨z1, z2⟩, ci2, ko, kp⟩ := ci.app _ hmo hro
    obtain ⟨a, c, rfl, -, -, -⟩ := ci.row.shape
    obtain ⟨a', c', rfl, -, -, -⟩ := hro.shape
    have F := hide (And.intro ci2 (And.intro ko kp))
    clear ci2 ko kp ci hro hmo hnn hx
    generalize ([] ++ pre ++ [(x.1, x.2)]).length = m1 at *
    generalize ([] ++ pre).length = m0 at *
    gi_wp2_with (gi_at_builtin; refine wpListIn_append_run _ rfl _ _ 26 26 rfl _ _ rfl rfl hr ?_)
    exact ⟨(unhide F).2.1.from _, (unhide F).2.2, .slice a' m1 c', (unhide F).1⟩
  case done =>
    rintro D xs W hD rfl ⟨v, ci⟩ hK
    have belW : Below w.heap.size w W := ⟨ci.grown.os, ci.grown.tape, ci.grown.output, ci.grown.size, fun k hk => ci.grown.block k hk (by simp)⟩
    rw [List.nil_append] at ci
    have CIH := hide ci; have HK := hide hK; have BELW := hide belW
    have hDlt : D < W.heap.size := (Array.getElem?_eq_some_iff.1 hK).1
    clear ci hK belW ci0 cb bel1 hW1
    gi_wp2_with fail
    refine (callsIn_wide.2 (upC_any pb _)).mono ?_
    rintro e W' ⟨rfl, rfl⟩
    have ci2 := (unhide CIH).kept (World.grownBy_alloc W (.cells #[.pointer pb] 24) none) (fun r e => by cases e)
    have cb2 : (W.alloc (.cells #[.pointer pb] 24)).cell? ⟨W.heap.size, 0, none⟩ = some (.pointer pb) := Boxed.cell (show Boxed _ _ _ _ from heap_alloc_new W _)
    have bel2 : Below w.heap.size w (W.alloc (.cells #[.pointer pb] 24)) := (unhide BELW).alloc (unhide BELW).size _
    have hK2 : (W.alloc (.cells #[.pointer pb] 24)).heap[D]? = some (.deferred (some [])) := by rw [Below.heap_alloc _ _ _ hDlt]; exact unhide HK
    gi_wp2_with fail
    generalize hW2 : W.alloc (.cells #[.pointer pb] 24) = W2 at *
    have hB2 : w.heap.size < W2.heap.size := ci2.bx.lt
    have hD2 : D < W2.heap.size := (Array.getElem?_eq_some_iff.1 hK2).1
    refine rangeJ 7 w.heap.size rfl (by omega) (gf := 25) (lb := #[.pointer (some ⟨W.heap.size, 0, none⟩)]) rfl trivial (enters_of Try.func25 (by kernel_rfl) rfl)
      (up_stops (4 - 1) (by omega) W.heap.size w.heap.size (.pointer pb) Lb W2 cb2 ((unhide HB).below bel2) hB2 ci2.lt (by omega)) hB2
      (fun pre W' => JI w w.heap.size W2 xs pre W' ∧ W'.heap[D]? = some (.deferred (some []))) (OwnFrom.and (JI.own (by omega)) (defer_own D hD2)) ⟨⟨_, by rw [List.append_nil]; exact ci2⟩, hK2⟩ ?assign2 ?body2 ?done2
    case assign2 =>
      rintro l pre x W K ⟨⟨v, ci⟩, hd⟩ hK
      have hK2 := hK _ _ ((KeepsOthers.alloc W (.cells #[.int .i64 x.1, .int .i64 x.2] 31)).from _) (KpB.grown ci.bx.lt (grown_alloc _ _)) ⟨⟨v, ci.kept (World.grownBy_alloc W _ none) (fun r e => by cases e)⟩, by rw [Below.heap_alloc _ _ _ (Array.getElem?_eq_some_iff.1 hd).1]; exact hd⟩ (AxJ.mk W)
      gi_wp2
      exact hK2
    case body2 =>
      rintro l pre x Bx W ⟨⟨v, ci⟩, hd⟩ hx hpl
      have y0 := (box2 hx).1
      have y1 := (box2 hx).2
      have cv := ci.bx.cell
      obtain ⟨v', w', hr, hro, hmo, hnn⟩ := app_one W v (xs ++ pre) x.1 x.2 26 ci.row (by simp; omega)
      obtain ⟨⟨z1, z2⟩, ci2, ko, kp⟩ := ci.app _ hmo hro
      have hd2 := ko.same D _ hd rfl
      obtain ⟨a, c, rfl, -, -, -⟩ := ci.row.shape
      obtain ⟨a', c', rfl, -, -, -⟩ := hro.shape
      have F := hide (And.intro ci2 (And.intro ko (And.intro kp hd2)))
      clear ci2 ko kp ci hro hmo hnn hx hd2 hd
      generalize (xs ++ pre ++ [(x.1, x.2)]).length = m1 at *
      generalize (xs ++ pre).length = m0 at *
      gi_wp2_with (gi_at_builtin; refine wpListIn_append_run _ rfl _ _ 26 26 rfl _ _ rfl rfl hr ?_)
      exact ⟨(unhide F).2.1.from _, (unhide F).2.2.1, ⟨.slice a' m1 c', by have := (unhide F).1; rw [List.append_assoc] at this; exact this⟩, (unhide F).2.2.2⟩
    case done2 =>
      rintro D2 ys W3 hD3 rfl ⟨⟨v3, ci3⟩, hd3⟩ hK3
      have cv := ci3.bx.cell
      have hof := of_any0 hS v3 (xs ++ ys) W3 (fun s hs => by rcases List.mem_append.1 hs with h | h; exact hA s h; exact hB s h) (by rw [List.length_append]; omega) (clone_row v3 (xs ++ ys) W3 ci3.row (by rw [List.length_append]; omega))
      obtain ⟨a, c, rfl, -, -, -⟩ := ci3.row.shape
      have HOF := hide hof; have HG3 := hide ci3.grown; have HD1 := hide hd3; have HD2 := hide hK3
      clear hof ci3 hd3 hK3
      generalize (xs ++ ys).length = m1 at *
      gi_wp2_with (gi_at_call 21; refine (callsIn_wide.2 (unhide HOF)).mono ?_; rintro e W4 ⟨b, P, rfl, hp, hso, hls⟩)
      have g4 := hls.grown
      have k2 : W4.heap[D2]? = some (.deferred (some [])) := (g4.block D2 (Array.getElem?_eq_some_iff.1 (unhide HD2)).1 (by simp)).trans (unhide HD2)
      have k1 : W4.heap[D]? = some (.deferred (some [])) := (g4.block D (Array.getElem?_eq_some_iff.1 (unhide HD1)).1 (by simp)).trans (unhide HD1)
      have k1' : (W4.putObj D2 (.deferred none)).heap[D]? = some (.deferred (some [])) := ((grownBy_putObj' W4 D2 (.deferred none)).block D (Array.getElem?_eq_some_iff.1 k1).1 (by simp; omega)).trans k1
      have ls5 := (LS.base (unhide HG3) hls).put (o' := .deferred none) k2 rfl (by omega)
      have ls6 := ls5.put (o' := .deferred none) k1' rfl (by omega)
      refine ⟨by simp, .inl ⟨_, _, rfl, run_takeDeferred k2, by simp, .inl ⟨_, _, rfl, run_takeDeferred k1', ?_⟩⟩⟩
      refine ⟨.pointer (some ⟨b, 0, none⟩), ?_, b, P, rfl, hp, hso, ls6⟩
      simp [results, Try.results8, go_sem]
end Go.Proofs.Ytbcmeaebjngapaa
