/- slices.AppendSeq and slices.Collect over Down. -/
import Derived.Test.YtielpjdjlmkejaaZE
namespace Go.Proofs.Ytielpjdjlmkejaa
open Go.RowKit Go.Shelf
set_option linter.unusedVariables false
set_option maxHeartbeats 1000000
set_option maxRecDepth 100000
attribute [local go_sem] Oper.semAt_some

theorem seq_any (Bs b : Nat) (L : List Sp) (w : World) (hBs : w.cell? ⟨Bs, 0, none⟩ = some (.pointer (some ⟨b, 0, none⟩)))
    (hR : ∀ W, Below w.heap.size w W → Calls Try.prog 40 #[.pointer (some ⟨b, 0, none⟩)] W fun e w' => ∃ v', e = .returned v' ∧ Row w' v' L ∧ Fresh W v' ∧ W.grownBy w' none)
    (hlen : L.length ≤ 8000000000000) :
    Calls Try.prog 53 #[.slice none 0 0, .func (.func 54) #[] #[.pointer (some ⟨Bs, 0, none⟩)]] w fun e W' =>
      ∃ v, e = .returned v ∧ Row W' v L.reverse ∧ Fresh w v ∧ w.grownBy W' none := by
  obtain ⟨W1, hW1⟩ : ∃ W1, W1 = w.alloc (.cells #[.slice none 0 0] 33) := ⟨_, rfl⟩
  have ci0 : CI w w.heap.size W1 (.slice none 0 0) [] := by
    rw [hW1]
    exact ⟨heap_alloc_new w _, row_nil _, fresh_nil _, grown_alloc _ _, Nat.le_refl _⟩
  have bel1 : Below w.heap.size w W1 := by rw [hW1]; exact (Below.refl _ _).alloc (Nat.le_refl _) _
  have cb : W1.cell? ⟨Bs, 0, none⟩ = some (.pointer (some ⟨b, 0, none⟩)) := (bel1.cell (p := ⟨Bs, 0, none⟩) (World.block_lt_of_cell? w _ hBs)).trans hBs
  have hB1 : w.heap.size < W1.heap.size := ci0.bx.lt
  have hseq := down_all Bs w.heap.size b L W1 cb (fun W hW => hR W (bel1.trans (hW.mono bel1.size))) hB1 ci0.lt (by omega)
  refine (callsIn_wide (n := 4)).1 ?_
  refine callsIn_of_wp_marks Try.func53 rfl trivial ?_ rfl
  simp only [Try.ntmps53, List.size_toArray, List.length_cons, List.length_nil, Nat.reduceAdd, Nat.reduceSub, Array.replicate_succ, Array.replicate_zero, List.push_toArray, List.append_toArray, List.nil_append, List.cons_append]
  gi_wp2_with fail
  rw [← hW1]
  clear hW1
  refine range_all 4 5 w.heap.size (gf := 54) (lb := #[.pointer (some ⟨Bs, 0, none⟩)]) rfl (enters_of Try.func54 (by kernel_rfl) rfl) hseq
    (fun pre X => ∃ v, CI w w.heap.size X v pre) (fun s X Y row ⟨v, h⟩ hg hr => ⟨v, h.kept hg (fun r e => ⟨by have := (hr r e).1; omega, (hr r e).2⟩)⟩) (fun pre X ⟨v, h⟩ => ⟨_, _, _, h.bx⟩) ⟨_, ci0⟩ ?assign ?body ?done
  case assign =>
    intro l m x W K hK
    gi_wp2
    exact hK
  case body =>
    rintro l m pre x Bx W hm ⟨v, ci⟩ hx hpl
    have y0 := (box2 hx).1
    have y1 := (box2 hx).2
    have cv := ci.bx.cell
    obtain ⟨v', w', hr, hro, hmo, hnn⟩ := app_one W v pre x.1 x.2 33 ci.row (by omega)
    obtain ⟨⟨z1, z2⟩, ci2, ko, kp⟩ := ci.app _ hmo hro
    obtain ⟨a, c, rfl, -, -, -⟩ := ci.row.shape
    obtain ⟨a', c', rfl, -, -, -⟩ := hro.shape
    have F := hide (And.intro ci2 (And.intro ko kp))
    clear ci2 ko kp ci hro hmo hnn hx
    generalize (pre ++ [(x.1, x.2)]).length = m1 at *
    generalize pre.length = m0 at *
    gi_wp2_with (gi_at_builtin; refine wpListIn_append_run _ rfl _ _ 33 33 rfl _ _ rfl rfl hr ?_)
    exact ⟨(unhide F).2.1, (unhide F).2.2, .slice a' m1 c', (unhide F).1⟩
  case done =>
    rintro D xs W hD rfl ⟨v, ci⟩ hK
    have hc := ci.bx.cell
    have ci2 := ci.kept (grownBy_putObj' W D (.deferred none)) (fun r e => by cases e; exact ⟨by omega, _, hK, rfl⟩)
    have F := hide ci2
    have HK := hide hK
    clear ci ci2 hK
    gi_wp2_with fail
    refine ⟨by simp, .inl ⟨_, _, rfl, run_takeDeferred (unhide HK), ?_⟩⟩
    exact ⟨_, results_tmp rfl _ _ _, v, rfl, (unhide F).row, (unhide F).fr, (unhide F).grown⟩

theorem collect_any (Bs b : Nat) (L : List Sp) (w : World) (hBs : w.cell? ⟨Bs, 0, none⟩ = some (.pointer (some ⟨b, 0, none⟩)))
    (hR : ∀ W, Below w.heap.size w W → Calls Try.prog 40 #[.pointer (some ⟨b, 0, none⟩)] W fun e w' => ∃ v', e = .returned v' ∧ Row w' v' L ∧ Fresh W v' ∧ W.grownBy w' none)
    (hlen : L.length ≤ 8000000000000) :
    Calls Try.prog 38 #[.func (.func 54) #[] #[.pointer (some ⟨Bs, 0, none⟩)]] w fun e W' =>
      ∃ v, e = .returned v ∧ Row W' v L.reverse ∧ Fresh w v ∧ w.grownBy W' none := by
  have h := seq_any Bs b L w hBs hR hlen
  clear hBs hR
  go_enter Try.func38, Try.ntmps38
  go_wp2_with fail
  refine h.mono ?_
  rintro e W1 ⟨v, rfl, h1, h2, h3⟩
  obtain ⟨a, c, rfl, -, -, -⟩ := h1.shape
  have F := hide (And.intro h1 (And.intro h2 h3))
  clear h1 h2 h3 h
  generalize L.reverse.length = m at *
  go_wp2_with fail
  go_ret
  exact ⟨_, rfl, (unhide F).1, (unhide F).2.1, (unhide F).2.2⟩

/-- What Down hands back, collected. -/
theorem told_any (b : Nat) (most : Int) (v0 : Value) (L : List Sp) (w : World) (h0 : SetAt w b most v0 L) (hlen : L.length ≤ 8000000000000) :
    Calls Try.prog 39 #[.pointer (some ⟨b, 0, none⟩)] w fun e w1 => ∃ f, e = .returned f ∧ w.grownBy w1 none ∧ Hid (∀ w2, w1.grownBy w2 none → Calls Try.prog 38 #[f] w2 fun e W' =>
      ∃ v, e = .returned v ∧ Row W' v L.reverse ∧ Fresh w2 v ∧ w2.grownBy W' none) := by
  refine (down_any (some ⟨b, 0, none⟩) w).mono ?_
  rintro e w1 ⟨rfl, rfl⟩
  refine ⟨_, rfl, grown_alloc _ _, fun w2 hg => ?_⟩
  refine collect_any w.heap.size b L w2 ?_ (fun W hW => ?_) hlen
  · have h1 : Boxed (w.alloc (.cells #[.pointer (some ⟨b, 0, none⟩)] 60)) w.heap.size 60 (.pointer (some ⟨b, 0, none⟩)) := heap_alloc_new w _
    exact cell_grown_none hg h1.cell
  · have g2 : w.grownBy W none := grown_trans (grown_trans (grown_alloc _ _) hg) ⟨hW.os, hW.tape, hW.output, hW.size, fun k hk _ => hW.block k hk⟩
    exact runs_any b most v0 L W (h0.keep g2) (by omega)
end Go.Proofs.Ytielpjdjlmkejaa
