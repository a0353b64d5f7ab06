/- Down's rounds; slices.AppendSeq and slices.Collect over it. -/
import Derived.Test.YtielpjdjlmkejaaZD
namespace Go.Proofs.Ytielpjdjlmkejaa
open Go.RowKit Go.Shelf
set_option linter.unusedVariables false
set_option maxHeartbeats 1000000
set_option maxRecDepth 100000
attribute [local go_sem] Oper.semAt_some

theorem back_stops (n : Nat) (hn : 1 ≤ n) (Bb B : Nat) (v : Value) (L : List Sp) (w : World) (hBb : Boxed w Bb 33 v) (hrow : Row w v L) (hne : Bb ≠ B) (hB : B < w.heap.size) (ho : own1 w B ≠ some Bb) (ho2 : ∀ g, v.ownBlock = some g → g ≠ B ∧ own1 w B ≠ some g)
    (hlen : L.length * 16 ≤ 140737488355328) :
    SeqStopsK Fence.wide n Try.prog 71 #[.pointer (some ⟨Bb, 0, none⟩)] encI (KpB B) (fun ys => ys.map Prod.snd = L.reverse) (fun _ => True) L.length w := fun l J Jx W hW hJ _ hY h0 =>
  have e1 : own1 W B = own1 w B := own1_same (hW.block B hB)
  back1_in n hn l Bb B v L J Jx hY W ((hW.block Bb hBb.lt).trans hBb)
    (World.ownsRow.kept (row := none) hrow ⟨hW.os, hW.tape, hW.output, hW.size, fun k hk _ => hW.block k hk⟩ (by cases v.ownBlock <;> simp))
    hne (Nat.lt_of_lt_of_le hB hW.size) (by rw [e1]; exact ho) (by rw [e1]; exact ho2) hlen h0

theorem kpb_own {B n₀ : Nat} {W0 : World} {J : List NS → World → Prop} (hJ : OwnFrom n₀ J) (hJB : ∀ pre X, J pre X → ∃ c t f, X.heap[B]? = some (.cells c t f)) : OwnFrom n₀ (fun pre X => J pre X ∧ KpB B W0 X) := by
  rintro pre X Y row ⟨hj, hk⟩ hg hr
  refine ⟨hJ pre X Y row hj hg hr, hk.trans ?_⟩
  obtain ⟨c, t, f, hb⟩ := hJB pre X hj
  have nc : ∀ (k : Nat) (o : Obj), X.heap[k]? = some o → o.isCells = true → Y.heap[k]? = some o := fun k o ho hc => by
    rw [hg.block k (Array.getElem?_eq_some_iff.1 ho).1 (fun e => by
      obtain ⟨-, o', h1, h2⟩ := hr k e.symm
      rw [ho] at h1
      cases h1
      rw [hc] at h2
      cases h2)]
    exact ho
  refine ⟨hg.size, fun k o ho hc _ _ => nc k o ho hc, fun j e _ => ?_⟩
  rw [← own1_same (W := X) (W' := Y) ((nc B _ hb rfl).trans hb.symm)]
  exact e

abbrev put4 (a : Act) (t0 t1 d1 : Nat) (x : NS) (Bx : Nat) : Act := { tmps := ((a.tmps.setIfInBounds t0 (.int .i64 (x.1 : Int))).setIfInBounds t1 (.agg #[.int .i64 x.2.1, .int .i64 x.2.2])).setIfInBounds d1 (.pointer (some ⟨Bx, 0, none⟩)), defers := [] }
def AxI (a : Act) (t0 t1 d1 : Nat) (x : NS) (a' : Act) (W : World) : Prop := ∃ Bx, W.heap[Bx]? = some (.cells #[.int .i64 x.2.1, .int .i64 x.2.2] 55 (0, 0)) ∧ a' = put4 a t0 t1 d1 x Bx
theorem axI_own (a : Act) (t0 t1 d1 B : Nat) (x : NS) (a' : Act) : OwnFrom B (fun (_ : Unit) W => AxI a t0 t1 d1 x a' W) := by
  rintro s W W' row ⟨Bx, h1, h2⟩ hg hr
  refine ⟨Bx, ?_, h2⟩
  rw [hg.block Bx (Array.getElem?_eq_some_iff.1 h1).1 (fun e => by
    obtain ⟨_, o, h3, h4⟩ := hr Bx e.symm
    rw [h1] at h3
    cases h3
    cases h4)]
  exact h1

theorem down_all (Bs B b : Nat) (L : List Sp) (w : World) (hBs : w.cell? ⟨Bs, 0, none⟩ = some (.pointer (some ⟨b, 0, none⟩)))
    (hR : ∀ W, Below w.heap.size w W → Calls Try.prog 40 #[.pointer (some ⟨b, 0, none⟩)] W fun e w' => ∃ v', e = .returned v' ∧ Row w' v' L ∧ Fresh W v' ∧ W.grownBy w' none)
    (hB : B < w.heap.size) (ho : ∀ j, own1 w B = some j → j < w.heap.size) (hlen : L.length * 16 ≤ 140737488355328) :
    SeqAll 54 #[.pointer (some ⟨Bs, 0, none⟩)] B (fun ys => ys = L.reverse) L.length w := by
  intro l J W hW hJ hJB hY h0
  have hBs' := (hW.cell (p := ⟨Bs, 0, none⟩) (World.block_lt_of_cell? w _ hBs)).trans hBs
  obtain ⟨Wy, hWy⟩ : ∃ Wy, Wy = W.alloc (.cells #[.func (.yield l) #[] #[]] 88) := ⟨_, rfl⟩
  have hby : Below w.heap.size w Wy := by rw [hWy]; exact hW.alloc hW.size _
  have hr := hR Wy hby
  have hBW : B < W.heap.size := Nat.lt_of_lt_of_le hB hW.size
  have ow : own1 Wy B = own1 w B := own1_same (by rw [hWy, Below.heap_alloc _ _ _ hBW]; exact hW.block B hB)
  have yB : Boxed Wy W.heap.size 88 (.func (.yield l) #[] #[]) := by rw [hWy]; exact heap_alloc_new W _
  have jy : J [] Wy := by rw [hWy]; exact hJ.alloc _ h0
  have sy : Wy.heap.size = W.heap.size + 1 := by rw [hWy]; simp
  have cBs : (W.alloc (.cells #[.func (.yield l) #[] #[]] 88)).cell? ⟨Bs, 0, none⟩ = some (.pointer (some ⟨b, 0, none⟩)) := by
    rw [World.cell?_of_block (w := W) (Below.heap_alloc _ _ _ (World.block_lt_of_cell? W _ hBs'))]; exact hBs'
  refine (callsIn_wide (n := 6)).1 ?_
  refine callsIn_of_wp_marks Try.func54 rfl trivial ?_ rfl
  simp only [Try.ntmps54, List.size_toArray, List.length_cons, List.length_nil, Nat.reduceAdd, Nat.reduceSub, Array.replicate_succ, Array.replicate_zero, List.push_toArray, List.append_toArray, List.nil_append, List.cons_append]
  gi_wp2_with fail
  rw [← hWy]
  clear hWy
  refine ⟨trivial, (callsIn_wide.2 hr).mono ?_⟩
  rintro e W2 ⟨v, rfl, hrow, hfr, hg⟩
  obtain ⟨a, c, rfl, -, -, -⟩ := hrow.shape
  gi_wp2_with fail
  refine ⟨trivial, (callsIn_wide.2 (back_any a L.length c W2)).mono ?_⟩
  rintro e W3 ⟨rfl, hW3⟩
  have g3 : Wy.grownBy W3 none := by rw [hW3]; exact grown_trans hg (grown_alloc _ _)
  have bB : Boxed W3 W2.heap.size 33 (.slice a L.length c) := by rw [hW3]; exact heap_alloc_new W2 _
  have row3 : Row W3 (.slice a L.length c) L := by rw [hW3]; exact World.ownsRow.kept (row := none) hrow (grown_alloc _ _) (by cases (Value.slice a L.length c).ownBlock <;> simp)
  have s2 : Wy.heap.size ≤ W2.heap.size := hg.size
  have s3 : W2.heap.size < W3.heap.size := bB.lt
  have ow3 : own1 W3 B = own1 w B := (own1_same (g3.block B (by omega) (by simp))).trans ow
  have y3 : Boxed W3 W.heap.size 88 (.func (.yield l) #[] #[]) := (g3.block _ yB.lt (by simp)).trans yB
  have j3 : J [] W3 := hJ [] Wy W3 none jy g3 (fun r e => by cases e)
  have hws := hW.size
  clear hW3
  gi_wp2_with fail
  refine wpIn_rangeFunc_ownH (F := Fence.wide) rfl (by decide) (gf := 71) (lb := #[.pointer (some ⟨W2.heap.size, 0, none⟩)]) rfl trivial (enters_of Try.func71 (by kernel_rfl) rfl)
    (back_stops 5 (by decide) W2.heap.size B (.slice a L.length c) L W3 bB row3 (by omega) (by omega) (fun e => by rw [ow3] at e; have := ho _ e; omega) (fun g e => by have h1 := hfr g e; exact ⟨by omega, fun e2 => by rw [ow3] at e2; have := ho _ e2; omega⟩) hlen)
    (fun h k => h.trans k) (fun X l o o' hl ho' hc _ => KpB.put ho' hc (by omega)) (Below.refl _ _) (fun _ => rfl)
    (fun (pre : List NS) X => J (pre.map Prod.snd) X ∧ KpB B W3 X) (fun _ _ _ => False)
    (kpb_own (J := fun (pre : List NS) X => J (pre.map Prod.snd) X) (fun s X Y row hs hg' hr' => hJ _ X Y row hs hg' (fun r e => ⟨by have := (hr' r e).1; omega, (hr' r e).2⟩)) (fun pre X h => hJB _ X h))
    (fun _ _ _ _ _ h _ _ => h) ⟨j3, KpB.grown (by omega) (grown_self _ _)⟩ (AxI { tmps := #[.func (.yield l) #[] #[], .pointer (some ⟨Bs, 0, none⟩), .pointer (some ⟨W.heap.size, 0, none⟩), undef, undef, .pointer (some ⟨b, 0, none⟩), .slice a L.length c, .func (.func 71) #[] #[.pointer (some ⟨W2.heap.size, 0, none⟩)], undef, undef, undef, undef, undef, undef], defers := [] } 8 9 4) (fun x a' => axI_own _ 8 9 4 _ x a') ?assign ?body ?done ?stop
  case assign =>
    rintro l' pre x X K ⟨hj, hk⟩ hK
    have hK2 := hK _ _ ((KeepsOthers.alloc X (.cells #[.int .i64 x.2.1, .int .i64 x.2.2] 55)).from _) (KpB.grown (Nat.lt_of_lt_of_le (by omega) hk.size) (grown_alloc _ _)) ⟨hJ _ X _ none hj (grown_alloc _ _) (fun r e => by cases e), hk.trans (KpB.grown (Nat.lt_of_lt_of_le (by omega) hk.size) (grown_alloc _ _))⟩ ⟨_, heap_alloc_new X _, rfl⟩
    gi_wp2
    exact hK2
  case body =>
    rintro l' pre x a' X _ _ ⟨hj, hk⟩ ⟨Bx, hx, rfl⟩ hp
    have y0 := (box2 hx).1
    have y1 := (box2 hx).2
    have yX : Boxed X W.heap.size 88 (.func (.yield l) #[] #[]) := hk.same _ _ y3 rfl (by omega) (fun e => by rw [ow3] at e; have := ho _ e; omega)
    have cy := yX.cell
    obtain ⟨fn, tmps, assign, body, hy, hRR⟩ := hY 3 (by decide) (pre.map Prod.snd) x.2 X hj (by simpa using hp)
    have HRR := hide hRR
    have HK := hide hk
    clear hRR hk yX hx
    gi_wp2_with fail
    refine (unhide HRR).mono ?_
    rintro e X3 ⟨rfl, hJ3, k3, q3⟩
    have F := hide (And.intro hJ3 (And.intro k3 q3))
    clear hJ3 k3 q3
    gi_wp2_with fail
    exact ⟨(unhide F).2.1.from _, (unhide F).2.2, by rw [List.map_append]; exact (unhide F).1, (unhide HK).trans (unhide F).2.2⟩
  case done =>
    rintro D ys X hD hys ⟨hj, hk⟩ hK
    gi_wp2_with fail
    refine ⟨by simp, .inl ⟨_, _, rfl, run_takeDeferred hK, ?_⟩⟩
    refine ⟨_, results_none rfl _ _ _, ⟨_, rfl⟩, _, rfl, ?_⟩
    rw [← hys]
    exact hJ.putObj _ hj (by omega) hK rfl
  case stop =>
    rintro D c pre X _ _ h _
    exact h.elim
end Go.Proofs.Ytielpjdjlmkejaa
