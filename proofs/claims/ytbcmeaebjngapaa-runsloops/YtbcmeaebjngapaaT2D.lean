/- Down: the runs, falling; its rounds may change what is older. -/
import Derived.Test.YtbcmeaebjngapaaT2A
import Derived.Test.YtbcmeaebjngapaaT2L
namespace Go.Proofs.Ytbcmeaebjngapaa
open Go.RowKit Go.Shelf
set_option linter.unusedVariables false
set_option maxHeartbeats 2000000
set_option maxRecDepth 100000
attribute [local go_sem] Oper.semAt_some

abbrev NS := Nat × Sp
abbrev encI (x : NS) : Array Value := #[.int .i64 (x.1 : Int), .agg #[.int .i64 x.2.1, .int .i64 x.2.2]]
/-- The last first, with their places. -/
def downI (L : List Sp) : List NS := (List.range L.length).reverse.map fun i => (i, L.getD i (0, 0))
theorem downI_length (L : List Sp) : (downI L).length = L.length := by simp [downI]
theorem downI_at (L : List Sp) (j : Nat) (h : j < L.length) : (downI L)[L.length - 1 - j]? = some (j, L.getD j (0, 0)) := by
  unfold downI
  rw [List.getElem?_map, List.getElem?_reverse (by simp; omega)]
  simp only [List.length_range]
  rw [List.getElem?_range (by omega)]
  simp only [Option.map_some, Option.some.injEq]
  rw [show L.length - 1 - (L.length - 1 - j) = j by omega]
theorem downI_take (L : List Sp) (j : Nat) (h : j < L.length) : (downI L).take (L.length - j) = (downI L).take (L.length - 1 - j) ++ [(j, L.getD j (0, 0))] := by
  rw [show L.length - j = (L.length - 1 - j) + 1 by omega, List.take_add_one, downI_at L j h]
  rfl
theorem downI_map (L : List Sp) : (downI L).map Prod.snd = L.reverse := by
  unfold downI
  rw [List.map_map, List.map_reverse]
  congr 1
  apply List.ext_getElem?
  intro i
  rw [List.getElem?_map]
  by_cases h : i < L.length
  · rw [List.getElem?_range h]
    simp [List.getD, h]
  · rw [List.getElem?_eq_none (by simp; omega), List.getElem?_eq_none (by omega)]
    rfl

theorem back1_kc (n : Nat) (hn : 1 ≤ n) (l Bb b n₀ c : Nat) (a : Option Addr) (L : List Sp) (J Jx : List NS → World → Prop)
    (hY : ∀ pre x X, J pre X → (pre ++ [x]).map Prod.snd <+: L.reverse → YieldAt Fence.wide (n - 1) Try.prog l (encI x) X fun e X' =>
      (e = .returned (.bool true) ∧ J (pre ++ [x]) X' ∧ KS b n₀ X X') ∨ (e = .returned (.bool false) ∧ Jx (pre ++ [x]) X'))
    (w : World) (hBb : Boxed w Bb 26 (.slice a L.length c)) (hbn : n₀ ≤ Bb) (hbo : ownS w b ≠ some Bb) (rd : RdK w b n₀ a c L) (h0 : J [] w) :
    CallsIn Fence.wide n Try.prog 40 #[.func (.yield l) #[] #[], .pointer (some ⟨Bb, 0, none⟩)] w fun e W' => (∃ v, e = .returned v) ∧
      ((∃ ys : List NS, ys.map Prod.snd = L.reverse ∧ J ys W') ∨ (∃ pre : List NS, pre.map Prod.snd <+: L.reverse ∧ Jx pre W')) := by
  have hcb := hBb.cell
  have HY := hide hY; have H0 := hide h0; have ST := hide (And.intro hBb (And.intro hbo rd))
  have cap := rd.cap
  clear hY h0 hBb rd hbo
  have lenI : ¬ (9223372036854775807 : Int) < (L.length : Int) := by omega
  refine callsIn_of_wp Try.func40 rfl trivial ?_ rfl
  simp only [Try.ntmps40, List.size_toArray, List.length_cons, List.length_nil, Nat.reduceAdd, Nat.reduceSub, Array.replicate_succ, Array.replicate_zero, List.push_toArray, List.append_toArray, List.nil_append, List.cons_append]
  gi_wp2_with fail
  gi_loopw [3] (fun i wr => ∃ k : Nat, k ≤ L.length ∧ i = .int .i64 ((k : Int) - 1) ∧ Hid (J ((downI L).take (L.length - k)) wr ∧ Boxed wr Bb 26 (.slice a L.length c) ∧ ownS wr b ≠ some Bb ∧ RdK wr b n₀ a c L)) (fun i _ => (intOf i + 1).toNat)
  case atStart => exact ⟨L.length, Nat.le_refl _, by go_num, by rw [Nat.sub_self]; exact unhide H0, unhide ST⟩
  case round =>
    clear H0 ST
    obtain ⟨k, hk, rfl, H⟩ := hrel
    cases k with
    | succ j =>
      have hj : j < L.length := by omega
      obtain ⟨hJ, bx, bo, rd⟩ := unhide H
      have cb := bx.cell
      obtain ⟨x, hx⟩ : ∃ x, L[j]? = some x := ⟨L[j], by simp⟩
      obtain ⟨g, rfl, hgn, hgo, cs, t, hb, hc⟩ := rd.at_.resolve_left (fun e => by subst e; simp at hj)
      obtain ⟨c0, c1⟩ := hc j x hx
      have hst := downI_take L j hj
      have gx : L.getD j (0, 0) = x := by simp [List.getD, hx]
      rw [gx] at hst
      have e1 : L.length - (j + 1) = L.length - 1 - j := by omega
      rw [e1] at hJ
      obtain ⟨fn, tmps, assign, body, hy, hRR⟩ := (unhide HY) _ (j, x) _ hJ (by rw [← hst, ← downI_map L]; exact (List.take_prefix _ _).map _)
      have HRR := hide hRR
      have HST := hide hst
      have HB := hide (And.intro bx (And.intro bo rd))
      have hi : (((j + 1 : Nat) : Int) - 1) = (j : Int) := by omega
      rw [hi]
      have hjn : (j : Int) < (L.length : Int) := by omega
      clear hRR hst hJ H bx bo rd hc hb hgn hgo gx e1
      gi_wp2_with fail
      refine (unhide HRR).mono ?_
      rintro e W3 (⟨rfl, hJ3, hk3⟩ | ⟨rfl, hJx3⟩)
      · rw [← unhide HST] at hJ3
        have HJ3 := hide (And.intro hJ3 (And.intro (show Boxed W3 Bb 26 (.slice (some ⟨g, 0, none⟩) L.length c) from hk3.same Bb _ hbn (unhide HB).1 rfl (unhide HB).2.1) (And.intro (fun e => (unhide HB).2.1 (hk3.own Bb e (unhide HB).1.lt)) ((unhide HB).2.2.kc hk3))))
        clear hk3 hJ3 HB HRR hy
        gi_wp2_with fail
        go_roundw
        case rel => exact ⟨j, by omega, by go_num, unhide HJ3⟩
        case measure => simp [intOf]
      · rw [← unhide HST] at hJx3
        have HJ3 := hide hJx3
        clear hJx3 HB HRR hy
        gi_wp2_with fail
        refine bodyPost_ret (results_none rfl _ _ _) rfl ?_
        refine ⟨⟨_, rfl⟩, .inr ⟨_, ?_, unhide HJ3⟩⟩
        rw [← downI_map L]
        exact (List.take_prefix _ _).map _
    | zero =>
      have e : (downI L).take (L.length - 0) = downI L := List.take_of_length_le (by rw [downI_length]; omega)
      obtain ⟨hJ, -⟩ := unhide H
      rw [e] at hJ
      have HJ3 := hide hJ
      clear hJ H
      have hi : (((0 : Nat) : Int) - 1) = -1 := by omega
      rw [hi]
      gi_wp2_with fail
      go_end0
      exact ⟨⟨_, rfl⟩, .inl ⟨_, downI_map L, unhide HJ3⟩⟩
theorem back_seq (Bb b n₀ c : Nat) (a : Option Addr) (L : List Sp) (w : World) (hBb : Boxed w Bb 26 (.slice a L.length c)) (hbn : n₀ ≤ Bb) (hb : b < w.heap.size) (hbo : ownS w b ≠ some Bb) (rd : RdK w b n₀ a c L) :
    SeqO 40 #[.pointer (some ⟨Bb, 0, none⟩)] encI (KS b n₀) (fun ys => ys.map Prod.snd = L.reverse) (fun pre => pre.map Prod.snd <+: L.reverse) w := fun l J Jx W hW hJ hJx hY h0 => by
  have os : ownS W b = ownS w b := ownS_same (hW.block b hb)
  refine (callsIn_wide (n := 2)).1 (back1_kc 2 (by decide) l Bb b n₀ c a L J Jx ?_ W ((hW.block Bb hBb.lt).trans hBb) hbn (by rw [os]; exact hbo) (rd.kc (KS.grown hb ⟨hW.os, hW.tape, hW.output, hW.size, fun g hg _ => hW.block g hg⟩)) h0)
  intro pre x Y hj hp
  refine (hY 1 pre x Y hj hp).mono ?_
  rintro e Y' (⟨h1, h2, h3, -⟩ | ⟨h1, h2, -⟩)
  · exact .inl ⟨h1, h2, h3⟩
  · exact .inr ⟨h1, h2⟩
theorem back_any (a : Option Addr) (n c : Nat) (w : World) :
    Calls Try.prog 27 #[.slice a n c] w fun e w' => e = .returned (.func (.func 40) #[] #[.pointer (some ⟨w.heap.size, 0, none⟩)]) ∧ w' = w.alloc (.cells #[.slice a n c] 26) := by
  go_enter Try.func27, Try.ntmps27
  go_wp2
  go_ret
  exact ⟨rfl, rfl⟩

def AxB (a1 : NS → Nat → Act) (x : NS) (a' : Act) (W : World) : Prop := ∃ Bx, W.heap[Bx]? = some (.cells #[.int .i64 x.2.1, .int .i64 x.2.2] 31 (0, 0)) ∧ a' = a1 x Bx
theorem axB_own (a1 : NS → Nat → Act) (B : Nat) (x : NS) (a' : Act) : OwnFrom B (fun (_ : Unit) W => AxB a1 x a' W) := by
  rintro s W W' row ⟨Bx, h1, h2⟩ hg hr
  refine ⟨Bx, (hg.block Bx (Array.getElem?_eq_some_iff.1 h1).1 (fun e => ?_)).trans h1, h2⟩
  obtain ⟨_, o, h3, h4⟩ := hr Bx e.symm
  rw [h1] at h3; cases h3; cases h4

theorem down_seq (Bs b n₀ : Nat) (p : Option Addr) (L : List Sp) (w : World) (hBs : w.cell? ⟨Bs, 0, none⟩ = some (.pointer p)) (hR : RunsAt w (.pointer p) L) (hn0 : n₀ ≤ w.heap.size) (hb : b < w.heap.size) (hob : ∀ j, ownS w b = some j → j < w.heap.size) :
    SeqO 26 #[.pointer (some ⟨Bs, 0, none⟩)] encA (KS b n₀) (fun ys => ys = L.reverse) (fun pre => pre <+: L.reverse) w := by
  intro l J Jx W hW hJ hJx hY h0
  have gW : w.grownBy W none := ⟨hW.os, hW.tape, hW.output, hW.size, fun i hi _ => hW.block i hi⟩
  obtain ⟨Wy, hWy⟩ : ∃ Wy, Wy = W.alloc (.cells #[.func (.yield l) #[] #[]] 54) := ⟨_, rfl⟩
  have gy : W.grownBy Wy none := by rw [hWy]; exact World.grownBy_alloc _ _ none
  have yB : Boxed Wy W.heap.size 54 (.func (.yield l) #[] #[]) := by rw [hWy]; exact heap_alloc_new W _
  have cBs : (W.alloc (.cells #[.func (.yield l) #[] #[]] 54)).cell? ⟨Bs, 0, none⟩ = some (.pointer p) := by
    rw [← hWy]; exact (grown_trans gW gy).cell hBs (by simp)
  have li := hR Wy (grown_trans gW gy)
  have j0 := hJ [] W Wy none h0 gy (fun r e => by cases e)
  have sz0 := hW.size
  refine (callsIn_wide (n := 6)).1 ?_
  refine callsIn_of_wp_marks Try.func26 rfl trivial ?_ rfl
  simp only [Try.ntmps26, List.size_toArray, List.length_cons, List.length_nil, Nat.reduceAdd, Nat.reduceSub, Array.replicate_succ, Array.replicate_zero, List.push_toArray, List.append_toArray, List.nil_append, List.cons_append]
  gi_wp2_with fail
  rw [← hWy]
  clear hWy cBs
  refine ⟨trivial, ?_⟩
  refine (callsIn_wide.2 li).mono ?_
  rintro e W2 ⟨v, rfl, row, hf, g2⟩
  have o2 : ownS W2 b = ownS w b := ownS_same ((grown_trans (grown_trans gW gy) g2).block b hb (by simp))
  obtain ⟨a, cp, rfl, rd⟩ := rdK_row (b := b) row hf (fun k hk e => by rw [o2] at e; have := hob k e; have := hf k hk; have := gy.size; omega)
  clear li row hf
  gi_wp2_with fail
  refine ⟨trivial, ?_⟩
  refine (callsIn_wide.2 (back_any a L.length cp W2)).mono ?_
  rintro e W3 ⟨rfl, hW3⟩
  have g3 : W2.grownBy W3 none := by rw [hW3]; exact World.grownBy_alloc _ _ none
  have bB : Boxed W3 W2.heap.size 26 (.slice a L.length cp) := by rw [hW3]; exact heap_alloc_new W2 _
  have z1 := gy.size; have z2 := g2.size; have z3 := g3.size
  have rd3 := ((rd.kc (KS.grown (by omega) g3)).mono (show n₀ ≤ Wy.heap.size by omega))
  have o3 : ownS W3 b = ownS w b := (ownS_same (g3.block b (by omega) (by simp))).trans o2
  have y3 : Boxed W3 W.heap.size 54 (.func (.yield l) #[] #[]) := ((grown_trans g2 g3).block _ yB.lt (by simp)).trans yB
  have j3 : J [] W3 := hJ [] Wy W3 none j0 (grown_trans g2 g3) (fun r e => by cases e)
  have SEQ := back_seq W2.heap.size b n₀ cp a L W3 bB (by omega) (by omega) (fun e => by rw [o3] at e; have := hob _ e; omega) rd3
  clear hW3 rd rd3 j0 bB
  gi_wp2_with fail
  refine range_own (n := 6) (gf := 40) (lb := #[.pointer (some ⟨W2.heap.size, 0, none⟩)]) rfl (enters_of Try.func40 (by kernel_rfl) rfl)
    SEQ (fun h k => KS.trans h k) (fun X j o o' hj hl ho => KS.put X j o o' hl ho (by omega)) (fun _ => rfl)
    (fun (pre : List NS) X => J (pre.map Prod.snd) X ∧ KS b n₀ W3 X) (fun cd pre X => cd = .ret ∧ Jx (pre.map Prod.snd) X)
    (fun pre X Y row h g hr => ⟨hJ _ X Y row h.1 g (fun r e => ⟨by have := (hr r e).1; omega, (hr r e).2⟩), h.2.rcd (B := W3.heap.size) g hr (by omega) (by have := h.2.size; omega)⟩)
    (fun c pre X Y row h g hr => ⟨h.1, hJx _ X Y row h.2 g (fun r e => ⟨by have := (hr r e).1; omega, (hr r e).2⟩)⟩)
    ⟨j3, KS.refl _ _ _⟩
    (AxB (fun x Bx => { tmps := #[.func (.yield l) #[] #[], .pointer (some ⟨Bs, 0, none⟩), .pointer (some ⟨W.heap.size, 0, none⟩), undef, .pointer (some ⟨Bx, 0, none⟩), .pointer p, .slice a L.length cp, .func (.func 40) #[] #[.pointer (some ⟨W2.heap.size, 0, none⟩)], .int .i64 (x.1 : Int), .agg #[.int .i64 x.2.1, .int .i64 x.2.2], undef, undef, undef, undef], defers := [] }))
    (fun x a' => axB_own _ _ x a') ?assign ?body ?done ?stop
  case assign =>
    rintro l' m pre x X K ⟨hj, hk⟩ hK
    have gA := World.grownBy_alloc X (.cells #[.int .i64 x.2.1, .int .i64 x.2.2] 31) none
    have hK2 := hK _ _ ((KeepsOthers.alloc X (.cells #[.int .i64 x.2.1, .int .i64 x.2.2] 31)).from _) (KS.grown (by have := hk.size; omega) gA) ⟨hJ _ X _ none hj gA (fun r e => by cases e), hk.trans (KS.grown (by have := hk.size; omega) gA)⟩ ⟨_, heap_alloc_new X _, rfl⟩
    gi_wp2
    exact hK2
  case body =>
    rintro l' m pre x a' X _ _ ⟨hj, hk⟩ ⟨Bx, hx, rfl⟩ hp
    have y0 := (box2 hx).1
    have y1 := (box2 hx).2
    have yX : Boxed X W.heap.size 54 (.func (.yield l) #[] #[]) := hk.same _ _ (by omega) y3 rfl (fun e => by rw [o3] at e; have := hob _ e; omega)
    have cy := yX.cell
    obtain ⟨fn, tmps, assign, body, hy, hRR⟩ := hY (m - 1) (pre.map Prod.snd) x.2 X hj (by simpa using hp)
    have HRR := hide hRR
    have HK := hide hk
    clear hRR hk yX hx SEQ
    gi_wp2_with fail
    refine ⟨(fun h => by cases h), (unhide HRR).mono ?_⟩
    rintro e X3 (⟨rfl, hJ3, q3, k3⟩ | ⟨rfl, hJ3, k3⟩)
    · have F := hide (And.intro hJ3 (And.intro q3 k3))
      clear hJ3 k3 q3 HRR hy
      gi_wp2_with fail
      exact ⟨⟨(unhide F).2.2.size, fun k o h1 h2 h3 => (unhide F).2.2.same k o (by omega) h2 h3⟩, (unhide F).2.1, by rw [List.map_append]; exact (unhide F).1, (unhide HK).trans (unhide F).2.1⟩
    · have F := hide (And.intro hJ3 k3)
      clear hJ3 k3 HRR hy
      gi_wp2_with fail
      exact ⟨⟨(unhide F).2.size, fun k o h1 h2 h3 => (unhide F).2.same k o (by omega) h2 h3⟩, rfl, by rw [List.map_append]; exact (unhide F).1⟩
  case done =>
    rintro D ys X hD hys ⟨hj, hk⟩ hK
    gi_wp2_with fail
    refine ⟨by simp, .inl ⟨_, _, rfl, run_takeDeferred hK, ?_⟩⟩
    refine ⟨_, results_none rfl _ _ _, ⟨_, rfl⟩, .inl ?_⟩
    rw [← hys]
    exact ⟨_, rfl, hJ.putObj _ hj (by omega) hK rfl⟩
  case stop =>
    rintro D c pre X hD hpre ⟨rfl, hj⟩ hK
    gi_wp2_with fail
    refine ⟨by simp, .inl ⟨_, _, rfl, run_takeDeferred hK, ?_⟩⟩
    exact ⟨_, results_none rfl _ _ _, ⟨_, rfl⟩, .inr ⟨_, hpre, hJx.putObj _ hj (by omega) hK rfl⟩⟩
end Go.Proofs.Ytbcmeaebjngapaa
