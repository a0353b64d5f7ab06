/- shown. -/
import Derived.Test.YtpkkgmcfificiaaDoorH1
namespace Go.Proofs.YtpkkgmcfificiaaDoor
open Go.RowKit Go.Shelf Go.Maps
set_option linter.unusedVariables false
set_option maxRecDepth 100000
set_option maxHeartbeats 1000000

/-- A wheel made since w0, and nothing else written. -/
structure QI (w0 w : World) (W c : Nat) (T : List Tm) : Prop where
  wl : ∃ S, Wl w0.heap.size w S W c T
  bel : Below w0.heap.size w0 w
  tb : Tb w

theorem QI.grown {w0 w w' : World} {W c : Nat} {T : List Tm} (h : QI w0 w W c T) (g : w.grownBy w' none) : QI w0 w' W c T := by
  obtain ⟨S, wl⟩ := h.wl
  exact ⟨⟨S, wl.grown g⟩, h.bel.trans ((grown_bel g).mono h.bel.size), h.tb.grown g⟩
theorem QI.st {w0 w w' : World} {W c c' : Nat} {T T' : List Tm} (h : QI w0 w W c T) (h0 : 0 < w0.heap.size) {S S' : Nat → Prop} (hS : ∀ g, S g → w0.heap.size ≤ g) (k : Kp S w w') (hw : Wl w0.heap.size w' S' W c' T') : QI w0 w' W c' T' := by
  have b := k.bel hS h.bel.size
  exact ⟨⟨S', hw⟩, h.bel.trans b, h.tb.bel b h0⟩

theorem qi_new (now : Int) (w0 w : World) (ht : Tb w) (hb : Below w0.heap.size w0 w) : Calls Tryd.prog 8 #[.int .i64 now] w fun e w' => ∃ W, e = .returned (ptr W) ∧ QI w0 w' W (clk now) [] := by
  refine (wl_new w0.heap.size now w hb.size).mono ?_
  rintro e w' ⟨W, rfl, wl, g⟩
  exact ⟨W, rfl, ⟨_, wl⟩, hb.trans ((grown_bel g).mono hb.size), ht.grown g⟩
theorem qi_arm {w0 w : World} {W c : Nat} {T : List Tm} (h : QI w0 w W c T) (h0 : 0 < w0.heap.size) (i a : Int) : Calls Tryd.prog 21 #[ptr W, .int .i64 i, .int .i64 a] w fun e w' => e = .returned (.int .i64 (if armOk i a then 0 else 1)) ∧ QI w0 w' W c (armT T i a) := by
  obtain ⟨S, wl⟩ := h.wl
  refine (wl_arm _ w S W c T wl i a).mono ?_
  rintro e w' ⟨rfl, S', wl', st⟩
  exact ⟨rfl, h.st h0 (fun g hg => (wl.lt g hg).1) st.kp wl'⟩
theorem qi_cancel {w0 w : World} {W c : Nat} {T : List Tm} (h : QI w0 w W c T) (h0 : 0 < w0.heap.size) (i : Int) (hw : wfI i) : Calls Tryd.prog 22 #[ptr W, .int .i64 i] w fun e w' => e = .returned (.int .i64 (if T.any (fun p => decide ((p.1 : Int) = i)) then 0 else 4)) ∧ QI w0 w' W c (delT T i) := by
  obtain ⟨S, wl⟩ := h.wl
  refine (wl_cancel _ w S W c T wl i hw).mono ?_
  rintro e w' ⟨rfl, S', wl', st⟩
  exact ⟨rfl, h.st h0 (fun g hg => (wl.lt g hg).1) st.kp wl'⟩
def AdvQ (w0 w : World) (W t : Nat) (T : List Tm) (e : Ending) (w' : World) : Prop :=
  ∃ (a : Option Addr) (m c' : Nat), e = .returned (.slice a m c') ∧ (dueT T t).length = m ∧ w'.ownsRow w.heap.size 3 1 (.slice a m c') m (idT (dueT T t)) ∧ QI w0 w' W t (lateT T t)
theorem qi_adv {w0 w : World} {W c : Nat} {T : List Tm} (h : QI w0 w W c T) (h0 : 0 < w0.heap.size) (now : Int) : Calls Tryd.prog 13 #[ptr W, .int .i64 now] w (AdvQ w0 w W (adv c now) T) := by
  obtain ⟨S, wl⟩ := h.wl
  refine (wl_adv _ w S W c T wl h.tb now).mono ?_
  rintro e w' ⟨a, m, c', rfl, hm, ro, wl', kp⟩
  exact ⟨a, m, c', rfl, hm, ro, h.st h0 (fun g hg => (wl.lt g hg).1) kp wl'⟩
theorem qi_next {w0 w : World} {W c : Nat} {T : List Tm} (h : QI w0 w W c T) : Calls Tryd.prog 19 #[ptr W] w fun e w' => e = .returned (.int .i64 (nextT T : Nat)) ∧ QI w0 w' W c T := by
  obtain ⟨S, wl⟩ := h.wl
  refine (wl_next _ w S W c T wl h.tb).mono ?_
  rintro e w' ⟨rfl, g⟩
  exact ⟨rfl, h.grown g⟩
theorem qi_len {w0 w : World} {W c : Nat} {T : List Tm} (h : QI w0 w W c T) : Calls Tryd.prog 18 #[ptr W] w fun e w' => e = .returned (.int .i64 (T.length : Nat)) ∧ w' = w := by
  obtain ⟨S, wl⟩ := h.wl
  exact wl_len _ w S W c T wl

theorem shown_any (w : World) (ht : Tb w) : Calls Tryd.prog 7 #[] w fun e w' => e = .returned (.bool true) ∧ w.grownBy w' none := by
  have h0 := ht.lt
  have hn := qi_new 100 w w ht (Below.refl _ _)
  clear ht
  go_enter Tryd.func7, Tryd.ntmps7
  go_wp2_with fail
  refine hn.mono ?_
  rintro e W1 ⟨W, rfl, q1⟩
  have n1 : Calls Tryd.prog 19 #[ptr W] W1 fun e w' => e = .returned (.int .i64 4611686018427387904) ∧ QI w w' W (clk 100) [] := qi_next q1
  clear hn q1
  go_wp2_with fail
  refine n1.mono ?_
  rintro e W2 ⟨rfl, q2⟩
  have n2 : Calls Tryd.prog 21 #[ptr W, .int .i64 7, .int .i64 170] W2 fun e w' => e = .returned (.int .i64 0) ∧ QI w w' W (clk 100) [(7, 170)] := qi_arm q2 h0 7 170
  clear n1 q2
  go_wp2_with fail
  refine n2.mono ?_
  rintro e W3 ⟨rfl, q3⟩
  have n3 : Calls Tryd.prog 21 #[ptr W, .int .i64 5, .int .i64 163] W3 fun e w' => e = .returned (.int .i64 0) ∧ QI w w' W (clk 100) [(5, 163), (7, 170)] := qi_arm q3 h0 5 163
  clear n2 q3
  go_wp2_with fail
  refine n3.mono ?_
  rintro e W4 ⟨rfl, q4⟩
  have n4 : Calls Tryd.prog 21 #[ptr W, .int .i64 3, .int .i64 40] W4 fun e w' => e = .returned (.int .i64 0) ∧ QI w w' W (clk 100) [(3, 40), (5, 163), (7, 170)] := qi_arm q4 h0 3 40
  clear n3 q4
  go_wp2_with fail
  refine n4.mono ?_
  rintro e W5 ⟨rfl, q5⟩
  have n5 : Calls Tryd.prog 19 #[ptr W] W5 fun e w' => e = .returned (.int .i64 40) ∧ QI w w' W (clk 100) [(3, 40), (5, 163), (7, 170)] := qi_next q5
  clear n4 q5
  go_wp2_with fail
  refine n5.mono ?_
  rintro e W6 ⟨rfl, q6⟩
  have n6 : Calls Tryd.prog 13 #[ptr W, .int .i64 163] W6 fun e w' => ∃ g c', e = .returned (.slice (some ⟨g, 0, none⟩) 2 c') ∧ 2 ≤ c' ∧ c' ≤ 9223372036854775807 ∧ w'.cell? ⟨g, 0, none⟩ = some (.int .i64 3) ∧ w'.cell? ⟨g, 1, none⟩ = some (.int .i64 5) ∧ QI w w' W 163 [(7, 170)] := by
    refine (qi_adv q6 h0 163).mono ?_
    rintro e w' ⟨a, m, c', rfl, hm, ro, q⟩
    have hm2 : m = 2 := hm.symm.trans rfl
    subst hm2
    have ro2 : w'.ownsRow W6.heap.size 3 1 (.slice a 2 c') 2 (([3, 5] : List Int).map (Value.int .i64)) := ro
    obtain ⟨rd, -, hc⟩ := rdI_row ro2
    rcases rd with h | ⟨g, rfl, hcell⟩
    · cases h
    · exact ⟨g, c', rfl, (hc (by omega)).1, (hc (by omega)).2, hcell 0 3 rfl, hcell 1 5 rfl, q⟩
  clear n5 q6
  go_wp2_with fail
  refine n6.mono ?_
  rintro e W7 ⟨g, c', rfl, k1, k2, x0, x1, q7⟩
  have n7 : Calls Tryd.prog 18 #[ptr W] W7 fun e w' => e = .returned (.int .i64 1) ∧ w' = W7 := qi_len q7
  have E := hide (below_grown q7.bel)
  clear n6 q7
  go_wp2_with fail
  refine n7.mono ?_
  rintro e W8 ⟨rfl, hw⟩
  replace hw := hw.symm
  subst hw
  go_wp2_with fail
  go_ret
  exact ⟨rfl, unhide E⟩
end Go.Proofs.YtpkkgmcfificiaaDoor
