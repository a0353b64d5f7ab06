/- Two wheels made since w0; time in two steps. -/
import Derived.Test.YtpkkgmcfificiaaDoorH2
namespace Go.Proofs.YtpkkgmcfificiaaDoor
open Go.RowKit Go.Shelf Go.Maps
set_option linter.unusedVariables false
set_option maxRecDepth 100000
set_option maxHeartbeats 1000000

abbrev intsV (l : List Int) : List Value := l.map (Value.int .i64)
abbrev idI (T : List Tm) : List Int := T.map fun p => (p.1 : Int)
theorem idT_ints (T : List Tm) : idT T = intsV (idI T) := by simp [idT, intsV, idI, List.map_map, Function.comp_def]

theorem app_zeroI (w : World) (base : Nat) (ty : TypeId) (v : Value) (n : Nat) (xs : List Value) (hown : w.ownsRow base 3 1 v n xs) (a : Option Addr) (c : Nat) :
    (Builtin.append_ #[30, 30] ty #[v, .slice a 0 c]).run Tryd.prog w = .ok v w := by
  obtain ⟨i, hi, hz0, hz1, hz2⟩ := info_parts Tryd.infoI
  rcases hown.2 with ⟨rfl, rfl⟩ | ⟨g, cap, cur, rfl, _, _, hnc, _⟩
  · cases a <;> simp [Builtin.append_, run_underlying Tryd.underlying30, sizeOf, typeInfo, hi, Builtin.lenOf, Builtin.firstCells, loadCells, loadCellsFrom]
  · cases a <;> simp [Builtin.append_, run_underlying Tryd.underlying30, sizeOf, typeInfo, hi, Builtin.lenOf, Builtin.firstCells, loadCells, loadCellsFrom, hnc, storeCells]

/-- A row of ints behind another one. -/
theorem app_ints (w : World) (base b2 : Nat) (ty : TypeId) (v : Value) (xs : List Int) (hown : w.ownsRow base 3 1 v xs.length (intsV xs)) (a : Option Addr) (c m : Nat) (ys : List Int) (hm : ys.length = m) (hu : w.ownsRow b2 3 1 (.slice a m c) m (intsV ys)) (h48 : xs.length + ys.length ≤ 1000000) (hbase : base ≤ w.heap.size) :
    ∃ a' c' w', (Builtin.append_ #[30, 30] ty #[v, .slice a m c]).run Tryd.prog w = .ok (.slice a' (xs ++ ys).length c') w' ∧ w'.ownsRow base 3 1 (.slice a' (xs ++ ys).length c') (xs ++ ys).length (intsV (xs ++ ys)) ∧ w.grownBy w' v.ownBlock := by
  have shape : ∀ {W : World} {v' : Value} {zs : List Int}, W.ownsRow base 3 1 v' zs.length (intsV zs) → ∃ a' c', v' = .slice a' zs.length c' := fun h => by
    rcases h.2 with ⟨e1, e2⟩ | ⟨g, cap, cur, e1, -⟩
    · exact ⟨none, 0, by rw [e1, e2]⟩
    · exact ⟨_, _, e1⟩
  by_cases hl : m = 0
  · subst hl
    have : ys = [] := List.eq_nil_of_length_eq_zero hm
    subst this
    rw [List.append_nil]
    obtain ⟨a', c', rfl⟩ := shape hown
    exact ⟨a', c', w, app_zeroI w base ty _ _ _ hown a c, hown, World.grownBy.refl w _⟩
  · obtain ⟨i, hi, hz0, hz1, hz2⟩ := info_parts Tryd.infoI
    rcases hu.2 with ⟨-, e2⟩ | ⟨g, cap, cur, e1, q1, q2, q3, q4, q5, q6⟩
    · omega
    · simp only [Value.slice.injEq] at e1
      obtain ⟨rfl, -, rfl⟩ := e1
      obtain ⟨v', w', h1, h2, h3, _⟩ := run_append_own (P := Tryd.prog) w base 30 ty 3 i (.int .i64 0) 1 8 Tryd.underlying30 hi hz0 hz1 hz2 rfl (by decide) v xs.length _ hown ⟨g, 0, none⟩ m c (intsV ys) (by simp [hm]) (fun j u hu => by
        have hj : j < m := by
          by_cases h : j < m
          · exact h
          · rw [List.getElem?_eq_none (by simp [hm]; omega)] at hu; cases hu
        rw [show (⟨g, 0, none⟩ : Addr).add j = ⟨g, j, none⟩ by simp [Addr.add]; exact fun e => e.symm]
        simp only [World.cell?, q2]
        rw [Nat.mul_one] at q6
        rw [← q6, List.getElem?_take, if_pos hj, Array.getElem?_toList] at hu
        exact hu) (fun u hu => by
        simp only [intsV, List.mem_map] at hu
        obtain ⟨y, _, rfl⟩ := hu
        rfl) (by unfold maxLen; omega) (by omega) hbase
      have e : intsV xs ++ intsV ys = intsV (xs ++ ys) := by simp [intsV]
      rw [e, show xs.length + m = (xs ++ ys).length by simp [hm]] at h2
      obtain ⟨a', c', rfl⟩ := shape h2
      exact ⟨a', c', w', h1, h2, h3⟩

theorem Wl.srt {B : Nat} {w : World} {S : Nat → Prop} {W c : Nat} {T : List Tm} (h : Wl B w S W c T) : T.Pairwise ltT := by
  obtain ⟨mb, L, h1, h2, h3⟩ := h.ex
  rw [← h2, List.pairwise_map]
  exact h1.srt
theorem Wl.c50 {B : Nat} {w : World} {S : Nat → Prop} {W c : Nat} {T : List Tm} (h : Wl B w S W c T) : c ≤ 2 ^ 50 := by
  obtain ⟨mb, L, h1, h2, h3⟩ := h.ex
  obtain ⟨fl, sl, sw⟩ := h1.sw
  exact sw.c50
theorem Wl.in_ {B : Nat} {w : World} {S : Nat → Prop} {W c : Nat} {T : List Tm} (h : Wl B w S W c T) : (∀ p ∈ T, p.1 < 4096 ∧ p.2 < 2 ^ 62) ∧ (T.map Prod.fst).Nodup ∧ T.length ≤ 4096 := by
  obtain ⟨mb, L, h1, h2, h3⟩ := h.ex
  obtain ⟨fl, sl, sw⟩ := h1.sw
  refine ⟨fun p hp => ?_, ?_, ?_⟩
  · rw [← h2] at hp
    obtain ⟨n, hn, rfl⟩ := List.mem_map.1 hp
    exact ⟨h1.idl n hn, sw.lt n hn⟩
  · rw [← h2, List.map_map]
    exact h1.ids
  · rw [← h2, List.length_map]
    exact h1.len

theorem due_split (s t : Nat) (hst : s ≤ t) : ∀ T : List Tm, T.Pairwise ltT → dueT T s ++ dueT (lateT T s) t = dueT T t
  | [], _ => rfl
  | p :: r, h => by
    rw [List.pairwise_cons] at h
    have ih := due_split s t hst r h.2
    by_cases c : s < p.2
    · have e1 : dueT r s = [] := by
        unfold dueT
        rw [List.filter_eq_nil_iff]
        intro q hq
        have := h.1 q hq
        unfold ltT at this
        have : s < q.2 := by omega
        simp [this]
      have e2 : dueT (p :: r) s = dueT r s := by unfold dueT; rw [List.filter_cons, if_neg (by simp [c])]
      have e3 : lateT (p :: r) s = p :: lateT r s := by unfold lateT; rw [List.filter_cons, if_pos (by simp [c])]
      rw [e2, e3, e1, List.nil_append]
      rw [e1, List.nil_append] at ih
      unfold dueT at ih ⊢
      rw [List.filter_cons, List.filter_cons, ih]
    · have c2 : ¬ t < p.2 := by omega
      have e2 : dueT (p :: r) s = p :: dueT r s := by unfold dueT; rw [List.filter_cons, if_pos (by simp [c])]
      have e3 : lateT (p :: r) s = lateT r s := by unfold lateT; rw [List.filter_cons, if_neg (by simp [c])]
      have e4 : dueT (p :: r) t = p :: dueT r t := by unfold dueT; rw [List.filter_cons, if_pos (by simp [c2])]
      rw [e2, e3, e4, List.cons_append, ih]
theorem late_late (s t : Nat) (hst : s ≤ t) (T : List Tm) : lateT (lateT T s) t = lateT T t := by
  unfold lateT
  rw [List.filter_filter]
  apply List.filter_congr
  intro p _
  by_cases c : t < p.2
  · have : s < p.2 := by omega
    simp [c, this]
  · simp [c]
theorem adv_adv (c : Nat) (a b : Int) (hc : c ≤ 2 ^ 50) (h : a ≤ b) : adv (adv c a) b = adv c b ∧ adv c a ≤ adv c b ∧ adv c b ≤ 2 ^ 50 := by
  unfold adv; omega

structure DQ (w0 w : World) (S1 : Nat → Prop) (W c : Nat) (T : List Tm) (S2 : Nat → Prop) (V d : Nat) (U : List Tm) : Prop where
  a : Wl w0.heap.size w S1 W c T
  b : Wl w0.heap.size w S2 V d U
  dis : ∀ g, S1 g → ¬ S2 g
  bel : Below w0.heap.size w0 w
  tb : Tb w

theorem DQ.swap {w0 w : World} {S1 S2 : Nat → Prop} {W c V d : Nat} {T U : List Tm} (h : DQ w0 w S1 W c T S2 V d U) : DQ w0 w S2 V d U S1 W c T := ⟨h.b, h.a, fun g h2 h1 => h.dis g h1 h2, h.bel, h.tb⟩
theorem DQ.grown {w0 w w' : World} {S1 S2 : Nat → Prop} {W c V d : Nat} {T U : List Tm} (h : DQ w0 w S1 W c T S2 V d U) (g : w.grownBy w' none) : DQ w0 w' S1 W c T S2 V d U :=
  ⟨h.a.grown g, h.b.grown g, h.dis, h.bel.trans ((grown_bel g).mono h.bel.size), h.tb.grown g⟩
/-- Another block written, made since. -/
theorem DQ.wrote {w0 w w' : World} {S1 S2 S : Nat → Prop} {W c V d : Nat} {T U : List Tm} (h : DQ w0 w S1 W c T S2 V d U) (h0 : 0 < w0.heap.size) (k : Kp S w w') (hS : ∀ g, S g → w0.heap.size ≤ g ∧ ¬ S1 g ∧ ¬ S2 g) : DQ w0 w' S1 W c T S2 V d U := by
  have b := k.bel (fun g hg => (hS g hg).1) h.bel.size
  exact ⟨h.a.other k (fun g h1 hs => (hS g hs).2.1 h1), h.b.other k (fun g h1 hs => (hS g hs).2.2 h1), h.dis, h.bel.trans b, h.tb.bel b h0⟩
theorem DQ.st {w0 w w' : World} {S1 S1' S2 : Nat → Prop} {W c c' V d : Nat} {T T' U : List Tm} (h : DQ w0 w S1 W c T S2 V d U) (h0 : 0 < w0.heap.size) (st : St w w' S1 S1') (hw : Wl w0.heap.size w' S1' W c' T') : DQ w0 w' S1' W c' T' S2 V d U := by
  have b := st.kp.bel (fun g hg => (h.a.lt g hg).1) h.bel.size
  refine ⟨hw, h.b.other st.kp (fun g h2 h1 => h.dis g h1 h2), fun g h1 h2 => ?_, h.bel.trans b, h.tb.bel b h0⟩
  rcases st.dn g h1 with h3 | h3
  · exact h.dis g h3 h2
  · have := (h.b.lt g h2).2; omega

theorem dq_arm {w0 w : World} {S1 S2 : Nat → Prop} {W c V d : Nat} {T U : List Tm} (h : DQ w0 w S1 W c T S2 V d U) (h0 : 0 < w0.heap.size) (i a : Int) : Calls Tryd.prog 21 #[ptr W, .int .i64 i, .int .i64 a] w fun e w' => e = .returned (.int .i64 (if armOk i a then 0 else 1)) ∧ ∃ S1', DQ w0 w' S1' W c (armT T i a) S2 V d U := by
  refine (wl_arm _ w S1 W c T h.a i a).mono ?_
  rintro e w' ⟨rfl, S', wl', st⟩
  exact ⟨rfl, S', h.st h0 st wl'⟩
theorem dq_cancel {w0 w : World} {S1 S2 : Nat → Prop} {W c V d : Nat} {T U : List Tm} (h : DQ w0 w S1 W c T S2 V d U) (h0 : 0 < w0.heap.size) (i : Int) (hw : wfI i) : Calls Tryd.prog 22 #[ptr W, .int .i64 i] w fun e w' => e = .returned (.int .i64 (if T.any (fun p => decide ((p.1 : Int) = i)) then 0 else 4)) ∧ ∃ S1', DQ w0 w' S1' W c (delT T i) S2 V d U := by
  refine (wl_cancel _ w S1 W c T h.a i hw).mono ?_
  rintro e w' ⟨rfl, S', wl', st⟩
  exact ⟨rfl, S', h.st h0 st wl'⟩
theorem dq_adv {w0 w : World} {S1 S2 : Nat → Prop} {W c V d : Nat} {T U : List Tm} (h : DQ w0 w S1 W c T S2 V d U) (h0 : 0 < w0.heap.size) (now : Int) : Calls Tryd.prog 13 #[ptr W, .int .i64 now] w fun e w' => ∃ a m c', e = .returned (.slice a m c') ∧ Hid (w'.ownsRow w.heap.size 3 1 (.slice a m c') m (intsV (idI (dueT T (adv c now)))) ∧ DQ w0 w' S1 W (adv c now) (lateT T (adv c now)) S2 V d U ∧ Kp S1 w w') := by
  refine (wl_adv _ w S1 W c T h.a h.tb now).mono ?_
  rintro e w' ⟨a, m, c', rfl, hm, ro, wl', kp⟩
  rw [idT_ints] at ro
  exact ⟨a, m, c', rfl, ro, h.st h0 ⟨kp, fun _ hg => hg, fun _ hg => .inl hg⟩ wl', kp⟩
theorem dq_next {w0 w : World} {S1 S2 : Nat → Prop} {W c V d : Nat} {T U : List Tm} (h : DQ w0 w S1 W c T S2 V d U) : Calls Tryd.prog 19 #[ptr W] w fun e w' => e = .returned (.int .i64 (nextT T : Nat)) ∧ DQ w0 w' S1 W c T S2 V d U ∧ w.grownBy w' none := by
  refine (wl_next _ w S1 W c T h.a h.tb).mono ?_
  rintro e w' ⟨rfl, g⟩
  exact ⟨rfl, h.grown g, g⟩

/-- Two wheels laid by one script. -/
theorem two_laid (now : Int) (a : Option Addr) (len cap : Nat) (ol : List OpD) (w0 w1 w2 w3 : World) (h0 : 0 < w0.heap.size) (ht : Tb w1) (g1 : w0.grownBy w1 none) (W V : Nat) (hl : ol.length = len) (l1 : LI w0.heap.size w1 now ol W len w2) (l2 : LI w0.heap.size w2 now ol V len w3) :
    ∃ S1 S2, DQ w0 w3 S1 W (laidF now ol).1 (laidF now ol).2 S2 V (laidF now ol).1 (laidF now ol).2 := by
  obtain ⟨S1, wl1, h1⟩ := l1.wl
  obtain ⟨S2, wl2, h2⟩ := l2.wl
  rw [List.take_of_length_le (by omega)] at wl1 wl2
  have g2 := below_grown l2.bel
  have hb : Below w0.heap.size w0 w3 := (grown_bel g1).trans ((l1.bel.mono g1.size).trans (l2.bel.mono (Nat.le_trans g1.size l1.bel.size)))
  refine ⟨S1, S2, wl1.grown g2, wl2, fun g s1 s2 => ?_, hb, ?_⟩
  · have := h2 g s2
    have := (wl1.lt g s1).2
    omega
  · exact (ht.bel l1.bel ht.lt).bel l2.bel (Nat.lt_of_lt_of_le ht.lt l1.bel.size)
end Go.Proofs.YtpkkgmcfificiaaDoor
