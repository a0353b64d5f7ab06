/- The document's wheel: Cancel. -/
import Derived.Test.YtpkkgmcfificiaaDoorD7B
import Derived.Test.YtpkkgmcfificiaaDoorH4
namespace Go.Proofs.YtpkkgmcfificiaaDoor
open Go.RowKit Go.Shelf Go.Maps
set_option linter.unusedVariables false
set_option maxRecDepth 100000
set_option maxHeartbeats 1000000

theorem place_only {T : List Tm} (hn : (T.map Prod.fst).Nodup) {i : Int} {j : Nat} {p : Tm} (hp : T[j]? = some p) (hk : placeT T i < T.length) : ((p.1 : Int) = i ↔ j = placeT T i) := by
  constructor
  · intro e
    by_cases c : j < placeT T i
    · exact absurd e (place_no i T j p c hp)
    · by_cases d : j = placeT T i
      · exact d
      · obtain ⟨q, hq⟩ : ∃ q, T[placeT T i]? = some q := ⟨T[placeT T i], by simp⟩
        have eq := place_yes i T q hq
        have hj := (List.getElem?_eq_some_iff.1 hp).1
        have := (List.pairwise_iff_getElem.1 hn) (placeT T i) j (by simpa using hk) (by simpa using hj) (by omega)
        rw [List.getElem_map, List.getElem_map] at this
        have e1 : T[placeT T i] = q := by have := List.getElem?_eq_some_iff.1 hq; exact this.2
        have e2 : T[j] = p := by have := List.getElem?_eq_some_iff.1 hp; exact this.2
        rw [e1, e2] at this
        exact absurd (by omega : q.1 = p.1) this
  · intro e
    subst e
    exact place_yes i T p hp

theorem del_take {T : List Tm} {i : Int} {j : Nat} {p : Tm} (hp : T[j]? = some p) : delT (T.take (j + 1)) i = if (p.1 : Int) = i then delT (T.take j) i else delT (T.take j) i ++ [p] := by
  unfold delT
  rw [List.take_add_one, hp, List.filter_append]
  by_cases c : (p.1 : Int) = i
  · rw [if_pos c]; simp [c]
  · rw [if_neg c]; simp [c]

theorem any_find {T : List Tm} {i : Int} : T.any (fun p => decide ((p.1 : Int) = i)) = decide (placeT T i < T.length) := by
  by_cases h : placeT T i < T.length
  · rw [decide_eq_true h, List.any_eq_true]
    exact ⟨T[placeT T i], by simp, by simpa using place_yes i T _ (by simp)⟩
  · rw [decide_eq_false h, List.any_eq_false]
    intro p hp
    obtain ⟨j, hj⟩ := List.getElem?_of_mem hp
    have hl := (List.getElem?_eq_some_iff.1 hj).1
    have := place_no i T j p (by omega) hj
    simpa using this
theorem del_none {T : List Tm} {i : Int} (h : ¬ placeT T i < T.length) : delT T i = T := by
  unfold delT
  rw [List.filter_eq_self]
  intro p hp
  obtain ⟨j, hj⟩ := List.getElem?_of_mem hp
  have hl := (List.getElem?_eq_some_iff.1 hj).1
  have := place_no i T j p (by omega) hj
  simpa using this

theorem RW.st {B : Nat} {w : World} {Q : Nat → Prop} {R c : Nat} {T : List Tm} (h : RW B w Q R c T) : RSt B w Q R c T w := ⟨Q, h, Kp.refl _ _, fun _ hg => hg, fun _ hg => .inl hg⟩

theorem rcancel_any {B : Nat} {w : World} {Q : Nat → Prop} {R c : Nat} {T : List Tm} (h : RW B w Q R c T) (hn : (T.map Prod.fst).Nodup) (hl : T.length ≤ 4096) (i : Int) :
    Calls Tryd.prog 26 #[ptr R, .int .i64 i] w fun e w' => e = .returned (.int .i64 (if T.any (fun p => decide ((p.1 : Int) = i)) then 0 else 4)) ∧ RSt B w Q R c (delT T i) w' := by
  have f := find_any h i
  obtain ⟨a, cp, b, r⟩ := h.ex
  have cap := r.cap
  have x1 := b.cell 1 (.slice a T.length cp) rfl
  rw [any_find]
  by_cases hk : placeT T i < T.length
  · have e1 : findT T i = (placeT T i : Int) := by unfold findT; rw [if_pos hk]
    rw [e1] at f
    rw [decide_eq_true hk, if_pos rfl]
    obtain ⟨g, off, rfl, hgn, hq, hgl, hc⟩ := r.at_.resolve_left (fun e => by subst e; simp at hk)
    have HC := hide hc
    have BB := hide b
    have HH := hide h
    have PO := hide (fun (j : Nat) (p : Tm) (hp : T[j]? = some p) => place_only hn hp hk)
    generalize placeT T i = k at *
    have kN : ¬ (k : Int) < 0 := by omega
    have lI : ¬ (9223372036854775807 : Int) < (T.length : Int) := by omega
    clear b r h hc e1 hn
    go_enter Tryd.func26, Tryd.ntmps26
    go_wp2_with fail
    refine f.mono ?_
    rintro e w' ⟨rfl, hw⟩
    replace hw := hw.symm
    subst hw
    clear f
    go_wp2_with fail
    go_loopw [6, 7] (fun lv iv wr => ∃ (l1 : Value) (j : Nat), j ≤ T.length ∧ Hid (l1 = lv) ∧ iv = .int .i64 j ∧ Hid (TL w wr l1 (delT (T.take j) i))) (fun _ iv _ => T.length - (intOf iv).toNat)
    case atStart => exact ⟨_, 0, Nat.zero_le _, rfl, rfl, TL.nil w⟩
    case round =>
      obtain ⟨l1, j, hj, el, rfl, H⟩ := hrel
      have el := unhide el
      subst el
      have gr := (unhide H).gr
      have z1 := gr.cell x1 (by simp)
      by_cases hlt : j < T.length
      · have jN : (j : Int) < (T.length : Int) := by omega
        obtain ⟨p, hp⟩ : ∃ p, T[j]? = some p := ⟨T[j], by simp⟩
        have dt := del_take (i := i) hp
        by_cases hjk : j = k
        · have t : ((j : Int) != (k : Int)) = false := by simp [hjk]
          rw [if_pos ((unhide PO j p hp).2 hjk)] at dt
          have E : Hid (TL w wr l1 (delT (T.take (j + 1)) i)) := by rw [dt]; exact unhide H
          clear hjk dt hp gr H
          go_wp2_with fail
          exact ⟨⟨l1, j + 1, by omega, rfl, by go_num, E⟩, by simp [intOf]; omega⟩
        · have t : ((j : Int) != (k : Int)) = true := by simp; omega
          rw [if_neg (fun e => hjk ((unhide PO j p hp).1 e))] at dt
          have c0 := gr.cell (unhide HC j p hp).1 (by simp)
          have c1 := gr.cell (unhide HC j p hp).2 (by simp)
          have few : (delT (T.take j) i).length ≤ 1000000 := Nat.le_trans (List.length_filter_le _ _) (by rw [List.length_take]; omega)
          obtain ⟨g', c', w', hrun, TT⟩ := (unhide H).push p few
          rw [← dt] at TT
          have R1 := hide hrun; have E := hide TT
          clear hjk dt hp gr H hrun TT few
          generalize (delT (T.take j) i).length = L at *
          go_wp2_with (at_builtin; refine wpList_append_runQ _ rfl _ _ 60 60 rfl _ _ rfl rfl (unhide R1) ?_)
          exact ⟨⟨_, j + 1, by omega, rfl, by go_num, E⟩, by simp [intOf]; omega⟩
      · have jN : ¬ (j : Int) < (T.length : Int) := by omega
        obtain ⟨al, cl, rfl⟩ := (unhide H).shape
        have E := hide (rw_store (unhide HH) (unhide H))
        rw [List.take_of_length_le (by omega)] at E ⊢
        have th := ((unhide BB).grown gr).thaw 1
        clear gr H
        go_wp2_with fail
        go_ret
        exact ⟨rfl, unhide E⟩
  · have e1 : findT T i = -1 := by unfold findT; rw [if_neg hk]
    rw [e1] at f
    rw [decide_eq_false hk, if_neg (by simp), del_none hk]
    have E := hide h.st
    clear b r h e1 hn
    go_enter Tryd.func26, Tryd.ntmps26
    go_wp2_with fail
    refine f.mono ?_
    rintro e w' ⟨rfl, hw⟩
    replace hw := hw.symm
    subst hw
    go_wp2_with fail
    go_ret
    exact ⟨rfl, unhide E⟩
end Go.Proofs.YtpkkgmcfificiaaDoor
