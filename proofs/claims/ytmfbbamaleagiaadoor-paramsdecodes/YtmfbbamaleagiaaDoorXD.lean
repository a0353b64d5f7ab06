/- The reader: done, sized, number, value. -/
import Derived.Test.YtmfbbamaleagiaaDoorXE
import Derived.Maps.OwnSet
import Derived.Deep.RegionHeld3
import Derived.Deep.QuietTactic
namespace Go.Proofs.YtmfbbamaleagiaaDoor
open Go.RowKit Go.Maps
set_option linter.unusedVariables false
set_option maxRecDepth 100000
set_option maxHeartbeats 1000000

/-- The numbers that came, as the map has them. -/
def camD (cm : List Int) : DataW Unit := Maps.setOf (.agg []) (cm.map (Lit.int .u64))
theorem keyU : Keyed Tryd.prog 52 := int_keyed Tryd.underlying52
theorem camD_has (cm : List Int) (n : Int) : Maps.has (camD cm) (.int .u64 n) = cm.contains n := by
  unfold camD
  rw [has_setOf _ _ _ (fun x hx => by simp at hx; obtain ⟨y, _, rfl⟩ := hx; trivial)]
  induction cm with
  | nil => rfl
  | cons x r ih =>
    simp only [List.map_cons, List.any_cons, List.contains_cons, ih]
    congr 1
    by_cases e : x = n
    · subst e; simp [Lit.sameKey]
    · have e2 : ¬ n = x := fun q => e q.symm
      simp [Lit.sameKey, e, e2]

/-- What holds while Decode reads: the reader, its map, the values; the bytes that came in, from w0. -/
structure DI (w0 wr : World) (g bm lv : Nat) (a : Option Addr) (l : List Int) (c k : Nat) (cm : List Int) (vs : Ps) : Prop where
  blk : Blk wr g #[.slice a l.length c, .int .i64 k, .map (some bm)] 85
  vals : Blk wr lv vs.cs 56
  map : wr.ownsMap Tryd.prog 52 (unitElem (H := Unit)) bm cm.length (camD cm)
  rd0 : Rd w0 a l
  cap : l.length ≤ c
  max : c ≤ maxLen
  at_ : k ≤ l.length
  low : w0.heap.size ≤ g ∧ w0.heap.size ≤ bm ∧ w0.heap.size ≤ lv
  ne : g ≠ lv
  gr : w0.grownBy wr none
  few : cm.length ≤ k
  pl : ∀ x, a = some x → 0 < c → ∃ b o, x = ⟨b, o, none⟩

section
variable {w0 wr : World} {g bm lv : Nat} {a : Option Addr} {l : List Int} {c k : Nat} {cm : List Int} {vs : Ps}

theorem DI.rd (h : DI w0 wr g bm lv a l c k cm vs) : Rd wr a l := rd_below h.rd0 (grown_bel h.gr)
theorem DI.grown {W : World} (h : DI w0 wr g bm lv a l c k cm vs) (gg : wr.grownBy W none) : DI w0 W g bm lv a l c k cm vs :=
  ⟨h.blk.grown gg, h.vals.grown gg, h.map.kept gg (by simp), h.rd0, h.cap, h.max, h.at_, h.low, h.ne, h.gr.trans gg, h.few, h.pl⟩
theorem DI.drewN (h : DI w0 wr g bm lv a l c k cm vs) (q : Nat) : DI w0 (wr.drewN q) g bm lv a l c k cm vs := h.grown (grown_drewN (World.grownBy.refl wr none))
theorem DI.gm (h : DI w0 wr g bm lv a l c k cm vs) : bm ≠ g ∧ bm ≠ lv := by
  obtain ⟨es, clock, hb, -⟩ := h.map
  have h1 := h.blk; have h2 := h.vals
  unfold Blk at h1 h2
  constructor
  · intro e; subst e; rw [hb] at h1; cases h1
  · intro e; subst e; rw [hb] at h2; cases h2
theorem DI.seek (h : DI w0 wr g bm lv a l c k cm vs) (k' : Nat) (hk : k' ≤ l.length) (hf : cm.length ≤ k') : DI w0 (wr.setCell ⟨g, 1, none⟩ (.int .i64 k')) g bm lv a l c k' cm vs :=
  ⟨h.blk.setC 1 _, h.vals.setO _ _ _ h.ne, h.map.setCell (a := ⟨g, 1, none⟩) h.gm.1 _, h.rd0, h.cap, h.max, hk, h.low, h.ne, grown_set h.gr _ _ _ h.low.1, hf, h.pl⟩
theorem DI.turned {W : World} {cm' : List Int} (h : DI w0 wr g bm lv a l c k cm vs) (hm : W.ownsMap Tryd.prog 52 (unitElem (H := Unit)) bm cm'.length (camD cm')) (ht : wr.mapTurned W bm) (hf : cm'.length ≤ k) : DI w0 W g bm lv a l c k cm' vs := by
  have gg := ht.grown
  refine ⟨h.blk.far gg (Ne.symm h.gm.1), h.vals.far gg (Ne.symm h.gm.2), hm, h.rd0, h.cap, h.max, h.at_, h.low, h.ne, ⟨gg.os.trans h.gr.os, gg.tape.trans h.gr.tape, gg.output.trans h.gr.output, Nat.le_trans h.gr.size gg.size, fun i hi _ => ?_⟩, hf, h.pl⟩
  rw [gg.block i (Nat.lt_of_lt_of_le hi h.gr.size) (by have := h.low.2.1; simp; omega)]
  exact h.gr.block i hi (by simp)

theorem DI.done (h : DI w0 wr g bm lv a l c k cm vs) : Calls Tryd.prog 39 #[.pointer (some ⟨g, 0, none⟩)] wr fun e w' => e = .returned (.bool (decide (k = l.length))) ∧ ∃ q, w' = wr.drewN q := by
  have c0 := h.blk.cell 0 (.slice a l.length c) rfl
  have c1 := h.blk.cell 1 (.int .i64 k) rfl
  clear h
  have e : ((k : Int) == (l.length : Int)) = decide (k = l.length) := by
    by_cases hk : k = l.length
    · simp [hk]
    · have : ¬ (k : Int) = (l.length : Int) := by omega
      simp [hk, this]
  have HE := hide e
  clear e
  generalize l.length = n at *
  go_enter Tryd.func39, Tryd.ntmps39
  go_wp2_with fail
  go_quiet (fail)
  go_wp2
  go_ret
  exact ⟨by rw [← unhide HE]; rfl, _, rfl⟩

theorem DI.sized_ok (h : DI w0 wr g bm lv a l c k cm vs) (t : Int × Int × Int) (ht : getF l k = t) (h0 : t.2.2 = 0) (hp : (k : Int) ≤ t.2.1 ∧ t.2.1 ≤ l.length) :
    Calls Tryd.prog 54 #[.pointer (some ⟨g, 0, none⟩)] wr fun e w' => e = .returned (.tuple #[.int .u64 t.1, .int .i64 0]) ∧ DI w0 w' g bm lv a l c t.2.1.toNat cm vs := by
  have hgt := fun q => get_any a l c k (wr.drewN q) (Rd.drew h.rd q) h.cap h.max
  rw [ht] at hgt
  unfold tup3 at hgt
  have c0 := h.blk.cell 0 (.slice a l.length c) rfl
  have c1 := h.blk.cell 1 (.int .i64 k) rfl
  have th := h.blk.thaws
  have F : Hid (∀ q, DI w0 ((wr.drewN q).setCell ⟨g, 1, none⟩ (.int .i64 t.2.1)) g bm lv a l c t.2.1.toNat cm vs) := by
    intro q
    have hq := (h.drewN q).seek t.2.1.toNat (by omega) (by have := h.few; omega)
    rw [show ((t.2.1.toNat : Nat) : Int) = t.2.1 from Int.toNat_of_nonneg (by omega)] at hq
    exact hq
  rw [h0] at hgt
  obtain ⟨v, e, x⟩ := t
  simp only at *
  clear h ht hp h0
  generalize l.length = n at *
  go_enter Tryd.func54, Tryd.ntmps54
  go_wp2_with fail
  go_region_held3 (fun W => W.cell? ⟨g, 0, none⟩ = some (.slice a n c) ∧ W.cell? ⟨g, 1, none⟩ = some (.int .i64 k) ∧ ∀ j, W.frozen? ⟨g, j, none⟩ = false) (go_keep) (first | (go_at_call 50; refine (hgt 1).mono ?_; rintro e W1 ⟨rfl, q, hq⟩; subst hq))
  go_wp2
  go_ret2
  exact ⟨rfl, unhide F _⟩
theorem DI.sized_no (h : DI w0 wr g bm lv a l c k cm vs) (h0 : (getF l k).2.2 ≠ 0) :
    Calls Tryd.prog 54 #[.pointer (some ⟨g, 0, none⟩)] wr fun e w' => e = .returned (.tuple #[.int .u64 0, .int .i64 60]) ∧ DI w0 w' g bm lv a l c k cm vs := by
  have hgt := fun q => get_any a l c k (wr.drewN q) (Rd.drew h.rd q) h.cap h.max
  unfold tup3 at hgt
  have c0 := h.blk.cell 0 (.slice a l.length c) rfl
  have c1 := h.blk.cell 1 (.int .i64 k) rfl
  have F : Hid (∀ q, DI w0 (wr.drewN q) g bm lv a l c k cm vs) := fun q => h.drewN q
  have hd : ((getF l k).2.2 != 0) = true := by simpa using h0
  generalize getF l k = t at *
  obtain ⟨v, e, x⟩ := t
  simp only at *
  clear h h0
  generalize l.length = n at *
  go_enter Tryd.func54, Tryd.ntmps54
  go_wp2_with fail
  go_region_held3 (fun W => W.cell? ⟨g, 0, none⟩ = some (.slice a n c) ∧ W.cell? ⟨g, 1, none⟩ = some (.int .i64 k)) (go_keep) (first | (go_at_call 50; refine (hgt 1).mono ?_; rintro e W1 ⟨rfl, q, hq⟩; subst hq))
  go_wp2
  go_ret2
  exact ⟨rfl, unhide F _⟩

theorem wf64 {v : Int} (h0 : 0 ≤ v) (h1 : v < 18446744073709551616) : (Lit.int .u64 v).wf = true := WalkArith.wf_u64 ⟨h0, by omega⟩
theorem zeroUnit (w : World) : (zeroValue 96).run Tryd.prog w = .ok (.agg #[]) w := by kernel_rfl

/-- number: it comes the first time. -/
theorem DI.number_ok (h : DI w0 wr g bm lv a l c k cm vs) (t : Int × Int × Int) (ht : getF l k = t) (h0 : t.2.2 = 0) (hp : (k : Int) < t.2.1 ∧ t.2.1 ≤ l.length) (hv : 0 ≤ t.1 ∧ t.1 < 18446744073709551616) (hn : cm.contains t.1 = false) :
    Calls Tryd.prog 47 #[.pointer (some ⟨g, 0, none⟩)] wr fun e w' => e = .returned (.tuple #[.int .u64 t.1, .int .i64 0]) ∧ DI w0 w' g bm lv a l c t.2.1.toNat (cm ++ [t.1]) vs := by
  have hs := h.sized_ok t ht h0 (by omega)
  have hf := h.few
  have hk := h.at_
  have hkey : keyOf Tryd.prog 52 (.int .u64 t.1) = some (.int .u64 t.1) := keyOf_int_mk Tryd.underlying52 (wf64 hv.1 hv.2)
  have hmx := h.max; have hcp := h.cap
  unfold maxLen at hmx
  clear h
  have hnf : Maps.has (camD cm) (.int .u64 t.1) = false := by rw [camD_has]; exact hn
  have hcs : camD (cm ++ [t.1]) = (camD cm).put (.int .u64 t.1) (.agg []) := by unfold camD; rw [List.map_append]; exact setOf_snoc _ _ _
  have HCS := hide hcs
  clear hcs hn
  go_enter Tryd.func47, Tryd.ntmps47
  go_wp2_with (first
    | (go_at_call 54; refine hs.mono ?_; rintro e W1 ⟨rfl, D1⟩; have c2 := D1.blk.cell 2 (.map (some bm)) rfl; have c2a := (D1.blk.alloc (.cells #[] 96)).cell 2 (.map (some bm)) rfl; have HD := hide D1; have mp := D1.map; clear D1 hs)
    | (at_lookup; refine wpList_lookup_own_unit _ rfl _ _ 83 rfl 52 96 keyU Tryd.underlying83 (zeroUnit _) bm _ _ rfl mp _ _ rfl hkey ?_; rw [hnf])
    | (at_mapUpdate; refine wpList_mapUpdate_in _ rfl _ _ _ 83 rfl 52 96 keyU Tryd.underlying83 (unitElem (H := Unit)) bm _ _ rfl (mp.alloc _) (by unfold maxLen; omega) _ _ _ rfl rfl hkey _ [] unitElem_mk ?_; intro w1 hown1 hturn1; have F := hide ((((unhide HD).grown (World.grownBy_alloc _ _ none)).turned (cm' := cm ++ [t.1]) (by rw [unhide HCS, List.length_append]; exact hown1) hturn1 (by simp; omega))); clear hown1 hturn1 mp HD))
  go_ret2
  exact ⟨rfl, unhide F⟩

/-- number: it came already. -/
theorem DI.number_twice (h : DI w0 wr g bm lv a l c k cm vs) (t : Int × Int × Int) (ht : getF l k = t) (h0 : t.2.2 = 0) (hp : (k : Int) < t.2.1 ∧ t.2.1 ≤ l.length) (hv : 0 ≤ t.1 ∧ t.1 < 18446744073709551616) (hn : cm.contains t.1 = true) :
    Calls Tryd.prog 47 #[.pointer (some ⟨g, 0, none⟩)] wr fun e w' => e = .returned (.tuple #[.int .u64 0, .int .i64 61]) ∧ w0.grownBy w' none := by
  have hs := h.sized_ok t ht h0 (by omega)
  have hkey : keyOf Tryd.prog 52 (.int .u64 t.1) = some (.int .u64 t.1) := keyOf_int_mk Tryd.underlying52 (wf64 hv.1 hv.2)
  clear h
  have hnf : Maps.has (camD cm) (.int .u64 t.1) = true := by rw [camD_has]; exact hn
  clear hn
  go_enter Tryd.func47, Tryd.ntmps47
  go_wp2_with (first
    | (go_at_call 54; refine hs.mono ?_; rintro e W1 ⟨rfl, D1⟩; have c2 := D1.blk.cell 2 (.map (some bm)) rfl; have HD := hide ((D1.gr).trans (World.grownBy_alloc W1 (.cells #[] 96) none)); have mp := D1.map; clear D1 hs)
    | (at_lookup; refine wpList_lookup_own_unit _ rfl _ _ 83 rfl 52 96 keyU Tryd.underlying83 (zeroUnit _) bm _ _ rfl mp _ _ rfl hkey ?_; rw [hnf]))
  go_ret2
  exact ⟨rfl, unhide HD⟩
theorem DI.number_no (h : DI w0 wr g bm lv a l c k cm vs) (h0 : (getF l k).2.2 ≠ 0) :
    Calls Tryd.prog 47 #[.pointer (some ⟨g, 0, none⟩)] wr fun e w' => e = .returned (.tuple #[.int .u64 0, .int .i64 60]) ∧ w0.grownBy w' none := by
  have hs := h.sized_no h0
  clear h
  go_enter Tryd.func47, Tryd.ntmps47
  go_wp2_with (go_at_call 54; refine hs.mono ?_; rintro e W1 ⟨rfl, D1⟩; have HD := hide D1.gr; clear D1 hs)
  go_ret2
  exact ⟨rfl, unhide HD⟩

theorem DI.value_no (h : DI w0 wr g bm lv a l c k cm vs) (h0 : (getF l k).2.2 ≠ 0) :
    Calls Tryd.prog 48 #[.pointer (some ⟨g, 0, none⟩)] wr fun e w' => e = .returned (.tuple #[.slice none 0 0, .int .i64 60]) ∧ w0.grownBy w' none := by
  have hs := h.sized_no h0
  clear h
  go_enter Tryd.func48, Tryd.ntmps48
  go_wp2_with (go_at_call 54; refine hs.mono ?_; rintro e W1 ⟨rfl, D1⟩; have HD := hide D1.gr; clear D1 hs)
  go_ret2
  exact ⟨rfl, unhide HD⟩
theorem DI.value_short (h : DI w0 wr g bm lv a l c k cm vs) (t : Int × Int × Int) (ht : getF l k = t) (h0 : t.2.2 = 0) (hp : (k : Int) < t.2.1 ∧ t.2.1 ≤ l.length) (hv : 0 ≤ t.1 ∧ t.1 < 18446744073709551616) (hn : (l.length : Int) - t.2.1 < t.1) :
    Calls Tryd.prog 48 #[.pointer (some ⟨g, 0, none⟩)] wr fun e w' => e = .returned (.tuple #[.slice none 0 0, .int .i64 60]) ∧ w0.grownBy w' none := by
  have hs := h.sized_ok t ht h0 (by omega)
  have hmx := h.max; have hcp := h.cap
  unfold maxLen at hmx
  obtain ⟨v, e, x⟩ := t
  simp only at *
  have hw1 : IntKind.i64.wrap ((l.length : Int) - e) = (l.length : Int) - e := by rw [IntKind.wrap_i64]; omega
  have hw2 : IntKind.u64.wrap ((l.length : Int) - e) = (l.length : Int) - e := by rw [IntKind.wrap_u64]; omega
  have he : ((e.toNat : Nat) : Int) = e := Int.toNat_of_nonneg (by omega)
  clear h hmx hcp
  go_enter Tryd.func48, Tryd.ntmps48
  go_wp2_with (go_at_call 54; refine hs.mono ?_; rintro e W1 ⟨rfl, D1⟩; have c0 := D1.blk.cell 0 (.slice a l.length c) rfl; have c1 := D1.blk.cell 1 (.int .i64 _) rfl; rw [he] at c1; have HD := hide (fun q => (D1.drewN q).gr); clear D1 hs)
  have HQ := hide (And.intro hp hv)
  clear hp hv ht he
  generalize l.length = n at *
  go_quiet (fail)
  go_wp2
  go_ret2
  exact ⟨rfl, unhide HD _⟩
end
end Go.Proofs.YtmfbbamaleagiaaDoor
