/- Road: datagrams in order, off the shelf. -/
import Derived.Test.YtbdjlhkgpblebaaDoorY2A
import Derived.Shelf.SlSortCmp.WholeK
import Derived.Shelf.Lay
import Derived.Ground.SlsfProg
namespace Go.Proofs.YtbdjlhkgpblebaaDoor
open Go.Shelf Go.RowKit Go.Lib Go.Sort
set_option linter.unusedVariables false
set_option linter.unusedSimpArgs false
set_option maxHeartbeats 1000000
set_option maxRecDepth 100000

def cmpG (a b : Gm) : Int := if cmpI a.at_ b.at_ ≠ 0 then cmpI a.at_ b.at_ else cmpI a.id b.id
theorem byG_any (a b : Gm) (w : World) : Calls Tryd.prog 35 #[.agg a.cs, .agg b.cs] w fun e w' => e = .returned (.int .i64 (cmpG a b)) ∧ ∃ q os, w' = grow (w.drewN q) os := by
  obtain ⟨bA, bB, gA⟩ := Blk.two w a.cs b.cs 56 56
  have a0 := bA.cell 0 (.int .i64 a.id) rfl
  have a1 := bA.cell 2 (.int .i64 a.at_) rfl
  have b0 := bB.cell 0 (.int .i64 b.id) rfl
  have b1 := bB.cell 2 (.int .i64 b.at_) rfl
  have hc1 := fun W => compare64 a.at_ b.at_ W
  have hc2 := fun W => comparei a.id b.id W
  unfold cmpG
  unfold Gm.cs at bA bB gA a0 a1 b0 b1 ⊢
  obtain ⟨aid, ato, aat, atx, amk⟩ := a
  obtain ⟨bid, bto, bat, btx, bmk⟩ := b
  simp only at a0 a1 b0 b1 hc1 hc2 bA bB gA ⊢
  generalize strOfNums atx = sa at *
  generalize strOfNums btx = sb at *
  generalize cmpI aat bat = p at *
  generalize cmpI aid bid = q at *
  have bC := (Blk.new ((w.alloc (.cells #[.int .i64 aid, .int .i64 ato, .int .i64 aat, .string sa, .int .i64 amk] 56)).alloc (.cells #[.int .i64 bid, .int .i64 bto, .int .i64 bat, .string sb, .int .i64 bmk] 56)) #[.int .i64 p, .int .i64 q] 3)
  rw [alloc_size, alloc_size] at bC
  have ho := or2 p q (w.heap.size + 1 + 1) _ (bC.drew.cell 0 (.int .i64 p) rfl) (bC.drew.cell 1 (.int .i64 q) rfl)
  clear bC
  generalize (if p ≠ 0 then p else q) = r at *
  clear bA bB gA
  go_enter Tryd.func35, Tryd.ntmps35
  go_wp2_with fail
  go_region_held3 (fun W => W.cell? ⟨w.heap.size, 0, none⟩ = some (.int .i64 aid) ∧ W.cell? ⟨w.heap.size, 2, none⟩ = some (.int .i64 aat) ∧ W.cell? ⟨w.heap.size + 1, 0, none⟩ = some (.int .i64 bid) ∧ W.cell? ⟨w.heap.size + 1, 2, none⟩ = some (.int .i64 bat)) (go_keep) (first
    | (go_at_call 37; refine (hc1 _).mono ?_; rintro e W2 ⟨rfl, hw⟩; subst hw)
    | (go_at_call 38; refine (hc2 _).mono ?_; rintro e W2 ⟨rfl, hw⟩; subst hw)
    | (go_at_call 36; refine ho.mono ?_; rintro e W2 ⟨rfl, hw⟩; subst hw))
  go_wp2_with fail
  go_ret
  exact ⟨rfl, 1, _, by rw [alloc_eq_grow, alloc_eq_grow, alloc_eq_grow, grow_grow, grow_grow]; rfl⟩

/-- The cells of datagrams. -/
def encG (g : Gm) : List Value := g.cs.toList
def clG (L : List Gm) : List Value := (L.map encG).flatten
theorem clG_len (L : List Gm) : (clG L).length = L.length * 5 := by
  induction L with
  | nil => rfl
  | cons g L ih => simp [clG, encG, Gm.cs] at ih ⊢; omega
theorem clG_app (a b : List Gm) : clG (a ++ b) = clG a ++ clG b := by simp [clG]
theorem clG_cons (g : Gm) (b : List Gm) : clG (g :: b) = encG g ++ clG b := by simp [clG]
theorem clG_get : ∀ (L : List Gm) (k : Nat) (g : Gm) (j : Nat) (v : Value), L[k]? = some g → (encG g)[j]? = some v → (clG L)[k * 5 + j]? = some v
  | [], k, g, j, v, h, _ => by simp at h
  | x :: L, 0, g, j, v, h, hv => by
    simp at h; subst h
    rw [clG_cons, Nat.zero_mul, Nat.zero_add, List.getElem?_append_left (List.getElem?_eq_some_iff.1 hv).1]; exact hv
  | x :: L, k + 1, g, j, v, h, hv => by
    rw [clG_cons, List.getElem?_append_right (by simp [encG, Gm.cs]; omega), show (k + 1) * 5 + j - (encG x).length = k * 5 + j by simp [encG, Gm.cs]; omega]
    exact clG_get L k g j v (by simpa using h) hv
theorem clG_one (L : List Gm) : ∀ v ∈ clG L, v.oneCell' = true := by
  intro v hv
  simp only [clG, List.mem_flatten, List.mem_map] at hv
  obtain ⟨l, ⟨g, -, rfl⟩, hv⟩ := hv
  simp [encG, Gm.cs] at hv
  rcases hv with rfl | rfl | rfl | rfl | rfl <;> rfl

shelf_lay_g SlLaysF0.n6 Slsf 6 at Tryd 34 as Tryd.sortG

theorem cmpLaysG (blk off size : Nat) (w : World) : CmpLays Tryd.prog 35 #[] encG 5 cmpG blk off size w :=
  fun _ _ _ _ x y => byG_any x y _

theorem cmpI_lt (x y : Nat) : (cmpI x y = -1 ↔ x < y) ∧ (cmpI x y = 0 ↔ x = y) ∧ (cmpI x y = 1 ↔ y < x) := by
  unfold cmpI
  by_cases h1 : x < y
  · simp [h1]; omega
  · by_cases h2 : y < x <;> simp [h1, h2] <;> omega
theorem ltOfG (x y : Gm) : ltOf cmpG x y = decide (ltG x y) := by
  unfold ltOf cmpG ltG cmpI
  by_cases h1 : x.at_ < y.at_
  · simp [h1]
  · by_cases h2 : y.at_ < x.at_
    · have : ¬ x.at_ = y.at_ := by omega
      simp [h1, h2, this]
    · have : x.at_ = y.at_ := by omega
      by_cases h3 : x.id < y.id
      · simp [this, h3]
      · by_cases h4 : y.id < x.id <;> simp [this, h3, h4]
theorem swoG : SWO (ltOf cmpG) where
  irrefl x := by rw [ltOfG]; simp [ltG_irr]
  trans x y z h1 h2 := by rw [ltOfG] at *; simp at *; exact ltG_trans h1 h2
  ntrans x y z h1 h2 := by rw [ltOfG] at *; simp only [decide_eq_false_iff_not] at *; unfold ltG at *; omega

theorem flat_clG (L : List Gm) : (flatK encG 5 L.toArray).toList = clG L := by
  apply List.ext_getElem?
  intro j
  by_cases hj : j < L.length * 5
  · have h1 : (flatK encG 5 L.toArray).toList[j]? = some ((encG (L.toArray[j / 5]!))[j % 5]!) := by
      have := get_flatK encG 5 L.toArray j (by simpa using hj)
      rw [Array.getElem?_toList, getElem?_pos _ _ (by simpa using hj)]
      rw [getElem!_pos _ _ (by simpa using hj)] at this
      rw [this]
    have hd : j / 5 < L.length := by omega
    have e : L.toArray[j / 5]! = L[j / 5] := by
      rw [getElem!_pos _ _ (by simpa using hd)]
      simp
    rw [h1, e]
    have hx : L[j / 5]? = some L[j / 5] := List.getElem?_eq_getElem hd
    have hm : j % 5 < (encG L[j / 5]).length := by simp [encG, Gm.cs]; omega
    have := clG_get L (j / 5) _ (j % 5) _ hx (List.getElem?_eq_getElem hm)
    rw [show j / 5 * 5 + j % 5 = j by omega] at this
    rw [this, getElem!_pos (encG L[j / 5]) (j % 5) hm]
  · rw [List.getElem?_eq_none (by simp; omega), List.getElem?_eq_none (by rw [clG_len]; omega)]

theorem holds_rowG {w : World} {b g c : Nat} {L : List Gm} (h : w.ownsRow b 56 5 (.slice (some ⟨g, 0, none⟩) L.length c) L.length (clG L)) : HoldsK encG 5 w g 0 L.toArray ∧ g < w.heap.size := by
  rcases h.2 with ⟨e, -⟩ | ⟨g', c', cur, e, q1, q2, q3, q4, q5, q6⟩
  · cases e
  · injection e with e1 e2 e3
    injection e1 with e1
    injection e1 with e1
    subst e1 e3
    refine ⟨fun j hj => ?_, (Array.getElem?_eq_some_iff.1 q2).1⟩
    have hj2 : j < (clG L).length := by rw [clG_len]; simpa using hj
    have e : (flatK encG 5 L.toArray)[j]! = (clG L)[j] := by
      rw [getElem!_pos _ _ (by simpa using hj)]
      have h2 : (flatK encG 5 L.toArray).toList[j]? = (clG L)[j]? := by rw [flat_clG]
      rw [Array.getElem?_toList, getElem?_pos _ _ (by simpa using hj), List.getElem?_eq_getElem hj2] at h2
      simpa using h2
    rw [Nat.zero_add]
    refine ⟨?_, ?_⟩
    · have h3 : (cur.toList.take (L.length * 5))[j]? = (clG L)[j]? := by rw [q6]
      rw [List.getElem?_take, if_pos (by simpa using hj), Array.getElem?_toList, List.getElem?_eq_getElem hj2] at h3
      unfold World.cell?
      rw [q2]
      simp only [id]
      rw [e, ← h3]
      simp
    · unfold World.frozen?
      rw [q2]
      simp

theorem sorted_rowG {w : World} {b g c : Nat} {L P : List Gm} (h : w.ownsRow b 56 5 (.slice (some ⟨g, 0, none⟩) L.length c) L.length (clG L)) (hl : P.length = L.length) (m : Nat) (os : Array Obj) :
    (sortWorldK encG 5 w g 0 m P.toArray os).ownsRow b 56 5 (.slice (some ⟨g, 0, none⟩) P.length c) P.length (clG P) ∧ w.grownBy (sortWorldK encG 5 w g 0 m P.toArray os) (some g) := by
  have hg := (holds_rowG h).2
  have hput : (putRowK encG 5 (Sort.ahead w m) g 0 P.toArray).heap = w.heap.modify g (onCells (putCells id 0 (flatK encG 5 P.toArray))) := rfl
  have hsz : (putRowK encG 5 (Sort.ahead w m) g 0 P.toArray).heap.size = w.heap.size := by rw [hput]; simp
  rcases h.2 with ⟨e, -⟩ | ⟨g', c', cur, e, q1, q2, q3, q4, q5, q6⟩
  · cases e
  injection e with e1 e2 e3
  injection e1 with e1
  injection e1 with e1
  subst e1 e3
  refine ⟨⟨clG_len P, .inr ⟨g, c, putCells id 0 (flatK encG 5 P.toArray) cur, rfl, q1, ?_, by omega, q4, ?_, ?_⟩⟩, rfl, rfl, rfl, ?_, ?_⟩
  · unfold sortWorldK
    rw [heap_grow_old _ _ (by rw [hsz]; exact hg), hput, Array.getElem?_modify, if_pos rfl, q2]
    rfl
  · simp [putCells]; omega
  · apply List.ext_getElem?
    intro k
    simp only [putCells, List.getElem?_take, Array.getElem?_toList, Array.getElem?_mapIdx]
    by_cases hk : k < P.length * 5
    · rw [if_pos hk]
      have h1 : (flatK encG 5 P.toArray).toList[k]? = (clG P)[k]? := by rw [flat_clG]
      rw [Array.getElem?_toList, getElem?_pos _ _ (by simpa using hk)] at h1
      rw [← h1, getElem?_pos cur k (by omega)]
      simp only [Option.map_some, Option.some.injEq]
      rw [if_pos ⟨by omega, by simpa using hk⟩, Nat.sub_zero, getElem!_pos _ _ (by simpa using hk)]
      rfl
    · rw [if_neg hk, List.getElem?_eq_none (by rw [clG_len]; omega)]
  · unfold sortWorldK grow
    simp only [Array.size_append, hsz]
    omega
  · intro k hk hne
    unfold sortWorldK
    rw [heap_grow_old _ _ (by rw [hsz]; exact hk), hput, Array.getElem?_modify, if_neg (by simpa using Ne.symm hne)]

theorem ins_0g (v : Value) (w : World) : Calls Tryd.prog 55 #[.slice none 0 0, .int .i64 0, .int .i64 0, v] w fun e w' => e = .returned (.tuple #[]) ∧ w.grownBy w' none := by
  go_enter Tryd.func55, Tryd.ntmps55
  go_wp2
  go_loopw [8] (fun i wr => i = .int .i64 1 ∧ wr = w) (fun i _ => 0)
  case atStart => exact ⟨rfl, rfl⟩
  case round =>
    obtain ⟨rfl, rfl⟩ := hrel
    go_wp2
    refine bodyPost_end (results_none rfl _ _ _) rfl ?_
    exact ⟨rfl, World.grownBy.refl _ _⟩
theorem len_0g (w : World) : Calls Tryd.prog 47 #[.int .u64 0] w fun e w' => e = .returned (.int .i64 0) ∧ w.grownBy w' none := by
  have h := len64_any 0 (by decide) w
  have e0 : ((Lib.bitLen 0 : Nat) : Int) = 0 := by decide
  rw [e0] at h
  go_enter Tryd.func47, Tryd.ntmps47
  go_wp2_with fail
  refine h.mono ?_
  rintro e w' ⟨rfl, hw⟩
  subst hw
  clear h
  go_wp2_with fail
  go_ret
  exact ⟨rfl, World.grownBy.refl _ _⟩
theorem pdq_0g (v : Value) (w : World) : Calls Tryd.prog 46 #[.slice none 0 0, .int .i64 0, .int .i64 0, .int .i64 0, v] w fun e w' => e = .returned (.tuple #[]) ∧ w.grownBy w' none := by
  have h := fun W => ins_0g v W
  go_enter Tryd.func46, Tryd.ntmps46
  go_wp2_with fail
  go_loopw [1, 2, 3] (fun i j l wr => i = .int .i64 0 ∧ j = .int .i64 0 ∧ wr = w) (fun i _ _ _ => 0)
  case atStart => exact ⟨rfl, rfl, rfl⟩
  case round =>
    obtain ⟨rfl, rfl, rfl⟩ := hrel
    go_wp2_with fail
    refine (h _).mono ?_
    rintro e w' ⟨rfl, hg⟩
    clear h
    go_wp2_with fail
    refine bodyPost_ret (results_none rfl _ _ _) rfl ?_
    exact ⟨rfl, hg⟩
theorem sort_0g (v : Value) (w : World) : Calls Tryd.prog 34 #[.slice none 0 0, v] w fun e w' => e = .returned (.tuple #[]) ∧ w.grownBy w' none := by
  have h := len_0g w
  have h2 := fun W => pdq_0g v W
  go_enter Tryd.func34, Tryd.ntmps34
  go_wp2_with fail
  refine h.mono ?_
  rintro e w' ⟨rfl, hg⟩
  clear h
  go_wp2_with fail
  refine (h2 _).mono ?_
  rintro e w2 ⟨rfl, hg2⟩
  clear h2
  go_wp2_with fail
  refine bodyPost_end (results_none rfl _ _ _) rfl ?_
  exact ⟨rfl, hg.trans hg2⟩

/-- inOrder of a row of one's own. -/
theorem order_any (b : Nat) (W : World) (v : Value) (E : List Gm) (h : W.ownsRow b 56 5 v E.length (clG E)) (hlen : E.length ≤ 100000) :
    Calls Tryd.prog 25 #[v] W fun e w' => e = .returned v ∧ ∃ P, P.Perm E ∧ P.Pairwise (fun x y => ¬ ltG y x) ∧ w'.ownsRow b 56 5 v P.length (clG P) ∧ W.grownBy w' v.ownBlock := by
  have SORT : Calls Tryd.prog 34 #[v, .func (.func 35) #[] #[]] W fun e w' => e = .returned (.tuple #[]) ∧ ∃ P, P.Perm E ∧ P.Pairwise (fun x y => ¬ ltG y x) ∧ w'.ownsRow b 56 5 v P.length (clG P) ∧ W.grownBy w' v.ownBlock := by
    rcases id h.2 with ⟨rfl, h0⟩ | ⟨g, c, cur, rfl, -⟩
    · have hE : E = [] := List.length_eq_zero_iff.1 h0
      subst hE
      refine (sort_0g (.func (.func 35) #[] #[]) W).mono ?_
      rintro e w' ⟨rfl, hg⟩
      exact ⟨rfl, [], List.Perm.refl _, List.Pairwise.nil, World.ownsRow_nil _ _ _ _, hg⟩
    · obtain ⟨hH, hlt⟩ := holds_rowG h
      have eg : ∀ args w, (callFunc 35 args).run Tryd.prog w = .ok (.enter 35 args) w := Go.Proofs.enters_of Tryd.func35 (by kernel_rfl) rfl
      have hs := AnyQ.slices_SortFunc Tryd.sortG 5 Tryd.isAgg56 Tryd.sizeOf56 encG (fun _ => rfl) (fun x v hv => by simp [encG, Gm.cs] at hv; rcases hv with rfl | rfl | rfl | rfl | rfl <;> rfl) cmpG swoG 35 #[] g 0 c E.toArray W eg (cmpLaysG g 0 E.toArray.size W) hH hlt (by simp; omega)
      refine Calls.mono (show Calls Tryd.prog 34 #[.slice (some ⟨g, 0, none⟩) E.length c, .func (.func 35) #[] #[]] W _ from hs) ?_
      rintro e w' ⟨rfl, d', n, os, hp, hs, rfl⟩
      obtain ⟨hp1, -, hp2⟩ := hp
      have hl : d'.toList.length = E.length := by simpa using hp1
      obtain ⟨h1, h2⟩ := sorted_rowG (P := d'.toList) h hl n os
      rw [Array.toArray_toList] at h1 h2
      refine ⟨rfl, d'.toList, ?_, ?_, by rw [← hl]; exact h1, h2⟩
      · have e1 : (d'.extract 0 E.toArray.size).toList = d'.toList := by
          have : d'.extract 0 E.toArray.size = d' := by rw [← hp1]; simp
          rw [this]
        have e2 : (E.toArray.extract 0 E.toArray.size).toList = E := by simp
        rw [e1, e2] at hp2
        exact hp2
      · rw [List.pairwise_iff_getElem]
        intro i j hi hj hij
        have := hs i j (Nat.zero_le _) hij (by simp; omega)
        rw [ltOfG, getElem!_pos _ _ (by simpa using hj), getElem!_pos _ _ (by simpa using hi)] at this
        simpa using this
  have vs : ∃ a c, v = .slice a E.length c := by
    rcases h.2 with ⟨rfl, h0⟩ | ⟨g, c, cur, rfl, -⟩
    · exact ⟨none, 0, by rw [h0]⟩
    · exact ⟨_, _, rfl⟩
  obtain ⟨a, c, rfl⟩ := vs
  clear h
  generalize E.length = n at *
  go_enter Tryd.func25, Tryd.ntmps25
  go_wp2_with fail
  refine SORT.mono ?_
  rintro e w' ⟨rfl, P, h1, h2, h3, h4⟩
  have E2 := hide (And.intro h1 (And.intro h2 (And.intro h3 h4)))
  clear h1 h2 h3 h4 SORT
  go_wp2_with fail
  go_ret
  exact ⟨rfl, P, unhide E2⟩
end Go.Proofs.YtbdjlhkgpblebaaDoor
