/- inOrder: the nodes of a slot, each ahead of the next. -/
import Derived.Test.YtbdjlhkgpblebaaDoorHH
import Derived.Test.YtbdjlhkgpblebaaDoorHF
import Derived.Maps.AppendAt
import Derived.Shelf.Lay
import Derived.Ground.SlsfProg
namespace Go.Proofs.YtbdjlhkgpblebaaDoor
open Go.RowKit Go.Shelf Go.Lib Go.Sort
set_option linter.unusedVariables false
set_option maxHeartbeats 400000
set_option maxRecDepth 100000
attribute [local go_sem] Oper.semAt_some

theorem Tryd.infoN : (Tryd.prog.info? 67).map (fun i => (i.zero, i.size, i.bytes)) = some (some (.pointer none), 1, 8) := by kernel_rfl
abbrev ptrs (L : List Nd) : List Value := L.map fun n => ptr n.g

theorem appendSeq_any (Bn : Nat) (S : List Nd) (hnd : (S.map Nd.g).Nodup) (hlen : S.length ≤ 1000000) (w : World) (hBn : w.cell? ⟨Bn, 0, none⟩ = some (hdp nilp S)) (hL : Seg w nilp nilp S) (hlt : ∀ n ∈ S, n.g < w.heap.size) :
    Calls Tryd.prog 76 #[.slice none 0 0, .func (.func 64) #[] #[.pointer (some ⟨Bn, 0, none⟩)]] w fun e W' =>
      ∃ v, e = .returned v ∧ W'.ownsRow w.heap.size 67 1 v S.length (ptrs S) ∧ Below w.heap.size w W' := by
  refine (callsIn_wide (n := 4)).1 ?_
  obtain ⟨i0, hi, hz0, hz1, hz2⟩ := info_parts Tryd.infoN
  refine callsIn_of_wp_marks Tryd.func76 rfl trivial ?_ rfl
  simp only [Tryd.ntmps76, List.size_toArray, List.length_cons, List.length_nil, Nat.reduceAdd, Nat.reduceSub, Array.replicate_succ, Array.replicate_zero, List.push_toArray, List.append_toArray, List.nil_append, List.cons_append]
  gi_wp2_with fail
  have bO := Boxed.new w 76 (.slice none 0 0)
  have hB0 : Below w.heap.size w (w.alloc (.cells #[.slice none 0 0] 76)) := (Below.refl _ w).alloc (Nat.le_refl _) _
  have hBn' : (w.alloc (.cells #[.slice none 0 0] 76)).cell? ⟨Bn, 0, none⟩ = some (hdp nilp S) := (hB0.cell (p := ⟨Bn, 0, none⟩) (World.block_lt_of_cell? w _ hBn)).trans hBn
  refine wpIn_rangeFunc_ownG (F := Fence.wide) rfl (by decide) (gf := 64) (lb := #[.pointer (some ⟨Bn, 0, none⟩)]) rfl trivial (enters_of Tryd.func64 (by kernel_rfl) rfl)
    (along_stops 3 (by decide) Bn w.heap.size S hnd _ hBn' (hL.below hB0 hlt) hlt (by simp)) belowK_t (belowK_b (by simp)) (Below.refl _ _) (fun _ => rfl)
    (fun (pre : List (NdIn S)) W => (∃ v, Boxed W w.heap.size 76 v ∧ W.ownsRow w.heap.size 67 1 v pre.length (pre.map fun x => ptr x.1.g) ∧ True) ∧ Below w.heap.size w W)
    (fun _ _ _ => False)
    (OwnFrom.and (Own.from (holdsRow_own w.heap.size w.heap.size 76 67 1 (fun (pre : List (NdIn S)) => pre.length) (fun (pre : List (NdIn S)) => pre.map fun x => ptr x.1.g) (fun pre v => True)) _) (ownFrom_below (Nat.le_refl _) (by simp)))
    (fun _ _ _ _ _ hs _ _ => hs)
    ⟨⟨_, bO, World.ownsRow_nil _ _ _ _, trivial⟩, hB0⟩
    (fun (x : NdIn S) => { tmps := #[.slice none 0 0, .func (.func 64) #[] #[.pointer (some ⟨Bn, 0, none⟩)], .pointer (some ⟨w.heap.size, 0, none⟩), undef, .slice none 0 0, ptr x.1.g, .func (.func 64) #[] #[.pointer (some ⟨Bn, 0, none⟩)], ptr x.1.g, undef, undef, undef, undef, undef], defers := [] }) ?assign ?body ?done ?stop
  case assign =>
    intro l x W K hK
    gi_wp2
    exact hK
  case body =>
    rintro l pre x W ⟨⟨v, hv, hrow, -⟩, hB⟩ hlt'
    have hc := hv.cell
    gi_wp2_with (gi_at_builtin; refine wpListIn_append_own _ rfl _ _ 76 rfl w.heap.size 67 i0 (.pointer none) 1 8 Tryd.underlying76 hi hz0 hz1 hz2 rfl (by decide) _ _ _ rfl (hrow.alloc _) ⟨W.heap.size, 0, none⟩ 1 1 [ptr x.1.g] rfl rfl (cell_one_new _ _ _) (by simp [Value.oneCell']) (by unfold maxLen; omega) (by omega) (by have := hB.size; simp; omega) ?_; intro v' w1 hown' hgrow _; obtain ⟨g', cap', rfl⟩ := ownsRow_succ hown'; obtain ⟨hv1, hv2, hr2, hk2, hb2⟩ := hv.appended (by decide) hrow hB.size (Nat.le_refl _) hown' hgrow; have hc1 := hv1.cell; have hf1 := hv1.frozen)
    exact ⟨hk2.from _, hb2, ⟨_, hv2, by simpa using hr2, trivial⟩, hB.trans hb2⟩
  case done =>
    rintro D ys W hD hys ⟨⟨v, hv, hrow, -⟩, hB⟩ hK
    have hc := hv.cell
    gi_wp2
    refine ⟨by simp, .inl ⟨_, _, rfl, run_takeDeferred hK, ?_⟩⟩
    refine ⟨_, results_tmp rfl _ _ _, v, rfl, ?_, hB.trans (belowK_b (w := w) (Nat.le_refl _) W D _ _ (by simp at hD; omega) hK rfl rfl)⟩
    have := ownsRow_putObj hrow (.deferred none) hK rfl
    have e : ys.map (fun x => ptr x.1.g) = ptrs S := by have := congrArg ptrs hys; simpa [ptrs, List.map_map, Function.comp_def] using this
    have e2 : ys.length = S.length := by have := congrArg List.length hys; simpa using this
    rw [e, e2] at this
    exact this
  case stop =>
    rintro D c pre W _ _ h _
    exact h.elim

theorem collect_any (Bn : Nat) (S : List Nd) (hnd : (S.map Nd.g).Nodup) (hlen : S.length ≤ 1000000) (w : World) (hBn : w.cell? ⟨Bn, 0, none⟩ = some (hdp nilp S)) (hL : Seg w nilp nilp S) (hlt : ∀ n ∈ S, n.g < w.heap.size) :
    Calls Tryd.prog 73 #[.func (.func 64) #[] #[.pointer (some ⟨Bn, 0, none⟩)]] w fun e W' =>
      ∃ a c, e = .returned (.slice a S.length c) ∧ W'.ownsRow w.heap.size 67 1 (.slice a S.length c) S.length (ptrs S) ∧ Below w.heap.size w W' := by
  have hc := appendSeq_any Bn S hnd hlen w hBn hL hlt
  clear hBn hL hlt hnd
  go_enter Tryd.func73, Tryd.ntmps73
  go_wp2_with fail
  refine hc.mono ?_
  rintro e W1 ⟨v, rfl, ho, hb⟩
  obtain ⟨a, c, rfl⟩ : ∃ a c, v = .slice a S.length c := by
    rcases ho.2 with ⟨e1, e2⟩ | ⟨g, cap, cur, e1, -⟩
    · exact ⟨none, 0, by rw [e1, e2]⟩
    · exact ⟨_, _, e1⟩
  have HO := hide ho; have HB := hide hb
  clear ho hb hc
  go_wp2_with fail
  go_ret
  exact ⟨a, c, rfl, unhide HO, unhide HB⟩

/-- Ahead: by time, then by number. -/
def lt2 (a b : Nd) : Prop := a.at_ < b.at_ ∨ (a.at_ = b.at_ ∧ a.id < b.id)
theorem ahI_lt (a b : Nd) : ahI a b < 0 ↔ lt2 a b := by
  unfold ahI cmpI lt2
  (repeat' split) <;> first | omega | (constructor <;> intro h <;> omega)

abbrev cfN {S : List Nd} (x y : NdIn S) : Int := ahI x.1 y.1
theorem ltN {S : List Nd} (x y : NdIn S) : ltOf cfN x y = true ↔ lt2 x.1 y.1 := by
  unfold ltOf cfN
  rw [decide_eq_true_iff, ahI_lt]
theorem ltNf {S : List Nd} (x y : NdIn S) : ltOf cfN x y = false ↔ ¬ lt2 x.1 y.1 := by
  rw [← ltN, Bool.not_eq_true]
theorem swoN (S : List Nd) : SWO (ltOf (cfN (S := S))) where
  irrefl x := by rw [ltNf]; unfold lt2; omega
  trans x y z h1 h2 := by rw [ltN] at *; unfold lt2 at *; omega
  ntrans x y z h1 h2 := by rw [ltNf] at *; unfold lt2 at *; omega

shelf_lay_g SlLaysF.n6 Slsf 6 at Tryd 74 as Tryd.sortN

theorem sort_cell {S : List Nd} (w : World) (blk m : Nat) (dk : Array (NdIn S)) [Inhabited (NdIn S)] (os : Array Obj) (a : Addr) (ha : a.block < w.heap.size) (hne : a.block ≠ blk) : (sortWorld (fun x : NdIn S => ptr x.1.g) w blk 0 m dk os).cell? a = w.cell? a := by
  unfold sortWorld
  rw [cell?_grow _ _ _ (by show a.block < (w.heap.modify blk _).size; rw [Array.size_modify]; exact ha), cell?_putRow_other _ _ _ _ _ _ (.inl hne)]
  rfl

theorem sort_any (S : List Nd) (hne : S ≠ []) (hlen : S.length ≤ 1000000) (a : Option Addr) (c n₀ : Nat) (w : World) (ho : w.ownsRow n₀ 67 1 (.slice a S.length c) S.length (ptrs S)) (hn : ∀ n ∈ S, n.g < n₀ ∧ ∃ b h, Blk w n.g (ndc n b h) 81) :
    Calls Tryd.prog 74 #[.slice a S.length c, .func (.func 66) #[] #[]] w fun e w' =>
      e = .returned (.tuple #[]) ∧ ∃ P : List Nd, P.Perm S ∧ P.Pairwise (fun x y => ¬ lt2 y x) ∧ w'.ownsRow n₀ 67 1 (.slice a S.length c) S.length (ptrs P) ∧ Kp (fun g => n₀ ≤ g) w w' := by
  obtain ⟨s0, hs0⟩ : ∃ x, x ∈ S := List.exists_mem_of_ne_nil S hne
  letI : Inhabited (NdIn S) := ⟨⟨s0, hs0⟩⟩
  have hpos : 0 < S.length := List.length_pos_of_mem hs0
  rcases ho.2 with ⟨-, e2⟩ | ⟨g, cap, cur, e1, q1, q2, q3, q4, q5, q6⟩
  · omega
  · simp only [Value.slice.injEq, true_and] at e1
    obtain ⟨rfl, rfl⟩ := e1
    have hg : g < w.heap.size := (Array.getElem?_eq_some_iff.1 q2).1
    simp only [Nat.mul_one] at q5 q6
    have hd : S.attach.toArray.size = S.length := by simp
    have hH : Holds (fun x : NdIn S => ptr x.1.g) w g 0 S.attach.toArray := by
      intro j hj
      rw [hd] at hj
      rw [Nat.zero_add]
      refine ⟨?_, by simp [World.frozen?, q2]⟩
      simp only [World.cell?, q2]
      have h1 : (cur.toList.take S.length)[j]? = (ptrs S)[j]? := by rw [q6]
      rw [List.getElem?_take, if_pos hj, Array.getElem?_toList] at h1
      rw [h1, getElem!_pos _ _ (by rw [hd]; exact hj)]
      simp [ptrs, hj]
    have eg : ∀ args w, (callFunc 66 args).run Tryd.prog w = .ok (.enter 66 args) w := enters_of Tryd.func66 (by kernel_rfl) rfl
    have hcmp : CmpLays1 Tryd.prog 66 #[] (fun x : NdIn S => ptr x.1.g) cfN g 0 S.attach.toArray.size w := by
      intro m os dk _ x y
      obtain ⟨x1, bx, hx, bX⟩ := hn x.1 x.2
      obtain ⟨y1, by_, hy, bY⟩ := hn y.1 y.2
      exact by_any x.1 y.1 _ ((sort_cell w g m dk os ⟨x.1.g, 0, none⟩ bX.lt (by show x.1.g ≠ g; omega)).trans (bX.cell 0 _ rfl)) ((sort_cell w g m dk os ⟨x.1.g, 1, none⟩ bX.lt (by show x.1.g ≠ g; omega)).trans (bX.cell 1 _ rfl)) ((sort_cell w g m dk os ⟨y.1.g, 0, none⟩ bY.lt (by show y.1.g ≠ g; omega)).trans (bY.cell 0 _ rfl)) ((sort_cell w g m dk os ⟨y.1.g, 1, none⟩ bY.lt (by show y.1.g ≠ g; omega)).trans (bY.cell 1 _ rfl))
    have h := Any.slices_SortFunc Tryd.sortN (fun x : NdIn S => ptr x.1.g) (fun _ => rfl) cfN (swoN S) 66 #[] g 0 c S.attach.toArray w eg hcmp hH hg (by rw [hd]; omega)
    rw [hd] at h
    refine Calls.mono (show Calls Tryd.prog 74 _ _ _ from h) ?_
    rintro e w' ⟨rfl, d', n, os, hp, hs, rfl⟩
    obtain ⟨hp1, -, hp2⟩ := hp
    have hl : d'.size = S.length := by rw [hp1, hd]
    have hput : (putRow (fun x : NdIn S => ptr x.1.g) (Sort.ahead w n) g 0 d').heap = w.heap.modify g (onCells (putCells (fun x : NdIn S => ptr x.1.g) 0 d')) := rfl
    have hsz : (putRow (fun x : NdIn S => ptr x.1.g) (Sort.ahead w n) g 0 d').heap.size = w.heap.size := by rw [hput]; simp
    refine ⟨rfl, d'.toList.map Subtype.val, ?_, ?_, ⟨by simp [hl], .inr ⟨g, c, putCells (fun x : NdIn S => ptr x.1.g) 0 d' cur, rfl, q1, ?_, q3, q4, by simp [putCells, q5], ?_⟩⟩, ⟨rfl, rfl, rfl, ?_, ?_⟩⟩
    · have e1 : (d'.extract 0 S.length).toList = d'.toList := by
        have : d'.extract 0 S.length = d' := by rw [← hl]; simp
        rw [this]
      have e2 : (S.attach.toArray.extract 0 S.length).toList = S.attach := by
        have : S.attach.toArray.extract 0 S.length = S.attach.toArray := by rw [← hd]; simp; exact List.take_of_length_le (by simp)
        rw [this]
      rw [e1, e2] at hp2
      have := hp2.map Subtype.val
      simpa using this
    · rw [List.pairwise_map, List.pairwise_iff_getElem]
      intro i j hi hj hij
      have := hs i j (Nat.zero_le _) hij (by simpa [hl] using hj)
      rw [ltNf, getElem!_pos _ _ (by simpa using hj), getElem!_pos _ _ (by simpa using hi)] at this
      simpa using this
    · unfold sortWorld
      rw [heap_grow_old _ _ (by rw [hsz]; exact hg), hput, Array.getElem?_modify, if_pos rfl, q2]
      rfl
    · apply List.ext_getElem?
      intro k
      simp only [Nat.mul_one]
      rw [List.getElem?_take]
      by_cases hk : k < S.length
      · rw [if_pos hk, Array.getElem?_toList]
        simp only [putCells, Array.getElem?_mapIdx]
        rw [getElem?_pos cur k (by omega)]
        simp only [Option.map_some]
        rw [if_pos ⟨by omega, by omega⟩, Nat.sub_zero, getElem!_pos _ _ (by omega)]
        simp [ptrs, hl, hk]
      · rw [if_neg hk, List.getElem?_eq_none (by simp [hl]; omega)]
    · unfold sortWorld grow
      simp only [Array.size_append, hsz]
      omega
    · intro k hk hnk
      unfold sortWorld
      rw [heap_grow_old _ _ (by rw [hsz]; exact hk), hput, Array.getElem?_modify, if_neg (fun e : g = k => hnk (by omega))]

theorem sortedFunc_any (Bn : Nat) (S : List Nd) (hne : S ≠ []) (hnd : (S.map Nd.g).Nodup) (hlen : S.length ≤ 1000000) (w : World) (hBn : w.cell? ⟨Bn, 0, none⟩ = some (hdp nilp S)) (hL : Seg w nilp nilp S) (hlt : ∀ n ∈ S, n.g < w.heap.size) :
    Calls Tryd.prog 65 #[.func (.func 64) #[] #[.pointer (some ⟨Bn, 0, none⟩)], .func (.func 66) #[] #[]] w fun e W' =>
      ∃ a c, ∃ P : List Nd, e = .returned (.slice a S.length c) ∧ P.Perm S ∧ P.Pairwise (fun x y => ¬ lt2 y x) ∧ W'.ownsRow w.heap.size 67 1 (.slice a S.length c) S.length (ptrs P) ∧ w.grownBy W' none := by
  have hc := collect_any Bn S hnd hlen w hBn hL hlt
  have HL := hide hL; have HT := hide hlt
  clear hBn hL hlt hnd
  go_enter Tryd.func65, Tryd.ntmps65
  go_wp2_with fail
  refine hc.mono ?_
  rintro e W1 ⟨a, c, rfl, ho, hb⟩
  have hs := sort_any S hne hlen a c w.heap.size W1 ho (fun n hn => ⟨unhide HT n hn, by
    obtain ⟨b, h, hB⟩ := (unhide HL).node n hn
    exact ⟨b, h, (hb.block n.g (unhide HT n hn)).trans hB⟩⟩)
  have HB := hide hb
  clear ho hb hc
  go_wp2_with fail
  refine hs.mono ?_
  rintro e W2 ⟨rfl, P, p1, p2, p3, p4⟩
  have E := hide (And.intro p1 (And.intro p2 (And.intro p3 p4)))
  clear p1 p2 p3 p4 hs
  go_wp2_with fail
  go_ret
  obtain ⟨p1, p2, p3, p4⟩ := unhide E
  have hb := unhide HB
  refine ⟨a, c, P, rfl, p1, p2, p3, ⟨p4.os.trans hb.os, p4.tape.trans hb.tape, p4.output.trans hb.output, Nat.le_trans hb.size p4.size, fun i hi _ => ?_⟩⟩
  exact (p4.block i (Nat.lt_of_lt_of_le hi hb.size) (by omega)).trans (hb.block i hi)

theorem inOrder_any (S : List Nd) (hne : S ≠ []) (hnd : (S.map Nd.g).Nodup) (hlen : S.length ≤ 1000000) (w : World) (hL : Seg w nilp nilp S) :
    Calls Tryd.prog 54 #[hdp nilp S] w fun e W' =>
      ∃ a c, ∃ P : List Nd, e = .returned (.slice a S.length c) ∧ P.Perm S ∧ P.Pairwise (fun x y => ¬ lt2 y x) ∧ W'.ownsRow w.heap.size 67 1 (.slice a S.length c) S.length (ptrs P) ∧ w.grownBy W' none := by
  obtain ⟨q, hq⟩ : ∃ q, hdp nilp S = .pointer q := by cases S <;> exact ⟨_, rfl⟩
  have hlt : ∀ n ∈ S, n.g < w.heap.size := fun n hn => by
    obtain ⟨b, h, hB⟩ := hL.node n hn
    exact hB.lt
  have ha := along_any (hdp nilp S) q hq w
  have hB0 : Below w.heap.size w (w.alloc (.cells #[hdp nilp S] 67)) := (Below.refl _ w).alloc (Nat.le_refl _) _
  have hs := sortedFunc_any w.heap.size S hne hnd hlen (w.alloc (.cells #[hdp nilp S] 67)) ((Blk.new w #[hdp nilp S] 67).cell 0 _ rfl) (hL.below hB0 hlt) (fun n hn => Nat.lt_of_lt_of_le (hlt n hn) (by rw [alloc_size]; omega))
  have gA := hide (World.grownBy_alloc w (.cells #[hdp nilp S] 67) none)
  have HSZ := hide (alloc_size w (.cells #[hdp nilp S] 67))
  clear hL hlt hB0 hne hnd
  rw [hq] at *
  clear hq
  go_enter Tryd.func54, Tryd.ntmps54
  go_wp2_with fail
  refine ha.mono ?_
  rintro e W1 ⟨rfl, rfl⟩
  go_wp2_with fail
  refine hs.mono ?_
  rintro e W2 ⟨a, c, P, rfl, p1, p2, p3, p4⟩
  have E := hide (And.intro p1 (And.intro p2 (And.intro p3 p4)))
  clear p1 p2 p3 p4 hs ha
  go_wp2_with fail
  go_ret
  obtain ⟨p1, p2, p3, p4⟩ := unhide E
  refine ⟨a, c, P, rfl, p1, p2, ?_, (unhide gA).trans p4⟩
  refine ⟨p3.1, ?_⟩
  rcases p3.2 with h2 | ⟨g, cap, cur, e1, q1, q2⟩
  · exact .inl h2
  · exact .inr ⟨g, cap, cur, e1, by have := unhide HSZ; omega, q2⟩
end Go.Proofs.YtbdjlhkgpblebaaDoor
