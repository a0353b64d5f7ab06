/- cut. -/
import Derived.Test.YtbdjlhkgpblebaaDoorHE
namespace Go.Proofs.YtbdjlhkgpblebaaDoor
open Go.RowKit
set_option linter.unusedVariables false
set_option maxRecDepth 100000

theorem not_bit (x s : Nat) (hx : x < 2 ^ 64) (hs : s < 64) : ∃ y : Nat, bits BinOp.andNot IntKind.u64 (x : Int) (IntKind.u64.wrap (2 ^ s)) = (y : Int) ∧ y < 2 ^ 64 ∧ ∀ t, t < 64 → y.testBit t = if t = s then false else x.testBit t := by
  have h2 : 2 ^ s < 2 ^ 64 := Nat.pow_lt_pow_right (by decide) hs
  have e : IntKind.u64.wrap (2 ^ s) = ((2 ^ s : Nat) : Int) := by
    rw [IntKind.wrap_u64]
    have : ((2 : Int) ^ s) = ((2 ^ s : Nat) : Int) := by simp
    have key : ∀ y : Nat, y < 2 ^ 64 → ((y : Int) % 18446744073709551616) = y := fun y hy => by omega
    rw [this]; exact key _ h2
  refine ⟨_, by rw [e]; exact u64_andNot_nat x _ hx h2, Nat.lt_of_le_of_lt Nat.and_le_left hx, fun t ht => ?_⟩
  have e2 : 18446744073709551615 - 2 ^ s = 2 ^ 64 - (2 ^ s + 1) := by
    have : ∀ y : Nat, 18446744073709551615 - y = 2 ^ 64 - (y + 1) := fun y => by omega
    exact this _
  rw [Nat.testBit_and, e2, Nat.testBit_two_pow_sub_succ h2, Nat.testBit_two_pow]
  by_cases h : t = s
  · subst h; simp
  · simp [h, ht, Ne.symm h]

/-- One slot written, its bit as it was. -/
theorem WB.setS {w : World} {W mb c : Nat} {fl : Nat → Nat} {sl : Nat → Nat → List Nd} (h : WB w W mb c fl sl) (i s : Nat) (hi : i < 11) (hs : s < 64) (L : List Nd) (hL : L.isEmpty = (sl i s).isEmpty) :
    WB (w.setCell ⟨W, 2 + i * 65 + 1 + s, none⟩ (hdp nilp L)) W mb c fl (up sl i s L) := by
  obtain ⟨cs, hB, h0, h1, h2, h3, h4⟩ := h.ex
  refine ⟨⟨_, hB.setC _ _, by simp [h0], ?_, ?_, fun j hj => ?_, fun j t hj ht => ?_⟩, fun j t hj ht => ?_, h.lt⟩
  · rw [Array.getElem?_setIfInBounds_ne (by omega)]; exact h1
  · rw [Array.getElem?_setIfInBounds_ne (by omega)]; exact h2
  · rw [Array.getElem?_setIfInBounds_ne (by simp only [offR]; omega)]; exact h3 j hj
  · by_cases e : j = i ∧ t = s
    · obtain ⟨rfl, rfl⟩ := e
      rw [Array.getElem?_setIfInBounds_self_of_lt (by rw [h0]; omega), up_same]
    · rw [Array.getElem?_setIfInBounds_ne (by simp only [offS]; omega), h4 j t hj ht, up_other _ _ _ _ e]
  · by_cases e : j = i ∧ t = s
    · obtain ⟨rfl, rfl⟩ := e
      rw [up_same, hL, h.bit j t hj ht]
    · rw [up_other _ _ _ _ e, h.bit j t hj ht]
/-- A slot whose head stays. -/
theorem WB.sameS {w : World} {W mb c : Nat} {fl : Nat → Nat} {sl : Nat → Nat → List Nd} (h : WB w W mb c fl sl) (i s : Nat) (L : List Nd) (hL : L.isEmpty = (sl i s).isEmpty) (hh : hdp nilp L = hdp nilp (sl i s)) : WB w W mb c fl (up sl i s L) := by
  obtain ⟨cs, hB, h0, h1, h2, h3, h4⟩ := h.ex
  refine ⟨⟨_, hB, h0, h1, h2, h3, fun j t hj ht => ?_⟩, fun j t hj ht => ?_, h.lt⟩
  · by_cases e : j = i ∧ t = s
    · obtain ⟨rfl, rfl⟩ := e
      rw [up_same, hh]; exact h4 j t hj ht
    · rw [up_other _ _ _ _ e]; exact h4 j t hj ht
  · by_cases e : j = i ∧ t = s
    · obtain ⟨rfl, rfl⟩ := e
      rw [up_same, hL, h.bit j t hj ht]
    · rw [up_other _ _ _ _ e, h.bit j t hj ht]

/-- All but one. -/
def but (L : List Nd) (n : Nd) : List Nd := L.filter (fun m => m.g ≠ n.g)

theorem cut_end (W mb c : Nat) (fl fl' : Nat → Nat) (sl : Nat → Nat → List Nd) (L L1 L2 : List Nd) (n : Nd) (w w1 : World) (h : SW w W mb c fl sl L) (hnL : n ∈ L)
    (i s : Nat) (hp : pl c n.at_ = (i, s)) (hi : i < 11) (hs : s < 64) (hS : sl i s = L1 ++ n :: L2)
    (hwb : WB w1 W mb c fl' (up sl i s (L1 ++ L2))) (hseg : Seg w1 nilp nilp (L1 ++ L2)) (hk : ∀ g, g ≠ W → (∀ m ∈ sl i s, m.g ≠ g) → w1.heap[g]? = w.heap[g]?) (hsz : w1.heap.size = w.heap.size) (ho : w1.os = w.os ∧ w1.tape = w.tape ∧ w1.output = w.output) :
    ∃ fl' sl', SW w1 W mb c fl' sl' (but L n) ∧ Kp (fun g => g = W ∨ ∃ m ∈ L, m.g = g) w w1 ∧ w1.heap.size = w.heap.size := by
  have mL : ∀ m ∈ sl i s, m ∈ L := fun m hm => (h.of_slot hi hs hm).1
  have nd : ((sl i s).map Nd.g).Nodup := ((h.mem i s hi hs).map Nd.g).nodup_iff.2 (List.Nodup.sublist ((List.filter_sublist).map Nd.g) h.gs)
  have eS : L1 ++ L2 = (sl i s).filter (fun m => m.g ≠ n.g) := by
    rw [hS] at nd ⊢
    rw [List.map_append, List.map_cons, List.nodup_append] at nd
    obtain ⟨d1, d2, d3⟩ := nd
    rw [List.nodup_cons] at d2
    rw [List.filter_append, List.filter_cons, if_neg (by simp)]
    rw [List.filter_eq_self.2, List.filter_eq_self.2]
    · intro m hm
      simp only [ne_eq, decide_not, Bool.not_eq_eq_eq_not, Bool.not_true, decide_eq_false_iff_not]
      exact fun e => d2.1 (List.mem_map.2 ⟨m, hm, e⟩)
    · intro m hm
      simp only [ne_eq, decide_not, Bool.not_eq_eq_eq_not, Bool.not_true, decide_eq_false_iff_not]
      exact fun e => d3 m.g (List.mem_map.2 ⟨m, hm, rfl⟩) n.g (by simp) e
  refine ⟨fl', _, ⟨hwb, fun j t hj ht => ?_, fun j t hj ht => ?_, ?_, ?_, ?_, h.c50⟩, ⟨ho.1, ho.2.1, ho.2.2, by omega, fun g hg hng => hk g (fun e => hng (.inl e)) (fun m hm e => hng (.inr ⟨m, mL m hm, e⟩))⟩, hsz⟩
  · by_cases e : j = i ∧ t = s
    · obtain ⟨rfl, rfl⟩ := e
      rw [up_same]; exact hseg
    · rw [up_other _ _ _ _ e]
      refine (h.seg j t hj ht).kept (fun m hm => ?_)
      obtain ⟨m1, m2⟩ := h.of_slot hj ht hm
      refine hk m.g (h.nW m m1) (fun k hk' e2 => ?_)
      obtain ⟨k1, k2⟩ := h.of_slot hi hs hk'
      have := nd_eq h.gs k1 m1 e2
      subst this
      rw [k2] at m2
      simp only [Prod.mk.injEq] at m2
      exact e ⟨m2.1.symm, m2.2.symm⟩
  · unfold but
    rw [List.filter_filter]
    by_cases e : j = i ∧ t = s
    · obtain ⟨rfl, rfl⟩ := e
      rw [up_same, eS]
      have := (h.mem j t hj ht).filter (fun m => decide (m.g ≠ n.g))
      rw [List.filter_filter] at this
      refine this.trans (List.Perm.of_eq (List.filter_congr (fun m _ => ?_)))
      rw [Bool.and_comm]
    · rw [up_other _ _ _ _ e]
      refine (h.mem j t hj ht).trans (List.Perm.of_eq (List.filter_congr (fun m hm => ?_)))
      by_cases e3 : m.g = n.g
      · have := nd_eq h.gs hm hnL e3
        subst this
        rw [hp]
        simp
        exact fun x y => e ⟨x.symm, y.symm⟩
      · simp [e3]
  · exact List.Nodup.sublist ((List.filter_sublist).map Nd.g) h.gs
  · intro m hm
    exact h.nW m (List.mem_filter.1 hm).1
  · intro m hm
    exact h.lt m (List.mem_filter.1 hm).1

theorem cut_any (W mb c : Nat) (fl : Nat → Nat) (sl : Nat → Nat → List Nd) (L : List Nd) (n : Nd) (w : World) (h : SW w W mb c fl sl L) (hnL : n ∈ L) :
    Calls Tryd.prog 31 #[ptr W, ptr n.g] w fun e w' => e = .returned (.tuple #[]) ∧ ∃ fl' sl', SW w' W mb c fl' sl' (but L n) ∧ Kp (fun g => g = W ∨ ∃ m ∈ L, m.g = g) w w' ∧ w'.heap.size = w.heap.size := by
  have hc := h.c50
  have hat := h.lt n hnL
  have hpl := pl_lt hat (c := c) (by omega)
  have hpla := fun (W' : World) (h0 : W'.cell? ⟨W, 0, none⟩ = some (.int .i64 (c : Int))) => place_any W n.at_ c hat (by omega) W' h0
  have hin := (h.in_slot hnL).2.2
  obtain ⟨i, s, hp⟩ : ∃ i s, pl c n.at_ = (i, s) := ⟨_, _, rfl⟩
  rw [hp] at hpl hpla hin
  simp only at hpl hpla hin
  obtain ⟨L1, L2, hS⟩ := List.append_of_mem hin
  have nW := h.nW n hnL
  have seg := h.seg i s hpl.1 hpl.2
  rw [hS] at seg
  have seg2 := (seg_append w nilp (n :: L2) L1 nilp).1 seg
  have bn : Blk w n.g (ndc n (lstp nilp L1) (hdp nilp L2)) 81 := seg2.2.1
  have sg1 : Seg w nilp (ptr n.g) L1 := seg2.1
  have sg2 : Seg w (ptr n.g) nilp L2 := seg2.2.2
  have nd : ((sl i s).map Nd.g).Nodup := ((h.mem i s hpl.1 hpl.2).map Nd.g).nodup_iff.2 (List.Nodup.sublist ((List.filter_sublist).map Nd.g) h.gs)
  rw [hS, List.map_append, List.map_cons, List.nodup_append] at nd
  obtain ⟨d1, d2, d3⟩ := nd
  rw [List.nodup_cons] at d2
  have ck := h.wb.clock
  have n1 := bn.cell 1 (.int .i64 n.at_) rfl
  have n2 := bn.cell 2 (lstp nilp L1) rfl
  have n3 := bn.cell 3 (hdp nilp L2) rfl
  have tW := fun j => h.wb.thaw j
  have r1 := h.wb.ring _ hpl.1
  have s1 := h.wb.slot _ _ hpl.1 hpl.2
  have END := hide (fun fl' w1 => cut_end W mb c fl fl' sl L L1 L2 n w w1 h hnL i s hp hpl.1 hpl.2 hS)
  have H := hide h
  have HS := hide hS
  have s64 : (s : Int) < 64 := by omega
  have mW : ∀ m ∈ sl i s, m.g ≠ W := fun m hm => h.nW m (h.of_slot hpl.1 hpl.2 hm).1
  have MW := hide mW
  have SG1 := hide sg1; have SG2 := hide sg2; have D1 := hide d1; have D2 := hide d2; have D3 := hide d3
  have inS : ∀ m, m ∈ L1 ∨ m ∈ L2 → m ∈ sl i s := fun m hm => by
    rw [hS, List.mem_append, List.mem_cons]
    rcases hm with hm | hm
    · exact .inl hm
    · exact .inr (.inr hm)
  have INS := hide inS
  rcases (show L1 = [] ∨ ∃ A b, L1 = A ++ [b] by rcases List.eq_nil_or_concat L1 with h | ⟨A, b, h⟩; exact .inl h; exact .inr ⟨A, b, by simpa using h⟩) with rfl | ⟨A, b, rfl⟩
  · cases L2 with
    | nil =>
      obtain ⟨y, y1, y2, y3⟩ := not_bit (fl i) s (h.wb.lt i hpl.1) hpl.2
      have Y := hide (And.intro y1 (And.intro y2 y3))
      simp only [lstp, hdp] at n2 n3
      clear h hnL hp hin seg seg2 bn sg1 sg2 d1 d2 d3 mW hS y1 y2 y3 inS
      go_enter Tryd.func31, Tryd.ntmps31
      go_wp2_with fail
      refine (hpla _ (by assumption)).mono ?_
      rintro e W1 ⟨rfl, q, rfl⟩
      go_wp2_with fail
      go_region
      go_wp2_with fail
      go_region
      go_end0
      refine ⟨rfl, ?_⟩
      obtain ⟨y1, y2, y3⟩ := unhide Y
      rw [y1]
      have wb0 : WB (w.drewN q) W mb c fl sl := (unhide H).wb.kept rfl
      have wb1 := wb0.set i s hpl.1 hpl.2 [] y y2 (fun t ht => by rw [y3 t ht]; simp)
      refine unhide END _ _ (wb1.kept rfl) trivial (fun g hg hm => ?_) ?_ ⟨rfl, rfl, rfl⟩
      · show (((w.drewN q).setCell _ _).setCell _ _).heap[g]? = _
        rw [set_heap _ _ _ _ _ hg, set_heap _ _ _ _ _ hg]
        rfl
      · show (((w.drewN q).setCell _ _).setCell _ _).heap.size = _
        rw [set_size, set_size]; rfl
    | cons a t =>
      have an : a.g ≠ n.g := fun e => d2.1 (List.mem_map.2 ⟨a, by simp, e⟩)
      have aW := mW a (inS a (.inr (by simp)))
      have a2 := sg2.1.cell 2 (ptr n.g) rfl
      have ta := sg2.1.thaws
      simp only [lstp, hdp] at n2 n3
      clear h hnL hp hin seg seg2 bn sg1 sg2 d1 d2 d3 mW hS inS
      go_enter Tryd.func31, Tryd.ntmps31
      go_wp2_with fail
      refine (hpla _ (by assumption)).mono ?_
      rintro e W1 ⟨rfl, q, rfl⟩
      go_wp2_with fail
      go_region
      go_wp2_with fail
      go_region
      go_wp2_with fail
      go_end0
      refine ⟨rfl, ?_⟩
      have sg2 := unhide SG2
      have tl : ∀ k ∈ t, k.g ≠ a.g := fun k hk e => by
        have := (unhide D2).2
        rw [List.map_cons, List.nodup_cons] at this
        exact this.1 (List.mem_map.2 ⟨k, hk, e⟩)
      have wb0 : WB ((w.drewN q).setCell ⟨a.g, 2, none⟩ nilp) W mb c fl sl := ((unhide H).wb.kept (w' := w.drewN q) rfl).setO _ _ _ aW
      have wb1 := wb0.setS i s hpl.1 hpl.2 (a :: t) (by rw [unhide HS]; rfl)
      have sg : Seg (((w.drewN q).setCell ⟨a.g, 2, none⟩ nilp).setCell ⟨W, 2 + i * 65 + 1 + s, none⟩ (ptr a.g)) nilp nilp (a :: t) := by
        have b1 : Blk ((w.drewN q).setCell ⟨a.g, 2, none⟩ nilp) a.g (ndc a nilp (hdp nilp t)) 81 := (sg2.1.drewN q).setC 2 nilp
        exact ⟨b1.setO W _ _ (Ne.symm aW), ((sg2.2.drewN q).set _ _ _ tl).set _ _ _ (fun k hk => unhide MW k (unhide INS k (.inr (by simp [hk]))))⟩
      refine unhide END _ _ (wb1.kept rfl) (sg.kept (fun _ _ => rfl)) (fun g hg hm => ?_) ?_ ⟨rfl, rfl, rfl⟩
      · show (((w.drewN q).setCell _ _).setCell _ _).heap[g]? = _
        rw [set_heap _ _ _ _ _ hg, set_heap _ _ _ _ _ (Ne.symm (hm a (unhide INS a (.inr (by simp)))))]
        rfl
      · show (((w.drewN q).setCell _ _).setCell _ _).heap.size = _
        rw [set_size, set_size]; rfl
  · have bS : b ∈ sl i s := inS b (.inl (by simp))
    have bW := mW b bS
    have bn' : b.g ≠ n.g := d3 b.g (List.mem_map.2 ⟨b, by simp, rfl⟩) n.g (by simp)
    have sgb := (seg_append w (ptr n.g) [b] A nilp).1 sg1
    have bb : Blk w b.g (ndc b (lstp nilp A) (ptr n.g)) 81 := sgb.2.1
    have b3 := bb.cell 3 (ptr n.g) rfl
    have tb := bb.thaws
    have SGB := hide sgb
    have Ab : ∀ k ∈ A, k.g ≠ b.g := fun k hk e => by
      rw [List.map_append, List.nodup_append] at d1
      exact d1.2.2 k.g (List.mem_map.2 ⟨k, hk, rfl⟩) b.g (by simp) e
    have AB := hide Ab
    rw [lstp_snoc] at n2
    cases L2 with
    | nil =>
      simp only [hdp] at n3
      clear h hnL hp hin seg seg2 bn sg1 sg2 d1 d2 d3 mW hS sgb bb Ab bS inS
      go_enter Tryd.func31, Tryd.ntmps31
      go_wp2_with fail
      refine (hpla _ (by assumption)).mono ?_
      rintro e W1 ⟨rfl, q, rfl⟩
      go_wp2_with fail
      go_region
      go_wp2_with fail
      refine bodyPost_ret (results_none rfl _ _ _) rfl ?_
      refine ⟨rfl, ?_⟩
      have sgb := unhide SGB
      have wb0 : WB ((w.drewN q).setCell ⟨b.g, 3, none⟩ nilp) W mb c fl sl := ((unhide H).wb.kept (w' := w.drewN q) rfl).setO _ _ _ bW
      have wb1 := wb0.sameS i s ((A ++ [b]) ++ []) (by rw [unhide HS]; cases A <;> rfl) (by rw [unhide HS, List.append_nil, hdp_append, hdp_append, hdp_append]; rfl)
      have sg : Seg ((w.drewN q).setCell ⟨b.g, 3, none⟩ nilp) nilp nilp ((A ++ [b]) ++ []) := by
        rw [List.append_nil]
        refine (seg_append _ nilp [b] A nilp).2 ⟨(sgb.1.drewN q).set _ _ _ (unhide AB), ?_, trivial⟩
        exact (sgb.2.1.drewN q).setC 3 nilp
      refine unhide END _ _ (wb1.kept rfl) (sg.kept (fun _ _ => rfl)) (fun g hg hm => ?_) ?_ ⟨rfl, rfl, rfl⟩
      · show ((w.drewN q).setCell _ _).heap[g]? = _
        rw [set_heap _ _ _ _ _ (Ne.symm (hm b (unhide INS b (.inl (by simp)))))]
        rfl
      · show ((w.drewN q).setCell _ _).heap.size = _
        rw [set_size]; rfl
    | cons a t =>
      have an : a.g ≠ n.g := fun e => d2.1 (List.mem_map.2 ⟨a, by simp, e⟩)
      have ab : b.g ≠ a.g := d3 b.g (List.mem_map.2 ⟨b, by simp, rfl⟩) a.g (by simp)
      have aW := mW a (inS a (.inr (by simp)))
      have a2 := sg2.1.cell 2 (ptr n.g) rfl
      have ta := sg2.1.thaws
      simp only [hdp] at n3
      clear h hnL hp hin seg seg2 bn sg1 sg2 d1 d2 d3 mW hS sgb bb Ab bS inS
      go_enter Tryd.func31, Tryd.ntmps31
      go_wp2_with fail
      refine (hpla _ (by assumption)).mono ?_
      rintro e W1 ⟨rfl, q, rfl⟩
      go_wp2_with fail
      go_region
      go_wp2_with fail
      go_region
      go_wp2_with fail
      refine bodyPost_ret (results_none rfl _ _ _) rfl ?_
      refine ⟨rfl, ?_⟩
      have sgb := unhide SGB
      have sg2 := unhide SG2
      have tl : ∀ k ∈ t, k.g ≠ a.g := fun k hk e => by
        have := (unhide D2).2
        rw [List.map_cons, List.nodup_cons] at this
        exact this.1 (List.mem_map.2 ⟨k, hk, e⟩)
      have cr : ∀ x ∈ A ++ [b], ∀ k ∈ a :: t, x.g ≠ k.g := fun x hx k hk => unhide D3 x.g (List.mem_map.2 ⟨x, hx, rfl⟩) k.g (List.mem_cons_of_mem _ (List.mem_map.2 ⟨k, hk, rfl⟩))
      have wb0 : WB (((w.drewN q).setCell ⟨a.g, 2, none⟩ (ptr b.g)).setCell ⟨b.g, 3, none⟩ (ptr a.g)) W mb c fl sl := (((unhide H).wb.kept (w' := w.drewN q) rfl).setO _ _ _ aW).setO _ _ _ bW
      have wb1 := wb0.sameS i s ((A ++ [b]) ++ (a :: t)) (by rw [unhide HS]; cases A <;> rfl) (by rw [unhide HS, hdp_append, hdp_append, hdp_append, hdp_append]; rfl)
      have sg : Seg (((w.drewN q).setCell ⟨a.g, 2, none⟩ (ptr b.g)).setCell ⟨b.g, 3, none⟩ (ptr a.g)) nilp nilp ((A ++ [b]) ++ (a :: t)) := by
        refine (seg_append _ nilp (a :: t) (A ++ [b]) nilp).2 ⟨(seg_append _ _ [b] A nilp).2 ⟨?_, ?_, trivial⟩, ?_⟩
        · exact ((sgb.1.drewN q).set _ _ _ (fun k hk => cr k (by simp [hk]) a (by simp))).set _ _ _ (unhide AB)
        · exact ((sgb.2.1.drewN q).setO a.g 2 _ (Ne.symm ab)).setC 3 (ptr a.g)
        · rw [lstp_snoc]
          have b1 : Blk ((w.drewN q).setCell ⟨a.g, 2, none⟩ (ptr b.g)) a.g (ndc a (ptr b.g) (hdp nilp t)) 81 := (sg2.1.drewN q).setC 2 (ptr b.g)
          exact ⟨b1.setO b.g _ _ ab, ((sg2.2.drewN q).set _ _ _ tl).set _ _ _ (fun k hk => Ne.symm (cr b (by simp) k (by simp [hk])))⟩
      refine unhide END _ _ (wb1.kept rfl) (sg.kept (fun _ _ => rfl)) (fun g hg hm => ?_) ?_ ⟨rfl, rfl, rfl⟩
      · show (((w.drewN q).setCell _ _).setCell _ _).heap[g]? = _
        rw [set_heap _ _ _ _ _ (Ne.symm (hm b (unhide INS b (.inl (by simp))))), set_heap _ _ _ _ _ (Ne.symm (hm a (unhide INS a (.inr (by simp)))))]
        rfl
      · show (((w.drewN q).setCell _ _).setCell _ _).heap.size = _
        rw [set_size, set_size]; rfl
end Go.Proofs.YtbdjlhkgpblebaaDoor
