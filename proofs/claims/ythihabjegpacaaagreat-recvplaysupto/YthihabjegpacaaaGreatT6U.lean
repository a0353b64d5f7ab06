/- recv: join. -/
import Derived.Test.YthihabjegpacaaaGreatT6T
namespace Go.Proofs.YthihabjegpacaaaGreat
open Go.RowKit
set_option linter.unusedVariables false
set_option linter.unusedSimpArgs false
set_option maxHeartbeats 4000000
set_option maxRecDepth 100000

/-- The next n bytes. -/
def bytesT (S : Rv) (n : Nat) : List Int := (List.range n).map fun i : Nat => (S.T (S.read + (i : Int))).getD 0
theorem bytesT_len (S : Rv) (n : Nat) : (bytesT S n).length = n := by simp [bytesT]
theorem bytesT_get (S : Rv) {n i : Nat} (hi : i < n) {y : Int} (hy : S.T (S.read + (i : Int)) = some y) : (bytesT S n)[i]? = some y := by simp [bytesT, hi, hy]
theorem bytesT_is {S : Rv} {n : Nat} (h : ∀ i : Nat, i < n → (S.T (S.read + i)).isSome = true) {i : Nat} (hi : i < n) : (bytesT S n)[i]? = S.T (S.read + i) := by
  cases hy : S.T (S.read + (i : Int)) with
  | none => have := h i hi; rw [hy] at this; cases this
  | some y => exact bytesT_get S hi hy

/-- Behind the first k pieces. -/
structure JK (S : Rv) (E : List He) (n k at_ : Nat) : Prop where
  le : at_ ≤ n
  k0 : k = 0 → at_ = 0
  last : at_ = n ∨ ((∀ i x, i < k → E[i]? = some x → x.till ≤ S.read + at_) ∧ (0 < k → ∀ x, E[k]? = some x → S.read + at_ ≤ x.off))
theorem jk_0 (S : Rv) (E : List He) (n : Nat) : JK S E n 0 0 := ⟨Nat.zero_le _, fun _ => rfl, .inr ⟨fun i x h => by omega, fun h => by omega⟩⟩
theorem JK.cover {S : Rv} {E : List He} {n k at_ : Nat} (hE : HeOk S E) (got : ∀ i : Nat, i < n → (S.T (S.read + i)).isSome = true) (h : JK S E n k at_) (hlt : at_ < n) : ∃ x, E[k]? = some x ∧ x.off ≤ S.read + at_ ∧ S.read + at_ < x.till ∧ (0 < k → x.off = S.read + at_) := by
  obtain ⟨l1, l2⟩ := h.last.resolve_left (by omega)
  obtain ⟨e, he, q1, q2⟩ := hE.all (S.read + at_) (by omega) (got at_ hlt)
  obtain ⟨j, hj⟩ := List.getElem?_of_mem he
  have hjl : j < E.length := (List.getElem?_eq_some_iff.1 hj).1
  by_cases c : j < k
  · have := l1 j e c hj; omega
  · by_cases c2 : j = k
    · subst c2
      exact ⟨e, hj, q1, q2, fun h0 => by have := l2 h0 e hj; omega⟩
    · exfalso
      obtain ⟨x, hx⟩ : ∃ x, E[k]? = some x := ⟨_, List.getElem?_eq_getElem (by omega)⟩
      have ht := till_le hE hx hj (by omega)
      have px := hE.pos x (List.mem_of_getElem? hx)
      by_cases k0 : k = 0
      · have := h.k0 k0; omega
      · have := l2 (by omega) x hx
        have hl : 0 < x.p.length := List.length_pos_iff.2 px.2.1
        have : x.till = x.off + x.p.length := rfl
        omega
theorem JK.step {S : Rv} {E : List He} {n k at_ : Nat} (hE : HeOk S E) (h : JK S E n k at_) (hlt : at_ < n) {x : He} (hx : E[k]? = some x) (h1 : x.off ≤ S.read + at_) (h2 : S.read + at_ < x.till) : JK S E n (k + 1) (at_ + Nat.min (x.p.length - (S.read + at_ - x.off).toNat) (n - at_)) := by
  obtain ⟨l1, l2⟩ := h.last.resolve_left (by omega)
  have ht : x.till = x.off + x.p.length := rfl
  have hmr : Nat.min (x.p.length - (S.read + at_ - x.off).toNat) (n - at_) ≤ n - at_ := Nat.min_le_right _ _
  refine ⟨by omega, fun q => by omega, ?_⟩
  by_cases c : n - at_ ≤ x.p.length - (S.read + at_ - x.off).toNat
  · left; rw [show Nat.min (x.p.length - (S.read + at_ - x.off).toNat) (n - at_) = n - at_ from Nat.min_eq_right c]; omega
  · right
    rw [show Nat.min (x.p.length - (S.read + at_ - x.off).toNat) (n - at_) = x.p.length - (S.read + at_ - x.off).toNat from Nat.min_eq_left (by omega)]
    have e : S.read + ((at_ + (x.p.length - (S.read + at_ - x.off).toNat) : Nat) : Int) = x.till := by omega
    rw [e]
    refine ⟨fun i y hi hy => ?_, fun _ y hy => till_le hE hx hy (by omega)⟩
    by_cases ci : i = k
    · subst ci; rw [hx] at hy; cases hy; exact Int.le_refl _
    · have := l1 i y (by omega) hy; omega

section
variable {w W : World} {M : Nat → Prop} {b bk : Nat} {vh : Value} {E : List He} {S : Rv}
/-- What join leaves. -/
structure JoinP (S : Rv) (n : Nat) (W W' : World) : Prop where
  blk : Blk W' W.heap.size (by8 (bytesT S n)) 5
  gr : W.grownBy W' none
def JI (W : World) (S : Rv) (n at_ : Nat) (X : World) : Prop := Blk X W.heap.size (by8 ((bytesT S n).take at_ ++ List.replicate (n - at_) 0)) 5 ∧ W.grownBy X none

theorem join_at (h : RA w M b bk vh E W S) (hok : RvOk S) (hE : HeOk S E) (nE : E.length ≤ 100000000) (n : Nat) (hn : n ≤ 1000000000) (got : ∀ i : Nat, i < n → (S.T (S.read + i)).isSome = true) :
    Calls Tryz.prog 30 #[ptr b, .int .i64 n] W fun e W' => e = .returned (.slice (some ⟨W.heap.size, 0, none⟩) n n) ∧ JoinP S n W W' := by
  obtain ⟨va, c, ev, hc1, hc2, hrow⟩ := h.held
  obtain ⟨-, c1, -, -, -, c5, -, -⟩ := h.cells
  have hr0 := hok.r0; have hrh := hok.rh; have hhl := hok.hl; have hlm := hok.lm
  have hmk := mk_zeros n (by omega) W
  obtain ⟨W1, hW1⟩ : ∃ W1, W1 = W.alloc (.cells (by8 (List.replicate n 0)) 5) := ⟨_, rfl⟩
  rw [← hW1] at hmk
  have g1 : W.grownBy W1 none := by rw [hW1]; exact grown_alloc _ _
  have J0 : Hid (JI W S n 0 W1) := by
    refine ⟨?_, g1⟩
    rw [hW1]; simp only [List.take_zero, List.nil_append, Nat.sub_zero]; exact Blk.new _ _ _
  have c5' := cell_grown c5 g1
  have c1' := cell_grown c1 g1
  obtain ⟨gd, hgd⟩ : ∃ gd, gd = W.heap.size := ⟨_, rfl⟩
  have HGD := hide hgd
  rw [← hgd] at hmk ⊢
  have H := hide h
  have HOK := hide hok
  have HE := hide hE
  have HR := hide hrow
  have GOT := hide got
  subst ev
  obtain ⟨len, hlen⟩ : ∃ len, len = E.length := ⟨_, rfl⟩
  rw [← hlen] at c5 c5' hc1 nE
  have HL := hide hlen
  have CC := hide c1
  clear h hok hE hrow hlen got hW1 g1 hgd c5 c1 c1'
  go_enter Tryz.func30, Tryz.ntmps30
  go_wp2_with (refine wpList_make_run _ rfl 36 _ _ rfl _ _ rfl rfl hmk ?_)
  clear hmk
  go_loopw [6, 16] (fun av ix X => ∃ (k at_ : Nat), k ≤ len ∧ av = .int .i64 at_ ∧ ix = .int .i64 k ∧ Hid (JK S E n k at_ ∧ JI W S n at_ X)) (fun _ ix _ => len - (intOf ix).toNat)
  case atStart => exact ⟨0, 0, Nat.zero_le _, rfl, rfl, jk_0 S E n, unhide J0⟩
  case round =>
    clear J0
    obtain ⟨k, at_, hk, rfl, rfl, I⟩ := hrel
    obtain ⟨X, hX⟩ : ∃ X, X = wr := ⟨_, rfl⟩
    subst hX
    obtain ⟨I1, I2, I3⟩ := unhide I
    have ale := I1.le
    have DONE : Hid (at_ = n → ∀ Z, X.grownBy Z none → JoinP S n W Z) := fun e Z gz => by
      refine ⟨?_, grown_trans I3 gz⟩
      have := I2.grown gz
      rw [e, Nat.sub_self, List.replicate_zero, List.append_nil, List.take_of_length_le (by rw [bytesT_len]; exact Nat.le_refl _)] at this
      exact this
    by_cases hlt : k < len
    · have hkE : k < E.length := by rw [← unhide HL]; exact hlt
      obtain ⟨x, hx⟩ : ∃ x, E[k]? = some x := ⟨_, List.getElem?_eq_getElem hkE⟩
      have hxm := List.mem_of_getElem? hx
      have hne : E ≠ [] := fun q => by rw [q] at hkE; simp at hkE
      obtain ⟨g, q, eva, hcell⟩ := (unhide HR).resolve_left hne
      subst eva
      have x0 := cell_grown (hcell k x hx).1 I3
      have x1 := cell_grown (hcell k x hx).2 I3
      have r1 := cell_grown (unhide CC) I3
      have hkn : (k : Int) < (len : Int) := by omega
      obtain ⟨Xb, hXb⟩ : ∃ Xb, Xb = X.alloc (.cells #[.int .i64 x.off, .slice (some ⟨x.g, 0, none⟩) x.p.length x.p.length] 88) := ⟨_, rfl⟩
      have gb : X.grownBy Xb none := by rw [hXb]; exact grown_alloc _ _
      have bb : Blk Xb X.heap.size #[.int .i64 x.off, .slice (some ⟨x.g, 0, none⟩) x.p.length x.p.length] 88 := by rw [hXb]; exact Blk.new _ _ _
      have y0 : Xb.cell? ⟨X.heap.size, 0, none⟩ = some (.int .i64 x.off) := bb.cell 0 _ rfl
      have y1 : Xb.cell? ⟨X.heap.size, 1, none⟩ = some (.slice (some ⟨x.g, 0, none⟩) x.p.length x.p.length) := bb.cell 1 _ rfl
      have yr := cell_grown r1 gb
      have k1 : IntKind.i64.wrap ((k : Int) + 1) = ((k + 1 : Nat) : Int) := by rw [IntKind.wrap_i64]; omega
      by_cases cat : at_ = n
      · have D := hide (unhide DONE cat Xb gb)
        have dq : ((at_ : Int) == (n : Int)) = true := by rw [cat]; simp
        clear I1 I2 I3 I hcell hxm hne hkE hx r1 bb DONE hlt cat
        rw [hXb] at y0 y1 yr
        go_upto_region 6 with fail
        rw [← hXb]
        clear x0 x1 y0 y1 yr
        replace hXb := hide hXb
        go_wp2_with fail
        all_goals go_ret
        all_goals exact ⟨rfl, unhide D⟩
      · obtain ⟨x', hx', o1, o2, o3⟩ := I1.cover (unhide HE) (unhide GOT) (by omega)
        rw [hx] at hx'
        cases hx'
        have bx := (unhide HOK).till (unhide HE) hxm
        have htx : x.till = x.off + x.p.length := rfl
        have dq : ((at_ : Int) == (n : Int)) = false := by simp; omega
        obtain ⟨sk, hsk⟩ : ∃ sk, sk = (S.read + at_ - x.off).toNat := ⟨_, rfl⟩
        obtain ⟨m, hm⟩ : ∃ m, m = Nat.min (x.p.length - sk) (n - at_) := ⟨_, rfl⟩
        have J2 := I1.step (unhide HE) (by omega) hx o1 o2
        rw [← hsk, ← hm] at J2
        have m1 : m ≤ x.p.length - sk := by rw [hm]; exact Nat.min_le_left _ _
        have m2 : m ≤ n - at_ := by rw [hm]; exact Nat.min_le_right _ _
        have skl : sk < x.p.length := by omega
        -- the bytes
        have bl : ∀ j y, ((x.p.drop sk).take m)[j]? = some y → S.T (S.read + ((at_ + j : Nat) : Int)) = some y ∧ x.p[sk + j]? = some y := fun j y hj => by
          have hjm : j < m := by have := (List.getElem?_eq_some_iff.1 hj).1; simp at this; omega
          rw [List.getElem?_take, if_pos hjm, List.getElem?_drop] at hj
          have := (unhide HE).is x hxm (sk + j) y hj
          rw [show x.off + ((sk + j : Nat) : Int) = S.read + ((at_ + j : Nat) : Int) by omega] at this
          exact ⟨this, hj⟩
        have lx : ((x.p.drop sk).take m).length = m := by simp; omega
        have hB : Blk Xb.drew gd (by8 ((bytesT S n).take at_ ++ (List.replicate m 0 ++ List.replicate (n - at_ - m) 0))) 5 := by
          have := I2.grown gb
          rw [← unhide HGD, show List.replicate (n - at_) (0 : Int) = List.replicate m 0 ++ List.replicate (n - at_ - m) 0 by rw [List.replicate_append_replicate]; congr 1; omega] at this
          exact this
        have pg := ((unhide H).pcs x hxm).1.grown (grown_trans I3 gb)
        have hcp := fun ty => run_copy8 Xb.drew ty gd at_ (n - at_) (n - at_) ⟨x.g, sk, none⟩ (x.p.length - sk) (x.p.length - sk) ((bytesT S n).take at_) (List.replicate m 0) (List.replicate (n - at_ - m) 0) ((x.p.drop sk).take m) hB (by rw [List.length_take, bytesT_len]; omega) (by rw [lx]; simp) (by rw [lx, hm]) (fun j y hj => by
          rw [Addr.add_lit]
          exact pg.cell (sk + j) _ (by8_get _ _ _ (bl j y hj).2))
        rw [← hm] at hcp
        obtain ⟨X2, hX2⟩ : ∃ X2, X2 = Xb.drew.setRow gd (by8 ((bytesT S n).take at_ ++ ((x.p.drop sk).take m ++ List.replicate (n - at_ - m) 0))) := ⟨_, rfl⟩
        have NJ : Hid (JK S E n (k + 1) (at_ + m) ∧ JI W S n (at_ + m) X2) := by
          refine ⟨J2, ?_, ?_⟩
          · have e : (bytesT S n).take at_ ++ ((x.p.drop sk).take m ++ List.replicate (n - at_ - m) 0) = (bytesT S n).take (at_ + m) ++ List.replicate (n - (at_ + m)) 0 := by
              rw [← List.append_assoc, show n - at_ - m = n - (at_ + m) by omega]
              congr 1
              rw [List.take_add]
              congr 1
              apply List.ext_getElem?
              intro j
              by_cases hj : j < m
              · obtain ⟨y, hy⟩ : ∃ y, ((x.p.drop sk).take m)[j]? = some y := ⟨_, List.getElem?_eq_getElem (by rw [lx]; exact hj)⟩
                rw [hy, List.getElem?_take, if_pos hj, List.getElem?_drop]
                exact (bytesT_get S (by omega) (bl j y hy).1).symm
              · rw [List.getElem?_eq_none (by rw [lx]; omega), List.getElem?_eq_none (by simp; omega)]
            have := hB.row (by8 ((bytesT S n).take at_ ++ ((x.p.drop sk).take m ++ List.replicate (n - at_ - m) 0)))
            rw [← hX2, e, unhide HGD] at this
            exact this
          · rw [hX2]
            exact grown_row (grown_drew' (grown_trans I3 gb)) _ _ (by rw [unhide HGD]; exact Nat.le_refl _)
        simp only [← hX2] at hcp
        have HLT := hide hlt
        have ka : IntKind.i64.wrap ((at_ : Int) + (m : Int)) = ((at_ + m : Nat) : Int) := by rw [IntKind.wrap_i64]; omega
        have b1 : (at_ : Int) ≤ (n : Int) := by omega
        have b2 : ¬ (n = at_) := by omega
        have b3 : ¬ (x.p.length = sk) := by omega
        have b4 : (sk : Int) ≤ (x.p.length : Int) := by omega
        have wd : IntKind.i64.wrap (S.read - x.off) = S.read - x.off := by rw [IntKind.wrap_i64]; omega
        have alt : (S.read - x.off = (sk : Int) ∧ 0 < sk) ∨ (S.read - x.off ≤ 0 ∧ sk = 0) := by
          by_cases k0 : k = 0
          · have := I1.k0 k0
            by_cases z : sk = 0
            · right; omega
            · left; omega
          · have := o3 (by omega); right; omega
        clear I1 I2 I3 I hcell hxm hne hkE hx r1 bb DONE hlt cat o1 o2 o3 bx htx hsk hm J2 m1 m2 skl bl lx hB pg hX2 gb
        rw [hXb] at y0 y1 yr
        go_upto_region 6 with fail
        rw [← hXb]
        rw [← hXb] at y0 y1 yr
        clear x0 x1
        replace hXb := hide hXb
        generalize x.off = xo at *
        generalize x.p.length = xl at *
        rcases alt with ⟨e1, e2⟩ | ⟨e1, e2⟩
        · have e3 : ¬ S.read - xo ≤ 0 := by omega
          have e4 : 0 ≤ S.read - xo := by omega
          rw [e1] at wd e3 e4
          have HE1 := hide e1
          go_upto_region 7 with fail
          go_region_law (refine step_copy_run rfl _ _ 36 36 rfl _ _ (by simp [Act.eval, Act.put]) (by simp [Act.eval, Act.put]) (hcp _) ?_)
          go_wp2_with fail
          all_goals exact ⟨⟨k + 1, at_ + m, unhide HLT, by go_num, by go_num, NJ⟩, by simp [intOf]; have := unhide HLT; omega⟩
        · subst e2
          simp only [Nat.sub_zero] at hcp
          by_cases e3 : 0 ≤ S.read - xo
          · have e4 : S.read - xo = 0 := by omega
            rw [e4] at wd e1 e3
            go_upto_region 7 with fail
            go_region_law (refine step_copy_run rfl _ _ 36 36 rfl _ _ (by simp [Act.eval, Act.put]) (by simp [Act.eval, Act.put]) (hcp _) ?_)
            all_goals go_wp2_with fail
            all_goals exact ⟨⟨k + 1, at_ + m, unhide HLT, by go_num, by go_num, NJ⟩, by simp [intOf]; have := unhide HLT; omega⟩
          · have e5 : max (S.read - xo) 0 = 0 := by omega
            go_upto_region 7 with fail
            go_region_law (refine step_copy_run rfl _ _ 36 36 rfl _ _ (by simp [Act.eval, Act.put]) (by simp [Act.eval, Act.put]) (hcp _) ?_)
            all_goals go_wp2_with fail
            all_goals exact ⟨⟨k + 1, at_ + m, unhide HLT, by go_num, by go_num, NJ⟩, by simp [intOf]; have := unhide HLT; omega⟩
    · obtain rfl : k = len := by omega
      have hno : ¬ (k : Int) < (k : Int) := by omega
      have hat : at_ = n := by
        by_cases ca : at_ = n
        · exact ca
        · obtain ⟨x, hx, -⟩ := I1.cover (unhide HE) (unhide GOT) (by omega)
          have := (List.getElem?_eq_some_iff.1 hx).1
          rw [← unhide HL] at this
          omega
      have D := hide (unhide DONE hat X (grown_self _ _))
      clear I1 I2 I3 I DONE hat
      go_wp2_with fail
      all_goals go_ret
      all_goals exact ⟨rfl, unhide D⟩
end
end Go.Proofs.YthihabjegpacaaaGreat
