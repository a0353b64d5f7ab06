/- turn. -/
import Derived.Test.YtbdjlhkgpblebaaDoorHN
import Derived.Deep.RegionHeldLaw
namespace Go.Proofs.YtbdjlhkgpblebaaDoor
open Go.RowKit Go.Shelf
set_option linter.unusedVariables false
set_option maxRecDepth 100000
set_option maxHeartbeats 1000000

/-- What lies on faster rings than i. -/
def fastR (c i : Nat) (n : Nd) : Bool := decide ((pl c n.at_).1 < i)
/-- What is taken out as time goes on from c to t. -/
def outR (c t : Nat) (n : Nd) : Bool := decide ((pl c n.at_).1 < pt c t ∨ ((pl c n.at_).1 = pt c t ∧ (pl c n.at_).2 ≤ dg t (pt c t)))

structure TI (w : World) (W mb c : Nat) (L : List Nd) (A : Nd → Bool) (wr : World) (v : Value) (fl : Nat → Nat) (sl : Nat → Nat → List Nd) : Prop where
  sw : SW wr W mb c fl sl (L.filter (fun n => !A n))
  row : wr.ownsRow w.heap.size 67 1 v (L.filter A).length (ptrs (L.filter A))
  kp : Kp (fun g => g = W) w wr

theorem TI.drewN {w : World} {W mb c : Nat} {L : List Nd} {A : Nd → Bool} {wr : World} {v : Value} {fl : Nat → Nat} {sl : Nat → Nat → List Nd} (h : TI w W mb c L A wr v fl sl) (q : Nat) : TI w W mb c L A (wr.drewN q) v fl sl := ⟨h.sw.kept rfl (fun _ _ => rfl), h.row, h.kp.drewN q⟩
theorem TI.drew {w : World} {W mb c : Nat} {L : List Nd} {A : Nd → Bool} {wr : World} {v : Value} {fl : Nat → Nat} {sl : Nat → Nat → List Nd} (h : TI w W mb c L A wr v fl sl) : TI w W mb c L A wr.drew v fl sl := h.drewN 1
theorem TI.len {w : World} {W mb c : Nat} {L : List Nd} {A : Nd → Bool} {wr : World} {a : Option Addr} {m c' : Nat} {fl : Nat → Nat} {sl : Nat → Nat → List Nd} (h : TI w W mb c L A wr (.slice a m c') fl sl) : (L.filter A).length = m := row_len h.row

/-- One ring more (slots up to 'last'), and the row grown by what it held. -/
theorem TI.step {w : World} {W mb c : Nat} {L : List Nd} {A A' : Nd → Bool} {wr W3 : World} {a a2 : Option Addr} {m c' c2 : Nat} {fl fl2 : Nat → Nat} {sl sl2 : Nat → Nat → List Nd} (h : TI w W mb c L A wr (.slice a m c') fl sl) (i last : Nat)
    (hs : Srt L) (hlen : L.length ≤ 4096) (hW : W < w.heap.size) (hL : ∀ n ∈ L, n.at_ < 2 ^ 62 ∧ n.g < w.heap.size)
    (hA : ∀ n ∈ L, A' n = (A n || (!A n && inR c i (last + 1) n))) (hb : ∀ n ∈ L, A n = true → (pl c n.at_).1 < i)
    (e : EI wr W mb c i (L.filter (fun n => !A n)) (last + 1) W3 (.slice a2 (tookR c i (last + 1) (L.filter (fun n => !A n))).length c2) fl2 sl2) :
    ∃ a3 m3 c3 W4, (Builtin.append_ #[76, 76] 76 #[.slice a m c', .slice a2 (tookR c i (last + 1) (L.filter (fun n => !A n))).length c2]).run Tryd.prog W3 = .ok (.slice a3 m3 c3) W4 ∧ TI w W mb c L A' W4 (.slice a3 m3 c3) fl2 sl2 := by
  have hc := h.sw.c50
  have hB : w.heap.size ≤ W3.heap.size := Nat.le_trans h.kp.size e.kp.size
  have row3 : W3.ownsRow w.heap.size 67 1 (.slice a m c') (L.filter A).length (ptrs (L.filter A)) := row_kpt h.row (fun g h1 h2 _ => e.kp.block g h2 (by omega))
  have hl2 : (L.filter A).length ≤ 4096 := Nat.le_trans (List.length_filter_le _ _) hlen
  have hl3 : (tookR c i (last + 1) (L.filter (fun n => !A n))).length ≤ 4096 := Nat.le_trans (List.length_filter_le _ _) (Nat.le_trans (List.length_filter_le _ _) hlen)
  obtain ⟨a3, c3, W4, hrun, ho4, g4⟩ := app_ptrs W3 w.heap.size wr.heap.size 76 _ _ row3 a2 c2 _ _ rfl e.row (by omega) hB
  have vb : ∀ g, (Value.slice a m c').ownBlock = some g → w.heap.size ≤ g := fun g e => (h.row.lt g e).1
  have keep : ∀ g, g < w.heap.size → W4.heap[g]? = W3.heap[g]? := fun g hg => g4.block g (Nat.lt_of_lt_of_le hg hB) (fun e => by have := vb g e.symm; omega)
  have e1 : L.filter A ++ tookR c i (last + 1) (L.filter (fun n => !A n)) = L.filter A' := by
    unfold tookR
    rw [List.filter_filter, filter_two L hs]
    · apply List.filter_congr
      intro n hn
      rw [hA n hn, Bool.and_comm]
    · intro x y hx hy px qy
      simp only [Bool.and_eq_true] at qy
      have q1 := qy.1
      unfold inR at q1
      simp only [decide_eq_true_eq] at q1
      have := pl_mono (hL x hx).1 (hL y hy).1 (c := c) (by omega) (.inl (by rw [q1.1]; exact hb x hx px))
      unfold lt2; omega
    · intro x px qx
      rw [px] at qx; simp at qx
  have e2 : leftR c i (last + 1) (L.filter (fun n => !A n)) = L.filter (fun n => !A' n) := by
    unfold leftR
    rw [List.filter_filter]
    apply List.filter_congr
    intro n hn
    rw [hA n hn]
    cases A n <;> cases inR c i (last + 1) n <;> rfl
  rw [e1] at ho4 hrun
  refine ⟨a3, _, c3, W4, hrun, ?_, ho4, ⟨g4.os.trans (e.kp.os.trans h.kp.os), g4.tape.trans (e.kp.tape.trans h.kp.tape), g4.output.trans (e.kp.output.trans h.kp.output), Nat.le_trans hB g4.size, fun g hg hn => (keep g hg).trans ((e.kp.block g (Nat.lt_of_lt_of_le hg h.kp.size) hn).trans (h.kp.block g hg hn))⟩⟩
  rw [← e2]
  refine e.sw.kept (keep W hW) (fun n hn => keep n.g (hL n ?_).2)
  exact (List.mem_filter.1 (List.mem_filter.1 hn).1).1

/-- The clock has gone on. -/
theorem TI.ends {w : World} {W mb c t : Nat} {L : List Nd} {wr : World} {v : Value} {fl : Nat → Nat} {sl : Nat → Nat → List Nd} (h : TI w W mb c L (outR c t) wr v fl sl) (hW : W < w.heap.size) (hL : ∀ n ∈ L, n.at_ < 2 ^ 62 ∧ n.g < w.heap.size) (hct : c ≤ t) (ht : t ≤ 2 ^ 50) (q : Nat) :
    SW ((wr.setCell ⟨W, 0, none⟩ (.int .i64 (t : Int))).drewN q) W mb t fl sl (L.filter (fun n => !outR c t n)) ∧ ((wr.setCell ⟨W, 0, none⟩ (.int .i64 (t : Int))).drewN q).ownsRow w.heap.size 67 1 v (L.filter (outR c t)).length (ptrs (L.filter (outR c t))) ∧ Kp (fun g => g = W) w ((wr.setCell ⟨W, 0, none⟩ (.int .i64 (t : Int))).drewN q) := by
  have hc := h.sw.c50
  have wb := h.sw.wb.tick t
  refine ⟨⟨⟨wb.ex, wb.bit, wb.lt⟩, fun i s hi hs => ?_, fun i s hi hs => ?_, h.sw.gs, h.sw.nW, h.sw.lt, ht⟩, ?_, (h.kp.set W _ _ (fun _ => rfl)).drewN q⟩
  · exact ((h.sw.seg i s hi hs).set _ _ _ (fun n hn => h.sw.nW n (h.sw.of_slot hi hs hn).1)).drewN q
  · refine (h.sw.mem i s hi hs).trans (List.Perm.of_eq (List.filter_congr (fun n hn => ?_)))
    have hn2 := (List.mem_filter.1 hn)
    have ho := hn2.2
    unfold outR at ho
    simp only [Bool.not_eq_eq_eq_not, Bool.not_true, decide_eq_false_iff_not] at ho
    rw [(pl_stays (hL n hn2.1).1 (t := t) (c := c) (by omega) hct (by omega)).1]
  · refine row_kpt h.row (fun g h1 h2 _ => ?_)
    show (wr.setCell _ _).heap[g]? = _
    rw [set_heap _ _ _ _ _ (by omega)]

def TurnPost (w : World) (W mb c t : Nat) (L : List Nd) (e : Ending) (w' : World) : Prop :=
  ∃ (a : Option Addr) (m c' : Nat) (fl : Nat → Nat) (sl : Nat → Nat → List Nd), e = .returned (.slice a m c') ∧ (L.filter (outR c t)).length = m ∧ SW w' W mb t fl sl (L.filter (fun n => !outR c t n)) ∧
    w'.ownsRow w.heap.size 67 1 (.slice a m c') (L.filter (outR c t)).length (ptrs (L.filter (outR c t))) ∧ Kp (fun g => g = W) w w'

theorem turn_any (W mb c t : Nat) (fl : Nat → Nat) (sl : Nat → Nat → List Nd) (L : List Nd) (w : World) (h : SW w W mb c fl sl L) (ht : Tb w) (hs : Srt L) (hlen : L.length ≤ 4096) (hct : c ≤ t) (h50 : t ≤ 2 ^ 50) :
    Calls Tryd.prog 32 #[ptr W, .int .i64 t] w (TurnPost w W mb c t L) := by
  have hc := h.c50
  have hL : ∀ n ∈ L, n.at_ < 2 ^ 62 ∧ n.g < w.heap.size := fun n hn => ⟨h.lt n hn, by obtain ⟨b, f, hb⟩ := h.node hn; exact hb.lt⟩
  have hpl : ∀ n ∈ L, (pl c n.at_).2 < 64 := fun n hn => (pl_lt (hL n hn).1 (c := c) (by omega)).2
  have hW := h.wb.W_lt
  have hW0 := h.wb.W_pos ht
  have ck := h.wb.clock
  have hp := fun w => parting_any c t (by omega) (by omega) w
  have hd := fun w => digit_any t (pt c t) (by omega) (pt_le (by omega) (by omega)) w
  have hle := pt_le (a := c) (c := t) (by omega) (by omega)
  have hdl := dg_lt t (pt c t)
  have st : TI w W mb c L (fastR c 0) w (.slice none 0 0) fl sl := by
    have e1 : L.filter (fun n => !fastR c 0 n) = L := List.filter_eq_self.2 (fun n _ => by unfold fastR; simp)
    have e2 : L.filter (fastR c 0) = [] := List.filter_eq_nil_iff.2 (fun n _ => by unfold fastR; simp)
    exact ⟨by rw [e1]; exact h, by rw [e2]; exact World.ownsRow_nil _ _ _ _, Kp.refl _ _⟩
  -- one ring, up to a slot
  have RING : Hid (∀ (i last : Nat) (wr : World) (a : Option Addr) (m c' : Nat) (fl' : Nat → Nat) (sl' : Nat → Nat → List Nd) (A' : Nd → Bool), i < 11 → last < 64 → TI w W mb c L (fastR c i) wr (.slice a m c') fl' sl' → (∀ n ∈ L, A' n = (fastR c i n || (!fastR c i n && inR c i (last + 1) n))) →
      Calls Tryd.prog 44 #[.pointer (some ⟨W, 2 + i * 65, none⟩), .int .i64 last] wr fun e W3 => ∃ a2 m2 c2, e = .returned (.slice a2 m2 c2) ∧ Hid (∃ fl2 sl2 a3 m3 c3 W4, (Builtin.append_ #[76, 76] 76 #[.slice a m c', .slice a2 m2 c2]).run Tryd.prog W3 = .ok (.slice a3 m3 c3) W4 ∧ TI w W mb c L A' W4 (.slice a3 m3 c3) fl2 sl2)) := by
    intro i last wr a m c' fl' sl' A' hi hl ti hA
    have hle' : (L.filter (fun n => !fastR c i n)).length ≤ 4096 := Nat.le_trans (List.length_filter_le _ _) hlen
    refine (empty_any W mb c fl' sl' _ wr ti.sw (ht.kp ti.kp hW0) (hs.filter _) hle' i last hi hl).mono ?_
    rintro e W3 ⟨a2, c2, fl2, sl2, rfl, ei⟩
    obtain ⟨a3, m3, c3, W4, h1, h2⟩ := ti.step i last hs hlen hW hL hA (fun n hn h => by unfold fastR at h; simpa using h) ei
    exact ⟨a2, _, c2, rfl, fl2, sl2, a3, m3, c3, W4, h1, h2⟩
  have NEXT : Hid (∀ i n, n ∈ L → fastR c (i + 1) n = (fastR c i n || (!fastR c i n && inR c i (63 + 1) n))) := by
    intro i n hn
    have := hpl n hn
    unfold fastR inR
    by_cases c1 : (pl c n.at_).1 < i <;> by_cases c2 : (pl c n.at_).1 = i <;> simp [c1, c2, this] <;> omega
  have LAST : Hid (∀ n, n ∈ L → outR c t n = (fastR c (pt c t) n || (!fastR c (pt c t) n && inR c (pt c t) (dg t (pt c t) + 1) n))) := by
    intro n hn
    unfold outR fastR inR
    by_cases c1 : (pl c n.at_).1 < pt c t <;> by_cases c2 : (pl c n.at_).1 = pt c t <;> simp [c1, c2] <;> omega
  have END : Hid (∀ (wr : World) (v : Value) (fl' : Nat → Nat) (sl' : Nat → Nat → List Nd), TI w W mb c L (outR c t) wr v fl' sl' → ∀ q, SW ((wr.setCell ⟨W, 0, none⟩ (.int .i64 (t : Int))).drewN q) W mb t fl' sl' (L.filter (fun n => !outR c t n)) ∧ ((wr.setCell ⟨W, 0, none⟩ (.int .i64 (t : Int))).drewN q).ownsRow w.heap.size 67 1 v (L.filter (outR c t)).length (ptrs (L.filter (outR c t))) ∧ Kp (fun g => g = W) w ((wr.setCell ⟨W, 0, none⟩ (.int .i64 (t : Int))).drewN q)) := fun wr v fl' sl' ti q => ti.ends hW hL hct h50 q
  have ST := hide st
  clear st h hL hs ht hlen hpl
  generalize htop : pt c t = top at *
  generalize hdg : dg t top = last at *
  have HT := hide htop; have HD := hide hdg
  clear htop hdg
  have topI : (top : Int) < 11 := by omega
  go_enter Tryd.func32, Tryd.ntmps32
  go_wp2_with fail
  refine (hp _).mono ?_
  rintro e W1 ⟨rfl, hw⟩
  replace hw := hw.symm
  subst hw
  go_wp2_with fail
  go_loopw [6, 15] (fun lv iv wr => ∃ (i m c' : Nat) (a : Option Addr), lv = .slice a m c' ∧ iv = .int .i64 i ∧ i ≤ top ∧ Hid (∃ fl' sl', TI w W mb c L (fastR c i) wr (.slice a m c') fl' sl')) (fun _ iv _ => top - (intOf iv).toNat)
  case atStart => exact ⟨0, 0, 0, none, rfl, rfl, Nat.zero_le _, fl, sl, unhide ST⟩
  case round =>
    obtain ⟨i, m, c', a, rfl, rfl, hit, H⟩ := hrel
    clear ST ck hp
    by_cases hlt : i < top
    · have iI : (i : Int) < (top : Int) := by omega
      have i11 : (i : Int) < 11 := by omega
      obtain ⟨fl', sl', ti⟩ := unhide H
      have em := unhide RING i 63 wr a m c' fl' sl' (fastR c (i + 1)) (by omega) (by omega) ti (unhide NEXT i)
      rw [show (((63 : Nat)) : Int) = 63 from rfl] at em
      clear ti H RING
      go_wp2_with fail
      refine em.mono ?_
      rintro e W3 ⟨a2, m2, c2, rfl, HE⟩
      obtain ⟨fl2, sl2, a3, m3, c3, W4, hrun, ti4⟩ := unhide HE
      have HRUN := hide hrun
      have TI4 := hide ti4
      clear hrun ti4 HE em
      go_wp2_with (at_builtin; refine wpList_append_runQ _ rfl _ _ 76 76 rfl _ _ rfl rfl (unhide HRUN) ?_)
      exact ⟨⟨i + 1, m3, c3, a3, rfl, by go_num, hlt, fl2, sl2, unhide TI4⟩, by simp [intOf]; omega⟩
    · obtain rfl : i = top := by omega
      have iI : ¬ (i : Int) < (i : Int) := by omega
      obtain ⟨fl', sl', ti⟩ := unhide H
      have em := fun wr' (ti' : TI w W mb c L (fastR c i) wr' (.slice a m c') fl' sl') => unhide RING i last wr' a m c' fl' sl' (outR c t) (by omega) hdl ti' (unhide LAST)
      have TIH := hide ti
      clear ti H RING
      go_wp2_with fail
      go_region_held_law (fun _ => True) (trivial) (first
        | (go_at_call 45; refine (hd _).mono ?_; rintro e W2 ⟨rfl, hw⟩; subst hw)
        | (go_at_call 44; refine (em _ (by first | with_reducible exact unhide TIH | with_reducible exact (unhide TIH).drew | with_reducible exact (unhide TIH).drewN _)).mono ?_; rintro e W3 ⟨a2, m2, c2, rfl, HE⟩; obtain ⟨fl2, sl2, a3, m3, c3, W4, hrun, ti4⟩ := unhide HE; have tk := ti4.sw.wb.clock; have tf := ti4.sw.wb.thaw)
        | (refine step_append_run rfl _ _ 76 76 rfl _ _ (by simp [Act.eval]) (by simp [Act.eval]) hrun ?_))
      have TI4 := hide ti4
      clear ti4 hrun HE em
      go_wp2_with fail
      go_ret
      obtain ⟨s1, s2, s3⟩ := unhide END W4 _ _ _ (unhide TI4) 0
      exact ⟨a3, m3, c3, fl2, sl2, rfl, (unhide TI4).len, s1, s2, s3⟩
end Go.Proofs.YtbdjlhkgpblebaaDoor
