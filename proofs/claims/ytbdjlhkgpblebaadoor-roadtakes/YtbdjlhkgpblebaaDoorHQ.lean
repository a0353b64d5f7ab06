/- A whole wheel: New, Now, Len, When, Cancel, Arm. -/
import Derived.Test.YtbdjlhkgpblebaaDoorHP
import Derived.WalkMore
namespace Go.Proofs.YtbdjlhkgpblebaaDoor
open Go.RowKit Go.Shelf Go.Maps
set_option linter.unusedVariables false
set_option maxRecDepth 100000
set_option maxHeartbeats 1000000

structure WI (w : World) (W mb c : Nat) (L : List Nd) : Prop where
  sw : ∃ fl sl, SW w W mb c fl sl L
  mp : Mp w mb L
  srt : Srt L
  ids : (L.map Nd.id).Nodup
  idl : ∀ n ∈ L, n.id < 4096

/-- The blocks of a wheel. -/
def FP (W mb : Nat) (L : List Nd) (g : Nat) : Prop := g = W ∨ g = mb ∨ ∃ n ∈ L, n.g = g

theorem pigeon : ∀ (n : Nat) (l : List Nat), l.Nodup → (∀ x ∈ l, x < n) → l.length ≤ n := by
  intro n
  induction n with
  | zero =>
    intro l _ h
    cases l with
    | nil => exact Nat.le_refl _
    | cons x r => have := h x (List.mem_cons_self ..); omega
  | succ n ih =>
    intro l hn h
    have one : ∀ l : List Nat, l.Nodup → l.length ≤ (l.filter (fun x => decide (x ≠ n))).length + 1 := by
      intro l
      induction l with
      | nil => intro _; simp
      | cons x r ihr =>
        intro hd
        obtain ⟨h1, h2⟩ := List.nodup_cons.1 hd
        by_cases e : x = n
        · have : (r.filter (fun x => decide (x ≠ n))) = r := by
            apply List.filter_eq_self.2
            intro y hy
            simp only [decide_eq_true_eq]
            intro c
            exact h1 (by rw [e, ← c]; exact hy)
          rw [List.filter_cons, if_neg (by simp [e]), this]
          simp
        · rw [List.filter_cons, if_pos (by simpa using e)]
          have := ihr h2
          simp only [List.length_cons]; omega
    have h2 := ih (l.filter (fun x => decide (x ≠ n))) (List.Pairwise.filter _ hn) (fun x hx => by
      rw [List.mem_filter] at hx
      have := h x hx.1
      have hne : x ≠ n := by simpa using hx.2
      omega)
    have := one l hn
    omega
theorem WI.len {w : World} {W mb c : Nat} {L : List Nd} (h : WI w W mb c L) : L.length ≤ 4096 := by
  have := pigeon 4096 (L.map Nd.id) h.ids (fun x hx => by obtain ⟨n, hn, rfl⟩ := List.mem_map.1 hx; exact h.idl n hn)
  simpa using this
theorem WI.kept {w w' : World} {W mb c : Nat} {L : List Nd} (h : WI w W mb c L) (hk : ∀ g, FP W mb L g → w'.heap[g]? = w.heap[g]?) : WI w' W mb c L := by
  obtain ⟨fl, sl, sw⟩ := h.sw
  exact ⟨⟨fl, sl, sw.kept (hk W (.inl rfl)) (fun n hn => hk n.g (.inr (.inr ⟨n, hn, rfl⟩)))⟩, h.mp.kept (hk mb (.inr (.inl rfl))), h.srt, h.ids, h.idl⟩
theorem WI.grown {w w' : World} {W mb c : Nat} {L : List Nd} (h : WI w W mb c L) (g : w.grownBy w' none) : WI w' W mb c L := by
  obtain ⟨fl, sl, sw⟩ := h.sw
  exact ⟨⟨fl, sl, sw.grown g⟩, h.mp.kept (g.block mb h.mp.lt (by simp)), h.srt, h.ids, h.idl⟩
theorem WI.gs {w : World} {W mb c : Nat} {L : List Nd} (h : WI w W mb c L) : (L.map Nd.g).Nodup := by
  obtain ⟨fl, sl, sw⟩ := h.sw
  exact sw.gs
theorem WI.fp_lt {w : World} {W mb c : Nat} {L : List Nd} (h : WI w W mb c L) {g : Nat} (hg : FP W mb L g) : g < w.heap.size := by
  obtain ⟨fl, sl, sw⟩ := h.sw
  rcases hg with rfl | rfl | ⟨n, hn, rfl⟩
  · exact sw.wb.W_lt
  · exact h.mp.lt
  · obtain ⟨b, f, hb⟩ := sw.node hn
    exact hb.lt
theorem WI.neW {w : World} {W mb c : Nat} {L : List Nd} (h : WI w W mb c L) : W ≠ mb := by
  obtain ⟨fl, sl, sw⟩ := h.sw
  obtain ⟨cs, hb, -⟩ := sw.wb.ex
  exact h.mp.ne hb
theorem WI.neN {w : World} {W mb c : Nat} {L : List Nd} (h : WI w W mb c L) {n : Nd} (hn : n ∈ L) : n.g ≠ mb := by
  obtain ⟨fl, sl, sw⟩ := h.sw
  obtain ⟨b, f, hb⟩ := sw.node hn
  exact h.mp.ne hb

def isRing : Option Value → Bool
  | some (.int .u64 n) => n == 0
  | _ => false
def isSlot : Option Value → Bool
  | some (.pointer none) => true
  | _ => false
theorem isRing_eq {v : Option Value} (h : isRing v = true) : v = some (.int .u64 0) := by
  unfold isRing at h
  split at h
  · have : ∀ n : Int, (n == 0) = true → n = 0 := fun n hn => by simpa using hn
    rw [this _ h]
  · cases h
theorem isSlot_eq {v : Option Value} (h : isSlot v = true) : v = some (.pointer none) := by
  unfold isSlot at h
  split at h
  · rfl
  · cases h
theorem zero_size : Tryd.zeroCells73.size = 717 := by decide +kernel
theorem zero_ring : ∀ i : Fin 11, isRing (Tryd.zeroCells73[offR i.val]?) = true := by decide +kernel
theorem zero_slot : ∀ i : Fin 11, ∀ s : Fin 64, isSlot (Tryd.zeroCells73[offS i.val s.val]?) = true := by decide +kernel

/-- The clock of a new wheel. -/
def clk (now : Int) : Nat := (min (max now 0) 1125899906842624).toNat

theorem new_any (now : Int) (w : World) :
    Calls Tryd.prog 15 #[.int .i64 now] w fun e w' => e = .returned (ptr (w.heap.size + 1)) ∧ WI w' (w.heap.size + 1) w.heap.size (clk now) [] ∧ w.grownBy w' none := by
  have hmm := @run_makeMap Tryd.prog
  have e : min (max now 0) 1125899906842624 = (clk now : Int) := by unfold clk; omega
  have E : Hid (clk now ≤ 2 ^ 50) := by unfold clk; show _ ≤ _; omega
  generalize clk now = c at *
  go_enter Tryd.func15, Tryd.ntmps15
  go_wp2_with fail
  go_ret
  refine ⟨rfl, ?_, (World.grownBy_alloc w _ none).trans (World.grownBy_alloc _ _ none)⟩
  have hsz := alloc_size w (.map #[] 0)
  have hb := Blk.new (w.alloc (.map #[] 0)) ((Tryd.zeroCells73.setIfInBounds 0 (.int .i64 (c : Int))).setIfInBounds 1 (.map (some w.heap.size))) 73
  rw [hsz] at hb
  refine ⟨⟨fun _ => 0, fun _ _ => [], ⟨⟨⟨_, hb, by simp, ?_, ?_, fun i hi => ?_, fun i s hi hs => ?_⟩, fun i s _ _ => by simp, fun i _ => by decide⟩, fun i s _ _ => trivial, fun i s _ _ => by simp, by simp, by simp, by simp, unhide E⟩⟩, ?_, List.Pairwise.nil, by simp, by simp⟩
  · rw [Array.getElem?_setIfInBounds_ne (by omega), Array.getElem?_setIfInBounds_self_of_lt (by rw [zero_size]; omega)]
  · rw [Array.getElem?_setIfInBounds_self_of_lt (by simp)]
  · rw [Array.getElem?_setIfInBounds_ne (by simp only [offR]; omega), Array.getElem?_setIfInBounds_ne (by simp only [offR]; omega)]
    exact isRing_eq (zero_ring ⟨i, hi⟩)
  · rw [Array.getElem?_setIfInBounds_ne (by simp only [offS]; omega), Array.getElem?_setIfInBounds_ne (by simp only [offS]; omega)]
    exact isSlot_eq (zero_slot ⟨i, hi⟩ ⟨s, hs⟩)
  · exact (Mp.made w).kept ((World.grownBy_alloc (w.alloc (.map #[] 0)) _ none).block w.heap.size (by rw [hsz]; omega) (by simp))

theorem now_any (W mb c : Nat) (L : List Nd) (w : World) (h : WI w W mb c L) : Calls Tryd.prog 16 #[ptr W] w fun e w' => e = .returned (.int .i64 c) ∧ w' = w := by
  obtain ⟨fl, sl, sw⟩ := h.sw
  have ck := sw.wb.clock
  clear sw h
  go_enter Tryd.func16, Tryd.ntmps16
  go_wp2_with fail
  go_ret
  exact ⟨rfl, rfl⟩
/-- All but a number. -/
abbrev delN (L : List Nd) (i : Int) : List Nd := L.filter (fun n => decide ((n.id : Int) ≠ i))

theorem cancel_any (W mb c : Nat) (L : List Nd) (w : World) (h : WI w W mb c L) (i : Int) (hw : wfI i) :
    Calls Tryd.prog 21 #[ptr W, .int .i64 i] w fun e w' => e = .returned (.int .i64 (if L.any (fun n => decide ((n.id : Int) = i)) then 0 else 4)) ∧ WI w' W mb c (delN L i) ∧ Kp (FP W mb L) w w' := by
  obtain ⟨fl, sl, sw⟩ := h.sw
  have ck := sw.wb.map
  have mp := h.mp
  by_cases hex : ∃ n ∈ L, (n.id : Int) = i
  · obtain ⟨n, hn, hi⟩ := hex
    have hl := h.idl n hn
    have ha : L.any (fun n => decide ((n.id : Int) = i)) = true := List.any_eq_true.2 ⟨n, hn, by simp [hi]⟩
    rw [ha]
    simp only [if_true]
    subst hi
    have e1 : but L n = sans L n := by
      unfold but sans
      apply List.filter_congr
      intro m hm
      by_cases c1 : m.g = n.g
      · have := nd_eq h.gs hm hn c1
        subst this; simp
      · have : m.id ≠ n.id := fun c2 => c1 (by
          have : ∀ {L : List Nd}, (L.map Nd.id).Nodup → ∀ {n m : Nd}, n ∈ L → m ∈ L → n.id = m.id → n = m := by
            intro L
            induction L with
            | nil => intro _ n m hn; cases hn
            | cons a t ih =>
              intro hd n m hn hm e
              rw [List.map_cons, List.nodup_cons] at hd
              rcases List.mem_cons.1 hn with h1 | h1 <;> rcases List.mem_cons.1 hm with h2 | h2
              · rw [h1, h2]
              · subst h1; exact absurd (List.mem_map.2 ⟨m, h2, e.symm⟩) hd.1
              · subst h2; exact absurd (List.mem_map.2 ⟨n, h1, e⟩) hd.1
              · exact ih hd.2 h1 h2 e
          rw [this h.ids hm hn c2])
        simp [c1, this]
    have e2 : delN L n.id = sans L n := by
      unfold delN sans
      apply List.filter_congr
      intro m hm
      by_cases c1 : m.id = n.id
      · simp [c1]
      · have : ¬ (m.id : Int) = n.id := by omega
        simp [c1, this]
    have hc := cut_any W mb c fl sl L n w sw hn
    rw [e1] at hc
    rw [e2]
    have hnm := h.neN hn
    have HI := hide h
    have SWH := hide sw
    clear h sw ha e1 e2
    go_enter Tryd.func21, Tryd.ntmps21
    go_wp2_with (at_lookup; refine wpList_look_yes _ rfl _ _ rfl mb L mp n hn hl rfl rfl ?_)
    refine hc.mono ?_
    rintro e W1 ⟨rfl, fl1, sl1, sw1, k1, -⟩
    have ck1 := sw1.wb.map
    have mp1 : Mp W1 mb L := mp.kept (k1.block mb mp.lt (by
      rintro (h | ⟨m, hm, h⟩)
      · exact (unhide HI).neW h.symm
      · exact (unhide HI).neN hm h))
    have SW1 := hide sw1; have K1 := hide k1
    have ids := (unhide HI).ids
    clear sw1 k1 hc mp
    go_wp2_with (at_delete; refine wpList_drop _ rfl _ _ rfl mb L mp1 ids n hn hl rfl rfl ?_; intro W2 mp2 g2)
    go_ret
    have h := unhide HI
    have k1 := unhide K1
    have sw1 := unhide SW1
    have keep : ∀ g, g ≠ mb → g < W1.heap.size → W2.heap[g]? = W1.heap[g]? := fun g hg hlt => g2.block g hlt (fun e => hg (by cases e; rfl))
    refine ⟨rfl, ⟨⟨fl1, sl1, sw1.kept (keep W h.neW sw1.wb.W_lt) (fun m hm => keep m.g (h.neN (List.mem_filter.1 hm).1) (by obtain ⟨b, f, hb⟩ := sw1.node hm; exact hb.lt))⟩, mp2, h.srt.filter _, List.Nodup.sublist ((List.filter_sublist).map Nd.id) h.ids, fun m hm => h.idl m (List.mem_filter.1 hm).1⟩, ?_⟩
    exact (k1.mono (fun g _ hg => by rcases hg with rfl | ⟨m, hm, rfl⟩; exact .inl rfl; exact .inr (.inr ⟨m, hm, rfl⟩))).trans (Kp.grownS g2 (.inr (.inl rfl)))
  · have hno : ∀ n ∈ L, (n.id : Int) ≠ i := fun n hn e => hex ⟨n, hn, e⟩
    have ha : L.any (fun n => decide ((n.id : Int) = i)) = false := List.any_eq_false.2 (fun n hn => by simpa using hno n hn)
    rw [ha]
    have e2 : delN L i = L := List.filter_eq_self.2 (fun n hn => by simpa using hno n hn)
    rw [e2]
    have HI := hide h
    clear h sw hex e2 ha
    go_enter Tryd.func21, Tryd.ntmps21
    go_wp2_with (at_lookup; refine wpList_look_no _ rfl _ _ rfl mb L mp i hw rfl rfl hno ?_)
    go_ret
    exact ⟨rfl, unhide HI, Kp.refl _ _⟩
end Go.Proofs.YtbdjlhkgpblebaaDoor
