/- empty, walked. -/
import Derived.Test.YtbdjlhkgpblebaaDoorHK
namespace Go.Proofs.YtbdjlhkgpblebaaDoor
open Go.RowKit Go.Shelf
set_option linter.unusedVariables false
set_option maxRecDepth 100000
set_option maxHeartbeats 1000000

theorem row_kpt {base size n : Nat} {e : TypeId} {w w' : World} {v : Value} {xs : List Value} (h : w.ownsRow base e size v n xs) (hk : ∀ g, base ≤ g → g < w.heap.size → v.ownBlock = some g → w'.heap[g]? = w.heap[g]?) : w'.ownsRow base e size v n xs := by
  have hl := h.lt
  refine ⟨h.1, ?_⟩
  rcases h.2 with h2 | ⟨g, cap, cur, rfl, q1, q2, q3⟩
  · exact .inl h2
  · exact .inr ⟨g, cap, cur, rfl, q1, by rw [hk g (hl g rfl).1 (hl g rfl).2 rfl]; exact q2, q3⟩

theorem row_len {base m n c : Nat} {a : Option Addr} {e : TypeId} {w : World} {size : Nat} {xs : List Value} (h : w.ownsRow base e size (.slice a m c) n xs) : n = m := by
  rcases h.2 with ⟨e1, e2⟩ | ⟨g, cap, cur, e1, -⟩
  · simp only [Value.slice.injEq] at e1; omega
  · simp only [Value.slice.injEq] at e1; omega

theorem low_next {x y j j' : Nat} (h : Low x j) (hj : j < 64) (hy : ∀ t, t < 64 → y.testBit t = if t = j then false else x.testBit t) (h' : Low y j') : j + 1 ≤ j' := by
  by_cases c : j + 1 ≤ j'
  · exact c
  · rcases h' with ⟨-, h1⟩ | ⟨h1, h2, -⟩
    · omega
    · have := hy j' h1
      rw [h2] at this
      by_cases e : j' = j
      · rw [if_pos e] at this; cases this
      · rw [if_neg e] at this
        rcases h with ⟨h3, h4⟩ | ⟨-, -, h3⟩
        · omega
        · rw [h3 j' (by omega)] at this; cases this

/-- Behind the append and the two stores. -/
theorem EI.step {w : World} {W mb c i : Nat} {L : List Nd} {j : Nat} {wr W1 W2 : World} {v v' : Value} {fl : Nat → Nat} {sl : Nat → Nat → List Nd} (h : EI w W mb c i L j wr v fl sl) (hs : Srt L) (hi : i < 11) (hj : j < 64) (hL : ∀ n ∈ L, n.at_ < 2 ^ 62 ∧ n.g < w.heap.size) (hW : W < w.heap.size)
    (P : List Nd) (hP : P = L.filter (fun n => pl c n.at_ = (i, j))) (g1 : wr.grownBy W1 none) (ho : W2.ownsRow w.heap.size 67 1 v' (tookR c i j L ++ P).length (ptrs (tookR c i j L ++ P))) (g2 : W1.grownBy W2 v.ownBlock)
    (y : Nat) (y2 : y < 2 ^ 64) (y3 : ∀ t, t < 64 → y.testBit t = if t = j then false else (fl i).testBit t) (q : Nat) :
    EI w W mb c i L (j + 1) (((W2.setCell ⟨W, 2 + i * 65 + 1 + j, none⟩ nilp).setCell ⟨W, 2 + i * 65, none⟩ (.int .u64 (y : Int))).drewN q) v' (upf fl i y) (up sl i j []) := by
  have hc := h.sw.c50
  have vb : ∀ g, v.ownBlock = some g → w.heap.size ≤ g := fun g e => (h.row.lt g e).1
  have keep : ∀ g, g < w.heap.size → W2.heap[g]? = wr.heap[g]? := fun g hg =>
    (g2.block g (Nat.lt_of_lt_of_le (Nat.lt_of_lt_of_le hg h.kp.size) g1.size) (fun e => by have := vb g e.symm; omega)).trans (g1.block g (Nat.lt_of_lt_of_le hg h.kp.size) (by simp))
  have sw2 : SW W2 W mb c fl sl (leftR c i j L) := h.sw.kept (keep W hW) (fun n hn => keep n.g (hL n (List.mem_filter.1 hn).1).2)
  have sw3 := sw2.clear i j hi hj y y2 y3
  subst hP
  rw [took_step c i j L hs (fun n hn => (hL n hn).1) (by omega)] at ho
  refine ⟨⟨⟨sw3.wb.ex, sw3.wb.bit, sw3.wb.lt⟩, fun a t ha ht => (sw3.seg a t ha ht).drewN q, sw3.mem, sw3.gs, sw3.nW, sw3.lt, sw3.c50⟩, ?_, ?_⟩
  · refine row_kpt ho (fun g hg1 hg2 _ => ?_)
    show ((W2.setCell _ _).setCell _ _).heap[g]? = _
    rw [set_heap _ _ _ _ _ (by omega), set_heap _ _ _ _ _ (by omega)]
  · have k2 : Kp (fun g => g = W) w W2 := ⟨g2.os.trans (g1.os.trans h.kp.os), g2.tape.trans (g1.tape.trans h.kp.tape), g2.output.trans (g1.output.trans h.kp.output), Nat.le_trans h.kp.size (Nat.le_trans g1.size g2.size), fun g hg hn => (keep g hg).trans (h.kp.block g hg hn)⟩
    exact ((k2.set W _ _ (fun _ => rfl)).set W _ _ (fun _ => rfl)).drewN q

theorem empty_any (W mb c : Nat) (fl : Nat → Nat) (sl : Nat → Nat → List Nd) (L : List Nd) (w : World) (h : SW w W mb c fl sl L) (ht : Tb w) (hs : Srt L) (hlen : L.length ≤ 4096) (i last : Nat) (hi : i < 11) (hl : last < 64) :
    Calls Tryd.prog 44 #[.pointer (some ⟨W, 2 + i * 65, none⟩), .int .i64 last] w fun e w' => ∃ a c' fl' sl', e = .returned (.slice a (tookR c i (last + 1) L).length c') ∧ EI w W mb c i L (last + 1) w' (.slice a (tookR c i (last + 1) L).length c') fl' sl' := by
  have hL : ∀ n ∈ L, n.at_ < 2 ^ 62 ∧ n.g < w.heap.size := fun n hn => ⟨h.lt n hn, by obtain ⟨b, f, hb⟩ := h.node hn; exact hb.lt⟩
  have hW := h.wb.W_lt
  have hW0 := h.wb.W_pos ht
  have hr := h.wb.ring i hi
  have tz := tz_any (fl i) (h.wb.lt i hi) w ht
  have st : EI w W mb c i L 0 w (.slice none 0 0) fl sl := by
    have e1 : leftR c i 0 L = L := List.filter_eq_self.2 (fun n _ => by unfold inR; simp)
    have e2 : tookR c i 0 L = [] := List.filter_eq_nil_iff.2 (fun n _ => by unfold inR; simp)
    exact ⟨by rw [e1]; exact h, by rw [e2]; exact World.ownsRow_nil _ _ _ _, Kp.refl _ _⟩
  have e0 : (tookR c i 0 L).length = 0 := by
    have : tookR c i 0 L = [] := List.filter_eq_nil_iff.2 (fun n _ => by unfold inR; simp)
    rw [this]; rfl
  have ST := hide st; have HL := hide hL; have HS := hide hs; have HT := hide ht; have HLEN := hide hlen; have E0 := hide e0
  clear st h hL hs ht hlen e0
  have lastI : (last : Int) < 64 := by omega
  go_enter Tryd.func44, Tryd.ntmps44
  go_wp2_with fail
  refine tz.mono ?_
  rintro e W1 ⟨⟨k0, hk0, rfl⟩, rfl⟩
  have HK0 := hide hk0
  clear hk0 tz
  go_wp2_with fail
  go_loopw [5, 6] (fun lv iv wr => ∃ (j m c' : Nat) (a : Option Addr), lv = .slice a m c' ∧ iv = .int .i64 j ∧ j ≤ 64 ∧ Hid (∃ k fl' sl', k ≤ j ∧ k ≤ 64 ∧ k ≤ last + 1 ∧ Low (fl' i) j ∧ m = (tookR c i k L).length ∧ EI W1 W mb c i L k wr (.slice a m c') fl' sl')) (fun _ iv _ => 65 - (intOf iv).toNat)
  case atStart =>
    refine ⟨k0, 0, 0, none, rfl, rfl, ?_, 0, fl, sl, Nat.zero_le _, Nat.zero_le _, Nat.zero_le _, unhide HK0, (unhide E0).symm, unhide ST⟩
    rcases unhide HK0 with ⟨-, h⟩ | ⟨h, -⟩ <;> omega
  case round =>
    obtain ⟨j, m, c', a, rfl, rfl, hj64, H⟩ := hrel
    clear ST HK0 hr E0
    by_cases hjl : j ≤ last
    · have jI : (j : Int) ≤ (last : Int) := by omega
      have j64 : (j : Int) < 64 := by omega
      obtain ⟨k, fl', sl', k1, k2, k3, lo, hm, ei⟩ := unhide H
      have ej := ei.skip hi lo k1 (Nat.le_refl _) (by omega)
      have bt : (fl' i).testBit j = true := by
        rcases lo with ⟨-, h⟩ | ⟨-, h, -⟩
        · omega
        · exact h
      have hne : sl' i j ≠ [] := by
        have b := ej.sw.wb.bit i j hi (by omega)
        rw [bt] at b
        intro e
        rw [e] at b; simp at b
      have pm := ej.sw.mem i j hi (by omega)
      have hnd : ((sl' i j).map Nd.g).Nodup := (pm.map Nd.g).nodup_iff.2 (List.Nodup.sublist ((List.filter_sublist).map Nd.g) ej.sw.gs)
      rw [left_slot] at pm
      have hlS : (sl' i j).length ≤ 4096 := by
        rw [pm.length_eq]
        exact Nat.le_trans (List.length_filter_le _ _) (unhide HLEN)
      have io := inOrder_any (sl' i j) hne hnd (by omega) wr (ej.sw.seg i j hi (by omega))
      have s1 := ej.sw.wb.slot i j hi (by omega)
      obtain ⟨y, y1, y2, y3⟩ := not_bit (fl' i) j (ej.sw.wb.lt i hi) (by omega)
      obtain ⟨q, hq⟩ : ∃ q, hdp nilp (sl' i j) = .pointer q := by cases sl' i j <;> exact ⟨_, rfl⟩
      rw [hq] at io s1
      have AFTER : Hid (∀ (W3 : World) (a2 : Option Addr) (c2 : Nat) (P : List Nd), P.Perm (sl' i j) → P.Pairwise (fun x y => ¬ lt2 y x) → W3.ownsRow wr.heap.size 67 1 (.slice a2 (sl' i j).length c2) (sl' i j).length (ptrs P) → wr.grownBy W3 none →
          ∃ a3 m3 c3 W4, (Builtin.append_ #[76, 76] 76 #[.slice a m c', .slice a2 (sl' i j).length c2]).run Tryd.prog W3 = .ok (.slice a3 m3 c3) W4 ∧
            W4.cell? ⟨W, 2 + i * 65, none⟩ = some (.int .u64 (fl' i : Int)) ∧ W4.cell? ⟨W, 2 + i * 65 + 1 + j, none⟩ = some (.pointer q) ∧ (∀ t, W4.frozen? ⟨W, t, none⟩ = false) ∧ Tb W4 ∧
            ∀ (j' q' : Nat), Low y j' → (j' ≤ 64 ∧ j < j' ∧ ∃ k fl' sl', k ≤ j' ∧ k ≤ 64 ∧ k ≤ last + 1 ∧ Low (fl' i) j' ∧ m3 = (tookR c i k L).length ∧ EI W1 W mb c i L k (((W4.setCell ⟨W, 2 + i * 65 + 1 + j, none⟩ nilp).setCell ⟨W, 2 + i * 65, none⟩ (.int .u64 (y : Int))).drewN q') (.slice a3 m3 c3) fl' sl')) := by
        intro W3 a2 c2 P p1 p2 p3 g1
        have hP : P = L.filter (fun n => pl c n.at_ = (i, j)) := sorted_eq _ _ (p1.trans pm) p2 ((unhide HS).filter _)
        have hlP : P.length = (sl' i j).length := p1.length_eq
        have hB : W1.heap.size ≤ W3.heap.size := Nat.le_trans ej.kp.size g1.size
        have row3 : W3.ownsRow W1.heap.size 67 1 (.slice a m c') (tookR c i j L).length (ptrs (tookR c i j L)) := ej.row.kept g1 (by
          cases e : (Value.slice a m c').ownBlock with
          | none => exact .inl rfl
          | some g => exact .inr (by simp))
        have hl2 : (tookR c i j L).length ≤ 4096 := Nat.le_trans (List.length_filter_le _ _) (unhide HLEN)
        obtain ⟨a3, c3, W4, hrun, ho4, g4⟩ := app_ptrs W3 W1.heap.size wr.heap.size 76 _ _ row3 a2 c2 _ P hlP p3 (by omega) hB
        have vb : ∀ g, (Value.slice a m c').ownBlock = some g → W1.heap.size ≤ g := fun g e => (ej.row.lt g e).1
        have keep : ∀ g, g < W1.heap.size → W4.heap[g]? = wr.heap[g]? := fun g hg =>
          (g4.block g (Nat.lt_of_lt_of_le hg hB) (fun e => by have := vb g e.symm; omega)).trans (g1.block g (Nat.lt_of_lt_of_le hg ej.kp.size) (by simp))
        have wb4 : WB W4 W mb c fl' sl' := ej.sw.wb.kept (keep W hW)
        refine ⟨a3, _, c3, W4, hrun, wb4.ring i hi, by rw [← hq]; exact wb4.slot i j hi (by omega), wb4.thaw, ?_, fun j' q' lo' => ?_⟩
        · exact ((unhide HT).kp ej.kp hW0).kept (keep 0 (unhide HT).lt)
        · have nx := low_next lo (by omega) y3 lo'
          refine ⟨by rcases lo' with ⟨-, h⟩ | ⟨h, -⟩ <;> omega, by omega, j + 1, _, _, by omega, by omega, by omega, ?_, ?_, ej.step (unhide HS) hi (by omega) (unhide HL) hW P hP g1 ho4 g4 y y2 y3 q'⟩
          · simp only [upf, if_pos]; exact lo'
          · rw [hP, took_step c i j L (unhide HS) (fun n hn => (unhide HL n hn).1) (by have := ej.sw.c50; omega)]
      have hfl := ej.sw.wb.ring i hi
      have J := hide hjl
      have y64 : y < 18446744073709551616 := y2
      clear ei ej lo hm bt hne pm hnd hlS y3 y2 hq H k1 k2 k3 hj64 hjl
      generalize (sl' i j).length = N at *
      go_wp2_with fail
      refine io.mono ?_
      rintro e W3 ⟨a2, c2, P, rfl, p1, p2, p3, g1⟩
      obtain ⟨a3, m3, c3, W4, hrun, f1, f2, f3, tb4, NXT⟩ := unhide AFTER W3 a2 c2 P p1 p2 p3 g1
      have HRUN := hide hrun
      have HNX := hide NXT
      have TB4 := hide tb4
      clear AFTER p1 p2 p3 g1 hrun NXT io tb4
      go_wp2_with (at_builtin; refine wpList_append_runQ _ rfl _ _ 76 76 rfl _ _ rfl rfl (unhide HRUN) ?_)
      go_region
      go_wp2_with fail
      have tb5 : Tb (((W4.setCell ⟨W, 2 + i * 65 + 1 + j, none⟩ nilp).setCell ⟨W, 2 + i * 65, none⟩ (.int .u64 (y : Int))).drew) := (unhide TB4).kept (by
        show ((W4.setCell _ _).setCell _ _).heap[0]? = _
        rw [set_heap _ _ _ _ _ hW0, set_heap _ _ _ _ _ hW0])
      refine (tz_any y y64 _ tb5).mono ?_
      rintro e W5 ⟨⟨j', lo', rfl⟩, hw⟩
      subst hw
      obtain ⟨z1, z2, z3⟩ := unhide HNX j' 1 lo'
      have Z3 := hide z3
      clear z3 lo' HNX HRUN TB4 tb5
      go_wp2_with fail
      exact ⟨⟨j', m3, c3, a3, rfl, rfl, z1, unhide Z3⟩, by simp [intOf]; omega⟩
    · have jI : ¬ (j : Int) ≤ (last : Int) := by omega
      have E : Hid (∃ fl' sl', m = (tookR c i (last + 1) L).length ∧ EI W1 W mb c i L (last + 1) wr (.slice a m c') fl' sl') := by
        obtain ⟨k, fl', sl', k1, k2, k3, lo, hm, ei⟩ := unhide H
        have ej := ei.skip hi lo k3 (by omega) (by omega)
        exact ⟨fl', sl', (row_len ej.row).symm, ej⟩
      clear H
      go_wp2_with fail
      go_ret
      obtain ⟨fl', sl', hm, ei⟩ := unhide E
      subst hm
      exact ⟨a, c', rfl, fl', sl', ei⟩
end Go.Proofs.YtbdjlhkgpblebaaDoor
