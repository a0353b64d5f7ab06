/- The reader of packets: id, number, widthOf, spaceOf. -/
import Derived.Test.YtpcnpdippnljpaaKT
namespace Go.Proofs.Ytpcnpdippnljpaa
open Go.RowKit
set_option linter.unusedVariables false
set_option maxRecDepth 100000
set_option maxHeartbeats 1000000

theorem readF_lt (l : List Int) (i n : Int) (hl : ∀ x ∈ l, IsB x) : 0 ≤ (readF l i n).1 ∧ (readF l i n).1 < 256 ^ n.toNat := by
  have hp : (0 : Int) < 256 ^ n.toNat := pow_pos256 _
  unfold readF
  split
  · exact ⟨Int.le_refl _, hp⟩
  · split
    · exact ⟨Int.le_refl _, hp⟩
    · rename_i h1 h2
      have := joinF_lt ((l.drop i.toNat).take n.toNat) (fun x hx => hl x (List.mem_of_mem_drop (List.mem_of_mem_take hx))) 0 1 (by omega) (by omega)
      have e : ((l.drop i.toNat).take n.toNat).length = n.toNat := by simp; omega
      rw [e, Int.one_mul] at this
      exact this
theorem rPlain_lt (l : List Int) (s : St) (n : Int) (hl : ∀ x ∈ l, IsB x) : 0 ≤ (rPlain l s n).1 ∧ (rPlain l s n).1 < 256 ^ n.toNat := by
  have hp : (0 : Int) < 256 ^ n.toNat := pow_pos256 _
  have := readF_lt l s.1 n hl
  unfold rPlain rRead
  split
  · split
    · exact this
    · exact ⟨Int.le_refl _, hp⟩
  · exact ⟨Int.le_refl _, hp⟩
theorem st_pow (n : Int) (h : 1 ≤ n ∧ n ≤ 4) : st n = 256 ^ n.toNat := by
  obtain rfl | rfl | rfl | rfl : n = 1 ∨ n = 2 ∨ n = 3 ∨ n = 4 := by omega
  all_goals decide
theorem rPlain_1 (l : List Int) (s : St) (hl : ∀ x ∈ l, IsB x) : 0 ≤ (rPlain l s 1).1 ∧ (rPlain l s 1).1 ≤ 255 := by
  have := rPlain_lt l s 1 hl
  simp at this
  omega

theorem below_grown {w W : World} (h : Below w.heap.size w W) : w.grownBy W none := ⟨h.os, h.tape, h.output, h.size, fun i hi _ => h.block i hi⟩

theorem and_3 (x : Int) (h : IsB x) : bits .and .u8 x 3 = x % 4 := by
  obtain ⟨n, rfl⟩ := Int.eq_ofNat_of_zero_le h.1
  have hn : n < 256 := by have := h.2; omega
  have key : ∀ m : Fin 256, bits .and .u8 (m.val : Int) 3 = (m.val : Int) % 4 := by decide +kernel
  exact key ⟨n, hn⟩
theorem and_48 (x : Int) (h : IsB x) : bits .and .u8 x 48 = x / 16 % 4 * 16 := by
  obtain ⟨n, rfl⟩ := Int.eq_ofNat_of_zero_le h.1
  have hn : n < 256 := by have := h.2; omega
  have key : ∀ m : Fin 256, bits .and .u8 (m.val : Int) 48 = (m.val : Int) / 16 % 4 * 16 := by decide +kernel
  exact key ⟨n, hn⟩
theorem and_76 (x : Int) (h : IsB x) : bits .and .u8 x 76 = x / 64 % 2 * 64 + x / 4 % 4 * 4 := by
  obtain ⟨n, rfl⟩ := Int.eq_ofNat_of_zero_le h.1
  have hn : n < 256 := by have := h.2; omega
  have key : ∀ m : Fin 256, bits .and .u8 (m.val : Int) 76 = (m.val : Int) / 64 % 2 * 64 + (m.val : Int) / 4 % 4 * 4 := by decide +kernel
  exact key ⟨n, hn⟩
theorem and_88 (x : Int) (h : IsB x) : bits .and .u8 x 88 = x / 64 % 2 * 64 + x / 8 % 4 * 8 := by
  obtain ⟨n, rfl⟩ := Int.eq_ofNat_of_zero_le h.1
  have hn : n < 256 := by have := h.2; omega
  have key : ∀ m : Fin 256, bits .and .u8 (m.val : Int) 88 = (m.val : Int) / 64 % 2 * 64 + (m.val : Int) / 8 % 4 * 8 := by decide +kernel
  exact key ⟨n, hn⟩
theorem and_128 (x : Int) (h : IsB x) : bits .and .u8 x 128 = x / 128 * 128 := by
  obtain ⟨n, rfl⟩ := Int.eq_ofNat_of_zero_le h.1
  have hn : n < 256 := by have := h.2; omega
  have key : ∀ m : Fin 256, bits .and .u8 (m.val : Int) 128 = (m.val : Int) / 128 * 128 := by decide +kernel
  exact key ⟨n, hn⟩
theorem bitL_eq (x : Int) (h : IsB x) : (bits .and .u8 x 76 == 64) = bitL x := by
  rw [and_76 x h]
  unfold bitL IsB at *
  by_cases c : x / 64 % 2 = 1 ∧ x / 4 % 4 = 0
  · simp [c]
  · rw [decide_eq_false c]; simp; omega
theorem bitS_eq (x : Int) (h : IsB x) : (bits .and .u8 x 88 == 64) = bitS x := by
  rw [and_88 x h]
  unfold bitS IsB at *
  by_cases c : x / 64 % 2 = 1 ∧ x / 8 % 4 = 0
  · simp [c]
  · rw [decide_eq_false c]; simp; omega

theorem widthOf_any (x : Int) (h : IsB x) (w : World) : Calls Try.prog 76 #[.int .u8 x] w fun e w' => e = .returned (.int .i64 (widF x)) ∧ w' = w := by
  have hb := and_3 x h
  have hw : IntKind.i64.wrap (x % 4) = x % 4 := by rw [IntKind.wrap_i64]; omega
  have hw1 : IntKind.i64.wrap (x % 4 + 1) = x % 4 + 1 := by rw [IntKind.wrap_i64]; omega
  have F : Hid (x % 4 + 1 = widF x) := rfl
  generalize x % 4 = r at *
  clear h
  go_enter Try.func76, Try.ntmps76
  go_wp2
  go_ret
  exact ⟨ret_int (unhide F), rfl⟩

theorem spaceOf_any (x : Int) (h : IsB x) (w : World) : Calls Try.prog 75 #[.int .u8 x] w fun e w' => e = .returned (.tuple #[.int .i64 (spcF x).1, .bool (spcF x).2]) ∧ w' = w := by
  have hb := and_48 x h
  have hr : 0 ≤ x / 16 % 4 ∧ x / 16 % 4 < 4 := by omega
  unfold spcF
  generalize x / 16 % 4 = r at *
  clear h
  obtain rfl | rfl | rfl | rfl : r = 0 ∨ r = 1 ∨ r = 2 ∨ r = 3 := by omega
  all_goals
    clear hr
    go_enter Try.func75, Try.ntmps75
    go_wp2
    go_ret2
    exact ⟨rfl, rfl⟩

theorem Rdk.id {w : World} {g : Nat} {a : Option Addr} {l : List Int} {c : Nat} {G : Lg} {s : St} (h : Rdk w g a l c G s) (hb : l.length ≤ 140737488355328) :
    Calls Try.prog 77 #[.pointer (some ⟨g, 0, none⟩)] w (WentB g a l c G w (rId l s)) := by
  have hp := h.plain 1
  have hn := rPlain_1 l s h.rd.1
  unfold rId
  generalize rPlain l s 1 = r at *
  obtain ⟨n, s1⟩ := r
  simp only at hp hn ⊢
  go_enter Try.func77, Try.ntmps77
  go_wp2_with fail
  refine hp.mono ?_
  rintro e W1 ⟨rfl, R1, g1⟩
  have hm := R1.must (decide (n ≤ 20)) 54
  generalize rMust s1 (decide (n ≤ 20)) 54 = s2 at *
  clear h hp R1
  go_wp2_with fail
  refine hm.mono ?_
  rintro e W2 ⟨rfl, R2, g2⟩
  have hy := R2.bytes hb n (by omega)
  generalize rBytes l s2 n = r3 at *
  clear hm R2
  go_wp2_with fail
  refine hy.mono ?_
  rintro e W3 ⟨v, rfl, o3, R3, g3⟩
  obtain ⟨a3, c3, rfl⟩ := o3.shape
  have F : Hid (WentB g a l c G w r3 (.returned (.slice a3 r3.1.length c3)) W3) := ⟨_, rfl, o3.mono (g1.trans g2).size, R3, (g1.trans g2).trans g3⟩
  clear hy o3 R3 g1 g2 g3
  generalize r3.1.length = n3 at *
  go_wp2
  go_ret
  exact unhide F

theorem Rdk.number {w : World} {g : Nat} {a : Option Addr} {l : List Int} {c : Nat} {G : Lg} {s : St} (h : Rdk w g a l c G s) (hG : okG G) (sp wd : Int) (hs : sp = 0 ∨ sp = 1 ∨ sp = 2) (hw : 1 ≤ wd ∧ wd ≤ 4) :
    Calls Try.prog 80 #[.pointer (some ⟨g, 0, none⟩), .int .i64 sp, .int .i64 wd] w (Went g a l c G w (rNum l G s sp wd).2 (.int .i64 (rNum l G s sp wd).1)) := by
  have hp := h.plain wd
  have hn := rPlain_lt l s wd h.rd.1
  rw [← st_pow wd hw] at hn
  have hs2 := (st_pos wd).2
  unfold rNum
  generalize rPlain l s wd = r at *
  obtain ⟨n, s1⟩ := r
  simp only at hp hn ⊢
  have hok : okN (G.at sp) := by
    unfold okG at hG; unfold Lg.at
    split
    · exact hG.1
    · split
      · exact hG.2.1
      · exact hG.2.2
  unfold okN at hok
  have hwh := fun W => whole_good (G.at sp) n wd W hok.1 hok.2 hw hn _ rfl
  have hw32 : IntKind.u32.wrap n = n := by rw [IntKind.wrap_u32]; omega
  generalize wholeV (G.at sp) n wd = V at *
  obtain ⟨x, y, z⟩ := G
  clear hok hG
  rcases hs with rfl | rfl | rfl
  · have hat : Lg.at (x, y, z) 0 = x := rfl
    rw [hat] at hwh
    go_enter Try.func80, Try.ntmps80
    go_wp2_with fail
    refine hp.mono ?_
    rintro e W1 ⟨rfl, R1, g1⟩
    have c2 := R1.blk.cell 2 (.int .i64 x) rfl
    clear h hp hn hs2
    go_wp2_with fail
    refine (hwh _).mono ?_
    rintro e W2 ⟨rfl, b2⟩
    have F : Hid (Went g a l c (x, y, z) w s1 (.int .i64 V) (.returned (.int .i64 V)) W2) := ⟨rfl, R1.grown (below_grown b2), g1.trans (grown_any (below_grown b2) g)⟩
    clear R1 g1 b2 hwh
    go_wp2
    go_ret
    exact unhide F
  · have hat : Lg.at (x, y, z) 1 = y := rfl
    rw [hat] at hwh
    go_enter Try.func80, Try.ntmps80
    go_wp2_with fail
    refine hp.mono ?_
    rintro e W1 ⟨rfl, R1, g1⟩
    have c2 := R1.blk.cell 3 (.int .i64 y) rfl
    clear h hp hn hs2
    go_wp2_with fail
    refine (hwh _).mono ?_
    rintro e W2 ⟨rfl, b2⟩
    have F : Hid (Went g a l c (x, y, z) w s1 (.int .i64 V) (.returned (.int .i64 V)) W2) := ⟨rfl, R1.grown (below_grown b2), g1.trans (grown_any (below_grown b2) g)⟩
    clear R1 g1 b2 hwh
    go_wp2
    go_ret
    exact unhide F
  · have hat : Lg.at (x, y, z) 2 = z := rfl
    rw [hat] at hwh
    go_enter Try.func80, Try.ntmps80
    go_wp2_with fail
    refine hp.mono ?_
    rintro e W1 ⟨rfl, R1, g1⟩
    have c2 := R1.blk.cell 4 (.int .i64 z) rfl
    clear h hp hn hs2
    go_wp2_with fail
    refine (hwh _).mono ?_
    rintro e W2 ⟨rfl, b2⟩
    have F : Hid (Went g a l c (x, y, z) w s1 (.int .i64 V) (.returned (.int .i64 V)) W2) := ⟨rfl, R1.grown (below_grown b2), g1.trans (grown_any (below_grown b2) g)⟩
    clear R1 g1 b2 hwh
    go_wp2
    go_ret
    exact unhide F

end Go.Proofs.Ytpcnpdippnljpaa
