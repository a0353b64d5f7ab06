/- KD1, KD2, KD3, one text. -/
import Derived.Test.YtdmjejfnohhpiaaKL1
import Derived.Test.YtdmjejfnohhpiaaKRA
import Derived.Test.YtdmjejfnohhpiaaKWF
import Derived.Deep.RegionHeld3
namespace Go.Proofs.Ytdmjejfnohhpiaa
open Go.RowKit
set_option linter.unusedVariables false
set_option maxRecDepth 100000
set_option maxHeartbeats 2000000

/-- Bytes with room behind them. -/
structure InL (w : World) (g c : Nat) (l : List Int) : Prop where
  b : ∀ x ∈ l, IsB x
  cell : ∀ i, i < l.length → w.cell? ⟨g, i, none⟩ = some (.int .u8 (l.getD i 0))
  lt : l.length < c
  max : c ≤ maxLen
  blk : g < w.heap.size
theorem InL.grown {w W : World} {g c : Nat} {l : List Int} (h : InL w g c l) (gr : w.grownBy W none) : InL W g c l :=
  ⟨h.b, fun i hi => cell_grown (h.cell i hi) gr, h.lt, h.max, Nat.lt_of_lt_of_le h.blk gr.size⟩
theorem InL.rd {w : World} {g c : Nat} {l : List Int} (h : InL w g c l) : Rd w (some ⟨g, 0, none⟩) l := ⟨h.b, fun _ => ⟨g, 0, rfl, fun i hi => by rw [Nat.zero_add]; exact h.cell i hi⟩⟩
theorem InL.sub {w : World} {g c : Nat} {l : List Int} (h : InL w g c l) (i n : Nat) (hn : i + n ≤ l.length) : InB w (.slice (some ⟨g, i, none⟩) n (c - i)) ((l.drop i).take n) := by
  have hl : ((l.drop i).take n).length = n := sub_len l i n hn
  have h1 := h.lt
  have h2 := h.max
  refine ⟨_, _, by rw [hl], ⟨fun x hx => h.b x (List.mem_of_mem_drop (List.mem_of_mem_take hx)), fun _ => ⟨g, i, rfl, fun j hj => ?_⟩⟩, by omega, by omega, fun x e _ => ?_⟩
  · rw [hl] at hj
    rw [h.cell (i + j) (by omega)]
    simp [List.getD, hj]
  · cases e; exact ⟨h.blk, Nat.ne_of_lt h.blk, _, _, rfl⟩

def bitR (c : Int) (m : Nat) : Bool := decide (c / 2 ^ m % 2 = 1)

theorem bit_any (c : Int) (m : Nat) (w : World) (h : IsB c) (hm : m ≤ 7) :
    Calls Try.prog 40 #[.int .u8 c, .int .i64 (8 - (m : Int))] w fun e w' => e = .returned (.bool (bitR c m)) ∧ w' = w := by
  unfold IsB at h
  have HM := hide hm
  go_enter Try.func40, Try.ntmps40
  go_wp2
  go_loopw [5, 6] (fun n i wr => ∃ k : Nat, k ≤ m ∧ i = .int .i64 (8 - (m : Int) + k) ∧ n = .int .i64 (c / 2 ^ k) ∧ wr = w) (fun _ i _ => (8 - intOf i).toNat)
  case atStart => exact ⟨0, Nat.zero_le _, by simp, by simp, rfl⟩
  case round =>
    obtain ⟨k, hk, rfl, rfl, rfl⟩ := hrel
    have u0 : 0 ≤ c / 2 ^ k := Int.ediv_nonneg h.1 (Int.le_of_lt (Int.pow_pos (by decide)))
    have u1 : c / 2 ^ k ≤ 255 := Int.le_trans (Int.ediv_le_self _ h.1) h.2
    by_cases hlt : k < m
    · have HS : Hid (c / 2 ^ (k + 1) = c / 2 ^ k / 2) := by rw [Int.pow_succ, Int.ediv_ediv_of_nonneg (Int.le_of_lt (Int.pow_pos (by decide)))]; exact rfl
      have i1 : 8 - (m : Int) + (k : Int) < 8 := by omega
      have i2 : IntKind.i64.wrap (8 - (m : Int) + (k : Int) + 1) = 8 - (m : Int) + ((k + 1 : Nat) : Int) := by rw [IntKind.wrap_i64]; omega
      generalize c / 2 ^ k = v at *
      generalize hA : 8 - (m : Int) + (k : Int) = A at *
      go_wp2
      exact ⟨⟨k + 1, hlt, rfl, by rw [HS.out], trivial⟩, by simp [intOf]; omega⟩
    · obtain rfl : k = m := by omega
      have i1 : ¬ 8 - (k : Int) + (k : Int) < 8 := by omega
      by_cases hb : c / 2 ^ k % 2 = 1
      · have t : (c / 2 ^ k % 2 == 1) = true := by simpa using hb
        have E := hide (show bitR c k = true from decide_eq_true hb)
        clear hb
        generalize c / 2 ^ k = v at *
        go_wp2
        go_ret
        exact ⟨ret_bool (unhide E).symm, rfl⟩
      · have t : (c / 2 ^ k % 2 == 1) = false := by simpa using hb
        have E := hide (show bitR c k = false from decide_eq_false hb)
        clear hb
        generalize c / 2 ^ k = v at *
        go_wp2
        go_ret
        exact ⟨ret_bool (unhide E).symm, rfl⟩

/-- The id that stands at a place. -/
def idR (l : List Int) (k : Nat) : List Int × Int × Int :=
  if l.length ≤ k then ([], 0, 50) else if 20 < l.getD k 0 then ([], 0, 54) else if (l.length : Int) < k + 1 + l.getD k 0 then ([], 0, 50) else ((l.drop (k + 1)).take (l.getD k 0).toNat, k + 1 + l.getD k 0, 0)

def IdPost (w : World) (r : List Int × Int × Int) (e : Ending) (w' : World) : Prop :=
  ∃ a c, e = .returned (.tuple #[.slice a r.1.length c, .int .i64 r.2.1, .int .i64 r.2.2]) ∧ OwnB w.heap.size w' (.slice a r.1.length c) r.1 ∧ w.grownBy w' none

theorem id_any (g c : Nat) (l : List Int) (k : Nat) (w : World) (h : InL w g c l) (hl : l.length ≤ 140737488351232) (hk : k ≤ l.length) :
    Calls Try.prog 53 #[.slice (some ⟨g, 0, none⟩) l.length c, .int .i64 k] w (IdPost w (idR l k)) := by
  have hmx := h.max
  have hlt := h.lt
  unfold maxLen at hmx
  have hml : ¬ (9223372036854775807 : Int) < (l.length : Int) := by omega
  by_cases h1 : l.length ≤ k
  · have e : idR l k = ([], 0, 50) := by unfold idR; rw [if_pos h1]
    rw [e]
    have t1 : (l.length : Int) ≤ (k : Int) := by omega
    have F : Hid (IdPost w ([], 0, 50) (.returned (.tuple #[nilV, .int .i64 0, .int .i64 50])) w) := ⟨none, 0, rfl, World.ownsRow_nil _ _ _ _, World.grownBy.refl _ _⟩
    clear h e h1
    go_enter Try.func53, Try.ntmps53
    go_wp2
    go_ret3
    exact unhide F
  have t1 : ¬ (l.length : Int) ≤ (k : Int) := by omega
  have hc := h.cell k (by omega)
  have hb := h.b (l.getD k 0) (by simp [List.getD, show k < l.length by omega])
  unfold IsB at hb
  by_cases h2 : 20 < l.getD k 0
  · have e : idR l k = ([], 0, 54) := by unfold idR; rw [if_neg h1, if_pos h2]
    rw [e]
    have F : Hid (IdPost w ([], 0, 54) (.returned (.tuple #[nilV, .int .i64 0, .int .i64 54])) w) := ⟨none, 0, rfl, World.ownsRow_nil _ _ _ _, World.grownBy.refl _ _⟩
    clear h e
    generalize l.getD k 0 = x at *
    go_enter Try.func53, Try.ntmps53
    go_wp2
    go_ret3
    exact unhide F
  by_cases h3 : (l.length : Int) < k + 1 + l.getD k 0
  · have e : idR l k = ([], 0, 50) := by unfold idR; rw [if_neg h1, if_neg h2, if_pos h3]
    rw [e]
    have F : Hid (IdPost w ([], 0, 50) (.returned (.tuple #[nilV, .int .i64 0, .int .i64 50])) w) := ⟨none, 0, rfl, World.ownsRow_nil _ _ _ _, World.grownBy.refl _ _⟩
    clear h e
    generalize l.getD k 0 = x at *
    go_enter Try.func53, Try.ntmps53
    go_wp2
    go_ret3
    exact unhide F
  · have e : idR l k = ((l.drop (k + 1)).take (l.getD k 0).toNat, k + 1 + l.getD k 0, 0) := by unfold idR; rw [if_neg h1, if_neg h2, if_neg h3]
    rw [e]
    have hs := h.sub (k + 1) (l.getD k 0).toNat (by omega)
    have hsl : ((l.drop (k + 1)).take (l.getD k 0).toNat).length = (l.getD k 0).toNat := sub_len l (k + 1) _ (by omega)
    have cp := copied_sh (some ⟨g, k + 1, none⟩) (c - (k + 1)) _ w (by rw [hsl]; exact hs) (by omega)
    rw [hsl] at cp
    have F : Hid (∀ a' c' W, OwnB w.heap.size W (.slice a' (l.getD k 0).toNat c') ((l.drop (k + 1)).take (l.getD k 0).toNat) → w.grownBy W none → IdPost w ((l.drop (k + 1)).take (l.getD k 0).toNat, k + 1 + l.getD k 0, 0) (.returned (.tuple #[.slice a' (l.getD k 0).toNat c', .int .i64 (k + 1 + l.getD k 0), .int .i64 0])) W) := fun a' c' W o g => ⟨a', c', by rw [hsl], by rw [hsl]; exact o, g⟩
    have CPY := hide cp
    clear h e hs hsl cp
    generalize l.getD k 0 = x at *
    obtain ⟨m, rfl⟩ := Int.eq_ofNat_of_zero_le hb.1
    rw [Int.toNat_natCast] at F CPY ⊢
    have w1 : IntKind.i64.wrap ((k : Int) + 1) = (k : Int) + 1 := by rw [IntKind.wrap_i64]; omega
    have w2 : IntKind.i64.wrap ((k : Int) + 1 + (m : Int)) = (k : Int) + 1 + (m : Int) := by rw [IntKind.wrap_i64]; omega
    have s1 : ¬ c = k + 1 := by omega
    have s2 : (k : Int) + 1 ≤ (k : Int) + 1 + (m : Int) := by omega
    have s3 : (k : Int) + 1 + (m : Int) ≤ (c : Int) := by omega
    have s4 : ((k : Int) + 1).toNat = k + 1 := by omega
    have s5 : ((k : Int) + 1 + (m : Int)).toNat = k + 1 + m := by omega
    have s6 : k + 1 + m - (k + 1) = m := by omega
    generalize (l.drop (k + 1)).take m = D at *
    go_enter Try.func53, Try.ntmps53
    go_wp2_with fail
    refine (unhide CPY).mono ?_
    rintro e W1 ⟨a', c', rfl, o1, g1⟩
    have E := hide (unhide F a' c' W1 o1 g1)
    clear o1 g1 CPY F
    go_wp2_with fail
    go_ret3
    exact unhide E

end Go.Proofs.Ytdmjejfnohhpiaa

namespace Go.Proofs.Ytdmjejfnohhpiaa
open Go.RowKit
set_option linter.unusedVariables false
set_option maxRecDepth 100000
set_option maxHeartbeats 2000000

def WhPost (w : World) (sp wd num en : Int) (d s : Value) (pay : List Int) (e : Ending) (w' : World) : Prop :=
  ∃ a c, e = .returned (.tuple #[.agg (pcs sp d s num wd (.slice a pay.length c)), .int .i64 en, .int .i64 0]) ∧ OwnB w.heap.size w' (.slice a pay.length c) pay ∧ w.grownBy w' none

/-- Three blocks, of which the second is written. -/
structure B3 (w W : World) (G : Lg) (q : Array Value) : Prop where
  bG : Blk W w.heap.size #[.int .i64 G.1, .int .i64 G.2.1, .int .i64 G.2.2] 46
  bP : Blk W (w.heap.size + 1) q 24
  bR : Blk W (w.heap.size + 1 + 1) (pcs 0 nilV nilV 0 0 nilV) 24
  gr : w.grownBy W none
theorem B3.start (w : World) (G : Lg) (q : Array Value) : B3 w (((w.alloc (.cells #[.int .i64 G.1, .int .i64 G.2.1, .int .i64 G.2.2] 46)).alloc (.cells q 24)).alloc (.cells (pcs 0 nilV nilV 0 0 nilV) 24)) G q := by
  obtain ⟨b0, bR, g1⟩ := Blk.two w #[.int .i64 G.1, .int .i64 G.2.1, .int .i64 G.2.2] q 46 24
  have e : ((w.alloc (.cells #[.int .i64 G.1, .int .i64 G.2.1, .int .i64 G.2.2] 46)).alloc (.cells q 24)).heap.size = w.heap.size + 1 + 1 := by rw [alloc_size, alloc_size]
  refine ⟨b0.alloc _, bR.alloc _, ?_, g1.trans (World.grownBy_alloc _ _ none)⟩
  rw [← e]; exact Blk.new _ _ _
theorem B3.grown {w W W' : World} {G : Lg} {q : Array Value} (h : B3 w W G q) (g : W.grownBy W' none) : B3 w W' G q := ⟨h.bG.grown g, h.bP.grown g, h.bR.grown g, h.gr.trans g⟩
theorem B3.set {w W : World} {G : Lg} {q : Array Value} (h : B3 w W G q) (j : Nat) (v : Value) : B3 w (W.setCell ⟨w.heap.size + 1, j, none⟩ v) G (q.setIfInBounds j v) :=
  ⟨h.bG.setO _ j v (by omega), h.bP.setC j v, h.bR.setO _ j v (by omega), grown_set h.gr _ j v (by omega)⟩

theorem whole_any (g c : Nat) (l : List Int) (k n en : Nat) (G : Lg) (sp wd : Int) (a1 a2 : Option Addr) (n1 n2 c1 c2 : Nat) (w : World) (h : InL w g c l) (hl : l.length ≤ 140737488351232) (hwn : wd = n) (hw : 1 ≤ n ∧ n ≤ 4) (hsp : sp = 0 ∨ sp = 1 ∨ sp = 2) (hG : okG G) (hk : k + n ≤ en) (he : en ≤ l.length) :
    Calls Try.prog 42 #[.slice (some ⟨g, 0, none⟩) l.length c, .int .i64 k, .int .i64 en, G.v, .agg (pcs sp (.slice a1 n1 c1) (.slice a2 n2 c2) 0 wd nilV)] w
      (WhPost w sp wd (wholeV (G.at sp) (joinF 0 ((l.drop k).take n)) wd) en (.slice a1 n1 c1) (.slice a2 n2 c2) ((l.drop (k + n)).take (en - (k + n)))) := by
  subst hwn
  have hmx := h.max
  have hlt := h.lt
  have S0 := B3.start w G (pcs sp (.slice a1 n1 c1) (.slice a2 n2 c2) 0 n nilV)
  have hjl := joinF_lt ((l.drop k).take n) (fun x hx => h.b x (List.mem_of_mem_drop (List.mem_of_mem_take hx))) 0 1 (by decide) (by decide)
  rw [sub_len l k n (by omega), Int.one_mul] at hjl
  have hst := st_pow n (by omega)
  rw [Int.toNat_natCast] at hst
  rw [← hst] at hjl
  have hp := st_pos n
  have hok := okG_at hG sp
  have hwv := ref_own (G.at sp) (joinF 0 ((l.drop k).take n)) n hok.1 hok.2 hjl.1 hjl.2
  have hrw := fun W => refWhole_good (G.at sp) (joinF 0 ((l.drop k).take n)) n W hok.1 hok.2 (by omega) hjl _ hwv
  have hrd : ∀ W, w.grownBy W none → Calls Try.prog 52 #[.slice (some ⟨g, 0, none⟩) l.length c, .int .i64 k, .int .i64 n] W fun e w' => e = .returned (.tuple #[.int .u64 (joinF 0 ((l.drop k).take n)), .int .i64 ((k : Int) + (n : Int)), .int .i64 0]) ∧ w' = W := fun W gr => by
    have := rread_any (some ⟨g, 0, none⟩) l c k n W (h.grown gr).rd (by omega)
    rw [readF_in l k n (by omega) (by omega)] at this
    exact this
  have hu32 : IntKind.u32.wrap (joinF 0 ((l.drop k).take n)) = joinF 0 ((l.drop k).take n) := by rw [IntKind.wrap_u32]; omega
  have hsl : ((l.drop (k + n)).take (en - (k + n))).length = en - (k + n) := sub_len l (k + n) _ (by omega)
  have hcp : ∀ W, w.grownBy W none → Calls Try.prog 35 #[.slice (some ⟨g, k + n, none⟩) (en - (k + n)) (c - (k + n))] W fun e w' => ∃ a' c', e = .returned (.slice a' (en - (k + n)) c') ∧ OwnB W.heap.size w' (.slice a' (en - (k + n)) c') ((l.drop (k + n)).take (en - (k + n))) ∧ W.grownBy w' none := fun W gr => by
    have := copied_sh (some ⟨g, k + n, none⟩) (c - (k + n)) ((l.drop (k + n)).take (en - (k + n))) W (by rw [hsl]; exact (h.grown gr).sub (k + n) (en - (k + n)) (by omega)) (by omega)
    rw [hsl] at this
    exact this
  have F : Hid (∀ num a' c' W, num = wholeV (G.at sp) (joinF 0 ((l.drop k).take n)) n → OwnB w.heap.size W (.slice a' (en - (k + n)) c') ((l.drop (k + n)).take (en - (k + n))) → w.grownBy W none → WhPost w sp n (wholeV (G.at sp) (joinF 0 ((l.drop k).take n)) n) en (.slice a1 n1 c1) (.slice a2 n2 c2) ((l.drop (k + n)).take (en - (k + n))) (.returned (.tuple #[.agg (pcs sp (.slice a1 n1 c1) (.slice a2 n2 c2) num n (.slice a' (en - (k + n)) c')), .int .i64 en, .int .i64 0])) W) := fun num a' c' W hn o gr => ⟨a', c', by rw [hsl, hn], by rw [hsl]; exact o, gr⟩
  have q1 : ¬ c = k + n := by omega
  have q2 : (k : Int) + (n : Int) ≤ (en : Int) := by omega
  have q3 : (en : Int) ≤ (c : Int) := by omega
  have q4 : ((k : Int) + (n : Int)).toNat = k + n := by omega
  unfold maxLen at hmx
  have HRD := hide hrd; have HCP := hide hcp; have HRW := hide hrw
  clear hrd hcp hrw hjl hst hp hok hwv hsl h
  generalize wholeV (G.at sp) (joinF 0 ((l.drop k).take n)) n = V at *
  generalize joinF 0 ((l.drop k).take n) = low at *
  generalize (l.drop (k + n)).take (en - (k + n)) = PAY at *
  generalize l.length = ll at *
  rcases hsp with rfl | rfl | rfl
  · have eG : G.at 0 = G.1 := by unfold Lg.at; rw [if_pos rfl]
    rw [eG] at HRW
    go_enter Try.func42, Try.ntmps42
    go_wp2_with fail
    generalize (((w.alloc (.cells #[.int .i64 G.1, .int .i64 G.2.1, .int .i64 G.2.2] 46)).alloc (.cells (pcs 0 (.slice a1 n1 c1) (.slice a2 n2 c2) 0 n nilV) 24)).alloc (.cells (pcs 0 nilV nilV 0 0 nilV) 24)) = W0 at *
    refine (unhide HRD _ S0.gr).mono ?_
    rintro e W1 ⟨rfl, hw1⟩
    subst hw1
    have x0 := S0.bP.cell 0 (.int .i64 0) rfl
    have x3 := S0.bP.cell 3 (.int .i64 0) rfl
    have x4 := S0.bP.cell 4 (.int .i64 n) rfl
    have xG := S0.bG.cell 0 (.int .i64 G.1) rfl
    have th := S0.bP.thaws
    have S1 := S0.set 3 (.int .i64 V)
    have y0 : (W1.setCell ⟨w.heap.size + 1, 3, none⟩ (.int .i64 V)).drew.cell? ⟨w.heap.size + 1, 0, none⟩ = some (.int .i64 0) := S1.bP.cell 0 (.int .i64 0) rfl
    have y4 : (W1.setCell ⟨w.heap.size + 1, 3, none⟩ (.int .i64 V)).drew.cell? ⟨w.heap.size + 1, 4, none⟩ = some (.int .i64 n) := S1.bP.cell 4 (.int .i64 n) rfl
    go_wp2_with fail
    go_region_held3 (fun W => W.cell? ⟨w.heap.size + 1, 0, none⟩ = some (.int .i64 0) ∧ W.cell? ⟨w.heap.size + 1, 4, none⟩ = some (.int .i64 (n : Int)) ∧ W.cell? ⟨w.heap.size, 0, none⟩ = some (.int .i64 G.1)) (go_keep) (first | (go_at_call 55; refine (unhide HRW _).mono ?_; rintro e w' ⟨rfl, hw'⟩; subst hw'))
    have S2 : B3 w (W1.setCell ⟨w.heap.size + 1, 3, none⟩ (.int .i64 V)).drew G (pcs 0 (.slice a1 n1 c1) (.slice a2 n2 c2) V n nilV) := ⟨S1.bG, S1.bP, S1.bR, grown_drew' S1.gr⟩
    clear x0 x3 x4 xG th S1 y0 y4 S0
    generalize (W1.setCell ⟨w.heap.size + 1, 3, none⟩ (.int .i64 V)).drew = U1 at *
    go_wp2_with fail
    refine (unhide HCP _ S2.gr).mono ?_
    rintro e U2 ⟨a', c', rfl, o1, g2⟩
    have S3 := S2.grown g2
    have y5 := S3.bP.cell 5 nilV rfl
    have th := S3.bP.thaws
    have S4 := S3.set 5 (.slice a' (en - (k + n)) c')
    have hsz := S2.bR.lt
    have gs := grown_at (World.grownBy.refl U2 (some (w.heap.size + 1))) 5 (.slice a' (en - (k + n)) c')
    have o2 := o1.far gs (fun q e => by cases e; omega)
    have z0 := S4.bP.cell 0 (.int .i64 0) rfl
    have z1 := S4.bP.cell 1 (.slice a1 n1 c1) rfl
    have z2 := S4.bP.cell 2 (.slice a2 n2 c2) rfl
    have z3 := S4.bP.cell 3 (.int .i64 V) rfl
    have z4 := S4.bP.cell 4 (.int .i64 n) rfl
    have z5 := S4.bP.cell 5 (.slice a' (en - (k + n)) c') rfl
    have r0 := S4.bR.cell 0 (.int .i64 0) rfl
    have r1 := S4.bR.cell 1 nilV rfl
    have r2 := S4.bR.cell 2 nilV rfl
    have r3 := S4.bR.cell 3 (.int .i64 0) rfl
    have r4 := S4.bR.cell 4 (.int .i64 0) rfl
    have r5 := S4.bR.cell 5 nilV rfl
    have tR := S4.bR.thaws
    have BR := hide (S4.bR.set6 (v0 := .int .i64 0) (v1 := .slice a1 n1 c1) (v2 := .slice a2 n2 c2) (v3 := .int .i64 V) (v4 := .int .i64 n) (v5 := .slice a' (en - (k + n)) c'))
    have gg := grown_at (grown_at (grown_at (grown_at (grown_at (grown_at (World.grownBy.refl (U2.setCell ⟨w.heap.size + 1, 5, none⟩ (.slice a' (en - (k + n)) c')) (some (w.heap.size + 1 + 1))) 0 (.int .i64 0)) 1 (.slice a1 n1 c1)) 2 (.slice a2 n2 c2)) 3 (.int .i64 V)) 4 (.int .i64 n)) 5 (.slice a' (en - (k + n)) c')
    have E := hide (unhide F V a' c' _ rfl ((o2.far gg (fun q e => by cases e; omega)).mono (base' := w.heap.size) (by omega)) (grown_over S4.gr gg (by omega)))
    clear gg gs o1 o2 S2 S3 S4 g2 F HRD HCP HRW
    go_wp2_with fail
    refine bodyPost_ret (results_ctu rfl _ _ (w.heap.size + 1 + 1) _ _ rfl (unhide BR) Try.underlying24 rfl Try.sizeP) rfl ?_
    exact unhide E
  · have eG : G.at 1 = G.2.1 := by unfold Lg.at; rw [if_neg (by decide), if_pos rfl]
    rw [eG] at HRW
    go_enter Try.func42, Try.ntmps42
    go_wp2_with fail
    generalize (((w.alloc (.cells #[.int .i64 G.1, .int .i64 G.2.1, .int .i64 G.2.2] 46)).alloc (.cells (pcs 1 (.slice a1 n1 c1) (.slice a2 n2 c2) 0 n nilV) 24)).alloc (.cells (pcs 0 nilV nilV 0 0 nilV) 24)) = W0 at *
    refine (unhide HRD _ S0.gr).mono ?_
    rintro e W1 ⟨rfl, hw1⟩
    subst hw1
    have x0 := S0.bP.cell 0 (.int .i64 1) rfl
    have x3 := S0.bP.cell 3 (.int .i64 0) rfl
    have x4 := S0.bP.cell 4 (.int .i64 n) rfl
    have xG := S0.bG.cell 1 (.int .i64 G.2.1) rfl
    have th := S0.bP.thaws
    have S1 := S0.set 3 (.int .i64 V)
    have y0 : (W1.setCell ⟨w.heap.size + 1, 3, none⟩ (.int .i64 V)).drew.cell? ⟨w.heap.size + 1, 0, none⟩ = some (.int .i64 1) := S1.bP.cell 0 (.int .i64 1) rfl
    have y4 : (W1.setCell ⟨w.heap.size + 1, 3, none⟩ (.int .i64 V)).drew.cell? ⟨w.heap.size + 1, 4, none⟩ = some (.int .i64 n) := S1.bP.cell 4 (.int .i64 n) rfl
    go_wp2_with fail
    go_region_held3 (fun W => W.cell? ⟨w.heap.size + 1, 0, none⟩ = some (.int .i64 1) ∧ W.cell? ⟨w.heap.size + 1, 4, none⟩ = some (.int .i64 (n : Int)) ∧ W.cell? ⟨w.heap.size, 1, none⟩ = some (.int .i64 G.2.1)) (go_keep) (first | (go_at_call 55; refine (unhide HRW _).mono ?_; rintro e w' ⟨rfl, hw'⟩; subst hw'))
    have S2 : B3 w (W1.setCell ⟨w.heap.size + 1, 3, none⟩ (.int .i64 V)).drew G (pcs 1 (.slice a1 n1 c1) (.slice a2 n2 c2) V n nilV) := ⟨S1.bG, S1.bP, S1.bR, grown_drew' S1.gr⟩
    clear x0 x3 x4 xG th S1 y0 y4 S0
    generalize (W1.setCell ⟨w.heap.size + 1, 3, none⟩ (.int .i64 V)).drew = U1 at *
    go_wp2_with fail
    refine (unhide HCP _ S2.gr).mono ?_
    rintro e U2 ⟨a', c', rfl, o1, g2⟩
    have S3 := S2.grown g2
    have y5 := S3.bP.cell 5 nilV rfl
    have th := S3.bP.thaws
    have S4 := S3.set 5 (.slice a' (en - (k + n)) c')
    have hsz := S2.bR.lt
    have gs := grown_at (World.grownBy.refl U2 (some (w.heap.size + 1))) 5 (.slice a' (en - (k + n)) c')
    have o2 := o1.far gs (fun q e => by cases e; omega)
    have z0 := S4.bP.cell 0 (.int .i64 1) rfl
    have z1 := S4.bP.cell 1 (.slice a1 n1 c1) rfl
    have z2 := S4.bP.cell 2 (.slice a2 n2 c2) rfl
    have z3 := S4.bP.cell 3 (.int .i64 V) rfl
    have z4 := S4.bP.cell 4 (.int .i64 n) rfl
    have z5 := S4.bP.cell 5 (.slice a' (en - (k + n)) c') rfl
    have r0 := S4.bR.cell 0 (.int .i64 0) rfl
    have r1 := S4.bR.cell 1 nilV rfl
    have r2 := S4.bR.cell 2 nilV rfl
    have r3 := S4.bR.cell 3 (.int .i64 0) rfl
    have r4 := S4.bR.cell 4 (.int .i64 0) rfl
    have r5 := S4.bR.cell 5 nilV rfl
    have tR := S4.bR.thaws
    have BR := hide (S4.bR.set6 (v0 := .int .i64 1) (v1 := .slice a1 n1 c1) (v2 := .slice a2 n2 c2) (v3 := .int .i64 V) (v4 := .int .i64 n) (v5 := .slice a' (en - (k + n)) c'))
    have gg := grown_at (grown_at (grown_at (grown_at (grown_at (grown_at (World.grownBy.refl (U2.setCell ⟨w.heap.size + 1, 5, none⟩ (.slice a' (en - (k + n)) c')) (some (w.heap.size + 1 + 1))) 0 (.int .i64 1)) 1 (.slice a1 n1 c1)) 2 (.slice a2 n2 c2)) 3 (.int .i64 V)) 4 (.int .i64 n)) 5 (.slice a' (en - (k + n)) c')
    have E := hide (unhide F V a' c' _ rfl ((o2.far gg (fun q e => by cases e; omega)).mono (base' := w.heap.size) (by omega)) (grown_over S4.gr gg (by omega)))
    clear gg gs o1 o2 S2 S3 S4 g2 F HRD HCP HRW
    go_wp2_with fail
    refine bodyPost_ret (results_ctu rfl _ _ (w.heap.size + 1 + 1) _ _ rfl (unhide BR) Try.underlying24 rfl Try.sizeP) rfl ?_
    exact unhide E
  · have eG : G.at 2 = G.2.2 := by unfold Lg.at; rw [if_neg (by decide), if_neg (by decide)]
    rw [eG] at HRW
    go_enter Try.func42, Try.ntmps42
    go_wp2_with fail
    generalize (((w.alloc (.cells #[.int .i64 G.1, .int .i64 G.2.1, .int .i64 G.2.2] 46)).alloc (.cells (pcs 2 (.slice a1 n1 c1) (.slice a2 n2 c2) 0 n nilV) 24)).alloc (.cells (pcs 0 nilV nilV 0 0 nilV) 24)) = W0 at *
    refine (unhide HRD _ S0.gr).mono ?_
    rintro e W1 ⟨rfl, hw1⟩
    subst hw1
    have x0 := S0.bP.cell 0 (.int .i64 2) rfl
    have x3 := S0.bP.cell 3 (.int .i64 0) rfl
    have x4 := S0.bP.cell 4 (.int .i64 n) rfl
    have xG := S0.bG.cell 2 (.int .i64 G.2.2) rfl
    have th := S0.bP.thaws
    have S1 := S0.set 3 (.int .i64 V)
    have y0 : (W1.setCell ⟨w.heap.size + 1, 3, none⟩ (.int .i64 V)).drew.cell? ⟨w.heap.size + 1, 0, none⟩ = some (.int .i64 2) := S1.bP.cell 0 (.int .i64 2) rfl
    have y4 : (W1.setCell ⟨w.heap.size + 1, 3, none⟩ (.int .i64 V)).drew.cell? ⟨w.heap.size + 1, 4, none⟩ = some (.int .i64 n) := S1.bP.cell 4 (.int .i64 n) rfl
    go_wp2_with fail
    go_region_held3 (fun W => W.cell? ⟨w.heap.size + 1, 0, none⟩ = some (.int .i64 2) ∧ W.cell? ⟨w.heap.size + 1, 4, none⟩ = some (.int .i64 (n : Int)) ∧ W.cell? ⟨w.heap.size, 2, none⟩ = some (.int .i64 G.2.2)) (go_keep) (first | (go_at_call 55; refine (unhide HRW _).mono ?_; rintro e w' ⟨rfl, hw'⟩; subst hw'))
    have S2 : B3 w (W1.setCell ⟨w.heap.size + 1, 3, none⟩ (.int .i64 V)).drew G (pcs 2 (.slice a1 n1 c1) (.slice a2 n2 c2) V n nilV) := ⟨S1.bG, S1.bP, S1.bR, grown_drew' S1.gr⟩
    clear x0 x3 x4 xG th S1 y0 y4 S0
    generalize (W1.setCell ⟨w.heap.size + 1, 3, none⟩ (.int .i64 V)).drew = U1 at *
    go_wp2_with fail
    refine (unhide HCP _ S2.gr).mono ?_
    rintro e U2 ⟨a', c', rfl, o1, g2⟩
    have S3 := S2.grown g2
    have y5 := S3.bP.cell 5 nilV rfl
    have th := S3.bP.thaws
    have S4 := S3.set 5 (.slice a' (en - (k + n)) c')
    have hsz := S2.bR.lt
    have gs := grown_at (World.grownBy.refl U2 (some (w.heap.size + 1))) 5 (.slice a' (en - (k + n)) c')
    have o2 := o1.far gs (fun q e => by cases e; omega)
    have z0 := S4.bP.cell 0 (.int .i64 2) rfl
    have z1 := S4.bP.cell 1 (.slice a1 n1 c1) rfl
    have z2 := S4.bP.cell 2 (.slice a2 n2 c2) rfl
    have z3 := S4.bP.cell 3 (.int .i64 V) rfl
    have z4 := S4.bP.cell 4 (.int .i64 n) rfl
    have z5 := S4.bP.cell 5 (.slice a' (en - (k + n)) c') rfl
    have r0 := S4.bR.cell 0 (.int .i64 0) rfl
    have r1 := S4.bR.cell 1 nilV rfl
    have r2 := S4.bR.cell 2 nilV rfl
    have r3 := S4.bR.cell 3 (.int .i64 0) rfl
    have r4 := S4.bR.cell 4 (.int .i64 0) rfl
    have r5 := S4.bR.cell 5 nilV rfl
    have tR := S4.bR.thaws
    have BR := hide (S4.bR.set6 (v0 := .int .i64 2) (v1 := .slice a1 n1 c1) (v2 := .slice a2 n2 c2) (v3 := .int .i64 V) (v4 := .int .i64 n) (v5 := .slice a' (en - (k + n)) c'))
    have gg := grown_at (grown_at (grown_at (grown_at (grown_at (grown_at (World.grownBy.refl (U2.setCell ⟨w.heap.size + 1, 5, none⟩ (.slice a' (en - (k + n)) c')) (some (w.heap.size + 1 + 1))) 0 (.int .i64 2)) 1 (.slice a1 n1 c1)) 2 (.slice a2 n2 c2)) 3 (.int .i64 V)) 4 (.int .i64 n)) 5 (.slice a' (en - (k + n)) c')
    have E := hide (unhide F V a' c' _ rfl ((o2.far gg (fun q e => by cases e; omega)).mono (base' := w.heap.size) (by omega)) (grown_over S4.gr gg (by omega)))
    clear gg gs o1 o2 S2 S3 S4 g2 F HRD HCP HRW
    go_wp2_with fail
    refine bodyPost_ret (results_ctu rfl _ _ (w.heap.size + 1 + 1) _ _ rfl (unhide BR) Try.underlying24 rfl Try.sizeP) rfl ?_
    exact unhide E
end Go.Proofs.Ytdmjejfnohhpiaa

namespace Go.Proofs.Ytdmjejfnohhpiaa
open Go.RowKit
set_option linter.unusedVariables false
set_option maxRecDepth 100000

section
variable {l : List Int} {G : Lg} {s : St} {x : Int}
theorem dead9 (h : (sL9 l s x).2 ≠ 0) : (longR l G s x).2 = sL9 l s x := by
  have e : (sLa l G s x).2 = sL9 l s x := by
    show (rPlain l (sL9 l s x) (widF x)).2 = _
    unfold rPlain; rw [rRead_no h]
  show (rBytes l (sLa l G s x).2 _).2 = _
  rw [e, rBytes_no h]
theorem dead8 (h : (sL8 l s x).2.2 ≠ 0) : (longR l G s x).2 = (sL8 l s x).2 := by
  have e : sL9 l s x = (sL8 l s x).2 := rMust_no h
  rw [dead9 (by rw [e]; exact h), e]
theorem dead7 (h : (sL7 l s x).2 ≠ 0) : (longR l G s x).2 = sL7 l s x := by
  have e : sL8 l s x = (0, sL7 l s x) := rRead_no h
  rw [dead8 (by rw [e]; exact h), e]
theorem dead6 (h : (sL6 l s x).2.2 ≠ 0) : (longR l G s x).2 = (sL6 l s x).2 := by
  have e : sL7 l s x = (sL6 l s x).2 := by
    unfold sL7 sT
    split
    · have e1 : rSized l (sL6 l s x).2 = (0, (sL6 l s x).2) := rRead_no h
      rw [e1]; exact rPass_no h
    · rfl
  rw [dead7 (by rw [e]; exact h), e]
theorem dead5 (h : (sL5 l s x).2.2 ≠ 0) : (longR l G s x).2 = (sL5 l s x).2 := by
  have e : sL6 l s x = ([], (sL5 l s x).2) := rId_no h
  rw [dead6 (by rw [e]; exact h), e]
theorem dead4 (h : (sL4 l s x).2 ≠ 0) : (longR l G s x).2 = sL4 l s x := by
  have e : sL5 l s x = ([], sL4 l s x) := rId_no h
  rw [dead5 (by rw [e]; exact h), e]
theorem dead3 (h : (sL3 l s x).2 ≠ 0) : (longR l G s x).2 = sL3 l s x := by
  have e : sL4 l s x = sL3 l s x := rMust_no h
  rw [dead4 (by rw [e]; exact h), e]
theorem dead2 (h : (sL2 l s x).2.2 ≠ 0) : (longR l G s x).2 = (sL2 l s x).2 := by
  have e : sL3 l s x = (sL2 l s x).2 := rMust_no h
  rw [dead3 (by rw [e]; exact h), e]
theorem dead1 (h : (sL1 s x).2 ≠ 0) : (longR l G s x).2 = sL1 s x := by
  have e : sL2 l s x = (0, sL1 s x) := rRead_no h
  rw [dead2 (by rw [e]; exact h), e]
theorem decR_no {P : Pk × St} {y : Int} (h : P.2.2 = y) (hy : y ≠ 0) : decR P = (noP, 0, y) := by
  unfold decR; rw [if_neg (by rw [h]; exact hy), h]
end

theorem id_cases (l : List Int) (k : Nat) (hk : k ≤ l.length) (hb : ∀ x ∈ l, IsB x) :
    (∃ y, y ≠ 0 ∧ idR l k = ([], 0, y) ∧ (rId l (k, 0)).2.2 = y) ∨ (∃ (D : List Int) (t : Nat), idR l k = (D, (t : Int), 0) ∧ rId l (k, 0) = (D, (t, 0)) ∧ k ≤ t ∧ t ≤ l.length ∧ (∀ x ∈ D, IsB x) ∧ D.length ≤ 20) := by
  unfold idR
  by_cases h1 : l.length ≤ k
  · left
    rw [if_pos h1]
    refine ⟨50, by decide, rfl, ?_⟩
    have e : rPlain l (k, 0) 1 = (0, (k, 50)) := by
      unfold rPlain rRead
      rw [if_pos rfl, readF_short l k 1 (by omega) (by omega)]
      rfl
    unfold rId
    rw [e, rMust_no (by simp), rBytes_no (by simp)]
  · rw [if_neg h1]
    have hx := hb (l.getD k 0) (by simp [List.getD, show k < l.length by omega])
    unfold IsB at hx
    have e : rPlain l (k, 0) 1 = (l.getD k 0, (k + 1, 0)) := by
      have hd : l.drop k = l.getD k 0 :: l.drop (k + 1) := by
        rw [List.drop_eq_getElem_cons (show k < l.length by omega)]
        simp [List.getD, show k < l.length by omega]
      exact (byte_at hd).1
    have eI : rId l (k, 0) = rBytes l (rMust (k + 1, 0) (decide (l.getD k 0 ≤ 20)) 54) (l.getD k 0) := by unfold rId; rw [e]
    by_cases h2 : 20 < l.getD k 0
    · left
      rw [if_pos h2]
      refine ⟨54, by decide, rfl, ?_⟩
      have em : rMust (k + 1, 0) (decide (l.getD k 0 ≤ 20)) 54 = (k + 1, 54) := by
        unfold rMust; rw [if_pos ⟨decide_eq_false (by omega), rfl⟩]
      rw [eI, em, rBytes_no (by simp)]
    · rw [if_neg h2]
      have em : rMust (k + 1, 0) (decide (l.getD k 0 ≤ 20)) 54 = (k + 1, 0) := by rw [decide_eq_true (show l.getD k 0 ≤ 20 by omega), rMust_yes]
      rw [em] at eI
      by_cases h3 : (l.length : Int) < k + 1 + l.getD k 0
      · left
        rw [if_pos h3]
        refine ⟨50, by decide, rfl, ?_⟩
        rw [eI]
        show (rPass l (k + 1, 0) (l.getD k 0)).2 = 50
        unfold rPass
        rw [if_pos rfl, if_neg (by simp only; omega)]
      · right
        rw [if_neg h3]
        obtain ⟨m, hm⟩ := Int.eq_ofNat_of_zero_le hx.1
        rw [hm] at hx h2 h3 eI ⊢
        have ep : rPass l (k + 1, 0) (m : Int) = (k + 1 + m, 0) := pass_at (by omega)
        refine ⟨(l.drop (k + 1)).take m, k + 1 + m, by simp, ?_, by omega, by omega, fun x hx => hb x (List.mem_of_mem_drop (List.mem_of_mem_take hx)), ?_⟩
        · rw [eI]
          unfold rBytes
          rw [ep]
          simp
        · rw [List.length_take]; simp; omega

theorem get_cases (l : List Int) (k : Nat) (hk : k ≤ l.length) (hb : ∀ x ∈ l, IsB x) :
    (∃ y, y ≠ 0 ∧ getF l k = (0, 0, y) ∧ rSized l (k, 0) = (0, (k, 50))) ∨ (∃ (n t : Nat), getF l k = ((n : Int), (t : Int), 0) ∧ rSized l (k, 0) = ((n : Int), (t, 0)) ∧ (n : Int) < 18446744073709551616 ∧ k ≤ t ∧ t ≤ l.length) := by
  have hlt := sized_lt l (k, 0) hb
  rcases getF_cases l k with ⟨e, he, hg⟩ | ⟨j, hj, hk1, hk2, hg⟩
  · left
    refine ⟨e, by rcases he with rfl | rfl <;> decide, hg, ?_⟩
    unfold rSized rRead
    rw [if_pos rfl, hg, if_neg (by rcases he with rfl | rfl <;> decide)]
  · right
    obtain rfl : k = j := by omega
    have e1 : rSized l (k, 0) = ((getF l k).1, ((getF l k).2.1.toNat, 0)) := by
      unfold rSized rRead
      rw [if_pos rfl, hg, if_pos rfl]
    rw [e1] at hlt
    obtain ⟨n, hn⟩ := Int.eq_ofNat_of_zero_le hlt.1
    have h1 : (getF l k).1 = (n : Int) := hn
    have h2 : (getF l k).2.1 = ((k + sz (l.getD k 0) : Nat) : Int) := by rw [hg]; simp
    have h3 : (getF l k).2.2 = 0 := by rw [hg]
    refine ⟨n, k + sz (l.getD k 0), ?_, ?_, by rw [← h1]; exact hlt.2, by omega, by omega⟩
    · have : getF l k = ((getF l k).1, (getF l k).2.1, (getF l k).2.2) := rfl
      rw [this, h1, h2, h3]
    · rw [e1, h1, h2, Int.toNat_natCast]

theorem long_short (l : List Int) (G : Lg) (s : St) (x : Int) (t n : Nat) (h8 : sL8 l s x = ((n : Int), (t, 0))) (ht : t ≤ l.length) (hw : widF x ≤ n) (hn : (l.length : Int) - t < n) (hn2 : (n : Int) < 18446744073709551616) : decR (longR l G s x) = (noP, 0, 50) := by
  have hwi := widF_in x
  have h9 : sL9 l s x = (t, 0) := by unfold sL9; rw [h8]; simp only; rw [decide_eq_true hw, rMust_yes]
  refine decR_no ?_ (by decide)
  show (rBytes l (sLa l G s x).2 (IntKind.u64.wrap ((sL8 l s x).1 - widF x))).2.2 = 50
  have ea : (sLa l G s x).2 = (rPlain l (t, 0) (widF x)).2 := by show (rPlain l (sL9 l s x) (widF x)).2 = _; rw [h9]
  obtain ⟨m, hm⟩ := Int.eq_ofNat_of_zero_le (show 0 ≤ widF x by omega)
  rw [ea, h8, hm]
  by_cases c : t + m ≤ l.length
  · have ep : rPlain l (t, 0) (m : Int) = (joinF 0 ((l.drop t).take m), (t + m, 0)) := by
      unfold rPlain rRead; rw [if_pos rfl, readF_in l t m (by omega) c]; simp; omega
    rw [ep]
    show (rPass l (t + m, 0) (IntKind.u64.wrap ((n : Int) - (m : Int)))).2 = 50
    have hu : IntKind.u64.wrap ((n : Int) - (m : Int)) = (n : Int) - (m : Int) := by rw [IntKind.wrap_u64]; omega
    rw [hu]
    unfold rPass
    rw [if_pos rfl, if_neg (by simp only; omega)]
  · have ep : rPlain l (t, 0) (m : Int) = (0, (t, 50)) := by
      unfold rPlain rRead; rw [if_pos rfl, readF_short l t m (by omega) (by omega)]; rfl
    rw [ep, rBytes_no (by simp)]

theorem long_ok (l : List Int) (G : Lg) (s : St) (x : Int) (t n m : Nat) (hm : widF x = m) (h8 : sL8 l s x = ((n : Int), (t, 0))) (hw : m ≤ n) (hn : t + n ≤ l.length) (hn2 : (n : Int) < 18446744073709551616) :
    decR (longR l G s x) = (⟨(spcF x).1, (sL5 l s x).1, (sL6 l s x).1, wholeV (G.at (spcF x).1) (joinF 0 ((l.drop t).take m)) m, m, (l.drop (t + m)).take (t + n - (t + m))⟩, ((t + n : Nat) : Int), 0) := by
  have hwi := widF_in x
  have h9 : sL9 l s x = (t, 0) := by unfold sL9; rw [h8]; simp only; rw [decide_eq_true (by omega), rMust_yes]
  have ep : rPlain l (t, 0) (m : Int) = (joinF 0 ((l.drop t).take m), (t + m, 0)) := by
    unfold rPlain rRead; rw [if_pos rfl, readF_in l t m (by omega) (by omega)]; simp; omega
  have ea : sLa l G s x = (wholeV (G.at (spcF x).1) (joinF 0 ((l.drop t).take m)) m, (t + m, 0)) := by
    show rNum l G (sL9 l s x) (spcF x).1 (widF x) = _
    unfold rNum; rw [h9, hm, ep]
  have hu : IntKind.u64.wrap ((n : Int) - (m : Int)) = ((n - m : Nat) : Int) := by rw [IntKind.wrap_u64]; omega
  have eb : sLb l G s x = ((l.drop (t + m)).take (t + n - (t + m)), (t + n, 0)) := by
    show rBytes l (sLa l G s x).2 (IntKind.u64.wrap ((sL8 l s x).1 - widF x)) = _
    rw [ea, h8, hm]
    simp only
    rw [hu]
    unfold rBytes
    rw [pass_at (by omega)]
    simp only [Prod.mk.injEq, and_true]
    exact ⟨by congr 1; omega, by omega⟩
  unfold decR
  have e2 : (longR l G s x).2 = (t + n, 0) := by show (sLb l G s x).2 = _; rw [eb]
  rw [if_pos (by rw [e2])]
  unfold longR
  rw [ea, eb, hm]

end Go.Proofs.Ytdmjejfnohhpiaa
