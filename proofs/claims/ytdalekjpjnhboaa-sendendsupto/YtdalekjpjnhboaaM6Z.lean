/- S6Y, S6Z, one text. -/
import Derived.Test.YtdalekjpjnhboaaM6F
import Derived.Test.YtdalekjpjnhboaaM6K
import Derived.Test.YtdalekjpjnhboaaM6A
import Derived.Deep.RegionHeld3
import Derived.Deep.DeepCutAuto
import Derived.Deep.CutRange
import Derived.Deep.CutBlock
import Derived.BigQuiet
namespace Go.Proofs.Ytdalekjpjnhboaa
open Go.RowKit
set_option linter.unusedVariables false
set_option maxHeartbeats 1000000
set_option maxRecDepth 100000

/-- A book between two rounds. -/
structure LI (w : World) (bb b bg : Nat) (ta : Option Addr) (tc : Nat) (cap : Int) (T : List Int) (k : Nat) (pv : Value) (X : World) (B : Bk) : Prop where
  m : BM w bb b bg ta tc pv X B
  ok : BkOk cap B
  t : B.T = T
  n : B.P.length ≤ k

section
variable {w : World} {bb b bg : Nat} {ta : Option Addr} {tc : Nat} {cap : Int} {T : List Int} {k : Nat} {pv : Value} {X Y : World} {B : Bk}

theorem LI.grown (h : LI w bb b bg ta tc cap T k pv X B) (g : X.grownBy Y none) : LI w bb b bg ta tc cap T k pv Y B := ⟨h.m.grown g, h.ok, h.t, h.n⟩
theorem LI.up (h : LI w bb b bg ta tc cap T k pv X B) {j : Nat} (hj : k ≤ j) : LI w bb b bg ta tc cap T j pv X B := ⟨h.m, h.ok, h.t, Nat.le_trans h.n hj⟩
theorem LI.big (h : LI w bb b bg ta tc cap T k pv X B) (hT : T.length ≤ 1048576) : wr B.S ≤ 1152921504606846976 := by
  have := h.ok.wr; have := h.ok.pl; have := h.t
  subst this
  omega

/-- The first book. -/
theorem li_new {W1 W2 : World} {ba bl : Nat} (hc : 1 ≤ cap ∧ cap ≤ 65536) (g : w.grownBy W1 none) (h : At W1 (fun _ => False) b ba bl nilS W2 (new0 cap)) (ht : TxIn w ta tc T) :
    LI w (W2.heap.size + 1) b W2.heap.size ta tc cap T 0 nilS ((W2.alloc (.cells (bl1 (List.replicate T.length false)) 4)).alloc (.cells #[ptr b, .slice ta T.length tc, .int .i64 0, .bool false, .slice (some ⟨W2.heap.size, 0, none⟩) T.length T.length, .bool false, nilS] 50)) (bk0 cap T) := by
  have g2 : W2.grownBy ((W2.alloc (.cells (bl1 (List.replicate T.length false)) 4)).alloc (.cells #[ptr b, .slice ta T.length tc, .int .i64 0, .bool false, .slice (some ⟨W2.heap.size, 0, none⟩) T.length T.length, .bool false, nilS] 50)) none := grown_trans (grown_alloc _ _) (grown_alloc _ _)
  have gW : w.grownBy W2 none := grown_trans g (kp_none h.kp)
  have s1 := g.size; have s2 := gW.size
  obtain ⟨b1, b2, -⟩ := Blk.two W2 (bl1 (List.replicate T.length false)) #[ptr b, .slice ta T.length tc, .int .i64 0, .bool false, .slice (some ⟨W2.heap.size, 0, none⟩) T.length T.length, .bool false, nilS] 4 50
  have hsz := g2.size
  refine ⟨⟨⟨_, ba, bl, nilS, h.rebase g2, fun k q => ?_, fun q => ?_, fun q => ?_, fun k e => (by cases e)⟩, ?_, b1, pr_nil _ _, by omega, by omega, grown_trans gW g2, ht⟩, bk_new hc T, rfl, Nat.le_refl _⟩
  · rcases q.1 with q1 | q1
    · exact q1.elim
    · exact ⟨by omega, by have := q.2; omega⟩
  · have := q.2; omega
  · have := q.2; omega
  · have e : (bk0 cap T).G.length = T.length := by simp [bk0]
    show Blk _ _ (bkc b (.slice ta T.length tc) (gsl W2.heap.size (bk0 cap T).G.length) nilS (bk0 cap T)) _
    rw [e]
    exact b2

theorem li_feed (h : LI w bb b bg ta tc cap T k pv X B) (hT : T.length ≤ 1048576) (may : Bool) : Calls Try.prog 12 #[ptr bb, .int .i64 cap, .bool may] X fun e Y => e = .returned (.bool true) ∧ LI w bb b bg ta tc cap T k pv Y (feedB cap may B) := by
  refine (feed_any h.m h.ok (by rw [h.t]; exact hT) may).mono ?_
  rintro e Y ⟨rfl, hb⟩
  obtain ⟨-, -, -, -, -, -, e7, e8⟩ := @feed_same cap may B
  exact ⟨rfl, hb, bk_feed h.ok, e7.trans h.t, by rw [e8]; exact h.n⟩

/-- ask, in the first loop. -/
theorem li_ask (h : LI w bb b bg ta tc cap T k pv X B) (hT : T.length ≤ 1048576) (hk : k ≤ 10000000) (hc : Cov B.S B.P) (most : Int) (hm : 1 ≤ most ∧ most ≤ 40) : Calls Try.prog 14 #[ptr bb, .int .i64 most] X fun e Y => ∃ (r : Nat) (pv' : Value) (B' : Bk), e = .returned (.int .i64 (r : Int)) ∧ LI w bb b bg ta tc cap T (k + 1) pv' Y B' ∧ Cov B'.S B'.P := by
  have hbig := h.big hT
  have hwr := h.ok.wr; have hpl := h.ok.pl; have ht := h.t
  have hT' : B.T.length ≤ 1048576 := by rw [ht]; exact hT
  cases hd : (dueS B.S most 4611686018427387904).2.2 with
  | false =>
    refine (ask_no h.m h.ok hT' most hd).mono ?_
    rintro e Y ⟨rfl, hb⟩
    exact ⟨0, pv, B, rfl, ⟨hb, h.ok, ht, by have := h.n; omega⟩, hc⟩
  | true =>
    obtain ⟨f, t, hd'⟩ : ∃ f t, dueS B.S most 4611686018427387904 = (f, t, true) := ⟨(dueS B.S most 4611686018427387904).1, (dueS B.S most 4611686018427387904).2.1, by rw [← hd]⟩
    refine (ask_yes h.m h.ok hT' (by have := h.n; omega) most hm f t hd').mono ?_
    rintro e Y ⟨rfl, pv', hb⟩
    refine ⟨1, pv', askB B f t, rfl, ⟨hb, bk_ask h.ok hbig hd', ht, ?_⟩, cov_ask h.ok hbig hc hd' hm.1 (by omega)⟩
    have := h.n
    show (B.P ++ [_]).length ≤ k + 1
    simp
    omega

theorem li_acked (h : LI w bb b bg ta tc cap T k pv X B) (hT : T.length ≤ 1048576) {p : Pc} (hp : p ∈ B.P) : Calls Try.prog 15 #[ptr bb, .agg (pca p)] X fun e Y => e = .returned (.tuple #[]) ∧ LI w bb b bg ta tc cap T k pv Y (ackB B p) := by
  have hpc := h.ok.P p hp
  refine (acked_any h.m h.ok (by rw [h.t]; exact hT) hpc).mono ?_
  rintro e Y ⟨rfl, hb⟩
  exact ⟨rfl, hb, bk_ack h.ok (h.big hT) hpc, h.t, h.n⟩

theorem li_lost (h : LI w bb b bg ta tc cap T k pv X B) (hT : T.length ≤ 1048576) {p : Pc} (hp : p ∈ B.P) : Calls Try.prog 16 #[ptr b, .int .i64 p.off, .int .i64 p.size, .bool p.fin] X fun e Y => e = .returned (.tuple #[]) ∧ LI w bb b bg ta tc cap T k pv Y (lostB B p) := by
  obtain ⟨M, ba, bl, vh, hA, hM, n1, n2, n3⟩ := h.m.at_
  obtain ⟨p1, p2, p3, -⟩ := h.ok.P p hp
  have hsw := h.ok.ok.sw
  have hbig := h.big hT
  refine (lost_at hA h.ok.ok hbig p.off p.size p.fin (by omega) (by omega)).mono ?_
  rintro e Y ⟨rfl, hq⟩
  exact ⟨rfl, h.m.call hM n1 n2 n3 hq, bk_lost h.ok hbig p, h.t, h.n⟩

/-- Where the pieces lie. -/
theorem LI.row (h : LI w bb b bg ta tc cap T k pv X B) : ∃ pa pc, pv = .slice pa B.P.length pc ∧ B.P.length ≤ pc ∧ pc ≤ 9223372036854775807 ∧ (B.P = [] ∨ ∃ g, pa = some ⟨g, 0, none⟩ ∧ g < X.heap.size ∧ ∀ i x, B.P[i]? = some x → X.cell? ⟨g, i * 3, none⟩ = some (.int .i64 x.off) ∧ X.cell? ⟨g, i * 3 + 1, none⟩ = some (.int .i64 x.size) ∧ X.cell? ⟨g, i * 3 + 2, none⟩ = some (.bool x.fin)) := by
  obtain ⟨pa, pc, e, h1, h2, h3⟩ := h.m.row.at
  refine ⟨pa, pc, e, h1, by unfold maxLen at h2; omega, ?_⟩
  rcases h3 with h3 | ⟨g, e2, -, hl, hc⟩
  · exact .inl h3
  · exact .inr ⟨g, e2, hl, fun i x hi => ⟨hc i x hi 0 _ rfl, hc i x hi 1 _ rfl, hc i x hi 2 _ rfl⟩⟩
end
end Go.Proofs.Ytdalekjpjnhboaa

namespace Go.Proofs.Ytdalekjpjnhboaa
open Go.RowKit
set_option linter.unusedVariables false
set_option maxHeartbeats 100000000
set_option maxRecDepth 100000

def pickF (c : Int) (n : Nat) : Nat := (if c < 0 then (-(c + 1)).toNat else c.toNat) % n
theorem pickF_at (c : Int) (n : Nat) (w : World) (hc : -9223372036854775808 ≤ c ∧ c ≤ 9223372036854775807) (hn : 1 ≤ n ∧ n ≤ 1000000000000) : Calls Try.prog 13 #[.int .i64 c, .int .i64 (n : Int)] w fun e w' => e = .returned (.int .i64 (pickF c n : Int)) ∧ w' = w := by
  have hn0 : ((n : Int) == 0) = false := by simp; omega
  have hn1 : ¬ (n : Int) = 0 := by omega
  by_cases h : c < 0
  · have d : decide (c < 0) = true := decide_eq_true h
    have w1 : IntKind.i64.wrap (c + 1) = c + 1 := by rw [IntKind.wrap_i64]; omega
    have w2 : IntKind.i64.wrap (-(c + 1)) = -(c + 1) := by rw [IntKind.wrap_i64]; omega
    have ht : Int.tmod (-(c + 1)) (n : Int) = (pickF c n : Int) := by
      unfold pickF
      rw [if_pos h]
      obtain ⟨m, hm⟩ : ∃ m : Nat, -(c + 1) = (m : Int) := ⟨(-(c + 1)).toNat, by omega⟩
      rw [hm, ← Int.ofNat_tmod]
      rfl
    generalize pickF c n = k at *
    go_enter Try.func13, Try.ntmps13
    go_wp2
    all_goals go_ret
    all_goals exact ⟨by simp [*], rfl⟩
  · have d : decide (c < 0) = false := decide_eq_false h
    have ht : Int.tmod c (n : Int) = (pickF c n : Int) := by
      unfold pickF
      rw [if_neg h]
      obtain ⟨m, hm⟩ : ∃ m : Nat, c = (m : Int) := ⟨c.toNat, by omega⟩
      rw [hm, ← Int.ofNat_tmod]
      rfl
    generalize pickF c n = k at *
    go_enter Try.func13, Try.ntmps13
    go_wp2
    all_goals go_ret
    all_goals exact ⟨by simp [*], rfl⟩

theorem ends_bad (cap : Int) (ta a : Option Addr) (tn tc len capn : Nat) (w : World) (hc : ¬ (1 ≤ cap ∧ cap ≤ 65536)) :
    Calls Try.prog 4 #[.int .i64 cap, .slice ta tn tc, .slice a len capn] w fun e w' => e = .returned (.bool true) ∧ w.grownBy w' none := by
  have hsh := shown_ok w
  by_cases h1 : 1 ≤ cap
  · have d1 : decide (1 ≤ cap) = true := decide_eq_true h1
    have h3 : ¬ cap ≤ 65536 := by omega
    have d2 : decide (cap ≤ 65536) = false := decide_eq_false h3
    go_enter Try.func4, Try.ntmps4
    go_wp2_with fail
    refine hsh.mono ?_
    rintro e W1 ⟨rfl, g1⟩
    have hn := new_bad cap W1 hc
    have G := hide g1
    clear hsh g1 hc
    go_wp2_with fail
    refine hn.mono ?_
    rintro e W2 ⟨rfl, rfl⟩
    clear hn
    go_wp2_with fail
    go_ret
    exact ⟨rfl, unhide G⟩
  · have d1 : decide (1 ≤ cap) = false := decide_eq_false h1
    go_enter Try.func4, Try.ntmps4
    go_wp2_with fail
    refine hsh.mono ?_
    rintro e W1 ⟨rfl, g1⟩
    have hn := new_bad cap W1 hc
    have G := hide g1
    clear hsh g1 hc
    go_wp2_with fail
    refine hn.mono ?_
    rintro e W2 ⟨rfl, rfl⟩
    clear hn
    go_wp2_with fail
    go_ret
    exact ⟨rfl, unhide G⟩

theorem ends_good (cap : Int) (ta a : Option Addr) (tc len capn : Nat) (T : List Int) (ol : List TuE) (w : World) (htx : TxIn w ta tc T) (hops : IsTurns w a len capn ol) (hT : T.length ≤ 1048576) (hL : len ≤ 1048576) (hc : 1 ≤ cap ∧ cap ≤ 65536) :
    Calls Try.prog 4 #[.int .i64 cap, .slice ta T.length tc, .slice a len capn] w fun e w' => e = .returned (.bool true) ∧ w.grownBy w' none := by
  have hsh := shown_ok w
  obtain ⟨hlen, hcap, hopok, hcell⟩ := hops
  have hc1 : 1 ≤ cap := hc.1
  have hc2 : cap ≤ 65536 := hc.2
  have d1 : decide (1 ≤ cap) = true := decide_eq_true hc1
  have d2 : decide (cap ≤ 65536) = true := decide_eq_true hc2
  go_enter Try.func4, Try.ntmps4
  go_wp2_with fail
  refine hsh.mono ?_
  rintro e W1 ⟨rfl, g1⟩
  have hn := new_at cap W1 hc
  have G1 := hide g1
  clear hsh g1
  go_wp2_with fail
  refine hn.mono ?_
  rintro e W2 ⟨b, ba, bl, rfl, h2⟩
  have I0 := hide (li_new hc (unhide G1) h2 htx)
  have C0 := hide (cov_new cap T)
  have hmk := fun X => mk_bools T.length (by omega) X
  obtain ⟨bg, hbg⟩ : ∃ bg, bg = W2.heap.size := ⟨_, rfl⟩
  obtain ⟨bb, hbb⟩ : ∃ bb, bb = W2.heap.size + 1 := ⟨_, rfl⟩
  clear hn h2 G1 htx
  obtain ⟨X0, hX0⟩ : ∃ X0, X0 = (W2.alloc (.cells (bl1 (List.replicate T.length false)) 4)).alloc (.cells #[ptr b, .slice ta T.length tc, .int .i64 0, .bool false, .slice (some ⟨W2.heap.size, 0, none⟩) T.length T.length, .bool false, nilS] 50) := ⟨_, rfl⟩
  rw [← hX0, ← hbb, ← hbg] at I0
  generalize hTN : T.length = N at *
  have HTN := hide hTN
  clear hTN
  go_wp2_with (at_make; refine wpList_make_run _ rfl 47 _ _ rfl _ _ rfl rfl (hmk _) ?_)
  rw [← hX0]
  try rw [← hbb]
  try rw [← hbg]
  clear hX0 hbb hbg hmk
  have HC := hide hcell
  have HO := hide hopok
  have HL := hide hlen
  have HTT : Hid (T.length ≤ 1048576) := by rw [unhide HTN]; exact hT
  clear hcell hopok hlen hc
  go_loopw [11] (fun i X => ∃ (k : Nat) (pv : Value) (B : Bk), k ≤ len ∧ i = .int .i64 (k : Int) ∧ Hid (LI w bb b bg ta tc cap T k pv X B ∧ Cov B.S B.P)) (fun i _ => len - (intOf i).toNat)
  case atStart => exact ⟨0, nilS, _, Nat.zero_le _, rfl, unhide I0, unhide C0⟩
  case round =>
    clear I0 C0
    obtain ⟨k, pv, B, hk, rfl, I⟩ := hrel
    obtain ⟨X, hX⟩ : ∃ X, X = wr := ⟨_, rfl⟩
    subst hX
    by_cases hlt : k < len
    · obtain ⟨hI, hcov⟩ := unhide I
      have hkl : k < ol.length := by rw [unhide HL]; exact hlt
      obtain ⟨x, hx⟩ : ∃ x, ol[k]? = some x := ⟨_, List.getElem?_eq_getElem hkl⟩
      have hxo := unhide HO x (List.mem_of_getElem? hx)
      obtain ⟨ob, ooff, rfl, hcells⟩ := (unhide HC).resolve_left (by omega)
      have CX : Hid (∀ Z, w.grownBy Z none → Z.cell? ⟨ob, ooff + k * 4, none⟩ = some (.int .i64 x.most) ∧ Z.cell? ⟨ob, ooff + k * 4 + 1, none⟩ = some (.int .i64 x.which) ∧ Z.cell? ⟨ob, ooff + k * 4 + 2, none⟩ = some (.int .i64 x.fate) ∧ Z.cell? ⟨ob, ooff + k * 4 + 3, none⟩ = some (.bool x.fin)) := fun Z g => ⟨cell_grown (hcells k x hx 0 _ rfl) g, cell_grown (hcells k x hx 1 _ rfl) g, cell_grown (hcells k x hx 2 _ rfl) g, cell_grown (hcells k x hx 3 _ rfl) g⟩
      have hf := li_feed hI (unhide HTT) x.fin
      have hc1 : Cov (feedB cap x.fin B).S (feedB cap x.fin B).P := by
        rw [(@feed_same cap x.fin B).2.2.2.2.2.2.2]
        exact cov_feed hcov
      obtain ⟨-, -, -, x3⟩ := unhide CX X hI.m.gr
      have hkn : (k : Int) < (len : Int) := by omega
      have HLT := hide hlt
      have HXO := hide hxo
      have HC1 := hide hc1
      clear hcells hx hkl hlt hk hxo hc1 hcov hI I HC HO
      generalize feedB cap x.fin B = B1 at *
      go_wp2_with fail
      refine hf.mono ?_
      rintro e X1 ⟨rfl, h1⟩
      obtain ⟨x0, -, -, -⟩ := unhide CX X1 h1.m.gr
      have hp1 := pickN x.most 40 X1 (unhide HXO).m (by omega)
      have H1 := hide h1
      clear hf h1 x3
      go_wp2_with fail
      refine hp1.mono ?_
      rintro e X1' ⟨m, rfl, hm, hX1'⟩
      subst X1'
      have ha := li_ask (unhide H1) (unhide HTT) (by have := unhide HLT; omega) (unhide HC1) (1 + (m : Int)) (by omega)
      have hm40 : (m : Int) < 40 := by omega
      clear hp1 x0
      go_wp2_with fail
      refine ha.mono ?_
      rintro e X2 ⟨r, pv2, B2, rfl, h2, hc2⟩
      obtain ⟨pa, pc, rfl, hpc1, hpc2, hrow⟩ := h2.row
      have c6 := h2.m.cells.2.2.2.2.2.2
      have hr0 : ¬ (r : Int) < 0 := by omega
      have hr0d : decide ((r : Int) < 0) = false := decide_eq_false hr0
      have hPn := h2.n
      have H2 := hide h2
      have HC2 := hide hc2
      have HRW := hide hrow
      clear ha H1 HC1 h2 hc2 hrow hm
      generalize hPN : B2.P.length = n at *
      have HPN := hide hPN
      clear hPN
      have hn9 : n ≤ 1048576 := by have := unhide HLT; omega
      by_cases hn0 : n = 0
      · subst hn0
        clear HRW
        as_aux_lemma =>
          go_wp2_with fail
          exact ⟨⟨k + 1, _, B2, unhide HLT, by go_num, unhide H2, unhide HC2⟩, by simp [intOf]; have := unhide HLT; omega⟩
      · have hn0b : ((n : Int) == 0) = false := by simp; omega
        have hn0' : ¬ (n : Int) = 0 := by omega
        obtain ⟨g, rfl, hgl, hrc⟩ := (unhide HRW).resolve_left (fun e => hn0 (by rw [← unhide HPN, e]; rfl))
        have hp2 := fun Z => pickF_at x.which n Z (unhide HXO).w (by omega)
        have hj : pickF x.which n < n := Nat.mod_lt _ (by omega)
        generalize pickF x.which n = j at *
        obtain ⟨p, hp⟩ : ∃ p, B2.P[j]? = some p := ⟨_, List.getElem?_eq_getElem (by rw [unhide HPN]; exact hj)⟩
        obtain ⟨r0, r1, r2⟩ := hrc j p hp
        have x1 := (unhide CX X2 (unhide H2).m.gr).2.1
        have hj0 : (0 : Int) ≤ (j : Int) := by omega
        have hjn : (j : Int) < (n : Int) := by omega
        have HP := hide (List.mem_of_getElem? hp)
        clear HRW hrc hn0 hp
        go_upto_region 17 with fail
        go_cut [15] from 58 to 131 (fun v wc => v = .pointer (some ⟨X2.heap.size, 0, none⟩) ∧ wc = (X2.alloc (.cells (pca p) 57)).drew)
        case first =>
          go_region_held3 (fun Z => Z.cell? ⟨bb, 6, none⟩ = some (.slice (some ⟨g, 0, none⟩) n pc) ∧ Z.cell? ⟨ob, ooff + k * 4 + 1, none⟩ = some (.int .i64 x.which) ∧ Z.cell? ⟨g, j * 3, none⟩ = some (.int .i64 p.off) ∧ Z.cell? ⟨g, j * 3 + 1, none⟩ = some (.int .i64 p.size) ∧ Z.cell? ⟨g, j * 3 + 2, none⟩ = some (.bool p.fin)) (go_keep) (first | (go_at_call 13; refine (hp2 _).mono ?_; rintro e X3 ⟨rfl, rfl⟩))
          all_goals go_wp2_with fail
          all_goals go_meet
          all_goals exact ⟨rfl, rfl⟩
        case rest =>
          obtain ⟨rfl, hwc⟩ := hcut
          obtain ⟨X3, hX3⟩ : ∃ X3, X3 = wc := ⟨_, rfl⟩
          rw [← hX3] at hwc ⊢
          have gX3 : X2.grownBy X3 none := by rw [hwc]; exact grown_drew' (grown_alloc _ _)
          have hb3 : Blk X3 X2.heap.size (pca p) 57 := by rw [hwc]; exact (Blk.new _ _ _).drew
          have h3 := (unhide H2).grown gX3
          have hp3 := pickN x.fate 3 X3 (unhide HXO).f (by omega)
          have x2 := (unhide CX X3 h3.m.gr).2.2.1
          have y0 : X3.cell? ⟨X2.heap.size, 0, none⟩ = some (.int .i64 p.off) := hb3.cell 0 _ rfl
          have y1 : X3.cell? ⟨X2.heap.size, 1, none⟩ = some (.int .i64 p.size) := hb3.cell 1 _ rfl
          have y2 : X3.cell? ⟨X2.heap.size, 2, none⟩ = some (.bool p.fin) := hb3.cell 2 _ rfl
          have H3 := hide h3
          generalize X2.heap.size = pb at *
          clear hX3 hwc gX3 hb3 h3 H2 r0 r1 r2 x1 c6 hp2
          go_wp2_with fail
          refine hp3.mono ?_
          rintro e X3' ⟨q, rfl, hq, hX3'⟩
          subst X3'
          have hqv : q = 0 ∨ q = 1 ∨ q = 2 := by omega
          clear hp3 x2 hq
          rcases hqv with rfl | rfl | rfl
          · as_aux_lemma =>
              have ha := li_acked (unhide H3) (unhide HTT) (unhide HP)
              have hcv : Cov (ackB B2 p).S (ackB B2 p).P := cov_ack (unhide H3).ok ((unhide H3).big (unhide HTT)) ((unhide H3).ok.P p (unhide HP)) (unhide HC2)
              have HCV := hide hcv
              unfold pca at ha
              clear hcv HC2 H3
              go_wp2_with fail
              refine ha.mono ?_
              rintro e X4 ⟨rfl, h4⟩
              have H4 := hide h4
              clear ha h4 y0 y1 y2
              go_wp2_with fail
              exact ⟨⟨k + 1, _, _, unhide HLT, by go_num, unhide H4, unhide HCV⟩, by simp [intOf]; have := unhide HLT; omega⟩
          · as_aux_lemma =>
              have ha := li_lost (unhide H3) (unhide HTT) (unhide HP)
              have hcv : Cov (lostB B2 p).S (lostB B2 p).P := cov_lost_all (unhide H3).ok ((unhide H3).big (unhide HTT)) ((unhide H3).ok.P p (unhide HP)) (unhide HC2)
              have HCV := hide hcv
              clear hcv HC2 H3
              go_wp2_with fail
              refine ha.mono ?_
              rintro e X4 ⟨rfl, h4⟩
              have H4 := hide h4
              clear ha h4 y0 y1 y2
              go_wp2_with fail
              exact ⟨⟨k + 1, _, _, unhide HLT, by go_num, unhide H4, unhide HCV⟩, by simp [intOf]; have := unhide HLT; omega⟩
          · as_aux_lemma =>
              clear y0 y1 y2
              go_wp2_with fail
              exact ⟨⟨k + 1, _, _, unhide HLT, by go_num, unhide H3, unhide HC2⟩, by simp [intOf]; have := unhide HLT; omega⟩
    · obtain rfl : k = len := by omega
      have hno : ¬ (k : Int) < (k : Int) := by omega
      obtain ⟨hI, hcov⟩ := unhide I
      obtain ⟨pa, pc, rfl, hpc1, hpc2, hrow⟩ := hI.row
      have J0 : Hid (LI w bb b bg ta tc cap T k (.slice pa B.P.length pc) X B ∧ Cov B.S (B.P.drop 0)) := ⟨hI, by rw [List.drop_zero]; exact hcov⟩
      have hPn := hI.n
      have ePN : ∃ PL, PL = B.P := ⟨_, rfl⟩
      obtain ⟨PL, hPL⟩ := ePN
      have HPL := hide hPL
      clear hI hcov I hrow HC HO HL hk hlt
      generalize hPN : B.P.length = n at *
      have HPN := hide hPN
      clear hPN hPL
      go_wp2_with fail
      go_loopw [16] (fun i Y => ∃ (q : Nat) (B' : Bk), q ≤ n ∧ i = .int .i64 (q : Int) ∧ Hid (LI w bb b bg ta tc cap T k (.slice pa n pc) Y B' ∧ B'.P = PL ∧ Cov B'.S (PL.drop q))) (fun i _ => n - (intOf i).toNat)
      case atStart => exact ⟨0, B, Nat.zero_le _, rfl, (unhide J0).1, (unhide HPL).symm, by rw [unhide HPL]; exact (unhide J0).2⟩
      case round =>
        clear J0
        obtain ⟨q, B', hq, rfl, J⟩ := hrel
        obtain ⟨Y, hY⟩ : ∃ Y, Y = wr := ⟨_, rfl⟩
        subst hY
        by_cases hqn : q < n
        · obtain ⟨hJ, hJP, hJC⟩ := unhide J
          have hPlen : PL.length = n := by rw [unhide HPL]; exact unhide HPN
          obtain ⟨pa', pc', hpe, -, -, hrow⟩ := hJ.row
          have hBl : B'.P.length = n := by rw [hJP]; exact hPlen
          rw [hBl] at hpe
          injection hpe with e1 e2 e3
          subst e1 e3
          obtain ⟨p, hp⟩ : ∃ p, B'.P[q]? = some p := ⟨_, List.getElem?_eq_getElem (by rw [hBl]; exact hqn)⟩
          obtain ⟨g, rfl, -, hrc⟩ := hrow.resolve_left (fun e => by rw [e] at hp; simp at hp)
          obtain ⟨r0, r1, r2⟩ := hrc q p hp
          have c6 := hJ.m.cells.2.2.2.2.2.2
          have hpm := List.mem_of_getElem? hp
          have hl := li_lost (hJ.grown (grown_drewN Y 1)) (unhide HTT) hpm
          have POST : Hid (∀ Y2, LI w bb b bg ta tc cap T k (.slice (some ⟨g, 0, none⟩) n pc) Y2 (lostB B' p) → Hid (LI w bb b bg ta tc cap T k (.slice (some ⟨g, 0, none⟩) n pc) Y2 (lostB B' p)) ∧ Y2.cell? ⟨bb, 6, none⟩ = some (.slice (some ⟨g, 0, none⟩) n pc) ∧ Y2.cell? ⟨g, q * 3, none⟩ = some (.int .i64 p.off) ∧ Y2.cell? ⟨g, q * 3 + 1, none⟩ = some (.int .i64 p.size) ∧ Y2.cell? ⟨g, q * 3 + 2, none⟩ = some (.bool p.fin)) := fun Y2 h => by
            obtain ⟨pa2, pc2, hpe2, -, -, hrow2⟩ := h.row
            injection hpe2 with e1 e2 e3
            subst e1
            obtain ⟨g2, eg, -, hrc2⟩ := hrow2.resolve_left (fun e => by have e' : B'.P = [] := e; rw [e'] at hp; simp at hp)
            cases eg
            exact ⟨h, h.m.cells.2.2.2.2.2.2, hrc2 q p hp⟩
          have HCV : Hid (Cov (lostB B' p).S (PL.drop (q + 1))) := by
            refine cov_lost hJ.ok (hJ.big (unhide HTT)) (hJ.ok.P p hpm) (hJC.mono fun z hz => ?_)
            rw [hJP] at hp
            rw [List.drop_eq_getElem_cons (by omega)] at hz
            rcases List.mem_cons.1 hz with e | e
            · rw [List.getElem?_eq_getElem (by omega)] at hp
              injection hp with hp
              rw [e, hp]
              exact List.mem_cons_self
            · exact List.mem_cons_of_mem _ e
          have HJP : Hid ((lostB B' p).P = PL) := hJP
          have hq0 : (0 : Int) ≤ (q : Int) := by omega
          have hqi : (q : Int) < (n : Int) := by omega
          have HQN := hide hqn
          clear hJ hJP hJC J hrow hrc hp hpm hBl hPlen hqn hq
          as_aux_lemma =>
            go_upto_region 26 with fail
            go_region_held3 (fun Z => Z.cell? ⟨bb, 6, none⟩ = some (.slice (some ⟨g, 0, none⟩) n pc) ∧ Z.cell? ⟨g, q * 3, none⟩ = some (.int .i64 p.off) ∧ Z.cell? ⟨g, q * 3 + 1, none⟩ = some (.int .i64 p.size) ∧ Z.cell? ⟨g, q * 3 + 2, none⟩ = some (.bool p.fin)) (go_keep) (first | (go_at_call 16; refine hl.mono ?_; rintro e Y2 ⟨rfl, hq2⟩; obtain ⟨H4, z6, z0, z1, z2⟩ := unhide POST Y2 hq2; clear hq2))
            clear POST hl c6 r0 r1 r2 z6 z0 z1 z2
            go_wp2_with fail
            exact ⟨⟨q + 1, lostB B' p, unhide HQN, by go_num, unhide H4, unhide HJP, unhide HCV⟩, by simp [intOf]; have := unhide HQN; omega⟩
        · obtain rfl : q = n := by omega
          have hno2 : ¬ (q : Int) < (q : Int) := by omega
          obtain ⟨hJ, hJP, hJC⟩ := unhide J
          have hPlen : PL.length = q := by rw [unhide HPL]; exact unhide HPN
          have hcl : Clear B'.S := Cov.clear (by rw [show ([] : List Pc) = PL.drop q by rw [← hPlen]; simp]; exact hJC)
          have c6 := hJ.m.cells.2.2.2.2.2.2
          have hGl : B'.G.length ≤ 1048576 := by rw [hJ.ok.gl, hJ.t]; exact unhide HTT
          have hlf := left_any hJ.m hGl
          have hle := leftN_le B'.G
          obtain ⟨M0, hM0⟩ : ∃ M0, M0 = leftN B'.G := ⟨_, rfl⟩
          rw [← hM0] at hlf hle
          have hM9 : M0 ≤ 1048576 := by omega
          have K0 : Hid (LI w bb b bg ta tc cap T (k + 0) (.slice pa q pc) Y B' ∧ Clear B'.S ∧ 0 + leftN B'.G + (if doneB B'.S = true then 0 else 1) ≤ M0 + 1) := by
            refine ⟨hJ, hcl, ?_⟩
            rw [← hM0]
            split <;> omega
          clear hJ hJP hJC J hcl hPlen hle hGl hM0
          go_wp2_with fail
          refine hlf.mono ?_
          rintro e Y' ⟨rfl, hY'⟩
          subst Y'
          clear hlf c6
          go_wp2_with fail
          go_loopw [18] (fun i Z => ∃ (n : Nat) (pv : Value) (B3 : Bk), i = .int .i64 (n : Int) ∧ Hid (LI w bb b bg ta tc cap T (k + n) pv Z B3 ∧ Clear B3.S ∧ n + leftN B3.G + (if doneB B3.S = true then 0 else 1) ≤ M0 + 1)) (fun i _ => M0 + 2 - (intOf i).toNat)
          case atStart => exact ⟨0, _, B', rfl, unhide K0⟩
          case round =>
            clear K0
            obtain ⟨n, pv, B3, rfl, K⟩ := hrel
            obtain ⟨Z, hZ⟩ : ∃ Z, Z = wr := ⟨_, rfl⟩
            subst hZ
            obtain ⟨hK, hKc, hKn⟩ := unhide K
            have hf := li_feed hK (unhide HTT) true
            have hcl1 := @clear_feed cap true B3 hKc
            have hdn := @feed_done cap true B3 hK.ok
            have e6 := (@feed_same cap true B3).2.2.2.2.2.1
            have hn1 : n + leftN (feedB cap true B3).G + (if doneB (feedB cap true B3).S = true then 0 else 1) ≤ M0 + 1 := by rw [e6, hdn]; exact hKn
            have hdue : doneB (feedB cap true B3).S = false → (dueS (feedB cap true B3).S 7 4611686018427387904).2.2 = true := fun hd => end_due hK.ok hKc (by omega) (by rw [hK.t]; have := unhide HTT; omega) hd
            have HN1 := hide hn1
            have HDUE := hide hdue
            have HCL1 := hide hcl1
            have hn9 : n ≤ M0 + 1 := by omega
            clear hK hKc hKn K hcl1 hdn e6 hn1 hdue
            generalize feedB cap true B3 = B1 at *
            go_wp2_with fail
            refine hf.mono ?_
            rintro e Z1 ⟨rfl, h1⟩
            obtain ⟨M, ba1, bl1', vh1, hA, -⟩ := h1.m.at_
            have hv := view_at hA h1.ok.ok (h1.big (unhide HTT))
            have H1 := hide h1
            clear hf h1 hA
            go_wp2_with fail
            refine hv.mono ?_
            rintro e Z2 ⟨va, vl, rfl, r1, r2, -, -, -, gv⟩
            obtain ⟨a3, k3, rfl, -⟩ := r1.shape
            obtain ⟨a4, k4, rfl, -⟩ := r2.shape
            obtain ⟨Z3, hZ3⟩ : ∃ Z3, Z3 = Z2.alloc (.cells (viewC B1.S (.slice a3 B1.S.A.length k3) (.slice a4 B1.S.L.length k4)) 36) := ⟨_, rfl⟩
            have g3 : Z1.grownBy Z3 none := by rw [hZ3]; exact grown_trans gv (grown_alloc _ _)
            have h3 := (unhide H1).grown g3
            have bv : Blk Z3 Z2.heap.size (viewC B1.S (.slice a3 B1.S.A.length k3) (.slice a4 B1.S.L.length k4)) 36 := by rw [hZ3]; exact Blk.new _ _ _
            have H3 := hide h3
            have BV := hide bv
            clear h3 bv g3 gv r1 r2 hv H1
            unfold viewC at hZ3 ⊢
            go_upto_region 31 with fail
            rw [← hZ3]
            clear hZ3
            have m2 : Z3.cell? ⟨Z2.heap.size, 2, none⟩ = some (.int .i64 B1.S.base) := (unhide BV).cell 2 _ rfl
            have m7 : Z3.cell? ⟨Z2.heap.size, 7, none⟩ = some (.bool (decide (B1.S.fin = 3))) := (unhide BV).cell 7 _ rfl
            have m9 : Z3.cell? ⟨Z2.heap.size, 9, none⟩ = some (.bool (doneB B1.S)) := (unhide BV).cell 9 _ rfl
            clear BV
            generalize Z2.heap.size = vb at *
            cases hd : doneB B1.S with
            | true =>
              obtain ⟨f1, f2, f3, f4, f5⟩ := done_all (unhide H3).ok hd
              obtain ⟨-, -, -, c3, -, c5, -⟩ := (unhide H3).m.cells
              have hlf := left_any (unhide H3).m (by rw [(unhide H3).ok.gl, (unhide H3).t]; exact unhide HTT)
              rw [(unhide H3).t, unhide HTN] at f4
              rw [f1] at c5
              rw [f3] at c3
              rw [f2] at hlf
              rw [f4] at m2
              rw [hd] at m9
              rw [f5] at m7
              simp only [decide_true] at m7
              clear f1 f2 f3 f4 f5 hd HDUE HN1 HCL1
              as_aux_lemma =>
                go_wp2_with fail
                refine hlf.mono ?_
                rintro e Z3' ⟨rfl, hZ3'⟩
                subst Z3'
                clear hlf
                go_wp2_with fail
                go_ret
                exact ⟨rfl, (unhide H3).m.gr⟩
            | false =>
              rw [hd] at m9
              have hdt : ∃ f t, dueS B1.S 7 4611686018427387904 = (f, t, true) := ⟨(dueS B1.S 7 4611686018427387904).1, (dueS B1.S 7 4611686018427387904).2.1, by rw [← unhide HDUE hd]⟩
              obtain ⟨f, t, hdt⟩ := hdt
              have h3 := unhide H3
              have hbig := h3.big (unhide HTT)
              have ha := ask_yes h3.m h3.ok (by rw [h3.t]; exact unhide HTT) (by have := h3.n; omega) 7 (by omega) f t hdt
              have hend := end_round h3.ok hbig (unhide HCL1) (most := 7) (limit := 4611686018427387904) (by omega) (by omega) hdt hd
              have hok4 := bk_ask h3.ok hbig hdt
              have hnn := unhide HN1
              rw [if_neg (by rw [hd]; simp)] at hnn
              have HEND := hide hend
              have HOK4 := hide hok4
              have HNN := hide hnn
              have hnM : n + 1 ≤ M0 + 1 := by omega
              have hno3 : ¬ (M0 : Int) + 1 < (n : Int) + 1 := by omega
              have hno3d : decide ((M0 : Int) + 1 < (n : Int) + 1) = false := decide_eq_false hno3
              have h3t := h3.t
              have h3n := h3.n
              have HT3 := hide h3t
              clear h3 hbig hend hok4 hnn HN1 HCL1 HDUE hd hdt m2 m7 h3t
              go_wp2_with fail
              refine ha.mono ?_
              rintro e Z4 ⟨rfl, pv4, hb4⟩
              have h4 : LI w bb b bg ta tc cap T (k + (n + 1)) pv4 Z4 (askB B1 f t) := ⟨hb4, unhide HOK4, unhide HT3, by show (B1.P ++ [_]).length ≤ k + (n + 1); simp; omega⟩
              obtain ⟨pc0, hpc0⟩ : ∃ p, p = (⟨f, t - f, endB B1.S t⟩ : Pc) := ⟨_, rfl⟩
              have hPP : (askB B1 f t).P = B1.P ++ [pc0] := by rw [hpc0]; rfl
              obtain ⟨pa4, pc4, rfl, -, -, hrow4⟩ := h4.row
              obtain ⟨L, hL9⟩ : ∃ L, L = B1.P.length := ⟨_, rfl⟩
              obtain ⟨n4, hn4⟩ : ∃ n4, n4 = L + 1 := ⟨_, rfl⟩
              have hlen4 : (askB B1 f t).P.length = n4 := by rw [hPP, hn4, hL9]; simp
              have hget : (askB B1 f t).P[L]? = some pc0 := by rw [hPP, hL9]; simp
              obtain ⟨g, rfl, -, hrc⟩ := hrow4.resolve_left (fun e => by rw [e] at hget; simp at hget)
              obtain ⟨r0, r1, r2⟩ := hrc L pc0 hget
              have c6 := h4.m.cells.2.2.2.2.2.2
              rw [hlen4] at c6
              have hmem := List.mem_of_getElem? hget
              have hak := li_acked (h4.grown (grown_drewN Z4 1)) (unhide HTT) hmem
              have POST : Hid (∀ Y2, LI w bb b bg ta tc cap T (k + (n + 1)) (.slice (some ⟨g, 0, none⟩) (askB B1 f t).P.length pc4) Y2 (ackB (askB B1 f t) pc0) → Hid (LI w bb b bg ta tc cap T (k + (n + 1)) (.slice (some ⟨g, 0, none⟩) (askB B1 f t).P.length pc4) Y2 (ackB (askB B1 f t) pc0)) ∧ Y2.cell? ⟨bb, 6, none⟩ = some (.slice (some ⟨g, 0, none⟩) n4 pc4) ∧ Y2.cell? ⟨g, L * 3, none⟩ = some (.int .i64 pc0.off) ∧ Y2.cell? ⟨g, L * 3 + 1, none⟩ = some (.int .i64 pc0.size) ∧ Y2.cell? ⟨g, L * 3 + 2, none⟩ = some (.bool pc0.fin)) := fun Y2 h => by
                obtain ⟨pa2, pc2, hpe2, -, -, hrow2⟩ := h.row
                injection hpe2 with e1 e2 e3
                subst e1
                obtain ⟨g2, eg, -, hrc2⟩ := hrow2.resolve_left (fun e => by have e' : (askB B1 f t).P = [] := e; rw [e'] at hget; simp at hget)
                cases eg
                have z6 := h.m.cells.2.2.2.2.2.2
                rw [hlen4] at z6
                exact ⟨h, z6, hrc2 L pc0 hget⟩
              have END : Hid (Clear (ackB (askB B1 f t) pc0).S ∧ (n + 1) + leftN (ackB (askB B1 f t) pc0).G + (if doneB (ackB (askB B1 f t) pc0).S = true then 0 else 1) ≤ M0 + 1) := by
                rw [hpc0]
                refine ⟨(unhide HEND).1, ?_⟩
                have := (unhide HEND).2
                have := unhide HNN
                omega
              have hL0 : (0 : Int) ≤ (L : Int) := by omega
              have hL1 : (L : Int) < (n4 : Int) := by omega
              have hL3 : L < n4 := by omega
              have hL2 : (n4 : Int) - 1 = (L : Int) := by omega
              have hL4 : IntKind.i64.wrap (L : Int) = (L : Int) := by rw [IntKind.wrap_i64]; omega
              have hLb : L ≤ 10000000 := by omega
              unfold pca at hak
              clear ha hb4 h4 hPP hrow4 hlen4 hget hrc hmem HEND HNN HOK4 hpc0 hL9 m9 hn4
              as_aux_lemma =>
                go_upto_region 40 with fail
                go_region_held3 (fun Z => Z.cell? ⟨bb, 6, none⟩ = some (.slice (some ⟨g, 0, none⟩) n4 pc4) ∧ Z.cell? ⟨g, L * 3, none⟩ = some (.int .i64 pc0.off) ∧ Z.cell? ⟨g, L * 3 + 1, none⟩ = some (.int .i64 pc0.size) ∧ Z.cell? ⟨g, L * 3 + 2, none⟩ = some (.bool pc0.fin)) (go_keep) (first | (go_at_call 15; refine hak.mono ?_; rintro e Y2 ⟨rfl, hq2⟩; obtain ⟨H5, z6, z0, z1, z2⟩ := unhide POST Y2 hq2; clear hq2))
                clear POST hak c6 r0 r1 r2 z6 z0 z1 z2
                go_wp2_with fail
                exact ⟨⟨n + 1, _, _, by go_num, unhide H5, unhide END⟩, by simp [intOf]; omega⟩
end Go.Proofs.Ytdalekjpjnhboaa
