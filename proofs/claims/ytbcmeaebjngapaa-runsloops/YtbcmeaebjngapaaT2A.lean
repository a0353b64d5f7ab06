/- Up and Down: what a round must keep is what came of late. -/
import Derived.Test.YtbcmeaebjngapaaSQ
import Derived.Test.YtbcmeaebjngapaaSU
import Derived.Test.YtbcmeaebjngapaaT2K
import Derived.Test.YtbcmeaebjngapaaT2L
import Derived.LoopIn
namespace Go.Proofs.Ytbcmeaebjngapaa
open Go.RowKit Go.Shelf
set_option linter.unusedVariables false
set_option maxHeartbeats 2000000
set_option maxRecDepth 100000
attribute [local go_sem] Oper.semAt_some

abbrev encA (x : Sp) : Array Value := #[.agg #[.int .i64 x.1, .int .i64 x.2]]

/-- A list of runs, read; its block lies from n on, and is not the row of the set at b. -/
structure RdK (w : World) (b n : Nat) (a : Option Addr) (c : Nat) (L : List Sp) : Prop where
  cap : L.length ≤ c ∧ c ≤ 9223372036854775807
  at_ : L = [] ∨ ∃ g, a = some ⟨g, 0, none⟩ ∧ n ≤ g ∧ ownS w b ≠ some g ∧ ∃ cs t, w.heap[g]? = some (.cells cs t (0, 0)) ∧ ∀ i x, L[i]? = some x → w.cell? ⟨g, i * 2, none⟩ = some (.int .i64 x.1) ∧ w.cell? ⟨g, i * 2 + 1, none⟩ = some (.int .i64 x.2)
theorem RdK.kc {w w' : World} {b n c : Nat} {a : Option Addr} {L : List Sp} (h : RdK w b n a c L) (k : KS b n w w') : RdK w' b n a c L := by
  refine ⟨h.cap, h.at_.imp id ?_⟩
  rintro ⟨g, e, hn, ho, cs, t, hb, hc⟩
  have hb' := k.same g _ hn hb rfl ho
  have cc : ∀ o, w'.cell? ⟨g, o, none⟩ = w.cell? ⟨g, o, none⟩ := fun o => by simp only [World.cell?, hb, hb']
  exact ⟨g, e, hn, fun e2 => ho (k.own g e2 (Array.getElem?_eq_some_iff.1 hb).1), cs, t, hb', fun i x hx => ⟨(cc _).trans (hc i x hx).1, (cc _).trans (hc i x hx).2⟩⟩
theorem RdK.mono {w : World} {b n n' c : Nat} {a : Option Addr} {L : List Sp} (h : RdK w b n a c L) (hn : n' ≤ n) : RdK w b n' a c L :=
  ⟨h.cap, h.at_.imp id (fun ⟨g, e, h1, r⟩ => ⟨g, e, Nat.le_trans hn h1, r⟩)⟩
theorem rdK_row {w : World} {v : Value} {L : List Sp} {b n : Nat} (h : Row w v L) (hf : ∀ k, v.ownBlock = some k → n ≤ k) (ho : ∀ k, v.ownBlock = some k → ownS w b ≠ some k) : ∃ a c, v = .slice a L.length c ∧ RdK w b n a c L := by
  rcases Row.at h with ⟨rfl, rfl⟩ | ⟨g, c, sp, rfl, hR⟩
  · exact ⟨none, 0, rfl, ⟨by simp, by omega⟩, .inl rfl⟩
  · refine ⟨_, c, rfl, ⟨?_, ?_⟩, .inr ⟨g, rfl, hf g rfl, ho g rfl, _, _, hR.1, fun i x hx => ?_⟩⟩
    · have := hR.2.1; omega
    · have := hR.2.2; unfold maxLen at this; omega
    · have hi : i < L.length := (List.getElem?_eq_some_iff.1 hx).1
      have e : L.getD i (0, 0) = x := by simp [List.getD, hx]
      have c0 := hR.cell (i * 2) _ (cl_lo L i hi)
      have c1 := hR.cell (i * 2 + 1) _ (cl_hi L i hi)
      rw [e] at c0 c1
      exact ⟨c0, c1⟩

/-- A set's Runs at whatever comes of w by laying more. -/
abbrev RunsAt (w : World) (p : Value) (L : List Sp) : Prop := ∀ W, w.grownBy W none → Calls Try.prog 7 #[p] W fun e w' => ∃ v', e = .returned v' ∧ Row w' v' L ∧ Fresh W v' ∧ W.grownBy w' none

theorem up1_kc (n : Nat) (hn : 1 ≤ n) (l Bs b n₀ : Nat) (p : Option Addr) (L : List Sp) (J Jx : List Sp → World → Prop)
    (hY : ∀ pre x X, J pre X → pre ++ [x] <+: L → YieldAt Fence.wide (n - 1) Try.prog l (encA x) X fun e X' =>
      (e = .returned (.bool true) ∧ J (pre ++ [x]) X' ∧ KS b n₀ X X') ∨ (e = .returned (.bool false) ∧ Jx (pre ++ [x]) X'))
    (hJ : ∀ pre X X', J pre X → X.grownBy X' none → J pre X')
    (w : World) (hBs : w.cell? ⟨Bs, 0, none⟩ = some (.pointer p)) (hR : RunsAt w (.pointer p) L) (hn0 : n₀ ≤ w.heap.size) (hb : b < w.heap.size) (hob : ∀ j, ownS w b = some j → j < w.heap.size) (hJb : ∀ pre X, J pre X → b < X.heap.size) (hlen : L.length ≤ 1000000) (h0 : J [] w) :
    CallsIn Fence.wide n Try.prog 25 #[.func (.yield l) #[] #[], .pointer (some ⟨Bs, 0, none⟩)] w fun e W' => (∃ v, e = .returned v) ∧
      ((∃ ys, ys = L ∧ J ys W') ∨ (∃ pre, pre <+: L ∧ Jx pre W')) := by
  have li := hR w (World.grownBy.refl _ _)
  have HY := hide hY; have H0 := hide h0; have HJ := hide hJ; have HJb := hide hJb
  clear hY h0 hJ hR hJb
  refine callsIn_of_wp Try.func25 rfl trivial ?_ rfl
  simp only [Try.ntmps25, List.size_toArray, List.length_cons, List.length_nil, Nat.reduceAdd, Nat.reduceSub, Array.replicate_succ, Array.replicate_zero, List.push_toArray, List.append_toArray, List.nil_append, List.cons_append]
  gi_wp2_with fail
  refine ⟨trivial, ?_⟩
  refine (callsIn_wide.2 li).mono ?_
  rintro e w1 ⟨v, rfl, row, hf, g1⟩
  obtain ⟨a, cp, rfl, rd⟩ := rdK_row (b := b) row hf (fun k hk e => by rw [ownS_same (g1.block b hb (by simp))] at e; have := hob k e; have := hf k hk; omega)
  have ST := hide (And.intro (unhide HJ [] w w1 (unhide H0) g1) (rd.mono hn0))
  have cap := rd.cap
  have lenI : ¬ (9223372036854775807 : Int) < (L.length : Int) := by omega
  clear li rd g1 H0 row hf
  gi_wp2_with fail
  gi_loopw [8] (fun iv wr => ∃ k : Nat, k ≤ L.length ∧ iv = .int .i64 k ∧ Hid (J (L.take k) wr ∧ RdK wr b n₀ a cp L)) (fun iv _ => L.length - (intOf iv).toNat)
  case atStart => exact ⟨0, Nat.zero_le _, rfl, unhide ST⟩
  case round =>
    obtain ⟨k, hk, rfl, H⟩ := hrel
    clear ST
    by_cases hlt : k < L.length
    · have kI : (k : Int) < (L.length : Int) := by omega
      obtain ⟨x, hp⟩ : ∃ x, L[k]? = some x := ⟨L[k], by simp⟩
      obtain ⟨hj, rd⟩ := unhide H
      obtain ⟨g, rfl, hgn, hgo, cs, t, hgb, hc⟩ := rd.at_.resolve_left (fun e => by subst e; simp at hlt)
      obtain ⟨c0, c1⟩ := hc k x hp
      have gA := World.grownBy_alloc wr (.cells #[.int .i64 x.1, .int .i64 x.2] 31) none
      have bq := heap_alloc_new wr (.cells #[.int .i64 x.1, .int .i64 x.2] 31)
      have b0 := (box2 bq).1
      have b1 := (box2 bq).2
      obtain ⟨fn, tmps, assign, body, hy, hRR⟩ := (unhide HY) (L.take k) x _ (unhide HJ _ _ _ hj gA) (by rw [show L.take k ++ [x] = L.take (k + 1) by rw [List.take_add_one, hp]; rfl]; exact List.take_prefix _ _)
      have HRR := hide hRR
      have HR := hide (rd.kc (KS.grown (unhide HJb _ _ hj) gA))
      have tk : L.take k ++ [x] = L.take (k + 1) := by rw [List.take_add_one, hp]; rfl
      clear hRR H hj rd hc bq gA hgn hgb hgo
      gi_wp2_with fail
      refine (unhide HRR).mono ?_
      rintro e W3 (⟨rfl, hJ3, hk3⟩ | ⟨rfl, hJx3⟩)
      · rw [tk] at hJ3
        have HK := hide (And.intro hJ3 ((unhide HR).kc hk3))
        clear hJ3 hk3 HRR HR hy
        gi_wp2_with fail
        go_roundw
        case rel => exact ⟨k + 1, hlt, by go_num, unhide HK⟩
        case measure => simp [intOf]; omega
      · rw [tk] at hJx3
        have HK := hide hJx3
        clear hJx3 HRR HR hy
        gi_wp2_with fail
        refine bodyPost_ret (results_none rfl _ _ _) rfl ?_
        exact ⟨⟨_, rfl⟩, .inr ⟨_, List.take_prefix _ _, unhide HK⟩⟩
    · obtain rfl : k = L.length := by omega
      have kI : ¬ (L.length : Int) < (L.length : Int) := by omega
      obtain ⟨hj, -⟩ := unhide H
      rw [List.take_length] at hj
      have E := hide hj
      clear hj H
      gi_wp2_with fail
      go_end0
      exact ⟨⟨_, rfl⟩, .inl (unhide E)⟩

theorem RunsAt.bel {w X : World} {p : Value} {L : List Sp} (h : RunsAt w p L) (hX : Below w.heap.size w X) : RunsAt X p L := fun W g => h W (grown_trans ⟨hX.os, hX.tape, hX.output, hX.size, fun i hi _ => hX.block i hi⟩ g)
theorem up_seq (Bs b n₀ : Nat) (p : Option Addr) (L : List Sp) (w : World) (hBs : w.cell? ⟨Bs, 0, none⟩ = some (.pointer p)) (hR : RunsAt w (.pointer p) L) (hn0 : n₀ ≤ w.heap.size) (hb : b < w.heap.size) (hob : ∀ j, ownS w b = some j → j < w.heap.size) (hlen : L.length ≤ 1000000) :
    SeqO 25 #[.pointer (some ⟨Bs, 0, none⟩)] encA (KS b n₀) (fun ys => ys = L) (fun pre => pre <+: L) w := fun l J Jx X hX hJ hJx hY hJ0 => by
  have os : ownS X b = ownS w b := ownS_same (hX.block b hb)
  refine ((callsIn_wide (n := 2)).1 (up1_kc 2 (by decide) l Bs b n₀ p L (fun pre Y => J pre Y ∧ b < Y.heap.size) Jx ?_ (fun pre Y Y' h g => ⟨hJ pre Y Y' none h.1 g (fun r e => by cases e), Nat.lt_of_lt_of_le h.2 g.size⟩) X ((hX.cell (p := ⟨Bs, 0, none⟩) (World.block_lt_of_cell? w _ hBs)).trans hBs) (hR.bel hX) (Nat.le_trans hn0 hX.size) (Nat.lt_of_lt_of_le hb hX.size) (fun j e => by rw [os] at e; have := hob j e; have := hX.size; omega) (fun pre Y h => h.2) hlen ⟨hJ0, Nat.lt_of_lt_of_le hb hX.size⟩)).mono ?_
  · intro pre x Y hj hp
    refine (hY 1 pre x Y hj.1 hp).mono ?_
    rintro e Y' (⟨h1, h2, h3, -⟩ | ⟨h1, h2, -⟩)
    · exact .inl ⟨h1, ⟨h2, Nat.lt_of_lt_of_le hj.2 h3.size⟩, h3⟩
    · exact .inr ⟨h1, h2⟩
  · rintro e W' ⟨h1, ⟨ys, h2, h3, -⟩ | h2⟩
    · exact ⟨h1, .inl ⟨ys, h2, h3⟩⟩
    · exact ⟨h1, .inr h2⟩
theorem up_any (q : Option Addr) (w : World) :
    Calls Try.prog 14 #[.pointer q] w fun e w' => e = .returned (.func (.func 25) #[] #[.pointer (some ⟨w.heap.size, 0, none⟩)]) ∧ w' = w.alloc (.cells #[.pointer q] 24) := by
  go_enter Try.func14, Try.ntmps14
  go_wp2
  go_ret
  exact ⟨rfl, rfl⟩
theorem down_any (q : Option Addr) (w : World) :
    Calls Try.prog 15 #[.pointer q] w fun e w' => e = .returned (.func (.func 26) #[] #[.pointer (some ⟨w.heap.size, 0, none⟩)]) ∧ w' = w.alloc (.cells #[.pointer q] 24) := by
  go_enter Try.func15, Try.ntmps15
  go_wp2
  go_ret
  exact ⟨rfl, rfl⟩
end Go.Proofs.Ytbcmeaebjngapaa
