/- pick, Later; a script that came in; one Seen that a call has made. -/
import Derived.Test.YtielpjdjlmkejaaZO
import Derived.Test.YtielpjdjlmkejaaZP
namespace Go.Proofs.Ytielpjdjlmkejaa
open Go.RowKit
set_option linter.unusedVariables false
set_option maxRecDepth 100000
set_option maxHeartbeats 1000000

/-- Which of n things a raw number speaks of. -/
def pk (c n : Int) : Int := (if c < 0 then -(c + 1) else c) % n

theorem pick_any (c n : Int) (hc : -9223372036854775808 ≤ c ∧ c ≤ 9223372036854775807) (hn : 0 < n ∧ n ≤ 9223372036854775807) (w : World) :
    Calls Try.prog 11 #[.int .i64 c, .int .i64 n] w fun e w' => e = .returned (.int .i64 (pk c n)) ∧ w' = w := by
  have n0 : (n == 0) = false := by simp; omega
  have n1 : ¬ n = 0 := by omega
  by_cases h : c < 0
  · have E : Hid (pk c n = -((c + 1).tmod n)) := by
      unfold pk; rw [if_pos h]; show _ = _; rw [← Int.neg_tmod, Int.tmod_eq_emod_of_nonneg (by omega)]
    go_enter Try.func11, Try.ntmps11
    go_wp2_with fail
    go_ret
    exact ⟨by rw [unhide E]; rfl, rfl⟩
  · have E : Hid (pk c n = c % n) := by unfold pk; rw [if_neg h]; rfl
    go_enter Try.func11, Try.ntmps11
    go_wp2_with fail
    go_ret
    exact ⟨by rw [unhide E]; rfl, rfl⟩

theorem pk_range (c : Int) : 0 ≤ pk c 6 ∧ pk c 6 < 6 := by unfold pk; exact ⟨Int.emod_nonneg _ (by omega), Int.emod_lt_of_pos _ (by omega)⟩

def lat (c now : Int) : Int := min (max now c) 1125899906842624
theorem later_any (c : Int) (now : Int) (hc : c ≤ 1125899906842624) (w : World) : Calls Try.prog 19 #[.int .i64 c, .int .i64 now] w fun e w' => e = .returned (.int .i64 (lat c now)) ∧ w' = w := by
  by_cases h1 : (1125899906842624 : Int) < now
  · have e : lat c now = 1125899906842624 := by unfold lat; omega
    rw [e]
    have h2 : ¬ (1125899906842624 : Int) < c := by omega
    clear e
    go_enter Try.func19, Try.ntmps19
    go_wp2_with fail
    go_ret
    exact ⟨rfl, rfl⟩
  · by_cases h2 : now < c
    · have e : lat c now = c := by unfold lat; omega
      rw [e]
      clear e
      go_enter Try.func19, Try.ntmps19
      go_wp2_with fail
      go_ret
      exact ⟨rfl, rfl⟩
    · have e : lat c now = now := by unfold lat; omega
      rw [e]
      clear e
      go_enter Try.func19, Try.ntmps19
      go_wp2_with fail
      go_ret
      exact ⟨rfl, rfl⟩

/-- A step of a script. -/
structure OpE where
  kind : Int
  other : Bool
  now : Int
  number : Int
  el : Bool
  mark : Int
abbrev i64B (x : Int) : Prop := -9223372036854775808 ≤ x ∧ x ≤ 9223372036854775807
structure OpE.Ok (x : OpE) : Prop where
  k : i64B x.kind
  w : i64B x.now
  n : i64B x.number
  m : i64B x.mark
def OpE.cs (x : OpE) : List Value := [.int .i64 x.kind, .bool x.other, .int .i64 x.now, .int .i64 x.number, .bool x.el, .int .i64 x.mark]
/-- A script that came in. -/
structure IsOps (w : World) (a : Option Addr) (len cap : Nat) (ol : List OpE) : Prop where
  hlen : ol.length = len
  hcap : len ≤ cap ∧ cap ≤ 9223372036854775807
  ok : ∀ x ∈ ol, x.Ok
  cell : len = 0 ∨ ∃ b off, a = some ⟨b, off, none⟩ ∧ ∀ i x, ol[i]? = some x → ∀ j v, x.cs[j]? = some v → w.cell? ⟨b, off + i * 6 + j, none⟩ = some v
theorem IsOps.keep {w w' : World} {a : Option Addr} {len cap : Nat} {ol : List OpE} (h : IsOps w a len cap ol) (hg : w.grownBy w' none) : IsOps w' a len cap ol :=
  ⟨h.hlen, h.hcap, h.ok, h.cell.imp id fun ⟨b, off, e, hc⟩ => ⟨b, off, e, fun i x hi j v hj => cell_grown_none hg (hc i x hi j v hj)⟩⟩

/-- One Seen that a call has made since w, and nothing else is another. -/
structure QS (w wr : World) (b : Nat) (s : Sn) : Prop where
  at_ : ∃ bs v, SN wr b bs v s ∧ ∀ g, Mine b bs v g → w.heap.size ≤ g
  grown : w.grownBy wr none

theorem QS.keep {w wr wr' : World} {b : Nat} {s : Sn} (h : QS w wr b s) (hg : wr.grownBy wr' none) : QS w wr' b s := by
  obtain ⟨bs, v, h1, h2⟩ := h.at_
  exact ⟨⟨bs, v, h1.grown hg, h2⟩, grown_trans h.grown hg⟩

theorem QS.to {w wr wr' : World} {b bs : Nat} {v : Value} {s' : Sn} (hg : w.grownBy wr none) (h2 : ∀ g, Mine b bs v g → w.heap.size ≤ g) (h : To b bs v wr s' wr') : QS w wr' b s' := by
  obtain ⟨v', h3, h4, h5⟩ := h
  refine ⟨⟨bs, v', h3, ?_⟩, ⟨h5.os.trans hg.os, h5.tape.trans hg.tape, h5.output.trans hg.output, Nat.le_trans hg.size h5.size, fun k hk _ => ?_⟩⟩
  · rintro g (e | e | e)
    · exact h2 g (.inl e)
    · exact h2 g (.inr (.inl e))
    · rcases h4 with h4 | h4
      · exact h2 g (.inr (.inr (h4 ▸ e)))
      · exact Nat.le_trans hg.size (h4 g e)
  · rw [h5.block k (Nat.lt_of_lt_of_le hk hg.size) (fun hm => by have := h2 k hm; omega)]
    exact hg.block k hk (by simp)

theorem qs_new {w wr : World} (hg : w.grownBy wr none) {space delay : Int} (h : rightF space delay) :
    Calls Try.prog 7 #[.int .i64 space, .int .i64 delay] wr fun e wr' => e = .returned (.tuple #[ptr (wr.heap.size + 1), .int .i64 0]) ∧ QS w wr' (wr.heap.size + 1) (sn0 space delay) := by
  refine (new_right space delay wr h).mono ?_
  rintro e wr' ⟨rfl, h1, h2⟩
  refine ⟨rfl, ⟨⟨_, _, h1, ?_⟩, grown_trans hg h2⟩⟩
  have := hg.size
  rintro g (e | e | e)
  · omega
  · omega
  · cases e

theorem qs_fresh {w wr : World} {b : Nat} {s : Sn} (h : QS w wr b s) (ok : SOk s) (n : Int) :
    Calls Try.prog 12 #[ptr b, .int .i64 n] wr fun e wr' => e = .returned (.bool (freshF s n)) ∧ QS w wr' b s := by
  obtain ⟨bs, v, h1, h2⟩ := h.at_
  exact (fresh_any b bs v s n wr h1 ok.ok).mono fun e wr' ⟨he, hg⟩ => ⟨he, h.keep hg⟩

theorem qs_take {w wr : World} {b : Nat} {s : Sn} (h : QS w wr b s) (ok : SOk s) {k : Nat} (hc : Cb k s) (hk : (k : Int) < 9223372036854775807) (now n : Int) (el : Bool) (mark : Int) :
    Calls Try.prog 13 #[ptr b, .int .i64 now, .int .i64 n, .bool el, .int .i64 mark] wr fun e wr' => e = .returned (.bool (freshF (goF now s) n)) ∧ QS w wr' b (takeF now n el mark s) := by
  obtain ⟨bs, v, h1, h2⟩ := h.at_
  cases hf : freshF (goF now s) n with
  | false =>
    refine (stale_any b bs v s now n mark el wr h1 ok.ok hf).mono fun e wr' ⟨he, ht⟩ => ⟨he, ?_⟩
    unfold takeF
    rw [hf]
    exact QS.to h.grown h2 ht
  | true =>
    refine (take_any b bs v s now n mark el wr h1 (take_ok ok hc hk now n hf) ok.floor.1).mono fun e wr' ⟨he, ht⟩ => ⟨by rw [he, hf], QS.to h.grown h2 ht⟩

theorem qs_forget {w wr : World} {b : Nat} {s : Sn} (h : QS w wr b s) (ok : SOk s) (n : Int) :
    Calls Try.prog 18 #[ptr b, .int .i64 n] wr fun e wr' => e = .returned (.tuple #[]) ∧ QS w wr' b (forgetF n s) := by
  obtain ⟨bs, v, h1, h2⟩ := h.at_
  exact (forget_any b bs v s n wr h1 ok.ok (by have := ok.large; omega)).mono fun e wr' ⟨he, ht⟩ => ⟨he, QS.to h.grown h2 ht⟩

theorem qs_due {w wr : World} {b : Nat} {s : Sn} (h : QS w wr b s) : Calls Try.prog 20 #[ptr b] wr fun e wr' => e = .returned (.int .i64 s.due) ∧ wr' = wr := by
  obtain ⟨bs, v, h1, h2⟩ := h.at_
  exact due_any b bs v s wr h1
theorem qs_floor {w wr : World} {b : Nat} {s : Sn} (h : QS w wr b s) : Calls Try.prog 15 #[ptr b] wr fun e wr' => e = .returned (.int .i64 s.floor) ∧ wr' = wr := by
  obtain ⟨bs, v, h1, h2⟩ := h.at_
  exact floor_any b bs v s wr h1

theorem qs_runs {w wr : World} {b : Nat} {s : Sn} (h : QS w wr b s) (ok : SOk s) : Calls Try.prog 16 #[ptr b] wr fun e wr' => ∃ a c, e = .returned (.slice a s.L.length c) ∧ s.L.length ≤ c ∧ c ≤ 9223372036854775807 ∧ Row wr' (.slice a s.L.length c) s.L ∧ wr.grownBy wr' none := by
  obtain ⟨bs, v, h1, h2⟩ := h.at_
  refine (runs_seen b bs v s wr h1 ok.ok).mono ?_
  rintro e wr' ⟨v', rfl, h3, h4, h5⟩
  obtain ⟨a, c, rfl, -, hcm, hnc⟩ := h3.shape
  unfold maxLen at hcm
  exact ⟨a, c, rfl, hnc, by omega, h3, h5⟩

/-- What Ack leaves. -/
def ackF (now : Int) (s : Sn) : Sn := if s.L = [] then goF now s else ackS now s
theorem sok_ack {s : Sn} (h : SOk s) (now : Int) : SOk (ackF now s) := by
  unfold ackF
  split
  · exact sok_go h now
  · exact sok_rest (sok_go h now)

theorem frA_one (a : Option Addr) (n c : Nat) (d : Int) (m : Bool) (c0 c2 : Int) : (frA (.slice a n c) d m c0 c2).size = 17 ∧ (frA (.slice a n c) d m c0 c2).all (·.oneCell') = true := ⟨rfl, by simp [frA, Value.oneCell']⟩
theorem fr0_one : fr0.size = 17 ∧ fr0.all (·.oneCell') = true := ⟨rfl, by simp [fr0, Value.oneCell']⟩

/-- The frame that Ack answers, and what is behind it. -/
def AckF (s : Sn) (now ex : Int) (wr wr' : World) (cs : Array Value) : Prop :=
  (s.L = [] ∧ cs = fr0) ∨ (s.L ≠ [] ∧ ∃ a c, cs = frA (.slice a s.L.length c) (dlyF ((goF now s).clock - s.came) ex) (mrkF s.c0 s.c2) s.c0 s.c2 ∧ Row wr' (.slice a s.L.length c) s.L.reverse ∧ Fresh wr (.slice a s.L.length c))

theorem qs_ack {w wr : World} {b : Nat} {s : Sn} (h : QS w wr b s) (ok : SOk s) (now ex : Int) :
    Calls Try.prog 14 #[ptr b, .int .i64 now, .int .i64 ex] wr fun e wr' => ∃ cs, e = .returned (.tuple #[.agg cs, .bool (decide (s.L ≠ []))]) ∧ (cs.size = 17 ∧ cs.all (·.oneCell') = true) ∧ AckF s now ex wr wr' cs ∧ QS w wr' b (ackF now s) := by
  obtain ⟨bs, v, h1, h2⟩ := h.at_
  have g := sok_go ok now
  unfold ackF
  by_cases hL : s.L = []
  · refine (ack_none b bs v s now ex wr h1 hL).mono ?_
    rintro e wr' ⟨rfl, ht⟩
    rw [if_pos hL]
    exact ⟨fr0, by simp [hL], fr0_one, .inl ⟨hL, rfl⟩, QS.to h.grown h2 ht⟩
  · refine (ack_some b bs v s now ex wr h1 hL ok.ok ⟨ok.came.1, g.came.2, g.clock.2⟩).mono ?_
    rintro e wr' ⟨a, c, rfl, h3, h4, ht⟩
    rw [if_neg hL]
    exact ⟨_, by simp [hL], frA_one _ _ _ _ _ _ _, .inr ⟨hL, a, c, rfl, h3, h4⟩, QS.to h.grown h2 ht⟩
end Go.Proofs.Ytielpjdjlmkejaa
