/- wait; Add and Cut of a set with what they leave; raise, keep; Len, Runs, New, Forget. -/
import Derived.Test.YtielpjdjlmkejaaZI
namespace Go.Proofs.Ytielpjdjlmkejaa
open Go.RowKit
set_option linter.unusedVariables false
set_option maxHeartbeats 400000
set_option maxRecDepth 100000

def waitF (a : Arr) (s : Sn) : Sn := { s with due := min s.due (if a.hurries then s.clock else s.clock + s.delay) }

theorem wait_any (a : Arr) (b bs : Nat) (v : Value) (s : Sn) (w : World) (h : SN w b bs v s) (hb : -1 ≤ a.largest ∧ a.largest ≤ 4611686018427387904) (hc : 0 ≤ s.clock ∧ s.clock ≤ 1125899906842624) (hd : 0 ≤ s.delay ∧ s.delay ≤ 68719476736) :
    Calls Try.prog 33 #[ptr b, a.v] w fun e w' => e = .returned (.tuple #[]) ∧ SN w' b bs v (waitF a s) ∧ Kp (fun g => g = b) w w' := by
  obtain ⟨W1, hW1⟩ : ∃ W1, W1 = w.alloc (.cells #[.int .i64 a.space, .int .i64 a.number, .int .i64 a.largest, .int .i64 a.mark, .bool a.waits] 71) := ⟨_, rfl⟩
  have g1 : w.grownBy W1 none := by rw [hW1]; exact grown_alloc _ _
  have h1 := h.grown g1
  have c2 := h1.cells.2.2.1
  rw [hW1] at c2
  have hh := hurries_any a W1 hb
  have key : Hid (∀ W, W1.grownBy W none → ∀ x, x = min s.due (if a.hurries then s.clock else s.clock + s.delay) → (W.cell? ⟨b, 1, none⟩ = some (.int .i64 s.delay) ∧ W.cell? ⟨b, 11, none⟩ = some (.int .i64 s.due) ∧ W.frozen? ⟨b, 11, none⟩ = false) ∧ SN (W.setCell ⟨b, 11, none⟩ (.int .i64 x)) b bs v (waitF a s) ∧ Kp (fun g => g = b) w (W.setCell ⟨b, 11, none⟩ (.int .i64 x))) := by
    rintro W hg x rfl
    have hW := h1.grown hg
    exact ⟨⟨hW.cells.2.1, hW.cells.2.2.2.2.2.2.2.2.2.2.2, hW.blk.thaw 11⟩, hW.put (s' := waitF a s) 11 _ rfl rfl, (Kp.grown (grown_trans g1 hg) _).trans (kp_put _ b 11 _)⟩
  have hwd : IntKind.i64.wrap (s.clock + s.delay) = s.clock + s.delay := by rw [IntKind.wrap_i64]; omega
  have bA : Blk W1 w.heap.size #[.int .i64 a.space, .int .i64 a.number, .int .i64 a.largest, .int .i64 a.mark, .bool a.waits] 71 := by rw [hW1]; exact Blk.new _ _ _
  rw [hW1] at bA
  have x0 := bA.cell 0 _ rfl
  have x1 := bA.cell 1 _ rfl
  have x2 := bA.cell 2 _ rfl
  have x3 := bA.cell 3 _ rfl
  have x4 := bA.cell 4 _ rfl
  clear h h1 hb bA g1
  unfold Arr.v at *
  generalize s.clock = c at *
  generalize s.delay = d at *
  generalize s.due = u at *
  generalize a.hurries = y at *
  go_enter Try.func33, Try.ntmps33
  go_wp2_with fail
  rw [← hW1]
  refine hh.mono ?_
  rintro e W ⟨rfl, hg⟩
  obtain ⟨⟨k1, k2, k3⟩, -⟩ := unhide key W hg _ rfl
  have G := hide hg
  clear hh hg x0 x1 x2 x3 x4 c2 hW1
  cases y with
  | true =>
    by_cases h2 : u ≤ c
    all_goals
      go_wp2
      all_goals refine bodyPost_end (results_none rfl _ _ _) rfl ?_
      all_goals exact ⟨rfl, (unhide key W (unhide G) _ (by simp; omega)).2⟩
  | false =>
    by_cases h2 : u ≤ c + d
    all_goals
      go_wp2
      all_goals refine bodyPost_end (results_none rfl _ _ _) rfl ?_
      all_goals exact ⟨rfl, (unhide key W (unhide G) _ (by simp; omega)).2⟩

/-- What is there behind a call that changes a Seen. -/
def To (b bs : Nat) (v : Value) (w : World) (s' : Sn) (w' : World) : Prop := ∃ v', SN w' b bs v' s' ∧ (v'.ownBlock = v.ownBlock ∨ Fresh w v') ∧ Kp (Mine b bs v) w w'

theorem To.of {b bs : Nat} {v : Value} {w w' : World} {s' : Sn} (h : SN w' b bs v s') (k : Kp (fun g => g = b) w w') : To b bs v w s' w' := ⟨v, h, .inl rfl, k.mono (fun g _ e => .inl e)⟩
theorem To.step {b bs : Nat} {v v1 : Value} {w w1 w2 : World} {s2 : Sn} (o : v1.ownBlock = v.ownBlock ∨ Fresh w v1) (k : Kp (Mine b bs v) w w1) (h : To b bs v1 w1 s2 w2) : To b bs v w s2 w2 := by
  obtain ⟨v2, h2, o2, k2⟩ := h
  refine ⟨v2, h2, ?_, ?_⟩
  · rcases o2 with o2 | o2
    · rcases o with o | o
      · exact .inl (o2.trans o)
      · exact .inr (fun g e => o g (o2 ▸ e))
    · exact .inr (fun g e => Nat.le_trans k.size (o2 g e))
  · refine ⟨k2.os.trans k.os, k2.tape.trans k.tape, k2.output.trans k.output, Nat.le_trans k.size k2.size, fun g hg hn => ?_⟩
    rw [k2.block g (Nat.lt_of_lt_of_le hg k.size) ?_]
    · exact k.block g hg hn
    · rintro (e | e | e)
      · exact hn (.inl e)
      · exact hn (.inr (.inl e))
      · rcases o with o | o
        · exact hn (.inr (.inr (o ▸ e)))
        · have := o g e; omega
theorem kp_of_touch {b bs : Nat} {v : Value} {w w' : World} (t : Touch w w' bs v) : Kp (Mine b bs v) w w' :=
  ⟨t.os, t.tape, t.output, t.size, fun g hg hn => t.block g hg (fun e => hn (.inr (.inl e))) (fun e => hn (.inr (.inr e.symm)))⟩

/-- Add and Cut, at a set of a Seen. -/
theorem SN.set_to {w w' : World} {b bs : Nat} {v v' : Value} {s : Sn} {L' : List Sp} (h : SN w b bs v s) (hs : SetAt w' bs 0 v' L') (t : Touch w w' bs v) : SN w' b bs v' { s with L := L' } :=
  ⟨(t.block b h.lt h.ne (fun e => h.neV e.symm)).trans h.blk, hs⟩

theorem add_set (bs : Nat) (v : Value) (L : List Sp) (n : Int) (w : World) (h : SetAt w bs 0 v L) (hL : Ok L) (hlo : -9223372036854775808 ≤ n) (hhi : n ≤ 9223372036854775807) :
    Calls Try.prog 46 #[ptr bs, .int .i64 n, .int .i64 n] w fun e w' => ∃ m, e = .returned (.int .u64 m) ∧ ∃ v', SetAt w' bs 0 v' (addS 0 n n L) ∧ (v'.ownBlock = v.ownBlock ∨ Fresh w v') ∧ Touch w w' bs v := by
  unfold addS
  rw [if_neg (by omega)]
  obtain ⟨A, M, D, rfl, hA, hM, hD⟩ := split3 (n - 1) (n + 1) hL.good (by omega)
  rw [addF_split hL.good (by omega) hA hM hD]
  refine (add_walk bs 0 n n v A M D w h hL (by omega) hlo hhi hA hM hD).mono ?_
  rintro e w' ⟨rfl, ⟨v', h1, h2⟩, h3⟩
  exact ⟨_, rfl, v', h1, h2, h3⟩

theorem cut_set (bs : Nat) (v : Value) (L : List Sp) (n : Int) (w : World) (h : SetAt w bs 0 v L) (hL : Ok L) (hhi : n ≤ 9223372036854775807) :
    Calls Try.prog 56 #[ptr bs, .int .i64 0, .int .i64 n] w fun e w' => ∃ m, e = .returned (.int .u64 m) ∧ ∃ v', SetAt w' bs 0 v' (cutS 0 0 n L) ∧ (v'.ownBlock = v.ownBlock ∨ Fresh w v') ∧ Touch w w' bs v := by
  by_cases hlh : n < 0
  · refine (cut_gt bs 0 n w hlh).mono ?_
    rintro e w' ⟨rfl, rfl⟩
    unfold cutS
    rw [if_pos hlh]
    exact ⟨_, rfl, v, h, .inl rfl, Touch.of bs v (grown_self _ _)⟩
  · unfold cutS
    rw [if_neg hlh]
    obtain ⟨A, M, D, rfl, hA, hM, hD⟩ := split3 0 n hL.good (by omega)
    rw [cutF_split hL.good (by omega) hA hM hD]
    by_cases hne : M = []
    · subst hne
      refine (cut_none bs 0 0 n v A D w h hL (by omega) (by decide) hhi hA hD).mono ?_
      rintro e w' ⟨rfl, ⟨v', h1, h2⟩, h3⟩
      exact ⟨_, rfl, v', h1, h2, h3⟩
    · refine (cut_meet bs 0 0 n v A M D w h hL (by omega) (by decide) hhi hA hM hD hne).mono ?_
      rintro e w' ⟨rfl, ⟨v', h1, h2⟩, h3⟩
      exact ⟨_, rfl, v', h1, h2, h3⟩

def raiseF (f : Int) (s : Sn) : Sn := { s with L := cutS 0 0 f s.L, floor := max s.floor f }

theorem raise_any (b bs : Nat) (v : Value) (s : Sn) (f : Int) (w : World) (h : SN w b bs v s) (hL : Ok s.L) (hf : f ≤ 9223372036854775807) :
    Calls Try.prog 41 #[ptr b, .int .i64 f] w fun e w' => e = .returned (.tuple #[]) ∧ To b bs v w (raiseF f s) w' := by
  have c3 := h.cells.2.2.2.1
  have hc := cut_set bs v s.L f w h.set hL hf
  have H := hide h
  clear h hL
  go_enter Try.func41, Try.ntmps41
  go_wp2_with fail
  refine hc.mono ?_
  rintro e W ⟨m, rfl, v', hs, ho, ht⟩
  have hW := (unhide H).set_to hs ht
  have c4 := hW.cells.2.2.2.2.1
  have t4 := hW.blk.thaw 4
  have F : Hid (∀ x, x = max s.floor f → To b bs v w (raiseF f s) (W.setCell ⟨b, 4, none⟩ (.int .i64 x))) := by
    rintro x rfl
    exact To.step ho (kp_of_touch ht) (To.of (hW.put (s' := raiseF f s) 4 _ rfl rfl) (kp_put W b 4 _))
  clear hc hW hs ho ht H c3
  simp only at c4
  generalize s.floor = l at *
  by_cases h2 : l ≤ f
  all_goals
    go_wp2
    all_goals refine bodyPost_end (results_none rfl _ _ _) rfl ?_
    all_goals exact ⟨rfl, unhide F _ (by omega)⟩

theorem len_set (bs : Nat) (v : Value) (L : List Sp) (w : World) (h : SetAt w bs 0 v L) :
    Calls Try.prog 36 #[ptr bs] w fun e w' => e = .returned (.int .i64 (L.length : Int)) ∧ w' = w := by
  have hl := list_any bs 0 v L w h
  obtain ⟨a, c, rfl, -, hcm, hnc⟩ := h.row.shape
  clear h
  generalize L.length = n at *
  go_enter Try.func36, Try.ntmps36
  go_wp2_with (go_at_call 52; refine hl.mono ?_; rintro e w' ⟨rfl, hw'⟩; subst w')
  all_goals go_ret
  all_goals exact ⟨rfl, rfl⟩

theorem runs_seen (b bs : Nat) (v : Value) (s : Sn) (w : World) (h : SN w b bs v s) (hL : Ok s.L) :
    Calls Try.prog 16 #[ptr b] w fun e w' => ∃ v', e = .returned v' ∧ Row w' v' s.L ∧ Fresh w v' ∧ w.grownBy w' none := by
  have c3 := h.cells.2.2.2.1
  have hr := runs_any bs 0 v s.L w h.set (by have := hL.size; omega)
  clear h hL
  generalize s.L = L at *
  go_enter Try.func16, Try.ntmps16
  go_wp2_with fail
  refine hr.mono ?_
  rintro e W ⟨v', rfl, h1, h2, h3⟩
  obtain ⟨a, c, rfl, -, -, -⟩ := h1.shape
  have F := hide (And.intro h1 (And.intro h2 h3))
  clear h1 h2 h3 hr
  generalize L.length = n at *
  go_wp2_with fail
  go_ret
  exact ⟨_, rfl, (unhide F).1, (unhide F).2.1, (unhide F).2.2⟩

def keepF (n : Int) (s : Sn) : Sn := if 32 < (addS 0 n n s.L).length then raiseF ((addS 0 n n s.L).headD (0, 0)).2 { s with L := addS 0 n n s.L } else { s with L := addS 0 n n s.L }

theorem keep_seen (b bs : Nat) (v : Value) (s : Sn) (n : Int) (w : World) (h : SN w b bs v s) (hL : Ok s.L) (hL1 : Ok (addS 0 n n s.L)) (hlo : -9223372036854775808 ≤ n) (hhi : n ≤ 9223372036854775807) :
    Calls Try.prog 35 #[ptr b, .int .i64 n] w fun e w' => e = .returned (.tuple #[]) ∧ To b bs v w (keepF n s) w' := by
  have c3 := h.cells.2.2.2.1
  have ha := add_set bs v s.L n w h.set hL hlo hhi
  have H := hide h
  obtain ⟨s', hs'⟩ : ∃ s', s' = keepF n s := ⟨_, rfl⟩
  rw [← hs']
  unfold keepF at hs'
  generalize addS 0 n n s.L = L1 at *
  have S := hide hs'
  clear h hL hs'
  go_enter Try.func35, Try.ntmps35
  go_wp2_with fail
  refine ha.mono ?_
  rintro e W ⟨m, rfl, v', hs, ho, ht⟩
  have hW := (unhide H).set_to hs ht
  have d3 := hW.cells.2.2.2.1
  have hl := len_set bs v' L1 W hs
  have T := hide (And.intro ho (kp_of_touch (b := b) ht))
  have HW := hide hW
  clear ha c3 H ht ho
  go_wp2_with fail
  refine hl.mono ?_
  rintro e W' ⟨rfl, rfl⟩
  clear hl
  by_cases hlt : 32 < L1.length
  · have S' := hide ((unhide S).trans (if_pos hlt))
    clear S
    have hI : (32 : Int) < (L1.length : Int) := by omega
    have hr := runs_any bs 0 v' L1 W' hs (by have := hL1.size; omega)
    have HLT := hide hlt
    have HL1 := hide hL1
    clear hlt hs hW hL1
    generalize hq : L1.length = q at *
    have HQ := hide hq
    clear hq
    go_wp2_with fail
    refine hr.mono ?_
    rintro e W2 ⟨v2, rfl, h1, h2, h3⟩
    obtain ⟨x, T1, rfl⟩ : ∃ x T1, L1 = x :: T1 := by
      cases L1 with
      | nil => have := unhide HQ; have := unhide HLT; simp at *; omega
      | cons x T1 => exact ⟨x, T1, rfl⟩
    have hx := (unhide HL1).good.mem (s := x) (by simp)
    have hra := raise_any b bs v' _ x.2 W2 ((unhide HW).grown h3) (unhide HL1) hx.2.2
    have K := hide (Kp.grown h3 (Mine b bs v'))
    rcases Row.at h1 with ⟨_, h0⟩ | ⟨g, c, sp, rfl, hR⟩
    · cases h0
    have z1 : W2.cell? ⟨g, 1, none⟩ = some (.int .i64 x.2) := hR.cell 1 _ rfl
    rw [unhide HQ]
    have hlz : (0 : Int) < (q : Int) := by omega
    clear hr h1 h2 h3 hR d3
    go_wp2_with fail
    refine hra.mono ?_
    rintro e W3 ⟨rfl, hto⟩
    have Z := hide hto
    clear hra hto
    go_wp2_with fail
    refine bodyPost_end (results_none rfl _ _ _) rfl ?_
    refine ⟨rfl, To.step (unhide T).1 (unhide T).2 ?_⟩
    rw [unhide S']
    exact To.step (.inl rfl) (unhide K) (unhide Z)
  · have S' := hide ((unhide S).trans (if_neg hlt))
    clear S
    have hI : ¬ (32 : Int) < (L1.length : Int) := by omega
    clear hs d3
    generalize (L1.length : Int) = q at *
    go_wp2_with fail
    refine bodyPost_end (results_none rfl _ _ _) rfl ?_
    exact ⟨rfl, v', by rw [unhide S']; exact unhide HW, (unhide T).1, (unhide T).2⟩
end Go.Proofs.Ytielpjdjlmkejaa
