/- hold of whatever, Write; piece. -/
import Derived.Test.YtdalekjpjnhboaaS5H
namespace Go.Proofs.Ytdalekjpjnhboaa
open Go.RowKit
set_option linter.unusedVariables false
set_option maxHeartbeats 1000000
set_option maxRecDepth 100000

theorem Rd.nil_of {w : World} {a : Option Addr} {p : List Int} (h : Rd w a p) (hn : 0 < p.length) : ∃ b off, a = some ⟨b, off, none⟩ ∧ ∀ i, i < p.length → w.cell? ⟨b, off + i, none⟩ = some (.int .u8 (p.getD i 0)) := h.2 (fun e => by rw [e] at hn; simp at hn)

/-- Bytes that came in lie in no block of the Send's. -/
def Out (w : World) (M : Nat → Prop) (a : Option Addr) (p : List Int) : Prop := p ≠ [] → ∀ pb off, a = some ⟨pb, off, none⟩ → ¬ M pb ∧ pb < w.heap.size

section
variable {w W : World} {M : Nat → Prop} {b ba bl : Nat} {vh : Value} {S : Sd}

theorem hold_at (h : At w M b ba bl vh W S) (hok : SdOk S) (hs : S.stopped = false) (he : S.ended = false) (a : Option Addr) (n pc : Nat) (p : List Int) (hp : Rd W a p) (hout : Out w M a p) (hn : p.length = n) (hpc : n ≤ pc ∧ pc ≤ 9223372036854775807) (hfit : wr S - S.base + n ≤ S.cap) (hbig : wr S ≤ 1152921504606846976) :
    Calls Try.prog 45 #[ptr b, .slice a n pc] W fun e W' => e = .returned (.tuple #[]) ∧ ∃ vh', At w M b ba bl vh' W' (writeG S p) := by
  by_cases hn0 : 0 < n
  · obtain ⟨pb, poff, rfl, hcell⟩ := hp.nil_of (by omega)
    obtain ⟨ho1, ho2⟩ := hout (fun e => by rw [e] at hn; simp at hn; omega) pb poff rfl
    have hcap := hok.cap
    obtain ⟨c, hc⟩ : ∃ c : Nat, S.cap = (c : Int) := ⟨S.cap.toNat, by omega⟩
    have hcn : S.cap.toNat = c := by omega
    have hpb : pb ≠ b := fun e => by
      rcases h.mb with q | q
      · exact ho1 (e ▸ q)
      · omega
    rcases h.ring with ⟨rfl, hgone⟩ | ⟨g, cs, rfl, -⟩
    · have hT : S.T = [] := by
        rcases hgone with q | q | q
        · exact q
        · rw [hs] at q; cases q
        · rw [he] at q; cases q.1
      have g1 : W.grownBy (W.alloc (.cells (by8 (List.replicate c 0)) 5)) none := grown_alloc _ _
      have h1 := (h.grown g1).held (.slice (some ⟨W.heap.size, 0, none⟩) c c) (.inr ⟨W.heap.size, List.replicate c 0, by rw [hcn], Blk.new _ _ _, by rw [hcn]; simp, fun x hx => by obtain ⟨-, rfl⟩ := List.mem_replicate.1 hx; unfold IsB; omega, fun x _ hx => by rw [hT] at hx; simp at hx⟩) (fun k e => by cases e; exact .inr h.kp.size)
      have hp1 : Rd ((W.alloc (.cells (by8 (List.replicate c 0)) 5)).setCell ⟨b, 1, none⟩ (.slice (some ⟨W.heap.size, 0, none⟩) c c)) (some ⟨pb, poff, none⟩) p := ⟨hp.1, fun hne => by
        obtain ⟨b', off', e, hc'⟩ := (hp.grow g1).2 hne
        exact ⟨b', off', e, fun i hi => cell_set_other (hc' i hi) (by cases e; exact hpb)⟩⟩
      refine (hold_ring (W0 := W) (v0 := nilS) (.inr ⟨rfl, rfl, rfl, S, h.blk, rfl⟩) h1 hok hc pb poff n pc p hp1 hn hn0 hpc (by have := h.kp.size; omega) hfit hbig).mono ?_
      rintro e W' ⟨rfl, q⟩
      exact ⟨rfl, _, q⟩
    · rw [hcn] at h
      have hpg : pb ≠ g := fun e => by
        rcases h.mh g rfl with q | q
        · exact ho1 (e ▸ q)
        · omega
      refine (hold_ring (W0 := W) (.inl ⟨rfl, rfl⟩) h hok hc pb poff n pc p hp hn hn0 hpc hpg hfit hbig).mono ?_
      rintro e W' ⟨rfl, q⟩
      exact ⟨rfl, _, q⟩
  · obtain rfl : n = 0 := by omega
    obtain rfl := List.length_eq_zero_iff.1 hn
    have e : writeG S [] = S := by unfold writeG; rw [List.append_nil]
    rw [e]
    have H := hide h
    clear h hok hp hout hn hpc hfit hbig hn0
    go_enter Try.func45, Try.ntmps45
    go_wp2
    all_goals refine bodyPost_ret (results_none rfl _ _ _) rfl ?_
    all_goals exact ⟨rfl, _, unhide H⟩

def writeE (S : Sd) (n : Nat) : Int := if S.ended = true ∨ S.stopped = true then 150 else if S.cap < wr S - S.base + n then 3 else 0
def writeS (S : Sd) (p : List Int) : Sd := if writeE S p.length = 0 then writeG S p else S

theorem write_at (h : At w M b ba bl vh W S) (hok : SdOk S) (a : Option Addr) (n pc : Nat) (p : List Int) (hp : Rd W a p) (hout : Out w M a p) (hn : p.length = n) (hpc : n ≤ pc ∧ pc ≤ 9223372036854775807) (hnn : n ≤ 4611686018427387904) (hbig : wr S ≤ 1152921504606846976) :
    Calls Try.prog 19 #[ptr b, .slice a n pc] W fun e W' => e = .returned (.int .i64 (writeE S n)) ∧ ∃ vh', At w M b ba bl vh' W' (writeS S p) := by
  obtain ⟨c0, c1, c2, c3, c4, c5, c6, c7, c8, c9⟩ := h.cells
  unfold writeS
  rw [hn]
  cases he : S.ended with
  | true =>
    have e1 : writeE S n = 150 := by unfold writeE; rw [if_pos (.inl he)]
    rw [e1, if_neg (by decide)]
    rw [he] at c7
    have H := hide h
    clear h hok hp hout hn hpc hbig c0 c1 c2 c3 c4 c5 c6 c8 he e1
    generalize S.stopped = st at *
    go_enter Try.func19, Try.ntmps19
    go_wp2
    all_goals go_ret
    all_goals exact ⟨rfl, _, unhide H⟩
  | false =>
    cases hs : S.stopped with
    | true =>
      have e1 : writeE S n = 150 := by unfold writeE; rw [if_pos (.inr hs)]
      rw [e1, if_neg (by decide)]
      rw [he] at c7
      rw [hs] at c9
      have H := hide h
      clear h hok hp hout hn hpc hbig c0 c1 c2 c3 c4 c5 c6 c8 he e1 hs
      go_enter Try.func19, Try.ntmps19
      go_wp2
      all_goals go_ret
      all_goals exact ⟨rfl, _, unhide H⟩
    | false =>
      rw [he] at c7
      rw [hs] at c9
      have hb0 := hok.b0; have hbs := hok.bs; have hsw := hok.sw; have hcap := hok.cap
      have w1 : IntKind.i64.wrap (wr S - S.base) = wr S - S.base := by rw [IntKind.wrap_i64]; omega
      have w2 : IntKind.i64.wrap (wr S - S.base + n) = wr S - S.base + n := by rw [IntKind.wrap_i64]; omega
      by_cases hf : S.cap < wr S - S.base + n
      · have e1 : writeE S n = 3 := by unfold writeE; rw [if_neg (by rw [he, hs]; simp), if_pos hf]
        rw [e1, if_neg (by decide)]
        have H : Hid (∀ q, At w M b ba bl vh (W.drewN q) S) := fun q => h.grown (grown_drewN W q)
        have d1 : decide (S.cap < wr S - S.base + n) = true := decide_eq_true hf
        clear h hok hp hout hn hpc hbig c1 c3 c5 c6 c8 he e1 hs hb0 hbs hsw hcap
        generalize wr S = t at *
        generalize S.base = x at *
        generalize S.cap = c at *
        go_enter Try.func19, Try.ntmps19
        go_wp2
        go_quiet (fail)
        go_wp2
        all_goals go_ret
        all_goals exact ⟨rfl, _, unhide H _⟩
      · have e1 : writeE S n = 0 := by unfold writeE; rw [if_neg (by rw [he, hs]; simp), if_neg hf]
        rw [e1, if_pos rfl]
        have hh := fun q => hold_at (h.grown (grown_drewN W q)) hok hs he a n pc p (hp.grow (grown_drewN W q)) hout hn hpc (by omega) hbig
        have d1 : decide (S.cap < wr S - S.base + n) = false := decide_eq_false hf
        clear h hok hp hout hn hpc hbig c1 c3 c5 c6 c8 he e1 hs hb0 hbs hsw hcap
        generalize wr S = t at *
        generalize S.base = x at *
        generalize S.cap = c at *
        go_enter Try.func19, Try.ntmps19
        go_wp2
        go_quiet (fail)
        go_wp2_with (go_at_call 45; refine (hh _).mono ?_; rintro e W' ⟨rfl, vh', q⟩; replace q := hide q)
        all_goals go_ret
        all_goals exact ⟨rfl, _, unhide q⟩
end
end Go.Proofs.Ytdalekjpjnhboaa
