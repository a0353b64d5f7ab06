/- recv: Take. -/
import Derived.Test.YthihabjegpacaaaGreatT6R
namespace Go.Proofs.YthihabjegpacaaaGreat
open Go.RowKit
set_option linter.unusedVariables false
set_option linter.unusedSimpArgs false
set_option maxHeartbeats 4000000
set_option maxRecDepth 100000

section
variable {w W : World} {M : Nat → Prop} {b bk : Nat} {vh : Value} {E : List He} {S : Rv}
/-- What Take leaves. -/
def TakeP (w : World) (M : Nat → Prop) (b bk : Nat) (E : List He) (S' : Rv) (n : Nat) (W' : World) : Prop := ∃ vh' E', RA w M b bk vh' E' W' S' ∧ HeOk S' E' ∧ E'.length ≤ E.length + n

theorem take_bad (h : RA w M b bk vh E W S) (hE : HeOk S E) (off : Int) (a : Option Addr) (n pc : Nat) (fin : Bool) (p : List Int) (hn : p.length = n) (hnn : n ≤ 100000000) (hb : off < 0 ∨ 4611686018427387903 - (n : Int) < off) :
    Calls Tryz.prog 10 #[ptr b, .int .i64 off, .slice a n pc, .bool fin] W fun e W' => e = .returned (.tuple #[.int .i64 (takeN S off n fin), .int .i64 (takeE S off n fin)]) ∧ TakeP w M b bk E (takeS S off p fin) n W' := by
  have e1 : takeE S off n fin = 1 := by unfold takeE; rw [if_pos hb]
  have e2 : takeN S off n fin = 0 := by unfold takeN; rw [e1, if_neg (by decide)]
  have e3 : takeS S off p fin = S := by unfold takeS; rw [hn, e1, if_neg (by decide)]
  rw [e1, e2, e3]
  have F : Hid (TakeP w M b bk E S n W) := ⟨vh, E, h, hE, by omega⟩
  have w1 : IntKind.i64.wrap (4611686018427387903 - (n : Int)) = 4611686018427387903 - (n : Int) := by rw [IntKind.wrap_i64]; omega
  clear e1 e2 e3 h hE hn
  by_cases c : off < 0
  · go_enter Tryz.func10, Tryz.ntmps10
    go_wp2_with fail
    all_goals go_ret2
    all_goals exact ⟨rfl, unhide F⟩
  · have hb2 := hb.resolve_left c
    clear hb
    go_enter Tryz.func10, Tryz.ntmps10
    go_wp2_with fail
    all_goals go_ret2
    all_goals exact ⟨rfl, unhide F⟩

theorem take_limit (h : RA w M b bk vh E W S) (hE : HeOk S E) (off : Int) (a : Option Addr) (n pc : Nat) (fin : Bool) (p : List Int) (hn : p.length = n) (hnn : n ≤ 100000000) (hb : ¬ (off < 0 ∨ 4611686018427387903 - (n : Int) < off)) (hl : S.limit < off + n) :
    Calls Tryz.prog 10 #[ptr b, .int .i64 off, .slice a n pc, .bool fin] W fun e W' => e = .returned (.tuple #[.int .i64 (takeN S off n fin), .int .i64 (takeE S off n fin)]) ∧ TakeP w M b bk E (takeS S off p fin) n W' := by
  have e1 : takeE S off n fin = 160 := by unfold takeE; rw [if_neg hb, if_pos hl]
  have e2 : takeN S off n fin = 0 := by unfold takeN; rw [e1, if_neg (by decide)]
  have e3 : takeS S off p fin = S := by unfold takeS; rw [hn, e1, if_neg (by decide)]
  rw [e1, e2, e3]
  have F : Hid (TakeP w M b bk E S n W) := ⟨vh, E, h, hE, by omega⟩
  have w1 : IntKind.i64.wrap (4611686018427387903 - (n : Int)) = 4611686018427387903 - (n : Int) := by rw [IntKind.wrap_i64]; omega
  have w2 : IntKind.i64.wrap (off + (n : Int)) = off + (n : Int) := by rw [IntKind.wrap_i64]; omega
  obtain ⟨c0, -⟩ := h.cells
  have d1 : ¬ off < 0 := fun q => hb (.inl q)
  have d2 : ¬ 4611686018427387903 - (n : Int) < off := fun q => hb (.inr q)
  clear e1 e2 e3 h hE hn hb
  go_enter Tryz.func10, Tryz.ntmps10
  go_wp2_with fail
  all_goals go_ret2
  all_goals exact ⟨rfl, unhide F⟩

theorem take_final (h : RA w M b bk vh E W S) (hE : HeOk S E) (off : Int) (a : Option Addr) (n pc : Nat) (fin : Bool) (p : List Int) (hn : p.length = n) (hnn : n ≤ 100000000) (hb : ¬ (off < 0 ∨ 4611686018427387903 - (n : Int) < off)) (hl : ¬ S.limit < off + n) (hg : againstB S (off + n) fin = true) :
    Calls Tryz.prog 10 #[ptr b, .int .i64 off, .slice a n pc, .bool fin] W fun e W' => e = .returned (.tuple #[.int .i64 (takeN S off n fin), .int .i64 (takeE S off n fin)]) ∧ TakeP w M b bk E (takeS S off p fin) n W' := by
  have e1 : takeE S off n fin = 161 := by unfold takeE; rw [if_neg hb, if_neg hl, if_pos hg]
  have e2 : takeN S off n fin = 0 := by unfold takeN; rw [e1, if_neg (by decide)]
  have e3 : takeS S off p fin = S := by unfold takeS; rw [hn, e1, if_neg (by decide)]
  rw [e1, e2, e3]
  have F : Hid (TakeP w M b bk E S n W) := ⟨vh, E, h, hE, by omega⟩
  have w1 : IntKind.i64.wrap (4611686018427387903 - (n : Int)) = 4611686018427387903 - (n : Int) := by rw [IntKind.wrap_i64]; omega
  have w2 : IntKind.i64.wrap (off + (n : Int)) = off + (n : Int) := by rw [IntKind.wrap_i64]; omega
  obtain ⟨c0, -⟩ := h.cells
  have ag := against_at h (off + n) fin
  rw [hg] at ag
  have d1 : ¬ off < 0 := fun q => hb (.inl q)
  have d2 : ¬ 4611686018427387903 - (n : Int) < off := fun q => hb (.inr q)
  clear e1 e2 e3 h hE hn hb hg
  go_enter Tryz.func10, Tryz.ntmps10
  go_wp2_with fail
  refine ag.mono ?_
  rintro e W' ⟨rfl, hW'⟩
  subst W'
  clear ag
  go_wp2_with fail
  all_goals go_ret2
  all_goals exact ⟨rfl, unhide F⟩

theorem take_good (h : RA w M b bk vh E W S) (hok : RvOk S) (hE : HeOk S E) (nE : E.length ≤ 100000000) (nK : S.K.length ≤ 100000000) (off : Int) (a : Option Addr) (n pc : Nat) (fin : Bool) (p : List Int) (hp : Rd W a p) (hout : Out w M a p) (hn : p.length = n) (hpc : n ≤ pc ∧ pc ≤ 9223372036854775807) (hnn : n ≤ 100000000) (hb : ¬ (off < 0 ∨ 4611686018427387903 - (n : Int) < off)) (hl : ¬ S.limit < off + n) (hg : againstB S (off + n) fin = false) :
    Calls Tryz.prog 10 #[ptr b, .int .i64 off, .slice a n pc, .bool fin] W fun e W' => e = .returned (.tuple #[.int .i64 (takeN S off n fin), .int .i64 (takeE S off n fin)]) ∧ TakeP w M b bk E (takeS S off p fin) n W' := by
  have e1 : takeE S off n fin = 0 := by unfold takeE; rw [if_neg hb, if_neg hl, if_neg (by rw [hg]; decide)]
  have e2 : takeN S off n fin = riseN S (off + n) := by unfold takeN; rw [e1, if_pos rfl]
  have e3 : takeS S off p fin = takeG S off p fin := by unfold takeS; rw [hn, e1, if_pos rfl]
  rw [e1, e2, e3]
  have w1 : IntKind.i64.wrap (4611686018427387903 - (n : Int)) = 4611686018427387903 - (n : Int) := by rw [IntKind.wrap_i64]; omega
  have w2 : IntKind.i64.wrap (off + (n : Int)) = off + (n : Int) := by rw [IntKind.wrap_i64]; omega
  obtain ⟨c0, c1, c2, c3, c4, c5, c6, c7⟩ := h.cells
  have t3 := h.blk.thaw 3
  have ag := against_at h (off + n) fin
  rw [hg] at ag
  have d1 : ¬ off < 0 := fun q => hb (.inl q)
  have d2 : ¬ 4611686018427387903 - (n : Int) < off := fun q => hb (.inr q)
  have hlm := hok.lm; have hr0 := hok.r0; have hrh := hok.rh; have hhl := hok.hl
  obtain ⟨va, vn, vc, evh⟩ : ∃ (a : Option Addr) (n c : Nat), vh = .slice a n c := by
    rcases h.held2 with ⟨q, _⟩ | ⟨g, q0, c, q, _⟩
    · exact ⟨none, 0, 0, q⟩
    · exact ⟨_, _, _, q⟩
  -- what follows the final size
  have REST : Hid (∀ (W1 : World) (S1 : Rv), RA w M b bk vh E W1 S1 → Rd W1 a p → S1.K = S.K → S1.T = S.T → S1.read = S.read → S.reset = false → Calls Tryz.prog 28 #[ptr b, .int .i64 off, .slice a n pc] W1 fun e W' => e = .returned (.tuple #[]) ∧ HoldP w M b bk E S1 off p W') := fun W1 S1 h1 hp1 q1 q2 q3 _ =>
    hold_at h1 (hok.k.same q1 q2 q3) (hE.same q2 q3) nE (by rw [q1]; exact nK) off a n pc p hp1 hout hn hpc hnn (by omega) (by omega)
  have FIN : Hid (∀ (W2 : World) (vh' : Value) (E' : List He) (S2 : Rv), RA w M b bk vh' E' W2 S2 → HeOk S2 E' → E'.length ≤ E.length + n → S2.limit = S.limit → S2.read = S.read → S2.ended = S.ended → S2.reset = S.reset → S2.high = max S.high (off + n) → S2.final = (if fin = true then off + n else S.final) → S2.K = (if S.reset = true then S.K else addS 0 off (off + n - 1) S.K) → S2.T = (if S.reset = true then S.T else putT S.T off p) → TakeP w M b bk E (takeG S off p fin) n W2) := fun W2 vh' E' S2 r1 r2 r3 q1 q2 q3 q4 q5 q6 q7 q8 => by
    have er : rvc bk vh' (takeG S off p fin) = rvc bk vh' S2 := by unfold rvc takeG; simp only [q1, q2, q3, q4, q5, q6, hn]
    exact ⟨vh', E', r1.last er (by rw [q7]; unfold takeG; simp only [hn]), r2.same (by rw [q8]; rfl) (by rw [q2]; rfl), r3⟩
  have RI : Hid (∀ (W1 : World) (vh' : Value) (E' : List He) (S1 : Rv), RA w M b bk vh' E' W1 S1 → S1.high = S.high → Calls Tryz.prog 29 #[ptr b, .int .i64 (off + n)] W1 fun e W' => e = .returned (.int .i64 (riseN S (off + n))) ∧ RA w M b bk vh' E' W' { S1 with high := max S.high (off + n) }) := fun W1 vh' E' S1 h1 q => by
    have := rise_at h1 (by rw [q]; omega) (off + n) (by omega)
    unfold riseN at this ⊢
    rw [q] at this
    exact this
  have H := hide h
  have HP := hide hp
  have HO := hide hout
  have HE := hide hE
  have HN := hide hn
  clear e1 e2 e3 hb hg hok hE nE nK hp hout hn h
  subst evh
  -- S1: with the final size
  have P1 : Hid (RA w M b bk (.slice va vn vc) E (W.setCell ⟨b, 3, none⟩ (.int .i64 (off + n))) { S with final := off + n } ∧ Rd (W.setCell ⟨b, 3, none⟩ (.int .i64 (off + n))) a p) := by
    have h1 := (unhide H).put (S' := { S with final := off + n }) 3 (.int .i64 (off + n)) rfl rfl
    refine ⟨h1, (unhide HP).1, fun hne => ?_⟩
    obtain ⟨pb, po, ea, hc⟩ := (unhide HP).2 hne
    refine ⟨pb, po, ea, fun i hi => ?_⟩
    have hpb := unhide HO hne pb po ea
    have : pb ≠ b := fun e => by
      rcases (unhide H).mb with q | q
      · exact hpb.1 (e ▸ q)
      · omega
    rw [World.cell?_of_block (w := W) (set_heap W b 3 (.int .i64 (off + n)) pb this)]
    exact hc i hi
  cases fin with
  | true =>
    cases hrs : S.reset with
    | true =>
      rw [hrs] at c7
      have ri := unhide RI _ _ _ _ (unhide P1).1 rfl
      have F := fun W2 (r : RA w M b bk (.slice va vn vc) E W2 { S with final := off + n, high := max S.high (off + n) }) => unhide FIN W2 _ E _ r ((unhide HE).same rfl rfl) (by omega) rfl rfl rfl rfl rfl rfl (by rw [if_pos hrs]) (by rw [if_pos hrs])
      have FF := hide F
      clear F RI REST FIN P1 hrs
      go_enter Tryz.func10, Tryz.ntmps10
      go_wp2_with fail
      refine ag.mono ?_
      rintro e W' ⟨rfl, hW'⟩
      subst W'
      clear ag
      go_wp2_with fail
      refine ri.mono ?_
      rintro e W2 ⟨rfl, r2⟩
      have R := hide (unhide FF W2 r2)
      clear ri r2
      go_wp2_with fail
      all_goals go_ret2
      all_goals exact ⟨rfl, unhide R⟩
    | false =>
      rw [hrs] at c7
      have ho := unhide REST _ _ (unhide P1).1 (unhide P1).2 rfl rfl rfl hrs
      have F := fun W2 vh' E' (r : RA w M b bk vh' E' W2 { holdS { S with final := off + n } off p with high := max S.high (off + n) }) (r2 : HeOk (holdS { S with final := off + n } off p) E') (r3 : E'.length ≤ E.length + n) => unhide FIN W2 vh' E' _ r (r2.same rfl rfl) r3 rfl rfl rfl rfl rfl rfl (by rw [if_neg (by rw [hrs]; decide)]; unfold holdS; simp only [unhide HN]) (by rw [if_neg (by rw [hrs]; decide)]; rfl)
      have FF := hide F
      have RI2 := RI
      clear F REST FIN P1 hrs RI
      go_enter Tryz.func10, Tryz.ntmps10
      go_wp2_with fail
      refine ag.mono ?_
      rintro e W' ⟨rfl, hW'⟩
      subst W'
      clear ag
      go_wp2_with fail
      refine ho.mono ?_
      rintro e W2 ⟨rfl, vh', E', r1, r2, r3⟩
      have ri := unhide RI2 _ _ _ _ r1 rfl
      have R1 := hide (And.intro r1 (And.intro r2 r3))
      clear ho r1 r2 r3 RI2
      go_wp2_with fail
      refine ri.mono ?_
      rintro e W3 ⟨rfl, q1⟩
      have R := hide (unhide FF W3 vh' E' q1 (unhide R1).2.1 (by have := (unhide R1).2.2; rw [unhide HN] at this; exact this))
      clear ri q1
      go_wp2_with fail
      all_goals go_ret2
      all_goals exact ⟨rfl, unhide R⟩
  | false =>
    cases hrs : S.reset with
    | true =>
      rw [hrs] at c7
      have ri := unhide RI _ _ _ _ (unhide H) rfl
      have F := fun W2 (r : RA w M b bk (.slice va vn vc) E W2 { S with high := max S.high (off + n) }) => unhide FIN W2 _ E _ r ((unhide HE).same rfl rfl) (by omega) rfl rfl rfl rfl rfl rfl (by rw [if_pos hrs]) (by rw [if_pos hrs])
      have FF := hide F
      clear F RI REST FIN P1 hrs
      go_enter Tryz.func10, Tryz.ntmps10
      go_wp2_with fail
      refine ag.mono ?_
      rintro e W' ⟨rfl, hW'⟩
      subst W'
      clear ag
      go_wp2_with fail
      refine ri.mono ?_
      rintro e W2 ⟨rfl, r2⟩
      have R := hide (unhide FF W2 r2)
      clear ri r2
      go_wp2_with fail
      all_goals go_ret2
      all_goals exact ⟨rfl, unhide R⟩
    | false =>
      rw [hrs] at c7
      have ho := unhide REST _ _ (unhide H) (unhide HP) rfl rfl rfl hrs
      have F := fun W2 vh' E' (r : RA w M b bk vh' E' W2 { holdS S off p with high := max S.high (off + n) }) (r2 : HeOk (holdS S off p) E') (r3 : E'.length ≤ E.length + n) => unhide FIN W2 vh' E' _ r (r2.same rfl rfl) r3 rfl rfl rfl rfl rfl rfl (by rw [if_neg (by rw [hrs]; decide)]; unfold holdS; simp only [unhide HN]) (by rw [if_neg (by rw [hrs]; decide)]; rfl)
      have FF := hide F
      have RI2 := RI
      clear F REST FIN P1 hrs RI
      go_enter Tryz.func10, Tryz.ntmps10
      go_wp2_with fail
      refine ag.mono ?_
      rintro e W' ⟨rfl, hW'⟩
      subst W'
      clear ag
      go_wp2_with fail
      refine ho.mono ?_
      rintro e W2 ⟨rfl, vh', E', r1, r2, r3⟩
      have ri := unhide RI2 _ _ _ _ r1 rfl
      have R1 := hide (And.intro r1 (And.intro r2 r3))
      clear ho r1 r2 r3 RI2
      go_wp2_with fail
      refine ri.mono ?_
      rintro e W3 ⟨rfl, q1⟩
      have R := hide (unhide FF W3 vh' E' q1 (unhide R1).2.1 (by have := (unhide R1).2.2; rw [unhide HN] at this; exact this))
      clear ri q1
      go_wp2_with fail
      all_goals go_ret2
      all_goals exact ⟨rfl, unhide R⟩

theorem take_at (h : RA w M b bk vh E W S) (hok : RvOk S) (hE : HeOk S E) (nE : E.length ≤ 100000000) (nK : S.K.length ≤ 100000000) (off : Int) (a : Option Addr) (n pc : Nat) (fin : Bool) (p : List Int) (hp : Rd W a p) (hout : Out w M a p) (hn : p.length = n) (hpc : n ≤ pc ∧ pc ≤ 9223372036854775807) (hnn : n ≤ 100000000) :
    Calls Tryz.prog 10 #[ptr b, .int .i64 off, .slice a n pc, .bool fin] W fun e W' => e = .returned (.tuple #[.int .i64 (takeN S off n fin), .int .i64 (takeE S off n fin)]) ∧ TakeP w M b bk E (takeS S off p fin) n W' := by
  by_cases hb : off < 0 ∨ 4611686018427387903 - (n : Int) < off
  · exact take_bad h hE off a n pc fin p hn hnn hb
  · by_cases hl : S.limit < off + n
    · exact take_limit h hE off a n pc fin p hn hnn hb hl
    · cases hg : againstB S (off + n) fin with
      | true => exact take_final h hE off a n pc fin p hn hnn hb hl hg
      | false => exact take_good h hok hE nE nK off a n pc fin p hp hout hn hpc hnn hb hl hg
end
end Go.Proofs.YthihabjegpacaaaGreat
