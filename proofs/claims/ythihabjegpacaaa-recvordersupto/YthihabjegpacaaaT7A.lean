/- recv: Reset. -/
import Derived.Test.YthihabjegpacaaaT6Y
namespace Go.Proofs.Ythihabjegpacaaa
open Go.RowKit
set_option linter.unusedVariables false
set_option linter.unusedSimpArgs false
set_option maxHeartbeats 4000000
set_option maxRecDepth 100000

section
variable {w W : World} {M : Nat → Prop} {b bk : Nat} {vh : Value} {E : List He} {S : Rv}
/-- What Reset leaves. -/
def ResetP (w : World) (M : Nat → Prop) (b : Nat) (E : List He) (S' : Rv) (W' : World) : Prop := ∃ bk' vh' E', RA w M b bk' vh' E' W' S' ∧ HeOk S' E' ∧ E'.length ≤ E.length

theorem reset_at (h : RA w M b bk vh E W S) (hok : RvOk S) (hE : HeOk S E) (f : Int) :
    Calls Try.prog 13 #[ptr b, .int .i64 f] W fun e W' => e = .returned (.tuple #[.int .i64 (resetN S f), .int .i64 (resetE S f)]) ∧ ResetP w M b E (resetS S f) W' := by
  obtain ⟨c0, c1, c2, c3, c4, c5, c6, c7⟩ := h.cells
  have t3 := h.blk.thaw 3
  have hr0 := hok.r0; have hrh := hok.rh; have hhl := hok.hl; have hlm := hok.lm
  have SAME : Hid (resetE S f ≠ 0 → resetN S f = 0 ∧ ResetP w M b E (resetS S f) W) := fun q => by
    unfold resetN resetS
    rw [if_neg q, if_neg q]
    exact ⟨rfl, bk, vh, E, h, hE, Nat.le_refl _⟩
  by_cases hb : f < 0 ∨ 4611686018427387903 < f
  · have e1 : resetE S f = 1 := by unfold resetE; rw [if_pos hb]
    have F := unhide SAME (by rw [e1]; decide)
    rw [e1, F.1]
    have FF := hide F.2
    clear SAME F e1 h hok hE
    by_cases q : f < 0
    · clear hb
      go_enter Try.func13, Try.ntmps13
      go_wp2_with fail
      all_goals (try simp only [Exit.inBlock, Exit.then])
      all_goals go_ret2
      all_goals exact ⟨rfl, unhide FF⟩
    · have q2 := hb.resolve_left q
      clear hb
      go_enter Try.func13, Try.ntmps13
      go_wp2_with fail
      all_goals (try simp only [Exit.inBlock, Exit.then])
      all_goals go_ret2
      all_goals exact ⟨rfl, unhide FF⟩
  · have d1 : ¬ f < 0 := fun q => hb (.inl q)
    have d2 : ¬ 4611686018427387903 < f := fun q => hb (.inr q)
    by_cases hl : S.limit < f
    · have e1 : resetE S f = 160 := by unfold resetE; rw [if_neg hb, if_pos hl]
      have F := unhide SAME (by rw [e1]; decide)
      rw [e1, F.1]
      have FF := hide F.2
      clear SAME F e1 h hok hE hb
      go_enter Try.func13, Try.ntmps13
      go_wp2_with fail
      all_goals (try simp only [Exit.inBlock, Exit.then])
      all_goals go_ret2
      all_goals exact ⟨rfl, unhide FF⟩
    · have ag := against_at h f true
      cases hg : againstB S f true with
      | true =>
        rw [hg] at ag
        have e1 : resetE S f = 161 := by unfold resetE; rw [if_neg hb, if_neg hl, if_pos hg]
        have F := unhide SAME (by rw [e1]; decide)
        rw [e1, F.1]
        have FF := hide F.2
        clear SAME F e1 h hok hE hb hg
        go_enter Try.func13, Try.ntmps13
        go_wp2_with fail
        refine ag.mono ?_
        rintro e W' ⟨rfl, hW'⟩
        subst W'
        clear ag
        go_wp2_with fail
        all_goals (try simp only [Exit.inBlock, Exit.then])
        all_goals go_ret2
        all_goals exact ⟨rfl, unhide FF⟩
      | false =>
        rw [hg] at ag
        have e1 : resetE S f = 0 := by unfold resetE; rw [if_neg hb, if_neg hl, if_neg (by rw [hg]; decide)]
        have e2 : resetN S f = riseN S f := by unfold resetN; rw [e1, if_pos rfl]
        have e3 : resetS S f = resetG S f := by unfold resetS; rw [e1, if_pos rfl]
        rw [e1, e2, e3]
        have h1 := h.put (S' := { S with final := f }) 3 (.int .i64 f) rfl rfl
        obtain ⟨va, vn, vc, evh⟩ : ∃ (a : Option Addr) (n c : Nat), vh = .slice a n c := by
          rcases h.held2 with ⟨q, _⟩ | ⟨g, q0, c, q, _⟩
          · exact ⟨none, 0, 0, q⟩
          · exact ⟨_, _, _, q⟩
        subst evh
        have RI : Hid (∀ (W1 : World) (bk' : Nat) (vh' : Value) (E' : List He) (S1 : Rv), RA w M b bk' vh' E' W1 S1 → S1.high = S.high → Calls Try.prog 17 #[ptr b, .int .i64 f] W1 fun e W' => e = .returned (.int .i64 (riseN S f)) ∧ RA w M b bk' vh' E' W' { S1 with high := max S.high f }) := fun W1 bk' vh' E' S1 h1 q => by
          have := rise_at h1 (by rw [q]; omega) f (by omega)
          unfold riseN at this ⊢
          rw [q] at this
          exact this
        cases he : S.ended with
        | true =>
          rw [he] at c6
          have ri := unhide RI _ _ _ _ _ h1 rfl
          have F : Hid (∀ W2, RA w M b bk (.slice va vn vc) E W2 { S with final := f, high := max S.high f } → ResetP w M b E (resetG S f) W2) := fun W2 r => by
            have eg : resetG S f = { S with final := f, high := max S.high f } := by unfold resetG; rw [if_pos he]
            rw [eg]
            exact ⟨bk, _, E, r, hE.same rfl rfl, Nat.le_refl _⟩
          clear RI SAME h hok hE hb hg he h1 e1 e2 e3
          go_enter Try.func13, Try.ntmps13
          go_wp2_with fail
          refine ag.mono ?_
          rintro e W' ⟨rfl, hW'⟩
          subst W'
          clear ag
          go_wp2_with fail
          refine ri.mono ?_
          rintro e W2 ⟨rfl, r⟩
          have R := hide (unhide F W2 r)
          clear ri r
          go_wp2_with fail
          all_goals (try simp only [Exit.inBlock, Exit.then])
          all_goals go_ret2
          all_goals exact ⟨rfl, unhide R⟩
        | false =>
          rw [he] at c6
          have t7 := h.blk.thaw 7
          have t7' := h1.blk.thaw 7
          have c7' := h1.cells.2.2.2.2.2.2.2
          have h2 := h1.put (S' := { S with final := f, reset := true }) 7 (.bool true) rfl rfl
          have hdr := drop_at h2 (by show 0 ≤ S.read ∧ S.read ≤ _; omega)
          have F : Hid (∀ W2 bk', RA w M b bk' (.slice none 0 0) [] W2 { S with final := f, reset := true, K := addS 0 0 (S.read - 1) [], high := max S.high f } → ResetP w M b E (resetG S f) W2) := fun W2 bk' r => by
            refine ⟨bk', _, [], r.last (by unfold resetG; rw [if_neg (by rw [he]; decide)]; rfl) (by unfold resetG; rw [if_neg (by rw [he]; decide)]; rfl), ⟨List.Pairwise.nil, fun e he => (by cases he), fun e he => (by cases he), fun x hx hx2 => ?_, fun e he => (by cases he)⟩, Nat.zero_le _⟩
            have eT : (resetG S f).T x = if x < S.read then S.T x else none := by unfold resetG; rw [if_neg (by rw [he]; decide)]; rfl
            have er : (resetG S f).read = S.read := by unfold resetG; rw [if_neg (by rw [he]; decide)]; rfl
            rw [er] at hx
            rw [eT, if_neg (by omega)] at hx2
            cases hx2
          clear SAME h hok hE hb hg he e1 e2 e3 h2
          simp only at c7'
          clear h1
          go_enter Try.func13, Try.ntmps13
          go_wp2_with fail
          refine ag.mono ?_
          rintro e W' ⟨rfl, hW'⟩
          subst W'
          clear ag
          go_wp2_with fail
          refine hdr.mono ?_
          rintro e W2 ⟨rfl, bk', r⟩
          have ri := unhide RI _ _ _ _ _ r rfl
          clear hdr r RI
          go_wp2_with fail
          refine ri.mono ?_
          rintro e W3 ⟨rfl, r⟩
          have R := hide (unhide F W3 bk' r)
          clear ri r
          go_wp2_with fail
          all_goals (try simp only [Exit.inBlock, Exit.then])
          all_goals go_ret2
          all_goals exact ⟨rfl, unhide R⟩
end
end Go.Proofs.Ythihabjegpacaaa
