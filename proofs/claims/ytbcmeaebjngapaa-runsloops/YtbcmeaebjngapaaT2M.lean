/- RunsLoops: a set that changes; the boxes. -/
import Derived.Test.YtbcmeaebjngapaaSG
import Derived.Test.YtbcmeaebjngapaaT2D
import Derived.Laws.EntriesVeiled
namespace Go.Proofs.Ytbcmeaebjngapaa
open Go.RowKit Go.Shelf
set_option linter.unusedVariables false
set_option maxHeartbeats 1000000
set_option maxRecDepth 100000

theorem touch_kp {w w' : World} {b : Nat} {v : Value} (t : Touch w w' b v) : Kp (fun g => g = b ∨ v.ownBlock = some g) w w' := ⟨t.os, t.tape, t.output, t.size, fun g hg hn => t.block g hg (fun e => hn (.inl e)) (fun e => hn (.inr e.symm))⟩
/-- What a call that changes the set at b leaves. -/
def ChgTo (w : World) (b : Nat) (v : Value) (L' : List Sp) (e : Ending) (w' : World) : Prop := (∃ n : Int, e = .returned (.int .u64 n)) ∧ ∃ v', SetAt w' b 0 v' L' ∧ (v'.ownBlock = v.ownBlock ∨ Fresh w v') ∧ Kp (fun g => g = b ∨ v.ownBlock = some g) w w'
theorem add_at {w : World} {b : Nat} {v : Value} {L : List Sp} (h : SetAt w b 0 v L) (hL : Ok L) (lo hi : Int) (hlo : -9223372036854775808 ≤ lo) (hhi : hi ≤ 9223372036854775807) :
    Calls Try.prog 17 #[.pointer (some ⟨b, 0, none⟩), .int .i64 lo, .int .i64 hi] w (ChgTo w b v (addS 0 lo hi L)) := by
  by_cases hlh : hi < lo
  · refine (add_gt b lo hi w hlh).mono ?_
    rintro e w' ⟨rfl, hg⟩
    unfold addS
    rw [if_pos hlh]
    exact ⟨⟨_, rfl⟩, v, h.keep hg, .inl rfl, touch_kp (Touch.of b v hg)⟩
  · unfold addS
    rw [if_neg hlh]
    obtain ⟨A, M, D, rfl, hA, hM, hD⟩ := split3 (lo - 1) (hi + 1) hL.good (by omega)
    rw [addF_split hL.good (by omega) hA hM hD]
    refine (add_walk b 0 lo hi v A M D w h hL (by omega) hlo hhi hA hM hD).mono ?_
    rintro e w' ⟨rfl, ⟨v', hs, ho⟩, ht⟩
    exact ⟨⟨_, rfl⟩, v', hs, ho, touch_kp ht⟩
theorem cut_at {w : World} {b : Nat} {v : Value} {L : List Sp} (h : SetAt w b 0 v L) (hL : Ok L) (lo hi : Int) (hlo : -9223372036854775808 ≤ lo) (hhi : hi ≤ 9223372036854775807) :
    Calls Try.prog 16 #[.pointer (some ⟨b, 0, none⟩), .int .i64 lo, .int .i64 hi] w (ChgTo w b v (cutS 0 lo hi L)) := by
  by_cases hlh : hi < lo
  · refine (cut_gt b lo hi w hlh).mono ?_
    rintro e w' ⟨rfl, hw⟩
    subst hw
    unfold cutS
    rw [if_pos hlh]
    exact ⟨⟨_, rfl⟩, v, h, .inl rfl, Kp.refl _ _⟩
  · unfold cutS
    rw [if_neg hlh]
    obtain ⟨A, M, D, rfl, hA, hM, hD⟩ := split3 lo hi hL.good (by omega)
    rw [cutF_split hL.good (by omega) hA hM hD]
    by_cases hne : M = []
    · subst hne
      refine (cut_none b 0 lo hi v A D w h hL (by omega) hlo hhi hA hD).mono ?_
      rintro e w' ⟨rfl, ⟨v', hs, ho⟩, ht⟩
      exact ⟨⟨_, rfl⟩, v', hs, ho, touch_kp ht⟩
    · refine (cut_meet b 0 lo hi v A M D w h hL (by omega) hlo hhi hA hM hD hne).mono ?_
      rintro e w' ⟨rfl, ⟨v', hs, ho⟩, ht⟩
      exact ⟨⟨_, rfl⟩, v', hs, ho, touch_kp ht⟩

theorem SetAt.ownS {w : World} {b : Nat} {most : Int} {v : Value} {L : List Sp} (h : SetAt w b most v L) : ownS w b = v.ownBlock := by
  unfold Go.Proofs.Ytbcmeaebjngapaa.ownS; rw [h.c1]; rfl
theorem SetAt.rowlt {w : World} {b : Nat} {most : Int} {v : Value} {L : List Sp} (h : SetAt w b most v L) {g : Nat} (hg : v.ownBlock = some g) : ∃ cs t, w.heap[g]? = some (.cells cs t (0, 0)) := by
  rcases Row.at h.row with ⟨rfl, -⟩ | ⟨g', c, sp, rfl, hR⟩
  · cases hg
  · cases hg; exact ⟨_, _, hR.1⟩
theorem SetAt.kpt {S : Nat → Prop} {w w' : World} {b : Nat} {most : Int} {v : Value} {L : List Sp} (h : SetAt w b most v L) (k : Kp S w w') (hb : ¬ S b) (hv : ∀ g, v.ownBlock = some g → ¬ S g) : SetAt w' b most v L := by
  refine ⟨(k.block b (Array.getElem?_eq_some_iff.1 h.blk).1 hb).trans h.blk, ?_⟩
  have r := h.row
  refine ⟨r.1, r.2.imp id ?_⟩
  rintro ⟨g, cap, cur, e, q1, q2, q3⟩
  subst e
  exact ⟨g, cap, cur, rfl, q1, (k.block g (Array.getElem?_eq_some_iff.1 q2).1 (hv g rfl)).trans q2, q3⟩
theorem SetAt.own {w w' : World} {b B : Nat} {most : Int} {v : Value} {L : List Sp} {row : Option Nat} (h : SetAt w b most v L) (g : w.grownBy w' row) (hr : Rec B w row) : SetAt w' b most v L := by
  have k : Kp (fun x => row = some x) w w' := ⟨g.os, g.tape, g.output, g.size, fun x hx hn => g.block x hx (fun e => hn e.symm)⟩
  refine h.kpt k (fun e => hr.ne_blk h.blk e.symm) (fun x hx e => ?_)
  obtain ⟨cs, t, hb⟩ := h.rowlt hx
  exact hr.ne_blk hb e.symm

/-- A set that was at wB, with its row at r0, and has changed since: at most m runs. -/
def SX (wB : World) (b : Nat) (r0 : Option Nat) (m : Nat) (X : World) : Prop := ∃ v L, SetAt X b 0 v L ∧ (v.ownBlock = r0 ∨ Fresh wB v) ∧ Good (-9223372036854775808) 9223372036854775807 L ∧ L.length ≤ m
theorem SX.own {wB X X' : World} {b B m : Nat} {r0 : Option Nat} {row : Option Nat} (h : SX wB b r0 m X) (g : X.grownBy X' row) (hr : Rec B X row) : SX wB b r0 m X' := by
  obtain ⟨v, L, h1, h2⟩ := h
  exact ⟨v, L, h1.own g hr, h2⟩
/-- One change more. -/
theorem sx_chg {wB X X' : World} {b m n : Nat} {r0 : Option Nat} {v : Value} {L L' : List Sp} {e : Ending} {C : Nat → Prop} (h : SetAt X b 0 v L) (hv : v.ownBlock = r0 ∨ Fresh wB v) (hc : ChgTo X b v L' e X') (hg : Good (-9223372036854775808) 9223372036854775807 L') (hl : L'.length ≤ m) (kp : Kp C wB X) (hCb : C b) (hCr : ∀ g, r0 = some g → C g) (hbn : b < n) :
    SX wB b r0 m X' ∧ Kp C wB X' ∧ KS b n X X' ∧ KeepsOthers X X' ∧ Kp (fun g => g = b ∨ v.ownBlock = some g) X X' := by
  obtain ⟨-, v', s', ho, k⟩ := hc
  have sz := kp.size
  refine ⟨⟨v', L', s', ?_, hg, hl⟩, kp.then k (fun g hg' hh => ?_), ⟨k.size, fun g o hgn h1 h2 h3 => ?_, fun j hj hlt => ?_⟩, ⟨k.size, fun j o hj ho' => ?_⟩, k⟩
  · rcases ho with e1 | e1
    · rcases hv with e2 | e2
      · exact .inl (e1.trans e2)
      · exact .inr (fun g hg' => e2 g (by rw [← e1]; exact hg'))
    · exact .inr (fun g hg' => Nat.le_trans sz (e1 g hg'))
  · rcases hh with e1 | e1
    · rw [e1]; exact hCb
    · rcases hv with e2 | e2
      · exact hCr g (by rw [← e2]; exact e1)
      · have := e2 g e1; omega
  · refine (k.block g (Array.getElem?_eq_some_iff.1 h1).1 (fun hh => ?_)).trans h1
    rcases hh with e1 | e1
    · omega
    · exact h3 (by rw [h.ownS]; exact e1)
  · rw [s'.ownS] at hj
    rw [h.ownS]
    rcases ho with e1 | e1
    · rw [← e1]; exact hj
    · have := e1 j hj; omega
  · refine (k.block j (Array.getElem?_eq_some_iff.1 hj).1 (fun hh => ?_)).trans hj
    rcases hh with e1 | e1
    · subst e1; rw [h.blk] at hj; cases hj; cases ho'
    · obtain ⟨cs, t, hb⟩ := h.rowlt e1
      rw [hb] at hj; cases hj; cases ho'

theorem runs_at {w : World} {b : Nat} {v : Value} {L : List Sp} (h : SetAt w b 0 v L) (hl : L.length ≤ 1000000) : RunsAt w (.pointer (some ⟨b, 0, none⟩)) L := fun W g => runs_any b 0 v L W (h.keep g) (by omega)

/-- How many steps of the other script are to be done. -/
theorem chg_good {L : List Sp} (h : Good (-9223372036854775808) 9223372036854775807 L) (lo hi : Int) (hlo : -9223372036854775808 ≤ lo) (hhi : hi ≤ 9223372036854775807) : (Good (-9223372036854775808) 9223372036854775807 (addS 0 lo hi L) ∧ (addS 0 lo hi L).length ≤ L.length + 1) ∧ (Good (-9223372036854775808) 9223372036854775807 (cutS 0 lo hi L) ∧ (cutS 0 lo hi L).length ≤ L.length + 1) := ⟨addS_good h hlo hhi, cutS_good h⟩

abbrev upV (B : Nat) : Value := .func (.func 25) #[] #[.pointer (some ⟨B, 0, none⟩)]
abbrev dnV (B : Nat) : Value := .func (.func 26) #[] #[.pointer (some ⟨B, 0, none⟩)]
theorem up_ne (B : Nat) (X : World) : (binOp BinOp.eql 37 (upV B) Value.nilFunc).run Try.prog X = .ok (.bool false) X := by
  first
    | (simp [binOp, go_sem]; done)
    | kernel_rfl
theorem dn_ne (B : Nat) (X : World) : (binOp BinOp.eql 37 (dnV B) Value.nilFunc).run Try.prog X = .ok (.bool false) X := by
  first
    | (simp [binOp, go_sem]; done)
    | kernel_rfl
end Go.Proofs.Ytbcmeaebjngapaa
