/- PacketRow by lists: Split reads what was laid one behind the other. -/
import Derived.Test.YtnglgedcpmbbjaaK8
namespace Go.Proofs.Ytnglgedcpmbbjaa.Rw
open Go.RowKit
set_option linter.unusedVariables false
set_option maxRecDepth 100000

/-- A datagram, read from 'at' on. -/
def splF (l : List Int) (n : Int) (G : Lg) : Nat → Nat → List Pk × Nat
  | 0, at_ => ([], at_)
  | f + 1, at_ => if at_ < l.length ∧ (decP l at_ n G).2.2 = 0 then
      ((decP l at_ n G).1 :: (splF l n G f (decP l at_ n G).2.1.toNat).1, (splF l n G f (decP l at_ n G).2.1.toNat).2)
    else ([], at_)
theorem splF_end {l : List Int} {n : Int} {G : Lg} {f k : Nat} (h : ¬ (k < l.length ∧ (decP l k n G).2.2 = 0)) : splF l n G f k = ([], k) := by
  cases f with
  | zero => rfl
  | succ f => show (if _ then _ else _) = _; rw [if_neg h]
theorem splF_step {l : List Int} {n : Int} {G : Lg} {f k e : Nat} {p : Pk} (hk : k < l.length) (h : decP l k n G = (p, (e : Int), 0)) : splF l n G (f + 1) k = (p :: (splF l n G f e).1, (splF l n G f e).2) := by
  show (if _ then _ else _) = _
  rw [if_pos ⟨hk, by rw [h]⟩, h]
  simp

theorem dead (l : List Int) (G : Lg) (s : St) (x n : Int) (h : (sS1 s x).2 ≠ 0) : (shortR l G s x n).2 = sS1 s x := by
  have e2 : sS2 l s x n = ([], sS1 s x) := rBytes_no h
  have e3 : (sS3 l G s x n).2 = sS1 s x := by unfold sS3 rNum rPlain; rw [e2]; simp only; rw [rRead_no h]
  show (sS4 l G s x n).2 = _
  unfold sS4
  rw [e3, rBytes_no h]

/-- Junk that starts below 64 is no packet. -/
theorem junk_no (la R : List Int) (x : Int) (G : Lg) (n : Int) (hx : 0 ≤ x ∧ x < 64) : (decP (la ++ x :: R) la.length n G).2.2 ≠ 0 := by
  have hd : (la ++ x :: R).drop la.length = x :: R := List.drop_left
  obtain ⟨e1, -⟩ := byte_at hd
  have hb : bitS x = false := decide_eq_false (by omega)
  have s1 : (sS1 (la.length + 1, 0) x).2 = 51 := by unfold sS1; rw [hb]; unfold rMust; rw [if_pos ⟨rfl, rfl⟩]
  have e : (packR (la ++ x :: R) G la.length n).2.2 = 51 := by
    unfold packR
    rw [e1, if_neg (by simp only; omega), dead _ _ _ _ _ (by rw [s1]; decide), s1]
  unfold decP
  split
  · decide
  · rw [Int.toNat_natCast, e, if_neg (by decide)]
    show (51 : Int) ≠ 0
    decide

/-- The packets that were laid one behind the other: each may be encoded, is found again, and a short one is the last. -/
inductive Laid (n : Int) (G : Lg) : Bool → List Pk → Prop
  | nil : Laid n G false []
  | last (p : Pk) (h : Good p) (hf : foundP p G = p) (h2 : p.space = 2) (hn : (p.dst.length : Int) = n) : Laid n G true [p]
  | cons (s : Bool) (p : Pk) (ps : List Pk) (h : Good p) (hf : foundP p G = p) (h2 : p.space ≠ 2) (t : Laid n G s ps) : Laid n G s (p :: ps)

theorem bytesP_pos (p : Pk) (h : Good p) : 0 < (bytesP p).length := by
  have := bytesP_len p h
  have h1 : 0 < overP p := by
    have hw := h.w
    unfold overP
    split <;> omega
  omega

theorem split_row (n : Int) (G : Lg) (hG : okG G) (hn : 0 ≤ n ∧ n ≤ 20) (R : List Int) (s : Bool) (ps : List Pk) (h : Laid n G s ps) : ∀ (la : List Int) (f : Nat), ps.length ≤ f → (s = true → R = []) → (R = [] ∨ ∃ x R', R = x :: R' ∧ 0 ≤ x ∧ x < 64) →
    splF (la ++ ps.flatMap bytesP ++ R) n G f la.length = (ps, la.length + (ps.flatMap bytesP).length) := by
  induction h with
  | nil =>
    intro la f _ _ hR
    rw [splF_end]
    · simp
    · rcases hR with rfl | ⟨x, R', rfl, h0, h1⟩
      · simp
      · intro c
        have := junk_no la R' x G n ⟨h0, h1⟩
        simp only [List.flatMap_nil, List.append_nil] at c
        exact this c.2
  | last p hg hf h2 hnn =>
    intro la f hf2 hs hR
    obtain ⟨f, rfl⟩ : ∃ f', f = f' + 1 := ⟨f - 1, by simp at hf2; omega⟩
    have hR' : R = [] := hs rfl
    subst hR'
    have hp := bytesP_pos p hg
    have e := dec_enc la [] p hg G hG n hn (fun _ => ⟨hnn, rfl⟩)
    simp only [List.flatMap_cons, List.flatMap_nil, List.append_nil] at e ⊢
    rw [hf] at e
    rw [splF_step (by simp; omega) e, splF_end (by simp)]
  | cons s p ps hg hf h2 t ih =>
    intro la f hf2 hs hR
    obtain ⟨f, rfl⟩ : ∃ f', f = f' + 1 := ⟨f - 1, by simp at hf2; omega⟩
    have hp := bytesP_pos p hg
    have e := dec_enc la (ps.flatMap bytesP ++ R) p hg G hG n hn (fun c => absurd c h2)
    rw [hf] at e
    have el : la ++ (p :: ps).flatMap bytesP ++ R = la ++ bytesP p ++ (ps.flatMap bytesP ++ R) := by simp [List.append_assoc]
    have ih' := ih (la ++ bytesP p) f (by simp at hf2; omega) hs hR
    rw [List.append_assoc, List.length_append] at ih'
    rw [el, splF_step (by simp; omega) e, ih']
    simp only [List.flatMap_cons, List.length_append, Prod.mk.injEq, true_and]
    omega

end Go.Proofs.Ytnglgedcpmbbjaa.Rw
