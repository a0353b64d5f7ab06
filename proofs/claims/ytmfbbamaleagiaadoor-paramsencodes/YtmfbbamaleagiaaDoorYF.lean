/- ParamsEncodes. -/
import Derived.Test.YtmfbbamaleagiaaDoorYE
namespace Go.Proofs.YtmfbbamaleagiaaDoor
open Go.RowKit
set_option linter.unusedVariables false
set_option maxRecDepth 100000
set_option maxHeartbeats 2000000

/-- What an Encode leaves, shortly: the bytes and the slice. -/
def EncPost (p : Ps) (w : World) (e : Ending) (w' : World) : Prop :=
  ∃ a c, e = .returned (.tuple #[.slice a (if checkF p = 0 then encF p else []).length c, .int .i64 (checkF p)]) ∧ OwnB w.heap.size w' (.slice a (if checkF p = 0 then encF p else []).length c) (if checkF p = 0 then encF p else []) ∧ w.grownBy w' none
theorem EncPost.of {p : Ps} {w : World} {e : Ending} {w' : World} (h : ∃ s, e = .returned (.tuple #[s, .int .i64 (checkF p)]) ∧ OwnB w.heap.size w' s (if checkF p = 0 then encF p else []) ∧ w.grownBy w' none) : EncPost p w e w' := by
  obtain ⟨s, rfl, ho, hg⟩ := h
  obtain ⟨a, c, rfl⟩ := ho.shape
  exact ⟨a, c, rfl, ho, hg⟩
theorem enc_bytes (p : Ps) : ∀ x ∈ (if checkF p = 0 then encF p else []), IsB x := by
  by_cases hc : checkF p = 0
  · rw [if_pos hc]
    have hb : ∀ k, k ≤ 9 → ∀ x ∈ encK p k, IsB x := by
      intro k
      induction k with
      | zero => intro _ x hx; cases hx
      | succ k ih =>
        intro hk x hx
        simp only [encK, List.mem_append] at hx
        rcases hx with hx | hx
        · exact ih (by omega) x hx
        · unfold partK at hx
          split at hx
          · cases hx
          · exact part_byte k (by omega) _ ((checkF_ok p).1 hc k (by omega)) x hx
    exact hb 9 (Nat.le_refl _)
  · rw [if_neg hc]; intro x hx; cases hx
theorem enc_small (p : Ps) : (if checkF p = 0 then encF p else []).length ≤ 216 := by
  by_cases hc : checkF p = 0
  · rw [if_pos hc]; exact enc_len p ((checkF_ok p).1 hc) 9 (Nat.le_refl _)
  · rw [if_neg hc]; simp

theorem own_apart {w w' : World} {b : Nat} {u v : Value} {n m : Nat} {xs ys : List Value} (h : w.ownsRow b 5 1 u n xs) (h' : w'.ownsRow w.heap.size 5 1 v m ys) : u.ownBlock = none ∨ u.ownBlock ≠ v.ownBlock := by
  rcases h.2 with ⟨rfl, -⟩ | ⟨g, cap, cur, rfl, -, hg, -⟩
  · exact .inl rfl
  · right
    rcases h'.2 with ⟨rfl, -⟩ | ⟨g', cap', cur', rfl, hb, -⟩
    · simp [Value.ownBlock]
    · simp only [Value.ownBlock]
      intro e
      injection e with e
      subst e
      rw [Array.getElem?_eq_none (by omega)] at hg
      cases hg

theorem encodes_walk (p : Ps) (w : World) (h : Tb w) : Calls Tryd.prog 4 #[.agg p.cs] w fun e w' => e = .returned (.bool true) ∧ w.grownBy w' none := by
  have G0 := World.grownBy_alloc w (.cells p.cs 23) none
  have B0 := Blk.new w p.cs 23
  have T0 := h.grown G0
  have aw := fun W (hW : Tb W) => awake_any W hW
  have re := fun W => (rencode_any p W).mono fun e w' hh => EncPost.of hh
  have en := fun W (hW : Tb W) => (encode_any p W hW).mono fun e w' hh => EncPost.of hh
  have cd := fun W => code_was (checkF p) W
  have lb := enc_bytes p
  have ls := enc_small p
  unfold EncPost at re en
  generalize (if checkF p = 0 then encF p else []) = L at *
  generalize checkF p = C at *
  go_enter Tryd.func4, Tryd.ntmps4
  go_wp2_with (first
    | (go_at_call 9; refine (aw _ T0).mono ?_; rintro e W1 ⟨rfl, g1⟩; have B1 := B0.grown g1; have G1 := G0.trans g1; have T1 := T0.grown g1; clear g1 B0 G0 T0 aw)
    | (refine wpList_load_row rfl _ _ rfl w.heap.size rfl 23 p.cs (0, 0) _ (by first | exact B1 | exact B2 | exact B3) Tryd.underlying23 rfl Tryd.sizePs ?_)
    | (go_at_call 15; refine (re _).mono ?_; rintro e W2 ⟨a2, c2, rfl, o2, g2⟩; have B2 := B1.grown g2; have G2 := G1.trans g2; have T2 := T1.grown g2; clear g2 B1 T1 re)
    | (go_at_call 16; refine (en _ T2).mono ?_; rintro e W3 ⟨a3, c3, rfl, o3, g3⟩; have o2' := World.ownsRow.kept o2 g3 (by cases (Value.slice a2 L.length c2).ownBlock <;> simp); have B3 := B2.grown g3; have G3 := G2.trans g3; have T3 := T2.grown g3; clear g3 B2 T2 o2)
    | (go_at_call 16; refine (en _ T3).mono ?_; rintro e W4 ⟨a4, c4, rfl, o4, g4⟩; have o2'' := World.ownsRow.kept o2' g4 (by cases (Value.slice a2 L.length c2).ownBlock <;> simp); have o3' := World.ownsRow.kept o3 g4 (by cases (Value.slice a3 L.length c3).ownBlock <;> simp); have G4 := G3.trans g4; have S34 : (Value.slice a3 L.length c3).ownBlock = none ∨ (Value.slice a3 L.length c3).ownBlock ≠ (Value.slice a4 L.length c4).ownBlock := own_apart o3 o4; clear B3 T3 o2' o3 en g4)
    | (go_at_call 17; fail))
  obtain ⟨-, a2', c2', e2, r2⟩ := own_rd (l := L) o2'' lb
  obtain ⟨-, a3', c3', e3, r3⟩ := own_rd (l := L) o3' lb
  obtain ⟨-, a4', c4', e4, r4⟩ := own_rd (l := L) o4 lb
  cases e2; cases e3; cases e4
  have sm3 := same_ok a3 a2 L c3 c2 W4 r3 r2 (by unfold maxLen; omega)
  have sm4 := fun q => same_ok a4 a2 L c4 c2 (W4.drewN q) (Rd.drew r4 q) (Rd.drew r2 q) (by unfold maxLen; omega)
  have O3 := hide (o3' : W4.ownsRow W2.heap.size 5 1 (.slice a3 L.length c3) L.length (vals L))
  have O4 := hide (o4 : W4.ownsRow W3.heap.size 5 1 (.slice a4 L.length c4) L.length (vals L))
  have HG := hide G4
  have HS := hide (And.intro G2.size G3.size)
  have hCC : (C != C) = false := by simp
  clear o2'' o3' o4 r2 r3 r4 G1 G2 G3 G4 lb h
  refine sm3.mono ?_
  rintro e W5 ⟨rfl, q, rfl⟩
  go_wp2_with fail
  refine (sm4 q).mono ?_
  rintro e W6 ⟨rfl, q', rfl⟩
  clear sm3 sm4
  go_wp2_with (go_at_call 14; refine (cd _).mono ?_; rintro e W7 ⟨rfl, hW⟩; subst hW; clear cd)
  have P3 : OwnB w.heap.size ((W4.drewN (q + q')).alloc (.cells #[.slice a3 L.length c3, .slice a4 L.length c4] 31)) (.slice a3 L.length c3) L := World.ownsRow.alloc (OwnB.mono (d := L) (unhide O3) (unhide HS).1) _
  have P4 : OwnB w.heap.size ((W4.drewN (q + q')).alloc (.cells #[.slice a3 L.length c3, .slice a4 L.length c4] 31)) (.slice a4 L.length c4) L := World.ownsRow.alloc (OwnB.mono (d := L) (unhide O4) (unhide HS).2) _
  have gF := (grown_drewN (q := q + q') (unhide HG)).trans (World.grownBy_alloc (W4.drewN (q + q')) (.cells #[.slice a3 L.length c3, .slice a4 L.length c4] 31) none)
  refine (apart_list [.slice a3 L.length c3, .slice a4 L.length c4] w _ w.heap.size W4.heap.size 2 (unhide HG).size (heap_alloc_new (W4.drewN (q + q')) _) (by
    intro v hv
    simp only [List.mem_cons, List.not_mem_nil, or_false] at hv
    rcases hv with rfl | rfl
    · exact ⟨_, _, P3, by omega⟩
    · exact ⟨_, _, P4, by omega⟩) (by
    simp only [List.pairwise_cons, List.mem_cons, List.not_mem_nil, or_false]
    refine ⟨?_, ?_, List.Pairwise.nil⟩
    · rintro u rfl; exact S34
    · intro u hu; exact absurd hu (by simp)) (by simp) (grown_bel gF)).mono ?_
  rintro e W8 ⟨rfl, b8⟩
  go_wp2
  go_ret
  exact ⟨rfl, bel_grown b8⟩
end Go.Proofs.YtmfbbamaleagiaaDoor
