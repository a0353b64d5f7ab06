/- B2I, B2J, B2K, B2M, B2N, B2P, B2Q, B2O, WR, KO1, BK, KO2, RJp, ROp, B2R, B2S, B2T, B2V, B2Z, B2X, B2Y, B2U, B2W, PKBui, one text. -/
import Derived.Test.YtpcnpdippnljpaaM2D
import Derived.Maps.AppendAt
import Derived.Test.YtpcnpdippnljpaaBase
import Derived.ProofKit
import Derived.OpenShut
import Derived.Test.YtpcnpdippnljpaaKZ
import Derived.Test.YtpcnpdippnljpaaKX5
import Derived.ShutString
import Derived.ChangeOld
import Derived.SizedLaws
import Derived.Laws.IdiomArrays
import Derived.Test.YtpcnpdippnljpaaRows
import Derived.Test.YtpcnpdippnljpaaM2C
import Derived.Deep.Slices
import Derived.Test.YtpcnpdippnljpaaM2B
import Derived.JoinedCond
import Derived.Deep.CondSized
namespace Go.Proofs.Ytpcnpdippnljpaa
open Go.RowKit
set_option linter.unusedVariables false
set_option linter.unusedSimpArgs false
set_option maxRecDepth 100000
set_option maxHeartbeats 4000000

/-- A packet with so many bytes 1. -/
def ones (p : Pk) (m : Nat) : Pk := { p with payload := List.replicate m 1 }
theorem ones_zero (p : Pk) : ones p 0 = { p with payload := [] } := rfl
theorem ovF_ones (p : Pk) (m : Nat) : ovF (ones p m) = ovF p := by rw [ovF_G, ovF_G]; rfl
theorem ones_enc {p : Pk} {m : Nat} (h0 : encE (ones p 0) = 0) (hm : p.space ≠ 2 → p.width + m ≤ 16383) : encE (ones p m) = 0 ∧ ((encB (ones p m)).length : Int) = overP p + m := by
  have e : encE (ones p m) = 0 := by
    unfold encE at h0 ⊢
    have k1 : badK (ones p m) ↔ badK (ones p 0) := Iff.rfl
    have k2 : badF (ones p m) ↔ badF (ones p 0) := Iff.rfl
    split at h0
    · cases h0
    · split at h0
      · cases h0
      · split at h0
        · cases h0
        · rename_i h1 h2 h3
          rw [if_neg (fun q => h1 (k1.1 q)), if_neg (fun q => h2 (k2.1 q)), if_neg]
          rintro (q | q | ⟨q1, q2⟩)
          · exact h3 (.inl q)
          · exact h3 (.inr (.inl q))
          · have := hm q1
            simp only [ones, List.length_replicate] at q2
            omega
  refine ⟨e, ?_⟩
  unfold encB
  rw [if_pos e, bytesP_len _ (enc_good e)]
  show overP p + ((List.replicate m (1 : Int)).length : Int) = _
  rw [List.length_replicate]
theorem room_nn (room : Int) (p : Pk) (ahead : Int) : 0 ≤ roomF room p ahead := by
  unfold roomF
  split
  · omega
  · rename_i h
    have hw := fun e => (ov_okh (p := p) e).w
    by_cases e : (ovF p).2 = 0
    · have := hw e
      split <;> omega
    · exact absurd (.inl e) h
theorem room_full {room : Int} {p : Pk} (h0 : encE (ones p 0) = 0) (hr : room ≤ 16383) (hn : roomF room p 0 ≠ 0) : overP p + roomF room p 0 = room ∧ (p.space ≠ 2 → p.width + roomF room p 0 + 1 ≤ 16383) := by
  have hg := ov_good (enc_good h0)
  rw [ovF_ones] at hg
  have ho : overP (ones p 0) = overP p := rfl
  rw [ho] at hg
  have gd := enc_good h0
  have hw : 1 ≤ p.width ∧ p.width ≤ 4 := gd.w
  have hov : 1 + p.width ≤ overP p ∧ (p.space ≠ 2 → 9 + p.width ≤ overP p) := by
    unfold overP
    refine ⟨?_, fun c => ?_⟩
    · split
      · omega
      · split <;> omega
    · rw [if_neg c]
      split <;> omega
  unfold roomF at hn ⊢
  rw [hg] at hn ⊢
  simp only at hn ⊢
  split at hn
  · exact absurd rfl hn
  · rename_i c
    rw [if_neg c]
    have c2 : ¬ room ≤ 0 := fun q => c (.inr (.inr q))
    by_cases c3 : p.space = 2
    · rw [if_pos c3] at hn ⊢
      exact ⟨by omega, fun q => absurd c3 q⟩
    · rw [if_neg c3] at hn ⊢
      have := hov.2 c3
      exact ⟨by omega, fun _ => by omega⟩
theorem bld_one {room : Int} {q : Pk} (h : encE q = 0) (h0 : 0 ≤ room) (h1 : room ≤ 65535) : bldF room 0 [q] = if room < (encB q).length then ([], [], 200) else (encB q, [((encB q).length : Int)], 0) := by
  have hp : padP q (0 - (([] : List Int).length : Int)) = q := by
    unfold padP
    have := ovF_in q
    rw [if_pos]
    simp only [List.length_nil]
    omega
  have hg : bldG 0 [q] [] [] = (encB q, [((encB q).length : Int)], 0) := by
    unfold bldG
    simp only [if_true, hp, h, List.nil_append]
    rfl
  unfold bldF
  rw [if_neg (by
    rintro (c | c | c | c | c)
    · omega
    · omega
    · omega
    · omega
    · cases c), hg]
  simp only [if_true]

theorem pks_one {w : World} {b : Nat} {q : Pk} {d s y : Value} (hb : Blk w b (q.cs d s y) 29) (hd : InB w d q.dst) (hs : InB w s q.src) (hy : InB w y q.payload) (l1 : q.dst.length ≤ 140737488351232) (l2 : q.src.length ≤ 140737488351232) (l3 : q.payload.length ≤ 140737488351232) : IsPks w (some ⟨b, 0, none⟩) 1 1 [⟨q, d, s, y⟩] := by
  refine ⟨rfl, by omega, fun x hx => ?_, fun x hx => ?_, .inr ⟨_, _, rfl, fun i x hi j hj => ?_⟩⟩
  · simp only [List.mem_singleton] at hx
    subst hx
    exact ⟨hd, hs, hy⟩
  · simp only [List.mem_singleton] at hx
    subst hx
    exact ⟨l1, l2, l3⟩
  · rcases i with _ | i
    · simp only [List.getElem?_cons_zero, Option.some.injEq] at hi
      subst hi
      have : j = 0 ∨ j = 1 ∨ j = 2 ∨ j = 3 ∨ j = 4 ∨ j = 5 := by omega
      rcases this with rfl | rfl | rfl | rfl | rfl | rfl <;> exact hb.cell _ _ rfl
    · simp at hi
theorem InB.belowB {w W : World} {v : Value} {l : List Int} (h : InB w v l) (b : Below w.heap.size w W) : InB W v l := by
  obtain ⟨a, c, e, hr, h1, h2, h3⟩ := h
  exact ⟨a, c, e, rd_below hr b, h1, h2, fun x ex hc => ⟨Nat.lt_of_lt_of_le (h3 x ex hc).1 b.size, Nat.ne_of_lt (Nat.lt_of_lt_of_le (h3 x ex hc).1 b.size), (h3 x ex hc).2.2⟩⟩

/-- While the payload grows. -/
structure FI (W3 : World) (p : Pk) (d s : Value) (m : Nat) (ya : Option Addr) (yc : Nat) (wr : World) : Prop where
  blk : Blk wr W3.heap.size ((ones p m).cs d s (.slice ya m yc)) 29
  own : OwnB (W3.heap.size + 1) wr (.slice ya m yc) (List.replicate m 1)
  bel : Below W3.heap.size W3 wr
theorem FI.grown {W3 wr wr' : World} {p : Pk} {d s : Value} {m : Nat} {ya : Option Addr} {yc : Nat} (h : FI W3 p d s m ya yc wr) (g : wr.grownBy wr' none) : FI W3 p d s m ya yc wr' :=
  ⟨h.blk.grown g, h.own.kept (fun x e => g.block x (h.own.ltb x e).2 (by simp)), ⟨g.os.trans h.bel.os, g.tape.trans h.bel.tape, g.output.trans h.bel.output, Nat.le_trans h.bel.size g.size, fun k hk => (g.block k (by have := h.blk.lt; omega) (by simp)).trans (h.bel.block k hk)⟩⟩
/-- One byte more. -/
theorem FI.push {W3 wr : World} {p : Pk} {d s : Value} {m : Nat} {ya : Option Addr} {yc : Nat} (h : FI W3 p d s m ya yc wr) (hm : m ≤ 100000) :
    ∃ ya' yc' w', (Builtin.append_ #[27, 27] 27 #[.slice ya m yc, .slice (some ⟨wr.heap.size, 0, none⟩) 1 1]).run Try.prog (wr.alloc (bts [1])) = .ok (.slice ya' (m + 1) yc') w' ∧ w'.cell? ⟨W3.heap.size, 5, none⟩ = some (.slice ya m yc) ∧ (∀ j, w'.frozen? ⟨W3.heap.size, j, none⟩ = false) ∧ FI W3 p d s (m + 1) ya' yc' (w'.setCell ⟨W3.heap.size, 5, none⟩ (.slice ya' (m + 1) yc')) := by
  have gA := World.grownBy_alloc wr (bts [1]) none
  have hA := h.grown gA
  have i1 : InB (wr.alloc (bts [1])) (.slice (some ⟨wr.heap.size, 0, none⟩) 1 1) [1] := InB.at rfl rfl (small_le (by simp)) (by simp [IsB])
  have hlt := h.blk.lt
  obtain ⟨v', w', hr, ho, hg⟩ := app_rd (wr.alloc (bts [1])) (W3.heap.size + 1) 27 _ _ hA.own _ [1] i1 (by rw [List.length_replicate]; simp; omega) (Nat.le_trans hlt gA.size)
  have e : List.replicate m (1 : Int) ++ [1] = List.replicate (m + 1) 1 := by rw [List.replicate_succ']
  rw [e] at ho
  obtain ⟨ya', yc', rfl⟩ := ho.shape
  rw [List.length_replicate] at hr ho
  have bne : ∀ x, (Value.slice ya m yc).ownBlock = some x → x ≠ W3.heap.size := fun x e => by have := (hA.own.ltb x e).1; omega
  have bW : Blk w' W3.heap.size ((ones p m).cs d s (.slice ya m yc)) 29 := (hg.block _ hA.blk.lt (fun e => bne _ e.symm rfl)).trans hA.blk
  have bel : Below W3.heap.size W3 w' := ⟨hg.os.trans hA.bel.os, hg.tape.trans hA.bel.tape, hg.output.trans hA.bel.output, Nat.le_trans hA.bel.size hg.size, fun k hk => (hg.block k (by have := hA.blk.lt; omega) (fun e => by have := (hA.own.ltb k e.symm).1; omega)).trans (hA.bel.block k hk)⟩
  refine ⟨ya', yc', w', hr, bW.cell 5 _ rfl, bW.thaws, bW.setC 5 _, ?_, ?_⟩
  · have gg := grown_at (World.grownBy.refl w' (some W3.heap.size)) 5 (.slice ya' (m + 1) yc')
    exact ho.far gg (fun q e => by cases e; omega)
  · have gg := grown_at (World.grownBy.refl w' (some W3.heap.size)) 5 (.slice ya' (m + 1) yc')
    exact ⟨gg.os.trans bel.os, gg.tape.trans bel.tape, gg.output.trans bel.output, Nat.le_trans bel.size gg.size, fun k hk => (gg.block k (by have := bel.size; omega) (by simp; omega)).trans (bel.block k hk)⟩
end Go.Proofs.Ytpcnpdippnljpaa

namespace Go.Proofs.Ytpcnpdippnljpaa
open Go.RowKit
set_option linter.unusedVariables false
set_option linter.unusedSimpArgs false
set_option maxRecDepth 100000
set_option maxHeartbeats 4000000

theorem fi_grown {w W3 wr : World} {p : Pk} {d s : Value} {m : Nat} {ya : Option Addr} {yc : Nat} (g : w.grownBy W3 none) (h : FI W3 p d s m ya yc wr) : w.grownBy wr none :=
  g.trans ⟨h.bel.os, h.bel.tape, h.bel.output, h.bel.size, fun k hk _ => h.bel.block k hk⟩
theorem overP_nn (p : Pk) (h : 1 ≤ p.width) : 0 ≤ overP p := by
  unfold overP
  split
  · omega
  · split <;> omega
theorem fills_walk (room : Int) (p : Pk) (d s y : Value) (w : World) (hd : InB w d p.dst) (hs : InB w s p.src) (hy : InB w y p.payload) (l1 : p.dst.length ≤ 140737488351232) (l2 : p.src.length ≤ 140737488351232) (l3 : p.payload.length ≤ 140737488351232) (r1 : -9223372036854775808 ≤ room ∧ room ≤ 9223372036854775807) :
    Calls Try.prog 6 #[.int .i64 room, p.val d s y] w fun e w' => e = .returned (.bool true) ∧ w.grownBy w' none := by
  have hdb := hd.bytes
  have hsb := hs.bytes
  obtain ⟨a1, c1, rfl, -⟩ := id hd
  obtain ⟨a2, c2, rfl, -⟩ := id hs
  obtain ⟨a3, c3, rfl, -⟩ := id hy
  have b0 := Blk.new w (p.cs (.slice a1 p.dst.length c1) (.slice a2 p.src.length c2) (.slice a3 p.payload.length c3)) 29
  have g0 := World.grownBy_alloc w (.cells (p.cs (.slice a1 p.dst.length c1) (.slice a2 p.src.length c2) (.slice a3 p.payload.length c3)) 29) none
  have HB := hide (And.intro hdb hsb)
  clear hdb hsb
  go_enter Try.func6, Try.ntmps6
  go_wp2_with fail
  refine (awake_any _).mono ?_
  rintro e W1 ⟨rfl, g1⟩
  have gA := g0.trans g1
  have b1 := b0.grown g1
  have x0 := b1.cell 0 (.int .i64 p.space) rfl
  have x1 := b1.cell 1 (.slice a1 p.dst.length c1) rfl
  have x2 := b1.cell 2 (.slice a2 p.src.length c2) rfl
  have x3 := b1.cell 3 (.int .i64 p.number) rfl
  have x4 := b1.cell 4 (.int .i64 p.width) rfl
  have x5 := b1.cell 5 (.slice a3 p.payload.length c3) rfl
  have rm := room_any room 0 p (.slice a1 p.dst.length c1) (.slice a2 p.src.length c2) (.slice a3 p.payload.length c3) W1 (hd.grown gA) (hs.grown gA) l1 l2 r1.2
  obtain ⟨n, hn⟩ : ∃ n, n = roomF room p 0 := ⟨_, rfl⟩
  have n0 := room_nn room p 0
  rw [← hn] at rm n0
  have HN := hide hn
  clear b0 g0 g1 hn
  go_wp2_with fail
  refine rm.mono ?_
  rintro e W2 ⟨rfl, g2⟩
  have nI : ¬ n < 0 := by omega
  have b2 := b1.grown g2
  have gB := gA.trans g2
  have y0 := b2.cell 0 (.int .i64 p.space) rfl
  have y1 := b2.cell 1 (.slice a1 p.dst.length c1) rfl
  have y2 := b2.cell 2 (.slice a2 p.src.length c2) rfl
  have y3 := b2.cell 3 (.int .i64 p.number) rfl
  have y4 := b2.cell 4 (.int .i64 p.width) rfl
  have y5 := b2.cell 5 (.slice a3 p.payload.length c3) rfl
  have cp := copied05 p (.slice a1 p.dst.length c1) (.slice a2 p.src.length c2) (.slice a3 p.payload.length c3) W2 (hd.grown gB) (hs.grown gB) (hy.grown gB) l1 l2 l3
  have GB := hide gB
  clear rm b1 gA x0 x1 x2 x3 x4 x5 g2 gB b2 hd hs hy
  go_wp2_with fail
  refine cp.mono ?_
  rintro e W3 ⟨e1, f1, e2, f2, e3, f3, rfl, o1, o2, o3, g3⟩
  have i1 := o1.inB (unhide HB).1
  have i2 := o2.inB (unhide HB).2
  obtain ⟨W4, hW4⟩ : ∃ W4, W4 = W3.alloc (.cells (p.cs (.slice e1 p.dst.length f1) (.slice e2 p.src.length f2) (.slice e3 p.payload.length f3)) 29) := ⟨_, rfl⟩
  have b4 := Blk.new W3 (p.cs (.slice e1 p.dst.length f1) (.slice e2 p.src.length f2) (.slice e3 p.payload.length f3)) 29
  have g4 := World.grownBy_alloc W3 (.cells (p.cs (.slice e1 p.dst.length f1) (.slice e2 p.src.length f2) (.slice e3 p.payload.length f3)) 29) none
  rw [← hW4] at b4 g4
  have F0 : FI W3 p (.slice e1 p.dst.length f1) (.slice e2 p.src.length f2) 0 none 0 (W4.setCell ⟨W3.heap.size, 5, none⟩ (.slice none 0 0)) :=
    ⟨b4.setC 5 _, World.ownsRow_nil _ _ _ _, by
      have gg := grown_at (World.grownBy.refl W4 (some W3.heap.size)) 5 (.slice none 0 0)
      exact ⟨gg.os.trans g4.os, gg.tape.trans g4.tape, gg.output.trans g4.output, Nat.le_trans g4.size gg.size, fun k hk => (gg.block k (by have := g4.size; omega) (by simp; omega)).trans (g4.block k hk (by simp))⟩⟩
  have k5 := b4.cell 5 (.slice e3 p.payload.length f3) rfl
  have t5 := b4.thaws
  have j1 := i1.belowB F0.bel
  have j2 := i2.belowB F0.bel
  have en := enc_own (ones p 0) (.slice e1 p.dst.length f1) (.slice e2 p.src.length f2) nilV _ j1 j2 (InX.nil _ _) l1 l2 (by simp [ones])
  obtain ⟨E, hE⟩ : ∃ E, E = encE (ones p 0) := ⟨_, rfl⟩
  obtain ⟨PB, hPB⟩ : ∃ PB, PB = encB (ones p 0) := ⟨_, rfl⟩
  rw [← hE, ← hPB] at en
  have z0 := F0.blk.cell 0 (.int .i64 p.space) rfl
  have z1 := F0.blk.cell 1 (.slice e1 p.dst.length f1) rfl
  have z2 := F0.blk.cell 2 (.slice e2 p.src.length f2) rfl
  have z3 := F0.blk.cell 3 (.int .i64 p.number) rfl
  have z4 := F0.blk.cell 4 (.int .i64 p.width) rfl
  have z5 := F0.blk.cell 5 (.slice none 0 0) rfl
  have HE := hide hE
  have II := hide (And.intro i1 (And.intro i2 (And.intro ((unhide GB).trans g3) F0)))
  clear cp y0 y1 y2 y3 y4 y5 o1 o2 o3 g3 i1 i2 b4 g4 F0 j1 j2 hE hPB
  go_upto_region 6 with fail
  rw [← hW4]
  replace hW4 := hide hW4
  obtain ⟨G, hG⟩ : ∃ G, G = W3.heap.size := ⟨_, rfl⟩
  rw [← hG] at k5 t5 en z0 z1 z2 z3 z4 z5 ⊢
  replace hG := hide hG
  go_wp2_with fail
  refine en.mono ?_
  rintro e W5 ⟨pa, pc, rfl, hoE, g5⟩
  clear en z0 z1 z2 z3 z4 z5 k5 t5 hoE
  have G5 := hide g5
  clear g5
  have DONE : Hid (∀ W, W5.grownBy W none → w.grownBy W none) := fun W g => by
    have gg := fi_grown (unhide II).2.2.1 (unhide II).2.2.2
    have g5 := unhide G5
    rw [unhide hG] at g5
    exact gg.trans (g5.trans g)
  by_cases n00 : n = 0
  · subst n00
    go_wp2_with fail
    go_ret
    exact ⟨rfl, unhide DONE _ (World.grownBy.refl _ none)⟩
  have n01 : ¬ n = 0 := n00
  by_cases rb : 16383 < room
  · go_wp2_with fail
    go_ret
    exact ⟨rfl, unhide DONE _ (World.grownBy.refl _ none)⟩
  by_cases hE0 : E = 0
  · subst hE0
    have FU : Hid (overP p + n = room ∧ (p.space ≠ 2 → p.width + n + 1 ≤ 16383) ∧ 0 ≤ overP p ∧ encE (ones p 0) = 0) := by
      have e0 := (unhide HE).symm
      have hn := unhide HN
      have rf := room_full (room := room) e0 (by omega) (by rw [← hn]; exact n00)
      rw [← hn] at rf
      exact ⟨rf.1, rf.2, overP_nn p (enc_good e0).w.1, e0⟩
    have nr : ¬ room < n := by
      have := unhide FU
      omega
    obtain ⟨N, rfl⟩ := Int.eq_ofNat_of_zero_le n0
    have N16 : N ≤ 16383 := by omega
    have I5 : Hid (FI W3 p (.slice e1 p.dst.length f1) (.slice e2 p.src.length f2) 0 none 0 W5) := by
      have g5 := unhide G5
      rw [unhide hG] at g5
      exact (unhide II).2.2.2.grown g5
    have nb : ((N : Int) == 0) = false := by simpa using n00
    clear HE HN
    go_wp2_with fail
    go_loopw [10] (fun iv wr => ∃ k : Nat, k ≤ N ∧ iv = .int .i64 k ∧ Hid (∃ ya yc, FI W3 p (.slice e1 p.dst.length f1) (.slice e2 p.src.length f2) k ya yc wr)) (fun iv _ => N - (intOf iv).toNat)
    case atStart => exact ⟨0, Nat.zero_le _, rfl, _, _, unhide I5⟩
    case round =>
      clear I5
      obtain ⟨k, hk, rfl, I⟩ := hrel
      obtain ⟨ya, yc, I⟩ := unhide I
      by_cases hlt : k < N
      · have hkI : (k : Int) < (N : Int) := by omega
        obtain ⟨ya', yc', w6, hr6, c6, t6, I6⟩ := I.push (by omega)
        have c5 := (I.grown (World.grownBy_alloc wr (bts [1]) none)).blk.cell 5 (.slice ya k yc) rfl
        have c4 := I.blk.cell 5 (.slice ya k yc) rfl
        rw [← unhide hG] at c4 c5 c6 t6 I6
        have I6' := hide I6
        replace hr6 := hide hr6
        clear I I6
        have FIN : Hid (∃ ya yc, FI W3 p (.slice e1 p.dst.length f1) (.slice e2 p.src.length f2) (k + 1) ya yc (w6.setCell ⟨G, 5, none⟩ (.slice ya' (k + 1) yc'))) := ⟨ya', yc', unhide I6'⟩
        clear I6'
        go_wp2_with (at_builtin; refine Kf.wpList_append_run _ rfl (Operand.tmp 54) (Operand.tmp 55) 27 27 rfl (.slice ya k yc) (.slice (some ⟨wr.heap.size, 0, none⟩) 1 1) rfl rfl (unhide hr6) ?_)
        exact ⟨⟨k + 1, hlt, by go_num, FIN⟩, by simp [intOf]; omega⟩
      · obtain rfl : k = N := by omega
        have hkI : ¬ (k : Int) < (k : Int) := by omega
        obtain ⟨fo, fw, fn, fe⟩ := unhide FU
        have ej := ones_enc (m := k) fe (fun c => by have := fw c; omega)
        have em := ones_enc (m := k + 1) fe (fun c => by have := fw c; omega)
        have bd1 : bldF room 0 [ones p k] = (encB (ones p k), [room], 0) := by
          rw [bld_one ej.1 (by omega) (by omega), if_neg (by rw [ej.2]; omega), ej.2, fo]
        have bd2 : bldF room 0 [ones p (k + 1)] = ([], [], 200) := by
          rw [bld_one em.1 (by omega) (by omega), if_pos (by rw [em.2]; omega)]
        have hl : ((encB (ones p k)).length : Int) = room := by rw [ej.2, fo]
        have iy : InB wr (.slice ya k yc) (ones p k).payload := by
          have := I.own.inB (fun x hx => by rw [List.eq_of_mem_replicate hx]; simp [IsB])
          exact this
        have gA := World.grownBy_alloc wr (.cells ((ones p k).cs (.slice e1 p.dst.length f1) (.slice e2 p.src.length f2) (.slice ya k yc)) 29) none
        have b6 := Blk.new wr ((ones p k).cs (.slice e1 p.dst.length f1) (.slice e2 p.src.length f2) (.slice ya k yc)) 29
        have hp := pks_one (q := ones p k) b6 (((unhide II).1.belowB I.bel).grown gA) (((unhide II).2.1.belowB I.bel).grown gA) (iy.grown gA) l1 l2 (by simp [ones]; omega)
        have bd := build_any room 0 _ 1 1 _ _ hp (by simp [tot, ones]; omega)
        rw [show ([⟨ones p k, .slice e1 p.dst.length f1, .slice e2 p.src.length f2, .slice ya k yc⟩] : List PV).map PV.p = [ones p k] from rfl, bd1] at bd
        obtain ⟨P1, hP1⟩ : ∃ P1, P1 = encB (ones p k) := ⟨_, rfl⟩
        rw [← hP1] at bd hl
        obtain ⟨w6, hw6⟩ : ∃ w6, w6 = wr.alloc (.cells ((ones p k).cs (.slice e1 p.dst.length f1) (.slice e2 p.src.length f2) (.slice ya k yc)) 29) := ⟨_, rfl⟩
        rw [← hw6] at bd gA
        have c0 := I.blk.cell 0 (.int .i64 p.space) rfl
        have c1' := I.blk.cell 1 (.slice e1 p.dst.length f1) rfl
        have c2' := I.blk.cell 2 (.slice e2 p.src.length f2) rfl
        have c3' := I.blk.cell 3 (.int .i64 p.number) rfl
        have c4 := I.blk.cell 4 (.int .i64 p.width) rfl
        have c5 := I.blk.cell 5 (.slice ya k yc) rfl
        rw [← unhide hG] at c0 c1' c2' c3' c4 c5
        have I7 := hide (I.grown gA)
        have BD := hide bd
        have EM := hide (And.intro bd2 em)
        have nb2 : ((P1.length : Int) != room) = false := by simpa using hl
        clear bd bd1 bd2 em ej hP1 hp b6 gA iy fe fo fw fn I
        have GG : Hid (∀ (m : Nat) (ya : Option Addr) (yc : Nat) (W W' : World), FI W3 p (.slice e1 p.dst.length f1) (.slice e2 p.src.length f2) m ya yc W → W.grownBy W' none → w.grownBy W' none) := fun m ya yc W W' h g => (fi_grown (unhide II).2.2.1 h).trans g
        go_wp2_with fail
        rw [show wr.alloc (.cells #[.int .i64 p.space, .slice e1 p.dst.length f1, .slice e2 p.src.length f2, .int .i64 p.number, .int .i64 p.width, .slice ya k yc] 29) = w6 from hw6.symm]
        replace hw6 := hide hw6
        refine (unhide BD).mono ?_
        rintro e w7 ⟨bv, sv, rfl, ob, os, g7⟩
        obtain ⟨ba, bc, rfl⟩ := ob.shape
        obtain ⟨sa, sc, rfl⟩ := os.shape
        have L2 : ([room] : List Int).length = 1 := rfl
        simp only [L2] at ob os ⊢
        obtain ⟨gs, rfl, hcs⟩ := os.cell 0 room rfl
        have I8 := (unhide I7).grown g7
        obtain ⟨ya', yc', w8, hr8, k6, t6, I9⟩ := I8.push (by omega)
        have k5 := (I8.grown (World.grownBy_alloc w7 (bts [1]) none)).blk.cell 5 (.slice ya k yc) rfl
        have k4 := I8.blk.cell 5 (.slice ya k yc) rfl
        obtain ⟨w9, hw9⟩ : ∃ w9, w9 = w8.setCell ⟨G, 5, none⟩ (.slice ya' (k + 1) yc') := ⟨_, rfl⟩
        rw [← unhide hG] at k4 k5 k6 t6 I9
        rw [← hw9] at I9
        have b9 := I9.blk
        rw [← unhide hG] at b9
        have d0 := b9.cell 0 (.int .i64 p.space) rfl
        have d1 := b9.cell 1 (.slice e1 p.dst.length f1) rfl
        have d2 := b9.cell 2 (.slice e2 p.src.length f2) rfl
        have d3 := b9.cell 3 (.int .i64 p.number) rfl
        have d4 := b9.cell 4 (.int .i64 p.width) rfl
        have d5 := b9.cell 5 (.slice ya' (k + 1) yc') rfl
        have gA := World.grownBy_alloc w9 (.cells ((ones p (k + 1)).cs (.slice e1 p.dst.length f1) (.slice e2 p.src.length f2) (.slice ya' (k + 1) yc')) 29) none
        have b6 := Blk.new w9 ((ones p (k + 1)).cs (.slice e1 p.dst.length f1) (.slice e2 p.src.length f2) (.slice ya' (k + 1) yc')) 29
        have iy : InB w9 (.slice ya' (k + 1) yc') (ones p (k + 1)).payload := by
          have := I9.own.inB (fun x hx => by rw [List.eq_of_mem_replicate hx]; simp [IsB])
          exact this
        have hp := pks_one (q := ones p (k + 1)) b6 (((unhide II).1.belowB I9.bel).grown gA) (((unhide II).2.1.belowB I9.bel).grown gA) (iy.grown gA) l1 l2 (by simp [ones]; omega)
        have bd := build_any room 0 _ 1 1 _ _ hp (by simp [tot, ones]; omega)
        rw [show ([⟨ones p (k + 1), .slice e1 p.dst.length f1, .slice e2 p.src.length f2, .slice ya' (k + 1) yc'⟩] : List PV).map PV.p = [ones p (k + 1)] from rfl, (unhide EM).1] at bd
        obtain ⟨w10, hw10⟩ : ∃ w10, w10 = w9.alloc (.cells ((ones p (k + 1)).cs (.slice e1 p.dst.length f1) (.slice e2 p.src.length f2) (.slice ya' (k + 1) yc')) 29) := ⟨_, rfl⟩
        rw [← hw10] at bd gA
        have DN : Hid (∀ W, w10.grownBy W none → w.grownBy W none) := fun W g => unhide GG _ _ _ w9 W I9 (gA.trans g)
        have BD2 := hide bd
        have HR := hide hr8
        clear bd hp iy b6 gA b9 I9 hr8 I8 os ob g7 c0 c1' c2' c3' c4 c5
        go_upto_region 20 with (at_builtin; refine Kf.wpList_append_run _ rfl _ _ 27 27 rfl (.slice ya k yc) (.slice (some ⟨w7.heap.size, 0, none⟩) 1 1) rfl rfl (unhide HR) ?_)
        rw [← hw9]
        replace hw9 := hide hw9
        clear k4 k5 k6 t6 HR
        go_wp2_with fail
        rw [show w9.alloc (.cells #[.int .i64 p.space, .slice e1 p.dst.length f1, .slice e2 p.src.length f2, .int .i64 p.number, .int .i64 p.width, .slice ya' (k + 1) yc'] 29) = w10 from hw10.symm]
        replace hw10 := hide hw10
        refine (unhide BD2).mono ?_
        rintro e w11 ⟨bv, sv, rfl, ob, os, g11⟩
        obtain ⟨ta, tc, rfl⟩ := ob.shape
        obtain ⟨ra, rc, rfl⟩ := os.shape
        have FIN := hide (unhide DN _ g11)
        simp only [List.length_nil]
        clear ob os g11 d0 d1 d2 d3 d4 d5
        go_wp2_with fail
        go_ret
        exact ⟨rfl, unhide FIN⟩
  · have bz : (E != 0) = true := by simpa using hE0
    go_wp2_with fail
    go_ret
    exact ⟨rfl, unhide DONE _ (World.grownBy.refl _ none)⟩
end Go.Proofs.Ytpcnpdippnljpaa

namespace Go.Proofs.Ytpcnpdippnljpaa
open Go.RowKit
set_option linter.unusedVariables false
set_option linter.unusedSimpArgs false
set_option maxRecDepth 100000
set_option maxHeartbeats 1000000

/-- The packets as they are laid: the last one with its padding. -/
def padL (least : Int) : List Pk → Int → List Pk
  | [], _ => []
  | p :: r, o => (if r = [] then padP p (least - o) else p) :: padL least r (o + ((encB (if r = [] then padP p (least - o) else p)).length : Int))
def lenE (q : Pk) : Int := ((encB q).length : Int)

theorem bldG_ok {least : Int} : ∀ (L : List Pk) (out sz : List Int), (bldG least L out sz).2.2 = 0 → (∀ q ∈ padL least L out.length, encE q = 0) ∧ bldG least L out sz = (out ++ (padL least L out.length).flatMap encB, sz ++ (padL least L out.length).map lenE, 0)
  | [], out, sz, _ => by simp [padL, bldG]
  | p :: r, out, sz, h => by
    obtain ⟨q, hq⟩ : ∃ q, q = (if r = [] then padP p (least - (out.length : Int)) else p) := ⟨_, rfl⟩
    have e1 : bldG least (p :: r) out sz = if encE q = 0 then bldG least r (out ++ encB q) (sz ++ [((encB q).length : Int)]) else ([], [], encE q) := by rw [hq]; rfl
    have e2 : padL least (p :: r) out.length = q :: padL least r ((out ++ encB q).length : Int) := by
      rw [List.length_append, Int.natCast_add, hq]; rfl
    rw [e1] at h ⊢
    by_cases c : encE q = 0
    · rw [if_pos c] at h ⊢
      obtain ⟨k1, k2⟩ := bldG_ok r _ _ h
      rw [e2, k2]
      refine ⟨fun x hx => ?_, ?_⟩
      · rcases List.mem_cons.1 hx with rfl | hx
        · exact c
        · exact k1 x hx
      · simp [lenE, List.append_assoc]
    · rw [if_neg c] at h
      exact absurd h c
theorem padL_len {least : Int} : ∀ (L : List Pk) (o : Int), (padL least L o).length = L.length
  | [], _ => rfl
  | p :: r, o => by simp [padL, padL_len r]
theorem padL_get {least : Int} : ∀ (L : List Pk) (o : Int) (i : Nat) (p : Pk), L[i]? = some p → (padL least L o)[i]? = some (if i + 1 = L.length then padP p (least - (o + (((padL least L o).take i).map lenE).sum)) else p)
  | [], _, _, _, h => by simp at h
  | p :: r, o, 0, x, h => by
    simp only [List.getElem?_cons_zero, Option.some.injEq] at h
    subst h
    simp only [padL, List.getElem?_cons_zero, List.take_zero, List.map_nil, List.sum_nil, Int.add_zero, Option.some.injEq, List.length_cons]
    by_cases c : r = []
    · subst c; simp
    · rw [if_neg c, if_neg]
      intro e
      exact c (List.length_eq_zero_iff.1 (by omega))
  | p :: r, o, i + 1, x, h => by
    simp only [List.getElem?_cons_succ] at h
    have ih := padL_get (least := least) r (o + ((encB (if r = [] then padP p (least - o) else p)).length : Int)) i x h
    simp only [padL, List.getElem?_cons_succ, List.length_cons, List.take_succ_cons, List.map_cons, List.sum_cons]
    rw [ih]
    have e : o + ((encB (if r = [] then padP p (least - o) else p)).length : Int) + (((padL least r (o + ((encB (if r = [] then padP p (least - o) else p)).length : Int))).take i).map lenE).sum = o + (lenE (if r = [] then padP p (least - o) else p) + (((padL least r (o + ((encB (if r = [] then padP p (least - o) else p)).length : Int))).take i).map lenE).sum) := by
      unfold lenE; omega
    rw [e]
    simp only [Nat.add_right_cancel_iff]

/-- What padding leaves of a packet that may be encoded. -/
theorem padP_enc {p : Pk} {n : Int} (h : encE (padP p n) = 0) : encE p = 0 ∧ lenE (padP p n) = max (lenE p) n := by
  have key : encE p = 0 := by
    unfold padP at h
    split at h
    · exact h
    · rename_i hc
      unfold encE at h ⊢
      have k1 : badK ({ p with payload := p.payload ++ List.replicate (n - (ovF p).1 - p.payload.length).toNat 0 } : Pk) ↔ badK p := Iff.rfl
      have k2 : badF ({ p with payload := p.payload ++ List.replicate (n - (ovF p).1 - p.payload.length).toNat 0 } : Pk) ↔ badF p := Iff.rfl
      split at h
      · cases h
      · split at h
        · cases h
        · split at h
          · cases h
          · rename_i h1 h2 h3
            rw [if_neg (fun q => h1 (k1.2 q)), if_neg (fun q => h2 (k2.2 q)), if_neg]
            rintro (q | q | ⟨q1, q2⟩)
            · exact h3 (.inl q)
            · exact h3 (.inr (.inl q))
            · refine h3 (.inr (.inr ⟨q1, ?_⟩))
              simp only [List.length_append, List.length_replicate]
              omega
  refine ⟨key, ?_⟩
  have g0 := enc_good key
  have g1 := enc_good h
  have l0 : lenE p = overP p + p.payload.length := by unfold lenE encB; rw [if_pos key, bytesP_len _ g0]
  have l1 : lenE (padP p n) = overP (padP p n) + (padP p n).payload.length := by unfold lenE encB; rw [if_pos h, bytesP_len _ g1]
  have ho := ov_good g0
  have h1 : (ovF p).1 = overP p := by rw [ho]
  rw [l0, l1]
  unfold padP
  rw [h1]
  split
  · omega
  · rename_i hc
    have e : overP ({ p with payload := p.payload ++ List.replicate (n - overP p - p.payload.length).toNat 0 } : Pk) = overP p := rfl
    rw [e]
    simp only [List.length_append, List.length_replicate]
    omega

/-- Split reads them again. -/
theorem split_found (n : Int) (G : Lg) (hG : okG G) (hn : 0 ≤ n ∧ n ≤ 20) : ∀ (qs : List Pk) (la : List Int) (f : Nat), qs.length ≤ f → (∀ q ∈ qs, Good q) → (∀ (i : Nat) (q : Pk), qs[i]? = some q → q.space = 2 → i + 1 = qs.length ∧ (q.dst.length : Int) = n) →
    splF (la ++ qs.flatMap bytesP) n G f la.length = (qs.map (fun q => foundP q G), la.length + (qs.flatMap bytesP).length)
  | [], la, f, _, _, _ => by
    rw [splF_end]
    · simp
    · simp
  | q :: qs, la, f, hf, hg, h2 => by
    obtain ⟨f, rfl⟩ : ∃ f', f = f' + 1 := ⟨f - 1, by simp at hf; omega⟩
    have gq := hg q (by simp)
    have hp := Rw.bytesP_pos q gq
    have e := dec_enc la (qs.flatMap bytesP) q gq G hG n hn (fun c => by
      have := h2 0 q rfl c
      refine ⟨this.2, ?_⟩
      have hl : qs = [] := List.length_eq_zero_iff.1 (by have h1 := this.1; rw [List.length_cons] at h1; omega)
      rw [hl]; rfl)
    have el : la ++ (q :: qs).flatMap bytesP = la ++ bytesP q ++ qs.flatMap bytesP := by simp [List.append_assoc]
    have ih := split_found n G hG hn qs (la ++ bytesP q) f (by simp at hf; omega) (fun x hx => hg x (by simp [hx])) (fun i x hx c => by
      have := h2 (i + 1) x hx c
      have h1 := this.1
      rw [List.length_cons] at h1
      exact ⟨by omega, this.2⟩)
    rw [List.length_append] at ih
    rw [el, splF_step (by simp; omega) e, ih]
    simp only [List.map_cons, List.flatMap_cons, List.length_append, Prod.mk.injEq, true_and]
    omega
end Go.Proofs.Ytpcnpdippnljpaa

namespace Go.Proofs.Ytpcnpdippnljpaa
open Go.RowKit
set_option linter.unusedVariables false
set_option linter.unusedSimpArgs false
set_option maxRecDepth 100000
set_option maxHeartbeats 2000000

/-- Numbers that are read. -/
def RdI (w : World) (a : Option Addr) (xs : List Int) : Prop := ∀ (j : Nat) (x : Int), xs[j]? = some x → ∃ g off, a = some ⟨g, off, none⟩ ∧ w.cell? ⟨g, off + j, none⟩ = some (.int .i64 x)
theorem OwnI.rd {base : Nat} {w : World} {a : Option Addr} {n c : Nat} {xs : List Int} (h : OwnI base w (.slice a n c) xs) : RdI w a xs := fun j x hj => by
  obtain ⟨g, e, hc⟩ := h.cell j x hj
  exact ⟨g, 0, e, by rw [Nat.zero_add]; exact hc⟩
theorem RdI.grown {w W : World} {a : Option Addr} {xs : List Int} (h : RdI w a xs) (g : w.grownBy W none) : RdI W a xs := fun j x hj => by
  obtain ⟨b, off, e, hc⟩ := h j x hj
  exact ⟨b, off, e, cell_grown hc g⟩
theorem sameSizes_any (a b : Option Addr) (n c d : Nat) (xs : List Int) (w : World) (hn : xs.length = n) (hl : n ≤ 9223372036854775807) (h1 : RdI w a xs) (h2 : RdI w b xs) :
    Calls Try.prog 12 #[.slice a n c, .slice b n d] w fun e w' => e = .returned (.bool true) ∧ w.grownBy w' none := by
  have nI : ¬ (9223372036854775807 : Int) < (n : Int) := by omega
  have H := hide (And.intro hn (And.intro h1 h2))
  clear hn h1 h2
  go_enter Try.func12, Try.ntmps12
  go_wp2_with fail
  go_loopw [5] (fun iv wr => ∃ k : Nat, k ≤ n ∧ iv = .int .i64 k ∧ Hid (w.grownBy wr none)) (fun iv _ => n - (intOf iv).toNat)
  case atStart => exact ⟨0, Nat.zero_le _, rfl, World.grownBy.refl _ none⟩
  case round =>
    obtain ⟨k, hk, rfl, I⟩ := hrel
    by_cases hlt : k < n
    · have hkI : (k : Int) < (n : Int) := by omega
      have hk0 : (0 : Int) ≤ (k : Int) := by omega
      obtain ⟨x, hx⟩ : ∃ x, xs[k]? = some x := ⟨_, List.getElem?_eq_getElem (by rw [(unhide H).1]; exact hlt)⟩
      obtain ⟨g1, o1, rfl, e1⟩ := ((unhide H).2.1.grown (unhide I)) k x hx
      obtain ⟨g2, o2, rfl, e2⟩ := ((unhide H).2.2.grown (unhide I)) k x hx
      have J := hide (grown_drew' (unhide I))
      have xx : (x != x) = false := by simp
      have MS := hide (show n - (k + 1) < n - k by omega)
      go_upto_region 6 with fail
      go_region
      all_goals go_wp2_with fail
      all_goals exact ⟨⟨k + 1, hlt, by go_num, by first | exact unhide J | exact unhide I⟩, by simp [intOf]; omega⟩
    · obtain rfl : k = n := by omega
      have hkI : ¬ (k : Int) < (k : Int) := by omega
      go_wp2_with fail
      go_ret
      exact ⟨rfl, unhide I⟩
/-- What is refused is refused with its padding, for the same reason. -/
theorem padP_bad {p : Pk} {n : Int} (h : encE p ≠ 0) : encE (padP p n) = encE p := by
  unfold padP
  split
  · rfl
  · rename_i hc
    have k1 : badK ({ p with payload := p.payload ++ List.replicate (n - (ovF p).1 - p.payload.length).toNat 0 } : Pk) ↔ badK p := Iff.rfl
    have k2 : badF ({ p with payload := p.payload ++ List.replicate (n - (ovF p).1 - p.payload.length).toNat 0 } : Pk) ↔ badF p := Iff.rfl
    unfold encE at h ⊢
    by_cases c1 : badK p
    · rw [if_pos c1, if_pos (k1.2 c1)]
    · rw [if_neg c1] at h ⊢
      rw [if_neg (fun q => c1 (k1.1 q))]
      by_cases c2 : badF p
      · rw [if_pos c2, if_pos (k2.2 c2)]
      · rw [if_neg c2] at h ⊢
        rw [if_neg (fun q => c2 (k2.1 q))]
        split at h
        · rename_i c3
          rw [if_pos c3, if_pos]
          rcases c3 with q | q | ⟨q1, q2⟩
          · exact .inl q
          · exact .inr (.inl q)
          · refine .inr (.inr ⟨q1, ?_⟩)
            simp only [List.length_append, List.length_replicate]
            omega
        · exact absurd rfl h
/-- What is taken is padded as the document says: behind its bytes' number. -/
theorem padP_doc {p : Pk} {least o : Int} (h : encE p = 0) : padP p (least - o) = { p with payload := p.payload ++ List.replicate (least - (o + lenE p)).toNat 0 } := by
  have g0 := enc_good h
  have l0 : lenE p = overP p + p.payload.length := by unfold lenE encB; rw [if_pos h, bytesP_len _ g0]
  have h1 : (ovF p).1 = overP p := by rw [ov_good g0]
  unfold padP
  rw [h1, l0]
  split
  · rename_i c
    rw [show (least - (o + (overP p + p.payload.length))).toNat = 0 by omega]
    simp
  · rw [show (least - o - overP p - (p.payload.length : Int)) = least - (o + (overP p + p.payload.length)) by omega]
end Go.Proofs.Ytpcnpdippnljpaa

namespace Go.Proofs.Ytpcnpdippnljpaa
open Go.RowKit
set_option linter.unusedVariables false
set_option linter.unusedSimpArgs false
set_option maxRecDepth 100000
set_option maxHeartbeats 4000000

theorem rbuild_bad (room least : Int) (a : Option Addr) (n cap : Nat) (w : World) (L : List Pk) (hb : room < 0 ∨ 65535 < room ∨ least < 0 ∨ room < least) :
    Calls Try.prog 9 #[.int .i64 room, .int .i64 least, .slice a n cap] w (BldPost w (bldF room least L)) := by
  have e : bldF room least L = ([], [], 1) := by
    unfold bldF
    rw [if_pos]
    rcases hb with h | h | h | h
    · exact .inl h
    · exact .inr (.inl h)
    · exact .inr (.inr (.inl h))
    · exact .inr (.inr (.inr (.inl h)))
  rw [e]
  clear e
  have key : (room < 0) ∨ (¬ room < 0 ∧ 65535 < room) ∨ (¬ room < 0 ∧ ¬ 65535 < room ∧ least < 0) ∨ (¬ room < 0 ∧ ¬ 65535 < room ∧ ¬ least < 0 ∧ room < least) := by omega
  clear hb
  rcases key with k | ⟨k1, k⟩ | ⟨k1, k2, k⟩ | ⟨k1, k2, k3, k⟩
  all_goals
    go_enter Try.func9, Try.ntmps9
    go_wp2_with fail
    go_ret3
    exact BldPost.none _ _ 1 (World.grownBy.refl _ none)

/-- Bytes of one's own lie in no packet's block. -/
theorem own_pk {base B : Nat} {w : World} {v : Value} {l : List Int} {cs : Array Value} (h : OwnB base w v l) (hb : Blk w B cs 29) : ∀ x, v.ownBlock = some x → x ≠ B := fun x ex => by
  rcases h.2 with ⟨q, -⟩ | ⟨g, cap, cur, q, -, hh, -⟩
  · rw [q] at ex; cases ex
  · rw [q] at ex
    injection ex with ex
    have e2 : g = x := ex
    intro e3
    have hb2 : w.heap[g]? = some (.cells cs 29) := by rw [e2, e3]; exact hb
    rw [hh] at hb2
    simp at hb2
/-- While the last one's payload grows. -/
structure FZ (wo : World) (B : Nat) (p : Pk) (d s : Value) (m : Nat) (ya : Option Addr) (yc : Nat) (wr : World) : Prop where
  blk : Blk wr B (p.cs d s (.slice ya (p.payload.length + m) yc)) 29
  own : OwnB wo.heap.size wr (.slice ya (p.payload.length + m) yc) (p.payload ++ List.replicate m 0)
  gr : wo.grownBy wr none
  lo : wo.heap.size ≤ B
theorem FZ.grown {wo wr wr' : World} {B : Nat} {p : Pk} {d s : Value} {m : Nat} {ya : Option Addr} {yc : Nat} (h : FZ wo B p d s m ya yc wr) (g : wr.grownBy wr' none) : FZ wo B p d s m ya yc wr' :=
  ⟨h.blk.grown g, h.own.kept (fun x e => g.block x (h.own.ltb x e).2 (by simp)), h.gr.trans g, h.lo⟩
/-- A byte 0 more. -/
theorem FZ.push {wo wr : World} {B : Nat} {p : Pk} {d s : Value} {m : Nat} {ya : Option Addr} {yc : Nat} (h : FZ wo B p d s m ya yc wr) (hm : p.payload.length + m ≤ 100000000) :
    ∃ ya' yc' w', (Builtin.append_ #[27, 27] 27 #[.slice ya (p.payload.length + m) yc, .slice (some ⟨wr.heap.size, 0, none⟩) 1 1]).run Try.prog (wr.alloc (bts [0])) = .ok (.slice ya' (p.payload.length + (m + 1)) yc') w' ∧ w'.cell? ⟨B, 5, none⟩ = some (.slice ya (p.payload.length + m) yc) ∧ (∀ j, w'.frozen? ⟨B, j, none⟩ = false) ∧ FZ wo B p d s (m + 1) ya' yc' (w'.setCell ⟨B, 5, none⟩ (.slice ya' (p.payload.length + (m + 1)) yc')) := by
  have gA := World.grownBy_alloc wr (bts [0]) none
  have hA := h.grown gA
  have i1 : InB (wr.alloc (bts [0])) (.slice (some ⟨wr.heap.size, 0, none⟩) 1 1) [0] := InB.at rfl rfl (small_le (by simp)) (by simp [IsB])
  obtain ⟨v', w', hr, ho, hg⟩ := app_rd (wr.alloc (bts [0])) wo.heap.size 27 _ _ hA.own _ [0] i1 (by simp; omega) hA.gr.size
  have e : p.payload ++ List.replicate m (0 : Int) ++ [0] = p.payload ++ List.replicate (m + 1) 0 := by rw [List.append_assoc, ← List.replicate_succ']
  rw [e] at ho
  obtain ⟨ya', yc', rfl⟩ := ho.shape
  have el : (p.payload ++ List.replicate (m + 1) (0 : Int)).length = p.payload.length + (m + 1) := by simp
  rw [el] at hr ho
  have bne := own_pk hA.own hA.blk
  have bW : Blk w' B (p.cs d s (.slice ya (p.payload.length + m) yc)) 29 := (hg.block _ hA.blk.lt (fun q => bne _ q.symm rfl)).trans hA.blk
  have g2 := grown_own hA.gr hg (fun g q => (hA.own.ltb g q).1)
  have gg := grown_at (World.grownBy.refl w' (some B)) 5 (.slice ya' (p.payload.length + (m + 1)) yc')
  exact ⟨ya', yc', w', hr, bW.cell 5 _ rfl, bW.thaws, bW.setC 5 _, ho.kept (fun x ex => gg.block x (ho.ltb x ex).2 (fun q => own_pk ho bW x ex (Option.some.inj q))), grown_own g2 gg (fun g q => by cases q; exact h.lo), h.lo⟩
end Go.Proofs.Ytpcnpdippnljpaa

namespace Go.Proofs.Ytpcnpdippnljpaa
open Go.RowKit
set_option linter.unusedVariables false
set_option maxRecDepth 100000
set_option maxHeartbeats 2000000

def CopPostS (w : World) (p : Pk) (e : Ending) (w' : World) : Prop :=
  ∃ a1 c1 a2 c2 a3 c3, e = .returned (p.val (.slice a1 p.dst.length c1) (.slice a2 p.src.length c2) (.slice a3 p.payload.length c3)) ∧ OwnB w.heap.size w' (.slice a1 p.dst.length c1) p.dst ∧ OwnB w.heap.size w' (.slice a2 p.src.length c2) p.src ∧ OwnB w.heap.size w' (.slice a3 p.payload.length c3) p.payload ∧ w.grownBy w' none ∧ ∀ x, (Value.slice a3 p.payload.length c3).ownBlock = some x → (Value.slice a1 p.dst.length c1).ownBlock ≠ some x ∧ (Value.slice a2 p.src.length c2).ownBlock ≠ some x

theorem copied05_sep (p : Pk) (d s y : Value) (w : World) (hd : InB w d p.dst) (hs : InB w s p.src) (hy : InB w y p.payload) (l1 : p.dst.length ≤ 140737488351232) (l2 : p.src.length ≤ 140737488351232) (l3 : p.payload.length ≤ 140737488351232) :
    Calls Try.prog 17 #[p.val d s y] w (CopPostS w p) := by
  obtain ⟨a1, c1, rfl, -⟩ := id hd
  obtain ⟨a2, c2, rfl, -⟩ := id hs
  obtain ⟨a3, c3, rfl, -⟩ := id hy
  have S0 := C3.start w (p.cs (.slice a1 p.dst.length c1) (.slice a2 p.src.length c2) (.slice a3 p.payload.length c3))
  go_enter Try.func17, Try.ntmps17
  go_wp2_with fail
  have hB : w.heap.size + 1 + 1 < (((w.alloc (.cells (p.cs (.slice a1 p.dst.length c1) (.slice a2 p.src.length c2) (.slice a3 p.payload.length c3)) 29)).alloc (.cells (pcs 0 nilV nilV 0 0 nilV) 29)).alloc (.cells (p.cs (.slice a1 p.dst.length c1) (.slice a2 p.src.length c2) (.slice a3 p.payload.length c3)) 29)).heap.size := S0.bq.lt
  generalize (((w.alloc (.cells (p.cs (.slice a1 p.dst.length c1) (.slice a2 p.src.length c2) (.slice a3 p.payload.length c3)) 29)).alloc (.cells (pcs 0 nilV nilV 0 0 nilV) 29)).alloc (.cells (p.cs (.slice a1 p.dst.length c1) (.slice a2 p.src.length c2) (.slice a3 p.payload.length c3)) 29)) = W0 at *
  refine (copied_sh a1 c1 p.dst W0 (hd.grown S0.gr) (by omega)).mono ?_
  rintro e W1 ⟨e1, f1, rfl, o1, g1⟩
  have S1 := S0.step g1 1 (.slice e1 p.dst.length f1)
  have gs1 := grown_at (World.grownBy.refl W1 (some (w.heap.size + 1 + 1))) 1 (.slice e1 p.dst.length f1)
  have o1 := o1.far gs1 (fun q e => by cases e; omega)
  have k1 := (S0.bq.grown g1).cell 1 _ rfl
  have t1 := (S0.bq.grown g1).thaws
  have x2 := S1.b0.cell 2 (.slice a2 p.src.length c2) rfl
  have hB1 : w.heap.size + 1 + 1 < (W1.setCell ⟨w.heap.size + 1 + 1, 1, none⟩ (.slice e1 p.dst.length f1)).heap.size := S1.bq.lt
  have HS0 := S0.gr.size
  have hB01 : W0.heap.size ≤ (W1.setCell ⟨w.heap.size + 1 + 1, 1, none⟩ (.slice e1 p.dst.length f1)).heap.size := Nat.le_trans g1.size gs1.size
  clear gs1
  go_wp2_with fail
  generalize W1.setCell ⟨w.heap.size + 1 + 1, 1, none⟩ (.slice e1 p.dst.length f1) = V1 at *
  refine (copied_sh a2 c2 p.src V1 (hs.grown S1.gr) (by omega)).mono ?_
  rintro e W2 ⟨e2, f2, rfl, o2, g2⟩
  have S2 := S1.step g2 2 (.slice e2 p.src.length f2)
  have gs2 := grown_at (World.grownBy.refl W2 (some (w.heap.size + 1 + 1))) 2 (.slice e2 p.src.length f2)
  have o2 := o2.far gs2 (fun q e => by cases e; omega)
  have o1 := (o1.far g2 (fun q e => by cases e)).far gs2 (fun q e => by cases e; omega)
  have k2 := (S1.bq.grown g2).cell 2 (.slice a2 p.src.length c2) rfl
  have t2 := (S1.bq.grown g2).thaws
  have x5 := S2.b0.cell 5 (.slice a3 p.payload.length c3) rfl
  have hB2 : w.heap.size + 1 + 1 < (W2.setCell ⟨w.heap.size + 1 + 1, 2, none⟩ (.slice e2 p.src.length f2)).heap.size := S2.bq.lt
  have hB12 : V1.heap.size ≤ (W2.setCell ⟨w.heap.size + 1 + 1, 2, none⟩ (.slice e2 p.src.length f2)).heap.size := Nat.le_trans g2.size gs2.size
  clear gs2 k1 t1 x2
  go_wp2_with fail
  generalize W2.setCell ⟨w.heap.size + 1 + 1, 2, none⟩ (.slice e2 p.src.length f2) = V2 at *
  have LT := hide (And.intro (fun x e => (o1.ltb x e).2) (fun x e => (o2.ltb x e).2))
  refine (copied_sh a3 c3 p.payload V2 (hy.grown S2.gr) (by omega)).mono ?_
  rintro e W3 ⟨e3, f3, rfl, o3, g3⟩
  have SEP : Hid (∀ x, (Value.slice e3 p.payload.length f3).ownBlock = some x → (Value.slice e1 p.dst.length f1).ownBlock ≠ some x ∧ (Value.slice e2 p.src.length f2).ownBlock ≠ some x) := fun x ex => ⟨fun h => by
    have h1 := (unhide LT).1 x h
    have h2 := (o3.ltb x ex).1
    omega, fun h => by
    have h1 := (unhide LT).2 x h
    have h2 := (o3.ltb x ex).1
    omega⟩
  have S3 := S2.step g3 5 (.slice e3 p.payload.length f3)
  have gs3 := grown_at (World.grownBy.refl W3 (some (w.heap.size + 1 + 1))) 5 (.slice e3 p.payload.length f3)
  have o3 := o3.far gs3 (fun q e => by cases e; omega)
  have o2 := (o2.far g3 (fun q e => by cases e)).far gs3 (fun q e => by cases e; omega)
  have o1 := (o1.far g3 (fun q e => by cases e)).far gs3 (fun q e => by cases e; omega)
  have k5 := (S2.bq.grown g3).cell 5 (.slice a3 p.payload.length c3) rfl
  have t5 := (S2.bq.grown g3).thaws
  clear gs3 k2 t2 x5
  have GG := hide S3.gr
  have r0 := S3.bq.cell 0 (.int .i64 p.space) rfl
  have r1 := S3.bq.cell 1 (.slice e1 p.dst.length f1) rfl
  have r2 := S3.bq.cell 2 (.slice e2 p.src.length f2) rfl
  have r3 := S3.bq.cell 3 (.int .i64 p.number) rfl
  have r4 := S3.bq.cell 4 (.int .i64 p.width) rfl
  have r5 := S3.bq.cell 5 (.slice e3 p.payload.length f3) rfl
  have z0 := S3.bR.cell 0 (.int .i64 0) rfl
  have z1 := S3.bR.cell 1 nilV rfl
  have z2 := S3.bR.cell 2 nilV rfl
  have z3 := S3.bR.cell 3 (.int .i64 0) rfl
  have z4 := S3.bR.cell 4 (.int .i64 0) rfl
  have z5 := S3.bR.cell 5 nilV rfl
  have tR := S3.bR.thaws
  have BR := hide (S3.bR.set6 (v0 := .int .i64 p.space) (v1 := .slice e1 p.dst.length f1) (v2 := .slice e2 p.src.length f2) (v3 := .int .i64 p.number) (v4 := .int .i64 p.width) (v5 := .slice e3 p.payload.length f3))
  have gg := grown_at (grown_at (grown_at (grown_at (grown_at (grown_at (World.grownBy.refl (W3.setCell ⟨w.heap.size + 1 + 1, 5, none⟩ (.slice e3 p.payload.length f3)) (some (w.heap.size + 1))) 0 (.int .i64 p.space)) 1 (.slice e1 p.dst.length f1)) 2 (.slice e2 p.src.length f2)) 3 (.int .i64 p.number)) 4 (.int .i64 p.width)) 5 (.slice e3 p.payload.length f3)
  have ho : ∀ B, W0.heap.size ≤ B → ∀ q, some (w.heap.size + 1) = some q → q < B := fun B hB q e => by cases e; omega
  have F := hide (And.intro ((o1.far gg (ho _ (Nat.le_refl _))).mono (base' := w.heap.size) HS0) (And.intro ((o2.far gg (ho _ hB01)).mono (base' := w.heap.size) (by omega)) (And.intro ((o3.far gg (ho _ (by omega))).mono (base' := w.heap.size) (by omega)) (grown_over S3.gr gg (Nat.le_succ _)))))
  clear gg ho o1 o2 o3 S0 S1 S2 S3 g1 g2 g3 hd hs hy
  go_wp2_with fail
  refine bodyPost_ret (results_cell_row rfl _ _ (w.heap.size + 1) 29 _ (0, 0) _ rfl (unhide BR) Try.underlying29 rfl Try.sizeP) rfl ?_
  exact ⟨_, _, _, _, _, _, rfl, (unhide F).1, (unhide F).2.1, (unhide F).2.2.1, (unhide F).2.2.2, unhide SEP⟩
end Go.Proofs.Ytpcnpdippnljpaa

namespace Go.Proofs.Ytpcnpdippnljpaa
open Go.RowKit
set_option linter.unusedVariables false
set_option linter.unusedSimpArgs false
set_option maxRecDepth 100000
set_option maxHeartbeats 4000000

/-- One byte 0 more; where the row lies then. -/
theorem app_zero1 (w : World) (base : Nat) (v : Value) (d : List Int) (h : OwnB base w v d) (hl : d.length ≤ 100000000) (hbase : base ≤ w.heap.size) :
    ∃ a' c' w', (Builtin.append_ #[27, 27] 27 #[v, .slice (some ⟨w.heap.size, 0, none⟩) 1 1]).run Try.prog (w.alloc (bts [0])) = .ok (.slice a' (d.length + 1) c') w' ∧ OwnB base w' (.slice a' (d.length + 1) c') (d ++ [0]) ∧ (w.alloc (bts [0])).grownBy w' v.ownBlock ∧ ((Value.slice a' (d.length + 1) c').ownBlock = v.ownBlock ∨ ∀ x, (Value.slice a' (d.length + 1) c').ownBlock = some x → w.heap.size ≤ x) := by
  obtain ⟨i, hi, hz0, hz1, hz2⟩ := info_parts Try.info5
  have gA := World.grownBy_alloc w (bts [0]) none
  have hA : OwnB base (w.alloc (bts [0])) v d := h.kept (fun x e => gA.block x (h.ltb x e).2 (by simp))
  have hb : Blk (w.alloc (bts [0])) w.heap.size #[.int .u8 0] 5 := Blk.new w #[.int .u8 0] 5
  obtain ⟨v', w', hrun, ho, hgr, hnil, hob⟩ := run_append_own_at (P := Try.prog) (w.alloc (bts [0])) base 27 27 5 i (.int .u8 0) 1 1 Try.underlying27 hi hz0 hz1 hz2 rfl (by decide) v d.length _ hA ⟨w.heap.size, 0, none⟩ 1 1 [.int .u8 0] rfl (fun j u hj => by
      rw [Addr.add_lit, Nat.zero_add]
      exact hb.cell j u (by simpa using hj)) (by intro u hu; simp at hu; subst hu; rfl) (by unfold maxLen; omega) (by omega) (Nat.le_trans hbase gA.size)
  have hir : OwnB base w' v' (d ++ [0]) := by
    unfold OwnB
    simpa using ho
  obtain ⟨a', c', hv⟩ := hir.shape
  rw [List.length_append, List.length_singleton] at hv
  subst hv
  refine ⟨a', c', w', hrun, hir, hgr, hob.imp id fun e x ex => ?_⟩
  rw [e] at ex
  injection ex with ex
  have := gA.size
  omega
/-- While the last one's payload grows, its ids as they are. -/
structure FY (wo : World) (B : Nat) (p : Pk) (d s : Value) (m : Nat) (ya : Option Addr) (yc : Nat) (wr : World) : Prop where
  fz : FZ wo B p d s m ya yc wr
  o1 : OwnB wo.heap.size wr d p.dst
  o2 : OwnB wo.heap.size wr s p.src
  sp : ∀ x, (Value.slice ya (p.payload.length + m) yc).ownBlock = some x → d.ownBlock ≠ some x ∧ s.ownBlock ≠ some x
section
variable {wo wr wr' : World} {B : Nat} {p : Pk} {d s : Value} {m : Nat} {ya : Option Addr} {yc : Nat}
theorem FY.grown (h : FY wo B p d s m ya yc wr) (g : wr.grownBy wr' none) : FY wo B p d s m ya yc wr' :=
  ⟨h.fz.grown g, h.o1.kept (fun x e => g.block x (h.o1.ltb x e).2 (by simp)), h.o2.kept (fun x e => g.block x (h.o2.ltb x e).2 (by simp)), h.sp⟩
/-- A byte 0 more. -/
theorem FY.push (h : FY wo B p d s m ya yc wr) (hm : p.payload.length + m ≤ 100000000) :
    ∃ ya' yc' w', (Builtin.append_ #[27, 27] 27 #[.slice ya (p.payload.length + m) yc, .slice (some ⟨wr.heap.size, 0, none⟩) 1 1]).run Try.prog (wr.alloc (bts [0])) = .ok (.slice ya' (p.payload.length + (m + 1)) yc') w' ∧ w'.cell? ⟨B, 5, none⟩ = some (.slice ya (p.payload.length + m) yc) ∧ (∀ j, w'.frozen? ⟨B, j, none⟩ = false) ∧ FY wo B p d s (m + 1) ya' yc' (w'.setCell ⟨B, 5, none⟩ (.slice ya' (p.payload.length + (m + 1)) yc')) := by
  have gA := World.grownBy_alloc wr (bts [0]) none
  have hA := h.grown gA
  have hl : (p.payload ++ List.replicate m (0 : Int)).length = p.payload.length + m := by simp
  obtain ⟨ya', yc', w', hr, ho, hg, hob⟩ := app_zero1 wr wo.heap.size _ _ h.fz.own (by rw [hl]; exact hm) h.fz.gr.size
  have e : p.payload ++ List.replicate m (0 : Int) ++ [0] = p.payload ++ List.replicate (m + 1) 0 := by rw [List.append_assoc, ← List.replicate_succ']
  rw [hl, Nat.add_assoc] at hr
  rw [e, hl, Nat.add_assoc] at ho
  rw [hl, Nat.add_assoc] at hob
  have bne := own_pk hA.fz.own hA.fz.blk
  have n1 : ∀ x, d.ownBlock = some x → some x ≠ (Value.slice ya (p.payload.length + m) yc).ownBlock := fun x e q => (h.sp x q.symm).1 e
  have n2 : ∀ x, s.ownBlock = some x → some x ≠ (Value.slice ya (p.payload.length + m) yc).ownBlock := fun x e q => (h.sp x q.symm).2 e
  have bW : Blk w' B (p.cs d s (.slice ya (p.payload.length + m) yc)) 29 := (hg.block _ hA.fz.blk.lt (fun q => bne _ q.symm rfl)).trans hA.fz.blk
  have o1 := hA.o1.kept (fun x e => hg.block x (hA.o1.ltb x e).2 (n1 x e))
  have o2 := hA.o2.kept (fun x e => hg.block x (hA.o2.ltb x e).2 (n2 x e))
  have g2 := grown_own hA.fz.gr hg (fun g q => (hA.fz.own.ltb g q).1)
  have gg := grown_at (World.grownBy.refl w' (some B)) 5 (.slice ya' (p.payload.length + (m + 1)) yc')
  have ob : ∀ {v : Value} {l : List Int}, OwnB wo.heap.size w' v l → ∀ x, v.ownBlock = some x → (w'.setCell ⟨B, 5, none⟩ (.slice ya' (p.payload.length + (m + 1)) yc')).heap[x]? = w'.heap[x]? := fun ho x ex => gg.block x (ho.ltb x ex).2 (fun q => own_pk ho bW x ex (Option.some.inj q))
  refine ⟨ya', yc', w', hr, bW.cell 5 _ rfl, bW.thaws, ⟨bW.setC 5 _, ho.kept (ob ho), grown_own g2 gg (fun g q => by cases q; exact h.fz.lo), h.fz.lo⟩, o1.kept (ob o1), o2.kept (ob o2), fun x ex => ?_⟩
  rcases hob with q | q
  · exact h.sp x (by rw [← q]; exact ex)
  · have hx := q x ex
    exact ⟨fun q2 => by have := (h.o1.ltb x q2).2; omega, fun q2 => by have := (h.o2.ltb x q2).2; omega⟩
end
end Go.Proofs.Ytpcnpdippnljpaa

namespace Go.Proofs.Ytpcnpdippnljpaa
open Go.RowKit
set_option linter.unusedVariables false
set_option linter.unusedSimpArgs false
set_option maxRecDepth 100000
set_option maxHeartbeats 4000000

theorem rbuild_any (room least : Int) (a : Option Addr) (n cap : Nat) (xs : List PV) (w : World) (h : IsPks w a n cap xs) (ht : tot xs ≤ 70000000) :
    Calls Try.prog 9 #[.int .i64 room, .int .i64 least, .slice a n cap] w (BldPost w (bldF room least (xs.map PV.p))) := by
  by_cases hb : room < 0 ∨ 65535 < room ∨ least < 0 ∨ room < least
  · exact rbuild_bad room least a n cap w _ hb
  · have k1 : ¬ room < 0 := by omega
    have k2 : ¬ 65535 < room := by omega
    have k3 : ¬ least < 0 := by omega
    have k4 : ¬ room < least := by omega
    obtain ⟨L, hL⟩ : ∃ L, L = xs.map PV.p := ⟨_, rfl⟩
    have lsm := len_small ht
    have hn := h.hlen
    have hLn : L.length = n := by rw [hL, List.length_map]; exact hn
    have HH := hide (And.intro h (And.intro ht (And.intro hL lsm)))
    have HC := hide h.cell
    rw [← hL]
    have lenI : ¬ (9223372036854775807 : Int) < (n : Int) := by have := h.hcap; omega
    obtain ⟨T, hT⟩ : ∃ T, T = bldF room least L := ⟨_, rfl⟩
    rw [← hT]
    have HT := hide hT
    have HB := hide hb
    have HLn := hide hLn
    clear h ht hL hT hb hLn
    go_enter Try.func9, Try.ntmps9
    go_wp2_with fail
    go_loopw [9] (fun iv wr => ∃ k : Nat, 1 ≤ k ∧ (k ≤ n ∨ k = 1) ∧ iv = .int .i64 k ∧ Hid (upTo L k ∧ w.grownBy wr none)) (fun iv _ => n - (intOf iv).toNat)
    case atStart => exact ⟨1, Nat.le_refl _, .inr rfl, rfl, fun i p q h => by omega, World.grownBy.refl w none⟩
    case round =>
      obtain ⟨k, hk1, hk, rfl, I⟩ := hrel
      by_cases hlt : k < n
      · have hkI : (k : Int) < (n : Int) := by omega
        obtain ⟨up, gr⟩ := unhide I
        obtain ⟨b, off, rfl, hcell⟩ := (unhide HC).resolve_left (by omega)
        obtain ⟨j, rfl⟩ : ∃ j, k = j + 1 := ⟨k - 1, by omega⟩
        obtain ⟨x, hx⟩ : ∃ x, xs[j + 1]? = some x := ⟨_, List.getElem?_eq_getElem (by rw [hn]; exact hlt)⟩
        obtain ⟨y, hy⟩ : ∃ y, xs[j]? = some y := ⟨_, List.getElem?_eq_getElem (by rw [hn]; omega)⟩
        have hk0 : (0 : Int) ≤ ((j + 1 : Nat) : Int) := by omega
        have c0 := cell_grown (hcell (j + 1) x hx 0 (by omega)) gr
        have c1 := cell_grown (hcell j y hy 0 (by omega)) gr
        rw [Nat.add_zero] at c0 c1
        have wj : IntKind.i64.wrap (((j + 1 : Nat) : Int) - 1) = (j : Int) := by rw [IntKind.wrap_i64]; omega
        have j0 : (0 : Int) ≤ (j : Int) := by omega
        have jI : (j : Int) < (n : Int) := by omega
        have eL : ∀ (i : Nat) (z : PV), xs[i]? = some z → L[i]? = some z.p := fun i z hz => by rw [(unhide HH).2.2.1, List.getElem?_map, hz]; rfl
        by_cases hsp : x.p.space ≤ y.p.space
        · have e : T = ([], [], 1) := by
            have hf : riseF L = false := by
              cases hrr : riseF L with
              | false => rfl
              | true =>
                have := (riseF_iff _).1 hrr j y.p x.p (eL j y hy) (eL (j + 1) x hx)
                omega
            rw [unhide HT]
            unfold bldF
            rw [if_pos (.inr (.inr (.inr (.inr hf))))]
          have F := hide (And.intro gr e)
          have d1 : decide (x.p.space ≤ y.p.space) = true := decide_eq_true hsp
          clear up gr I hcell hx hy e eL
          generalize x.p.space = sx at *
          generalize y.p.space = sy at *
          go_upto_region 6 with fail
          go_region
          all_goals go_wp2_with fail
          all_goals go_ret3
          all_goals rw [(unhide F).2]
          all_goals exact BldPost.none _ _ 1 (by first | exact grown_drew' (unhide F).1 | exact (unhide F).1)
        · have F := hide (And.intro (show upTo L (j + 1 + 1) from fun i p q hi hp hq => by
            by_cases c : i + 1 < j + 1
            · exact up i p q c hp hq
            · obtain rfl : i = j := by omega
              rw [eL i y hy] at hp
              rw [eL (i + 1) x hx] at hq
              injection hp with hp
              injection hq with hq
              subst hp hq
              omega) gr)
          have d1 : decide (x.p.space ≤ y.p.space) = false := decide_eq_false hsp
          clear up gr I hcell hx hy eL
          generalize x.p.space = sx at *
          generalize y.p.space = sy at *
          go_upto_region 6 with fail
          go_region
          all_goals go_wp2_with fail
          all_goals exact ⟨⟨j + 1 + 1, by omega, .inl (by omega), by go_num, (unhide F).1, by first | exact grown_drew' (unhide F).2 | exact (unhide F).2⟩, by simp [intOf]; omega⟩
      · have hkI : ¬ (k : Int) < (n : Int) := by omega
        obtain ⟨up, gr⟩ := unhide I
        have hr : riseF L = true := (riseF_iff _).2 (fun i p q hp hq => up i p q (by
          have := (List.getElem?_eq_some_iff.1 hq).1
          have := unhide HLn
          omega) hp hq)
        have e : T = if (bldG least L [] []).2.2 = 0 then (if room < (bldG least L [] []).1.length then ([], [], 200) else bldG least L [] []) else ([], [], (bldG least L [] []).2.2) := by
          rw [unhide HT]
          unfold bldF
          rw [if_neg]
          rintro (q | q | q | q | q)
          · omega
          · omega
          · omega
          · omega
          · rw [hr] at q; cases q
        have I0 : Hid (BI w least L xs 0 nilV nilV wr [] []) := ⟨World.ownsRow_nil _ _ _ _, OwnI.nil _ _, gr, rfl, .inl (by have := (unhide HH).2.1; simpa using this), rfl⟩
        have HE := hide e
        clear up gr I hr e
        go_wp2_with fail
        go_loopw [10, 11, 12] (fun bv sv iv wr => ∃ k : Nat, k ≤ n ∧ iv = .int .i64 k ∧ Hid (∃ out sz, BI w least L xs k bv sv wr out sz)) (fun _ _ iv _ => n - (intOf iv).toNat)
        case atStart => exact ⟨0, Nat.zero_le _, rfl, [], [], unhide I0⟩
        case round =>
          clear I0
          obtain ⟨k, hk, rfl, I⟩ := hrel
          obtain ⟨wo, hwo⟩ : ∃ wo, wo = wr := ⟨_, rfl⟩
          subst hwo
          obtain ⟨out, sz, B⟩ := unhide I
          obtain ⟨ba, bc, rfl⟩ := B.b_.shape
          obtain ⟨sa, sc, rfl⟩ := B.s_.shape
          obtain ⟨h, ht, hL, lsm⟩ := unhide HH
          by_cases hlt : k < n
          · obtain ⟨x, hx⟩ : ∃ x, xs[k]? = some x := ⟨_, List.getElem?_eq_getElem (by rw [hn]; exact hlt)⟩
            have hkI : (k : Int) < (n : Int) := by omega
            have hk0 : (0 : Int) ≤ (k : Int) := by omega
            have hlx := B.lo.resolve_right (fun e => by omega)
            have tdx := tot_drop hx
            obtain ⟨bo, off, rfl, hcell⟩ := h.cell.resolve_left (by omega)
            have gr := B.gr
            have hin := h.in_ x (List.mem_of_getElem? hx)
            obtain ⟨ld, ls, ly⟩ := h.ln x (List.mem_of_getElem? hx)
            obtain ⟨q1, q2, q3⟩ := hin
            obtain ⟨p, d, s, y⟩ := x
            simp only at q1 q2 q3 ld ls ly tdx
            obtain ⟨a1, c1, rfl, -⟩ := id q1
            obtain ⟨a2, c2, rfl, -⟩ := id q2
            obtain ⟨a3, c3, rfl, -⟩ := id q3
            have y0 : wo.cell? ⟨bo, off + k * 6, none⟩ = some (.int .i64 p.space) := cell_grown (hcell k _ hx 0 (by omega)) gr
            have y1 : wo.cell? ⟨bo, off + k * 6 + 1, none⟩ = some (.slice a1 p.dst.length c1) := cell_grown (hcell k _ hx 1 (by omega)) gr
            have y2 : wo.cell? ⟨bo, off + k * 6 + 2, none⟩ = some (.slice a2 p.src.length c2) := cell_grown (hcell k _ hx 2 (by omega)) gr
            have y3 : wo.cell? ⟨bo, off + k * 6 + 3, none⟩ = some (.int .i64 p.number) := cell_grown (hcell k _ hx 3 (by omega)) gr
            have y4 : wo.cell? ⟨bo, off + k * 6 + 4, none⟩ = some (.int .i64 p.width) := cell_grown (hcell k _ hx 4 (by omega)) gr
            have y5 : wo.cell? ⟨bo, off + k * 6 + 5, none⟩ = some (.slice a3 p.payload.length c3) := cell_grown (hcell k _ hx 5 (by omega)) gr
            have cp := copied05_sep p (.slice a1 p.dst.length c1) (.slice a2 p.src.length c2) (.slice a3 p.payload.length c3) wo (q1.grown gr) (q2.grown gr) (q3.grown gr) ld ls ly
            have KEY : bldG least L [] [] = (if encE (if k + 1 = n then padP p (least - (out.length : Int)) else p) = 0 then bldG least (L.drop (k + 1)) (out ++ encB (if k + 1 = n then padP p (least - (out.length : Int)) else p)) (sz ++ [((encB (if k + 1 = n then padP p (least - (out.length : Int)) else p)).length : Int)]) else ([], [], encE (if k + 1 = n then padP p (least - (out.length : Int)) else p))) := by
              have hxL : L[k]? = some p := by rw [hL, List.getElem?_map, hx]; rfl
              have ll := unhide HLn
              have hc : (L.drop (k + 1) = []) ↔ k + 1 = n := ⟨fun e => by have := List.drop_eq_nil_iff.1 e; omega, fun e => List.drop_eq_nil_of_le (by omega)⟩
              rw [← B.eq, drop_cons hxL]
              show (if encE (if L.drop (k + 1) = [] then padP p (least - (out.length : Int)) else p) = 0 then _ else _) = _
              simp only [hc]
            have KY := hide KEY
            have BB := hide B
            have QB := hide (And.intro q1.bytes (And.intro q2.bytes (And.intro q3.bytes (And.intro ld (And.intro ls (And.intro ly (And.intro hlx tdx)))))))
            clear KEY B I h ht hL hcell hx gr q1 q2 q3 ld ls ly hlx tdx
            go_wp2_with fail
            refine cp.mono ?_
            rintro e W3 ⟨e1, f1, e2, f2, e3, f3, rfl, o1, o2, o3, g3, sp3⟩
            obtain ⟨W4, hW4⟩ : ∃ W4, W4 = W3.alloc (.cells (p.cs (.slice e1 p.dst.length f1) (.slice e2 p.src.length f2) (.slice e3 p.payload.length f3)) 29) := ⟨_, rfl⟩
            have b4 := Blk.new W3 (p.cs (.slice e1 p.dst.length f1) (.slice e2 p.src.length f2) (.slice e3 p.payload.length f3)) 29
            have g4 := World.grownBy_alloc W3 (.cells (p.cs (.slice e1 p.dst.length f1) (.slice e2 p.src.length f2) (.slice e3 p.payload.length f3)) 29) none
            rw [← hW4] at b4 g4
            obtain ⟨G, hG⟩ : ∃ G, G = W3.heap.size := ⟨_, rfl⟩
            rw [← hG] at b4
            have i1 := (o1.inB (unhide QB).1).grown g4
            have i2 := (o2.inB (unhide QB).2.1).grown g4
            have i3 := (o3.inB (unhide QB).2.2.1).grown g4
            have F0 : FY wo G p (.slice e1 p.dst.length f1) (.slice e2 p.src.length f2) 0 e3 f3 W4 := ⟨⟨b4, by rw [List.replicate_zero, List.append_nil]; exact o3.kept (fun x e => g4.block x (o3.ltb x e).2 (by simp)), g3.trans g4, by rw [hG]; exact g3.size⟩, o1.kept (fun x e => g4.block x (o1.ltb x e).2 (by simp)), o2.kept (fun x e => g4.block x (o2.ltb x e).2 (by simp)), sp3⟩
            have en := renc_own p (.slice e1 p.dst.length f1) (.slice e2 p.src.length f2) (.slice e3 p.payload.length f3) W4 i1 i2 i3 (unhide QB).2.2.2.1 (unhide QB).2.2.2.2.1 (unhide QB).2.2.2.2.2.1
            have z0 := b4.cell 0 (.int .i64 p.space) rfl
            have z1 := b4.cell 1 (.slice e1 p.dst.length f1) rfl
            have z2 := b4.cell 2 (.slice e2 p.src.length f2) rfl
            have z3 := b4.cell 3 (.int .i64 p.number) rfl
            have z4 := b4.cell 4 (.int .i64 p.width) rfl
            have z5 := b4.cell 5 (.slice e3 p.payload.length f3) rfl
            have II := hide (And.intro i1 (And.intro i2 F0))
            have HO := hide (And.intro o1 (And.intro o2 o3))
            clear cp y0 y1 y2 y3 y4 y5 o1 o2 o3 g3 b4 g4 i1 i2 i3 F0 sp3
            go_upto_region 14 with fail
            rw [← hW4, ← hG]
            replace hW4 := hide hW4
            replace hG := hide hG
            obtain ⟨E, hE⟩ : ∃ E, E = encE p := ⟨_, rfl⟩
            obtain ⟨P, hP⟩ : ∃ P, P = encB p := ⟨_, rfl⟩
            rw [← hE, ← hP] at en
            have HEP := hide (And.intro hE hP)
            clear hE hP
            go_wp2_with fail
            refine en.mono ?_
            rintro e W5 ⟨pa, pc, rfl, ho5, g5⟩
            have HO5 := hide ho5
            have I5 := hide ((unhide II).2.2.grown g5)
            have gw5 := hide ((unhide BB).gr.trans ((unhide II).2.2.fz.gr.trans g5))
            clear en ho5 g5 z0 z1 z2 z3 z4 z5
            by_cases hz : E = 0
            · subst hz
              by_cases hla : k + 1 = n
              · skip
                have hkL : ((k : Int) == (n : Int) - 1) = true := by simp; omega
                replace hla := hide hla
                have lenO : ¬ (9223372036854775807 : Int) < (out.length : Int) := by have := (unhide QB).2.2.2.2.2.2; omega
                have PB : Hid ((P.length : Int) ≤ 100000000) := by
                  have h1 := encB_len p
                  rw [← (unhide HEP).2] at h1
                  have := (unhide QB).2.2.2.2.2.2
                  show (P.length : Int) ≤ _
                  omega
                have lsI : least ≤ 65535 := by omega
                have I6 : Hid (∃ ya yc, FY wo G p (.slice e1 p.dst.length f1) (.slice e2 p.src.length f2) 0 ya yc W5) := ⟨e3, f3, unhide I5⟩
                obtain ⟨o, ho⟩ : ∃ o, o = out.length := ⟨_, rfl⟩
                obtain ⟨pl, hpl⟩ : ∃ pl, pl = P.length := ⟨_, rfl⟩
                have wOP : IntKind.i64.wrap ((o : Int) + (pl : Int)) = ((o + pl : Nat) : Int) := by
                  have := unhide PB
                  have := (unhide QB).2.2.2.2.2.2
                  rw [IntKind.wrap_i64]; omega
                have oB : (o : Int) ≤ 100000000 := by have := (unhide QB).2.2.2.2.2.2; omega
                have pB : (pl : Int) ≤ 100000000 := by rw [hpl]; exact unhide PB
                rw [← ho] at lenO ⊢
                rw [← hpl]
                replace ho := hide ho
                replace hpl := hide hpl
                go_wp2_with fail
                go_loopw [16] (fun kv wr => ∃ m : Nat, kv = .int .i64 ((o : Int) + (pl : Int) + (m : Int)) ∧ (m = 0 ∨ (o : Int) + (pl : Int) + (m : Int) ≤ least) ∧ Hid (∃ ya yc, FY wo G p (.slice e1 p.dst.length f1) (.slice e2 p.src.length f2) m ya yc wr)) (fun kv _ => (least - intOf kv).toNat)
                case atStart => exact ⟨0, by simp, .inl rfl, unhide I6⟩
                case round =>
                  clear I6
                  obtain ⟨m, rfl, hm, I7⟩ := hrel
                  obtain ⟨ya, yc, F⟩ := unhide I7
                  clear I7
                  by_cases hlt2 : (o : Int) + (pl : Int) + (m : Int) < least
                  · have hy5 := F.fz.blk.cell 5 (.slice ya (p.payload.length + m) yc) rfl
                    obtain ⟨ya', yc', w', hr, c5, f5, F'⟩ := F.push (by have := (unhide QB).2.2.2.2.2.2; omega)
                    have HR := hide hr
                    have FF : Hid (∃ ya yc, FY wo G p (.slice e1 p.dst.length f1) (.slice e2 p.src.length f2) (m + 1) ya yc (w'.setCell ⟨G, 5, none⟩ (.slice ya' (p.payload.length + (m + 1)) yc'))) := ⟨ya', yc', F'⟩
                    have f55 := f5 5
                    have wk : IntKind.i64.wrap ((o : Int) + (pl : Int) + (m : Int) + 1) = (o : Int) + (pl : Int) + ((m + 1 : Nat) : Int) := by rw [IntKind.wrap_i64]; omega
                    clear F F' hr f5
                    go_upto_region 21 with fail
                    go_wp2_with (at_builtin; refine Kf.wpList_append_run _ rfl (Operand.tmp 85) (Operand.tmp 86) 27 27 rfl (.slice ya (p.payload.length + m) yc) (.slice (some ⟨wr.heap.size, 0, none⟩) 1 1) rfl rfl (unhide HR) ?_)
                    exact ⟨⟨m + 1, rfl, .inr (by omega), unhide FF⟩, by simp [intOf]; omega⟩
                  · obtain ⟨pd, hpd⟩ : ∃ pd : Pk, pd = { p with payload := p.payload ++ List.replicate m 0 } := ⟨_, rfl⟩
                    have hE0 : encE p = 0 := (unhide HEP).1.symm
                    have epd : padP p (least - (out.length : Int)) = pd := by
                      rw [padP_doc hE0, hpd]
                      have e1 : lenE p = (pl : Int) := by
                        have := unhide hpl
                        have h2 := (unhide HEP).2
                        unfold lenE
                        rw [← h2, this]
                      have e2 : (least - ((out.length : Int) + lenE p)).toNat = m := by
                        have := unhide ho
                        rw [e1]
                        omega
                      rw [e2]
                    have by3 : ∀ x ∈ p.payload ++ List.replicate m (0 : Int), IsB x := fun x hx => by
                      rcases List.mem_append.1 hx with q | q
                      · exact (unhide QB).2.2.1 x q
                      · obtain ⟨-, rfl⟩ := List.mem_replicate.1 q
                        simp [IsB]
                    have i1 := F.o1.inB (unhide QB).1
                    have i2 := F.o2.inB (unhide QB).2.1
                    have i3 := F.fz.own.inB by3
                    have en2 := renc_own pd (.slice e1 p.dst.length f1) (.slice e2 p.src.length f2) (.slice ya (p.payload.length + m) yc) wr (by rw [hpd]; exact i1) (by rw [hpd]; exact i2) (by rw [hpd]; exact i3) (by rw [hpd]; exact (unhide QB).2.2.2.1) (by rw [hpd]; exact (unhide QB).2.2.2.2.1) (by rw [hpd]; show (p.payload ++ List.replicate m (0 : Int)).length ≤ _; have := (unhide QB).2.2.2.2.2.2; rw [List.length_append, List.length_replicate]; omega)
                    have ev : pd.val (.slice e1 p.dst.length f1) (.slice e2 p.src.length f2) (.slice ya (p.payload.length + m) yc) = .agg #[.int .i64 p.space, .slice e1 p.dst.length f1, .slice e2 p.src.length f2, .int .i64 p.number, .int .i64 p.width, .slice ya (p.payload.length + m) yc] := by rw [hpd]
                    rw [ev] at en2
                    have hby := encB_byte pd (by rw [hpd]; exact (unhide QB).1) (by rw [hpd]; exact (unhide QB).2.1) (by rw [hpd]; exact by3)
                    have hle := encB_len pd
                    have lpd : pd.payload.length = p.payload.length + m ∧ pd.dst = p.dst ∧ pd.src = p.src := by rw [hpd]; exact ⟨by simp, rfl, rfl⟩
                    have z0 := F.fz.blk.cell 0 (.int .i64 p.space) rfl
                    have z1 := F.fz.blk.cell 1 (.slice e1 p.dst.length f1) rfl
                    have z2 := F.fz.blk.cell 2 (.slice e2 p.src.length f2) rfl
                    have z3 := F.fz.blk.cell 3 (.int .i64 p.number) rfl
                    have z4 := F.fz.blk.cell 4 (.int .i64 p.width) rfl
                    have z5 := F.fz.blk.cell 5 (.slice ya (p.payload.length + m) yc) rfl
                    have FF := hide F
                    have PD := hide (And.intro epd (And.intro hby (And.intro hle lpd)))
                    obtain ⟨E2, hE2⟩ : ∃ E2, E2 = encE pd := ⟨_, rfl⟩
                    obtain ⟨P2, hP2⟩ : ∃ P2, P2 = encB pd := ⟨_, rfl⟩
                    rw [← hE2, ← hP2] at en2
                    have HE2 := hide (And.intro hE2 hP2)
                    clear F hpd epd by3 i1 i2 i3 ev hby hle lpd hE2 hP2 hE0
                    go_upto_region 22 with fail
                    go_wp2_with fail
                    refine en2.mono ?_
                    rintro e W8 ⟨pa2, pc2, rfl, ho8, g8⟩
                    have HO8 := hide ho8
                    have I8 := hide ((unhide FF).grown g8)
                    clear en2 ho8 g8 z0 z1 z2 z3 z4 z5
                    by_cases hz2 : E2 = 0
                    · subst hz2
                      have B := unhide BB
                      have gch := (unhide I8).fz.gr
                      have bo5 := B.b_.kept (fun g e => gch.block g (B.b_.ltb g e).2 (by simp))
                      have so5 := B.s_.kept (fun g e => gch.block g (B.s_.lt g e).2 (by simp))
                      have gw := B.gr.trans gch
                      have hE := (unhide HE2).1
                      have hP := (unhide HE2).2
                      have hby := (unhide PD).2.1
                      have hle := (unhide PD).2.2.1
                      have hpl2 := (unhide PD).2.2.2.1
                      rw [← hP] at hby hle
                      obtain ⟨hlx, tdx⟩ := (unhide QB).2.2.2.2.2.2
                      obtain ⟨v6, w6, hr6, ob6, g6⟩ := app_rd W8 w.heap.size 27 _ out bo5 _ P2 ((unhide HO8).inB hby) (by omega) gw.size
                      have os6 := so5.kept (fun g e => g6.block g (so5.lt g e).2 (fun c => own_ty bo5 so5 g c.symm e))
                      have gw6 := grown_own gw g6 (fun g e => (bo5.ltb g e).1)
                      obtain ⟨a6, c6, rfl⟩ := ob6.shape
                      obtain ⟨a7, c7, w7, hr7, os7, g7⟩ := os6.push (P2.length : Int) (by rw [B.ls]; have := (unhide HH).2.2.2; omega) gw6.size
                      have gA6 := World.grownBy_alloc w6 (.cells #[.int .i64 (P2.length : Int)] 3) none
                      have ob6' := ob6.kept (fun g e => gA6.block g (ob6.ltb g e).2 (by simp))
                      have os6' := os6.grown gA6
                      have ob7 := ob6'.kept (fun g e => g7.block g (ob6'.ltb g e).2 (fun c => own_ty ob6' os6' g e c.symm))
                      have gw7 := grown_own (gw6.trans gA6) g7 (fun g e => (os6'.lt g e).1)
                      have FIN2 : Hid (∃ out' sz', BI w least L xs (k + 1) (.slice a6 (out.length + P2.length) c6) (.slice a7 (sz.length + 1) c7) w7 out' sz') := by
                        refine ⟨out ++ P2, sz ++ [(P2.length : Int)], ?_, ?_, gw7, ?_, ?_, ?_⟩
                        · rw [← List.length_append]; exact ob7
                        · exact os7
                        · have := unhide KY
                          rw [if_pos (unhide hla), (unhide PD).1, ← hE, if_pos rfl, ← hP] at this
                          exact this.symm
                        · exact .inr ⟨(unhide hla).trans hn.symm, by rw [List.length_append]; omega⟩
                        · rw [List.length_append, B.ls]; rfl
                      rw [List.length_append] at hr6
                      have eo := unhide ho
                      rw [← eo] at hr6 FIN2
                      replace hr6 := hide hr6
                      replace hr7 := hide hr7
                      clear B gch bo5 so5 gw hle hP hE hby hlx tdx g6 ob6 os6 gw6 os7 g7 gA6 ob6' os6' ob7 gw7 hpl2 eo
                      generalize P2.length = pl2 at *
                      generalize sz.length = sl at *
                      go_upto_region 26 with (at_builtin; refine Kf.wpList_append_run _ rfl (Operand.tmp 97) (Operand.tmp 98) 27 27 rfl (.slice ba o bc) (.slice pa2 pl2 pc2) rfl rfl (unhide hr6) ?_)
                      go_wp2_with (at_builtin; refine Kf.wpList_append_run _ rfl _ _ 33 33 rfl (.slice sa sl sc) (.slice (some ⟨w6.heap.size, 0, none⟩) 1 1) rfl rfl (unhide hr7) ?_)
                      exact ⟨⟨k + 1, hlt, by go_num, unhide FIN2⟩, by simp [intOf]; omega⟩
                    · have bz2 : (E2 != 0) = true := by simpa using hz2
                      have FIN : Hid (BldPost w T (.returned (.tuple #[nilV, nilV, .int .i64 E2])) W8) := by
                        have hE := (unhide HE2).1
                        have e := unhide KY
                        rw [if_pos (unhide hla), (unhide PD).1, ← hE, if_neg hz2] at e
                        have t := unhide HE
                        rw [e] at t
                        simp only at t
                        rw [if_neg hz2] at t
                        rw [t]
                        exact BldPost.none _ _ E2 ((unhide BB).gr.trans (unhide I8).fz.gr)
                      generalize P2.length = pl2 at *
                      clear hz2
                      go_wp2_with fail
                      go_ret3
                      exact unhide FIN
              · have be : ((k : Int) == (n : Int) - 1) = false := by simp; omega
                have B := unhide BB
                have gch := (unhide I5).fz.gr
                have bo5 := B.b_.kept (fun g e => gch.block g (B.b_.ltb g e).2 (by simp))
                have so5 := B.s_.kept (fun g e => gch.block g (B.s_.lt g e).2 (by simp))
                have gw := unhide gw5
                have hle := encB_len p
                have hP := (unhide HEP).2
                have hE := (unhide HEP).1
                rw [← hP] at hle
                have hby := encB_byte p (unhide QB).1 (unhide QB).2.1 (unhide QB).2.2.1
                rw [← hP] at hby
                obtain ⟨hlx, tdx⟩ := (unhide QB).2.2.2.2.2.2
                obtain ⟨v6, w6, hr6, ob6, g6⟩ := app_rd W5 w.heap.size 27 _ out bo5 _ P ((unhide HO5).inB hby) (by omega) gw.size
                have os6 := so5.kept (fun g e => g6.block g (so5.lt g e).2 (fun c => own_ty bo5 so5 g c.symm e))
                have gw6 := grown_own gw g6 (fun g e => (bo5.ltb g e).1)
                obtain ⟨a6, c6, rfl⟩ := ob6.shape
                obtain ⟨a7, c7, w7, hr7, os7, g7⟩ := os6.push (P.length : Int) (by rw [B.ls]; have := (unhide HH).2.2.2; omega) gw6.size
                have gA6 := World.grownBy_alloc w6 (.cells #[.int .i64 (P.length : Int)] 3) none
                have ob6' := ob6.kept (fun g e => gA6.block g (ob6.ltb g e).2 (by simp))
                have os6' := os6.grown gA6
                have ob7 := ob6'.kept (fun g e => g7.block g (ob6'.ltb g e).2 (fun c => own_ty ob6' os6' g e c.symm))
                have gw7 := grown_own (gw6.trans gA6) g7 (fun g e => (os6'.lt g e).1)
                have FIN2 : Hid (∃ out' sz', BI w least L xs (k + 1) (.slice a6 (out.length + P.length) c6) (.slice a7 (sz.length + 1) c7) w7 out' sz') := by
                  refine ⟨out ++ P, sz ++ [(P.length : Int)], ?_, ?_, gw7, ?_, ?_, ?_⟩
                  · rw [← List.length_append]; exact ob7
                  · exact os7
                  · have := unhide KY
                    rw [if_neg hla, ← hE, if_pos rfl, ← hP] at this
                    exact this.symm
                  · exact .inl (by rw [List.length_append]; omega)
                  · rw [List.length_append, B.ls]; rfl
                rw [List.length_append] at hr6
                replace hr6 := hide hr6
                replace hr7 := hide hr7
                have lenO : ¬ (9223372036854775807 : Int) < (out.length : Int) := by omega
                clear B gch bo5 so5 gw hle hP hE hby hlx tdx g6 ob6 os6 gw6 os7 g7 gA6 ob6' os6' ob7 gw7
                generalize P.length = pl at *
                generalize out.length = ol at *
                generalize sz.length = sl at *
                go_upto_region 26 with (at_builtin; refine Kf.wpList_append_run _ rfl (Operand.tmp 97) (Operand.tmp 98) 27 27 rfl (.slice ba ol bc) (.slice pa pl pc) rfl rfl (unhide hr6) ?_)
                go_wp2_with (at_builtin; refine Kf.wpList_append_run _ rfl _ _ 33 33 rfl (.slice sa sl sc) (.slice (some ⟨w6.heap.size, 0, none⟩) 1 1) rfl rfl (unhide hr7) ?_)
                exact ⟨⟨k + 1, hlt, by go_num, unhide FIN2⟩, by simp [intOf]; omega⟩
            · have bz : (E != 0) = true := by simpa using hz
              have FIN : Hid (BldPost w T (.returned (.tuple #[nilV, nilV, .int .i64 E])) W5) := by
                have hE := (unhide HEP).1
                have ee : encE (if k + 1 = n then padP p (least - (out.length : Int)) else p) = E := by
                  split
                  · rw [padP_bad (by rw [← hE]; exact hz), hE]
                  · exact hE.symm
                have e := unhide KY
                rw [ee, if_neg hz] at e
                have t := unhide HE
                rw [e] at t
                simp only at t
                rw [if_neg hz] at t
                rw [t]
                exact BldPost.none _ _ E (unhide gw5)
              generalize P.length = pl at *
              clear hz
              go_wp2_with fail
              go_ret3
              exact unhide FIN
          · obtain rfl : k = n := by omega
            have hkI : ¬ (k : Int) < (k : Int) := by omega
            have eq := B.eq
            rw [show L.drop k = [] from List.drop_eq_nil_of_le (by have := unhide HLn; omega)] at eq
            have eq2 : bldG least L [] [] = (out, sz, 0) := eq.symm
            have hT := unhide HE
            rw [eq2] at hT
            simp only [if_true] at hT
            have F := hide (And.intro B.b_ (And.intro B.s_ B.gr))
            have lenO : ¬ (9223372036854775807 : Int) < (out.length : Int) := by rcases B.lo with q | q <;> omega
            by_cases hrm : room < (out.length : Int)
            · rw [if_pos hrm] at hT
              have FIN : Hid (BldPost w T (.returned (.tuple #[nilV, nilV, .int .i64 200])) wo) := by
                show BldPost _ _ _ _
                rw [hT]
                exact BldPost.none _ _ 200 B.gr
              clear B I h ht hL lsm eq eq2 hT F
              generalize out.length = ol at *
              generalize sz.length = sl at *
              go_wp2_with fail
              go_ret3
              exact unhide FIN
            · rw [if_neg hrm] at hT
              have FIN : Hid (BldPost w T (.returned (.tuple #[.slice ba out.length bc, .slice sa sz.length sc, .int .i64 0])) wo) := by
                show BldPost _ _ _ _
                rw [hT]
                exact ⟨_, _, rfl, (unhide F).1, (unhide F).2.1, (unhide F).2.2⟩
              clear B I h ht hL lsm eq eq2 hT F
              generalize out.length = ol at *
              generalize sz.length = sl at *
              go_wp2_with fail
              go_ret3
              exact unhide FIN
end Go.Proofs.Ytpcnpdippnljpaa

namespace Go.Proofs.Ytpcnpdippnljpaa
open Go.ChangeShapes Go.WideShapes Go.ChangeAt Go.RowKit
set_option linter.unusedVariables false
set_option maxRecDepth 100000

/-- Nil; or it leads to a row of 'cap' cells, the numbers 'zs'. -/
def IsRow (k : IntKind) (w : World) (a : Option Addr) (len cap : Nat) (zs : List Int) : Prop :=
  (a = none ∧ len = 0 ∧ cap = 0 ∧ zs = []) ∨
  ∃ x, a = some x ∧ len ≤ cap ∧ cap ≤ maxLen ∧ zs.length = cap ∧ (∀ i, i < zs.length → w.cell? (x.add i) = some (.int k (zs.getD i 0))) ∧ ∀ n ∈ zs, (Lit.int k n).wf = true

theorem isRow_rd {w : World} {a : Option Addr} {len cap : Nat} {zs : List Int} (h : IsRow .u8 w a len cap zs) : (zs.take len).length = len ∧ Rd w a (zs.take len) ∧ len ≤ cap ∧ cap ≤ maxLen ∧ zs.length = cap := by
  rcases h with ⟨rfl, rfl, rfl, rfl⟩ | ⟨x, rfl, hl, hm, hz, hc, hw⟩
  · exact ⟨rfl, ⟨by simp, by simp⟩, Nat.le_refl _, by decide, rfl⟩
  · refine ⟨by simp; omega, ⟨fun y hy => ?_, fun hne => ?_⟩, hl, hm, hz⟩
    · exact bounds_u8 (hw y (List.mem_of_mem_take hy))
    · have hlen : 0 < len := by
        rcases Nat.eq_zero_or_pos len with h | h
        · subst h; simp at hne
        · exact h
      obtain ⟨b, off, spot⟩ := x
      have h0 := hc 0 (by omega)
      have hs : spot = none := by simpa [Addr.add] using World.cell?_spot h0
      subst hs
      refine ⟨b, off, rfl, fun i hi => ?_⟩
      have hi' : i < len := by simp at hi; omega
      have := hc i (by omega)
      rw [show (⟨b, off, none⟩ : Addr).add i = ⟨b, off + i, none⟩ by simp [Addr.add]] at this
      rw [this]
      congr 2
      simp [List.getD, hi']
end Go.Proofs.Ytpcnpdippnljpaa

namespace Go.Proofs.Ytpcnpdippnljpaa
open Go.ChangeShapes Go.WideShapes Go.ChangeAt Go.RowKit
set_option linter.unusedVariables false
set_option maxRecDepth 100000

theorem cell_lt {w : World} {b o : Nat} {v : Value} (h : w.cell? ⟨b, o, none⟩ = some v) : b < w.heap.size := by
  by_cases c : b < w.heap.size
  · exact c
  · have e : w.heap[b]? = none := by simp; omega
    simp [World.cell?, e] at h

theorem isRow_in {w : World} {a : Option Addr} {len cap : Nat} {zs : List Int} (h : IsRow .u8 w a len cap zs) : InB w (.slice a len cap) (zs.take len) := by
  obtain ⟨h1, h2, h3, h4, h5⟩ := isRow_rd h
  refine ⟨a, cap, by rw [h1], h2, by rw [h1]; exact h3, h4, fun x e hc => ?_⟩
  subst e
  rcases h with ⟨h, -⟩ | ⟨x', e, -, -, hz, hcell, -⟩
  · cases h
  · cases e
    obtain ⟨b, off, spot⟩ := x
    have h0 := hcell 0 (by omega)
    have hs : spot = none := by simpa [Addr.add] using World.cell?_spot h0
    subst hs
    rw [show (⟨b, off, none⟩ : Addr).add 0 = ⟨b, off, none⟩ by simp [Addr.add]] at h0
    have := cell_lt h0
    exact ⟨this, Nat.ne_of_lt this, _, _, rfl⟩

section
variable {H : Type} {enc : TypeId × Value → H} {w : World} {base : Nat} {spare : Nat → Bool} {held : Bool}

theorem open_arr3 {v : Value} {r : Reach} {b0 : Nat} (hv : Value.okWide Try.prog w r b0 49 v) {d : DataW H} {ps : List MemPlace} (hd : DataW.Trod enc Try.prog w base spare held 49 v d ps) : ∃ G : Lg, v = G.v := by
  have c2 : Try.prog.cellsOf 2 = 1 := by kernel_rfl
  have c46 : Try.prog.cellsOf 49 = 3 := by kernel_rfl
  simp only [Value.okWide, Try.underlying49] at hv
  obtain ⟨cs, rfl, hs, -⟩ := hv
  rw [c46] at hs
  obtain ⟨fuel, hf⟩ := hd
  obtain ⟨cs⟩ := cs
  match cs, hs with
  | [x, y, z], _ =>
    have hf' : DataW.trod enc Try.prog w base spare held fuel 49 [x, y, z] = some (d, ps) := by simpa [Value.cells] using hf
    obtain ⟨y0, y1, y2, n, -, f0, f1, f2⟩ := trod_array3 Try.underlying49 c2 hf'
    obtain ⟨a0, e0, -⟩ := DataW.trod_int Try.underlying2 f0
    obtain ⟨a1, e1, -⟩ := DataW.trod_int Try.underlying2 f1
    obtain ⟨a2, e2, -⟩ := DataW.trod_int Try.underlying2 f2
    simp only [List.cons.injEq, and_true] at e0 e1 e2
    subst e0 e1 e2
    exact ⟨(a0, a1, a2), rfl⟩

theorem open_row {a : Option Addr} {len cap : Nat} {d : DataW H} {ps : List MemPlace} (hd : DataW.Trod enc Try.prog w base (fun _ => true) held 27 (.slice a len cap) d ps) : ∃ zs, IsRow .u8 w a len cap zs ∧ (d = .nil ∧ zs = [] ∨ d = .slice (lits .u8 (zs.take len)) (lits .u8 (zs.drop len))) := by
  obtain ⟨fuel, hf⟩ := hd
  rcases open_ints Try.underlying27 Try.underlying5 (by kernel_rfl) hf with ⟨hcs, hx⟩ | ⟨x, l, c, zs, hcs, _, hl, hm, hz, hx, hcell, hwz⟩
  · simp [Value.cells] at hcs
    obtain ⟨rfl, rfl, rfl⟩ := hcs
    simp only [Prod.mk.injEq] at hx
    exact ⟨[], .inl ⟨rfl, rfl, rfl, rfl⟩, .inl ⟨hx.1, rfl⟩⟩
  · simp [Value.cells] at hcs
    obtain ⟨rfl, rfl, rfl⟩ := hcs
    simp only [Prod.mk.injEq] at hx
    exact ⟨zs, .inr ⟨_, rfl, hl, hm, by simpa using hz, hcell, hwz⟩, .inr hx.1⟩

theorem row_size {ts : List TypeId} {ds : List (DataW H)} (hsz : (DataW.weightsEach Try.prog ts ds).all (· ≤ reachBytes) = true) {j len : Nat} {zs : List Int} {d : DataW H} (ht : ts[j]? = some 27) (hd : ds[j]? = some d)
    (h : d = .nil ∧ zs = [] ∨ d = .slice (lits .u8 (zs.take len)) (lits .u8 (zs.drop len))) : zs.length ≤ 140737488351232 := by
  rcases h with ⟨-, rfl⟩ | h
  · simp
  · have hb : Try.prog.bytesOf 5 = 1 := by kernel_rfl
    subst h
    have := sized_slice hsz ht hd Try.underlying27
    rw [hb] at this
    simp only [lits, List.length_map, List.length_take, List.length_drop, reachBytes] at this
    omega
end
end Go.Proofs.Ytpcnpdippnljpaa

namespace Go.Proofs.Ytpcnpdippnljpaa
set_option maxRecDepth 100000

theorem bulk_pos {H : Type} (d : DataW H) : 0 < Rows.uptoBulk d := by
  cases d with
  | lit l => cases l <;> simp [Rows.uptoBulk]
  | _ => simp [Rows.uptoBulk]

theorem bulk_count {H : Type} : ∀ l : List (DataW H), l.length ≤ Rows.uptoBulkAll l
  | [] => Nat.zero_le _
  | d :: r => by
    have h1 := bulk_pos d
    have h2 := bulk_count r
    simp only [Rows.uptoBulkAll, List.length_cons]
    omega

theorem bulk_slice {H : Type} (e s : List (DataW H)) : e.length + s.length < Rows.uptoBulk (.slice e s) := by
  have h1 := bulk_count e
  have h2 := bulk_count s
  simp only [Rows.uptoBulk]
  omega

theorem bulk_among {H : Type} {d : DataW H} : ∀ {l : List (DataW H)}, d ∈ l → Rows.uptoBulk d ≤ Rows.uptoBulkAll l
  | x :: r, h => by
    simp only [Rows.uptoBulkAll]
    rcases List.mem_cons.1 h with e | e
    · subst e; omega
    · have := bulk_among e; omega

theorem bulk_mem {H : Type} {d : DataW H} {l : List (DataW H)} (hk : Rows.uptoSmall H l = true) (h : d ∈ l) : Rows.uptoBulk d ≤ 1048576 := by
  have h1 : Rows.uptoBulkAll l ≤ 1048576 := of_decide_eq_true hk
  have h2 := bulk_among h
  omega
end Go.Proofs.Ytpcnpdippnljpaa

namespace Go.Proofs.Ytpcnpdippnljpaa
open Go.ChangeShapes Go.WideShapes Go.ChangeAt Go.RowKit
set_option linter.unusedVariables false
set_option maxRecDepth 100000

section
variable {H : Type} {enc : TypeId × Value → H} {w : World} {base : Nat} {spare : Nat → Bool} {held : Bool}

theorem row_cells {fuel : Nat} {cs : List Value} {x : DataW H × List MemPlace} (hf : DataW.trod enc Try.prog w base (fun _ => true) held fuel 27 cs = some x) :
    ∃ a len cap zs, cs = [.slice a len cap] ∧ IsRow .u8 w a len cap zs ∧ (x.1 = .nil ∧ zs = [] ∨ x.1 = .slice (lits .u8 (zs.take len)) (lits .u8 (zs.drop len))) := by
  rcases open_ints Try.underlying27 Try.underlying5 (by kernel_rfl) hf with ⟨hcs, hx⟩ | ⟨x', l, c, zs, hcs, _, hl, hm, hz, hx, hcell, hwz⟩
  · subst hcs hx
    exact ⟨none, 0, 0, [], rfl, .inl ⟨rfl, rfl, rfl, rfl⟩, .inl ⟨rfl, rfl⟩⟩
  · subst hcs hx
    exact ⟨_, l, c, zs, rfl, .inr ⟨_, rfl, hl, hm, by simpa using hz, hcell, hwz⟩, .inr rfl⟩

theorem row_bulk {len : Nat} {zs : List Int} {d : DataW H} (h : d = .nil ∧ zs = [] ∨ d = .slice (lits .u8 (zs.take len)) (lits .u8 (zs.drop len))) : (zs.take len).length ≤ Rows.uptoBulk d := by
  rcases h with ⟨e, e2⟩ | e
  · rw [e2]; simp
  · rw [e]
    have := bulk_slice (H := H) (lits .u8 (zs.take len)) (lits .u8 (zs.drop len))
    simp only [lits, List.length_map] at this ⊢
    omega

theorem open_packet {v : Value} {r : Reach} {b0 : Nat} (hv : Value.okWide Try.prog w r b0 29 v) {d : DataW H} {ps : List MemPlace} (hd : DataW.Trod enc Try.prog w base (fun _ => true) held 29 v d ps)
    (hw : ∀ n ∈ d.weights Try.prog 29, decide (n ≤ reachBytes) = true) :
    ∃ (P : Pk) (x y u : Value), v = P.val x y u ∧ InB w x P.dst ∧ InB w y P.src ∧ InB w u P.payload ∧ P.dst.length ≤ 140737488351232 ∧ P.src.length ≤ 140737488351232 ∧ P.payload.length ≤ 140737488351232 ∧ P.payload.length ≤ Rows.uptoBulk d := by
  have cP : Try.prog.cellsOf 29 = 6 := by kernel_rfl
  have c3 : Try.prog.cellsOf 3 = 1 := by kernel_rfl
  have c2 : Try.prog.cellsOf 2 = 1 := by kernel_rfl
  have cB : Try.prog.cellsOf 27 = 1 := by kernel_rfl
  simp only [Value.okWide, Try.underlying29] at hv
  obtain ⟨cs, rfl, hs, -⟩ := hv
  rw [cP] at hs
  obtain ⟨fuel, hf⟩ := hd
  obtain ⟨cs⟩ := cs
  match cs, hs with
  | [v0, v1, v2, v3, v4, v5], _ =>
    have hf' : DataW.trod enc Try.prog w base (fun _ => true) held fuel 29 [v0, v1, v2, v3, v4, v5] = some (d, ps) := by simpa [Value.cells] using hf
    obtain ⟨xs, m, -, hx, -, hxl, hff⟩ := DataW.trod_struct Try.underlying29 hf'
    match xs, hxl with
    | [y0, y1, y2, y3, y4, y5], _ =>
      have f0 := hff 0 _ rfl
      have f1 := hff 1 _ rfl
      have f2 := hff 2 _ rfl
      have f3 := hff 3 _ rfl
      have f4 := hff 4 _ rfl
      have f5 := hff 5 _ rfl
      simp [c2, c3, cB] at f0 f1 f2 f3 f4 f5
      obtain ⟨a0, e0, -⟩ := DataW.trod_int Try.underlying3 f0
      obtain ⟨a3, e3, -⟩ := DataW.trod_int Try.underlying2 f3
      obtain ⟨a4, e4, -⟩ := DataW.trod_int Try.underlying3 f4
      obtain ⟨p1, l1, k1, z1, e1, r1, q1⟩ := row_cells f1
      obtain ⟨p2, l2, k2, z2, e2, r2, q2⟩ := row_cells f2
      obtain ⟨p5, l5, k5, z5, e5, r5, q5⟩ := row_cells f5
      simp only [List.cons.injEq, and_true] at e0 e1 e2 e3 e4 e5
      subst e0 e1 e2 e3 e4 e5
      simp only [List.map_cons, List.map_nil, Prod.mk.injEq] at hx
      obtain ⟨rfl, -⟩ := hx
      have hw' : (DataW.weightsEach Try.prog [3, 27, 27, 2, 3, 27] [y0.1, y1.1, y2.1, y3.1, y4.1, y5.1]).all (· ≤ reachBytes) = true := by
        apply List.all_eq_true.2
        intro n hn
        refine hw n ?_
        unfold DataW.weights
        rw [Try.underlying29]
        exact hn
      have s1 := row_size hw' (j := 1) (zs := z1) rfl rfl q1
      have s2 := row_size hw' (j := 2) (zs := z2) rfl rfl q2
      have s5 := row_size hw' (j := 5) (zs := z5) rfl rfl q5
      have bk : (z5.take l5).length ≤ Rows.uptoBulk (.agg [y0.1, y1.1, y2.1, y3.1, y4.1, y5.1]) := by
        have h1 := bulk_among (d := y5.1) (l := [y0.1, y1.1, y2.1, y3.1, y4.1, y5.1]) (by simp)
        have h2 : (z5.take l5).length ≤ Rows.uptoBulk y5.1 := row_bulk q5
        have h3 : Rows.uptoBulk (.agg [y0.1, y1.1, y2.1, y3.1, y4.1, y5.1]) = Rows.uptoBulkAll [y0.1, y1.1, y2.1, y3.1, y4.1, y5.1] + 1 := by rw [Rows.uptoBulk]
        omega
      exact ⟨⟨a0, z1.take l1, z2.take l2, a3, a4, z5.take l5⟩, _, _, _, rfl, isRow_in r1, isRow_in r2, isRow_in r5, by simp only [List.length_take]; omega, by simp only [List.length_take]; omega, by simp only [List.length_take]; omega, bk⟩
end
end Go.Proofs.Ytpcnpdippnljpaa

namespace Go.Proofs.Ytpcnpdippnljpaa
open Go.RowKit
set_option linter.unusedVariables false
set_option maxRecDepth 100000
set_option maxHeartbeats 1000000

abbrev lay (qs : List PV) : List Int := (qs.map PV.p).flatMap bytesP
def Lists (w : World) (x : PV) : Prop := InB w x.d x.p.dst ∧ InB w x.s x.p.src ∧ InB w x.y x.p.payload

structure RowI (w : World) (gG : Nat) (G : Lg) (xs : List PV) (wr : World) (k : Nat) (bv wv : Value) (n : Int) (s : Bool) (qs : List PV) : Prop where
  hb : OwnB (gG + 1) wr bv (lay qs)
  row : wr.ownsRow (gG + 1) 29 6 wv qs.length (qs.flatMap PV.cl)
  in_ : ∀ x ∈ qs, Lists w x
  few : qs.length ≤ k
  tt : (lay qs).length + tot (xs.drop k) ≤ tot xs
  ld : Rw.Laid n G s (qs.map PV.p)
  ns : s = false → n = 0 ∧ LaidF G (qs.map PV.p)
  n20 : 0 ≤ n ∧ n ≤ 20
  bG : Blk wr gG #[.int .i64 G.1, .int .i64 G.2.1, .int .i64 G.2.2] 49
  gr : w.grownBy wr none
  hB : gG + 1 ≤ wr.heap.size

theorem drop_at {xs : List PV} {k : Nat} {x : PV} (hx : xs[k]? = some x) : xs.drop k = x :: xs.drop (k + 1) := by
  obtain ⟨h, e⟩ := List.getElem?_eq_some_iff.1 hx
  rw [List.drop_eq_getElem_cons h, e]

theorem RowI.next {w wr W : World} {gG k : Nat} {G : Lg} {xs qs : List PV} {bv wv : Value} {n : Int} {s : Bool} (h : RowI w gG G xs wr k bv wv n s qs) (gW : wr.grownBy W none) {x : PV} (hx : xs[k]? = some x) : RowI w gG G xs W (k + 1) bv wv n s qs := by
  have ht := h.tt
  rw [drop_at hx] at ht
  simp only [tot] at ht
  exact ⟨h.hb.kept (fun g e => gW.block g (h.hb.lt g e).2 (by simp)), row_kpt h.row (fun i _ hi _ => gW.block i hi (by simp)), h.in_, Nat.le_succ_of_le h.few, by omega, h.ld, h.ns, h.n20, h.bG.grown gW, h.gr.trans gW, Nat.le_trans h.hB gW.size⟩

theorem lay_snoc (qs : List PV) (x : PV) : lay (qs ++ [x]) = lay qs ++ bytesP x.p := by simp [lay]

theorem row_step {w wr W : World} {gG k : Nat} {G : Lg} {xs qs : List PV} {bv wv : Value} {n : Int} (h : RowI w gG G xs wr k bv wv n false qs) (hg : gG = w.heap.size) {x : PV} (hx : xs[k]? = some x) (ix : Lists w x) (g : Good x.p) (hf : foundB x.p G = true) (gW : wr.grownBy W none) {cv : Value} (hc : InB W cv (bytesP x.p)) (ht : tot xs ≤ 70000000) (hk : k ≤ 1048576) :
    ∃ v' W1, (Builtin.append_ #[27, 27] 27 #[bv, cv]).run Try.prog W = .ok v' W1 ∧ w.grownBy W1 none ∧
      ∃ g' c' W2, (Builtin.append_ #[22, 22] 22 #[wv, .slice (some ⟨W1.heap.size, 0, none⟩) 1 1]).run Try.prog (W1.alloc (.cells (x.p.cs x.d x.s x.y) 29)) = .ok (.slice (some ⟨g', 0, none⟩) (qs.length + 1) c') W2 ∧ w.grownBy W2 none ∧
        (x.p.space ≠ 2 → RowI w gG G xs W2 (k + 1) v' (.slice (some ⟨g', 0, none⟩) (qs.length + 1) c') 0 false (qs ++ [x])) ∧ (x.p.space = 2 → RowI w gG G xs W2 (k + 1) v' (.slice (some ⟨g', 0, none⟩) (qs.length + 1) c') (x.p.dst.length : Int) true (qs ++ [x])) := by
  have tt := h.tt
  rw [drop_at hx] at tt
  simp only [tot] at tt
  have bl := bytesP_lt x.p g
  have hbW : OwnB (gG + 1) W bv (lay qs) := h.hb.kept (fun g e => gW.block g (h.hb.lt g e).2 (by simp))
  have hrW := row_kpt h.row (w' := W) (fun i _ hi _ => gW.block i hi (by simp))
  have hBW := Nat.le_trans h.hB gW.size
  obtain ⟨v', W1, r1, o1, g1⟩ := app_rd W (gG + 1) 27 bv (lay qs) hbW cv (bytesP x.p) hc (by omega) hBW
  have b1 : Below (gG + 1) W W1 := (Below.refl (gG + 1) W).grown g1 hBW (fun k e => (World.ownsRow.lt hbW k e).1)
  have row1 := row_kpt hrW (w' := W1) (fun g _ hl e => g1.block g hl (row_ne hrW hbW (by decide) e))
  have hB1 := Nat.le_trans hBW b1.size
  have one : ∀ u ∈ x.cl, u.oneCell' = true := fun u hu => by
    simp only [PV.cl, List.mem_cons, List.not_mem_nil, or_false] at hu
    rcases hu with rfl | rfl | rfl | rfl | rfl | rfl
    · rfl
    · exact InB.one ix.1
    · exact InB.one ix.2.1
    · rfl
    · rfl
    · exact InB.one ix.2.2
  obtain ⟨g', c', W2, r2, o2, b2, k2⟩ := row_push row1 x one (by have := h.few; omega) hB1
  have B1 : Below w.heap.size w W1 := (grown_bel (h.gr.trans gW)).trans (b1.mono (by omega))
  have B2 : Below w.heap.size w W2 := B1.trans (b2.mono (by omega))
  have bG2 : Blk W2 gG #[.int .i64 G.1, .int .i64 G.2.1, .int .i64 G.2.2] 49 := (b2.block gG (Nat.lt_succ_self _)).trans ((b1.block gG (Nat.lt_succ_self _)).trans (h.bG.grown gW))
  have hb2 : OwnB (gG + 1) W2 v' (lay (qs ++ [x])) := by rw [lay_snoc]; exact k2 _ _ _ o1
  have in2 : ∀ y ∈ qs ++ [x], Lists w y := fun y hy => by
    rcases List.mem_append.1 hy with hy | hy
    · exact h.in_ y hy
    · simp only [List.mem_singleton] at hy; subst hy; exact ix
  have tt2 : (lay (qs ++ [x])).length + tot (xs.drop (k + 1)) ≤ tot xs := by rw [lay_snoc, List.length_append]; omega
  have few2 : (qs ++ [x]).length ≤ k + 1 := by have := h.few; simp; omega
  have em : (qs ++ [x]).map PV.p = qs.map PV.p ++ [x.p] := by simp
  have fp := found_p hf
  refine ⟨v', W1, r1, below_grown B1, g', c', W2, r2, below_grown B2, fun h2 => ?_, fun h2 => ?_⟩
  · have L : LaidF G ((qs ++ [x]).map PV.p) := by rw [em]; exact (h.ns rfl).2.snoc g fp h2
    exact ⟨hb2, o2, in2, few2, tt2, laid_of L, fun _ => ⟨rfl, L⟩, ⟨by omega, by omega⟩, bG2, below_grown B2, Nat.le_trans hB1 b2.size⟩
  · have gd := g.d
    exact ⟨hb2, o2, in2, few2, tt2, by rw [em]; exact laid_last g fp h2 (h.ns rfl).2, (fun e => by cases e), ⟨by omega, by omega⟩, bG2, below_grown B2, Nat.le_trans hB1 b2.size⟩

theorem laid_good {n : Int} {G : Lg} {s : Bool} {ps : List Pk} (h : Rw.Laid n G s ps) : ∀ p ∈ ps, Good p := by
  induction h with
  | nil => intro p hp; cases hp
  | last p h hf h2 hn => intro q hq; simp only [List.mem_singleton] at hq; subst hq; exact h
  | cons s p ps h hf h2 t ih =>
    intro q hq
    rcases List.mem_cons.1 hq with rfl | hq
    · exact h
    · exact ih q hq
theorem lay_count : ∀ (ps : List Pk), (∀ p ∈ ps, Good p) → ps.length ≤ (ps.flatMap bytesP).length
  | [], _ => Nat.le_refl _
  | p :: ps, h => by
    have h1 := Rw.bytesP_pos p (h p (by simp))
    have h2 := lay_count ps (fun q hq => h q (by simp [hq]))
    simp only [List.flatMap_cons, List.length_append, List.length_cons]
    omega

structure TailI (w : World) (gG : Nat) (G : Lg) (n : Int) (s : Bool) (qs : List PV) (R : List Int) (wv : Value) (v : Value) (wc : World) : Prop where
  hb : OwnB (gG + 1) wc v (lay qs ++ R)
  row : wc.ownsRow (gG + 1) 29 6 wv qs.length (qs.flatMap PV.cl)
  in_ : ∀ x ∈ qs, Lists w x
  ld : Rw.Laid n G s (qs.map PV.p)
  n20 : 0 ≤ n ∧ n ≤ 20
  bG : Blk wc gG #[.int .i64 G.1, .int .i64 G.2.1, .int .i64 G.2.2] 49
  gr : w.grownBy wc none
  hs : s = true → R = []
  hR : R = [] ∨ ∃ x R', R = x :: R' ∧ 0 ≤ x ∧ x < 64
  by_ : ∀ x ∈ R, IsB x
  ln : (lay qs ++ R).length ≤ 80000000

theorem lay_bytes {w : World} {qs : List PV} (hg : ∀ p ∈ qs.map PV.p, Good p) (hi : ∀ x ∈ qs, Lists w x) : ∀ x ∈ lay qs, IsB x := by
  intro x hx
  obtain ⟨p, hp, hx⟩ := List.mem_flatMap.1 hx
  have g := hg p hp
  obtain ⟨y, hy, rfl⟩ := List.mem_map.1 hp
  obtain ⟨i1, i2, i3⟩ := hi y hy
  exact bytesP_byte g i1.bytes i2.bytes i3.bytes x hx

theorem row_shape {B : Nat} {w : World} {wv : Value} {n : Nat} {e : TypeId} {sz : Nat} {xs : List Value} (h : w.ownsRow B e sz wv n xs) : ∃ a c, wv = .slice a n c := by
  rcases h.2 with ⟨rfl, rfl⟩ | ⟨g, cap, cur, rfl, -⟩
  · exact ⟨_, _, rfl⟩
  · exact ⟨_, _, rfl⟩

end Go.Proofs.Ytpcnpdippnljpaa

namespace Go.Proofs.Ytpcnpdippnljpaa
open Go.ChangeShapes Go.WideShapes Go.ChangeAt Go.RowKit
set_option linter.unusedVariables false
set_option maxRecDepth 100000
set_option maxHeartbeats 1000000

theorem tot_bulk {H : Type} : ∀ (xs : List PV) (ds : List (DataW H)), xs.length = ds.length → (∀ (i : Nat) (x : PV) (d : DataW H), xs[i]? = some x → ds[i]? = some d → x.p.payload.length ≤ Rows.uptoBulk d) → tot xs ≤ 61 * Rows.uptoBulkAll ds
  | [], _, _, _ => Nat.zero_le _
  | x :: xs, [], hl, _ => by simp at hl
  | x :: xs, d :: ds, hl, h => by
    have h1 := h 0 x d rfl rfl
    have h2 := bulk_pos d
    have h3 := tot_bulk xs ds (by simpa using hl) (fun i y e hy he => h (i + 1) y e (by simpa using hy) (by simpa using he))
    simp only [tot, Rows.uptoBulkAll]
    omega

section
variable {H : Type} {enc : TypeId × Value → H} {w : World} {base : Nat} {held : Bool}

theorem pk_cells {n : Nat} {cs : List Value} {y : DataW H × List MemPlace} (h2 : DataW.trod enc Try.prog w base (fun _ => true) held n 29 cs = some y) (hl : cs.length = 6) :
    ∃ x : PV, Lists w x ∧ cs = x.cl ∧ x.p.dst.length ≤ Rows.uptoBulk y.1 ∧ x.p.src.length ≤ Rows.uptoBulk y.1 ∧ x.p.payload.length ≤ Rows.uptoBulk y.1 := by
  have c3 : Try.prog.cellsOf 3 = 1 := by kernel_rfl
  have c2 : Try.prog.cellsOf 2 = 1 := by kernel_rfl
  have cB : Try.prog.cellsOf 27 = 1 := by kernel_rfl
  obtain ⟨xs, m, -, hx, -, hxl, hff⟩ := DataW.trod_struct Try.underlying29 h2
  match cs, hl, xs, hxl with
  | [v0, v1, v2, v3, v4, v5], _, [y0, y1, y2, y3, y4, y5], _ =>
    have f0 := hff 0 _ rfl
    have f1 := hff 1 _ rfl
    have f2 := hff 2 _ rfl
    have f3 := hff 3 _ rfl
    have f4 := hff 4 _ rfl
    have f5 := hff 5 _ rfl
    simp [c2, c3, cB] at f0 f1 f2 f3 f4 f5
    obtain ⟨a0, e0, -⟩ := DataW.trod_int Try.underlying3 f0
    obtain ⟨a3, e3, -⟩ := DataW.trod_int Try.underlying2 f3
    obtain ⟨a4, e4, -⟩ := DataW.trod_int Try.underlying3 f4
    obtain ⟨p1, l1, k1, z1, e1, r1, q1⟩ := row_cells f1
    obtain ⟨p2, l2, k2, z2, e2, r2, q2⟩ := row_cells f2
    obtain ⟨p5, l5, k5, z5, e5, r5, q5⟩ := row_cells f5
    simp only [List.cons.injEq, and_true] at e0 e1 e2 e3 e4 e5
    subst e0 e1 e2 e3 e4 e5
    have hy : y.1 = .agg [y0.1, y1.1, y2.1, y3.1, y4.1, y5.1] := by rw [hx]; rfl
    have h3 : Rows.uptoBulk y.1 = Rows.uptoBulkAll [y0.1, y1.1, y2.1, y3.1, y4.1, y5.1] + 1 := by rw [hy, Rows.uptoBulk]
    have b1 := Nat.le_trans (row_bulk q1) (bulk_among (d := y1.1) (l := [y0.1, y1.1, y2.1, y3.1, y4.1, y5.1]) (by simp))
    have b2 := Nat.le_trans (row_bulk q2) (bulk_among (d := y2.1) (l := [y0.1, y1.1, y2.1, y3.1, y4.1, y5.1]) (by simp))
    have b5 := Nat.le_trans (row_bulk q5) (bulk_among (d := y5.1) (l := [y0.1, y1.1, y2.1, y3.1, y4.1, y5.1]) (by simp))
    exact ⟨⟨⟨a0, z1.take l1, z2.take l2, a3, a4, z5.take l5⟩, _, _, _⟩, ⟨isRow_in r1, isRow_in r2, isRow_in r5⟩, rfl, by show (z1.take l1).length ≤ _; omega, by show (z2.take l2).length ≤ _; omega, by show (z5.take l5).length ≤ _; omega⟩

theorem list_of {P : Nat → PV → Prop} : ∀ n : Nat, (∀ i, i < n → ∃ x, P i x) → ∃ l : List PV, l.length = n ∧ ∀ i x, l[i]? = some x → P i x
  | 0, _ => ⟨[], rfl, fun i x h => by simp at h⟩
  | n + 1, h => by
    obtain ⟨l, hl, hP⟩ := list_of n (fun i hi => h i (by omega))
    obtain ⟨x, hx⟩ := h n (by omega)
    refine ⟨l ++ [x], by simp [hl], fun i y hy => ?_⟩
    by_cases c : i < n
    · rw [List.getElem?_append_left (by omega)] at hy
      exact hP i y hy
    · have hi : i < (l ++ [x]).length := (List.getElem?_eq_some_iff.1 hy).1
      simp [hl] at hi
      obtain rfl : i = n := by omega
      rw [List.getElem?_append_right (by omega), hl] at hy
      simp at hy
      subst hy
      exact hx

theorem open_pks {a : Option Addr} {len cap fuel : Nat} {x : DataW H × List MemPlace} (hf : DataW.trod enc Try.prog w base (fun _ => true) held fuel 22 [.slice a len cap] = some x) (hb : Rows.uptoBulk x.1 ≤ 1048576) :
    ∃ xs, IsPks w a len cap xs ∧ tot xs ≤ 70000000 ∧ len ≤ 1048576 := by
  have c6 : Try.prog.cellsOf 29 = 6 := by kernel_rfl
  rcases Go.Deep.open_slice Try.underlying22 hf with ⟨hcs, _⟩ | ⟨ad, l, c, m, n, D, Pl, hcs, _, hl, hm, hmm, hxe, hx⟩
  · simp at hcs
    obtain ⟨rfl, rfl, rfl⟩ := hcs
    exact ⟨[], ⟨rfl, by omega, by simp, by simp, .inl rfl⟩, by simp [tot], by omega⟩
  · simp at hcs
    obtain ⟨rfl, rfl, rfl⟩ := hcs
    have hlm : len ≤ m := by rw [hmm]; split <;> omega
    have bk : Rows.uptoBulkAll ((List.range len).map D) ≤ 1048575 := by
      have : x.1 = .slice ((List.range len).map D) ((List.range (m - len)).map fun j => D (len + j)) := by rw [hxe]
      rw [this] at hb
      simp only [Rows.uptoBulk] at hb
      omega
    have each : ∀ i, i < len → ∃ x : PV, (Lists w x ∧ x.p.dst.length ≤ Rows.uptoBulk (D i) ∧ x.p.src.length ≤ Rows.uptoBulk (D i) ∧ x.p.payload.length ≤ Rows.uptoBulk (D i)) ∧ ∀ j v, x.cl[j]? = some v → w.cell? (ad.add (i * 6) |>.add j) = some v := fun i hi => by
      obtain ⟨cs', h1, h2⟩ := hx i (by omega)
      rw [c6] at h1
      obtain ⟨_, hlen, hcell⟩ := World.cells?_some h1
      obtain ⟨x, ok, rfl, b1, b2, b3⟩ := pk_cells h2 hlen
      exact ⟨x, ⟨ok, b1, b2, b3⟩, fun j v hj => by rw [hcell j (by have := (List.getElem?_eq_some_iff.1 hj).1; exact this)]; exact hj⟩
    obtain ⟨xs, hxs, hP⟩ := list_of len each
    have small : ∀ i, i < len → Rows.uptoBulk (D i) ≤ 1048575 := fun i hi => Nat.le_trans (bulk_among (List.mem_map.2 ⟨i, by simpa using hi, rfl⟩)) bk
    have tl : len ≤ 1048576 := by
      have := bulk_count ((List.range len).map D)
      simp only [List.length_map, List.length_range] at this
      omega
    have tt := tot_bulk xs ((List.range len).map D) (by simp [hxs]) (fun i x d hxi hd => by
      have hi : i < len := by rw [← hxs]; exact (List.getElem?_eq_some_iff.1 hxi).1
      rw [List.getElem?_map, List.getElem?_range hi] at hd
      simp only [Option.map_some, Option.some.injEq] at hd
      subst hd
      exact (hP i x hxi).1.2.2.2)
    refine ⟨xs, ⟨hxs, ⟨hl, by unfold maxLen at hm; omega⟩, fun x hx => ?_, fun x hx => ?_, ?_⟩, by omega, tl⟩
    · obtain ⟨i, hi⟩ := List.getElem?_of_mem hx
      exact (hP i x hi).1.1
    · obtain ⟨i, hi⟩ := List.getElem?_of_mem hx
      have hil : i < len := by rw [← hxs]; exact (List.getElem?_eq_some_iff.1 hi).1
      have := (hP i x hi).1
      have := small i hil
      omega
    · by_cases h0 : len = 0
      · exact .inl h0
      · right
        obtain ⟨x, ok, hc⟩ := each 0 (by omega)
        have hs : ad.spot = none := by
          have := hc 0 _ rfl
          unfold World.cell? at this
          split at this
          · split at this
            · cases this
            · rename_i hsp
              cases hsq : ad.spot with
              | none => rfl
              | some q => simp [Addr.add, hsq] at hsp
          · cases this
        obtain ⟨bb, off, sp⟩ := ad
        simp only at hs
        subst hs
        refine ⟨bb, off, rfl, fun i x hx j hj => ?_⟩
        have h6 : x.cl.length = 6 := rfl
        have hv : x.cl[j]? = some (x.cl[j]'(by omega)) := List.getElem?_eq_getElem _
        have := (hP i x hx).2 j _ hv
        simp only [Addr.add_lit] at this
        rw [hv, ← this]
end
end Go.Proofs.Ytpcnpdippnljpaa

namespace Go.Proofs.Ytpcnpdippnljpaa
open Go.RowKit
set_option linter.unusedVariables false
set_option linter.unusedSimpArgs false
set_option maxRecDepth 100000
set_option maxHeartbeats 4000000

/-- All but the blocks of S is as it was. -/
structure Kq (S : Nat → Prop) (w w' : World) : Prop where
  os : w'.os = w.os
  tape : w'.tape = w.tape
  output : w'.output = w.output
  size : w.heap.size ≤ w'.heap.size
  block : ∀ i, i < w.heap.size → ¬ S i → w'.heap[i]? = w.heap[i]?
theorem Kq.grown {S : Nat → Prop} {w w' : World} (g : w.grownBy w' none) : Kq S w w' := ⟨g.os, g.tape, g.output, g.size, fun i hi _ => g.block i hi (by simp)⟩
theorem Kq.trans {S : Nat → Prop} {a b c : World} (h : Kq S a b) (k : Kq S b c) : Kq S a c := ⟨k.os.trans h.os, k.tape.trans h.tape, k.output.trans h.output, Nat.le_trans h.size k.size, fun i hi hn => (k.block i (Nat.lt_of_lt_of_le hi h.size) hn).trans (h.block i hi hn)⟩
theorem Kq.mono {S T : Nat → Prop} {a b : World} (h : Kq S a b) (hs : ∀ i, i < a.heap.size → S i → T i) : Kq T a b := ⟨h.os, h.tape, h.output, h.size, fun i hi hn => h.block i hi (fun q => hn (hs i hi q))⟩
theorem Kq.below {S : Nat → Prop} {B : Nat} {w0 a b : World} (h : Kq S a b) (hs : ∀ i, S i → B ≤ i) (hb : Below B w0 a) (hB : B ≤ a.heap.size) : Below B w0 b :=
  hb.trans ⟨h.os, h.tape, h.output, h.size, fun i hi => h.block i (by omega) (fun q => by have := hs i q; omega)⟩
theorem blk_ty {w : World} {i : Nat} {c1 c2 : Array Value} {t1 t2 : TypeId} (h1 : Blk w i c1 t1) (h2 : Blk w i c2 t2) : t1 = t2 := by
  have a : w.heap[i]? = some (.cells c1 t1 (0, 0)) := h1
  have b : w.heap[i]? = some (.cells c2 t2 (0, 0)) := h2
  rw [a] at b
  simp only [Option.some.injEq, Obj.cells.injEq, and_true] at b
  exact b.2
theorem owns_ty {w : World} {B : Nat} {t : TypeId} {sz : Nat} {v : Value} {n : Nat} {xs : List Value} (h : w.ownsRow B t sz v n xs) : ∀ g, v.ownBlock = some g → ∃ cs, Blk w g cs t := fun g e => by
  rcases h.2 with ⟨rfl, -⟩ | ⟨g', c, cur, rfl, q1, q2, -⟩
  · cases e
  · cases e; exact ⟨cur, q2⟩

/-- A packet that is lent: its loan, its three lists, what it says; its blocks lie from lo on. -/
structure Ln where
  gl : Nat
  t1 : LT
  t2 : LT
  t3 : LT
  p : Pk
  lo : Nat
def Ln.pv (x : Ln) : PV := ⟨x.p, x.t1.v, x.t2.v, x.t3.v⟩
def Ln.has (x : Ln) (i : Nat) : Prop := i = x.gl ∨ i = x.t1.g ∨ i = x.t1.gf ∨ i = x.t1.gw ∨ i = x.t2.g ∨ i = x.t2.gf ∨ i = x.t2.gw ∨ i = x.t3.g ∨ i = x.t3.gf ∨ i = x.t3.gw
structure Ln.ok (x : Ln) (w0 : World) (B : Nat) (W : World) : Prop where
  ex : ∃ u1 u2 u3, Loan w0 B W x.gl x.p x.t1 x.t2 x.t3 u1 u2 u3 ∧ (∀ g, u1.ownBlock = some g ∨ u2.ownBlock = some g ∨ u3.ownBlock = some g → x.lo ≤ g)
  lo : B ≤ x.lo
  hs : ∀ i, x.has i → x.lo ≤ i
section
variable {x : Ln} {w0 W W' : World} {B : Nat}
theorem Ln.ok.lt (h : x.ok w0 B W) : ∀ i, x.has i → i < W.heap.size := by
  obtain ⟨u1, u2, u3, L, -⟩ := h.ex
  have a := L.k1.lts
  have b := L.k2.lts
  have c := L.k3.lts
  have d := L.blk.lt
  rintro i (e | e | e | e | e | e | e | e | e | e) <;> omega
/-- Nothing from lo on was written. -/
theorem Ln.ok.keep (h : x.ok w0 B W) (hb : Below B w0 W') (hk : ∀ i, x.lo ≤ i → i < W.heap.size → W'.heap[i]? = W.heap[i]?) : x.ok w0 B W' := by
  obtain ⟨u1, u2, u3, L, hu⟩ := h.ex
  have lt := h.lt
  have hs := h.hs
  have ke : ∀ i, x.has i → W'.heap[i]? = W.heap[i]? := fun i hi => hk i (hs i hi) (lt i hi)
  refine ⟨⟨u1, u2, u3, ⟨(ke _ (.inl rfl)).trans L.blk, L.k1.keep (ke _ (.inr (.inl rfl))) (ke _ (.inr (.inr (.inl rfl)))) (ke _ (.inr (.inr (.inr (.inl rfl))))) hb, L.k2.keep (ke _ (.inr (.inr (.inr (.inr (.inl rfl)))))) (ke _ (.inr (.inr (.inr (.inr (.inr (.inl rfl))))))) (ke _ (.inr (.inr (.inr (.inr (.inr (.inr (.inl rfl)))))))) hb, L.k3.keep (ke _ (.inr (.inr (.inr (.inr (.inr (.inr (.inr (.inl rfl))))))))) (ke _ (.inr (.inr (.inr (.inr (.inr (.inr (.inr (.inr (.inl rfl)))))))))) (ke _ (.inr (.inr (.inr (.inr (.inr (.inr (.inr (.inr (.inr rfl)))))))))) hb, L.e1, L.e2, L.e3, ?_, ?_, ?_, L.r12, L.r23, L.low, hb⟩, hu⟩, h.lo, h.hs⟩
  · exact L.o1.kept fun g e => hk g (hu g (.inl e)) (L.o1.ltb g e).2
  · exact L.o2.kept fun g e => hk g (hu g (.inr (.inl e))) (L.o2.ltb g e).2
  · exact L.o3.kept fun g e => hk g (hu g (.inr (.inr e))) (L.o3.ltb g e).2
theorem Ln.ok.bel (h : x.ok w0 B W) : Below B w0 W := by
  obtain ⟨u1, u2, u3, L, -⟩ := h.ex
  exact L.bel
theorem Ln.ok.bs (h : x.ok w0 B W) : B ≤ W.heap.size := by
  have := h.lo
  have := h.hs _ (.inl rfl)
  have := h.lt _ (.inl rfl)
  omega
theorem Ln.ok.grown (h : x.ok w0 B W) (g : W.grownBy W' none) : x.ok w0 B W' := h.keep (h.bel.trans ((grown_bel g).mono h.bs)) fun i _ hi => g.block i hi (by simp)
/-- A row of another kind has grown. -/
theorem Ln.ok.other (h : x.ok w0 B W) {t : TypeId} {sz n : Nat} {v : Value} {xs : List Value} (hr : W.ownsRow B t sz v n xs) (t1 : t ≠ 32) (t2 : t ≠ 75) (t3 : t ≠ 5) (k : Kq (fun i => v.ownBlock = some i) W W') : x.ok w0 B W' := by
  have hb : Below B w0 W' := k.below (fun i e => (hr.lt i e).1) h.bel h.bs
  obtain ⟨u1, u2, u3, L, hu⟩ := h.ex
  have ty := owns_ty hr
  have b5 : ∀ {v2 : Value} {k2 B2 : Nat} {ys : List Value}, W.ownsRow B2 5 1 v2 k2 ys → ∀ g, v2.ownBlock = some g → W'.heap[g]? = W.heap[g]? := fun h5 g e => k.block g (h5.lt g e).2 (fun q => by
    obtain ⟨c1, e1⟩ := owns_ty h5 g e
    obtain ⟨c2, e2⟩ := ty g q
    exact t3 (blk_ty e2 e1))
  have bl : ∀ {g : Nat} {cs : Array Value} {t' : TypeId}, Blk W g cs t' → t ≠ t' → W'.heap[g]? = W.heap[g]? := fun h5 hn => k.block _ h5.lt (fun q => by
    obtain ⟨c2, e2⟩ := ty _ q
    exact hn (blk_ty e2 h5))
  have kt : ∀ {y : LT}, y.ok w0 B W → y.ok w0 B W' := fun hy => hy.keep (bl hy.lent.blk t2) (b5 hy.lent.full _ rfl) (b5 hy.lent.was _ rfl) hb
  exact ⟨⟨u1, u2, u3, ⟨(bl L.blk t1).trans L.blk, kt L.k1, kt L.k2, kt L.k3, L.e1, L.e2, L.e3, L.o1.kept (b5 L.o1), L.o2.kept (b5 L.o2), L.o3.kept (b5 L.o3), L.r12, L.r23, L.low, hb⟩, hu⟩, h.lo, h.hs⟩
/-- What Lend made. -/
theorem Ln.made {p : Pk} {e : Ending} (hl : LendPost W W.heap.size p W e W') (hb : Below B w0 W) (hB : B ≤ W.heap.size) : ∃ x : Ln, e = .returned (.pointer (some ⟨x.gl, 0, none⟩)) ∧ x.ok w0 B W' ∧ x.p = p ∧ x.lo = W.heap.size ∧ W.grownBy W' none := by
  obtain ⟨gl, t1, t2, t3, u1, u2, u3, rfl, L, g⟩ := hl
  have hb' : Below B w0 W' := hb.trans ((grown_bel g).mono hB)
  have a := L.k1.lts
  have b := L.k2.lts
  have c := L.k3.lts
  have d := L.low
  have kt : ∀ {y : LT}, y.ok W W.heap.size W' → y.ok w0 B W' := fun hy => ⟨⟨hy.lent.blk, hy.lent.full, hy.lent.was, hy.lent.sep, hb', Nat.le_trans hB hy.lent.low⟩, hy.byte⟩
  refine ⟨⟨gl, t1, t2, t3, p, W.heap.size⟩, rfl, ⟨⟨u1, u2, u3, ⟨L.blk, kt L.k1, kt L.k2, kt L.k3, L.e1, L.e2, L.e3, L.o1.mono hB, L.o2.mono hB, L.o3.mono hB, L.r12, L.r23, Nat.le_trans hB d, hb'⟩, fun g hg => ?_⟩, hB, ?_⟩, rfl, rfl, g⟩
  · rcases hg with e | e | e
    · exact (L.o1.ltb g e).1
    · exact (L.o2.ltb g e).1
    · exact (L.o3.ltb g e).1
  · rintro i (e | e | e | e | e | e | e | e | e | e) <;> simp only at e ⊢ <;> omega
/-- What it holds may be read. -/
theorem Ln.ok.inB (h : x.ok w0 B W) : InB W x.t1.v x.p.dst ∧ InB W x.t2.v x.p.src ∧ InB W x.t3.v x.p.payload := by
  obtain ⟨u1, u2, u3, L, -⟩ := h.ex
  have a := L.k1.inB
  have b := L.k2.inB
  have c := L.k3.inB
  rw [L.e1] at a
  rw [L.e2] at b
  rw [L.e3] at c
  exact ⟨a, b, c⟩
end
end Go.Proofs.Ytpcnpdippnljpaa

namespace Go.Proofs.Ytpcnpdippnljpaa
open Go.RowKit
set_option linter.unusedVariables false
set_option linter.unusedSimpArgs false
set_option maxRecDepth 100000
set_option maxHeartbeats 4000000

theorem push_at (t sT : TypeId) (sz by_ : Nat) (z : Value) (hu : Try.prog.underlying sT = some (.slice t)) (hinfo : (Try.prog.info? t).map (fun i => (i.zero, i.size, i.bytes)) = some (some z, sz, by_)) (hz : z.cells.size = sz) (h0 : 0 < sz) {W : World} {B n : Nat} {v : Value} {xs : List Value} (h : W.ownsRow B t sz v n xs)
    (m : Nat) (cs : Array Value) (hcs : cs.size = m * sz) (one : ∀ u ∈ cs.toList, u.oneCell' = true) (hm : 0 < m) (hn : (n + m) * by_ ≤ 140737488355328) (hn2 : n + m ≤ maxLen) (hB : B ≤ W.heap.size) :
    ∃ a c W', (Builtin.append_ #[sT, sT] sT #[v, .slice (some ⟨W.heap.size, 0, none⟩) m m]).run Try.prog (W.alloc (.cells cs t)) = .ok (.slice a (n + m) c) W' ∧ W'.ownsRow B t sz (.slice a (n + m) c) (n + m) (xs ++ cs.toList) ∧ Kq (fun i => v.ownBlock = some i) W W' := by
  obtain ⟨i, hi, hz0, hz1, hz2⟩ := info_parts hinfo
  have gA := World.grownBy_alloc W (.cells cs t) none
  have hA : (W.alloc (.cells cs t)).ownsRow B t sz v n xs := row_kpt h (fun i _ hi _ => gA.block i hi (by simp))
  have hb : Blk (W.alloc (.cells cs t)) W.heap.size cs t := Blk.new W cs t
  obtain ⟨v', W', hrun, ho, hgr, -, -⟩ := run_append_own_at (P := Try.prog) (W.alloc (.cells cs t)) B sT sT t i z sz by_ hu hi hz0 hz1 hz2 hz h0 v n xs hA ⟨W.heap.size, 0, none⟩ m m cs.toList (by simp [hcs]) (fun j u hj => by
    rw [Addr.add_lit, Nat.zero_add]
    exact hb.cell j u (by simpa using hj)) one hn2 hn (Nat.le_trans hB gA.size)
  obtain ⟨a, c, rfl⟩ : ∃ a c, v' = .slice a (n + m) c := by
    rcases ho.2 with ⟨-, e2⟩ | ⟨g, cap, cur, e, -⟩
    · omega
    · exact ⟨_, _, e⟩
  exact ⟨a, c, W', hrun, ho, hgr.os.trans gA.os, hgr.tape.trans gA.tape, hgr.output.trans gA.output, Nat.le_trans gA.size hgr.size, fun k hk hn => (hgr.block k (Nat.lt_of_lt_of_le hk gA.size) (fun e => hn e.symm)).trans (gA.block k hk (by simp))⟩

theorem Try.infoLP : (Try.prog.info? 25).map (fun i => (i.zero, i.size, i.bytes)) = some (some (.pointer none), 1, 8) := by kernel_rfl

def Ln.ptr (x : Ln) : Value := .pointer (some ⟨x.gl, 0, none⟩)
/-- The loans that were made, in a row, and the packets that they lend, in another one. -/
structure LnRow (w0 : World) (B : Nat) (W : World) (lv ov : Value) (xs : List Ln) : Prop where
  lr : W.ownsRow B 25 1 lv xs.length (xs.map Ln.ptr)
  pr : W.ownsRow B 29 6 ov xs.length ((xs.map Ln.pv).flatMap PV.cl)
  ok : ∀ x ∈ xs, x.ok w0 B W
  up : xs.Pairwise (fun x y => ∀ i, x.has i → i < y.lo)
  bel : Below B w0 W
  bs : B ≤ W.heap.size
section
variable {w0 W W' : World} {B : Nat} {lv ov : Value} {xs : List Ln}
theorem LnRow.nil (W : World) : LnRow W W.heap.size W nilV nilV [] := ⟨World.ownsRow_nil _ _ _ _, World.ownsRow_nil _ _ _ _, by simp, List.Pairwise.nil, Below.refl _ _, Nat.le_refl _⟩
theorem LnRow.grown (h : LnRow w0 B W lv ov xs) (g : W.grownBy W' none) : LnRow w0 B W' lv ov xs :=
  ⟨row_kpt h.lr (fun i _ hi _ => g.block i hi (by simp)), row_kpt h.pr (fun i _ hi _ => g.block i hi (by simp)), fun x hx => (h.ok x hx).grown g, h.up, h.bel.trans ((grown_bel g).mono h.bs), Nat.le_trans h.bs g.size⟩
theorem ptr_one (x : Ln) : ∀ u ∈ (#[x.ptr] : Array Value).toList, u.oneCell' = true := fun u hu => by
  simp at hu
  subst hu
  rfl
theorem pv_one (x : Ln) : ∀ u ∈ x.pv.cl, u.oneCell' = true := fun u hu => by
  simp only [PV.cl, Ln.pv, List.mem_cons, List.not_mem_nil, or_false] at hu
  rcases hu with rfl | rfl | rfl | rfl | rfl | rfl <;> rfl
/-- A loan more, and its packet. -/
theorem LnRow.push1 (h : LnRow w0 B W lv ov xs) {x : Ln} (hx : x.ok w0 B W) (hl : ∀ y ∈ xs, ∀ i, y.has i → i < x.lo) (few : xs.length ≤ 100000000) :
    ∃ a c W', (Builtin.append_ #[24, 24] 24 #[lv, .slice (some ⟨W.heap.size, 0, none⟩) 1 1]).run Try.prog (W.alloc (.cells #[x.ptr] 25)) = .ok (.slice a (xs.length + 1) c) W' ∧ Below B w0 W' ∧ B ≤ W'.heap.size ∧ x.ok w0 B W' ∧
      ∀ W2, W'.grownBy W2 none → ∃ a2 c2 W3, (Builtin.append_ #[22, 22] 22 #[ov, .slice (some ⟨W2.heap.size, 0, none⟩) 1 1]).run Try.prog (W2.alloc (.cells (x.p.cs x.t1.v x.t2.v x.t3.v) 29)) = .ok (.slice a2 (xs.length + 1) c2) W3 ∧ LnRow w0 B W3 (.slice a (xs.length + 1) c) (.slice a2 (xs.length + 1) c2) (xs ++ [x]) := by
  obtain ⟨a, c, W1, hr, ho, k⟩ := push_at 25 24 1 8 (.pointer none) Try.underlying24 Try.infoLP rfl (by decide) h.lr 1 #[x.ptr] rfl (ptr_one x) (by decide) (by omega) (by unfold maxLen; omega) h.bs
  have hb1 : Below B w0 W1 := k.below (fun i e => (h.lr.lt i e).1) h.bel h.bs
  have bs1 : B ≤ W1.heap.size := Nat.le_trans h.bs k.size
  have ok1 : ∀ y ∈ xs, y.ok w0 B W1 := fun y hy => (h.ok y hy).other h.lr (by decide) (by decide) (by decide) k
  have okx1 : x.ok w0 B W1 := hx.other h.lr (by decide) (by decide) (by decide) k
  have pr1 : W1.ownsRow B 29 6 ov xs.length ((xs.map Ln.pv).flatMap PV.cl) := row_kpt h.pr (fun i _ hi e => k.block i hi (fun q => row_ne h.pr h.lr (by decide) e q.symm))
  refine ⟨a, c, W1, hr, hb1, bs1, okx1, fun W2 g2 => ?_⟩
  have lr2 := row_kpt ho (w' := W2) (fun i _ hi _ => g2.block i hi (by simp))
  have pr2 := row_kpt pr1 (w' := W2) (fun i _ hi _ => g2.block i hi (by simp))
  have hb2 : Below B w0 W2 := hb1.trans ((grown_bel g2).mono bs1)
  have bs2 : B ≤ W2.heap.size := Nat.le_trans bs1 g2.size
  obtain ⟨a2, c2, W3, hr3, ho3, k3⟩ := push_at 29 22 6 96 (.agg (pcs 0 nilV nilV 0 0 nilV)) Try.underlying22 Try.infoP rfl (by decide) pr2 1 (x.p.cs x.t1.v x.t2.v x.t3.v) rfl (pv_one x) (by decide) (by omega) (by unfold maxLen; omega) bs2
  refine ⟨a2, c2, W3, hr3, ?_, ?_, ?_, ?_, k3.below (fun i e => (pr2.lt i e).1) hb2 bs2, Nat.le_trans bs2 k3.size⟩
  · rw [List.length_append, List.map_append]
    exact row_kpt lr2 (fun i _ hi e => k3.block i hi (fun q => row_ne lr2 pr2 (by decide) e q.symm))
  · rw [List.length_append, List.map_append, List.flatMap_append]
    have e : [x.pv].flatMap PV.cl = (x.p.cs x.t1.v x.t2.v x.t3.v).toList := by simp [PV.cl, Ln.pv]
    rw [show List.map Ln.pv [x] = [x.pv] from rfl, e]
    exact ho3
  · intro y hy
    rcases List.mem_append.1 hy with hy | hy
    · exact ((ok1 y hy).grown g2).other pr2 (by decide) (by decide) (by decide) k3
    · simp only [List.mem_singleton] at hy
      subst hy
      exact (okx1.grown g2).other pr2 (by decide) (by decide) (by decide) k3
  · rw [List.pairwise_append]
    exact ⟨h.up, by simp, fun y hy z hz => by simp only [List.mem_singleton] at hz; subst hz; exact hl y hy⟩
end
end Go.Proofs.Ytpcnpdippnljpaa

namespace Go.Proofs.Ytpcnpdippnljpaa
open Go.RowKit
set_option linter.unusedVariables false
set_option linter.unusedSimpArgs false
set_option maxRecDepth 100000
set_option maxHeartbeats 4000000

section
variable {P : Program}
theorem app_keepN (w : World) (base : Nat) (t ty e : TypeId) (i : TypeInfo) (z : Value) (size bytes : Nat) (ht : P.underlying t = some (.slice e)) (hi : P.info? e = some i) (hz : i.zero = some z)
    (hsize : i.size = size) (hsz : 0 < size) (hby : i.bytes = bytes) (hzs : z.cells.size = size)
    (v : Value) (n : Nat) (xs : List Value) (hown : w.ownsRow base e size v n xs)
    (a : Addr) (m c : Nat) (news : List Value) (hl : news.length = m * size) (hnews : ∀ j u, news[j]? = some u → w.cell? (a.add j) = some u) (h1 : ∀ u ∈ news, u.oneCell' = true)
    (hm : 0 < m) (h63 : n + m ≤ maxLen) (hbytes : (n + m) * bytes ≤ 140737488355328) (hbase : base ≤ w.heap.size) :
    ∃ v' w', (Builtin.append_ #[t, t] ty #[v, .slice (some a) m c]).run P w = .ok v' w' ∧ w'.ownsRow base e size v' (n + m) (xs ++ news) ∧ Moved w w' v v' ∧ v' ≠ .slice none 0 0 := by
  obtain ⟨v', w', hr, ho, hg, hnil⟩ := run_append_own (P := P) w base t ty e i z size bytes ht hi hz hsize hby hzs hsz v n xs hown a m c news hl hnews h1 h63 hbytes hbase
  refine ⟨v', w', hr, ho, ?_, fun h => by have := (hnil.1 h).2; omega⟩
  have h63' : n + m ≤ 9223372036854775807 := by simp only [maxLen] at h63; omega
  rcases hown.2 with ⟨rfl, rfl⟩ | ⟨g, cap, cur, rfl, hbg, hgg, hnc, hcm, hcs, htake⟩
  · have := run_append_nil (P := P) w t ty e i z ht hi hz a m c news (by rw [hsize]; exact hl) hnews hm (by omega) (by rw [hby]; simp only [Nat.zero_add] at hbytes; omega)
    rw [this] at hr
    injection hr with e1 e2
    subst e1 e2
    exact .inr ⟨rfl, grown_drew_alloc w _⟩
  · by_cases hroom : n + m ≤ cap
    · have := run_append_room (P := P) w t ty e i ht hi g n cap cur hgg a m c news (by rw [hsize]; exact hl) hnews h1 hroom (by rw [hsize, hcs, hl, ← Nat.add_mul]; exact Nat.mul_le_mul_right _ hroom)
      rw [this] at hr
      injection hr with e1 e2
      subst e1
      exact .inl ⟨rfl, hg⟩
    · have := run_append_grow (P := P) w t ty e i z ht hi hz ⟨g, 0, none⟩ n cap xs (by rw [hsize]; exact hown.1) (hown.cells (g := g) rfl) a m c news (by rw [hsize]; exact hl) hnews (by omega) (by omega) (growslice_fits (by omega) (by rw [hby]; exact hbytes))
      rw [this] at hr
      injection hr with e1 e2
      subst e1 e2
      exact .inr ⟨rfl, grown_drew_alloc w _⟩
end
theorem OwnI.set {base : Nat} {W : World} {g n c : Nat} {xs : List Int} (h : OwnI base W (.slice (some ⟨g, 0, none⟩) n c) xs) (j : Nat) (x : Int) (hj : j < xs.length) : OwnI base (W.setCell ⟨g, j, none⟩ (.int .i64 x)) (.slice (some ⟨g, 0, none⟩) n c) (xs.set j x) := by
  rcases h.2 with ⟨e1, e2⟩ | ⟨g', c', cur, e1, q1, q2, q3, q4, q5, q6⟩
  · cases e1
  · have e2 := e1
    injection e1 with e1 e1b e1c
    injection e1 with e1
    injection e1 with e1
    subst e1
    subst e1c
    refine ⟨by simp, .inr ⟨g, c, cur.setIfInBounds j (.int .i64 x), by rw [e2]; simp, q1, ?_, by simpa using q3, q4, by simpa using q5, ?_⟩⟩
    · have hb : Blk W g cur 3 := q2
      exact hb.setC j _
    · rw [List.length_set, Array.toList_setIfInBounds, List.take_set, q6]
      simp [List.map_set]
theorem OwnI.thaw {base : Nat} {W : World} {g n c : Nat} {xs : List Int} (h : OwnI base W (.slice (some ⟨g, 0, none⟩) n c) xs) (j : Nat) : W.frozen? ⟨g, j, none⟩ = false := by
  obtain ⟨cs, hb⟩ := owns_ty h g rfl
  exact hb.thaws j
/-- A list that may be read. -/
def RdJ (W : World) (v : Value) (A : List Int) : Prop := ∀ j x, A[j]? = some x → ∃ g, v.ownBlock = some g ∧ W.cell? ⟨g, j, none⟩ = some (.int .i64 x)
theorem RdJ.kept {W W' : World} {v : Value} {A : List Int} (h : RdJ W v A) (hk : ∀ g, v.ownBlock = some g → W'.heap[g]? = W.heap[g]?) : RdJ W' v A := fun j x hx => by
  obtain ⟨g, e, hc⟩ := h j x hx
  exact ⟨g, e, by rw [← hc]; exact World.cell?_of_block (hk g e)⟩
theorem OwnI.rdj {base : Nat} {W : World} {v : Value} {A L : List Int} (h : OwnI base W v (A ++ L)) : RdJ W v A := fun j x hx => by
  obtain ⟨a, c, rfl⟩ := h.shape
  obtain ⟨g, rfl, hc⟩ := h.cell j x (by rw [List.getElem?_append_left (List.getElem?_eq_some_iff.1 hx).1]; exact hx)
  exact ⟨g, rfl, hc⟩
/-- Two lists, and what was appended to each. -/
structure AZ (B : Nat) (w0 W : World) (av bv : Value) (A C : List Int) (xv yv : Value) (k m : Nat) (p q : Int) : Prop where
  a_ : RdJ W av A
  b_ : RdJ W bv C
  x_ : OwnI B W xv (A ++ List.replicate k p)
  y_ : OwnI B W yv (C ++ List.replicate m q)
  sp : ∀ g, (av.ownBlock = some g ∨ xv.ownBlock = some g) → ¬ (bv.ownBlock = some g ∨ yv.ownBlock = some g)
  al : ∀ g, av.ownBlock = some g ∨ bv.ownBlock = some g → g < W.heap.size
  bel : Below B w0 W
  bs : B ≤ W.heap.size
section
variable {B : Nat} {w0 W : World} {av bv xv yv : Value} {A C : List Int} {k m : Nat} {p q : Int}
theorem AZ.swap (h : AZ B w0 W av bv A C xv yv k m p q) : AZ B w0 W bv av C A yv xv m k q p := ⟨h.b_, h.a_, h.y_, h.x_, fun g h1 h2 => h.sp g h2 h1, fun g e => h.al g e.symm, h.bel, h.bs⟩
theorem AZ.push (h : AZ B w0 W av bv A C xv yv k m p q) (hl : A.length + k ≤ 100000000) :
    ∃ a' c' W', (Builtin.append_ #[33, 33] 33 #[xv, .slice (some ⟨W.heap.size, 0, none⟩) 1 1]).run Try.prog (W.alloc (.cells #[.int .i64 p] 3)) = .ok (.slice a' (A.length + (k + 1)) c') W' ∧ AZ B w0 W' av bv A C (.slice a' (A.length + (k + 1)) c') yv (k + 1) m p q := by
  obtain ⟨i, hi, hz0, hz1, hz2⟩ := info_parts Try.infoI3
  have gA := World.grownBy_alloc W (.cells #[.int .i64 p] 3) none
  have ln : (A ++ List.replicate k p).length = A.length + k := by simp
  have e0 : A ++ List.replicate k p ++ [p] = A ++ List.replicate (k + 1) p := by rw [List.append_assoc, ← List.replicate_succ']
  have ln2 : (A ++ List.replicate (k + 1) p).length = A.length + (k + 1) := by simp
  obtain ⟨v', W', hr, ho, hmv, -⟩ := app_keepN (P := Try.prog) (W.alloc (.cells #[.int .i64 p] 3)) B 33 33 3 i (.int .i64 0) 1 8 Try.underlying33 hi hz0 hz1 (by decide) hz2 rfl xv _ _ (h.x_.grown gA) ⟨W.heap.size, 0, none⟩ 1 1 [.int .i64 p] rfl (fun j u hj => by
    rw [Addr.add_lit, Nat.zero_add]
    exact (Blk.new W #[.int .i64 p] 3).cell j u (by simpa using hj)) (by intro u hu; simp at hu; subst hu; rfl) (by decide) (by rw [ln]; unfold maxLen; omega) (by rw [ln]; omega) (Nat.le_trans h.bs gA.size)
  have ho' : OwnI B W' v' (A ++ List.replicate (k + 1) p) := by
    unfold OwnI
    rw [← e0, List.length_append, List.map_append]
    exact ho
  obtain ⟨a', c', rfl⟩ := ho'.shape
  rw [ln2] at hr hmv ho'
  have bA : Below B w0 (W.alloc (.cells #[.int .i64 p] 3)) := h.bel.trans ((grown_bel gA).mono h.bs)
  have bsA : B ≤ (W.alloc (.cells #[.int .i64 p] 3)).heap.size := Nat.le_trans h.bs gA.size
  have sA : ∀ g, g < W.heap.size → (W.alloc (.cells #[.int .i64 p] 3)).heap[g]? = W.heap[g]? := fun g hg => gA.block g hg (by simp)
  have al := h.al
  refine ⟨a', c', W', hr, ?_⟩
  rcases hmv with ⟨e1, g1⟩ | ⟨e1, g1, l1⟩
  · have sW : ∀ g, g < W.heap.size → xv.ownBlock ≠ some g → W'.heap[g]? = W.heap[g]? := fun g hg hn => (g1.block g (Nat.lt_of_lt_of_le hg gA.size) (fun e => hn e.symm)).trans (sA g hg)
    refine ⟨fun j x hx => ?_, h.b_.kept fun g e => sW g (al g (.inr e)) (fun e2 => h.sp g (.inr e2) (.inl e)), ho', h.y_.kept fun g e => sW g (h.y_.lt g e).2 (fun e2 => h.sp g (.inr e2) (.inr e)), fun g hg => h.sp g (hg.imp id (fun e => by rw [← e1]; exact e)), fun g e => Nat.lt_of_lt_of_le (al g e) (Nat.le_trans gA.size g1.size), ?_, Nat.le_trans bsA g1.size⟩
    · obtain ⟨g, e, hc⟩ := h.a_ j x hx
      by_cases hq : xv.ownBlock = some g
      · obtain ⟨g2, e2, hc2⟩ := ho'.rdj j x hx
        rw [e1, hq] at e2
        injection e2 with e2
        subst e2
        exact ⟨g, e, hc2⟩
      · exact ⟨g, e, by rw [← hc]; exact World.cell?_of_block (sW g (al g (.inl e)) hq)⟩
    · exact bA.grown g1 bsA (fun g e => (h.x_.lt g e).1)
  · have sW : ∀ g, g < W.heap.size → W'.heap[g]? = W.heap[g]? := fun g hg => (g1.block g (Nat.lt_of_lt_of_le hg gA.size) (by simp)).trans (sA g hg)
    refine ⟨h.a_.kept fun g e => sW g (al g (.inl e)), h.b_.kept fun g e => sW g (al g (.inr e)), ho', h.y_.kept fun g e => sW g (h.y_.lt g e).2, fun g hg hg2 => ?_, fun g e => Nat.lt_of_lt_of_le (al g e) (Nat.le_trans gA.size g1.size), bA.trans ((grown_bel g1).mono bsA), Nat.le_trans bsA g1.size⟩
    rcases hg with e | e
    · exact h.sp g (.inl e) hg2
    · rw [e1] at e
      injection e with e
      have := gA.size
      rcases hg2 with e2 | e2
      · have := al g (.inr e2); omega
      · have := (h.y_.lt g e2).2; omega
end
end Go.Proofs.Ytpcnpdippnljpaa

namespace Go.Proofs.Ytpcnpdippnljpaa
open Go.RowKit
set_option linter.unusedVariables false
set_option linter.unusedSimpArgs false
set_option maxRecDepth 100000
set_option maxHeartbeats 4000000

theorem apartSizes_any (B : Nat) (av bv : Value) (xs ys : List Int) (w : World) (ha : OwnI B w av xs) (hb : OwnI B w bv ys) (hs : ∀ g, av.ownBlock = some g → bv.ownBlock ≠ some g) (lx : xs.length ≤ 2000000) (ly : ys.length ≤ 2000000) (hB : B ≤ w.heap.size) :
    Calls Try.prog 19 #[av, bv] w fun e w' => e = .returned (.bool true) ∧ Below B w w' := by
  obtain ⟨aa, ac, rfl⟩ := ha.shape
  obtain ⟨ba, bc, rfl⟩ := hb.shape
  obtain ⟨n, hn⟩ : ∃ n, n = xs.length := ⟨_, rfl⟩
  obtain ⟨m, hm⟩ : ∃ m, m = ys.length := ⟨_, rfl⟩
  rw [← hn] at ha hs lx ⊢
  rw [← hm] at hb hs ly ⊢
  have lenN : ¬ (9223372036854775807 : Int) < (n : Int) := by omega
  have lenM : ¬ (9223372036854775807 : Int) < (m : Int) := by omega
  have HA := hide ha
  have I1 : Hid (∃ cur, OwnI B w (.slice aa n ac) cur ∧ cur.length = n ∧ (∀ j : Nat, j < 0 → cur[j]? = some (1000 + (j : Int))) ∧ OwnI B w (.slice ba m bc) ys ∧ Below B w w ∧ B ≤ w.heap.size) := ⟨xs, ha, hn.symm, fun j h => by omega, hb, Below.refl _ _, hB⟩
  have HS := hide hs
  have HM := hide hm
  have HZ : Hid ((∀ g off pt, aa = some ⟨g, off, pt⟩ → off = 0 ∧ pt = none) ∧ (∀ g off pt, ba = some ⟨g, off, pt⟩ → off = 0 ∧ pt = none)) := by
    refine ⟨fun g off pt e => ?_, fun g off pt e => ?_⟩
    · rcases ha.2 with ⟨e1, -⟩ | ⟨g', c, cur, e1, -⟩
      · rw [e] at e1; cases e1
      · rw [e] at e1; cases e1; exact ⟨rfl, rfl⟩
    · rcases hb.2 with ⟨e1, -⟩ | ⟨g', c, cur, e1, -⟩
      · rw [e] at e1; cases e1
      · rw [e] at e1; cases e1; exact ⟨rfl, rfl⟩
  clear ha hb hs hn hm hB HA
  go_enter Try.func19, Try.ntmps19
  go_wp2_with fail
  go_loopw [5] (fun iv wr => ∃ k : Nat, k ≤ n ∧ iv = .int .i64 k ∧ Hid (∃ cur, OwnI B wr (.slice aa n ac) cur ∧ cur.length = n ∧ (∀ j : Nat, j < k → cur[j]? = some (1000 + (j : Int))) ∧ OwnI B wr (.slice ba m bc) ys ∧ Below B w wr ∧ B ≤ wr.heap.size)) (fun iv _ => n - (intOf iv).toNat)
  case atStart => exact ⟨0, Nat.zero_le _, rfl, unhide I1⟩
  case round =>
    clear I1
    obtain ⟨k, hk, rfl, I⟩ := hrel
    by_cases hlt : k < n
    · have hkI : (k : Int) < (n : Int) := by omega
      have hk0 : (0 : Int) ≤ (k : Int) := by omega
      obtain ⟨cur, h1, h2, h3, h4, h5, h6⟩ := unhide I
      obtain ⟨x, hx⟩ : ∃ x, cur[k]? = some x := ⟨_, List.getElem?_eq_getElem (by rw [h2]; exact hlt)⟩
      obtain ⟨ga, rfl, cg⟩ := h1.cell k x hx
      have fg := h1.thaw k
      have w1 : IntKind.i64.wrap (1000 + (k : Int)) = 1000 + (k : Int) := by rw [IntKind.wrap_i64]; omega
      have w2 : IntKind.i64.wrap ((k : Int) + 1) = (k : Int) + 1 := by rw [IntKind.wrap_i64]; omega
      have gg := grown_at (World.grownBy.refl wr (some ga)) k (.int .i64 (1000 + (k : Int)))
      have bsa := (h1.lt ga rfl).1
      have I2 : Hid (∃ cur, OwnI B (wr.setCell ⟨ga, k, none⟩ (.int .i64 (1000 + (k : Int)))) (.slice (some ⟨ga, 0, none⟩) n ac) cur ∧ cur.length = n ∧ (∀ j : Nat, j < k + 1 → cur[j]? = some (1000 + (j : Int))) ∧ OwnI B (wr.setCell ⟨ga, k, none⟩ (.int .i64 (1000 + (k : Int)))) (.slice ba m bc) ys ∧ Below B w (wr.setCell ⟨ga, k, none⟩ (.int .i64 (1000 + (k : Int)))) ∧ B ≤ (wr.setCell ⟨ga, k, none⟩ (.int .i64 (1000 + (k : Int)))).heap.size) := by
        refine ⟨cur.set k (1000 + (k : Int)), h1.set k _ (by omega), by rw [List.length_set]; exact h2, fun j hj => ?_, h4.kept (fun g e => gg.block g (h4.lt g e).2 (fun e2 => unhide HS ga rfl (by cases e2; exact e))), h5.grown gg h6 (fun g e => by cases e; exact bsa), Nat.le_trans h6 gg.size⟩
        by_cases c : j = k
        · subst c
          rw [List.getElem?_set_self (by omega)]
        · rw [List.getElem?_set_ne (fun e => c e.symm)]
          exact h3 j (by omega)
      clear I h1 h2 h3 h4 h5 h6 hx gg bsa
      go_wp2_with fail
      exact ⟨⟨k + 1, hlt, by go_num, unhide I2⟩, by simp [intOf]; omega⟩
    · obtain rfl : k = n := by omega
      have hkI : ¬ (k : Int) < (k : Int) := by omega
      have I2 : Hid (∃ A C, A.length = k ∧ (∀ j : Nat, j < k → A[j]? = some (1000 + (j : Int))) ∧ OwnI B wr (.slice aa k ac) A ∧ OwnI B wr (.slice ba m bc) C ∧ C.length = m ∧ (∀ j : Nat, j < 0 → C[j]? = some (2000 + (j : Int))) ∧ Below B w wr ∧ B ≤ wr.heap.size) := by
        obtain ⟨cur, h1, h2, h3, h4, h5, h6⟩ := unhide I
        exact ⟨cur, ys, h2, h3, h1, h4, (unhide HM).symm, fun j h => by omega, h5, h6⟩
      clear I
      go_wp2_with fail
      go_loopw [6] (fun iv wr => ∃ j : Nat, j ≤ m ∧ iv = .int .i64 j ∧ Hid (∃ A C, A.length = k ∧ (∀ j : Nat, j < k → A[j]? = some (1000 + (j : Int))) ∧ OwnI B wr (.slice aa k ac) A ∧ OwnI B wr (.slice ba m bc) C ∧ C.length = m ∧ (∀ i : Nat, i < j → C[i]? = some (2000 + (i : Int))) ∧ Below B w wr ∧ B ≤ wr.heap.size)) (fun iv _ => m - (intOf iv).toNat)
      case atStart => exact ⟨0, Nat.zero_le _, rfl, unhide I2⟩
      case round =>
        clear I2
        obtain ⟨j, hj, rfl, I⟩ := hrel
        by_cases hlt : j < m
        · have hkI2 : (j : Int) < (m : Int) := by omega
          have hk0 : (0 : Int) ≤ (j : Int) := by omega
          obtain ⟨A, cur, hA1, hA2, h4, h1, h2, h3, h5, h6⟩ := unhide I
          obtain ⟨x, hx⟩ : ∃ x, cur[j]? = some x := ⟨_, List.getElem?_eq_getElem (by rw [h2]; exact hlt)⟩
          obtain ⟨gb, rfl, cg⟩ := h1.cell j x hx
          have fg := h1.thaw j
          have w1 : IntKind.i64.wrap (2000 + (j : Int)) = 2000 + (j : Int) := by rw [IntKind.wrap_i64]; omega
          have w2 : IntKind.i64.wrap ((j : Int) + 1) = (j : Int) + 1 := by rw [IntKind.wrap_i64]; omega
          have gg := grown_at (World.grownBy.refl wr (some gb)) j (.int .i64 (2000 + (j : Int)))
          have bsa := (h1.lt gb rfl).1
          have I2 : Hid (∃ A C, A.length = k ∧ (∀ j : Nat, j < k → A[j]? = some (1000 + (j : Int))) ∧ OwnI B (wr.setCell ⟨gb, j, none⟩ (.int .i64 (2000 + (j : Int)))) (.slice aa k ac) A ∧ OwnI B (wr.setCell ⟨gb, j, none⟩ (.int .i64 (2000 + (j : Int)))) (.slice (some ⟨gb, 0, none⟩) m bc) C ∧ C.length = m ∧ (∀ i : Nat, i < j + 1 → C[i]? = some (2000 + (i : Int))) ∧ Below B w (wr.setCell ⟨gb, j, none⟩ (.int .i64 (2000 + (j : Int)))) ∧ B ≤ (wr.setCell ⟨gb, j, none⟩ (.int .i64 (2000 + (j : Int)))).heap.size) := by
            refine ⟨A, cur.set j (2000 + (j : Int)), hA1, hA2, h4.kept (fun g e => gg.block g (h4.lt g e).2 (fun e2 => unhide HS g e (by cases e2; rfl))), h1.set j _ (by omega), by rw [List.length_set]; exact h2, fun i hi => ?_, h5.grown gg h6 (fun g e => by cases e; exact bsa), Nat.le_trans h6 gg.size⟩
            by_cases c : i = j
            · subst c
              rw [List.getElem?_set_self (by omega)]
            · rw [List.getElem?_set_ne (fun e => c e.symm)]
              exact h3 i (by omega)
          clear I h1 h2 h3 h4 h5 h6 hx gg bsa hA1 hA2
          go_wp2_with fail
          exact ⟨⟨j + 1, hlt, by go_num, unhide I2⟩, by simp [intOf]; omega⟩
        · obtain rfl : j = m := by omega
          have hkI2 : ¬ (j : Int) < (j : Int) := by omega
          obtain ⟨A, C, hA1, hA2, h4, h1, h2, h3, h5, h6⟩ := unhide I
          have Z : Hid (AZ B w wr (.slice aa k ac) (.slice ba j bc) A C (.slice aa (k + 0) ac) (.slice ba (j + 0) bc) 0 0 (-1) (-2)) := by
            have e1 : A ++ List.replicate 0 (-1 : Int) = A := by simp
            have e2 : C ++ List.replicate 0 (-2 : Int) = C := by simp
            refine ⟨OwnI.rdj (L := []) (by rw [List.append_nil]; exact h4), OwnI.rdj (L := []) (by rw [List.append_nil]; exact h1), by rw [e1]; exact h4, by rw [e2]; exact h1, fun g e1 e2 => ?_, fun g e => e.elim (fun e => (h4.lt g e).2) (fun e => (h1.lt g e).2), h5, h6⟩
            exact unhide HS g (e1.elim id id) (e2.elim id id)
          have HAC := hide (And.intro hA1 (And.intro hA2 (And.intro h2 h3)))
          clear I h1 h2 h3 h4 h5 h6 hA1 hA2
          go_wp2_with fail
          have eA := (unhide HAC).1
          have eC := (unhide HAC).2.2.1
          go_loopw [7, 9] (fun xv iv wr => ∃ i : Nat, i ≤ 40 ∧ iv = .int .i64 i ∧ Hid (AZ B w wr (.slice aa k ac) (.slice ba j bc) A C xv (.slice ba (j + 0) bc) i 0 (-1) (-2))) (fun _ iv _ => 40 - (intOf iv).toNat)
          case atStart => exact ⟨0, by omega, rfl, unhide Z⟩
          case round =>
            clear Z
            obtain ⟨i, hi, rfl, I⟩ := hrel
            by_cases hlt3 : i < 40
            · have iI : (i : Int) < 40 := by omega
              have Z := unhide I
              obtain ⟨xa, xc, hx⟩ := Z.x_.shape
              rw [show (A ++ List.replicate i (-1 : Int)).length = k + i by simp [eA]] at hx
              subst hx
              obtain ⟨a', c', W', hr, Z'⟩ := Z.push (by omega)
              rw [eA] at hr Z'
              have HR := hide hr
              have Z2 := hide Z'
              have w2 : IntKind.i64.wrap ((i : Int) + 1) = (i : Int) + 1 := by rw [IntKind.wrap_i64]; omega
              clear Z Z' hr I
              go_wp2_with (at_builtin; refine Kf.wpList_append_run _ rfl (Operand.tmp 41) (Operand.tmp 42) 33 33 rfl (.slice xa (k + i) xc) (.slice (some ⟨wr.heap.size, 0, none⟩) 1 1) rfl rfl (unhide HR) ?_)
              exact ⟨⟨i + 1, by omega, by go_num, unhide Z2⟩, by simp [intOf]; omega⟩
            · obtain rfl : i = 40 := by omega
              have iI : ¬ ((40 : Nat) : Int) < 40 := by omega
              have Z := unhide I
              obtain ⟨xa, xc, hx⟩ := Z.x_.shape
              rw [show (A ++ List.replicate 40 (-1 : Int)).length = k + 40 by simp [eA]] at hx
              subst hx
              have Z4 : Hid (AZ B w wr (.slice aa k ac) (.slice ba j bc) A C (.slice xa (k + 40) xc) (.slice ba (j + 0) bc) 40 0 (-1) (-2)) := Z
              clear Z I
              go_wp2_with fail
              go_loopw [8, 10] (fun yv iv wr => ∃ i : Nat, i ≤ 40 ∧ iv = .int .i64 i ∧ Hid (AZ B w wr (.slice aa k ac) (.slice ba j bc) A C (.slice xa (k + 40) xc) yv 40 i (-1) (-2))) (fun _ iv _ => 40 - (intOf iv).toNat)
              case atStart => exact ⟨0, by omega, rfl, unhide Z4⟩
              case round =>
                clear Z4
                obtain ⟨i, hi, rfl, I⟩ := hrel
                by_cases hlt4 : i < 40
                · have iI : (i : Int) < 40 := by omega
                  have Z := unhide I
                  obtain ⟨ya, yc, hy⟩ := Z.y_.shape
                  rw [show (C ++ List.replicate i (-2 : Int)).length = j + i by simp [eC]] at hy
                  subst hy
                  obtain ⟨a', c', W', hr, Z'⟩ := Z.swap.push (by omega)
                  rw [eC] at hr Z'
                  have HR := hide hr
                  have Z2 := hide Z'.swap
                  have w2 : IntKind.i64.wrap ((i : Int) + 1) = (i : Int) + 1 := by rw [IntKind.wrap_i64]; omega
                  clear Z Z' hr I
                  go_wp2_with (at_builtin; refine Kf.wpList_append_run _ rfl (Operand.tmp 48) (Operand.tmp 49) 33 33 rfl (.slice ya (j + i) yc) (.slice (some ⟨wr.heap.size, 0, none⟩) 1 1) rfl rfl (unhide HR) ?_)
                  exact ⟨⟨i + 1, by omega, by go_num, unhide Z2⟩, by simp [intOf]; omega⟩
                · obtain rfl : i = 40 := by omega
                  have Z := unhide I
                  obtain ⟨ya, yc, hy⟩ := Z.y_.shape
                  rw [show (C ++ List.replicate 40 (-2 : Int)).length = j + 40 by simp [eC]] at hy
                  subst hy
                  have Z5 : Hid (AZ B w wr (.slice aa k ac) (.slice ba j bc) A C (.slice xa (k + 40) xc) (.slice ya (j + 40) yc) 40 40 (-1) (-2)) := Z
                  clear Z I
                  have lenX : ¬ (9223372036854775807 : Int) < ((k + 40 : Nat) : Int) := by omega
                  have lenY : ¬ (9223372036854775807 : Int) < ((j + 40 : Nat) : Int) := by omega
                  obtain ⟨kx, hkx⟩ : ∃ kx, kx = k + 40 := ⟨_, rfl⟩
                  obtain ⟨jx, hjx⟩ : ∃ jx, jx = j + 40 := ⟨_, rfl⟩
                  rw [← hkx] at Z5 lenX ⊢
                  rw [← hjx] at Z5 lenY ⊢
                  replace hkx := hide hkx
                  replace hjx := hide hjx
                  go_wp2_with fail
                  go_loopw [11] (fun iv wr => ∃ i : Nat, i ≤ kx ∧ iv = .int .i64 i ∧ Hid (AZ B w wr (.slice aa k ac) (.slice ba j bc) A C (.slice xa kx xc) (.slice ya jx yc) 40 40 (-1) (-2))) (fun iv _ => kx - (intOf iv).toNat)
                  case atStart => exact ⟨0, Nat.zero_le _, rfl, unhide Z5⟩
                  case round =>
                    clear Z5
                    obtain ⟨i, hi, rfl, I⟩ := hrel
                    by_cases hlt5 : i < kx
                    · have iI : (i : Int) < (kx : Int) := by omega
                      have i0 : (0 : Int) ≤ (i : Int) := by omega
                      have w2 : IntKind.i64.wrap ((i : Int) + 1) = (i : Int) + 1 := by rw [IntKind.wrap_i64]; have := unhide hkx; omega
                      have w3 : IntKind.i64.wrap (1000 + (i : Int)) = 1000 + (i : Int) := by rw [IntKind.wrap_i64]; have := unhide hkx; omega
                      have Z := unhide I
                      by_cases hc : i < k
                      · have cI : (i : Int) < (k : Int) := by omega
                        have cI2 : ¬ (k : Int) ≤ (i : Int) := by omega
                        have hA := (unhide HAC).2.1 i hc
                        obtain ⟨g, eg, cg⟩ := Z.a_ i _ hA
                        obtain ⟨g2, e2, cg2⟩ := Z.x_.rdj i _ hA
                        obtain ⟨rfl⟩ : aa = some ⟨g, 0, none⟩ := by
                          cases aa with
                          | none => cases eg
                          | some ad =>
                            obtain ⟨bk, of, pt⟩ := ad
                            obtain ⟨e1, e3⟩ := (unhide HZ).1 bk of pt rfl
                            subst e1 e3
                            injection eg with eg
                            subst eg; rfl
                        obtain ⟨g3, hx3, -⟩ := Z.x_.cell i (1000 + (i : Int)) (by rw [List.getElem?_append_left (by rw [eA]; exact hc)]; exact hA)
                        subst hx3
                        injection e2 with e2
                        subst e2
                        have be : ((1000 + (i : Int)) != (1000 + (i : Int))) = false := by simp
                        clear Z hA eg
                        go_wp2_with fail
                        exact ⟨⟨i + 1, by omega, by go_num, unhide I⟩, by simp [intOf]; omega⟩
                      · have cI : ¬ (i : Int) < (k : Int) := by omega
                        have cI2 : (k : Int) ≤ (i : Int) := by omega
                        obtain ⟨g3, hx3, cg⟩ := Z.x_.cell i (-1) (by
                          rw [List.getElem?_append_right (by rw [eA]; omega), eA, List.getElem?_replicate, if_pos (by have := unhide hkx; omega)])
                        subst hx3
                        have be : (((-1 : Int)) != (-1)) = false := by decide
                        clear Z
                        go_wp2_with fail
                        exact ⟨⟨i + 1, by omega, by go_num, unhide I⟩, by simp [intOf]; omega⟩
                    · obtain rfl : i = kx := by omega
                      have iI : ¬ (i : Int) < (i : Int) := by omega
                      go_wp2_with fail
                      go_loopw [12] (fun iv wr => ∃ r : Nat, r ≤ jx ∧ iv = .int .i64 r ∧ Hid (AZ B w wr (.slice aa k ac) (.slice ba j bc) A C (.slice xa i xc) (.slice ya jx yc) 40 40 (-1) (-2))) (fun iv _ => jx - (intOf iv).toNat)
                      case atStart => exact ⟨0, Nat.zero_le _, rfl, unhide I⟩
                      case round =>
                        clear I
                        obtain ⟨r, hr, rfl, I⟩ := hrel
                        by_cases hlt6 : r < jx
                        · have rI : (r : Int) < (jx : Int) := by omega
                          have i0 : (0 : Int) ≤ (r : Int) := by omega
                          have w2 : IntKind.i64.wrap ((r : Int) + 1) = (r : Int) + 1 := by rw [IntKind.wrap_i64]; have := unhide hjx; omega
                          have w3 : IntKind.i64.wrap (2000 + (r : Int)) = 2000 + (r : Int) := by rw [IntKind.wrap_i64]; have := unhide hjx; omega
                          have Z := unhide I
                          by_cases hc : r < j
                          · have cI : (r : Int) < (j : Int) := by omega
                            have cI2 : ¬ (j : Int) ≤ (r : Int) := by omega
                            have hA := (unhide HAC).2.2.2 r hc
                            obtain ⟨g, eg, cg⟩ := Z.b_ r _ hA
                            obtain ⟨g2, e2, cg2⟩ := Z.y_.rdj r _ hA
                            obtain ⟨rfl⟩ : ba = some ⟨g, 0, none⟩ := by
                              cases ba with
                              | none => cases eg
                              | some ad =>
                                obtain ⟨bk, of, pt⟩ := ad
                                obtain ⟨e1, e3⟩ := (unhide HZ).2 bk of pt rfl
                                subst e1 e3
                                injection eg with eg
                                subst eg; rfl
                            obtain ⟨g3, hx3, -⟩ := Z.y_.cell r (2000 + (r : Int)) (by rw [List.getElem?_append_left (by rw [eC]; exact hc)]; exact hA)
                            subst hx3
                            injection e2 with e2
                            subst e2
                            have be : ((2000 + (r : Int)) != (2000 + (r : Int))) = false := by simp
                            clear Z hA eg
                            go_wp2_with fail
                            exact ⟨⟨r + 1, by omega, by go_num, unhide I⟩, by simp [intOf]; omega⟩
                          · have cI : ¬ (r : Int) < (j : Int) := by omega
                            have cI2 : (j : Int) ≤ (r : Int) := by omega
                            obtain ⟨g3, hx3, cg⟩ := Z.y_.cell r (-2) (by
                              rw [List.getElem?_append_right (by rw [eC]; omega), eC, List.getElem?_replicate, if_pos (by have := unhide hjx; omega)])
                            subst hx3
                            have be : (((-2 : Int)) != (-2)) = false := by decide
                            clear Z
                            go_wp2_with fail
                            exact ⟨⟨r + 1, by omega, by go_num, unhide I⟩, by simp [intOf]; omega⟩
                        · obtain rfl : r = jx := by omega
                          have rI : ¬ (r : Int) < (r : Int) := by omega
                          have F := hide (unhide I).bel
                          clear I
                          go_wp2_with fail
                          go_ret
                          exact ⟨rfl, unhide F⟩
end Go.Proofs.Ytpcnpdippnljpaa

namespace Go.Proofs.Ytpcnpdippnljpaa.Bg
open Go.RowKit Go.Proofs.Ytpcnpdippnljpaa
set_option maxRecDepth 100000
set_option linter.unusedVariables false

def sepV (u v : Value) : Prop := u.ownBlock = none ∨ u.ownBlock ≠ v.ownBlock
/-- Blocks that hold neither bytes nor lists of bytes are as they were. -/
def Kp (w0 w : World) : Prop := ∀ (g : Nat) (c : Array Value) (t : TypeId) (fr : Nat × Nat), w0.heap[g]? = some (.cells c t fr) → t ≠ 5 → t ≠ 27 → w.heap[g]? = w0.heap[g]?
theorem Kp.grown {w W : World} (gr : w.grownBy W none) : Kp w W := fun g c t fr h _ _ => gr.block g (lt_of_block h) (by simp)
theorem Kp.set {w0 w W : World} {g : Nat} {c : Array Value} {fr : Nat × Nat} (h : Kp w0 w) (hg : w.heap[g]? = some (.cells c 5 fr)) (hW : ∀ k, k ≠ g → W.heap[k]? = w.heap[k]?) : Kp w0 W := fun k c' t fr' h1 h2 h3 => by
  have e := h k c' t fr' h1 h2 h3
  rw [hW k (fun e2 => ?_)]
  · exact e
  · subst e2
    rw [hg, h1] at e
    simp only [Option.some.injEq, Obj.cells.injEq] at e
    exact h2 e.2.1.symm
theorem Kp.moved {w0 w W : World} {y y' : Value} {T : TypeId} (h : Kp w0 w) (o : Obj) (hm : Moved (w.alloc o) W y y') (ht : ∀ g, y.ownBlock = some g → ∃ c, w.heap[g]? = some (.cells c T (0, 0))) (hT : T = 5 ∨ T = 27) : Kp w0 W := fun k c' t fr' h1 h2 h3 => by
  have e := h k c' t fr' h1 h2 h3
  rw [h1] at e ⊢
  refine hm.block (block_alloc e o) (fun e2 => ?_)
  obtain ⟨c, hc⟩ := ht k e2
  rw [hc] at e
  simp only [Option.some.injEq, Obj.cells.injEq] at e
  rcases hT with rfl | rfl
  · exact h2 e.2.1.symm
  · exact h3 e.2.1.symm

def mkA (i k : Nat) : Int := (3 + 7 * (i : Int) + 5 * (k : Int)) % 256
def cA (i : Nat) : Int := (131 + 11 * (i : Int)) % 256

/-- The lists that are held against one another: where each lies, how long it is, its room. -/
structure Held where
  m : Nat
  ad : Nat → Option Addr
  ns : Nat → Nat
  cp : Nat → Nat
  cb : Array Value
def Held.v (h : Held) (j : Nat) : Value := .slice (h.ad j) (h.ns j) (h.cp j)

structure Held.Fit (h : Held) : Prop where
  cell : ∀ j, j < h.m → h.cb[j]? = some (h.v j)
  sep : ∀ i j, i < h.m → j < h.m → i ≠ j → (h.v i).ownBlock = none ∨ (h.v i).ownBlock ≠ (h.v j).ownBlock
  small : ∀ j, j < h.m → h.ns j ≤ 140737488355000
  few : h.m ≤ 100000000

section
variable {H : Held} {w0 wr : World} {B b : Nat}

/-- The first phase: the first i lists are written full, of the next one k places. -/
structure A1 (H : Held) (w0 : World) (B b : Nat) (wr : World) (i k : Nat) : Prop where
  blk : wr.heap[b]? = some (.cells H.cb 27 (0, 0))
  own : ∀ j, j < H.m → ∃ xs, wr.ownsRow B 5 1 (H.v j) (H.ns j) xs ∧ ∀ q, q < H.ns j → (j < i ∨ (j = i ∧ q < k)) → xs[q]? = some (.int .u8 (mkA j q))
  bel : Below B w0 wr
  low : B ≤ b
  keep : Kp w0 wr

theorem A1.next {i : Nat} (h : A1 H w0 B b wr i (H.ns i)) : A1 H w0 B b wr (i + 1) 0 :=
  ⟨h.blk, fun j hj => by
    obtain ⟨xs, h1, h2⟩ := h.own j hj
    refine ⟨xs, h1, fun q hq hd => h2 q hq ?_⟩
    by_cases e : j = i
    · subst e; exact .inr ⟨rfl, hq⟩
    · left; omega, h.bel, h.low, h.keep⟩

theorem cellB (hb : wr.heap[b]? = some (.cells H.cb 27 (0, 0))) (hf : H.Fit) (j : Nat) (hj : j < H.m) : wr.cell? ⟨b, j, none⟩ = some (.slice (H.ad j) (H.ns j) (H.cp j)) := by
  simp only [World.cell?, hb]
  simpa [Held.v] using hf.cell j hj

theorem neB (hb : wr.heap[b]? = some (.cells H.cb 27 (0, 0))) {g : Nat} {c : Array Value} (hg : wr.heap[g]? = some (.cells c 5 (0, 0))) : b ≠ g := by
  intro e
  subst e
  rw [hb] at hg
  simp at hg

theorem A1.step {i k : Nat} (h : A1 H w0 B b wr i k) (hf : H.Fit) (hi : i < H.m) (hk : k < H.ns i) :
    ∃ g y, H.ad i = some ⟨g, 0, none⟩ ∧ H.ns i ≤ H.cp i ∧ H.cp i ≤ maxLen ∧ wr.cell? ⟨g, k, none⟩ = some y ∧ wr.frozen? ⟨g, k, none⟩ = false ∧ A1 H w0 B b (wr.setCell ⟨g, k, none⟩ (.int .u8 (mkA i k))) i (k + 1) := by
  obtain ⟨xs, ho, hx⟩ := h.own i hi
  obtain ⟨g, cap, e, hg, hgl, hnc, hcm⟩ := ownsRow_open ho (by omega)
  have e' := e
  simp only [Held.v, Value.slice.injEq] at e'
  obtain ⟨ea, -, ec⟩ := e'
  rw [e] at ho
  have hc := ho.cellAt k (by omega)
  have hl := ho.1
  have st := ho.stored k (.int .u8 (mkA i k))
  obtain ⟨c, hcb⟩ := ownsRow_block ho g rfl
  refine ⟨g, xs[k]'(by omega), ea, by omega, by rw [ec]; exact hcm, by rw [hc, List.getElem?_eq_getElem], ho.frozenAt k, ⟨?_, fun j hj => ?_, h.bel.setCell hg _, h.low, h.keep.set hcb (fun q hq => heap_setCell_other _ _ _ _ hq)⟩⟩
  · rw [heap_setCell_other _ _ _ _ (by show b ≠ g; exact neB h.blk hcb)]; exact h.blk
  · by_cases eij : j = i
    · subst eij
      refine ⟨xs.set k (.int .u8 (mkA j k)), by rw [e]; exact st.1, fun q hq hd => ?_⟩
      by_cases eq : k = q
      · subst eq; rw [List.getElem?_set_self (by omega)]
      · rw [List.getElem?_set_ne eq]; exact hx q hq (by omega)
    · obtain ⟨ys, h1, h2⟩ := h.own j hj
      refine ⟨ys, h1.kept st.2 ?_, fun q hq hd => h2 q hq (by omega)⟩
      rcases hf.sep j i hj hi eij with hs | hs
      · exact .inl hs
      · right; rw [e] at hs; exact hs

/-- What holds of a list that was made longer. -/
def Long (H : Held) (B : Nat) (w : World) (j k : Nat) (u : Value) : Prop :=
  ∃ xs, w.ownsRow B 5 1 u (H.ns j + k) xs ∧ (∀ q, q < H.ns j → xs[q]? = some (.int .u8 (mkA j q))) ∧ ∀ q, H.ns j ≤ q → q < H.ns j + k → xs[q]? = some (.int .u8 (cA j))

/-- The second phase, between two lists. -/
structure A2 (H : Held) (w0 : World) (B b : Nat) (wr : World) (i : Nat) (lv : Value) (ys : List Value) : Prop where
  blk : wr.heap[b]? = some (.cells H.cb 27 (0, 0))
  rd : ∀ j, j < H.m → ∀ q, q < H.ns j → ∃ g, H.ad j = some ⟨g, 0, none⟩ ∧ wr.cell? ⟨g, q, none⟩ = some (.int .u8 (mkA j q))
  own : ∀ j, i ≤ j → j < H.m → Long H B wr j 0 (H.v j)
  typ : ∀ j, j < H.m → ∀ g, (H.v j).ownBlock = some g → ∃ c, wr.heap[g]? = some (.cells c 5 (0, 0))
  len : ys.length = i
  old : ∀ (j : Nat) (u : Value), ys[j]? = some u → Long H B wr j 80 u
  row : wr.ownsRow (b + 1) 27 1 lv i ys
  sep : ∀ (j : Nat) (u : Value), ys[j]? = some u → ∀ q, q < H.m → i ≤ q → u.ownBlock ≠ (H.v q).ownBlock
  bel : Below B w0 wr
  low : B ≤ b
  keep : Kp w0 wr

/-- The second phase, within a list: y is made longer. -/
structure A2y (H : Held) (w0 : World) (B b : Nat) (wr : World) (i k : Nat) (y lv : Value) (ys : List Value) : Prop where
  blk : wr.heap[b]? = some (.cells H.cb 27 (0, 0))
  rd : ∀ j, j < H.m → ∀ q, q < H.ns j → ∃ g, H.ad j = some ⟨g, 0, none⟩ ∧ wr.cell? ⟨g, q, none⟩ = some (.int .u8 (mkA j q))
  own : ∀ j, i < j → j < H.m → Long H B wr j 0 (H.v j)
  cur : Long H B wr i k y
  typ : ∀ j, j < H.m → ∀ g, (H.v j).ownBlock = some g → ∃ c, wr.heap[g]? = some (.cells c 5 (0, 0))
  len : ys.length = i
  old : ∀ (j : Nat) (u : Value), ys[j]? = some u → Long H B wr j 80 u
  row : wr.ownsRow (b + 1) 27 1 lv i ys
  sepv : ∀ j, j < H.m → j ≠ i → y.ownBlock = none ∨ y.ownBlock ≠ (H.v j).ownBlock
  sepu : ∀ (j : Nat) (u : Value), ys[j]? = some u → y.ownBlock = none ∨ y.ownBlock ≠ u.ownBlock
  sep : ∀ (j : Nat) (u : Value), ys[j]? = some u → ∀ q, q < H.m → i < q → u.ownBlock ≠ (H.v q).ownBlock
  bel : Below B w0 wr
  low : B ≤ b
  keep : Kp w0 wr

theorem A1.turn (h : A1 H w0 B b wr H.m 0) : A2 H w0 B b wr 0 (.slice none 0 0) [] := by
  have ow : ∀ j, j < H.m → Long H B wr j 0 (H.v j) := fun j hj => by
    obtain ⟨xs, h1, h2⟩ := h.own j hj
    exact ⟨xs, h1, fun q hq => h2 q hq (.inl hj), fun q h1 h2 => by omega⟩
  refine ⟨h.blk, fun j hj q hq => ?_, fun j _ hj => ow j hj, fun j hj g hg => ?_, rfl, fun j u hu => by simp at hu, World.ownsRow_nil _ _ _ _, fun j u hu => by simp at hu, h.bel, h.low, h.keep⟩
  · obtain ⟨xs, h1, h2, _⟩ := ow j hj
    obtain ⟨g, cap, e, _⟩ := ownsRow_open h1 (by omega)
    have e' := e
    simp only [Held.v, Value.slice.injEq] at e'
    rw [e] at h1
    exact ⟨g, e'.1, by rw [h1.cellAt q (by omega)]; exact h2 q hq⟩
  · obtain ⟨xs, h1, h2, _⟩ := ow j hj
    exact ownsRow_block h1 g hg

theorem A2.enter {i : Nat} {lv : Value} {ys : List Value} (h : A2 H w0 B b wr i lv ys) (hf : H.Fit) (hi : i < H.m) : A2y H w0 B b wr i 0 (H.v i) lv ys :=
  ⟨h.blk, h.rd, fun j h1 h2 => h.own j (by omega) h2, h.own i (Nat.le_refl _) hi, h.typ, h.len, h.old, h.row, fun j hj hne => hf.sep i j hi hj (Ne.symm hne),
    fun j u hu => .inr (Ne.symm (h.sep j u hu i hi (Nat.le_refl _))), fun j u hu q hq hiq => h.sep j u hu q hq (by omega), h.bel, h.low, h.keep⟩

theorem A2y.app {i k : Nat} {y lv : Value} {ys : List Value} (h : A2y H w0 B b wr i k y lv ys) (hi : i < H.m) (o : Obj) {W1 : World} {y' : Value} {xs : List Value} (hx : wr.ownsRow B 5 1 y (H.ns i + k) xs) (hm : Moved (wr.alloc o) W1 y y') (ho : W1.ownsRow B 5 1 y' (H.ns i + k + 1) (xs ++ [.int .u8 (cA i)])) :
    A2y H w0 B b W1 i (k + 1) y' lv ys := by
  have hsz := hm.size
  simp only [World.size_alloc] at hsz
  have yb : y.ownBlock ≠ some b := fun e => by
    obtain ⟨c, hc⟩ := ownsRow_block hx b e
    exact neB h.blk hc rfl
  have hl := hx.1
  obtain ⟨xs0, hx0, hx1, hx2⟩ := h.cur
  have exs : xs0 = xs := by
    rcases hx.2 with ⟨rfl, h0⟩ | ⟨g, cap, c, rfl, _, hg, _, _, _, ht⟩
    · have := hx0.1
      simp only [h0, Nat.zero_mul] at this hl
      rw [List.eq_nil_of_length_eq_zero this, List.eq_nil_of_length_eq_zero hl]
    · rcases hx0.2 with ⟨h', _⟩ | ⟨g', cap', c', h', _, hg', _, _, _, ht'⟩
      · simp at h'
      · simp only [Value.slice.injEq, Option.some.injEq, Addr.mk.injEq, and_true, true_and] at h'
        obtain ⟨rfl, rfl⟩ := h'
        rw [hg] at hg'
        simp only [Option.some.injEq, Obj.cells.injEq, and_true] at hg'
        subst hg'
        rw [← ht, ← ht']
  subst exs
  have cur' : Long H B W1 i (k + 1) y' := by
    refine ⟨xs0 ++ [.int .u8 (cA i)], by rw [← Nat.add_assoc]; exact ho, fun q hq => ?_, fun q h1 h2 => ?_⟩
    · rw [List.getElem?_append_left (by omega)]; exact hx1 q hq
    · by_cases e : q < H.ns i + k
      · rw [List.getElem?_append_left (by omega)]; exact hx2 q h1 e
      · have : q = xs0.length := by omega
        subst this
        simp
  have nb : ∀ g, y'.ownBlock = some g → y.ownBlock = some g ∨ g = wr.heap.size + 1 := fun g hg => by
    rcases hm with ⟨e, _⟩ | ⟨e, _, _⟩
    · left; rw [← e]; exact hg
    · right; rw [e] at hg; simpa using hg.symm
  refine ⟨hm.block (block_alloc h.blk o) yb, fun j hj q hq => ?_, fun j h1 h2 => ?_, cur', fun j hj g hg => ?_, h.len, fun j u hu => ?_, ?_, fun j hj hne => ?_, fun j u hu => ?_, h.sep, ?_, h.low, h.keep.moved o hm (fun g hg => ownsRow_block hx g hg) (.inl rfl)⟩
  · obtain ⟨g, hg, hc⟩ := h.rd j hj q hq
    refine ⟨g, hg, ?_⟩
    by_cases e : y.ownBlock = some g
    · have eji : j = i := by
        by_cases e2 : j = i
        · exact e2
        · rcases h.sepv j hj e2 with hs | hs
          · rw [hs] at e; cases e
          · exact absurd (by rw [e, Held.v, hg]; rfl) hs
      subst eji
      rcases hm with ⟨e3, hgr⟩ | ⟨e3, hgr, _⟩
      · obtain ⟨g2, cap, e4, _⟩ := ownsRow_open ho (by omega)
        rw [e4] at e3 ho
        rw [e] at e3
        simp only [Value.ownBlock, Option.some.injEq] at e3
        subst e3
        rw [ho.cellAt q (by omega), List.getElem?_append_left (by omega)]
        exact hx1 q hq
      · exact hgr.cell (cell_alloc hc o) (by simp)
    · exact hm.cell (cell_alloc hc o) e
  · obtain ⟨zs, z1, z2, z3⟩ := h.own j h1 h2
    refine ⟨zs, hm.kept (z1.alloc o) ?_, z2, z3⟩
    rcases h.sepv j h2 (by omega) with hs | hs
    · rw [hs]; cases (H.v j).ownBlock <;> simp
    · exact .inr (Ne.symm hs)
  · obtain ⟨c, hc⟩ := h.typ j hj g hg
    by_cases e : y.ownBlock = some g
    · rcases hm with ⟨e3, hgr⟩ | ⟨e3, hgr, _⟩
      · exact ownsRow_block ho g (by rw [e3]; exact e)
      · exact ⟨c, by rw [hgr.block g (by have := lt_of_block hc; simp; omega) (by simp)]; exact block_alloc hc o⟩
    · exact ⟨c, hm.block (block_alloc hc o) e⟩
  · obtain ⟨zs, z1, z2, z3⟩ := h.old j u hu
    refine ⟨zs, hm.kept (z1.alloc o) ?_, z2, z3⟩
    rcases h.sepu j u hu with hs | hs
    · rw [hs]; cases u.ownBlock <;> simp
    · exact .inr (Ne.symm hs)
  · exact hm.kept (h.row.alloc o) (rows_apart (h.row.alloc o) (hx.alloc o) (by decide))
  · cases hy : y'.ownBlock with
    | none => exact .inl rfl
    | some g =>
      right
      intro e
      rcases nb g hy with h1 | h1
      · rcases h.sepv j hj hne with hs | hs
        · rw [hs] at h1; cases h1
        · exact hs (by rw [h1]; exact e)
      · obtain ⟨c, hc⟩ := h.typ j hj g e.symm
        have := lt_of_block hc
        omega
  · cases hy : y'.ownBlock with
    | none => exact .inl rfl
    | some g =>
      right
      intro e
      rcases nb g hy with h1 | h1
      · rcases h.sepu j u hu with hs | hs
        · rw [hs] at h1; cases h1
        · exact hs (by rw [h1]; exact e)
      · obtain ⟨zs, z1, _⟩ := h.old j u hu
        have := (z1.lt g e.symm).2
        omega
  · exact hm.below (h.bel.alloc (by have := h.bel.size; have := lt_of_block h.blk; have := h.low; omega) o) (by have := lt_of_block h.blk; have := h.low; simp; omega) (fun g hg => (hx.lt g hg).1)

theorem A2y.leave {i : Nat} {y lv : Value} {ys : List Value} (h : A2y H w0 B b wr i 80 y lv ys) (hi : i < H.m) (o : Obj) {W1 : World} {lv' : Value} (hm : Moved (wr.alloc o) W1 lv lv') (ho : W1.ownsRow (b + 1) 27 1 lv' (i + 1) (ys ++ [y])) :
    A2 H w0 B b W1 (i + 1) lv' (ys ++ [y]) := by
  have hsz := hm.size
  simp only [World.size_alloc] at hsz
  have hb : lv.ownBlock ≠ some b := fun e => by have := (h.row.lt b e).1; omega
  have keep : ∀ j k u, Long H B wr j k u → Long H B W1 j k u := fun j k u ⟨xs, h1, h2, h3⟩ =>
    ⟨xs, hm.kept (h1.alloc o) (rows_apart (h1.alloc o) (h.row.alloc o) (by decide)), h2, h3⟩
  have ge : ∀ (j : Nat) (u : Value), (ys ++ [y])[j]? = some u → (ys[j]? = some u) ∨ (j = i ∧ u = y) := fun j u hu => by
    by_cases e : j < ys.length
    · rw [List.getElem?_append_left e] at hu; exact .inl hu
    · rw [List.getElem?_append_right (by omega)] at hu
      have hl := h.len
      match hj : j - ys.length, hu with
      | 0, hu => right; simp at hu; exact ⟨by omega, hu.symm⟩
      | q + 1, hu => simp at hu
  refine ⟨hm.block (block_alloc h.blk o) hb, fun j hj q hq => ?_, fun j h1 h2 => keep j 0 _ (h.own j (by omega) h2), fun j hj g hg => ?_, by simp [h.len], fun j u hu => ?_, ho, fun j u hu q hq hiq => ?_, ?_, h.low, h.keep.moved o hm (fun g hg => ownsRow_block h.row g hg) (.inr rfl)⟩
  · obtain ⟨g, hg, hc⟩ := h.rd j hj q hq
    refine ⟨g, hg, hm.cell (cell_alloc hc o) (fun e => ?_)⟩
    obtain ⟨c, h1⟩ := ownsRow_block h.row g e
    obtain ⟨c', h2⟩ := h.typ j hj g (by rw [Held.v, hg]; rfl)
    rw [h1] at h2
    simp at h2
  · obtain ⟨c, hc⟩ := h.typ j hj g hg
    refine ⟨c, hm.block (block_alloc hc o) (fun e => ?_)⟩
    obtain ⟨c', h1⟩ := ownsRow_block h.row g e
    rw [hc] at h1
    simp at h1
  · rcases ge j u hu with h1 | ⟨rfl, rfl⟩
    · exact keep j 80 u (h.old j u h1)
    · exact keep _ 80 _ h.cur
  · rcases ge j u hu with h1 | ⟨rfl, rfl⟩
    · exact h.sep j u h1 q hq (by omega)
    · rcases h.sepv q hq (by omega) with hs | hs
      · obtain ⟨xs, z1, _⟩ := h.cur
        obtain ⟨g, cap, e, _⟩ := ownsRow_open z1 (by omega)
        rw [e] at hs
        simp [Value.ownBlock] at hs
      · exact hs
  · exact hm.below (h.bel.alloc (by have := h.bel.size; have := lt_of_block h.blk; have := h.low; omega) o) (by have := lt_of_block h.blk; have := h.low; simp; omega) (fun g hg => by have := (h.row.lt g hg).1; have := h.low; omega)
end

theorem Long.cells {H : Held} {B : Nat} {w : World} {j : Nat} {u : Value} (h : Long H B w j 80 u) : ∃ g cap, u = .slice (some ⟨g, 0, none⟩) (H.ns j + 80) cap ∧ H.ns j + 80 ≤ cap ∧ cap ≤ maxLen ∧ (∀ q, q < H.ns j → w.cell? ⟨g, q, none⟩ = some (.int .u8 (mkA j q))) ∧ ∀ q, H.ns j ≤ q → q < H.ns j + 80 → w.cell? ⟨g, q, none⟩ = some (.int .u8 (cA j)) := by
  obtain ⟨xs, h1, h2, h3⟩ := h
  obtain ⟨g, cap, rfl, _, _, hc, hm⟩ := ownsRow_open h1 (by omega)
  exact ⟨g, cap, rfl, hc, hm, fun q hq => by rw [h1.cellAt q (by omega)]; exact h2 q hq, fun q hq hq2 => by rw [h1.cellAt q (by omega)]; exact h3 q hq hq2⟩

set_option maxHeartbeats 6400000 in
theorem apart_any (H : Held) (w0 wr : World) (B b c : Nat) (hf : H.Fit) (ha : A1 H w0 B b wr 0 0) :
    Calls Try.prog 18 #[.slice (some ⟨b, 0, none⟩) H.m c] wr fun e w' => e = .returned (.bool true) ∧ Below B w0 w' ∧ Kp w0 w' := by
  have few := hf.few
  have HF := hide hf; have HA := hide ha
  clear hf ha
  go_enter Try.func18, Try.ntmps18
  go_wp2
  go_loopw [3] (fun i w => ∃ j : Nat, j ≤ H.m ∧ i = .int .i64 j ∧ A1 H w0 B b w j 0) (fun i _ => H.m - (intOf i).toNat)
  case atStart => exact ⟨0, Nat.zero_le _, rfl, unhide HA⟩
  case round =>
    clear HA
    obtain ⟨i, hi, rfl, h1⟩ := hrel
    by_cases hlt : i < H.m
    · have small := (unhide HF).small i hlt
      have A0 := hide h1
      clear h1
      go_wp2
      go_loopw [4] (fun q w => ∃ k : Nat, k ≤ H.ns i ∧ q = .int .i64 k ∧ A1 H w0 B b w i k) (fun q _ => H.ns i - (intOf q).toNat)
      case atStart => exact ⟨0, Nat.zero_le _, rfl, unhide A0⟩
      case round =>
        clear A0
        obtain ⟨k, hk, rfl, h1⟩ := hrel
        have cb := cellB h1.blk (unhide HF) i hlt
        by_cases hlk : k < H.ns i
        · obtain ⟨g, y, e1, e2, e3, e4, e5, h2⟩ := h1.step (unhide HF) hlt hlk
          unfold maxLen at e3
          have A2 := hide h2
          unfold mkA at A2
          clear h1 h2
          go_wp2
          go_roundw
          case rel => exact ⟨k + 1, by omega, by go_num, unhide A2⟩
          case measure => simp [intOf]; omega
        · have ek : k = H.ns i := by omega
          subst ek
          have A2 := hide h1.next
          clear h1
          go_wp2
          go_roundw
          case rel => exact ⟨i + 1, by omega, by go_num, unhide A2⟩
          case measure => simp [intOf]; omega
    · have ei : i = H.m := by omega
      subst ei
      have A0 := hide h1.turn
      clear h1 hlt
      go_wp2
      go_loopw [5, 6] (fun lv i w => ∃ (j : Nat) (ys : List Value), j ≤ H.m ∧ i = .int .i64 j ∧ A2 H w0 B b w j lv ys) (fun _ i _ => H.m - (intOf i).toNat)
      case atStart => exact ⟨0, [], Nat.zero_le _, rfl, unhide A0⟩
      case round =>
        clear A0
        obtain ⟨i, ys, hi, rfl, h1⟩ := hrel
        by_cases hlt : i < H.m
        · have small := (unhide HF).small i hlt
          have cb := cellB h1.blk (unhide HF) i hlt
          have A0 := hide (h1.enter (unhide HF) hlt)
          unfold Held.v at A0
          clear h1
          go_wp2
          go_loopw [7, 8] (fun y q w => ∃ k : Nat, k ≤ 80 ∧ q = .int .i64 k ∧ A2y H w0 B b w i k y u5 ys) (fun _ q _ => 80 - (intOf q).toNat)
          case atStart => exact ⟨0, by omega, rfl, unhide A0⟩
          case round =>
            clear A0 cb
            obtain ⟨k, hk, rfl, h1⟩ := hrel
            have hB : B ≤ wr.heap.size := by have := lt_of_block h1.blk; have := h1.low; omega
            have hb1 : b + 1 ≤ wr.heap.size := lt_of_block h1.blk
            by_cases hlk : k < 80
            · obtain ⟨xs, hx, -⟩ := h1.cur
              have HX := hide hx; have HY := hide h1
              clear hx h1
              go_wp2_with (first
                | (at_builtin; refine wpList_app1g _ rfl (.tmp 54) (.tmp 59) rfl B _ (H.ns i + k) xs (unhide HX) rfl (.int .u8 ((131 + 11 * (i : Int)) % 256)) rfl _ rfl (by simp) (by omega) hB ?_; intro y' W1 ho hmv _; have HN := hide ((unhide HY).app hlt _ (unhide HX) hmv ho); clear ho hmv)
                | go_in)
              go_roundw
              case rel => exact ⟨k + 1, by omega, by go_num, unhide HN⟩
              case measure => simp [intOf]; omega
            · have ek : k = 80 := by omega
              subst ek
              obtain ⟨xs, hx, -⟩ := h1.cur
              obtain ⟨g, cap, rfl, -⟩ := ownsRow_open hx (by omega)
              have HY := hide h1
              clear hx h1
              go_wp2_with (first
                | (at_builtin; refine wpList_appS _ rfl (.tmp 61) (.tmp 63) rfl (b + 1) _ i ys (unhide HY).row rfl (.slice (some ⟨g, 0, none⟩) (H.ns i + 80) cap) rfl _ rfl (by simp) (by omega) hb1 ?_; intro lv' W1 ho hmv _; have HN := hide ((unhide HY).leave hlt _ hmv ho); clear ho hmv)
                | go_in)
              go_roundw
              case rel => exact ⟨i + 1, _, by omega, by go_num, unhide HN⟩
              case measure => simp [intOf]; omega
        · have ei : i = H.m := by omega
          subst ei
          have A0 := hide h1
          clear h1 hlt hi
          go_wp2
          go_loop [9] (fun i => ∃ j : Nat, j ≤ H.m ∧ i = .int .i64 j) (fun i => H.m - (intOf i).toNat)
          case atStart => exact ⟨0, Nat.zero_le _, rfl⟩
          case round =>
            obtain ⟨i, hi, rfl⟩ := hrel
            by_cases hlt : i < H.m
            · have small := (unhide HF).small i hlt
              have cb := cellB (unhide A0).blk (unhide HF) i hlt
              have hlen := (unhide A0).len
              obtain ⟨gl, cl, el, -, -, ncl, mcl⟩ := ownsRow_open (unhide A0).row (by omega)
              subst el
              have hu := (unhide A0).row.cellAt i (by omega)
              rw [List.getElem?_eq_getElem (by omega)] at hu
              have lg := (unhide A0).old i _ (List.getElem?_eq_getElem (by omega))
              generalize ys[i] = u at hu lg
              obtain ⟨gu, cu, rfl, ncu, mcu, cu1, cu2⟩ := lg.cells
              have RD := hide ((unhide A0).rd i hlt); have CU1 := hide cu1; have CU2 := hide cu2
              unfold maxLen at mcl mcu
              clear lg cu1 cu2 hlen
              go_wp2
              go_loop [10] (fun q => ∃ k : Nat, k ≤ H.ns i + 80 ∧ q = .int .i64 k) (fun q => H.ns i + 80 - (intOf q).toNat)
              case atStart => exact ⟨0, Nat.zero_le _, rfl⟩
              case round =>
                obtain ⟨k, hk, rfl⟩ := hrel
                by_cases hlk : k < H.ns i
                · obtain ⟨g, eg, cg⟩ := (unhide RD) k hlk
                  have cu := (unhide CU1) k hlk
                  unfold mkA at cg cu
                  go_wp2
                  go_round
                  case rel => exact ⟨k + 1, by omega, by go_num⟩
                  case measure => simp [intOf]; omega
                · by_cases hl2 : k < H.ns i + 80
                  · have cu := (unhide CU2) k (by omega) hl2
                    unfold cA at cu
                    go_wp2
                    go_round
                    case rel => exact ⟨k + 1, by omega, by go_num⟩
                    case measure => simp [intOf]; omega
                  · go_wp2
                    go_round
                    case rel => exact ⟨i + 1, by omega, by go_num⟩
                    case measure => simp [intOf]; omega
            · go_wp2
              go_ret
              exact ⟨rfl, (unhide A0).bel, (unhide A0).keep⟩
def heldIn (vs : List Value) (cur : Array Value) : Held := ⟨vs.length, fun j => vad (vs.getD j (.slice none 0 0)), fun j => vns (vs.getD j (.slice none 0 0)), fun j => vcp (vs.getD j (.slice none 0 0)), cur⟩
theorem apart_row (vs : List Value) (cur : Array Value) (w0 wr : World) (B b c : Nat) (hB : B ≤ b) (hb : wr.heap[b]? = some (.cells cur 27 (0, 0))) (hcur : cur.toList.take vs.length = vs) (hown : ∀ v ∈ vs, ∃ n xs, wr.ownsRow B 5 1 v n xs ∧ n ≤ 140737488355000)
    (hsep : vs.Pairwise sepV) (few : vs.length ≤ 100000000) (bel : Below B w0 wr) (kp : Kp w0 wr) :
    Calls Try.prog 18 #[.slice (some ⟨b, 0, none⟩) vs.length c] wr fun e w' => e = .returned (.bool true) ∧ Below B w0 w' ∧ Kp w0 w' := by
  have get : ∀ j, j < vs.length → vs[j]? = some (vs.getD j (.slice none 0 0)) := fun j hj => by simp [List.getD, hj]
  have mem : ∀ j, j < vs.length → vs.getD j (.slice none 0 0) ∈ vs := fun j hj => List.mem_of_getElem? (get j hj)
  have hv : ∀ j, j < vs.length → (heldIn vs cur).v j = vs.getD j (.slice none 0 0) := fun j hj => by
    obtain ⟨n, xs, ho, _⟩ := hown _ (mem j hj)
    exact (ownsRow_shape ho).1.symm
  have fit : (heldIn vs cur).Fit := by
    refine ⟨fun j hj => ?_, fun i j hi hj hne => ?_, fun j hj => ?_, few⟩
    · rw [hv j hj]
      show cur[j]? = _
      have hj' : j < vs.length := hj
      have e : (cur.toList.take vs.length)[j]? = vs[j]? := by rw [hcur]
      rw [List.getElem?_take, if_pos hj', Array.getElem?_toList] at e
      rw [e]; exact get j hj'
    · rw [hv i hi, hv j hj]
      rw [List.pairwise_iff_getElem] at hsep
      have hi' : i < vs.length := hi
      have hj' : j < vs.length := hj
      have e1 : vs.getD i (.slice none 0 0) = vs[i] := by simp [List.getD, hi']
      have e2 : vs.getD j (.slice none 0 0) = vs[j] := by simp [List.getD, hj']
      rw [e1, e2]
      rcases Nat.lt_or_gt_of_ne hne with h | h
      · exact hsep i j hi' hj' h
      · rcases hsep j i hj' hi' h with h1 | h1
        · rw [h1]; cases vs[i].ownBlock <;> simp
        · exact .inr (Ne.symm h1)
    · obtain ⟨n, xs, ho, hn⟩ := hown _ (mem j hj)
      show vns _ ≤ _
      rw [(ownsRow_shape ho).2]; exact hn
  exact apart_any (heldIn vs cur) w0 wr B b c fit ⟨hb, fun j hj => by
    obtain ⟨n, xs, ho, _⟩ := hown _ (mem j hj)
    refine ⟨xs, ?_, fun q _ h => by omega⟩
    rw [hv j hj]
    show wr.ownsRow B 5 1 _ (vns _) xs
    rw [(ownsRow_shape ho).2]; exact ho, bel, hB, kp⟩

end Go.Proofs.Ytpcnpdippnljpaa.Bg

namespace Go.Proofs.Ytpcnpdippnljpaa
open Go.RowKit
set_option linter.unusedVariables false
set_option linter.unusedSimpArgs false
set_option maxRecDepth 100000
set_option maxHeartbeats 1000000

def alk (p q : Pk) : Prop := q.space = p.space ∧ q.number = p.number ∧ q.width = p.width ∧ q.dst.length = p.dst.length ∧ q.src.length = p.src.length ∧ q.payload.length = p.payload.length
theorem alk.enc {p q : Pk} (h : alk p q) : encE q = encE p := by
  obtain ⟨e1, e2, e3, e4, e5, e6⟩ := h
  unfold encE badK badF badN
  simp only [e1, e2, e3, e4, e5, e6]
theorem alk.ov {p q : Pk} (h : alk p q) : ovF q = ovF p := by
  obtain ⟨e1, e2, e3, e4, e5, e6⟩ := h
  rw [ovF_G, ovF_G, e1, e3, e4, e5]
theorem alk.pad {p q : Pk} (h : alk p q) (n : Int) : alk (padP p n) (padP q n) := by
  have ho := h.ov
  obtain ⟨e1, e2, e3, e4, e5, e6⟩ := h
  unfold padP
  rw [ho, e6]
  split
  · exact ⟨e1, e2, e3, e4, e5, e6⟩
  · exact ⟨e1, e2, e3, e4, e5, by simp only [List.length_append, List.length_replicate, e6]⟩
theorem alk.len {p q : Pk} (h : alk p q) : (encB q).length = (encB p).length := by
  have he := h.enc
  unfold encB
  rw [he]
  by_cases c : encE p = 0
  · rw [if_pos c, if_pos c]
    have g0 := enc_good c
    have g1 := enc_good (he.trans c)
    have l0 := bytesP_len _ g0
    have l1 := bytesP_len _ g1
    obtain ⟨e1, e2, e3, e4, e5, e6⟩ := h
    have o : overP q = overP p := by unfold overP; rw [e1, e3, e4, e5]
    rw [o, e6] at l1
    omega
  · rw [if_neg c, if_neg c]
def alkL : List Pk → List Pk → Prop
  | [], [] => True
  | p :: r, q :: s => alk p q ∧ alkL r s
  | _, _ => False
theorem bldG_alk (least : Int) : ∀ (L M : List Pk), alkL L M → ∀ (o o' s s' : List Int), o'.length = o.length → (bldG least M o' s').2.2 = (bldG least L o s).2.2 ∧ (bldG least M o' s').1.length = (bldG least L o s).1.length
  | [], [], _, o, o', s, s', ho => ⟨rfl, ho⟩
  | [], _ :: _, h, _, _, _, _, _ => h.elim
  | _ :: _, [], h, _, _, _, _, _ => h.elim
  | p :: r, q :: t, h, o, o', s, s', ho => by
    obtain ⟨h1, h2⟩ := h
    have hr : (t = []) ↔ (r = []) := by
      cases r with
      | nil => cases t with
        | nil => simp
        | cons => exact h2.elim
      | cons => cases t with
        | nil => exact h2.elim
        | cons => simp
    have hq : alk (if r = [] then padP p (least - (o.length : Int)) else p) (if t = [] then padP q (least - (o'.length : Int)) else q) := by
      rw [ho]
      by_cases c : r = []
      · rw [if_pos c, if_pos (hr.2 c)]; exact h1.pad _
      · rw [if_neg c, if_neg (fun e => c (hr.1 e))]; exact h1
    generalize hP : (if r = [] then padP p (least - (o.length : Int)) else p) = P at hq
    generalize hQ : (if t = [] then padP q (least - (o'.length : Int)) else q) = Q at hq
    unfold bldG
    rw [hP, hQ, hq.enc]
    by_cases c : encE P = 0
    · rw [if_pos c, if_pos c]
      exact bldG_alk least r t h2 _ _ _ _ (by rw [List.length_append, List.length_append, ho, hq.len])
    · rw [if_neg c, if_neg c]
      exact ⟨rfl, rfl⟩
theorem riseF_alk : ∀ (L M : List Pk), alkL L M → riseF M = riseF L
  | [], [], _ => rfl
  | [], _ :: _, h => h.elim
  | _ :: _, [], h => h.elim
  | [p], [q], _ => rfl
  | [p], _ :: _ :: _, h => h.2.elim
  | _ :: _ :: _, [q], h => h.2.elim
  | p :: p' :: r, q :: q' :: t, h => by
    have ih := riseF_alk (p' :: r) (q' :: t) h.2
    unfold riseF
    rw [ih, h.1.1, h.2.1.1]
theorem bldF_alk (room least : Int) {L M : List Pk} (h : alkL L M) : (bldF room least M).2.2 = (bldF room least L).2.2 := by
  obtain ⟨e1, e2⟩ := bldG_alk least L M h [] [] [] [] rfl
  unfold bldF
  rw [riseF_alk L M h, e1, e2]
  split
  · rfl
  · split
    · split
      · rfl
      · rename_i c _; rw [c] at e1; rw [e1, c]
    · rfl
/-- What Build tells is bytes. -/
theorem bldG_byte (least : Int) : ∀ (L : List Pk) (o s : List Int), (∀ p ∈ L, (∀ x ∈ p.dst, IsB x) ∧ (∀ x ∈ p.src, IsB x) ∧ ∀ x ∈ p.payload, IsB x) → (∀ x ∈ o, IsB x) → ∀ x ∈ (bldG least L o s).1, IsB x
  | [], o, s, _, ho => ho
  | p :: r, o, s, h, ho => by
    have hp := h p (by simp)
    have hq : ∀ x ∈ encB (if r = [] then padP p (least - (o.length : Int)) else p), IsB x := by
      by_cases c : r = []
      · rw [if_pos c]
        have hf := padP_fields p (least - (o.length : Int))
        refine encB_byte _ (by rw [hf.2.1]; exact hp.1) (by rw [hf.2.2.1]; exact hp.2.1) ?_
        unfold padP
        split
        · exact hp.2.2
        · intro x hx
          rcases List.mem_append.1 hx with q | q
          · exact hp.2.2 x q
          · obtain ⟨-, rfl⟩ := List.mem_replicate.1 q
            simp [IsB]
      · rw [if_neg c]
        exact encB_byte _ hp.1 hp.2.1 hp.2.2
    generalize hP : (if r = [] then padP p (least - (o.length : Int)) else p) = P at hq
    unfold bldG
    rw [hP]
    by_cases c : encE P = 0
    · rw [if_pos c]
      exact bldG_byte least r _ _ (fun q hq => h q (List.mem_cons_of_mem _ hq)) (fun x hx => (List.mem_append.1 hx).elim (ho x) (hq x))
    · rw [if_neg c]
      intro x hx
      cases hx
theorem bldF_byte (room least : Int) (L : List Pk) (h : ∀ p ∈ L, (∀ x ∈ p.dst, IsB x) ∧ (∀ x ∈ p.src, IsB x) ∧ ∀ x ∈ p.payload, IsB x) : ∀ x ∈ (bldF room least L).1, IsB x := by
  unfold bldF
  split
  · intro x hx; simp at hx
  · split
    · split
      · intro x hx; simp at hx
      · exact bldG_byte least L [] [] h (by simp)
    · intro x hx; simp at hx
theorem encE_three (p : Pk) : encE p = 0 ∨ encE p = 53 ∨ encE p = 54 := by
  unfold encE
  split
  · exact .inr (.inl rfl)
  · split
    · exact .inr (.inr rfl)
    · split
      · exact .inr (.inr rfl)
      · exact .inl rfl
theorem bldG_er (least : Int) : ∀ (L : List Pk) (o s : List Int), 0 ≤ (bldG least L o s).2.2 ∧ (bldG least L o s).2.2 ≤ 200
  | [], o, s => ⟨Int.le_refl _, by show (0 : Int) ≤ 200; omega⟩
  | p :: r, o, s => by
    generalize hP : (if r = [] then padP p (least - (o.length : Int)) else p) = P
    unfold bldG
    rw [hP]
    by_cases c : encE P = 0
    · rw [if_pos c]; exact bldG_er least r _ _
    · rw [if_neg c]
      have := encE_three P
      show 0 ≤ encE P ∧ encE P ≤ 200
      omega
theorem bldG_sz (least : Int) : ∀ (L : List Pk) (o s : List Int), (bldG least L o s).2.1.length ≤ s.length + L.length
  | [], o, s => by show s.length ≤ _; simp
  | p :: r, o, s => by
    generalize hP : (if r = [] then padP p (least - (o.length : Int)) else p) = P
    unfold bldG
    rw [hP]
    by_cases c : encE P = 0
    · rw [if_pos c]
      have := bldG_sz least r (o ++ encB P) (s ++ [((encB P).length : Int)])
      rw [List.length_append] at this
      simp only [List.length_cons, List.length_nil] at this ⊢
      omega
    · rw [if_neg c]
      show ([] : List Int).length ≤ _
      simp
theorem bldF_er (room least : Int) (L : List Pk) : 0 ≤ (bldF room least L).2.2 ∧ (bldF room least L).2.2 ≤ 200 := by
  have h := bldG_er least L [] []
  unfold bldF
  split
  · exact ⟨by decide, by decide⟩
  · split
    · split
      · exact ⟨by decide, by decide⟩
      · exact h
    · exact h
theorem bldF_sz (room least : Int) (L : List Pk) : (bldF room least L).2.1.length ≤ L.length := by
  have h := bldG_sz least L [] []
  unfold bldF
  split
  · simp
  · split
    · split
      · simp
      · simpa using h
    · simp
theorem bldF_len (room least : Int) (L : List Pk) : (bldF room least L).1.length ≤ 65535 := by
  unfold bldF
  split
  · simp
  · rename_i c
    split
    · split
      · simp
      · rename_i d
        have : ¬ (65535 < room) := fun q => c (.inr (.inl q))
        omega
    · simp
end Go.Proofs.Ytpcnpdippnljpaa

namespace Go.Proofs.Ytpcnpdippnljpaa
open Go.RowKit
set_option linter.unusedVariables false
set_option linter.unusedSimpArgs false
set_option maxRecDepth 100000
set_option maxHeartbeats 4000000

theorem InB.kpt {w w' : World} {v : Value} {l : List Int} (h : InB w v l) (hz : w.heap.size ≤ w'.heap.size) (hk : ∀ g, v.ownBlock = some g → w'.heap[g]? = w.heap[g]?) : InB w' v l := by
  obtain ⟨a, c, rfl, hr, h1, h2, h3⟩ := h
  refine ⟨a, c, rfl, ⟨hr.1, fun hl => ?_⟩, h1, h2, fun x ex hc => ⟨Nat.lt_of_lt_of_le (h3 x ex hc).1 hz, Nat.ne_of_lt (Nat.lt_of_lt_of_le (h3 x ex hc).1 hz), (h3 x ex hc).2.2⟩⟩
  obtain ⟨b, off, rfl, hc⟩ := hr.2 hl
  refine ⟨b, off, rfl, fun i hi => ?_⟩
  rw [← hc i hi]
  exact World.cell?_of_block (hk b rfl)
def pE3 : PV := ⟨⟨-3, [], [], 0, 0, []⟩, nilV, nilV, nilV⟩
def pE4 : PV := ⟨⟨-4, [], [], 0, 0, []⟩, nilV, nilV, nilV⟩
/-- The loans, and what they lend in one row with two packets behind it. -/
structure FRow (w0 : World) (B : Nat) (W : World) (lv : Value) (fa : Option Addr) (fc n : Nat) (ls : List Ln) : Prop where
  lr : W.ownsRow B 25 1 lv ls.length (ls.map Ln.ptr)
  fr : W.ownsRow B 29 6 (.slice fa (n + 2) fc) (ls.map Ln.pv ++ [pE3, pE4]).length ((ls.map Ln.pv ++ [pE3, pE4]).flatMap PV.cl)
  ok : ∀ x ∈ ls, x.ok w0 B W
  up : ls.Pairwise (fun x y => ∀ i, x.has i → i < y.lo)
  bel : Below B w0 W
  bs : B ≤ W.heap.size
  ln : ls.length = n
section
variable {w0 W W' : World} {B : Nat} {lv : Value} {fa : Option Addr} {fc n : Nat} {ls : List Ln}
theorem FRow.grown (h : FRow w0 B W lv fa fc n ls) (g : W.grownBy W' none) : FRow w0 B W' lv fa fc n ls :=
  ⟨row_kpt h.lr (fun i _ hi _ => g.block i hi (by simp)), row_kpt h.fr (fun i _ hi _ => g.block i hi (by simp)), fun x hx => (h.ok x hx).grown g, h.up, h.bel.trans ((grown_bel g).mono h.bs), Nat.le_trans h.bs g.size, h.ln⟩
theorem FRow.len (h : FRow w0 B W lv fa fc n ls) : (ls.map Ln.pv ++ [pE3, pE4]).length = n + 2 := by simp [h.ln]
theorem FRow.at (h : FRow w0 B W lv fa fc n ls) : ∃ g, fa = some ⟨g, 0, none⟩ ∧ n + 2 ≤ fc ∧ fc ≤ 9223372036854775807 := row_some h.fr h.len (by omega)
theorem FRow.pks (h : FRow w0 B W lv fa fc n ls) (hl : ∀ z ∈ ls, z.p.dst.length ≤ 140737488351232 ∧ z.p.src.length ≤ 140737488351232 ∧ z.p.payload.length ≤ 140737488351232) : IsPks W fa n fc (ls.map Ln.pv) := by
  obtain ⟨g, rfl, h1, h2⟩ := h.at
  refine ⟨by rw [List.length_map]; exact h.ln, ⟨by omega, h2⟩, fun x hx => ?_, fun x hx => ?_, .inr ⟨g, 0, rfl, fun i x hi j hj => ?_⟩⟩
  · obtain ⟨z, hz, rfl⟩ := List.mem_map.1 hx
    exact (h.ok z hz).inB
  · obtain ⟨z, hz, rfl⟩ := List.mem_map.1 hx
    exact hl z hz
  · rw [Nat.zero_add]
    exact row_cell h.fr i x (by rw [List.getElem?_append_left (List.getElem?_eq_some_iff.1 hi).1]; exact hi) j hj
theorem FRow.tail {g : Nat} (h : FRow w0 B W lv (some ⟨g, 0, none⟩) fc n ls) : W.cell? ⟨g, n * 6, none⟩ = some (.int .i64 (-3)) ∧ W.cell? ⟨g, (n + 1) * 6, none⟩ = some (.int .i64 (-4)) := by
  have e : (ls.map Ln.pv).length = n := by rw [List.length_map]; exact h.ln
  refine ⟨?_, ?_⟩
  · have := row_cell h.fr n pE3 (by rw [List.getElem?_append_right (by omega), e, Nat.sub_self]; rfl) 0 (by omega)
    rw [Nat.add_zero] at this
    exact this
  · have := row_cell h.fr (n + 1) pE4 (by rw [List.getElem?_append_right (by omega), e, Nat.add_sub_cancel_left]; rfl) 0 (by omega)
    rw [Nat.add_zero] at this
    exact this
/-- The row with two packets more. -/
theorem LnRow.full {ov : Value} (h : LnRow w0 B W lv ov ls) (hn : ls.length = n) (few : n ≤ 100000000) :
    ∃ a c W', (Builtin.append_ #[22, 22] 22 #[ov, .slice (some ⟨W.heap.size, 0, none⟩) 2 2]).run Try.prog (W.alloc (.cells #[.int .i64 (-3), nilV, nilV, .int .i64 0, .int .i64 0, nilV, .int .i64 (-4), nilV, nilV, .int .i64 0, .int .i64 0, nilV] 29)) = .ok (.slice a (n + 2) c) W' ∧ FRow w0 B W' lv a c n ls := by
  subst hn
  obtain ⟨a, c, W1, hr, ho, k⟩ := push_at 29 22 6 96 (.agg (pcs 0 nilV nilV 0 0 nilV)) Try.underlying22 Try.infoP rfl (by decide) h.pr 2 #[.int .i64 (-3), nilV, nilV, .int .i64 0, .int .i64 0, nilV, .int .i64 (-4), nilV, nilV, .int .i64 0, .int .i64 0, nilV] rfl (by
    intro u hu
    simp at hu
    rcases hu with rfl | rfl | rfl | rfl | rfl | rfl | rfl | rfl <;> rfl) (by decide) (by omega) (by unfold maxLen; omega) h.bs
  refine ⟨a, c, W1, hr, row_kpt h.lr (fun i _ hi e => k.block i hi (fun q => row_ne h.lr h.pr (by decide) e q.symm)), ?_, fun y hy => (h.ok y hy).other h.pr (by decide) (by decide) (by decide) k, h.up, k.below (fun i e => (h.pr.lt i e).1) h.bel h.bs, Nat.le_trans h.bs k.size, rfl⟩
  rw [List.length_append, List.length_map, List.flatMap_append]
  exact ho
end


theorem owns_mono {W : World} {B B' : Nat} {t : TypeId} {sz n : Nat} {v : Value} {xs : List Value} (h : W.ownsRow B' t sz v n xs) (hb : B ≤ B') : W.ownsRow B t sz v n xs := by
  refine ⟨h.1, ?_⟩
  rcases h.2 with h2 | ⟨g, cap, cur, e, q1, q2, q3⟩
  · exact .inl h2
  · exact .inr ⟨g, cap, cur, e, Nat.le_trans hb q1, q2, q3⟩
theorem mine_ty {w0 W : World} {B gl : Nat} {p : Pk} {t1 t2 t3 : LT} {u1 u2 u3 : Value} (L : Loan w0 B W gl p t1 t2 t3 u1 u2 u3) (x : Nat) (hx : LoanD.mine gl t1 t2 t3 x) : ∃ cs t, Blk W x cs t ∧ (t = 32 ∨ t = 5) := by
  have k : ∀ {y : LT}, y.ok w0 B W → (∃ cs, Blk W y.gf cs 5) ∧ ∃ cs, Blk W y.gw cs 5 := fun hy => ⟨owns_ty hy.lent.full _ rfl, owns_ty hy.lent.was _ rfl⟩
  rcases hx with e | e | e | e | e | e | e
  · rw [e]; exact ⟨_, _, L.blk, .inl rfl⟩
  · obtain ⟨⟨cs, h⟩, -⟩ := k L.k1; rw [e]; exact ⟨cs, 5, h, .inr rfl⟩
  · obtain ⟨-, cs, h⟩ := k L.k1; rw [e]; exact ⟨cs, 5, h, .inr rfl⟩
  · obtain ⟨⟨cs, h⟩, -⟩ := k L.k2; rw [e]; exact ⟨cs, 5, h, .inr rfl⟩
  · obtain ⟨-, cs, h⟩ := k L.k2; rw [e]; exact ⟨cs, 5, h, .inr rfl⟩
  · obtain ⟨⟨cs, h⟩, -⟩ := k L.k3; rw [e]; exact ⟨cs, 5, h, .inr rfl⟩
  · obtain ⟨-, cs, h⟩ := k L.k3; rw [e]; exact ⟨cs, 5, h, .inr rfl⟩
theorem mine_has {z : Ln} {x : Nat} (h : LoanD.mine z.gl z.t1 z.t2 z.t3 x) : z.has x := by
  rcases h with e | e | e | e | e | e | e
  · exact .inl e
  · exact .inr (.inr (.inl e))
  · exact .inr (.inr (.inr (.inl e)))
  · exact .inr (.inr (.inr (.inr (.inr (.inl e)))))
  · exact .inr (.inr (.inr (.inr (.inr (.inr (.inl e))))))
  · exact .inr (.inr (.inr (.inr (.inr (.inr (.inr (.inr (.inl e))))))))
  · exact .inr (.inr (.inr (.inr (.inr (.inr (.inr (.inr (.inr e))))))))
/-- While the loans are turned: what those say that are. -/
structure LQ (w0 : World) (B : Nat) (W1 W8 W : World) (lv : Value) (gf fc n : Nat) (ls : List Ln) (ps : List Pk) (tv : Value) (tr : List PV) : Prop where
  lr : W.ownsRow B 25 1 lv ls.length (ls.map Ln.ptr)
  fr : W.ownsRow B 29 6 (.slice (some ⟨gf, 0, none⟩) (n + 2) fc) (ls.map Ln.pv ++ [pE3, pE4]).length ((ls.map Ln.pv ++ [pE3, pE4]).flatMap PV.cl)
  dn : ∀ (j : Nat) z, ls[j]? = some z → j < ps.length → ∃ q, ps[j]? = some q ∧ alk z.p q ∧ InB W z.t1.v q.dst ∧ InB W z.t2.v q.src ∧ InB W z.t3.v q.payload
  rs : ∀ (j : Nat) z, ls[j]? = some z → ps.length ≤ j → z.ok w0 B W
  up : ls.Pairwise (fun x y => ∀ i, x.has i → i < y.lo)
  tu : PRow0 W8.heap.size W tv tr
  kp : ∀ x, W1.heap.size ≤ x → x < W8.heap.size → W.heap[x]? = W8.heap[x]?
  hw : ∀ z ∈ ls, ∀ x, z.has x → x < W1.heap.size
  lt1 : (∀ g, lv.ownBlock = some g → g < W1.heap.size) ∧ gf < W1.heap.size
  bel : Below B w0 W
  bs : B ≤ W1.heap.size
  z18 : W1.heap.size ≤ W8.heap.size
  z8 : W8.heap.size ≤ W.heap.size
  ln : ls.length = n
section
variable {w0 W1 W8 W W' : World} {B gf fc n : Nat} {lv tv : Value} {ls : List Ln} {ps : List Pk} {tr : List PV}
theorem LQ.start (h1 : FRow w0 B W1 lv (some ⟨gf, 0, none⟩) fc n ls) (g : W1.grownBy W8 none) : LQ w0 B W1 W8 W8 lv gf fc n ls [] nilV [] := by
  have h8 := h1.grown g
  refine ⟨h8.lr, h8.fr, fun j z _ h => by simp at h, fun j z hz _ => h8.ok z (List.mem_of_getElem? hz), h1.up, PRow0.nil _ _, fun _ _ _ => rfl, fun z hz => (h1.ok z hz).lt, ⟨fun g e => (h1.lr.lt g e).2, (h1.fr.lt gf rfl).2⟩, h8.bel, h1.bs, g.size, Nat.le_refl _, h1.ln⟩
theorem LQ.grown (h : LQ w0 B W1 W8 W lv gf fc n ls ps tv tr) (g : W.grownBy W' none) : LQ w0 B W1 W8 W' lv gf fc n ls ps tv tr :=
  ⟨row_kpt h.lr (fun i _ hi _ => g.block i hi (by simp)), row_kpt h.fr (fun i _ hi _ => g.block i hi (by simp)), fun j z hz hj => by
    obtain ⟨q, e1, e2, e3, e4, e5⟩ := h.dn j z hz hj
    exact ⟨q, e1, e2, e3.grown g, e4.grown g, e5.grown g⟩, fun j z hz hj => (h.rs j z hz hj).grown g, h.up, h.tu.grown g, fun x h1 h2 => (g.block x (Nat.lt_of_lt_of_le h2 h.z8) (by simp)).trans (h.kp x h1 h2), h.hw, h.lt1, h.bel.trans ((grown_bel g).mono (Nat.le_trans h.bs (Nat.le_trans h.z18 h.z8))), h.bs, h.z18, Nat.le_trans h.z8 g.size, h.ln⟩
/-- The next one is turned. -/
theorem LQ.turn (h : LQ w0 B W1 W8 W lv gf fc n ls ps tv tr) {z : Ln} (hz : ls[ps.length]? = some z) {u1 u2 u3 : Value} (L : Loan w0 B W z.gl z.p z.t1 z.t2 z.t3 u1 u2 u3) {e : Ending} (ht : TurnPost w0 B W z.gl z.p z.t1 z.t2 z.t3 e W') :
    e = .returned (.tuple #[]) ∧ ∃ q v1 v2 v3, alk z.p q ∧ LQ w0 B W1 W8 W' lv gf fc n ls (ps ++ [q]) tv tr ∧ Blk W' z.gl (lcs q z.t1.v z.t2.v z.t3.v v1 v2 v3 z.t1.g z.t2.g z.t3.g) 32 ∧ InB W' z.t1.v q.dst ∧ InB W' z.t2.v q.src ∧ InB W' z.t3.v q.payload := by
  obtain ⟨q, F1, F2, F3, v1, v2, v3, rfl, L', ⟨m1, m2, m3, m4, m5, m6⟩, hsz, keep⟩ := ht
  have i1 := L'.k1.inB
  have i2 := L'.k2.inB
  have i3 := L'.k3.inB
  rw [L'.e1] at i1
  rw [L'.e2] at i2
  rw [L'.e3] at i3
  have hm := mine_ty L
  have hlt : ∀ x, LoanD.mine z.gl z.t1 z.t2 z.t3 x → x < W1.heap.size := fun x hx => h.hw z (List.mem_of_getElem? hz) x (mine_has hx)
  have bz : ∀ (j : Nat) y, ls[j]? = some y → j < ps.length → ∀ x, y.has x → ¬ LoanD.mine z.gl z.t1 z.t2 z.t3 x := fun j y hy hj x hx hmx => by
    have lj := (List.getElem?_eq_some_iff.1 hy)
    have lk := (List.getElem?_eq_some_iff.1 hz)
    have := List.pairwise_iff_getElem.1 h.up j ps.length lj.1 lk.1 hj
    rw [lj.2, lk.2] at this
    have a1 := this x hx
    have a2 := (h.rs _ z hz (Nat.le_refl _)).hs x (mine_has hmx)
    omega
  have az : ∀ (j : Nat) y, ls[j]? = some y → ps.length < j → ∀ x, LoanD.mine z.gl z.t1 z.t2 z.t3 x → x < y.lo := fun j y hy hj x hmx => by
    have lj := (List.getElem?_eq_some_iff.1 hy)
    have lk := (List.getElem?_eq_some_iff.1 hz)
    have := List.pairwise_iff_getElem.1 h.up ps.length j lk.1 lj.1 hj
    rw [lj.2, lk.2] at this
    exact this x (mine_has hmx)
  have rk : ∀ {t : TypeId} {sz k : Nat} {v : Value} {ys : List Value}, W.ownsRow B t sz v k ys → t ≠ 32 → t ≠ 5 → W'.ownsRow B t sz v k ys := fun ho n1 n2 => row_kpt ho (fun x _ hx e => keep x hx (fun hmx => by
    obtain ⟨c1, hb⟩ := owns_ty ho x e
    obtain ⟨c2, t2, hb2, ht2⟩ := hm x hmx
    have := blk_ty hb hb2
    rcases ht2 with q | q
    · exact n1 (this.trans q)
    · exact n2 (this.trans q)))
  have z1 := h.z18
  have z2 := h.z8
  refine ⟨rfl, q, v1, v2, v3, ⟨m1, m2, m3, m4, m5, m6⟩, ⟨rk h.lr (by decide) (by decide), rk h.fr (by decide) (by decide), fun j y hy hj => ?_, fun j y hy hj => ?_, h.up, ?_, fun x h1 h2 => (keep x (by omega) (fun hmx => by have := hlt x hmx; omega)).trans (h.kp x h1 h2), h.hw, h.lt1, L'.bel, h.bs, h.z18, Nat.le_trans h.z8 hsz, h.ln⟩, L'.blk, i1, i2, i3⟩
  · by_cases c : j < ps.length
    · obtain ⟨r, e1, e2, e3, e4, e5⟩ := h.dn j y hy c
      have hh := h.hw y (List.mem_of_getElem? hy)
      have ke : ∀ x, y.has x → W'.heap[x]? = W.heap[x]? := fun x hx => keep x (by have := hh x hx; omega) (bz j y hy c x hx)
      exact ⟨r, by rw [List.getElem?_append_left c]; exact e1, e2, e3.kpt hsz (fun g e => ke g (by injection e with e; exact .inr (.inr (.inl e.symm)))), e4.kpt hsz (fun g e => ke g (by injection e with e; exact .inr (.inr (.inr (.inr (.inr (.inl e.symm))))))), e5.kpt hsz (fun g e => ke g (by injection e with e; exact .inr (.inr (.inr (.inr (.inr (.inr (.inr (.inr (.inl e.symm)))))))))) ⟩
    · obtain rfl : j = ps.length := by rw [List.length_append, List.length_singleton] at hj; omega
      rw [hz] at hy
      obtain rfl := Option.some.inj hy
      exact ⟨q, by simp, ⟨m1, m2, m3, m4, m5, m6⟩, i1, i2, i3⟩
  · rw [List.length_append, List.length_singleton] at hj
    exact (h.rs j y hy (by omega)).keep L'.bel (fun x hx1 hx2 => keep x hx2 (fun hmx => by have := az j y hy (by omega) x hmx; omega))
  · exact h.tu.kpt (fun g h1 h2 => keep g h2 (fun hmx => by have := hlt g hmx; omega))
/-- A copy is laid behind the others. -/
theorem LQ.push (h : LQ w0 B W1 W8 W lv gf fc n ls ps tv tr) (x : PV) (hx : x.In W8.heap.size W) (few : tr.length ≤ 100000000) :
    ∃ a c W', (Builtin.append_ #[22, 22] 22 #[tv, .slice (some ⟨W.heap.size, 0, none⟩) 1 1]).run Try.prog (W.alloc (.cells (x.p.cs x.d x.s x.y) 29)) = .ok (.slice a (tr.length + 1) c) W' ∧ LQ w0 B W1 W8 W' lv gf fc n ls ps (.slice a (tr.length + 1) c) (tr ++ [x]) := by
  have one : ∀ u ∈ (x.p.cs x.d x.s x.y).toList, u.oneCell' = true := fun u hu => by
    simp only [List.mem_cons, List.not_mem_nil, or_false] at hu
    rcases hu with rfl | rfl | rfl | rfl | rfl | rfl
    · rfl
    · exact hx.d.one
    · exact hx.s.one
    · rfl
    · rfl
    · exact hx.y.one
  obtain ⟨a, c, W2, hr, ho, k⟩ := push_at 29 22 6 96 (.agg (pcs 0 nilV nilV 0 0 nilV)) Try.underlying22 Try.infoP rfl (by decide) h.tu.row 1 (x.p.cs x.d x.s x.y) rfl one (by decide) (by omega) (by unfold maxLen; omega) h.z8
  have z1 := h.z18
  have z2 := h.z8
  have lo := fun g e => (h.tu.row.lt g e).1
  have ke : ∀ y, y < W8.heap.size → W2.heap[y]? = W.heap[y]? := fun y hy => k.block y (by omega) (fun e => by have := lo y e; omega)
  have hb : W.ownsRow B 29 6 tv tr.length (tr.flatMap PV.cl) := owns_mono h.tu.row (by have := h.bs; omega)
  have byk : ∀ {v : Value} {d : List Int}, OwnB W8.heap.size W v d → OwnB W8.heap.size W2 v d := fun ho => ho.kept (fun g e => k.block g (ho.ltb g e).2 (fun q => row_ne ho h.tu.row (by decide) e q.symm))
  have ink : ∀ y : PV, y.In W8.heap.size W → y.In W8.heap.size W2 := fun y hy => ⟨byk hy.d, byk hy.s, byk hy.y, hy.ld, hy.ls, hy.ly⟩
  refine ⟨a, c, W2, hr, row_kpt h.lr (fun i _ _ e => ke i (by have := h.lt1.1 i e; omega)), row_kpt h.fr (fun i _ _ e => ke i (by injection e with e; have e2 : gf = i := e; have := h.lt1.2; omega)), fun j y hy hj => ?_, fun j y hy hj => (h.rs j y hy hj).other hb (by decide) (by decide) (by decide) k, h.up, ⟨?_, ?_⟩, fun y h1 h2 => (ke y h2).trans (h.kp y h1 h2), h.hw, h.lt1, k.below (fun i e => by have := lo i e; have := h.bs; omega) h.bel (by have := h.bs; omega), h.bs, h.z18, Nat.le_trans h.z8 k.size, h.ln⟩
  · obtain ⟨r, e1, e2, e3, e4, e5⟩ := h.dn j y hy hj
    have hh := h.hw y (List.mem_of_getElem? hy)
    have ky : ∀ x, y.has x → W2.heap[x]? = W.heap[x]? := fun x hx => ke x (by have := hh x hx; omega)
    exact ⟨r, e1, e2, e3.kpt k.size (fun g e => ky g (by injection e with e; exact .inr (.inr (.inl e.symm)))), e4.kpt k.size (fun g e => ky g (by injection e with e; exact .inr (.inr (.inr (.inr (.inr (.inl e.symm))))))), e5.kpt k.size (fun g e => ky g (by injection e with e; exact .inr (.inr (.inr (.inr (.inr (.inr (.inr (.inr (.inl e.symm))))))))))⟩
  · rw [List.length_append, List.flatMap_append]
    have e : [x].flatMap PV.cl = (x.p.cs x.d x.s x.y).toList := by simp [PV.cl]
    rw [e]
    exact ho
  · intro y hy
    rcases List.mem_append.1 hy with hy | hy
    · exact ink y (h.tu.own y hy)
    · simp only [List.mem_singleton] at hy
      subst hy
      exact ink y hx
end
end Go.Proofs.Ytpcnpdippnljpaa

namespace Go.Proofs.Ytpcnpdippnljpaa
open Go.RowKit
set_option linter.unusedVariables false
set_option linter.unusedSimpArgs false
set_option maxRecDepth 100000
set_option maxHeartbeats 4000000

theorem tot_eq : ∀ (A C : List PV), A.length = C.length → (∀ (i : Nat) x y, A[i]? = some x → C[i]? = some y → x.p.payload.length = y.p.payload.length) → tot A = tot C
  | [], [], _, _ => rfl
  | [], _ :: _, e, _ => by simp at e
  | _ :: _, [], e, _ => by simp at e
  | x :: A, y :: C, e, h => by
    have h0 := h 0 x y rfl rfl
    have ih := tot_eq A C (by simpa using e) (fun i a b ha hb => h (i + 1) a b (by simpa using ha) (by simpa using hb))
    show x.p.payload.length + 60 + tot A = y.p.payload.length + 60 + tot C
    rw [ih, h0]
theorem alkL_of : ∀ (A C : List Pk), A.length = C.length → (∀ (i : Nat) x y, A[i]? = some x → C[i]? = some y → alk x y) → alkL A C
  | [], [], _, _ => trivial
  | [], _ :: _, e, _ => by simp at e
  | _ :: _, [], e, _ => by simp at e
  | x :: A, y :: C, e, h => ⟨h 0 x y rfl rfl, alkL_of A C (by simpa using e) (fun i a b ha hb => h (i + 1) a b (by simpa using ha) (by simpa using hb))⟩
section
variable {w0 W1 W8 W W' : World} {B gf fc n : Nat} {lv tv : Value} {ls : List Ln} {ps : List Pk} {tr : List PV}
theorem LQ.two (h : LQ w0 B W1 W8 W lv gf fc n ls ps tv tr) (hp : ps.length = n) (htr : tr.map PV.p = ps) (hl : ∀ z ∈ ls, z.p.dst.length ≤ 140737488351232 ∧ z.p.src.length ≤ 140737488351232 ∧ z.p.payload.length ≤ 140737488351232) :
    alkL (ls.map Ln.p) ps ∧ (∃ ta tc, tv = .slice ta n tc ∧ IsPks W ta n tc tr ∧ tot tr = tot (ls.map Ln.pv)) ∧ ∃ xs, xs.map PV.p = ps ∧ IsPks W (some ⟨gf, 0, none⟩) n fc xs ∧ tot xs = tot (ls.map Ln.pv) := by
  have lt : tr.length = n := by rw [← hp, ← htr, List.length_map]
  have ln := h.ln
  have at_ : ∀ i, i < n → ∃ (z : Ln) (q : Pk), ls[i]? = some z ∧ ps[i]? = some q ∧ alk z.p q ∧ InB W z.t1.v q.dst ∧ InB W z.t2.v q.src ∧ InB W z.t3.v q.payload := fun i hi => by
    obtain ⟨z, hz⟩ : ∃ z, ls[i]? = some z := ⟨_, List.getElem?_eq_getElem (by omega)⟩
    obtain ⟨q, h1, h2⟩ := h.dn i z hz (by omega)
    exact ⟨z, q, hz, h1, h2⟩
  have lns : ∀ (i : Nat) q, ps[i]? = some q → q.dst.length ≤ 140737488351232 ∧ q.src.length ≤ 140737488351232 ∧ q.payload.length ≤ 140737488351232 := fun i q hq => by
    obtain ⟨z, q', hz, hq', ⟨-, -, -, a1, a2, a3⟩, -⟩ := at_ i (by have := (List.getElem?_eq_some_iff.1 hq).1; omega)
    rw [hq] at hq'
    obtain rfl := Option.some.inj hq'
    rw [a1, a2, a3]
    exact hl z (List.mem_of_getElem? hz)
  have trp : ∀ (i : Nat) x, tr[i]? = some x → ps[i]? = some x.p := fun i x hx => by rw [← htr, List.getElem?_map, hx]; rfl
  refine ⟨alkL_of _ _ (by rw [List.length_map]; omega) (fun i x y hx hy => ?_), ?_, ?_⟩
  · obtain ⟨z, q, hz, hq, a, -⟩ := at_ i (by have := (List.getElem?_eq_some_iff.1 hy).1; omega)
    rw [List.getElem?_map, hz] at hx
    rw [hq] at hy
    obtain rfl := Option.some.inj hx
    obtain rfl := Option.some.inj hy
    exact a
  · obtain ⟨ta, tc, rfl, hcap⟩ : ∃ ta tc, tv = .slice ta n tc ∧ n ≤ tc ∧ tc ≤ 9223372036854775807 := by
      rcases h.tu.row.2 with ⟨e, e2⟩ | ⟨g, cap, cur, e, q1, q2, q3, q4, q5, q6⟩
      · exact ⟨none, 0, by rw [e, show n = 0 by omega], by omega, by omega⟩
      · unfold maxLen at q4
        exact ⟨_, cap, by rw [e, lt], by omega, by omega⟩
    refine ⟨ta, tc, rfl, ⟨lt, hcap, fun x hx => ?_, fun x hx => ?_, ?_⟩, tot_eq _ _ (by rw [List.length_map]; omega) (fun i x y hx hy => ?_)⟩
    · obtain ⟨i, hi⟩ := List.mem_iff_getElem?.1 hx
      obtain ⟨z, q, hz, hq, a, b1, b2, b3⟩ := at_ i (by have := (List.getElem?_eq_some_iff.1 hi).1; omega)
      rw [trp i x hi] at hq
      obtain rfl := Option.some.inj hq
      have o := h.tu.own x hx
      exact ⟨o.d.inB b1.bytes, o.s.inB b2.bytes, o.y.inB b3.bytes⟩
    · obtain ⟨i, hi⟩ := List.mem_iff_getElem?.1 hx
      exact lns i _ (trp i x hi)
    · by_cases c : n = 0
      · exact .inl c
      · right
        obtain ⟨g, rfl, -⟩ := row_some h.tu.row lt (by omega)
        refine ⟨g, 0, rfl, fun i x hi j hj => ?_⟩
        rw [Nat.zero_add]
        exact row_cell h.tu.row i x hi j hj
    · obtain ⟨z, q, hz, hq, a, -⟩ := at_ i (by have := (List.getElem?_eq_some_iff.1 hx).1; omega)
      rw [trp i x hx] at hq
      obtain rfl := Option.some.inj hq
      rw [List.getElem?_map, hz] at hy
      obtain rfl := Option.some.inj hy
      exact a.2.2.2.2.2
  · obtain ⟨xs, hxs⟩ : ∃ xs, xs = List.zipWith (fun (z : Ln) (q : Pk) => (⟨q, z.t1.v, z.t2.v, z.t3.v⟩ : PV)) ls ps := ⟨_, rfl⟩
    have lx : xs.length = n := by rw [hxs, List.length_zipWith]; omega
    have get : ∀ (i : Nat) x, xs[i]? = some x → ∃ (z : Ln) (q : Pk), ls[i]? = some z ∧ ps[i]? = some q ∧ x = ⟨q, z.t1.v, z.t2.v, z.t3.v⟩ ∧ alk z.p q ∧ InB W z.t1.v q.dst ∧ InB W z.t2.v q.src ∧ InB W z.t3.v q.payload := fun i x hx => by
      obtain ⟨z, q, hz, hq, r⟩ := at_ i (by have := (List.getElem?_eq_some_iff.1 hx).1; omega)
      refine ⟨z, q, hz, hq, ?_, r⟩
      rw [hxs, List.getElem?_zipWith, hz, hq] at hx
      exact (Option.some.inj hx).symm
    refine ⟨xs, ?_, ⟨lx, ?_, fun x hx => ?_, fun x hx => ?_, .inr ⟨gf, 0, rfl, fun i x hi j hj => ?_⟩⟩, tot_eq _ _ (by rw [List.length_map]; omega) (fun i x y hx hy => ?_)⟩
    · apply List.ext_getElem?
      intro i
      rw [List.getElem?_map]
      by_cases c : i < n
      · obtain ⟨x, hx⟩ : ∃ x, xs[i]? = some x := ⟨_, List.getElem?_eq_getElem (by omega)⟩
        obtain ⟨z, q, hz, hq, rfl, -⟩ := get i x hx
        rw [hx, hq]
        rfl
      · rw [List.getElem?_eq_none (by omega), List.getElem?_eq_none (by omega)]
        rfl
    · obtain ⟨g, -, h1, h2⟩ := row_some h.fr (by simp [ln]) (by omega)
      omega
    · obtain ⟨i, hi⟩ := List.mem_iff_getElem?.1 hx
      obtain ⟨z, q, hz, hq, rfl, a, b⟩ := get i x hi
      exact b
    · obtain ⟨i, hi⟩ := List.mem_iff_getElem?.1 hx
      obtain ⟨z, q, hz, hq, rfl, a, b⟩ := get i x hi
      exact lns i q hq
    · obtain ⟨z, q, hz, hq, rfl, ⟨a1, a2, a3, -⟩, b⟩ := get i x hi
      rw [Nat.zero_add]
      have := row_cell h.fr i z.pv (by rw [List.getElem?_append_left (by rw [List.length_map]; exact (List.getElem?_eq_some_iff.1 hz).1), List.getElem?_map, hz]; rfl) j hj
      rw [this]
      unfold PV.cl Ln.pv
      rw [a1, a2, a3]
    · obtain ⟨z, q, hz, hq, rfl, a, b⟩ := get i x hx
      rw [List.getElem?_map, hz] at hy
      obtain rfl := Option.some.inj hy
      exact a.2.2.2.2.2
/-- What the next round reads. -/
theorem LQ.cells (h : LQ w0 B W1 W8 W lv gf fc n ls ps tv tr) {z : Ln} {j : Nat} (hz : ls[j]? = some z) :
    W.cell? ⟨gf, j * 6, none⟩ = some (.int .i64 z.p.space) ∧ W.cell? ⟨gf, j * 6 + 1, none⟩ = some z.t1.v ∧ W.cell? ⟨gf, j * 6 + 2, none⟩ = some z.t2.v ∧ W.cell? ⟨gf, j * 6 + 3, none⟩ = some (.int .i64 z.p.number) ∧ W.cell? ⟨gf, j * 6 + 4, none⟩ = some (.int .i64 z.p.width) ∧ W.cell? ⟨gf, j * 6 + 5, none⟩ = some z.t3.v := by
  have e : (ls.map Ln.pv ++ [pE3, pE4])[j]? = some z.pv := by rw [List.getElem?_append_left (by rw [List.length_map]; exact (List.getElem?_eq_some_iff.1 hz).1), List.getElem?_map, hz]; rfl
  exact ⟨row_cell h.fr j _ e 0 (by omega), row_cell h.fr j _ e 1 (by omega), row_cell h.fr j _ e 2 (by omega), row_cell h.fr j _ e 3 (by omega), row_cell h.fr j _ e 4 (by omega), row_cell h.fr j _ e 5 (by omega)⟩
theorem LQ.loan {la : Option Addr} {lc : Nat} (h : LQ w0 B W1 W8 W (.slice la n lc) gf fc n ls ps tv tr) {z : Ln} {j : Nat} (hz : ls[j]? = some z) :
    ∃ g, la = some ⟨g, 0, none⟩ ∧ W.cell? ⟨g, j, none⟩ = some (.pointer (some ⟨z.gl, 0, none⟩)) := by
  have lj := (List.getElem?_eq_some_iff.1 hz).1
  have ln := h.ln
  rcases h.lr.2 with ⟨e, e2⟩ | ⟨g, cap, cur, e, q1, q2, q3, q4, q5, q6⟩
  · simp only [Value.slice.injEq] at e
    omega
  · simp only [Value.slice.injEq] at e
    obtain ⟨rfl, -, rfl⟩ := e
    refine ⟨g, rfl, ?_⟩
    simp only [World.cell?, q2]
    have e : (cur.toList.take (ls.length * 1))[j]? = (ls.map Ln.ptr)[j]? := by rw [q6]
    rw [List.getElem?_take, if_pos (by omega), Array.getElem?_toList, List.getElem?_map, hz] at e
    exact e
end
end Go.Proofs.Ytpcnpdippnljpaa

namespace Go.Proofs.Ytpcnpdippnljpaa
open Go.RowKit
set_option linter.unusedVariables false
set_option linter.unusedSimpArgs false
set_option maxRecDepth 100000
set_option pp.deepTerms true
set_option pp.maxSteps 10000000
set_option maxHeartbeats 4000000

theorem bel_gr {w W0 W : World} (g : w.grownBy W0 none) (b : Below W0.heap.size W0 W) : w.grownBy W none :=
  ⟨b.os.trans g.os, b.tape.trans g.tape, b.output.trans g.output, Nat.le_trans g.size b.size, fun i hi _ => (b.block i (Nat.lt_of_lt_of_le hi g.size)).trans (g.block i hi (by simp))⟩

theorem code20 (x : Int) (w : World) (hx : -9223372036854775808 ≤ x ∧ x ≤ 9223372036854775807) : Calls Try.prog 13 #[.int .i64 x] w fun e w' => e = .returned (.int .i64 x) ∧ w' = w := by
  have wx : IntKind.i64.wrap x = x := by rw [IntKind.wrap_i64]; omega
  go_enter Try.func13, Try.ntmps13
  go_wp2_with fail
  go_ret
  exact ⟨rfl, rfl⟩
def BldQ (w : World) (out sz : List Int) (er : Int) (e : Ending) (w' : World) : Prop :=
  ∃ ba bc sa sc, e = .returned (.tuple #[.slice ba out.length bc, .slice sa sz.length sc, .int .i64 er]) ∧ OwnB w.heap.size w' (.slice ba out.length bc) out ∧ OwnI w.heap.size w' (.slice sa sz.length sc) sz ∧ w.grownBy w' none
theorem BldPost.q {w w' : World} {r : List Int × List Int × Int} {e : Ending} (h : BldPost w r e w') : BldQ w r.1 r.2.1 r.2.2 e w' := by
  obtain ⟨bv, sv, rfl, ob, os, g⟩ := h
  obtain ⟨ba, bc, rfl⟩ := ob.shape
  obtain ⟨sa, sc, rfl⟩ := os.shape
  exact ⟨ba, bc, sa, sc, rfl, ob, os, g⟩

theorem builds_walk (room least : Int) (a : Option Addr) (n cap : Nat) (xs : List PV) (w : World) (h : IsPks w a n cap xs) (ht : tot xs ≤ 70000000) :
    Calls Try.prog 3 #[.int .i64 room, .int .i64 least, .slice a n cap] w fun e w' => e = .returned (.bool true) ∧ w.grownBy w' none := by
  have aw := awake_any w
  have lsm := len_small ht
  have hn := h.hlen
  have lenI : ¬ (9223372036854775807 : Int) < (n : Int) := by have := h.hcap; omega
  have HH := hide (And.intro h (And.intro ht lsm))
  clear h ht lsm
  go_enter Try.func3, Try.ntmps3
  go_wp2_with fail
  refine aw.mono ?_
  rintro e W0 ⟨rfl, g0⟩
  have G0 := hide g0
  clear aw g0
  go_wp2_with fail
  go_loopw [8, 9, 10, 11] (fun lv ov iv _ wr => ∃ k : Nat, k ≤ n ∧ iv = .int .i64 k ∧ Hid (∃ ls, ls.length = k ∧ ls.map Ln.p = (xs.map PV.p).take k ∧ LnRow W0 W0.heap.size wr lv ov ls)) (fun _ _ iv _ _ => n - (intOf iv).toNat)
  case atStart => exact ⟨0, Nat.zero_le _, rfl, [], rfl, rfl, LnRow.nil W0⟩
  case round =>
    obtain ⟨k, hk, rfl, I⟩ := hrel
    obtain ⟨wo, hwo⟩ : ∃ wo, wo = wr := ⟨_, rfl⟩
    subst hwo
    by_cases hlt : k < n
    · obtain ⟨h, ht, lsm⟩ := unhide HH
      obtain ⟨ls, l1, l2, R⟩ := unhide I
      have gw := bel_gr (unhide G0) R.bel
      obtain ⟨x, hx⟩ : ∃ x, xs[k]? = some x := ⟨_, List.getElem?_eq_getElem (by rw [hn]; exact hlt)⟩
      have hkI : (k : Int) < (n : Int) := by omega
      have hk0 : (0 : Int) ≤ (k : Int) := by omega
      obtain ⟨bo, off, rfl, hcell⟩ := h.cell.resolve_left (by omega)
      obtain ⟨q1, q2, q3⟩ := h.in_ x (List.mem_of_getElem? hx)
      obtain ⟨ld, ls', ly⟩ := h.ln x (List.mem_of_getElem? hx)
      obtain ⟨p, d, s, y⟩ := x
      simp only at q1 q2 q3 ld ls' ly
      obtain ⟨a1, c1, rfl, -⟩ := id q1
      obtain ⟨a2, c2, rfl, -⟩ := id q2
      obtain ⟨a3, c3, rfl, -⟩ := id q3
      have y0 : wo.cell? ⟨bo, off + k * 6, none⟩ = some (.int .i64 p.space) := cell_grown (hcell k _ hx 0 (by omega)) gw
      have y1 : wo.cell? ⟨bo, off + k * 6 + 1, none⟩ = some (.slice a1 p.dst.length c1) := cell_grown (hcell k _ hx 1 (by omega)) gw
      have y2 : wo.cell? ⟨bo, off + k * 6 + 2, none⟩ = some (.slice a2 p.src.length c2) := cell_grown (hcell k _ hx 2 (by omega)) gw
      have y3 : wo.cell? ⟨bo, off + k * 6 + 3, none⟩ = some (.int .i64 p.number) := cell_grown (hcell k _ hx 3 (by omega)) gw
      have y4 : wo.cell? ⟨bo, off + k * 6 + 4, none⟩ = some (.int .i64 p.width) := cell_grown (hcell k _ hx 4 (by omega)) gw
      have y5 : wo.cell? ⟨bo, off + k * 6 + 5, none⟩ = some (.slice a3 p.payload.length c3) := cell_grown (hcell k _ hx 5 (by omega)) gw
      have lnd := lend05 wo wo.heap.size p _ _ _ wo (q1.grown gw) (q2.grown gw) (q3.grown gw) ld ls' ly (Below.refl _ _) (Nat.le_refl _)
      have RR := hide (And.intro l1 (And.intro l2 R))
      have LS := hide lsm
      have TK : Hid ((xs.map PV.p).take (k + 1) = (xs.map PV.p).take k ++ [p]) := by
        show _ = _
        rw [List.take_add_one, List.getElem?_map, hx]
        rfl
      clear h ht lsm l1 l2 R gw hx hcell q1 q2 q3 ld ls' ly I
      go_wp2_with fail
      refine lnd.mono ?_
      rintro e W1 hl
      obtain ⟨l1, l2, R⟩ := unhide RR
      obtain ⟨z, rfl, hz, hzp, hzl, g1⟩ := Ln.made hl R.bel R.bs
      have R1 := R.grown g1
      obtain ⟨la, lc, W2, hr, hb2, bs2, okx, next⟩ := R1.push1 hz (fun y hy i hi => by have := (R.ok y hy).lt i hi; rw [hzl]; exact this) (by rw [l1]; have := unhide LS; omega)
      obtain ⟨la2, lc2, W3, hr3, R3⟩ := next W2 (World.grownBy.refl _ _)
      obtain ⟨u1, u2, u3, L, -⟩ := okx.ex
      have z0 := L.blk.cell 0 (.int .i64 z.p.space) rfl
      have z1 := L.blk.cell 1 z.t1.v rfl
      have z2 := L.blk.cell 2 z.t2.v rfl
      have z3 := L.blk.cell 3 (.int .i64 z.p.number) rfl
      have z4 := L.blk.cell 4 (.int .i64 z.p.width) rfl
      have z5 := L.blk.cell 5 z.t3.v rfl
      rw [l1] at hr hr3 R3
      have I2 : Hid (∃ ls, ls.length = k + 1 ∧ ls.map Ln.p = (xs.map PV.p).take (k + 1) ∧ LnRow W0 W0.heap.size W3 (.slice la (k + 1) lc) (.slice la2 (k + 1) lc2) ls) := ⟨ls ++ [z], by rw [List.length_append, l1]; rfl, by rw [List.map_append, l2, unhide TK, ← hzp]; rfl, R3⟩
      simp only [Ln.ptr] at hr
      replace hr := hide hr
      replace hr3 := hide hr3
      clear lnd hl l1 l2 R hz hzp hzl g1 R1 hb2 bs2 okx next R3 L RR TK LS y0 y1 y2 y3 y4 y5
      go_upto_region 9 with (at_builtin; refine Kf.wpList_append_run _ rfl (Operand.tmp 51) (Operand.tmp 53) 24 24 rfl u8 (.slice (some ⟨W1.heap.size, 0, none⟩) 1 1) rfl rfl (unhide hr) ?_)
      go_wp2_with (at_builtin; refine Kf.wpList_append_run _ rfl (Operand.tmp 55) (Operand.tmp 60) 22 22 rfl u9 (.slice (some ⟨W2.heap.size, 0, none⟩) 1 1) rfl rfl (unhide hr3) ?_)
      exact ⟨⟨k + 1, hlt, by go_num, unhide I2⟩, by simp [intOf]; omega⟩
    · obtain rfl : k = n := by omega
      have hkI : ¬ (k : Int) < (k : Int) := by omega
      obtain ⟨h, ht, lsm⟩ := unhide HH
      obtain ⟨ls, l1, l2, R⟩ := unhide I
      have l3 : ls.map Ln.p = xs.map PV.p := by rw [l2, List.take_of_length_le (by rw [List.length_map]; omega)]
      obtain ⟨fa, fc, W1, hr, F1⟩ := R.full l1 (by omega)
      obtain ⟨gf, rfl, fc1, fc2⟩ := F1.at
      obtain ⟨la, lcap, rfl⟩ : ∃ la lcap, u8 = .slice la k lcap := by
        rcases F1.lr.2 with ⟨e, e2⟩ | ⟨g, cp, cur, e, -⟩
        · exact ⟨none, 0, by rw [e, show k = 0 by omega]⟩
        · exact ⟨_, cp, by rw [e, F1.ln]⟩
      have gw1 := bel_gr (unhide G0) F1.bel
      have lnz : ∀ z ∈ ls, z.p.dst.length ≤ 140737488351232 ∧ z.p.src.length ≤ 140737488351232 ∧ z.p.payload.length ≤ 140737488351232 := fun z hz => by
        have : z.p ∈ xs.map PV.p := by rw [← l3]; exact List.mem_map.2 ⟨z, hz, rfl⟩
        obtain ⟨x, hx, e⟩ := List.mem_map.1 this
        rw [← e]
        exact h.ln x hx
      obtain ⟨L, hL⟩ : ∃ L, L = xs.map PV.p := ⟨_, rfl⟩
      have by_ : ∀ p ∈ L, (∀ x ∈ p.dst, IsB x) ∧ (∀ x ∈ p.src, IsB x) ∧ ∀ x ∈ p.payload, IsB x := fun p hp => by
        rw [hL] at hp
        obtain ⟨x, hx, rfl⟩ := List.mem_map.1 hp
        obtain ⟨q1, q2, q3⟩ := h.in_ x hx
        exact ⟨q1.bytes, q2.bytes, q3.bytes⟩
      have tl : tot (ls.map Ln.pv) = tot xs := by
        have key : ∀ A C : List PV, A.map PV.p = C.map PV.p → tot A = tot C := by
          intro A
          induction A with
          | nil => intro C e; cases C with
            | nil => rfl
            | cons => cases e
          | cons x A ih => intro C e; cases C with
            | nil => cases e
            | cons y C =>
              simp only [List.map_cons, List.cons.injEq] at e
              show x.p.payload.length + 60 + tot A = y.p.payload.length + 60 + tot C
              rw [ih C e.2, e.1]
        exact key _ _ (by rw [List.map_map]; exact l3)
      have b1 := rbuild_any room least a k cap xs W1 ⟨h.hlen, h.hcap, fun x hx => by obtain ⟨q1, q2, q3⟩ := h.in_ x hx; exact ⟨q1.grown gw1, q2.grown gw1, q3.grown gw1⟩, h.ln, h.cell.imp id (fun ⟨b, off, e, hc⟩ => ⟨b, off, e, fun i x hi j hj => by
        have e2 := hc i x hi j hj
        obtain ⟨u, hu⟩ : ∃ u, x.cl[j]? = some u := ⟨_, List.getElem?_eq_getElem (by simpa [PV.cl] using hj)⟩
        rw [hu] at e2 ⊢
        exact cell_grown e2 gw1⟩)⟩ ht
      rw [← hL] at b1
      have e4 : (ls.map Ln.pv).map PV.p = L := by rw [List.map_map, hL, ← l3]; rfl
      have b2 : ∀ W, W1.grownBy W none → Calls Try.prog 10 #[.int .i64 room, .int .i64 least, .slice (some ⟨gf, 0, none⟩) k fc] W (BldPost W (bldF room least L)) := fun W g => by
        have := build_any room least (some ⟨gf, 0, none⟩) k fc (ls.map Ln.pv) W ((F1.grown g).pks lnz) (by rw [tl]; exact ht)
        rw [e4] at this
        exact this
      have oby := bldF_byte room least L by_
      have HF := hide (And.intro F1 (And.intro lnz (And.intro l3 (And.intro tl (And.intro hL by_)))))
      have B2 := hide b2
      have OB := hide oby
      have er0 := bldF_er room least L
      have sz0 := bldF_sz room least L
      have ln0 := bldF_len room least L
      have Lk : L.length = k := by rw [hL, List.length_map]; exact hn
      obtain ⟨out, hout⟩ : ∃ out, out = (bldF room least L).1 := ⟨_, rfl⟩
      obtain ⟨sz, hsz⟩ : ∃ sz, sz = (bldF room least L).2.1 := ⟨_, rfl⟩
      obtain ⟨er, her⟩ : ∃ er, er = (bldF room least L).2.2 := ⟨_, rfl⟩
      have b1' : Calls Try.prog 9 #[.int .i64 room, .int .i64 least, .slice a k cap] W1 (BldQ W1 out sz er) := b1.mono fun e w' q => by rw [hout, hsz, her]; exact q.q
      have B2' : Hid (∀ W, W1.grownBy W none → Calls Try.prog 10 #[.int .i64 room, .int .i64 least, .slice (some ⟨gf, 0, none⟩) k fc] W (BldQ W out sz er)) := fun W g => (b2 W g).mono fun e w' q => by rw [hout, hsz, her]; exact q.q
      rw [← hout] at OB ln0
      rw [← hsz] at sz0
      rw [← her] at er0
      have HT := hide (And.intro hout (And.intro hsz (And.intro her (And.intro sz0 (And.intro ln0 (And.intro Lk lsm))))))
      replace hr := hide hr
      clear h ht lsm l1 l2 R l3 gw1 lnz by_ tl e4 F1 b2 oby hout hsz her I hL B2 b1 sz0 ln0 Lk
      go_upto_region 11 with (at_builtin; refine Kf.wpList_append_run _ rfl (Operand.tmp 62) (Operand.tmp 65) 22 22 rfl u9 (.slice (some ⟨wo.heap.size, 0, none⟩) 2 2) rfl rfl (unhide hr) ?_)
      obtain ⟨ol, hol⟩ : ∃ ol, ol = out.length := ⟨_, rfl⟩
      obtain ⟨sl, hsl⟩ : ∃ sl, sl = sz.length := ⟨_, rfl⟩
      unfold BldQ at b1' B2'
      rw [← hol, ← hsl] at b1' B2'
      have HL := hide (And.intro hol hsl)
      have slB : sl ≤ 1200000 := by have := unhide HT; omega
      clear hol hsl
      go_wp2_with fail
      refine b1'.mono ?_
      rintro e W2 ⟨wa, wcp, ea, ec, rfl, ow, oe, g2⟩
      have bb := unhide B2' W2 g2
      have H2 := hide (And.intro ow (And.intro oe g2))
      clear b1' ow oe g2
      go_wp2_with fail
      refine bb.mono ?_
      rintro e W3 ⟨aa, ac, sa, sc, rfl, oa, os, g3⟩
      have bb := unhide B2' W3 ((unhide H2).2.2.trans g3)
      have H3 := hide (And.intro oa (And.intro os g3))
      clear oa os g3
      go_wp2_with fail
      refine bb.mono ?_
      rintro e W4 ⟨ba, bc, ta, tc, rfl, ob, ot, g4⟩
      obtain ⟨ow, oe, g2⟩ := unhide H2
      obtain ⟨oa, os, g3⟩ := unhide H3
      have g24 := g3.trans g4
      have kB : ∀ {B : Nat} {V W : World} {v : Value} {d : List Int}, OwnB B V v d → V.grownBy W none → OwnB B W v d := fun h g => h.kept (fun x e => g.block x (h.ltb x e).2 (by simp))
      have iw := (kB ow g24).inB (unhide OB)
      have ia := (kB oa g4).inB (unhide OB)
      have ib := ob.inB (unhide OB)
      have re := (oe.grown g24).rd
      have rs := (os.grown g4).rd
      have rt := ot.rd
      have S1 : Hid (∀ W, W4.grownBy W none → Calls Try.prog 11 #[.slice aa ol ac, .slice wa ol wcp] W fun e w' => e = .returned (.bool true) ∧ W.grownBy w' none) := fun W g => sameB _ _ out W (ia.grown g) (iw.grown g)
      have S2 : Hid (∀ W, W4.grownBy W none → Calls Try.prog 11 #[.slice ba ol bc, .slice wa ol wcp] W fun e w' => e = .returned (.bool true) ∧ W.grownBy w' none) := fun W g => sameB _ _ out W (ib.grown g) (iw.grown g)
      have S3 : Hid (∀ W, W4.grownBy W none → Calls Try.prog 12 #[.slice sa sl sc, .slice ea sl ec] W fun e w' => e = .returned (.bool true) ∧ W.grownBy w' none) := fun W g => sameSizes_any sa ea sl sc ec sz W (unhide HL).2.symm (by omega) (rs.grown g) (re.grown g)
      have S4 : Hid (∀ W, W4.grownBy W none → Calls Try.prog 12 #[.slice ta sl tc, .slice ea sl ec] W fun e w' => e = .returned (.bool true) ∧ W.grownBy w' none) := fun W g => sameSizes_any ta ea sl tc ec sz W (unhide HL).2.symm (by omega) (rt.grown g) (re.grown g)
      have H4 := hide (And.intro ob (And.intro ot g4))
      clear ow oe g2 oa os g3 ob ot g4 g24 kB iw ia ib re rs rt bb B2'
      go_wp2_with fail
      refine (unhide S1 W4 (World.grownBy.refl _ _)).mono ?_
      rintro e W5 ⟨rfl, g5⟩
      have s2 := unhide S2 W5 g5
      have G5 := hide g5
      clear S1 S2 g5
      go_wp2_with fail
      refine s2.mono ?_
      rintro e W6 ⟨rfl, g6⟩
      have g46 := (unhide G5).trans g6
      have s3 := unhide S3 W6 g46
      have G6 := hide g46
      clear s2 S3 g6 g46 G5
      go_wp2_with fail
      refine s3.mono ?_
      rintro e W7 ⟨rfl, g7⟩
      have g47 := (unhide G6).trans g7
      have s4 := unhide S4 W7 g47
      have G7 := hide g47
      clear s3 S4 g7 g47 G6
      go_wp2_with fail
      refine s4.mono ?_
      rintro e W8 ⟨rfl, g8⟩
      have g48 := (unhide G7).trans g8
      have cd := code20 er W8 (by omega)
      have g18 := ((unhide H2).2.2.trans ((unhide H3).2.2.trans (unhide H4).2.2)).trans g48
      have F8 := (unhide HF).1.grown g18
      obtain ⟨t3, t4⟩ := F8.tail
      have fcb := F8.at
      have fc1 : k + 2 ≤ fc ∧ fc ≤ 9223372036854775807 := by obtain ⟨g, -, h1, h2⟩ := fcb; exact ⟨h1, h2⟩
      have G8 := hide (And.intro g48 F8)
      have be1 : (er != er) = false := by simp
      clear s4 g8 g48 g18 F8 G7 fcb
      go_wp2_with fail
      refine cd.mono ?_
      rintro e W8' ⟨rfl, hW8⟩
      obtain rfl := hW8.symm
      clear cd
      obtain ⟨i0, i1, i2, i3⟩ : (k : Int) < ((k + 2 : Nat) : Int) ∧ ((k + 1 : Nat) : Int) < ((k + 2 : Nat) : Int) ∧ (0 : Int) ≤ (k : Int) ∧ (0 : Int) ≤ ((k + 1 : Nat) : Int) := by omega
      have n0 : k < k + 2 := by omega
      have n1 : k + 1 < k + 2 := by omega
      have wk : IntKind.i64.wrap ((k : Int) + 1) = ((k + 1 : Nat) : Int) := by rw [IntKind.wrap_i64]; omega
      have m3 : ((-3 : Int) != -3) = false := rfl
      have m4 : ((-4 : Int) != -4) = false := rfl
      go_upto_region 20 with fail
      clear t3 t4 i0 i1 i2 i3 n0 n1 m3 m4 be1
      go_wp2_with fail
      go_loopw [26, 27, 28, 29] (fun tv iv _ _ wr => ∃ j : Nat, j ≤ k ∧ iv = .int .i64 j ∧ Hid (∃ ps tr, ps.length = j ∧ tr.length = j ∧ tr.map PV.p = ps ∧ LQ W0 W0.heap.size W1 W8 wr (.slice la k lcap) gf fc k ls ps tv tr)) (fun _ iv _ _ _ => k - (intOf iv).toNat)
      case atStart =>
        exact ⟨0, Nat.zero_le _, rfl, [], [], rfl, rfl, rfl, LQ.start (unhide HF).1 (((unhide H2).2.2.trans ((unhide H3).2.2.trans (unhide H4).2.2)).trans (unhide G8).1)⟩
      case round =>
        obtain ⟨j, hj, rfl, I⟩ := hrel
        obtain ⟨wo, hwo⟩ : ∃ wo, wo = wr := ⟨_, rfl⟩
        subst hwo
        by_cases hlt : j < k
        · obtain ⟨h, ht, lsm⟩ := unhide HH
          obtain ⟨F1, lnz, l3, tl, hL, by_⟩ := unhide HF
          obtain ⟨ps, tr, p1, p2, p3, R⟩ := unhide I
          have gw := bel_gr (unhide G0) R.bel
          obtain ⟨x, hx⟩ : ∃ x, xs[j]? = some x := ⟨_, List.getElem?_eq_getElem (by rw [hn]; exact hlt)⟩
          obtain ⟨z, hz⟩ : ∃ z, ls[j]? = some z := ⟨_, List.getElem?_eq_getElem (by rw [F1.ln]; exact hlt)⟩
          have hzx : z.p = x.p := by
            have e := congrArg (fun l : List Pk => l[j]?) l3
            simpa only [List.getElem?_map, hz, hx, Option.map_some, Option.some.injEq] using e
          have jI : (j : Int) < (k : Int) := by omega
          have j0 : (0 : Int) ≤ (j : Int) := by omega
          have j2 : (j : Int) < ((k + 2 : Nat) : Int) := by omega
          have j3 : j < k + 2 := by omega
          have j4 : (j : Int) < (k : Int) + 2 := by omega
          obtain ⟨bo, off, rfl, hcell⟩ := h.cell.resolve_left (by omega)
          obtain ⟨q1, q2, q3⟩ := h.in_ x (List.mem_of_getElem? hx)
          obtain ⟨p, d, s, y⟩ := x
          simp only at q1 q2 q3 hzx
          subst hzx
          obtain ⟨a1, c1, rfl, -⟩ := id q1
          obtain ⟨a2, c2, rfl, -⟩ := id q2
          obtain ⟨a3, c3, rfl, -⟩ := id q3
          obtain ⟨gl2, rfl, yl⟩ := R.loan hz
          have okz := R.rs j z hz (by omega)
          obtain ⟨u1, u2, u3, L, -⟩ := okz.ex
          have KP := kept05 W0 W0.heap.size wo z.gl z.p z.t1 z.t2 z.t3 u1 u2 u3 L
          obtain ⟨ld, lS, ly⟩ := lnz z (List.mem_of_getElem? hz)
          have LN := hide (And.intro ld (And.intro lS ly))
          have QQ := hide (And.intro (q1.grown gw) (And.intro (q2.grown gw) (q3.grown gw)))
          have y0 : wo.cell? ⟨bo, off + j * 6, none⟩ = some (.int .i64 z.p.space) := cell_grown (hcell j _ hx 0 (by omega)) gw
          have y1 : wo.cell? ⟨bo, off + j * 6 + 1, none⟩ = some (.slice a1 z.p.dst.length c1) := cell_grown (hcell j _ hx 1 (by omega)) gw
          have y2 : wo.cell? ⟨bo, off + j * 6 + 2, none⟩ = some (.slice a2 z.p.src.length c2) := cell_grown (hcell j _ hx 2 (by omega)) gw
          have y3 : wo.cell? ⟨bo, off + j * 6 + 3, none⟩ = some (.int .i64 z.p.number) := cell_grown (hcell j _ hx 3 (by omega)) gw
          have y4 : wo.cell? ⟨bo, off + j * 6 + 4, none⟩ = some (.int .i64 z.p.width) := cell_grown (hcell j _ hx 4 (by omega)) gw
          have y5 : wo.cell? ⟨bo, off + j * 6 + 5, none⟩ = some (.slice a3 z.p.payload.length c3) := cell_grown (hcell j _ hx 5 (by omega)) gw
          have RR := hide (And.intro p1 (And.intro p2 (And.intro p3 (And.intro R (And.intro hz lsm)))))
          clear h ht lsm F1 lnz l3 tl hL by_ p1 p2 p3 R gw hx hcell q1 q2 q3 okz L ld lS ly I
          go_wp2_with fail
          refine KP.mono ?_
          rintro e Wk ⟨rfl, gk⟩
          have y0 := cell_grown y0 gk
          have y1 := cell_grown y1 gk
          have y2 := cell_grown y2 gk
          have y3 := cell_grown y3 gk
          have y4 := cell_grown y4 gk
          have y5 := cell_grown y5 gk
          obtain ⟨p1, p2, p3, R, hz, lsm⟩ := unhide RR
          have R2 := R.grown gk
          obtain ⟨f0, f1, f2, f3, f4, f5⟩ := R2.cells hz
          obtain ⟨u1', u2', u3', L2, -⟩ := (R2.rs j z hz (by omega)).ex
          have i1 := L2.k1.inB
          have i2 := L2.k2.inB
          have i3 := L2.k3.inB
          rw [L2.e1] at i1
          rw [L2.e2] at i2
          rw [L2.e3] at i3
          obtain ⟨q1, q2, q3⟩ := unhide QQ
          have SAME := hide (fun W (g : Wk.grownBy W none) => same05 z.p z.t1.v z.t2.v z.t3.v (.slice a1 z.p.dst.length c1) (.slice a2 z.p.src.length c2) (.slice a3 z.p.payload.length c3) W (i1.grown g) (i2.grown g) (i3.grown g) ((q1.grown gk).grown g) ((q2.grown gk).grown g) ((q3.grown gk).grown g))
          have GK := hide gk
          clear p1 p2 p3 R hz lsm R2 L2 i1 i2 i3 q1 q2 q3 gk KP QQ
          go_upto_region 25 with fail
          go_region_held3 (fun W => W.cell? ⟨gf, j * 6, none⟩ = some (.int .i64 z.p.space) ∧ W.cell? ⟨gf, j * 6 + 1, none⟩ = some (.slice (some ⟨z.t1.gf, 0, none⟩) z.t1.n z.t1.cf) ∧ W.cell? ⟨gf, j * 6 + 2, none⟩ = some (.slice (some ⟨z.t2.gf, 0, none⟩) z.t2.n z.t2.cf) ∧ W.cell? ⟨gf, j * 6 + 3, none⟩ = some (.int .i64 z.p.number) ∧ W.cell? ⟨gf, j * 6 + 4, none⟩ = some (.int .i64 z.p.width) ∧ W.cell? ⟨gf, j * 6 + 5, none⟩ = some (.slice (some ⟨z.t3.gf, 0, none⟩) z.t3.n z.t3.cf) ∧ W.cell? ⟨bo, off + j * 6, none⟩ = some (.int .i64 z.p.space) ∧ W.cell? ⟨bo, off + j * 6 + 1, none⟩ = some (.slice a1 z.p.dst.length c1) ∧ W.cell? ⟨bo, off + j * 6 + 2, none⟩ = some (.slice a2 z.p.src.length c2) ∧ W.cell? ⟨bo, off + j * 6 + 3, none⟩ = some (.int .i64 z.p.number) ∧ W.cell? ⟨bo, off + j * 6 + 4, none⟩ = some (.int .i64 z.p.width) ∧ W.cell? ⟨bo, off + j * 6 + 5, none⟩ = some (.slice a3 z.p.payload.length c3)) (go_keep) (first | (go_at_call 15; refine (unhide SAME _ (grown_drewN (World.grownBy.refl _ none))).mono ?_; rintro e W9 ⟨rfl, g8⟩; have g9 := (grown_drewN (World.grownBy.refl Wk none)).trans g8; have f0' := cell_grown f0 g9; have f1' := cell_grown f1 g9; have f2' := cell_grown f2 g9; have f3' := cell_grown f3 g9; have f4' := cell_grown f4 g9; have f5' := cell_grown f5 g9; have y0' := cell_grown y0 g9; have y1' := cell_grown y1 g9; have y2' := cell_grown y2 g9; have y3' := cell_grown y3 g9; have y4' := cell_grown y4 g9; have y5' := cell_grown y5 g9))
          have GZ := hide ((unhide GK).trans g9)
          clear f0 f1 f2 f3 f4 f5 y0 y1 y2 y3 y4 y5 f0' f1' f2' f3' f4' f5' y0' y1' y2' y3' y4' y5' g8 g9 SAME GK
          obtain ⟨p1, p2, p3, R, hz, lsm⟩ := unhide RR
          have R3 := R.grown (unhide GZ)
          have yl := cell_grown yl (unhide GZ)
          obtain ⟨u1, u2, u3, L3, -⟩ := (R3.rs j z hz (by omega)).ex
          have TP := turn05 W0 W0.heap.size W9 z.gl z.p z.t1 z.t2 z.t3 u1 u2 u3 L3 (unhide LN).1 (unhide LN).2.1 (unhide LN).2.2
          have L4 := hide L3
          have RZ := hide R3
          clear p1 p2 p3 R hz lsm R3 L3
          go_wp2_with fail
          refine TP.mono ?_
          rintro e Wt ht
          obtain ⟨p1, p2, p3, -, hz, lsm⟩ := unhide RR
          obtain ⟨rfl, q, v1, v2, v3, al, R4, bt, i1, i2, i3⟩ := (unhide RZ).turn (by rw [p1]; exact hz) (unhide L4) ht
          obtain ⟨g9, e9, yl⟩ := R4.loan hz
          injection e9 with e9
          injection e9 with e9
          subst e9
          obtain ⟨ld, lS, ly⟩ := unhide LN
          obtain ⟨-, -, -, e4, e5, e6⟩ := id al
          have CP := copied05_sep q z.t1.v z.t2.v z.t3.v Wt i1 i2 i3 (by omega) (by omega) (by omega)
          have zc0 := bt.cell 0 (.int .i64 q.space) rfl
          have zc1 := bt.cell 1 z.t1.v rfl
          have zc2 := bt.cell 2 z.t2.v rfl
          have zc3 := bt.cell 3 (.int .i64 q.number) rfl
          have zc4 := bt.cell 4 (.int .i64 q.width) rfl
          have zc5 := bt.cell 5 z.t3.v rfl
          have lq : q.dst.length ≤ 140737488351232 ∧ q.src.length ≤ 140737488351232 ∧ q.payload.length ≤ 140737488351232 := by omega
          have RT := hide (And.intro p1 (And.intro p2 (And.intro p3 (And.intro R4 (And.intro lsm lq)))))
          clear p1 p2 p3 hz lsm R4 bt i1 i2 i3 e4 e5 e6 ld lS ly al L4 RZ TP ht lq
          go_wp2_with fail
          refine CP.mono ?_
          rintro e Wc ⟨b1, d1, b2, d2, b3, d3, rfl, o1, o2, o3, gc, -⟩
          obtain ⟨p1, p2, p3, R4, lsm, lq⟩ := unhide RT
          have R5 := R4.grown gc
          have z8 := R4.z8
          obtain ⟨ta', tc', Wn, hr, R6⟩ := R5.push ⟨q, .slice b1 q.dst.length d1, .slice b2 q.src.length d2, .slice b3 q.payload.length d3⟩ ⟨o1.mono z8, o2.mono z8, o3.mono z8, Nat.le_trans lq.1 (by omega), Nat.le_trans lq.2.1 (by omega), Nat.le_trans lq.2.2 (by omega)⟩ (by omega)
          rw [p2] at hr R6
          have I2 : Hid (∃ ps tr, ps.length = j + 1 ∧ tr.length = j + 1 ∧ tr.map PV.p = ps ∧ LQ W0 W0.heap.size W1 W8 Wn (.slice (some ⟨gl2, 0, none⟩) k lcap) gf fc k ls ps (.slice ta' (j + 1) tc') tr) := ⟨ps ++ [q], tr ++ [⟨q, .slice b1 q.dst.length d1, .slice b2 q.src.length d2, .slice b3 q.payload.length d3⟩], by rw [List.length_append, p1]; rfl, by rw [List.length_append, p2]; rfl, by rw [List.map_append, p3]; rfl, R6⟩
          replace hr := hide hr
          clear p1 p2 p3 R4 lsm lq R5 z8 R6 o1 o2 o3 gc CP zc0 zc1 zc2 zc3 zc4 zc5 RT yl
          go_upto_region 23 with (at_builtin; refine Kf.wpList_append_run _ rfl (Operand.tmp 188) (Operand.tmp 197) 22 22 rfl u26 (.slice (some ⟨Wc.heap.size, 0, none⟩) 1 1) rfl rfl (unhide hr) ?_)
          go_wp2_with fail
          exact ⟨⟨j + 1, hlt, by go_num, unhide I2⟩, by simp [intOf]; omega⟩
        · obtain rfl : k = j := by omega
          have hkI2 : ¬ (k : Int) < (k : Int) := by omega
          obtain ⟨h, ht, lsm⟩ := unhide HH
          obtain ⟨F1, lnz, l3, tl, hL, by_⟩ := unhide HF
          obtain ⟨ps, tr, p1, p2, p3, R⟩ := unhide I
          obtain ⟨akl, ⟨xt, xtc, rfl, pk1, tt1⟩, xs2, e2, pk2, tt2⟩ := R.two p1 p3 lnz
          have ttx : tot tr ≤ 70000000 := by rw [tt1, tl]; exact ht
          have ttx2 : tot xs2 ≤ 70000000 := by rw [tt2, tl]; exact ht
          obtain ⟨hout, hsz, her, sz0, ln0, Lk, -⟩ := unhide HT
          have akL : alkL L ps := by rw [hL, ← l3]; exact akl
          have eer : (bldF room least ps).2.2 = er := by rw [bldF_alk room least akL, her]
          obtain ⟨out2, hout2⟩ : ∃ o, o = (bldF room least ps).1 := ⟨_, rfl⟩
          obtain ⟨sz2, hsz2⟩ : ∃ o, o = (bldF room least ps).2.1 := ⟨_, rfl⟩
          have len2 : out2.length ≤ 65535 := by rw [hout2]; exact bldF_len room least ps
          have by2 : ∀ x ∈ out2, IsB x := by
            rw [hout2]
            refine bldF_byte room least ps (fun p hp => ?_)
            rw [← p3] at hp
            obtain ⟨x, hx, rfl⟩ := List.mem_map.1 hp
            obtain ⟨q1, q2, q3⟩ := pk1.in_ x hx
            exact ⟨q1.bytes, q2.bytes, q3.bytes⟩
          have bR : Calls Try.prog 9 #[.int .i64 room, .int .i64 least, .slice xt k xtc] wo (BldQ wo out2 sz2 er) := (rbuild_any room least xt k xtc tr wo pk1 ttx).mono fun e w' q => by
            rw [p3] at q
            rw [hout2, hsz2, ← eer]
            exact q.q
          have bP : Hid (∀ W, wo.grownBy W none → Calls Try.prog 10 #[.int .i64 room, .int .i64 least, .slice (some ⟨gf, 0, none⟩) k fc] W (BldQ W out2 sz2 er)) := fun W g => (build_any room least (some ⟨gf, 0, none⟩) k fc xs2 W (pk2.grown g) ttx2).mono fun e w' q => by
            rw [e2] at q
            rw [hout2, hsz2, ← eer]
            exact q.q
          obtain ⟨ol2, hol2⟩ : ∃ o, o = out2.length := ⟨_, rfl⟩
          obtain ⟨sl2, hsl2⟩ : ∃ o, o = sz2.length := ⟨_, rfl⟩
          unfold BldQ at bR bP
          rw [← hol2, ← hsl2] at bR bP
          obtain ⟨-, -, g2⟩ := unhide H2
          obtain ⟨oa, os, g3⟩ := unhide H3
          obtain ⟨ob, ot, g4⟩ := unhide H4
          obtain ⟨g48, -⟩ := unhide G8
          have z12 := g2.size
          have z23 := g3.size
          have z34 := g4.size
          have z48 := g48.size
          have z8 := R.z8
          have kO : ∀ {B : Nat} {V : World} {v : Value} {d : List Int}, OwnB B V v d → V.grownBy W8 none → W1.heap.size ≤ B → OwnB B wo v d := fun h g hb => (h.kept (fun x e => g.block x (h.ltb x e).2 (by simp))).kept (fun x e => R.kp x (Nat.le_trans hb (h.ltb x e).1) (Nat.lt_of_lt_of_le (h.ltb x e).2 g.size))
          have kI : ∀ {B : Nat} {V : World} {v : Value} {d : List Int}, OwnI B V v d → V.grownBy W8 none → W1.heap.size ≤ B → OwnI B wo v d := fun h g hb => (h.kept (fun x e => g.block x (h.lt x e).2 (by simp))).kept (fun x e => R.kp x (Nat.le_trans hb (h.lt x e).1) (Nat.lt_of_lt_of_le (h.lt x e).2 g.size))
          have sAB := own_sep oa ob (Nat.le_refl _)
          have sI : ∀ g, (Value.slice sa sl sc).ownBlock = some g → (Value.slice ta sl tc).ownBlock ≠ some g := fun g e e2 => by
            have := (os.lt g e).2
            have := (ot.lt g e2).1
            omega
          have oa9 := kO oa (g4.trans g48) z12
          have ob9 := kO ob g48 (by omega)
          have os9 := kI os (g4.trans g48) z12
          have ot9 := kI ot g48 (by omega)
          have la9 : ∀ g, (Value.slice aa ol ac).ownBlock = some g ∨ (Value.slice ba ol bc).ownBlock = some g → g < wo.heap.size := fun g e => e.elim (fun e => (oa9.ltb g e).2) (fun e => (ob9.ltb g e).2)
          have belR := R.bel
          have bsR := R.bs
          have AB := hide (And.intro oa9 (And.intro ob9 (And.intro os9 (And.intro ot9 (And.intro sAB (And.intro sI (And.intro la9 (And.intro belR (And.intro bsR (And.intro z12 (And.intro z23 (And.intro z34 (And.intro z48 (And.intro z8 (And.intro len2 (And.intro by2 (And.intro hol2 ln0)))))))))))))))))
          clear h ht lsm F1 lnz l3 tl hL by_ p1 p2 p3 R akl pk1 tt1 e2 pk2 tt2 ttx ttx2 hout hsz her sz0 ln0 Lk akL eer hout2 hsz2 len2 by2 hol2 hsl2 g2 oa os g3 ob ot g4 g48 z12 z23 z34 z48 z8 kO kI sAB sI oa9 ob9 os9 ot9 la9 belR bsR I
          go_wp2_with fail
          refine bR.mono ?_
          rintro e W10 ⟨xa, xc, xb, xd, rfl, ox, -, g10⟩
          have bc' := unhide bP W10 g10
          have H10 := hide (And.intro ox g10)
          clear bR bP ox g10
          go_wp2_with fail
          refine bc'.mono ?_
          rintro e W11 ⟨ca, cc, cb, cd', rfl, oc, -, g11⟩
          obtain ⟨oa9, ob9, os9, ot9, sAB, sI, la9, belR, bsR, z12, z23, z34, z48, z8, len2, by2, hol2, ln0⟩ := unhide AB
          obtain ⟨ox, g10⟩ := unhide H10
          have kB : ∀ {B : Nat} {V W : World} {v : Value} {d : List Int}, OwnB B V v d → V.grownBy W none → OwnB B W v d := fun h g => h.kept (fun x e => g.block x (h.ltb x e).2 (by simp))
          have kJ : ∀ {B : Nat} {V W : World} {v : Value} {d : List Int}, OwnI B V v d → V.grownBy W none → OwnI B W v d := fun h g => h.kept (fun x e => g.block x (h.lt x e).2 (by simp))
          have sm := sameB (.slice ca ol2 cc) (.slice xa ol2 xc) out2 W11 (oc.inB by2) ((kB ox g11).inB by2)
          have z10 := g10.size
          have RA : Hid (∀ W, W11.grownBy W none → Calls Try.prog 18 #[.slice (some ⟨W.heap.size, 0, none⟩) 3 3] (W.alloc (.cells #[.slice aa ol ac, .slice ba ol bc, .slice ca ol2 cc] 27)) fun e w' => e = .returned (.bool true) ∧ Below W2.heap.size (W.alloc (.cells #[.slice aa ol ac, .slice ba ol bc, .slice ca ol2 cc] 27)) w' ∧ Bg.Kp (W.alloc (.cells #[.slice aa ol ac, .slice ba ol bc, .slice ca ol2 cc] 27)) w') := fun W g => by
            have gA := World.grownBy_alloc W (.cells #[.slice aa ol ac, .slice ba ol bc, .slice ca ol2 cc] 27) none
            have gT := (g10.trans (g11.trans g)).trans gA
            have z11 := g11.size
            have zW := g.size
            refine Bg.apart_row [.slice aa ol ac, .slice ba ol bc, .slice ca ol2 cc] #[.slice aa ol ac, .slice ba ol bc, .slice ca ol2 cc] _ _ W2.heap.size W.heap.size 3 (by omega) (Blk.new W #[.slice aa ol ac, .slice ba ol bc, .slice ca ol2 cc] 27) rfl (fun v hv => ?_) ?_ (by show (3 : Nat) ≤ 100000000; omega) (Below.refl _ _) (Bg.Kp.grown (World.grownBy.refl _ none))
            · simp only [List.mem_cons, List.not_mem_nil, or_false] at hv
              rcases hv with rfl | rfl | rfl
              · exact ⟨_, _, kB oa9 gT, by omega⟩
              · exact ⟨_, _, (kB ob9 gT).mono (by omega), by omega⟩
              · exact ⟨_, _, (kB oc (g.trans gA)).mono (by omega), by omega⟩
            · have sX : ∀ {v : Value}, (∀ g, v.ownBlock = some g → g < wo.heap.size) → Bg.sepV v (.slice ca ol2 cc) := fun {v} hv => by
                cases e : v.ownBlock with
                | none => exact .inl e
                | some g =>
                  refine .inr (fun e2 => ?_)
                  rw [e] at e2
                  have := hv g e
                  have := (oc.ltb g e2.symm).1
                  omega
              refine List.Pairwise.cons (fun v hv => ?_) (List.Pairwise.cons (fun v hv => ?_) (List.Pairwise.cons (fun v hv => by cases hv) List.Pairwise.nil))
              · simp only [List.mem_cons, List.not_mem_nil, or_false] at hv
                rcases hv with rfl | rfl
                · exact sAB
                · exact sX (fun g e => la9 g (.inl e))
              · simp only [List.mem_cons, List.not_mem_nil, or_false] at hv
                subst hv
                exact sX (fun g e => la9 g (.inr e))
          have GR := hide (And.intro g10 g11)
          clear oa9 ob9 os9 ot9 sAB sI la9 belR bsR z12 z23 z34 z48 z8 len2 by2 hol2 ln0 ox g10 g11 oc z10 bc' kB kJ
          go_wp2_with fail
          refine sm.mono ?_
          rintro e W12 ⟨rfl, g12⟩
          have ra := unhide RA W12 g12
          have G12 := hide g12
          clear sm RA g12
          go_wp2_with fail
          refine ra.mono ?_
          rintro e W13 ⟨rfl, b13, k13⟩
          obtain ⟨oa9, ob9, os9, ot9, sAB, sI, la9, belR, bsR, z12, z23, z34, z48, z8, len2, by2, hol2, ln0⟩ := unhide AB
          obtain ⟨g10, g11⟩ := unhide GR
          have gA := World.grownBy_alloc W12 (.cells #[.slice aa ol ac, .slice ba ol bc, .slice ca ol2 cc] 27) none
          have gT := (g10.trans (g11.trans (unhide G12))).trans gA
          have zT := gT.size
          have z13 := b13.size
          have k3 : ∀ {B : Nat} {v : Value} {d : List Int}, OwnI B wo v d → OwnI B W13 v d := fun {B v d} h => by
            have h2 : OwnI B (W12.alloc (.cells #[.slice aa ol ac, .slice ba ol bc, .slice ca ol2 cc] 27)) v d := h.kept (fun x e => gT.block x (h.lt x e).2 (by simp))
            refine h2.kept (fun x e => ?_)
            obtain ⟨cs, hb⟩ := owns_ty h2 x e
            exact k13 x cs 3 (0, 0) hb (by decide) (by decide)
          have os13 := k3 os9
          have ot13 := owns_mono (k3 ot9) z23
          have AS := apartSizes_any W2.heap.size (.slice sa sl sc) (.slice ta sl tc) sz sz W13 os13 ot13 sI (by have := (unhide HL).2; omega) (by have := (unhide HL).2; omega) (by omega)
          have belT : Below W0.heap.size W0 W13 := ((belR.trans ((grown_bel gT).mono (by omega))).trans (b13.mono (by omega)))
          have be2 : (er == er) = true := by simp
          have BT := hide (And.intro belT (show W0.heap.size ≤ W2.heap.size by omega))
          clear oa9 ob9 os9 ot9 sAB sI la9 belR bsR z12 z23 z34 z48 z8 len2 by2 hol2 ln0 g10 g11 gA gT zT z13 k3 os13 ot13 belT ra b13 k13
          go_wp2_with fail
          refine AS.mono ?_
          rintro e W14 ⟨rfl, b14⟩
          have gF := bel_gr (unhide G0) ((unhide BT).1.trans (b14.mono (unhide BT).2))
          clear AS b14
          go_wp2_with fail
          go_ret
          exact ⟨rfl, gF⟩
end Go.Proofs.Ytpcnpdippnljpaa

namespace Go.Proofs.Ytpcnpdippnljpaa
open Go.ChangeShapes Go.WideShapes Go.ChangeAt Go.RowKit
set_option linter.unusedVariables false
set_option maxRecDepth 100000
namespace packBuildsFrame

theorem own : ownKnob Try.prog.godebug = none := by kernel_rfl
theorem laidOut : laidOutB Try.prog = true := by kernel_rfl

set_option maxRecDepth 100000 in
theorem lifted (os : Os) (started : os.Started) (H : Type) (enc : TypeId × Value → H) (F : Stop.Interp) :
    ReturnsInHanded {} Try.checked os 3 .any ((Rows.OpenSpec.upto Rows.packBuildsSpec).pre6 enc Try.prog Try.f3 Rows.packBuildsUptoRow.domain false) (((Rows.OpenSpec.upto Rows.packBuildsSpec).at F).post enc Try.prog Try.f3 false true false false) := by
  refine returnsInHanded_of_cond_sized (C := Try.checked) (s := Rows.OpenSpec.upto Rows.packBuildsSpec) (k := Rows.uptoSmall) rfl own started (by kernel_rfl) Try.func3
    (OpenSpec.witness (enc := enc) (C := Try.checked) (s := Rows.OpenSpec.upto Rows.packBuildsSpec) (k := Rows.uptoSmall) rfl false ⟨#[], #[.int .i64 0, .int .i64 0, .slice none 0 0], []⟩ 8 (by kernel_rfl) (by kernel_rfl) (by kernel_rfl)
      (x := ([.lit (.int .i64 0), .lit (.int .i64 0), .nil], [], [])) (by kernel_rfl) rfl (by kernel_rfl)) ?_
  intro W base args ds gs before hval0 hW hcnd hk hsz0 _
  have hsz : (DataW.weightsEach Try.prog (Try.f3.params.toList ++ (Rows.OpenSpec.upto Rows.packBuildsSpec).bare.plain.varTypes Try.prog) (ds ++ gs)).all (· ≤ reachBytes) = true := hsz0
  have hval : ∀ (j : Nat) t v, Try.f3.params[j]? = some t → args[j]? = some v → Value.okWide Try.prog W .any base t v := hval0
  have hW' := hW
  obtain ⟨p, q, hA0, hV, rfl, hfz, hnd⟩ := hW
  have hA : DataW.TrodAll enc Try.prog W 0 (fun _ => true) true Try.f3.params.toList args.toList ds p := hA0
  rw [Try.params3] at hA hval hsz
  obtain ⟨v0, vs0, d0, ds0, p0, q0, hargs, rfl, rfl, h0, r0⟩ := trodAll_cons hA
  obtain ⟨v1, vs1, d1, ds1, p1, q1, rfl, rfl, rfl, h1, r1⟩ := trodAll_cons r0
  obtain ⟨v2, vs2, d2, ds2, p2, q2, rfl, rfl, rfl, h2, r2⟩ := trodAll_cons r1
  obtain ⟨rfl, rfl, rfl⟩ := trodAll_nil r2
  obtain rfl : args = #[v0, v1, v2] := by cases args; simp_all
  obtain ⟨rfl, rfl⟩ := trodVars_none hV
  have k0 := h0
  have lt0 : ∀ x ∈ p0, x.block < W.heap.size := by obtain ⟨m, hm⟩ := k0; exact DataW.trod_lt m _ _ _ hm
  obtain ⟨a0, rfl, rfl, rfl, w0⟩ := open_int Try.underlying3 (hval 0 3 v0 rfl rfl) h0
  have k1 := h1
  have lt1 : ∀ x ∈ p1, x.block < W.heap.size := by obtain ⟨m, hm⟩ := k1; exact DataW.trod_lt m _ _ _ hm
  obtain ⟨a1, rfl, rfl, rfl, w1⟩ := open_int Try.underlying3 (hval 1 3 v1 rfl rfl) h1
  have k2 := h2
  have lt2 : ∀ x ∈ p2, x.block < W.heap.size := by obtain ⟨m, hm⟩ := k2; exact DataW.trod_lt m _ _ _ hm
  obtain ⟨a2, len2, cap2, rfl⟩ := okWide_slice Try.underlying22 (hval 2 22 v2 rfl rfl)
  obtain ⟨X2, w2, t2, m2⟩ : ∃ xs, IsPks W a2 len2 cap2 xs ∧ tot xs ≤ 70000000 ∧ len2 ≤ 1048576 := by
    obtain ⟨fuel, hf⟩ := h2
    exact open_pks (x := (d2, p2)) (by simpa [Value.cells] using hf) (bulk_mem hk (d := d2) (by simp))
  clear hA0 hval0
  refine (builds_walk a0 a1 a2 len2 cap2 X2 W w2 t2).mono fun e W' ⟨he, gr⟩ => ?_
  have bel := grown_bel gr
  subst he
  exact ⟨_, rfl, _, _, _, [], _, [], hW', trodAll_mk1 (shut_bool Try.underlying4 _), (trodAll_cons_mk (shut_int Try.underlying3 w0) (trodAll_cons_mk (shut_int Try.underlying3 w1) (trodAll_cons_mk (Below.trod laidOut (by kernel_rfl) (of_decide_eq_true (by kernel_rfl)) k2 bel lt2) trodAll_mk0))), rfl, bel.frame _, fun h => by cases h⟩

theorem over : Rows.packBuildsUptoRow.holds Try.pinned (Rows.OpenSpec.upto Rows.packBuildsSpec) :=
  OpenClaim.holds_of_cond 3 Try.f3 rfl rfl rfl rfl rfl rfl rfl ⟨rfl, rfl, rfl, rfl, rfl⟩ rfl rfl rfl rfl rfl (by kernel_rfl) Try.func3 (by kernel_rfl)
    (of_decide_eq_true (by kernel_rfl)) (by unfold Func.isWrapper; first | (rw [if_pos (by decide +kernel)]; kernel_rfl) | (rw [if_neg (by decide +kernel)]; exact ⟨rfl, rfl⟩))
    (fun os started H enc _ F => lifted os started H enc F)
end packBuildsFrame

/-- THE STATEMENT -/
theorem packBuilds_holds : Rows.PackBuildsUptoSaid := packBuildsFrame.over
end Go.Proofs.Ytpcnpdippnljpaa
