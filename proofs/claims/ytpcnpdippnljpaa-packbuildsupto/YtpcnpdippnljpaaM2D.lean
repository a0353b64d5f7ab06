/- B2A, B2B, B2C, B2D, B2E, B2F, B2G, B2H, one text. -/
import Derived.Test.YtpcnpdippnljpaaM2B
import Derived.Test.YtpcnpdippnljpaaM2F
import Derived.Lib.AppendZeros
import Derived.OwnWalk
import Derived.Test.YtpcnpdippnljpaaM2C
import Derived.BigQuiet
import Derived.Deep.DeepCutAuto
namespace Go.Proofs.Ytpcnpdippnljpaa
open Go.RowKit
set_option linter.unusedVariables false
set_option maxRecDepth 100000
set_option maxHeartbeats 1000000

/-- A padding frame. -/
def padFr (n : Nat) : Kf.Fr := ⟨0, 0, 0, [], n, false, false, 0, false, 0, false, 0, [], false, 0, 0, 0⟩
theorem pad_enc (n : Nat) (h1 : 1 ≤ n) (h2 : n ≤ 65535) : Kf.encF (padFr n) = (List.replicate n 0, 0) := by
  have hm : Kf.mayF (padFr n) { Kf.Fr.zero with kind := 0 } (14, 0, 0, 0) = true := by
    simp [Kf.mayF, Kf.fitsF, Kf.numb, Kf.takeF, Kf.setF, Kf.bareF, padFr, Kf.Fr.zero]
    exact ⟨by omega, decide_eq_true (by omega)⟩
  have ht : Kf.tellF (padFr n) = .inl ([0], List.replicate (n - 1) 0) := by
    unfold Kf.tellF
    have e0 : Kf.isKindF (padFr n).kind = true := rfl
    have e1 : Kf.typeF (padFr n) = 0 := rfl
    have e2 : Kf.shapeF 0 = some ({ Kf.Fr.zero with kind := 0 }, 14, 0, 0, 0) := rfl
    rw [if_pos e0, e1, e2]
    simp only
    rw [if_pos hm]
    have e3 : ((padFr n).size - 1).toNat = n - 1 := by simp [padFr]
    simp [Kf.numsP, Kf.restF, e3]
  unfold Kf.encF
  rw [ht]
  have e4 : Kf.encL [0] = [0] := by decide
  simp only [e4]
  obtain ⟨m, rfl⟩ : ∃ m, n = m + 1 := ⟨n - 1, by omega⟩
  simp [List.replicate_succ]

theorem pad_any (n : Nat) (h1 : 1 ≤ n) (h2 : n ≤ 65535) (w : World) :
    Calls Try.prog 40 #[.agg #[.int .i64 0, .int .i64 0, .int .i64 0, .slice none 0 0, .int .i64 (n : Int), .bool false, .bool false, .int .i64 0, .bool false, .int .i64 0, .bool false, .int .i64 0, .slice none 0 0, .bool false, .int .i64 0, .int .i64 0, .int .i64 0]] w
      fun e w' => ∃ v, e = .returned (.tuple #[v, .int .i64 0]) ∧ OwnB w.heap.size w' v (List.replicate n 0) ∧ w.grownBy w' none := by
  have h := Kf.encode_any (padFr n) nilV nilV w ⟨⟨none, 0, rfl, Nat.le_refl _, by decide⟩, ⟨none, 0, rfl, fun h => absurd rfl h, Nat.le_refl _, by decide⟩, fun s hs => by cases hs⟩ ⟨none, 0, rfl, ⟨fun x hx => (by cases hx), fun hne => absurd rfl hne⟩, Nat.le_refl _, by decide⟩ (by simp [padFr]) (by simp [padFr]) (by simp [padFr])
  rw [pad_enc n h1 h2] at h
  exact h

/-- Grow of nil: room. -/
theorem grow_nil (n : Nat) (h0 : 0 < n) (hn : n ≤ 1000000) (w : World) :
    Calls Try.prog 53 #[.slice none 0 0, .int .i64 n] w fun e w' => ∃ v, e = .returned v ∧ OwnB w.heap.size w' v [] ∧ w.grownBy w' none := by
  obtain ⟨inf, hi0, hz0, hz1, hz2⟩ := info_parts Try.info5
  have hr := fun ty => Lib.run_append_nil_zeros (P := Try.prog) w 27 3 ty 5 inf (.int .u8 0) .i64 .i64 Try.underlying27 Try.underlying3 hi0 hz0 n h0 (by rw [hz1]; decide) (by omega) (by rw [hz2]; omega)
  have hcap : n ≤ grownCap w n 0 5 := grownCap_ge _ _ _ _
  have hmax : grownCap w n 0 5 ≤ maxLen := grownCap_le_maxLen _ _ _ _ (by unfold maxLen; omega)
  generalize grownCap w n 0 5 = c at *
  generalize hW : w.drew.alloc (.cells (Builtin.zeroCells (Value.int .u8 0).cells n ++ Builtin.zeroCells (Value.int .u8 0).cells (c - n)) 5) = W at *
  have F : Hid (∃ v, Ending.returned (.slice (some ⟨w.heap.size, 0, none⟩) 0 c) = .returned v ∧ OwnB w.heap.size W v [] ∧ w.grownBy W none) := by
    refine ⟨_, rfl, ⟨by simp, .inr ⟨w.heap.size, c, _, rfl, Nat.le_refl _, by rw [← hW]; exact heap_alloc_new w.drew _, Nat.zero_le _, hmax, ?_, by simp⟩⟩, ?_⟩
    · simp [Builtin.zeroCells, Value.cells]; omega
    · rw [← hW]; exact (grown_drew_alloc w _).1
  clear hW hi0 hz0 hz1 hz2
  have h1 : (0 : Int) < n := by omega
  go_enter Try.func53, Try.ntmps53
  go_wp2_with (at_builtin; refine Lib.wpList_append_run _ rfl _ _ _ _ rfl _ _ rfl rfl _ _ (hr _) ?_)
  go_ret
  exact unhide F

/-- The first k of two lists, one behind the other. -/
def cat2 (L : Nat → List Int) : Nat → List Int
  | 0 => []
  | k + 1 => cat2 L k ++ L k
/-- Two lists that lie side by side in a block. -/
structure Two (w : World) (g : Nat) (A : Nat → Option Addr) (C : Nat → Nat) (L : Nat → List Int) : Prop where
  cell : ∀ k, k < 2 → w.cell? ⟨g, k, none⟩ = some (.slice (A k) (L k).length (C k))
  rd : ∀ k, k < 2 → InB w (.slice (A k) (L k).length (C k)) (L k)
theorem Two.grown {w W : World} {g : Nat} {A : Nat → Option Addr} {C : Nat → Nat} {L : Nat → List Int} (h : Two w g A C L) (hg : w.grownBy W none) : Two W g A C L :=
  ⟨fun k hk => hg.cell (h.cell k hk) (by simp), fun k hk => (h.rd k hk).grown hg⟩

theorem concat2 (g : Nat) (A : Nat → Option Addr) (C : Nat → Nat) (L : Nat → List Int) (w : World) (h : Two w g A C L) (hl : ∀ k, k < 2 → (L k).length ≤ 70000) (hp : 0 < (L 1).length) :
    Calls Try.prog 41 #[.slice (some ⟨g, 0, none⟩) 2 2] w fun e w' => ∃ v, e = .returned v ∧ OwnB w.heap.size w' v (L 0 ++ L 1) ∧ w.grownBy w' none := by
  have len : ∀ k, k ≤ 2 → (cat2 L k).length ≤ k * 70000 := by
    intro k
    induction k with
    | zero => intro _; simp [cat2]
    | succ k ih => intro hk; have := ih (by omega); have := hl k (by omega); simp [cat2]; omega
  have pos : 0 < (cat2 L 2).length := by simp only [cat2, List.length_append]; omega
  have fin : cat2 L 2 = L 0 ++ L 1 := by simp [cat2]
  have FN := hide fin
  clear fin
  go_enter Try.func41, Try.ntmps41
  go_wp2_with fail
  go_loopw [11, 3] (fun i s wr => ∃ k : Nat, k ≤ 2 ∧ i = .int .i64 k ∧ s = .int .i64 (cat2 L k).length ∧ w = wr) (fun i _ _ => 2 - (intOf i).toNat)
  case atStart => exact ⟨0, by omega, rfl, rfl, rfl⟩
  case round =>
    obtain ⟨k, hk, rfl, rfl, rfl⟩ := hrel
    by_cases hk3 : k = 2
    · subst hk3
      have l2 := len 2 (by omega)
      have hgr := grow_nil (cat2 L 2).length pos (by omega) w
      have HL := hide hl; have HN := hide len
      clear hl len
      have HP := hide pos
      clear pos
      generalize hN : (cat2 L 2).length = N at *
      go_wp2_with (go_at_call 53; refine hgr.mono ?_; rintro e W1 ⟨v1, rfl, ho1, g1⟩)
      have HO := hide ho1; have HG := hide g1
      clear hgr ho1 g1
      go_loopw [27, 6] (fun i s wr' => ∃ k : Nat, k ≤ 2 ∧ i = .int .i64 k ∧ OwnB w.heap.size wr' s (cat2 L k) ∧ w.grownBy wr' none) (fun i _ _ => 2 - (intOf i).toNat)
      case atStart => exact ⟨0, by omega, rfl, unhide HO, unhide HG⟩
      case round =>
        obtain ⟨k, hk, rfl, ho, hg⟩ := hrel
        clear HO HG
        by_cases hk3 : k = 2
        · subst hk3
          have F := hide (And.intro ho hg)
          clear ho hg
          go_wp2_with fail
          go_ret
          exact ⟨_, rfl, by rw [← unhide FN]; exact (unhide F).1, (unhide F).2⟩
        · have hlt : (k : Int) < 2 := by omega
          have m2 := unhide HN k (by omega)
          have h' := h.grown hg
          have c1 := h'.cell k (by omega)
          have l4 := unhide HL k (by omega)
          obtain ⟨v', w', hr, ho', hg'⟩ := app_rd wr w.heap.size 27 _ _ ho _ (L k) (h'.rd k (by omega)) (by omega) hg.size
          have hg2 := grown_own hg hg' ho.block
          have F := hide (And.intro ho' hg2)
          clear ho hg ho' hg' hg2 m2 l2 HN hN
          generalize (L k).length = M at *
          go_wp2_with (at_builtin; refine Lib.wpList_append_run _ rfl _ _ _ _ rfl _ _ rfl rfl _ _ hr ?_)
          exact ⟨⟨k + 1, by omega, rfl, (unhide F).1, (unhide F).2⟩, by simp [intOf]; omega⟩
    · have hlt : (k : Int) < 2 := by omega
      have l1 := len k (by omega)
      have c1 := h.cell k (by omega)
      have l3 := hl k (by omega)
      have E : (cat2 L (k + 1)).length = (cat2 L k).length + (L k).length := by simp [cat2]
      have HE := hide E
      clear hl len E
      generalize (cat2 L k).length = N at *
      generalize (L k).length = M at *
      go_wp2_with fail
      exact ⟨⟨k + 1, by omega, rfl, by rw [unhide HE]; simp, trivial⟩, by simp [intOf]; omega⟩
end Go.Proofs.Ytpcnpdippnljpaa

namespace Go.Proofs.Ytpcnpdippnljpaa
open Go.RowKit
set_option linter.unusedVariables false
set_option maxRecDepth 100000
set_option maxHeartbeats 1000000

def padP (p : Pk) (least : Int) : Pk := if least - (ovF p).1 - p.payload.length ≤ 0 then p else { p with payload := p.payload ++ List.replicate (least - (ovF p).1 - p.payload.length).toNat 0 }
theorem ovF_in (p : Pk) : 0 ≤ (ovF p).1 ∧ (ovF p).1 ≤ 60 := by
  unfold ovF
  split
  · simp
  · split
    · simp
    · rename_i h1 h2
      have := okh_of h1 h2
      have hw := this.w; have hd := this.d; have hs := this.s
      unfold overP
      simp only
      split
      · omega
      · split <;> omega

/-- What padded leaves. -/
def PadPost (w : World) (p : Pk) (d s y : Value) (least : Int) (e : Ending) (w' : World) : Prop := ∃ y', e = .returned ((padP p least).val d s y') ∧ InB w' y' (padP p least).payload ∧ w.grownBy w' none ∧ (y' = y ∨ ∀ g, y'.ownBlock = some g → w.heap.size ≤ g)
/-- A packet that is answered in a block of one's own. -/
theorem ans6 {w W : World} {gr : Nat} {u0 u1 u2 u3 u4 u5 : Value} {v0 v1 v2 v3 v4 v5 : Value} (hR : Blk W gr #[u0, u1, u2, u3, u4, u5] 29) (hg : w.grownBy W none) (hl : w.heap.size ≤ gr) {x : Value} {l : List Int} (hx : InB W x l) (hx2 : ∀ b n c, x = .slice (some b) n c → 0 < c → b.block ≠ gr) :
    Blk ((((((W.setCell ⟨gr, 0, none⟩ v0).setCell ⟨gr, 1, none⟩ v1).setCell ⟨gr, 2, none⟩ v2).setCell ⟨gr, 3, none⟩ v3).setCell ⟨gr, 4, none⟩ v4).setCell ⟨gr, 5, none⟩ v5) gr #[v0, v1, v2, v3, v4, v5] 29 ∧
    w.grownBy ((((((W.setCell ⟨gr, 0, none⟩ v0).setCell ⟨gr, 1, none⟩ v1).setCell ⟨gr, 2, none⟩ v2).setCell ⟨gr, 3, none⟩ v3).setCell ⟨gr, 4, none⟩ v4).setCell ⟨gr, 5, none⟩ v5) none ∧
    InB ((((((W.setCell ⟨gr, 0, none⟩ v0).setCell ⟨gr, 1, none⟩ v1).setCell ⟨gr, 2, none⟩ v2).setCell ⟨gr, 3, none⟩ v3).setCell ⟨gr, 4, none⟩ v4).setCell ⟨gr, 5, none⟩ v5) x l := by
  have gg : W.grownBy ((((((W.setCell ⟨gr, 0, none⟩ v0).setCell ⟨gr, 1, none⟩ v1).setCell ⟨gr, 2, none⟩ v2).setCell ⟨gr, 3, none⟩ v3).setCell ⟨gr, 4, none⟩ v4).setCell ⟨gr, 5, none⟩ v5) (some gr) :=
    grown_at (grown_at (grown_at (grown_at (grown_at (grown_at (World.grownBy.refl W (some gr)) 0 _) 1 _) 2 _) 3 _) 4 _) 5 _
  refine ⟨hR.set6, grown_own hg gg (fun g e => by cases e; exact hl), ?_⟩
  obtain ⟨a, c, e, hr, h1, h2, h3⟩ := hx
  subst e
  have far : ∀ x, a = some x → 0 < c → x.block ≠ gr ∧ x.block < W.heap.size := fun x ex hc => ⟨hx2 x l.length c (by rw [ex]) hc, (h3 x ex hc).1⟩
  exact ⟨a, c, rfl, hr.farC h1 gg far, h1, h2, fun x ex hc => ⟨Nat.lt_of_lt_of_le (h3 x ex hc).1 gg.size, Nat.ne_of_lt (Nat.lt_of_lt_of_le (h3 x ex hc).1 gg.size), (h3 x ex hc).2.2⟩⟩

theorem padded_any (p : Pk) (d s y : Value) (least : Int) (w : World) (hd : InB w d p.dst) (hs : InB w s p.src) (hy : InB w y p.payload) (l1 : p.dst.length ≤ 140737488351232) (l2 : p.src.length ≤ 140737488351232) (l3 : p.payload.length ≤ 140737488351232) (lo : -4611686018427387904 ≤ least) (hi : least ≤ 65535) :
    Calls Try.prog 29 #[p.val d s y, .int .i64 least] w (PadPost w p d s y least) := by
  obtain ⟨a1, c1, rfl, -⟩ := id hd
  obtain ⟨a2, c2, rfl, -⟩ := id hs
  obtain ⟨a3, c3, rfl, -, k1, k2, k3⟩ := id hy
  obtain ⟨b0, bR, g0⟩ := Blk.two w (p.cs (.slice a1 p.dst.length c1) (.slice a2 p.src.length c2) (.slice a3 p.payload.length c3)) (pcs 0 nilV nilV 0 0 nilV) 29 29
  have hov := fun W => overhead_any p a1 a2 c1 c2 (.slice a3 p.payload.length c3) W (by omega) (by omega)
  have hoi := ovF_in p
  have hml : ¬ (9223372036854775807 : Int) < (p.payload.length : Int) := by omega
  have HD := hide (And.intro hd (And.intro hs hy))
  have K3 := hide k3
  go_enter Try.func29, Try.ntmps29
  go_wp2_with fail
  generalize (w.alloc (.cells (p.cs (.slice a1 p.dst.length c1) (.slice a2 p.src.length c2) (.slice a3 p.payload.length c3)) 29)).alloc (.cells (pcs 0 nilV nilV 0 0 nilV) 29) = W0 at *
  refine (hov _).mono ?_
  rintro e W1 ⟨rfl, g1⟩
  have b1 := b0.grown g1
  have r1 := bR.grown g1
  have gw := g0.trans g1
  have a3n : ∀ b n c, Value.slice a3 p.payload.length c3 = .slice (some b) n c → 0 < c → b.block ≠ w.heap.size + 1 := fun b n c e hp => by
    injection e with e1 e2 e3
    have := (k3 b e1 (by omega)).1
    omega
  have A3N := hide a3n
  have hyw := hide (hy.grown gw)
  obtain ⟨r, hr⟩ : ∃ r, r = ovF p := ⟨_, rfl⟩
  rw [← hr] at hoi ⊢
  have w1 : IntKind.i64.wrap (least - r.1) = least - r.1 := by rw [IntKind.wrap_i64]; omega
  by_cases hk : least - r.1 - p.payload.length ≤ 0
  · have w2 : IntKind.i64.wrap (least - r.1 - p.payload.length) = least - r.1 - p.payload.length := by rw [IntKind.wrap_i64]; omega
    have e1 : padP p least = p := by unfold padP; rw [← hr, if_pos hk]
    have E1 := hide e1
    have x0 := b1.cell 0 (.int .i64 p.space) rfl
    have x1 := b1.cell 1 (.slice a1 p.dst.length c1) rfl
    have x2 := b1.cell 2 (.slice a2 p.src.length c2) rfl
    have x3 := b1.cell 3 (.int .i64 p.number) rfl
    have x4 := b1.cell 4 (.int .i64 p.width) rfl
    have x5 := b1.cell 5 (.slice a3 p.payload.length c3) rfl
    have z0 := r1.cell 0 (.int .i64 0) rfl
    have z1 := r1.cell 1 nilV rfl
    have z2 := r1.cell 2 nilV rfl
    have z3 := r1.cell 3 (.int .i64 0) rfl
    have z4 := r1.cell 4 (.int .i64 0) rfl
    have z5 := r1.cell 5 nilV rfl
    have tR := r1.thaws
    have F := hide (ans6 (v0 := .int .i64 p.space) (v1 := .slice a1 p.dst.length c1) (v2 := .slice a2 p.src.length c2) (v3 := .int .i64 p.number) (v4 := .int .i64 p.width) (v5 := .slice a3 p.payload.length c3) r1 gw (Nat.le_succ _) (unhide hyw) (unhide A3N))
    replace hr := hide hr
    clear b0 bR g0 hov hd hs hy g1 b1 r1 gw a3n e1 k1 k2 k3 hoi
    go_wp2_with fail
    refine bodyPost_ret (results_cell_row rfl _ _ (w.heap.size + 1) 29 _ (0, 0) _ rfl (unhide F).1 Try.underlying29 rfl Try.sizeP) rfl ?_
    unfold PadPost
    rw [unhide E1]
    exact ⟨_, rfl, (unhide F).2.2, (unhide F).2.1, .inl rfl⟩
  · obtain ⟨n, hn⟩ : ∃ n : Nat, least - r.1 - p.payload.length = (n : Int) := ⟨(least - r.1 - p.payload.length).toNat, by omega⟩
    have w2 : IntKind.i64.wrap (least - r.1 - p.payload.length) = (n : Int) := by rw [IntKind.wrap_i64]; omega
    have e1 : padP p least = { p with payload := p.payload ++ List.replicate n 0 } := by
      unfold padP
      rw [← hr, if_neg hk, hn]
      simp
    have E1 := hide e1
    have n1 : 1 ≤ n := by omega
    have n2 : n ≤ 65535 := by omega
    have hlp : p.payload.length ≤ 65535 := by omega
    have nI : ¬ (n : Int) ≤ 0 := by omega
    have hbp := (unhide HD).2.2.bytes
    have EN := hide (pad_any n n1 n2 W1)
    replace hr := hide hr
    replace hn := hide hn
    have HH := hide (And.intro b1 (And.intro r1 (And.intro gw hbp)))
    have x5 := b1.cell 5 (.slice a3 p.payload.length c3) rfl
    clear b0 bR g0 hov hd hs hy g1 b1 r1 gw a3n e1 k1 k2 k3 hk hoi hbp lo hi
    go_wp2_with fail
    refine (unhide EN).mono ?_
    rintro e W2 ⟨v, rfl, ho, g2⟩
    clear x5
    obtain ⟨va, vc, rfl⟩ := ho.shape
    obtain ⟨b1, r1, gw, hbp⟩ := unhide HH
    have hzb : ∀ x ∈ List.replicate n (0 : Int), IsB x := fun x hx => by rw [List.eq_of_mem_replicate hx]; exact ⟨by omega, by omega⟩
    have b2 := b1.grown g2
    have x5 := b2.cell 5 (.slice a3 p.payload.length c3) rfl
    obtain ⟨W3, hW3⟩ : ∃ W3, W3 = W2.alloc (.cells #[.slice a3 p.payload.length c3, .slice va (List.replicate n (0 : Int)).length vc] 27) := ⟨_, rfl⟩
    have g3 : W2.grownBy W3 none := by rw [hW3]; exact World.grownBy_alloc _ _ none
    have bT : Blk W3 W2.heap.size #[.slice a3 p.payload.length c3, .slice va (List.replicate n (0 : Int)).length vc] 27 := by rw [hW3]; exact Blk.new _ _ _
    have gg := gw.trans (g2.trans g3)
    have tw : Two W3 W2.heap.size (fun k => if k = 0 then a3 else va) (fun k => if k = 0 then c3 else vc) (fun k => if k = 0 then p.payload else List.replicate n (0 : Int)) := by
      refine ⟨fun k hk => ?_, fun k hk => ?_⟩
      · rcases (by omega : k = 0 ∨ k = 1) with rfl | rfl
        · exact bT.cell 0 _ rfl
        · exact bT.cell 1 _ rfl
      · rcases (by omega : k = 0 ∨ k = 1) with rfl | rfl
        · exact ((unhide hyw).grown (g2.trans g3))
        · exact (ho.inB hzb).grown g3
    have CC : Hid (Calls Try.prog 41 #[.slice (some ⟨W2.heap.size, 0, none⟩) 2 2] W3 fun e w' => ∃ v, e = .returned v ∧ OwnB W3.heap.size w' v (p.payload ++ List.replicate n (0 : Int)) ∧ W3.grownBy w' none) := (concat2 W2.heap.size _ _ _ W3 tw (fun k hk => by
      rcases (by omega : k = 0 ∨ k = 1) with rfl | rfl
      · show p.payload.length ≤ 70000; omega
      · show (List.replicate n (0 : Int)).length ≤ 70000; rw [List.length_replicate]; omega) (by show 0 < (List.replicate n (0 : Int)).length; rw [List.length_replicate]; omega))
    have b3 := b2.grown g3
    have r3 := (r1.grown g2).grown g3
    have s3 : w.heap.size + 1 < W3.heap.size := r3.lt
    have HH3 := hide (And.intro b3 (And.intro r3 (And.intro gg (And.intro hbp hzb))))
    rw [List.length_replicate] at hW3
    clear HH EN b1 r1 gw hbp hzb g2 g3 gg tw bT b2 b3 r3 ho
    go_upto_region 6 with fail
    go_wp2_with fail
    rw [← hW3]
    replace hW3 := hide hW3
    refine (unhide CC).mono ?_
    rintro e W4 ⟨v4, rfl, ho4, g4⟩
    obtain ⟨a4, c4, rfl⟩ := ho4.shape
    obtain ⟨b3, r3, gg, hbp, hzb⟩ := unhide HH3
    obtain ⟨m, hm⟩ : ∃ m, m = (p.payload ++ List.replicate n (0 : Int)).length := ⟨_, rfl⟩
    rw [← hm] at ho4 ⊢
    have b4 := b3.grown g4
    have r4 := r3.grown g4
    have k5 := b4.cell 5 (.slice a3 p.payload.length c3) rfl
    have t5 := b4.thaws
    have b5 : Blk (W4.setCell ⟨w.heap.size, 5, none⟩ (.slice a4 m c4)) w.heap.size (p.cs (.slice a1 p.dst.length c1) (.slice a2 p.src.length c2) (.slice a4 m c4)) 29 := b4.setC 5 (.slice a4 m c4)
    have r5 := r4.setO w.heap.size 5 (.slice a4 m c4) (by omega)
    have g5 := grown_set (gg.trans g4) w.heap.size 5 (.slice a4 m c4) (Nat.le_refl _)
    have gg5 := grown_at (World.grownBy.refl W4 (some w.heap.size)) 5 (.slice a4 m c4)
    have o5 := ho4.far gg5 (fun q e => by cases e; omega)
    have hby : ∀ x ∈ p.payload ++ List.replicate n (0 : Int), IsB x := fun x hx => (List.mem_append.1 hx).elim (hbp x) (hzb x)
    have x0 := b5.cell 0 (.int .i64 p.space) rfl
    have x1 := b5.cell 1 (.slice a1 p.dst.length c1) rfl
    have x2 := b5.cell 2 (.slice a2 p.src.length c2) rfl
    have x3 := b5.cell 3 (.int .i64 p.number) rfl
    have x4 := b5.cell 4 (.int .i64 p.width) rfl
    have x5 := b5.cell 5 (.slice a4 m c4) rfl
    have z0 := r5.cell 0 (.int .i64 0) rfl
    have z1 := r5.cell 1 nilV rfl
    have z2 := r5.cell 2 nilV rfl
    have z3 := r5.cell 3 (.int .i64 0) rfl
    have z4 := r5.cell 4 (.int .i64 0) rfl
    have z5 := r5.cell 5 nilV rfl
    have tR := r5.thaws
    have F := hide (ans6 (v0 := .int .i64 p.space) (v1 := .slice a1 p.dst.length c1) (v2 := .slice a2 p.src.length c2) (v3 := .int .i64 p.number) (v4 := .int .i64 p.width) (v5 := .slice a4 m c4) r5 g5 (Nat.le_succ _) (o5.inB hby) (fun b m c e hp => by
      have := (ho4.ltb b.block (by rw [e]; rfl)).1
      omega))
    have ON := hide (fun g e => Nat.le_trans (Nat.le_trans (Nat.le_add_right _ 1) (Nat.le_of_lt s3)) (ho4.ltb g e).1)
    replace hm := hide hm
    clear CC HH3 b3 r3 gg hbp hzb b4 r4 g4 b5 r5 g5 gg5 o5 ho4 hby
    go_wp2_with fail
    refine bodyPost_ret (results_cell_row rfl _ _ (w.heap.size + 1) 29 _ (0, 0) _ rfl (unhide F).1 Try.underlying29 rfl Try.sizeP) rfl ?_
    unfold PadPost
    rw [unhide E1]
    exact ⟨_, rfl, (unhide F).2.2, (unhide F).2.1, .inr (unhide ON)⟩
end Go.Proofs.Ytpcnpdippnljpaa

namespace Go.Proofs.Ytpcnpdippnljpaa
open Go.RowKit
set_option linter.unusedVariables false
set_option maxRecDepth 100000
set_option maxHeartbeats 1000000

theorem InB.le {w W : World} {v : Value} {l : List Int} (h : InB w v l) (g : w.grownBy W none) : InB W v l := h.grown g
theorem IsPks.grown {w W : World} {a : Option Addr} {len cap : Nat} {xs : List PV} (h : IsPks w a len cap xs) (g : w.grownBy W none) : IsPks W a len cap xs := by
  refine ⟨h.hlen, h.hcap, fun x hx => ?_, h.ln, ?_⟩
  · obtain ⟨h1, h2, h3⟩ := h.in_ x hx
    exact ⟨h1.grown g, h2.grown g, h3.grown g⟩
  · rcases h.cell with e | ⟨b, off, e, hc⟩
    · exact .inl e
    · refine .inr ⟨b, off, e, fun i x hi j hj => ?_⟩
      have h1 := hc i x hi j hj
      have h2 : j < x.cl.length := hj
      rw [List.getElem?_eq_getElem h2] at h1 ⊢
      exact cell_grown h1 g

/-- Do the spaces rise? -/
def riseF : List Pk → Bool
  | [] => true
  | [_] => true
  | p :: q :: r => decide (p.space < q.space) && riseF (q :: r)
theorem riseF_iff : ∀ (L : List Pk), riseF L = true ↔ ∀ (i : Nat) (p q : Pk), L[i]? = some p → L[i + 1]? = some q → p.space < q.space
  | [] => by simp [riseF]
  | [x] => by
    simp only [riseF, true_iff]
    intro i p q hp hq
    simp at hq
  | p :: q :: r => by
    have ih := riseF_iff (q :: r)
    simp only [riseF, Bool.and_eq_true, decide_eq_true_eq, ih]
    refine ⟨fun ⟨h1, h2⟩ i x y hx hy => ?_, fun h => ⟨h 0 p q rfl rfl, fun i x y hx hy => h (i + 1) x y (by simpa using hx) (by simpa using hy)⟩⟩
    cases i with
    | zero => simp at hx hy; subst hx hy; exact h1
    | succ i => exact h2 i x y (by simpa using hx) (by simpa using hy)
/-- The first k rise. -/
def upTo (L : List Pk) (k : Nat) : Prop := ∀ (i : Nat) (p q : Pk), i + 1 < k → L[i]? = some p → L[i + 1]? = some q → p.space < q.space

theorem rise_any (a : Option Addr) (n cap : Nat) (xs : List PV) (w : World) (h : IsPks w a n cap xs) :
    Calls Try.prog 28 #[.slice a n cap] w fun e w' => e = .returned (.bool (riseF (xs.map PV.p))) ∧ w.grownBy w' none := by
  have hc2 := h.hcap
  have lenI : ¬ (9223372036854775807 : Int) < (n : Int) := by omega
  have HH := hide h
  have HN := hide h.hlen
  have HC := hide h.cell
  obtain ⟨r, hr⟩ : ∃ r, r = riseF (xs.map PV.p) := ⟨_, rfl⟩
  rw [← hr]
  have HR := hide hr
  clear h hc2 hr
  go_enter Try.func28, Try.ntmps28
  go_wp2_with fail
  go_loopw [6] (fun iv wr => ∃ k : Nat, k ≤ n ∧ iv = .int .i64 k ∧ Hid (upTo (xs.map PV.p) k ∧ w.grownBy wr none)) (fun iv _ => n - (intOf iv).toNat)
  case atStart => exact ⟨0, Nat.zero_le _, rfl, fun i p q h => by omega, World.grownBy.refl w none⟩
  case round =>
    obtain ⟨k, hk, rfl, I⟩ := hrel
    by_cases hlt : k < n
    · have hkI : (k : Int) < (n : Int) := by omega
      have hk0 : (0 : Int) ≤ (k : Int) := by omega
      obtain ⟨up, gr⟩ := unhide I
      obtain ⟨b, off, rfl, hcell⟩ := (unhide HC).resolve_left (by omega)
      obtain ⟨x, hx⟩ : ∃ x, xs[k]? = some x := ⟨_, List.getElem?_eq_getElem (by rw [unhide HN]; exact hlt)⟩
      by_cases h0 : k = 0
      · subst h0
        have d0 : decide (((0 : Nat) : Int) > 0) = false := by decide
        have F := hide (And.intro (show upTo (xs.map PV.p) 1 from fun i p q h => by omega) gr)
        clear up gr I hcell hx HC
        go_upto_region 4 with fail
        go_quiet (fail)
        go_wp2_with fail
        exact ⟨⟨1, by omega, by go_num, (unhide F).1, grown_drewN (unhide F).2⟩, by simp [intOf]; omega⟩
      · obtain ⟨j, rfl⟩ : ∃ j, k = j + 1 := ⟨k - 1, by omega⟩
        have d0 : decide (((j + 1 : Nat) : Int) > 0) = true := decide_eq_true (by omega)
        obtain ⟨y, hy⟩ : ∃ y, xs[j]? = some y := ⟨_, List.getElem?_eq_getElem (by rw [unhide HN]; omega)⟩
        have c0 := cell_grown (hcell (j + 1) x hx 0 (by omega)) gr
        have c1 := cell_grown (hcell j y hy 0 (by omega)) gr
        rw [Nat.add_zero] at c0 c1
        have wj : IntKind.i64.wrap (((j + 1 : Nat) : Int) - 1) = (j : Int) := by rw [IntKind.wrap_i64]; omega
        have j0 : (0 : Int) ≤ (j : Int) := by omega
        have jI : (j : Int) < (n : Int) := by omega
        by_cases hsp : x.p.space ≤ y.p.space
        · have d1 : decide (x.p.space ≤ y.p.space) = true := decide_eq_true hsp
          have e : r = false := by
            cases hrr : r with
            | false => rfl
            | true =>
              have := unhide HR
              rw [hrr] at this
              have := (riseF_iff _).1 this.symm j y.p x.p (by rw [List.getElem?_map, hy]; rfl) (by rw [List.getElem?_map, hx]; rfl)
              omega
          have F := hide (And.intro gr e)
          clear up gr I hcell hx hy HC hsp e
          generalize x.p.space = sx at *
          generalize y.p.space = sy at *
          go_upto_region 4 with fail
          go_quiet (fail)
          go_wp2_with fail
          go_ret
          rw [(unhide F).2]
          exact ⟨rfl, grown_drewN (unhide F).1⟩
        · have d1 : decide (x.p.space ≤ y.p.space) = false := decide_eq_false hsp
          have F := hide (And.intro (show upTo (xs.map PV.p) (j + 1 + 1) from fun i p q hi hp hq => by
            by_cases c : i + 1 < j + 1
            · exact up i p q c hp hq
            · obtain rfl : i = j := by omega
              rw [List.getElem?_map, hy] at hp
              rw [List.getElem?_map, hx] at hq
              cases hp; cases hq
              omega) gr)
          clear up gr I hcell hx hy HC hsp
          generalize x.p.space = sx at *
          generalize y.p.space = sy at *
          go_upto_region 4 with fail
          go_quiet (fail)
          go_wp2_with fail
          exact ⟨⟨j + 1 + 1, by omega, by go_num, (unhide F).1, grown_drewN (unhide F).2⟩, by simp [intOf]; omega⟩
    · obtain rfl : k = n := by omega
      have hkI : ¬ (k : Int) < (k : Int) := by omega
      obtain ⟨up, gr⟩ := unhide I
      have e : r = true := by
        rw [unhide HR, riseF_iff]
        intro i p q hp hq
        refine up i p q ?_ hp hq
        have := (List.getElem?_eq_some_iff.1 hq).1
        rw [List.length_map, unhide HN] at this
        exact this
      subst e
      have F := hide gr
      clear up gr I
      go_wp2_with fail
      go_ret
      exact ⟨rfl, unhide F⟩
end Go.Proofs.Ytpcnpdippnljpaa

namespace Go.Proofs.Ytpcnpdippnljpaa
open Go.RowKit
set_option linter.unusedVariables false
set_option linter.unusedSimpArgs false
set_option maxRecDepth 100000
set_option maxHeartbeats 4000000

/-- Numbers of one's own. -/
def OwnI (base : Nat) (w : World) (v : Value) (xs : List Int) : Prop := w.ownsRow base 3 1 v xs.length (xs.map (Value.int .i64))
theorem OwnI.nil (base : Nat) (w : World) : OwnI base w nilV [] := World.ownsRow_nil _ _ _ _
theorem OwnI.kept {base : Nat} {w w' : World} {v : Value} {xs : List Int} (h : OwnI base w v xs) (hk : ∀ g, v.ownBlock = some g → w'.heap[g]? = w.heap[g]?) : OwnI base w' v xs := by
  refine ⟨h.1, ?_⟩
  rcases h.2 with h2 | ⟨g, cap, cur, rfl, q1, q2, q3⟩
  · exact .inl h2
  · exact .inr ⟨g, cap, cur, rfl, q1, (hk g rfl).trans q2, q3⟩
theorem OwnI.lt {base : Nat} {w : World} {v : Value} {xs : List Int} (h : OwnI base w v xs) : ∀ g, v.ownBlock = some g → base ≤ g ∧ g < w.heap.size := World.ownsRow.lt h
theorem OwnI.grown {base : Nat} {w w' : World} {v : Value} {xs : List Int} (h : OwnI base w v xs) (g : w.grownBy w' none) : OwnI base w' v xs := h.kept fun x e => g.block x (h.lt x e).2 (by simp)
theorem OwnI.shape {base : Nat} {w : World} {v : Value} {xs : List Int} (h : OwnI base w v xs) : ∃ a c, v = .slice a xs.length c := by
  rcases h.2 with ⟨e, e2⟩ | ⟨g, cap, cur, rfl, -⟩
  · exact ⟨none, 0, by rw [e, e2]⟩
  · exact ⟨_, _, rfl⟩
theorem Try.infoI3 : (Try.prog.info? 3).map (fun i => (i.zero, i.size, i.bytes)) = some (some (.int .i64 0), 1, 8) := by kernel_rfl
theorem own_ty {b1 b2 : Nat} {w : World} {v v' : Value} {T xs : List Int} (h : OwnB b1 w v T) (h' : OwnI b2 w v' xs) : ∀ g, v.ownBlock = some g → v'.ownBlock ≠ some g := fun g e e' => by
  rcases h.2 with ⟨rfl, -⟩ | ⟨g1, c1, cur1, rfl, -, q1, -⟩
  · cases e
  · rcases h'.2 with ⟨rfl, -⟩ | ⟨g2, c2, cur2, rfl, -, q2, -⟩
    · cases e'
    · simp only [Value.ownBlock, Option.some.injEq] at e e'
      rw [e] at q1
      rw [e', q1] at q2
      simp at q2
/-- One number more. -/
theorem OwnI.push {base : Nat} {w : World} {v : Value} {xs : List Int} (h : OwnI base w v xs) (x : Int) (hl : xs.length ≤ 2000000) (hb : base ≤ w.heap.size) :
    ∃ a' c' w', (Builtin.append_ #[33, 33] 33 #[v, .slice (some ⟨w.heap.size, 0, none⟩) 1 1]).run Try.prog (w.alloc (.cells #[.int .i64 x] 3)) = .ok (.slice a' (xs.length + 1) c') w' ∧ OwnI base w' (.slice a' (xs.length + 1) c') (xs ++ [x]) ∧ (w.alloc (.cells #[.int .i64 x] 3)).grownBy w' v.ownBlock := by
  obtain ⟨i, hi, hz0, hz1, hz2⟩ := info_parts Try.infoI3
  have gA := World.grownBy_alloc w (.cells #[.int .i64 x] 3) none
  have h1 := h.grown gA
  obtain ⟨v', w', hr, ho, hg, -⟩ := run_append_own (P := Try.prog) (w.alloc (.cells #[.int .i64 x] 3)) base 33 33 3 i _ 1 8 Try.underlying33 hi hz0 hz1 hz2 rfl (by decide) v xs.length _ h1 ⟨w.heap.size, 0, none⟩ 1 1 [.int .i64 x] rfl (fun j u hj => by
    rw [show (⟨w.heap.size, 0, none⟩ : Addr).add j = ⟨w.heap.size, j, none⟩ by simp [Addr.add]; exact fun e => e.symm]
    exact (Blk.new w #[.int .i64 x] 3).cell j u (by simpa using hj)) (by intro u hu; simp at hu; subst hu; rfl) (by unfold maxLen; omega) (by omega) (Nat.le_trans hb gA.size)
  have ho' : OwnI base w' v' (xs ++ [x]) := by unfold OwnI; simpa using ho
  obtain ⟨a', c', e⟩ := ho'.shape
  rw [List.length_append] at e
  subst e
  exact ⟨a', c', w', hr, ho', hg⟩

/-- What Build answers: packet by packet. -/
def bldG (least : Int) : List Pk → List Int → List Int → List Int × List Int × Int
  | [], out, sz => (out, sz, 0)
  | p :: r, out, sz =>
    if encE (if r = [] then padP p (least - out.length) else p) = 0 then bldG least r (out ++ encB (if r = [] then padP p (least - out.length) else p)) (sz ++ [((encB (if r = [] then padP p (least - out.length) else p)).length : Int)])
    else ([], [], encE (if r = [] then padP p (least - out.length) else p))
def bldF (room least : Int) (L : List Pk) : List Int × List Int × Int :=
  if room < 0 ∨ 65535 < room ∨ least < 0 ∨ room < least ∨ riseF L = false then ([], [], 1)
  else if (bldG least L [] []).2.2 = 0 then (if room < (bldG least L [] []).1.length then ([], [], 200) else bldG least L [] [])
  else ([], [], (bldG least L [] []).2.2)
def BldPost (w : World) (r : List Int × List Int × Int) (e : Ending) (w' : World) : Prop :=
  ∃ bv sv, e = .returned (.tuple #[bv, sv, .int .i64 r.2.2]) ∧ OwnB w.heap.size w' bv r.1 ∧ OwnI w.heap.size w' sv r.2.1 ∧ w.grownBy w' none
theorem BldPost.none (w w' : World) (x : Int) (g : w.grownBy w' Option.none) : BldPost w ([], [], x) (.returned (.tuple #[nilV, nilV, .int .i64 x])) w' := ⟨_, _, rfl, World.ownsRow_nil _ _ _ _, OwnI.nil _ _, g⟩
theorem drop_cons {α : Type} {l : List α} {k : Nat} {x : α} (h : l[k]? = some x) : l.drop k = x :: l.drop (k + 1) := by
  obtain ⟨hl, rfl⟩ := List.getElem?_eq_some_iff.1 h
  exact List.drop_eq_getElem_cons hl
theorem padP_fields (p : Pk) (n : Int) : (padP p n).space = p.space ∧ (padP p n).dst = p.dst ∧ (padP p n).src = p.src ∧ (padP p n).number = p.number ∧ (padP p n).width = p.width := by
  unfold padP; split <;> exact ⟨rfl, rfl, rfl, rfl, rfl⟩
theorem padP_len (p : Pk) (n : Int) : (padP p n).payload.length ≤ max p.payload.length n.toNat := by
  have := ovF_in p
  unfold padP
  split
  · omega
  · simp only [List.length_append, List.length_replicate]; omega

/-- Between two packets. -/
structure BI (w : World) (least : Int) (L : List Pk) (xs : List PV) (k : Nat) (bv sv : Value) (wr : World) (out sz : List Int) : Prop where
  b_ : OwnB w.heap.size wr bv out
  s_ : OwnI w.heap.size wr sv sz
  gr : w.grownBy wr none
  eq : bldG least (L.drop k) out sz = bldG least L [] []
  lo : out.length + tot (xs.drop k) ≤ 70000000 ∨ (k = xs.length ∧ out.length ≤ 70100000)
  ls : sz.length = k
theorem tot_drop {xs : List PV} {k : Nat} {x : PV} (h : xs[k]? = some x) : tot (xs.drop k) = x.p.payload.length + 60 + tot (xs.drop (k + 1)) := by rw [drop_cons h]; rfl
theorem len_small {xs : List PV} (h : tot xs ≤ 70000000) : xs.length ≤ 1200000 := by
  have key : ∀ l : List PV, l.length * 60 ≤ tot l := by
    intro l
    induction l with
    | nil => simp [tot]
    | cons x l ih => simp only [tot, List.length_cons]; omega
  have := key xs
  omega
end Go.Proofs.Ytpcnpdippnljpaa

namespace Go.Proofs.Ytpcnpdippnljpaa
open Go.RowKit
set_option linter.unusedVariables false
set_option linter.unusedSimpArgs false
set_option maxRecDepth 100000
set_option maxHeartbeats 4000000

theorem build_bad (room least : Int) (a : Option Addr) (n cap : Nat) (w : World) (L : List Pk) (hb : room < 0 ∨ 65535 < room ∨ least < 0 ∨ room < least) :
    Calls Try.prog 10 #[.int .i64 room, .int .i64 least, .slice a n cap] w (BldPost w (bldF room least L)) := by
  have e : bldF room least L = ([], [], 1) := by
    unfold bldF
    rw [if_pos]
    rcases hb with h | h | h | h
    · exact .inl h
    · exact .inr (.inl h)
    · exact .inr (.inr (.inl h))
    · exact .inr (.inr (.inr (.inl h)))
  rw [e]
  clear e
  have key : (room < 0) ∨ (¬ room < 0 ∧ 65535 < room) ∨ (¬ room < 0 ∧ ¬ 65535 < room ∧ least < 0) ∨ (¬ room < 0 ∧ ¬ 65535 < room ∧ ¬ least < 0 ∧ room < least) := by omega
  clear hb
  rcases key with k | ⟨k1, k⟩ | ⟨k1, k2, k⟩ | ⟨k1, k2, k3, k⟩
  all_goals
    go_enter Try.func10, Try.ntmps10
    go_wp2_with fail
    go_ret3
    exact BldPost.none _ _ 1 (World.grownBy.refl _ none)

theorem build_any (room least : Int) (a : Option Addr) (n cap : Nat) (xs : List PV) (w : World) (h : IsPks w a n cap xs) (ht : tot xs ≤ 70000000) :
    Calls Try.prog 10 #[.int .i64 room, .int .i64 least, .slice a n cap] w (BldPost w (bldF room least (xs.map PV.p))) := by
  by_cases hb : room < 0 ∨ 65535 < room ∨ least < 0 ∨ room < least
  · exact build_bad room least a n cap w _ hb
  · have k1 : ¬ room < 0 := by omega
    have k2 : ¬ 65535 < room := by omega
    have k3 : ¬ least < 0 := by omega
    have k4 : ¬ room < least := by omega
    have hri := rise_any a n cap xs w h
    obtain ⟨L, hL⟩ : ∃ L, L = xs.map PV.p := ⟨_, rfl⟩
    have lsm := len_small ht
    have HH := hide (And.intro h (And.intro ht (And.intro hL lsm)))
    rw [← hL] at hri ⊢
    have lenI : ¬ (9223372036854775807 : Int) < (n : Int) := by have := h.hcap; omega
    by_cases hr : riseF L = true
    · rw [hr] at hri
      have e : bldF room least L = if (bldG least L [] []).2.2 = 0 then (if room < (bldG least L [] []).1.length then ([], [], 200) else bldG least L [] []) else ([], [], (bldG least L [] []).2.2) := by
        unfold bldF
        rw [if_neg]
        rintro (q | q | q | q | q)
        · exact k1 q
        · exact k2 q
        · exact k3 q
        · exact k4 q
        · rw [hr] at q; cases q
      rw [e]
      obtain ⟨T, hT⟩ : ∃ T, T = (if (bldG least L [] []).2.2 = 0 then (if room < (bldG least L [] []).1.length then (([], [], 200) : List Int × List Int × Int) else bldG least L [] []) else ([], [], (bldG least L [] []).2.2)) := ⟨_, rfl⟩
      rw [← hT]
      have HT := hide hT
      clear hT
      have kb : (0 : Int) ≤ least ∧ least ≤ 65535 := by omega
      have KB := hide kb
      clear e hb h ht lsm hr hL kb
      go_enter Try.func10, Try.ntmps10
      go_wp2_with fail
      refine hri.mono ?_
      rintro e w1 ⟨rfl, g1⟩
      have I0 : Hid (BI w least L xs 0 nilV nilV w1 [] []) := ⟨World.ownsRow_nil _ _ _ _, OwnI.nil _ _, g1, rfl, .inl (by have := (unhide HH).2.1; simpa using this), rfl⟩
      clear hri g1
      go_wp2_with fail
      go_loopw [37, 9, 10] (fun iv bv sv wr => ∃ k : Nat, k ≤ n ∧ iv = .int .i64 k ∧ Hid (∃ out sz, BI w least L xs k bv sv wr out sz)) (fun iv _ _ _ => n - (intOf iv).toNat)
      case atStart => exact ⟨0, Nat.zero_le _, rfl, [], [], unhide I0⟩
      case round =>
        clear I0
        obtain ⟨k, hk, rfl, I⟩ := hrel
        obtain ⟨out, sz, B⟩ := unhide I
        obtain ⟨ba, bc, rfl⟩ := B.b_.shape
        obtain ⟨sa, sc, rfl⟩ := B.s_.shape
        obtain ⟨h, ht, hL, lsm⟩ := unhide HH
        have hn := h.hlen
        by_cases hlt : k < n
        · obtain ⟨x, hx⟩ : ∃ x, xs[k]? = some x := ⟨_, List.getElem?_eq_getElem (by rw [hn]; exact hlt)⟩
          have hkI : (k : Int) < (n : Int) := by omega
          have hk0 : (0 : Int) ≤ (k : Int) := by omega
          have hlx := B.lo.resolve_right (fun e => by omega)
          have tdx := tot_drop hx
          obtain ⟨bo, off, rfl, hcell⟩ := h.cell.resolve_left (by omega)
          have gr := B.gr
          have hin := h.in_ x (List.mem_of_getElem? hx)
          obtain ⟨ld, ls, ly⟩ := h.ln x (List.mem_of_getElem? hx)
          obtain ⟨q1, q2, q3⟩ := hin
          obtain ⟨⟨sp, dst, src, nu, wd, py⟩, d, s, y⟩ := x
          simp only at q1 q2 q3 ld ls ly tdx
          obtain ⟨a1, c1, rfl, -⟩ := id q1
          obtain ⟨a2, c2, rfl, -⟩ := id q2
          obtain ⟨a3, c3, rfl, -⟩ := id q3
          have y0 : wr.cell? ⟨bo, off + k * 6, none⟩ = some (.int .i64 sp) := cell_grown (hcell k _ hx 0 (by omega)) gr
          have y1 : wr.cell? ⟨bo, off + k * 6 + 1, none⟩ = some (.slice a1 dst.length c1) := cell_grown (hcell k _ hx 1 (by omega)) gr
          have y2 : wr.cell? ⟨bo, off + k * 6 + 2, none⟩ = some (.slice a2 src.length c2) := cell_grown (hcell k _ hx 2 (by omega)) gr
          have y3 : wr.cell? ⟨bo, off + k * 6 + 3, none⟩ = some (.int .i64 nu) := cell_grown (hcell k _ hx 3 (by omega)) gr
          have y4 : wr.cell? ⟨bo, off + k * 6 + 4, none⟩ = some (.int .i64 wd) := cell_grown (hcell k _ hx 4 (by omega)) gr
          have y5 : wr.cell? ⟨bo, off + k * 6 + 5, none⟩ = some (.slice a3 py.length c3) := cell_grown (hcell k _ hx 5 (by omega)) gr
          obtain ⟨p, hp⟩ : ∃ p : Pk, p = ⟨sp, dst, src, nu, wd, py⟩ := ⟨_, rfl⟩
          obtain ⟨ol, hol⟩ : ∃ ol, ol = out.length := ⟨_, rfl⟩
          obtain ⟨sl, hsl⟩ : ∃ sl, sl = sz.length := ⟨_, rfl⟩
          obtain ⟨N, hN⟩ : ∃ N, N = wr.heap.size := ⟨_, rfl⟩
          have wn : IntKind.i64.wrap ((n : Int) - 1) = (n : Int) - 1 := by rw [IntKind.wrap_i64]; omega
          have ob : ol ≤ 70000000 := by omega
          have hkb := unhide KB
          have wl : IntKind.i64.wrap (least - (ol : Int)) = least - (ol : Int) := by rw [IntKind.wrap_i64]; omega
          have lenO : ¬ (9223372036854775807 : Int) < (ol : Int) := by omega
          have PAD := hide (fun (W : World) (g : wr.grownBy W none) => padded_any p (.slice a1 dst.length c1) (.slice a2 src.length c2) (.slice a3 py.length c3) (least - (ol : Int)) W (by rw [hp]; exact (q1.grown gr).grown g) (by rw [hp]; exact (q2.grown gr).grown g) (by rw [hp]; exact (q3.grown gr).grown g) (by rw [hp]; exact ld) (by rw [hp]; exact ls) (by rw [hp]; exact ly) (by omega) (by omega))
          have QQ := hide (And.intro (q1.grown gr) (And.intro (q2.grown gr) (And.intro (q3.grown gr) (And.intro ld (And.intro ls (And.intro ly (And.intro hlx tdx)))))))
          have BB := hide B
          have HX := hide hx
          have E1 := hide (And.intro hp (And.intro hol (And.intro hsl hn)))
          rw [← hol, ← hsl]
          have gA := World.grownBy_alloc wr (.cells #[.int .i64 sp, .slice a1 dst.length c1, .slice a2 src.length c2, .int .i64 nu, .int .i64 wd, .slice a3 py.length c3] 29) none
          have bA : Blk (wr.alloc (.cells #[.int .i64 sp, .slice a1 dst.length c1, .slice a2 src.length c2, .int .i64 nu, .int .i64 wd, .slice a3 py.length c3] 29)) N #[.int .i64 sp, .slice a1 dst.length c1, .slice a2 src.length c2, .int .i64 nu, .int .i64 wd, .slice a3 py.length c3] 29 := by rw [hN]; exact Blk.new _ _ _
          obtain ⟨w2, hw2⟩ : ∃ w2, w2 = wr.alloc (.cells #[.int .i64 sp, .slice a1 dst.length c1, .slice a2 src.length c2, .int .i64 nu, .int .i64 wd, .slice a3 py.length c3] 29) := ⟨_, rfl⟩
          rw [← hw2] at gA bA
          clear h ht hL lsm B I hcell hx gr q1 q2 q3 ld ls ly hlx tdx hp hol hsl hn
          go_upto_if 48 with fail
          rw [← hw2, ← hN]
          obtain ⟨q, hq⟩ : ∃ q : Pk, q = (if k + 1 = n then padP p (least - (ol : Int)) else p) := ⟨_, rfl⟩
          have xx0 := bA.cell 0 (.int .i64 sp) rfl
          have xx1 := bA.cell 1 (.slice a1 dst.length c1) rfl
          have xx2 := bA.cell 2 (.slice a2 src.length c2) rfl
          have xx3 := bA.cell 3 (.int .i64 nu) rfl
          have xx4 := bA.cell 4 (.int .i64 wd) rfl
          have xx5 := bA.cell 5 (.slice a3 py.length c3) rfl
          have BA := hide (And.intro bA gA)
          have HQ := hide hq
          have HW2 := hide hw2
          have HN := hide hN
          clear hq hw2 hN y0 y1 y2 y3 y4 y5 bA gA
          go_cut [] from 48 to 71 (fun wc => Hid (∃ y', Blk wc N (q.cs (.slice a1 dst.length c1) (.slice a2 src.length c2) y') 29 ∧ InB wc y' q.payload ∧ wr.grownBy wc none))
          case first =>
            obtain ⟨bA, gA⟩ := unhide BA
            by_cases hla : k + 1 = n
            · have be : ((k : Int) == (n : Int) - 1) = true := by simp; omega
              have hq : q = padP p (least - (ol : Int)) := by have := unhide HQ; rw [if_pos hla] at this; exact this
              have pd : Calls Try.prog 29 #[.agg #[.int .i64 sp, .slice a1 dst.length c1, .slice a2 src.length c2, .int .i64 nu, .int .i64 wd, .slice a3 py.length c3], .int .i64 (least - (ol : Int))] w2 (PadPost w2 p (.slice a1 dst.length c1) (.slice a2 src.length c2) (.slice a3 py.length c3) (least - (ol : Int))) := by
                have := (unhide PAD) w2 gA
                rw [(unhide E1).1] at this ⊢
                exact this
              have HQ2 := hq
              clear bA gA hla hq
              replace HQ2 := hide HQ2
              go_wp2_with fail
              refine pd.mono ?_
              rintro e w3 ⟨y', rfl, hy', g3, own⟩
              obtain ⟨bA, gA⟩ := unhide BA
              have b3 := bA.grown g3
              have g03 := gA.trans g3
              obtain ⟨ya, yc, rfl⟩ : ∃ ya yc, y' = .slice ya (padP p (least - (ol : Int))).payload.length yc := by obtain ⟨a, c, e, -⟩ := hy'; exact ⟨a, c, e⟩
              have hN := unhide HN
              have far : ∀ b m c, Value.slice ya (padP p (least - (ol : Int))).payload.length yc = .slice (some b) m c → 0 < c → b.block ≠ N := fun b m c e hc => by
                rcases own with own | own
                · have e2 := own.symm.trans e
                  injection e2 with e2 e3 e4
                  obtain ⟨az, cz, ez, -, -, -, lz⟩ := (unhide QQ).2.2.1
                  injection ez with ez1 ez2 ez3
                  have := (lz b (by rw [← ez1]; exact e2) (by omega)).1
                  omega
                · have := own b.block (by rw [e]; rfl)
                  have : w2.heap.size = wr.heap.size + 1 := by rw [unhide HW2, alloc_size]
                  omega
              have F6 := ans6 (v0 := .int .i64 (padP p (least - (ol : Int))).space) (v1 := .slice a1 dst.length c1) (v2 := .slice a2 src.length c2) (v3 := .int .i64 (padP p (least - (ol : Int))).number) (v4 := .int .i64 (padP p (least - (ol : Int))).width) (v5 := .slice ya (padP p (least - (ol : Int))).payload.length yc) b3 g03 (by omega) hy' far
              have FIN : Hid (Hid (∃ y', Blk ((((((w3.setCell ⟨N, 0, none⟩ (.int .i64 (padP p (least - (ol : Int))).space)).setCell ⟨N, 1, none⟩ (.slice a1 dst.length c1)).setCell ⟨N, 2, none⟩ (.slice a2 src.length c2)).setCell ⟨N, 3, none⟩ (.int .i64 (padP p (least - (ol : Int))).number)).setCell ⟨N, 4, none⟩ (.int .i64 (padP p (least - (ol : Int))).width)).setCell ⟨N, 5, none⟩ (.slice ya (padP p (least - (ol : Int))).payload.length yc)) N (q.cs (.slice a1 dst.length c1) (.slice a2 src.length c2) y') 29 ∧ InB ((((((w3.setCell ⟨N, 0, none⟩ (.int .i64 (padP p (least - (ol : Int))).space)).setCell ⟨N, 1, none⟩ (.slice a1 dst.length c1)).setCell ⟨N, 2, none⟩ (.slice a2 src.length c2)).setCell ⟨N, 3, none⟩ (.int .i64 (padP p (least - (ol : Int))).number)).setCell ⟨N, 4, none⟩ (.int .i64 (padP p (least - (ol : Int))).width)).setCell ⟨N, 5, none⟩ (.slice ya (padP p (least - (ol : Int))).payload.length yc)) y' q.payload ∧ wr.grownBy ((((((w3.setCell ⟨N, 0, none⟩ (.int .i64 (padP p (least - (ol : Int))).space)).setCell ⟨N, 1, none⟩ (.slice a1 dst.length c1)).setCell ⟨N, 2, none⟩ (.slice a2 src.length c2)).setCell ⟨N, 3, none⟩ (.int .i64 (padP p (least - (ol : Int))).number)).setCell ⟨N, 4, none⟩ (.int .i64 (padP p (least - (ol : Int))).width)).setCell ⟨N, 5, none⟩ (.slice ya (padP p (least - (ol : Int))).payload.length yc)) none)) := by
                show ∃ y', _
                rw [unhide HQ2]
                exact ⟨_, F6.1, F6.2.2, F6.2.1⟩
              have k0 := b3.cell 0 (.int .i64 sp) rfl
              have k1' := b3.cell 1 (.slice a1 dst.length c1) rfl
              have k2' := b3.cell 2 (.slice a2 src.length c2) rfl
              have k3' := b3.cell 3 (.int .i64 nu) rfl
              have k4' := b3.cell 4 (.int .i64 wd) rfl
              have k5 := b3.cell 5 (.slice a3 py.length c3) rfl
              have tN := b3.thaws
              clear bA gA b3 g03 hy' far F6 g3 own hN HQ2 xx0 xx1 xx2 xx3 xx4 xx5
              generalize (padP p (least - (ol : Int))).payload.length = s3 at *
              dsimp only
              go_wp2_with fail
              go_meet
              exact unhide FIN
            · have be : ((k : Int) == (n : Int) - 1) = false := by simp; omega
              have hq : q = p := by have := unhide HQ; rw [if_neg hla] at this; exact this
              have FIN : Hid (Hid (∃ y', Blk w2 N (q.cs (.slice a1 dst.length c1) (.slice a2 src.length c2) y') 29 ∧ InB w2 y' q.payload ∧ wr.grownBy w2 none)) := by
                show ∃ y', _
                rw [hq, (unhide E1).1]
                exact ⟨_, bA, (unhide QQ).2.2.1.grown gA, gA⟩
              clear bA gA hla hq
              go_wp2_with fail
              go_meet
              exact unhide FIN
          case rest =>
            obtain ⟨y', bQ, hyq, gq⟩ := unhide hcut
            obtain ⟨bA, gA⟩ := unhide BA
            obtain ⟨ya, yc, rfl⟩ : ∃ ya yc, y' = .slice ya q.payload.length yc := by obtain ⟨a, c, e, -⟩ := hyq; exact ⟨a, c, e⟩
            have hq := unhide HQ
            have hf : q.dst = dst ∧ q.src = src ∧ q.payload.length ≤ py.length + 70000 ∧ (k + 1 ≠ n → q.payload.length = py.length) := by
              have hp := (unhide E1).1
              have l1 := padP_len p (least - (ol : Int))
              have l2 := padP_fields p (least - (ol : Int))
              have e1 : p.dst = dst := by rw [hp]
              have e2 : p.src = src := by rw [hp]
              have e3 : p.payload = py := by rw [hp]
              rw [e3] at l1
              rw [hq]
              split
              · rename_i c
                exact ⟨l2.2.1.trans e1, l2.2.2.1.trans e2, by omega, fun c2 => absurd c c2⟩
              · exact ⟨e1, e2, by rw [e3]; omega, fun _ => by rw [e3]⟩
            obtain ⟨q1, q2, q3, ld, ls, ly, hlx, tdx⟩ := unhide QQ
            have enc := enc_own q (.slice a1 dst.length c1) (.slice a2 src.length c2) (.slice ya q.payload.length yc) wc (by rw [hf.1]; exact q1.grown gq) (by rw [hf.2.1]; exact q2.grown gq) hyq (by rw [hf.1]; exact ld) (by rw [hf.2.1]; exact ls) (by have := hf.2.2.1; omega)
            have hby := encB_byte q (by rw [hf.1]; exact q1.bytes) (by rw [hf.2.1]; exact q2.bytes) hyq.bytes
            have hle := encB_len q
            have z0 := bQ.cell 0 (.int .i64 q.space) rfl
            have z1 := bQ.cell 1 (.slice a1 dst.length c1) rfl
            have z2 := bQ.cell 2 (.slice a2 src.length c2) rfl
            have z3 := bQ.cell 3 (.int .i64 q.number) rfl
            have z4 := bQ.cell 4 (.int .i64 q.width) rfl
            have z5 := bQ.cell 5 (.slice ya q.payload.length yc) rfl
            have GQ := hide gq
            have HBY := hide hby
            have HLE := hide (And.intro hle (And.intro hf.2.2 (And.intro hlx tdx)))
            clear hcut bQ hyq gq bA gA hq hf q1 q2 q3 ld ls ly hlx tdx hby hle PAD xx0 xx1 xx2 xx3 xx4 xx5
            go_wp2_with fail
            refine enc.mono ?_
            rintro e w5 ⟨pa, pc, rfl, ho5, g5⟩
            clear enc z0 z1 z2 z3 z4 z5
            have KEY : bldG least L [] [] = (if encE q = 0 then bldG least (L.drop (k + 1)) (out ++ encB q) (sz ++ [((encB q).length : Int)]) else ([], [], encE q)) := by
              have B := unhide BB
              obtain ⟨h, ht, hL, lsm⟩ := unhide HH
              have hx : L[k]? = some p := by rw [hL, List.getElem?_map, unhide HX, (unhide E1).1]; rfl
              rw [← B.eq, drop_cons hx]
              have hq : q = (if L.drop (k + 1) = [] then padP p (least - (out.length : Int)) else p) := by
                rw [unhide HQ, ← (unhide E1).2.1]
                have ll : L.length = n := by rw [hL, List.length_map]; exact h.hlen
                by_cases c : k + 1 = n
                · rw [if_pos c, if_pos (List.drop_eq_nil_of_le (by omega))]
                · rw [if_neg c, if_neg (fun e => by have := List.drop_eq_nil_iff.1 e; omega)]
              show (if encE (if L.drop (k + 1) = [] then padP p (least - (out.length : Int)) else p) = 0 then _ else _) = _
              rw [← hq]
            obtain ⟨E, hE⟩ : ∃ E, E = encE q := ⟨_, rfl⟩
            obtain ⟨P, hP⟩ : ∃ P, P = encB q := ⟨_, rfl⟩
            rw [← hE, ← hP] at KEY
            rw [← hP] at ho5
            rw [← hE, ← hP]
            have KY := hide KEY
            have HO5 := hide ho5
            have G5 := hide (g5)
            have HEP := hide (And.intro hE hP)
            clear KEY ho5 g5 hE hP
            by_cases hz : E = 0
            · subst hz
              have B := unhide BB
              have gch := (unhide GQ).trans (unhide G5)
              have hol := (unhide E1).2.1
              have hsl := (unhide E1).2.2.1
              have bo5 := B.b_.kept (fun g e => gch.block g (B.b_.ltb g e).2 (by simp))
              have so5 := B.s_.kept (fun g e => gch.block g (B.s_.lt g e).2 (by simp))
              have gw5 := B.gr.trans gch
              have hle := unhide HLE
              have hP := (unhide HEP).2
              rw [← hP] at hle
              obtain ⟨v6, w6, hr6, ob6, g6⟩ := app_rd w5 w.heap.size 27 _ out bo5 _ P ((unhide HO5).inB (by rw [hP]; exact unhide HBY)) (by omega) gw5.size
              have os6 := so5.kept (fun g e => g6.block g (so5.lt g e).2 (fun c => own_ty bo5 so5 g c.symm e))
              have gw6 := grown_own gw5 g6 (fun g e => (bo5.ltb g e).1)
              obtain ⟨a6, c6, rfl⟩ := ob6.shape
              obtain ⟨a7, c7, w7, hr7, os7, g7⟩ := os6.push (P.length : Int) (by rw [B.ls]; have := (unhide HH).2.2.2; have := (unhide E1).2.2.2; omega) gw6.size
              have gA6 := World.grownBy_alloc w6 (.cells #[.int .i64 (P.length : Int)] 3) none
              have ob6' := ob6.kept (fun g e => gA6.block g (ob6.ltb g e).2 (by simp))
              have os6' := os6.grown gA6
              have ob7 := ob6'.kept (fun g e => g7.block g (ob6'.ltb g e).2 (fun c => own_ty ob6' os6' g e c.symm))
              have gw7 := grown_own (gw6.trans gA6) g7 (fun g e => (os6'.lt g e).1)
              have FIN : Hid (∃ out sz, BI w least L xs (k + 1) (.slice a6 (out ++ P).length c6) (.slice a7 (sl + 1) c7) w7 out sz) → True := fun _ => trivial
              have FIN2 : Hid (∃ out' sz', BI w least L xs (k + 1) (.slice a6 (ol + P.length) c6) (.slice a7 (sl + 1) c7) w7 out' sz') := by
                refine ⟨out ++ P, sz ++ [(P.length : Int)], ?_, ?_, gw7, ?_, ?_, ?_⟩
                · rw [hol, ← List.length_append]; exact ob7
                · rw [hsl]; exact os7
                · have := unhide KY
                  rw [if_pos rfl] at this
                  exact this.symm
                · have hn := (unhide E1).2.2.2
                  by_cases c : k + 1 = n
                  · exact .inr ⟨by omega, by rw [List.length_append]; omega⟩
                  · have := hle.2.1.2 c
                    exact .inl (by rw [List.length_append]; omega)
                · rw [List.length_append, B.ls]; rfl
              rw [List.length_append, ← hol] at hr6
              rw [← hsl] at hr7
              replace hr6 := hide hr6
              replace hr7 := hide hr7
              clear B gch hol hsl bo5 so5 gw5 hle hP g6 ob6 os6 gw6 os7 g7 gA6 ob6' os6' ob7 gw7 FIN
              generalize P.length = pl at *
              go_upto_region 15 with (at_builtin; refine Kf.wpList_append_run _ rfl (Operand.tmp 63) (Operand.tmp 64) 27 27 rfl (.slice ba ol bc) (.slice pa pl pc) rfl rfl (unhide hr6) ?_)
              go_wp2_with (at_builtin; refine Kf.wpList_append_run _ rfl (Operand.tmp 66) (Operand.tmp 69) 33 33 rfl (.slice sa sl sc) (.slice (some ⟨w6.heap.size, 0, none⟩) 1 1) rfl rfl (unhide hr7) ?_)
              exact ⟨⟨k + 1, hlt, by go_num, unhide FIN2⟩, by simp [intOf]; omega⟩
            · have bz : (E != 0) = true := by simpa using hz
              have FIN : Hid (BldPost w T (.returned (.tuple #[nilV, nilV, .int .i64 E])) w5) := by
                have e := unhide KY
                rw [if_neg hz] at e
                have := unhide HT
                rw [e] at this
                simp only at this
                rw [if_neg hz] at this
                rw [this]
                exact BldPost.none _ _ E (((unhide BB).gr.trans (unhide GQ)).trans (unhide G5))
              generalize P.length = pl at *
              clear hz
              go_wp2_with fail
              go_ret3
              exact unhide FIN
        · obtain rfl : k = n := by omega
          have hkI : ¬ (k : Int) < (k : Int) := by omega
          have eq := B.eq
          rw [show L.drop k = [] from List.drop_eq_nil_of_le (by rw [hL, List.length_map, hn]; exact Nat.le_refl _)] at eq
          have eq2 : bldG least L [] [] = (out, sz, 0) := eq.symm
          have hT := unhide HT
          rw [eq2] at hT
          simp only [if_true] at hT
          have F := hide (And.intro B.b_ (And.intro B.s_ B.gr))
          obtain ⟨ol, hol⟩ : ∃ ol, ol = out.length := ⟨_, rfl⟩
          obtain ⟨sl, hsl⟩ : ∃ sl, sl = sz.length := ⟨_, rfl⟩
          rw [← hol, ← hsl] at F ⊢
          rw [← hol] at hT
          have lenO : ¬ (9223372036854775807 : Int) < (ol : Int) := by rcases B.lo with q | q <;> omega
          have HS := hide (And.intro hol hsl)
          by_cases hrm : room < (ol : Int)
          · rw [if_pos hrm] at hT
            have FIN : Hid (BldPost w T (.returned (.tuple #[nilV, nilV, .int .i64 200])) wr) := by
              show BldPost _ _ _ _
              rw [hT]
              exact BldPost.none _ _ 200 B.gr
            clear B I h ht hL lsm hn eq eq2 hT hol hsl F
            go_wp2_with fail
            go_ret3
            exact unhide FIN
          · rw [if_neg hrm] at hT
            have FIN : Hid (BldPost w T (.returned (.tuple #[.slice ba ol bc, .slice sa sl sc, .int .i64 0])) wr) := by
              show BldPost _ _ _ _
              rw [hT]
              exact ⟨_, _, rfl, (unhide F).1, (unhide F).2.1, (unhide F).2.2⟩
            clear B I h ht hL lsm hn eq eq2 hT hol hsl F
            go_wp2_with fail
            go_ret3
            exact unhide FIN
    · have hrf : riseF L = false := by simpa using hr
      rw [hrf] at hri
      have e : bldF room least L = ([], [], 1) := by
        unfold bldF
        rw [if_pos (.inr (.inr (.inr (.inr hrf))))]
      rw [e]
      clear e hb h ht lsm hr hL hrf HH
      go_enter Try.func10, Try.ntmps10
      go_wp2_with fail
      refine hri.mono ?_
      rintro e w1 ⟨rfl, g1⟩
      have F := hide (BldPost.none w w1 1 g1)
      clear hri g1
      go_wp2_with fail
      go_ret3
      exact unhide F
end Go.Proofs.Ytpcnpdippnljpaa

namespace Go.Proofs.Ytpcnpdippnljpaa
open Go.RowKit
set_option linter.unusedVariables false
set_option linter.unusedSimpArgs false
set_option maxRecDepth 100000
set_option maxHeartbeats 4000000

def roomF (room : Int) (p : Pk) (ahead : Int) : Int :=
  if (ovF p).2 ≠ 0 ∨ ahead < 0 ∨ room ≤ ahead then 0
  else if p.space = 2 then max 0 (room - ahead - (ovF p).1) else min (max 0 (room - ahead - (ovF p).1)) (16383 - p.width)
theorem ov_okh {p : Pk} (h : (ovF p).2 = 0) : Okh p := by
  unfold ovF at h
  split at h
  · cases h
  · split at h
    · cases h
    · rename_i h1 h2; exact okh_of h1 h2

theorem room_any (room ahead : Int) (p : Pk) (d s y : Value) (w : World) (hd : InB w d p.dst) (hs : InB w s p.src) (l1 : p.dst.length ≤ 140737488351232) (l2 : p.src.length ≤ 140737488351232) (r1 : room ≤ 9223372036854775807) :
    Calls Try.prog 20 #[.int .i64 room, p.val d s y, .int .i64 ahead] w fun e w' => e = .returned (.int .i64 (roomF room p ahead)) ∧ w.grownBy w' none := by
  obtain ⟨a1, c1, rfl, -⟩ := id hd
  obtain ⟨a2, c2, rfl, -⟩ := id hs
  have hov := fun W => overhead_any p a1 a2 c1 c2 y W (by omega) (by omega)
  have hoi := ovF_in p
  have b0 := Blk.new w (p.cs (.slice a1 p.dst.length c1) (.slice a2 p.src.length c2) y) 29
  have g0 := World.grownBy_alloc w (.cells (p.cs (.slice a1 p.dst.length c1) (.slice a2 p.src.length c2) y) 29) none
  obtain ⟨T, hT⟩ : ∃ T, T = roomF room p ahead := ⟨_, rfl⟩
  rw [← hT]
  have hok : (ovF p).2 = 0 → 1 ≤ p.width ∧ p.width ≤ 4 := fun e => (ov_okh e).w
  have HT := hide (And.intro hT hok)
  clear hT hd hs hok
  go_enter Try.func20, Try.ntmps20
  go_wp2_with fail
  generalize w.alloc (.cells (p.cs (.slice a1 p.dst.length c1) (.slice a2 p.src.length c2) y) 29) = W0 at *
  refine (hov _).mono ?_
  rintro e W1 ⟨rfl, g1⟩
  have x0 := (b0.grown g1).cell 0 (.int .i64 p.space) rfl
  have x4 := (b0.grown g1).cell 4 (.int .i64 p.width) rfl
  have G := hide (g0.trans g1)
  clear hov b0 g0 g1
  obtain ⟨r, hr⟩ : ∃ r, r = ovF p := ⟨_, rfl⟩
  rw [← hr] at hoi ⊢
  have HR := hide hr
  clear hr
  by_cases h1 : r.2 = 0
  · have b1 : (r.2 != 0) = false := by simpa using h1
    by_cases h2 : ahead < 0
    · have FT : Hid (T = 0) := by show T = 0; rw [(unhide HT).1]; unfold roomF; rw [if_pos (.inr (.inl h2))]
      clear h1
      go_wp2_with fail
      go_ret
      rw [unhide FT]
      exact ⟨rfl, unhide G⟩
    · by_cases h3 : room ≤ ahead
      · have FT : Hid (T = 0) := by show T = 0; rw [(unhide HT).1]; unfold roomF; rw [if_pos (.inr (.inr h3))]
        clear h1
        go_wp2_with fail
        go_ret
        rw [unhide FT]
        exact ⟨rfl, unhide G⟩
      · have w1 : IntKind.i64.wrap (room - ahead) = room - ahead := by rw [IntKind.wrap_i64]; omega
        have w2 : IntKind.i64.wrap (room - ahead - r.1) = room - ahead - r.1 := by rw [IntKind.wrap_i64]; omega
        have hw := (unhide HT).2 (by rw [← unhide HR]; exact h1)
        have w3 : IntKind.i64.wrap (16383 - p.width) = 16383 - p.width := by rw [IntKind.wrap_i64]; omega
        have FT : Hid (T = if p.space = 2 then max 0 (room - ahead - r.1) else min (max 0 (room - ahead - r.1)) (16383 - p.width)) := by
          show T = _
          rw [(unhide HT).1]
          unfold roomF
          rw [← unhide HR, if_neg]
          rintro (q | q | q)
          · exact q h1
          · exact h2 q
          · exact h3 q
        clear h1 hw
        obtain ⟨sp, hsp⟩ : ∃ sp, sp = p.space := ⟨_, rfl⟩
        rw [← hsp] at x0 FT
        by_cases h4 : sp = 2
        · subst h4
          replace hsp := hide hsp
          go_wp2_with fail
          all_goals go_ret
          all_goals refine ⟨ret_int ?_, unhide G⟩
          all_goals (rw [unhide FT]; simp only [if_true]; omega)
        · have b4 : (sp == 2) = false := by simpa using h4
          replace hsp := hide hsp
          have FT2 := hide (by have := unhide FT; rw [if_neg h4] at this; exact this)
          clear h4 FT
          go_wp2_with fail
          all_goals go_ret
          all_goals refine ⟨ret_int ?_, unhide G⟩
          all_goals (rw [unhide FT2]; omega)
  · have b1 : (r.2 != 0) = true := by simpa using h1
    have FT : Hid (T = 0) := by show T = 0; rw [(unhide HT).1]; unfold roomF; rw [← unhide HR, if_pos (.inl h1)]
    clear h1
    go_wp2_with fail
    go_ret
    rw [unhide FT]
    exact ⟨rfl, unhide G⟩

theorem rroom_any (room ahead : Int) (p : Pk) (d s y : Value) (w : World) (hd : InB w d p.dst) (hs : InB w s p.src) (hy : InB w y p.payload) (l1 : p.dst.length ≤ 140737488351232) (l2 : p.src.length ≤ 140737488351232) (l3 : p.payload.length ≤ 140737488351232) (r1 : room ≤ 9223372036854775807) :
    Calls Try.prog 21 #[.int .i64 room, p.val d s y, .int .i64 ahead] w fun e w' => e = .returned (.int .i64 (roomF room p ahead)) ∧ w.grownBy w' none := by
  obtain ⟨a1, c1, rfl, -⟩ := id hd
  obtain ⟨a2, c2, rfl, -⟩ := id hs
  obtain ⟨a3, c3, rfl, -⟩ := id hy
  have b0 := Blk.new w (p.cs (.slice a1 p.dst.length c1) (.slice a2 p.src.length c2) (.slice a3 p.payload.length c3)) 29
  have g0 := World.grownBy_alloc w (.cells (p.cs (.slice a1 p.dst.length c1) (.slice a2 p.src.length c2) (.slice a3 p.payload.length c3)) 29) none
  have hov := rover_any p (.slice a1 p.dst.length c1) (.slice a2 p.src.length c2) (.slice a3 p.payload.length c3) _ (hd.grown g0) (hs.grown g0) ⟨_, _, _, rfl⟩ (by omega) (by omega)
  have hoi := ovF_in p
  obtain ⟨T, hT⟩ : ∃ T, T = roomF room p ahead := ⟨_, rfl⟩
  rw [← hT]
  have hok : (ovF p).2 = 0 → 1 ≤ p.width ∧ p.width ≤ 4 := fun e => (ov_okh e).w
  have HT := hide (And.intro hT hok)
  clear hT hd hs hok hy
  go_enter Try.func21, Try.ntmps21
  go_wp2_with fail
  generalize w.alloc (.cells (p.cs (.slice a1 p.dst.length c1) (.slice a2 p.src.length c2) (.slice a3 p.payload.length c3)) 29) = W0 at *
  refine hov.mono ?_
  rintro e W1 ⟨rfl, g1⟩
  have x0 := (b0.grown g1).cell 0 (.int .i64 p.space) rfl
  have x4 := (b0.grown g1).cell 4 (.int .i64 p.width) rfl
  have G := hide (g0.trans g1)
  clear hov b0 g0 g1
  obtain ⟨r, hr⟩ : ∃ r, r = ovF p := ⟨_, rfl⟩
  rw [← hr] at hoi ⊢
  have HR := hide hr
  clear hr
  by_cases h1 : r.2 = 0
  · have b1 : (r.2 != 0) = false := by simpa using h1
    by_cases h2 : ahead < 0
    · have FT : Hid (T = 0) := by show T = 0; rw [(unhide HT).1]; unfold roomF; rw [if_pos (.inr (.inl h2))]
      clear h1
      go_wp2_with fail
      go_ret
      rw [unhide FT]
      exact ⟨rfl, unhide G⟩
    · by_cases h3 : room < ahead
      · have FT : Hid (T = 0) := by show T = 0; rw [(unhide HT).1]; unfold roomF; rw [if_pos (.inr (.inr (by omega)))]
        clear h1
        go_wp2_with fail
        go_ret
        rw [unhide FT]
        exact ⟨rfl, unhide G⟩
      · have w1 : IntKind.i64.wrap (room - ahead) = room - ahead := by rw [IntKind.wrap_i64]; omega
        have w2 : IntKind.i64.wrap (room - ahead - r.1) = room - ahead - r.1 := by rw [IntKind.wrap_i64]; omega
        have hw := (unhide HT).2 (by rw [← unhide HR]; exact h1)
        have w3 : IntKind.i64.wrap (16383 - p.width) = 16383 - p.width := by rw [IntKind.wrap_i64]; omega
        have FT : Hid (T = if room ≤ ahead then 0 else if p.space = 2 then max 0 (room - ahead - r.1) else min (max 0 (room - ahead - r.1)) (16383 - p.width)) := by
          show T = _
          rw [(unhide HT).1]
          unfold roomF
          rw [← unhide HR]
          by_cases c : room ≤ ahead
          · rw [if_pos (.inr (.inr c)), if_pos c]
          · rw [if_neg c, if_neg]
            rintro (q | q | q)
            · exact q h1
            · exact h2 q
            · exact c q
        have FT2 : Hid (room - ahead ≤ r.1 → T = 0) := fun q => by
          rw [unhide FT]
          split
          · rfl
          · split <;> omega
        have FT3 : Hid (¬ room - ahead ≤ r.1 → T = if p.space = 2 then room - ahead - r.1 else min (room - ahead - r.1) (16383 - p.width)) := fun q => by
          rw [unhide FT, if_neg (by omega)]
          split <;> omega
        clear h1 hw FT
        by_cases h5 : room - ahead ≤ r.1
        · have F0 := hide ((unhide FT2) h5)
          go_wp2_with fail
          go_ret
          rw [unhide F0]
          exact ⟨rfl, unhide G⟩
        · have F1 := hide ((unhide FT3) h5)
          obtain ⟨sp, hsp⟩ : ∃ sp, sp = p.space := ⟨_, rfl⟩
          rw [← hsp] at x0 F1
          by_cases h4 : sp = 2
          · subst h4
            replace hsp := hide hsp
            go_wp2_with fail
            all_goals go_ret
            all_goals refine ⟨ret_int ?_, unhide G⟩
            all_goals (rw [unhide F1]; simp only [if_true])
          · have b4 : (sp != 2) = true := by simpa using h4
            replace hsp := hide hsp
            have F2 := hide (by have := unhide F1; rw [if_neg h4] at this; exact this)
            clear h4 F1
            by_cases h6 : 16383 - p.width < room - ahead - r.1
            · go_wp2_with fail
              all_goals go_ret
              all_goals refine ⟨ret_int ?_, unhide G⟩
              all_goals (rw [unhide F2]; omega)
            · go_wp2_with fail
              all_goals go_ret
              all_goals refine ⟨ret_int ?_, unhide G⟩
              all_goals (rw [unhide F2]; omega)
  · have b1 : (r.2 != 0) = true := by simpa using h1
    have FT : Hid (T = 0) := by show T = 0; rw [(unhide HT).1]; unfold roomF; rw [← unhide HR, if_pos (.inl h1)]
    clear h1
    go_wp2_with fail
    go_ret
    rw [unhide FT]
    exact ⟨rfl, unhide G⟩
end Go.Proofs.Ytpcnpdippnljpaa

namespace Go.Proofs.Ytpcnpdippnljpaa
open Go.RowKit
set_option linter.unusedVariables false
set_option linter.unusedSimpArgs false
set_option maxRecDepth 100000
set_option maxHeartbeats 4000000

def pI20 : Pk := ⟨0, [1, 2], [3], 5, 1, [1]⟩
def pA20 : Pk := ⟨2, [170, 187], [], 7, 1, [1]⟩
def bI20 : List Int := [192, 0, 0, 0, 1, 2, 1, 2, 1, 3, 0, 64, 4, 5, 1, 0, 0]
theorem bld_I : bldF 1200 17 [pI20] = (bI20, [17], 0) := by decide
theorem room_A : roomF 1200 pA20 15 = 1181 := by decide

theorem two_any (w : World) : Calls Try.prog 24 #[] w fun e w' => ∃ g d1 s1 y1 d2 y2, e = .returned (.slice (some ⟨g, 0, none⟩) 2 2) ∧ IsPks w' (some ⟨g, 0, none⟩) 2 2 [⟨pI20, d1, s1, y1⟩, ⟨pA20, d2, nilV, y2⟩] ∧ w.grownBy w' none := by
  obtain ⟨W1, hW1⟩ : ∃ W1, W1 = w.alloc (bts [1, 2]) := ⟨_, rfl⟩
  obtain ⟨W2, hW2⟩ : ∃ W2, W2 = W1.alloc (bts [3]) := ⟨_, rfl⟩
  obtain ⟨W3, hW3⟩ : ∃ W3, W3 = W2.alloc (bts [1]) := ⟨_, rfl⟩
  obtain ⟨W4, hW4⟩ : ∃ W4, W4 = W3.alloc (bts [170, 187]) := ⟨_, rfl⟩
  obtain ⟨W5, hW5⟩ : ∃ W5, W5 = W4.alloc (bts [1]) := ⟨_, rfl⟩
  have i1 : InB W1 (.slice (some ⟨w.heap.size, 0, none⟩) 2 2) [1, 2] := by rw [hW1]; exact InB.at rfl rfl (small_le (by simp)) (by simp [IsB])
  have i2 : InB W2 (.slice (some ⟨W1.heap.size, 0, none⟩) 1 1) [3] := by rw [hW2]; exact InB.at rfl rfl (small_le (by simp)) (by simp [IsB])
  have i3 : InB W3 (.slice (some ⟨W2.heap.size, 0, none⟩) 1 1) [1] := by rw [hW3]; exact InB.at rfl rfl (small_le (by simp)) (by simp [IsB])
  have i4 : InB W4 (.slice (some ⟨W3.heap.size, 0, none⟩) 2 2) [170, 187] := by rw [hW4]; exact InB.at rfl rfl (small_le (by simp)) (by simp [IsB])
  have i5 : InB W5 (.slice (some ⟨W4.heap.size, 0, none⟩) 1 1) [1] := by rw [hW5]; exact InB.at rfl rfl (small_le (by simp)) (by simp [IsB])
  have g1 : w.grownBy W1 none := by rw [hW1]; exact World.grownBy_alloc _ _ none
  have g2 : W1.grownBy W2 none := by rw [hW2]; exact World.grownBy_alloc _ _ none
  have g3 : W2.grownBy W3 none := by rw [hW3]; exact World.grownBy_alloc _ _ none
  have g4 : W3.grownBy W4 none := by rw [hW4]; exact World.grownBy_alloc _ _ none
  have g5 : W4.grownBy W5 none := by rw [hW5]; exact World.grownBy_alloc _ _ none
  obtain ⟨W6, hW6⟩ : ∃ W6, W6 = W5.alloc (.cells #[.int .i64 0, .slice (some ⟨w.heap.size, 0, none⟩) 2 2, .slice (some ⟨W1.heap.size, 0, none⟩) 1 1, .int .i64 5, .int .i64 1, .slice (some ⟨W2.heap.size, 0, none⟩) 1 1, .int .i64 2, .slice (some ⟨W3.heap.size, 0, none⟩) 2 2, .slice none 0 0, .int .i64 7, .int .i64 1, .slice (some ⟨W4.heap.size, 0, none⟩) 1 1] 29) := ⟨_, rfl⟩
  have g6 : W5.grownBy W6 none := by rw [hW6]; exact World.grownBy_alloc _ _ none
  have b6 := Blk.new W5 #[.int .i64 0, .slice (some ⟨w.heap.size, 0, none⟩) 2 2, .slice (some ⟨W1.heap.size, 0, none⟩) 1 1, .int .i64 5, .int .i64 1, .slice (some ⟨W2.heap.size, 0, none⟩) 1 1, .int .i64 2, .slice (some ⟨W3.heap.size, 0, none⟩) 2 2, .slice none 0 0, .int .i64 7, .int .i64 1, .slice (some ⟨W4.heap.size, 0, none⟩) 1 1] 29
  rw [← hW6] at b6
  have FIN : Hid (∃ g d1 s1 y1 d2 y2, Ending.returned (.slice (some ⟨W5.heap.size, 0, none⟩) 2 2) = .returned (.slice (some ⟨g, 0, none⟩) 2 2) ∧ IsPks W6 (some ⟨g, 0, none⟩) 2 2 [⟨pI20, d1, s1, y1⟩, ⟨pA20, d2, nilV, y2⟩] ∧ w.grownBy W6 none) := by
    refine ⟨W5.heap.size, .slice (some ⟨w.heap.size, 0, none⟩) 2 2, .slice (some ⟨W1.heap.size, 0, none⟩) 1 1, .slice (some ⟨W2.heap.size, 0, none⟩) 1 1, .slice (some ⟨W3.heap.size, 0, none⟩) 2 2, .slice (some ⟨W4.heap.size, 0, none⟩) 1 1, rfl, ⟨rfl, by omega, ?_, ?_, .inr ⟨_, _, rfl, ?_⟩⟩, ((((g1.trans g2).trans g3).trans g4).trans g5).trans g6⟩
    · intro x hx
      simp only [List.mem_cons, List.not_mem_nil, or_false] at hx
      rcases hx with rfl | rfl
      · exact ⟨((((i1.grown g2).grown g3).grown g4).grown g5).grown g6, (((i2.grown g3).grown g4).grown g5).grown g6, ((i3.grown g4).grown g5).grown g6⟩
      · exact ⟨(i4.grown g5).grown g6, InX.nil _ _, i5.grown g6⟩
    · intro x hx
      simp only [List.mem_cons, List.not_mem_nil, or_false] at hx
      rcases hx with rfl | rfl
      · refine ⟨?_, ?_, ?_⟩ <;> simp [pI20]
      · refine ⟨?_, ?_, ?_⟩ <;> simp [pA20]
    · intro i x hi j hj
      rcases i with _ | _ | i
      · simp only [List.getElem?_cons_zero, Option.some.injEq] at hi
        subst hi
        have : j = 0 ∨ j = 1 ∨ j = 2 ∨ j = 3 ∨ j = 4 ∨ j = 5 := by omega
        rcases this with rfl | rfl | rfl | rfl | rfl | rfl <;> exact b6.cell _ _ rfl
      · simp only [List.getElem?_cons_succ, List.getElem?_cons_zero, Option.some.injEq] at hi
        subst hi
        have : j = 0 ∨ j = 1 ∨ j = 2 ∨ j = 3 ∨ j = 4 ∨ j = 5 := by omega
        rcases this with rfl | rfl | rfl | rfl | rfl | rfl <;> exact b6.cell _ _ rfl
      · simp at hi
  clear i1 i2 i3 i4 i5 g1 g2 g3 g4 g5 g6 b6
  go_enter Try.func24, Try.ntmps24
  go_wp2_with fail
  go_ret
  subst hW6 hW5 hW4 hW3 hW2 hW1
  have F := unhide FIN
  simp only [alloc_size] at F ⊢
  exact F

theorem OwnI.cell {base : Nat} {w : World} {a : Option Addr} {n c : Nat} {xs : List Int} (h : OwnI base w (.slice a n c) xs) (j : Nat) (x : Int) (hx : xs[j]? = some x) : ∃ g, a = some ⟨g, 0, none⟩ ∧ w.cell? ⟨g, j, none⟩ = some (.int .i64 x) := by
  rcases h.2 with ⟨e, e2⟩ | ⟨g, cap, cur, e, q1, q2, q3, q4, q5, q6⟩
  · have : xs = [] := List.length_eq_zero_iff.1 e2
    rw [this] at hx; simp at hx
  · simp only [Value.slice.injEq] at e
    obtain ⟨rfl, e2, rfl⟩ := e
    refine ⟨g, rfl, ?_⟩
    have hj := (List.getElem?_eq_some_iff.1 hx).1
    have e8 : (cur.toList.take (xs.length * 1))[j]? = (xs.map (Value.int .i64))[j]? := by rw [q6]
    rw [Nat.mul_one, List.getElem?_take, if_pos hj, List.getElem?_map, hx] at e8
    simp only [World.cell?, q2]
    rw [← Array.getElem?_toList]
    exact e8
theorem awake_any (w : World) : Calls Try.prog 7 #[] w fun e w' => e = .returned (.bool true) ∧ w.grownBy w' none := by
  have tw := two_any w
  go_enter Try.func7, Try.ntmps7
  go_wp2_with fail
  refine tw.mono ?_
  rintro e w1 ⟨g, d1, s1, y1, d2, y2, rfl, hp, g1⟩
  obtain ⟨q1, q2, q3⟩ := hp.in_ _ (List.mem_cons_self)
  obtain ⟨q4, q5, q6⟩ := hp.in_ ⟨pA20, d2, nilV, y2⟩ (by simp)
  obtain ⟨a1, c1, e1, -⟩ := id q1
  obtain ⟨a2, c2, e2, -⟩ := id q2
  obtain ⟨a3, c3, e3, -⟩ := id q3
  obtain ⟨a4, c4, e4, -⟩ := id q4
  obtain ⟨a6, c6, e6, -⟩ := id q6
  simp only at e1 e2 e3 e4 e6 q1 q2 q3 q4 q5 q6
  subst e1 e2 e3 e4 e6
  obtain ⟨b, off, eb, hc⟩ := hp.cell.resolve_left (by omega)
  injection eb with eb
  injection eb with eb1 eb2
  subst eb1 eb2
  have y0 : w1.cell? ⟨g, 0, none⟩ = some (.int .i64 0) := hc 0 _ rfl 0 (by omega)
  have y1 : w1.cell? ⟨g, 1, none⟩ = some (.slice a1 2 c1) := hc 0 _ rfl 1 (by omega)
  have y2 : w1.cell? ⟨g, 2, none⟩ = some (.slice a2 1 c2) := hc 0 _ rfl 2 (by omega)
  have y3 : w1.cell? ⟨g, 3, none⟩ = some (.int .i64 5) := hc 0 _ rfl 3 (by omega)
  have y4 : w1.cell? ⟨g, 4, none⟩ = some (.int .i64 1) := hc 0 _ rfl 4 (by omega)
  have y5 : w1.cell? ⟨g, 5, none⟩ = some (.slice a3 1 c3) := hc 0 _ rfl 5 (by omega)
  have z0 : w1.cell? ⟨g, 6, none⟩ = some (.int .i64 2) := hc 1 _ rfl 0 (by omega)
  have z1 : w1.cell? ⟨g, 7, none⟩ = some (.slice a4 2 c4) := hc 1 _ rfl 1 (by omega)
  have z2 : w1.cell? ⟨g, 8, none⟩ = some (.slice none 0 0) := hc 1 _ rfl 2 (by omega)
  have z3 : w1.cell? ⟨g, 9, none⟩ = some (.int .i64 7) := hc 1 _ rfl 3 (by omega)
  have z4 : w1.cell? ⟨g, 10, none⟩ = some (.int .i64 1) := hc 1 _ rfl 4 (by omega)
  have z5 : w1.cell? ⟨g, 11, none⟩ = some (.slice a6 1 c6) := hc 1 _ rfl 5 (by omega)
  obtain ⟨w2, hw2⟩ : ∃ w2, w2 = w1.alloc (.cells #[.int .i64 0, .slice a1 2 c1, .slice a2 1 c2, .int .i64 5, .int .i64 1, .slice a3 1 c3] 29) := ⟨_, rfl⟩
  have g2 : w1.grownBy w2 none := by rw [hw2]; exact World.grownBy_alloc _ _ none
  have b2 := Blk.new w1 #[.int .i64 0, .slice a1 2 c1, .slice a2 1 c2, .int .i64 5, .int .i64 1, .slice a3 1 c3] 29
  rw [← hw2] at b2
  have h1 : IsPks w2 (some ⟨w1.heap.size, 0, none⟩) 1 1 [⟨pI20, .slice a1 2 c1, .slice a2 1 c2, .slice a3 1 c3⟩] := by
    refine ⟨rfl, by omega, fun x hx => ?_, fun x hx => ?_, .inr ⟨_, _, rfl, fun i x hi j hj => ?_⟩⟩
    · simp only [List.mem_singleton] at hx
      subst hx
      exact ⟨q1.grown g2, q2.grown g2, q3.grown g2⟩
    · simp only [List.mem_singleton] at hx
      subst hx
      refine ⟨?_, ?_, ?_⟩ <;> simp [pI20]
    · rcases i with _ | i
      · simp only [List.getElem?_cons_zero, Option.some.injEq] at hi
        subst hi
        have : j = 0 ∨ j = 1 ∨ j = 2 ∨ j = 3 ∨ j = 4 ∨ j = 5 := by omega
        rcases this with rfl | rfl | rfl | rfl | rfl | rfl <;> exact b2.cell _ _ rfl
      · simp at hi
  have bd := build_any 1200 17 _ 1 1 _ w2 h1 (by simp [tot, pI20])
  rw [show ([⟨pI20, .slice a1 2 c1, .slice a2 1 c2, .slice a3 1 c3⟩] : List PV).map PV.p = [pI20] from rfl, bld_I] at bd
  have BD := hide bd
  have QQ := hide (And.intro q4 (And.intro q5 (And.intro g1 g2)))
  have ZZ := hide (And.intro z0 (And.intro z1 (And.intro z2 (And.intro z3 (And.intro z4 z5)))))
  clear tw hp hc q1 q2 q3 q4 q5 q6 bd h1 b2 g1 g2 z0 z1 z2 z3 z4 z5
  go_wp2_with fail
  rw [← hw2]
  replace hw2 := hide hw2
  refine (unhide BD).mono ?_
  rintro e w3 ⟨bv, sv, rfl, ob, os, g3⟩
  obtain ⟨ba, bc, rfl⟩ := ob.shape
  obtain ⟨sa, sc, rfl⟩ := os.shape
  have L1 : bI20.length = 17 := rfl
  have L2 : ([17] : List Int).length = 1 := rfl
  simp only [L1, L2] at ob os ⊢
  obtain ⟨gs, rfl, hcs⟩ := os.cell 0 17 rfl
  obtain ⟨q4, q5, g1, g2⟩ := unhide QQ
  obtain ⟨z0, z1, z2, z3, z4, z5⟩ := unhide ZZ
  have gg := g2.trans g3
  have y0 := cell_grown z0 gg
  have y1 := cell_grown z1 gg
  have y2 := cell_grown z2 gg
  have y3 := cell_grown z3 gg
  have y4 := cell_grown z4 gg
  have y5 := cell_grown z5 gg
  have rm : Calls Try.prog 20 #[.int .i64 1200, .agg #[.int .i64 2, .slice a4 2 c4, .slice none 0 0, .int .i64 7, .int .i64 1, .slice a6 1 c6], .int .i64 15] w3 fun e w' => e = .returned (.int .i64 1181) ∧ w3.grownBy w' none := by
    have := room_any 1200 15 pA20 (.slice a4 2 c4) nilV (.slice a6 1 c6) w3 (q4.grown gg) (InX.nil _ _) (by simp [pA20]) (by simp [pA20]) (by omega)
    rw [room_A] at this
    exact this
  have hrd := ob.rd (show ∀ x ∈ bI20, IsB x by simp [bI20, IsB])
  have RD := hide (And.intro hrd (And.intro hcs (g1.trans gg)))
  clear BD QQ ZZ q4 q5 z0 z1 z2 z3 z4 z5 g1 g2 gg ob os hrd hcs g3
  go_wp2_with fail
  refine rm.mono ?_
  rintro e w4 ⟨rfl, g4⟩
  obtain ⟨hrd, hcs, gA⟩ := unhide RD
  have c0 := cell_grown hcs g4
  have hr4 := hrd.grow g4
  have cv1 := conv_rd w4 ba bI20 17 bc rfl hr4
  have hs1 : ((strOfNums bI20).toList == [192, 0, 0, 0, 1, 2, 1, 2, 1, 3, 0, 64, 4, 5, 1, 0, 0]) = true := by rw [str_toList]; decide
  have F := hide (gA.trans g4)
  clear rm RD hrd hcs gA g4 hr4 y0 y1 y2 y3 y4 y5
  go_wp2
  go_ret
  exact ⟨rfl, unhide F⟩
end Go.Proofs.Ytpcnpdippnljpaa

namespace Go.Proofs.Ytpcnpdippnljpaa
open Go.RowKit
set_option linter.unusedVariables false
set_option linter.unusedSimpArgs false
set_option maxRecDepth 100000
set_option maxHeartbeats 4000000

theorem wf_in {z : Int} (h : (Lit.int .i64 z).wf = true) : -9223372036854775808 ≤ z ∧ z ≤ 9223372036854775807 := by
  simp [Lit.wf, IntKind.min, IntKind.max] at h
  exact ⟨of_decide_eq_true h.1, of_decide_eq_true h.2⟩
theorem rooms_walk (room ahead : Int) (p : Pk) (d s y : Value) (w : World) (hd : InB w d p.dst) (hs : InB w s p.src) (hy : InB w y p.payload) (l1 : p.dst.length ≤ 140737488351232) (l2 : p.src.length ≤ 140737488351232) (l3 : p.payload.length ≤ 140737488351232) (r1 : room ≤ 9223372036854775807) :
    Calls Try.prog 4 #[.int .i64 room, p.val d s y, .int .i64 ahead] w fun e w' => e = .returned (.bool true) ∧ w.grownBy w' none := by
  obtain ⟨a1, c1, rfl, -⟩ := id hd
  obtain ⟨a2, c2, rfl, -⟩ := id hs
  obtain ⟨a3, c3, rfl, -⟩ := id hy
  have b0 := Blk.new w (p.cs (.slice a1 p.dst.length c1) (.slice a2 p.src.length c2) (.slice a3 p.payload.length c3)) 29
  have g0 := World.grownBy_alloc w (.cells (p.cs (.slice a1 p.dst.length c1) (.slice a2 p.src.length c2) (.slice a3 p.payload.length c3)) 29) none
  go_enter Try.func4, Try.ntmps4
  go_wp2_with fail
  refine (awake_any _).mono ?_
  rintro e W1 ⟨rfl, g1⟩
  have gA := g0.trans g1
  have b1 := b0.grown g1
  have x10 := b1.cell 0 (.int .i64 p.space) rfl
  have x11 := b1.cell 1 (.slice a1 p.dst.length c1) rfl
  have x12 := b1.cell 2 (.slice a2 p.src.length c2) rfl
  have x13 := b1.cell 3 (.int .i64 p.number) rfl
  have x14 := b1.cell 4 (.int .i64 p.width) rfl
  have x15 := b1.cell 5 (.slice a3 p.payload.length c3) rfl
  have ld := lend05 w w.heap.size p _ _ _ W1 (hd.grown gA) (hs.grown gA) (hy.grown gA) l1 l2 l3 (grown_bel gA) gA.size
  clear b0 g0 g1
  go_wp2_with fail
  refine ld.mono ?_
  intro e W2 hld
  obtain ⟨gl, t1, t2, t3, u1, u2, u3, rfl, L, g2⟩ := hld
  have b2 := b1.grown g2
  have gB := gA.trans g2
  have i1 := L.k1.inB
  have i2 := L.k2.inB
  rw [L.e1] at i1
  rw [L.e2] at i2
  have y0 := L.blk.cell 0 (.int .i64 p.space) rfl
  have y1 := L.blk.cell 1 t1.v rfl
  have y2 := L.blk.cell 2 t2.v rfl
  have y3 := L.blk.cell 3 (.int .i64 p.number) rfl
  have y4 := L.blk.cell 4 (.int .i64 p.width) rfl
  have y5 := L.blk.cell 5 t3.v rfl
  have rm := room_any room ahead p t1.v t2.v t3.v W2 i1 i2 l1 l2 r1
  have L2 := hide L
  obtain ⟨n, hn⟩ : ∃ n, n = roomF room p ahead := ⟨_, rfl⟩
  rw [← hn] at rm
  have HN := hide hn
  clear ld b1 gA g2 x10 x11 x12 x13 x14 x15 L i1 i2 hn
  go_wp2_with fail
  refine rm.mono ?_
  rintro e W3 ⟨rfl, g3⟩
  have b3 := b2.grown g3
  have gC := gB.trans g3
  have x30 := b3.cell 0 (.int .i64 p.space) rfl
  have x31 := b3.cell 1 (.slice a1 p.dst.length c1) rfl
  have x32 := b3.cell 2 (.slice a2 p.src.length c2) rfl
  have x33 := b3.cell 3 (.int .i64 p.number) rfl
  have x34 := b3.cell 4 (.int .i64 p.width) rfl
  have x35 := b3.cell 5 (.slice a3 p.payload.length c3) rfl
  have rr := rroom_any room ahead p (.slice a1 p.dst.length c1) (.slice a2 p.src.length c2) (.slice a3 p.payload.length c3) W3 (hd.grown gC) (hs.grown gC) (hy.grown gC) l1 l2 l3 r1
  rw [← unhide HN] at rr
  have L3 := hide ((unhide L2).grown g3)
  clear rm b2 gB y0 y1 y2 y3 y4 y5 L2 g3
  go_wp2_with fail
  refine rr.mono ?_
  rintro e W4 ⟨rfl, g4⟩
  have kp := kept05 w w.heap.size W4 gl p t1 t2 t3 u1 u2 u3 ((unhide L3).grown g4)
  have GD := hide (gC.trans g4)
  clear rr b3 gC g4 L3 x30 x31 x32 x33 x34 x35
  go_wp2_with fail
  refine kp.mono ?_
  rintro e W5 ⟨rfl, h5⟩
  have F := hide ((unhide GD).trans h5)
  have e2 : (n == n) = true := by simp
  clear kp GD h5
  go_wp2_with fail
  go_ret
  exact ⟨by simp [*], unhide F⟩
end Go.Proofs.Ytpcnpdippnljpaa
