/- mayBe and Decode. -/
import Derived.Test.YtpcnpdippnljpaaKW
import Derived.RegionTactic
import Derived.BigRegion
namespace Go.Proofs.Ytpcnpdippnljpaa
open Go.RowKit
set_option linter.unusedVariables false
set_option maxRecDepth 100000
set_option maxHeartbeats 1000000

abbrev Lg.v (G : Lg) : Value := .agg #[.int .i64 G.1, .int .i64 G.2.1, .int .i64 G.2.2]
/-- The first k are right. -/
def okTo (G : Lg) : Nat → Prop
  | 0 => True
  | 1 => okN G.1
  | 2 => okN G.1 ∧ okN G.2.1
  | _ => okG G

/-- mayBe. -/
def mayF (n : Int) (G : Lg) : Bool := decide (okG G ∧ 0 ≤ n ∧ n ≤ 20)

theorem mayBe_any (n : Int) (G : Lg) (w : World) : Calls Try.prog 42 #[.int .i64 n, G.v] w fun e w' => e = .returned (.bool (mayF n G)) ∧ w.grownBy w' none := by
  obtain ⟨x, y, z⟩ := G
  have i0 : ∀ w : World, (Instr.index 49 (.agg #[.int .i64 x, .int .i64 y, .int .i64 z]) (.int .i64 0)).run Try.prog w = .ok (.int .i64 x) w := fun _ => by kernel_rfl
  have i1 : ∀ w : World, (Instr.index 49 (.agg #[.int .i64 x, .int .i64 y, .int .i64 z]) (.int .i64 1)).run Try.prog w = .ok (.int .i64 y) w := fun _ => by kernel_rfl
  have i2 : ∀ w : World, (Instr.index 49 (.agg #[.int .i64 x, .int .i64 y, .int .i64 z]) (.int .i64 2)).run Try.prog w = .ok (.int .i64 z) w := fun _ => by kernel_rfl
  go_enter Try.func42, Try.ntmps42
  go_wp2_with fail
  have gr : w.grownBy (w.alloc (.cells #[.int .i64 x, .int .i64 y, .int .i64 z] 49)) none := World.grownBy_alloc w _ none
  generalize w.alloc (.cells #[.int .i64 x, .int .i64 y, .int .i64 z] 49) = W at *
  have HB := hide gr
  clear gr
  go_loopw [8] (fun i wr => ∃ (k : Nat), k ≤ 3 ∧ i = .int .i64 k ∧ Hid (okTo (x, y, z) k) ∧ wr = W) (fun i _ => 3 - (intOf i).toNat)
  case atStart => exact ⟨0, by omega, rfl, trivial, rfl⟩
  case round =>
    obtain ⟨k, hk, rfl, ho, rfl⟩ := hrel
    by_cases hk3 : k = 3
    · subst hk3
      have hG : okG (x, y, z) := ho
      by_cases h0 : 0 ≤ n
      · by_cases h1 : n ≤ 20
        · have e : mayF n (x, y, z) = true := decide_eq_true ⟨hG, h0, h1⟩
          have E := hide e
          clear e hG ho
          go_wp2_with fail
          go_ret
          exact ⟨ret_bool (by rw [unhide E]), unhide HB⟩
        · have e : mayF n (x, y, z) = false := decide_eq_false (fun h => h1 h.2.2)
          have E := hide e
          clear e hG ho
          go_wp2_with fail
          go_ret
          exact ⟨ret_bool (by rw [unhide E]), unhide HB⟩
      · have e : mayF n (x, y, z) = false := decide_eq_false (fun h => h0 h.2.1)
        have E := hide e
        clear e hG ho
        go_wp2_with fail
        go_ret
        exact ⟨ret_bool (by rw [unhide E]), unhide HB⟩
    obtain ⟨v, hi, hs, hno⟩ : ∃ v, (∀ w : World, (Instr.index 49 (.agg #[.int .i64 x, .int .i64 y, .int .i64 z]) (.int .i64 k)).run Try.prog w = .ok (.int .i64 v) w) ∧ Hid (okN v → okTo (x, y, z) (k + 1)) ∧ Hid (¬ okN v → ¬ okG (x, y, z)) := by
      obtain rfl | rfl | rfl : k = 0 ∨ k = 1 ∨ k = 2 := by omega
      · exact ⟨x, i0, fun h => h, fun h g => h g.1⟩
      · exact ⟨y, i1, fun h => ⟨ho, h⟩, fun h g => h g.2.1⟩
      · exact ⟨z, i2, fun h => ⟨ho.1, ho.2, h⟩, fun h g => h g.2.2⟩
    have hlt : (k : Int) < 3 := by omega
    clear i0 i1 i2 hk3 ho
    by_cases h1 : v < -1
    · have e : mayF n (x, y, z) = false := decide_eq_false (fun h => unhide hno (by unfold okN MAXP; omega) h.1)
      have E := hide e
      clear e hno hs
      go_wp2_with fail
      go_ret
      exact ⟨ret_bool (by rw [unhide E]), unhide HB⟩
    · by_cases h2 : 4611686018427387903 < v
      · have e : mayF n (x, y, z) = false := decide_eq_false (fun h => unhide hno (by unfold okN MAXP; omega) h.1)
        have E := hide e
        clear e hno hs
        go_wp2_with fail
        go_ret
        exact ⟨ret_bool (by rw [unhide E]), unhide HB⟩
      · have ho := hide (unhide hs (by unfold okN MAXP; omega))
        clear hno hs
        go_wp2_with fail
        exact ⟨⟨k + 1, by omega, by go_num, ho, trivial⟩, by simp [intOf]; omega⟩

theorem grown_over {w W1 W : World} {g : Nat} (h1 : w.grownBy W1 none) (h2 : W1.grownBy W (some g)) (hg : w.heap.size ≤ g) : w.grownBy W none :=
  ⟨h2.os.trans h1.os, h2.tape.trans h1.tape, h2.output.trans h1.output, Nat.le_trans h1.size h2.size, fun i hi _ => (h2.block i (Nat.lt_of_lt_of_le hi h1.size) (fun e => by cases e; omega)).trans (h1.block i hi (by simp))⟩

/-- What Decode leaves. -/
def DecPost (w : World) (r : Pk × Int × Int) (e : Ending) (w' : World) : Prop :=
  ∃ d s y, e = .returned (.tuple #[r.1.val d s y, .int .i64 r.2.1, .int .i64 r.2.2]) ∧ OwnB w.heap.size w' d r.1.dst ∧ OwnB w.heap.size w' s r.1.src ∧ OwnB w.heap.size w' y r.1.payload ∧ w.grownBy w' none

theorem results_ctu {P : Program} {fn : Func} {p u v : Tmp} {tp : TypeId} (h : fn.results = #[.cell p tp, .tmp u, .tmp v]) (tmps : Array Value) (w : World) (g1 : Nat) (c1 : Array Value) (d1 : TypeDesc)
    (hp : tmps.getD p undef = .pointer (some ⟨g1, 0, none⟩)) (b1 : Blk w g1 c1 tp)
    (hu1 : P.underlying tp = some d1) (hd1 : (match d1 with | .struct _ | .array _ _ => true | _ => false) = true) (hi1 : (P.info? tp).map (·.size) = some c1.size) :
    (results fn tmps).run P w = .ok (.tuple #[.agg c1, tmps.getD u undef, tmps.getD v undef]) w := by
  have hp' : tmps[p]?.getD undef = .pointer (some ⟨g1, 0, none⟩) := by simpa using hp
  simp [results, h, hp', asAddr, run_loadVar_row w g1 tp tp c1 (0, 0) d1 b1 hu1 hd1 hi1]

/-- An answer that tells an error. -/
theorem DecPost.no {w W : World} (y : Int) (g : w.grownBy W none) : DecPost w (noP, 0, y) (.returned (.tuple #[noP.val nilV nilV nilV, .int .i64 0, .int .i64 y])) W :=
  ⟨nilV, nilV, nilV, rfl, World.ownsRow_nil _ _ _ _, World.ownsRow_nil _ _ _ _, World.ownsRow_nil _ _ _ _, g⟩

theorem DecPost.drew {w W : World} {r : Pk × Int × Int} {e : Ending} (h : DecPost w r e W) : DecPost w r e W.drew := by
  obtain ⟨d, s, y, he, o1, o2, o3, g⟩ := h
  exact ⟨d, s, y, he, o1, o2, o3, grown_drew' g⟩

/-- What Decode makes of what was read. -/
def decR (P : Pk × St) : Pk × Int × Int := if P.2.2 = 0 then (P.1, (P.2.1 : Int), 0) else (noP, 0, P.2.2)

theorem decode_any (a : Option Addr) (l : List Int) (c : Nat) (i n : Int) (G : Lg) (w : World) (hr : Rd w a l) (hc : l.length ≤ c) (hc2 : c ≤ maxLen) (hb : l.length ≤ 140737488355328)
    (hne : ∀ x, a = some x → 0 < c → x.block < w.heap.size) (hpl : ∀ x, a = some x → 0 < c → ∃ b o, x = ⟨b, o, none⟩) :
    Calls Try.prog 35 #[.slice a l.length c, .int .i64 i, .int .i64 n, G.v] w (DecPost w (decP l i n G)) := by
  have mb := fun W => mayBe_any n G W
  have hmax : l.length ≤ 9223372036854775807 := by unfold maxLen at hc2; omega
  have bB := Blk.two w #[.int .i64 G.1, .int .i64 G.2.1, .int .i64 G.2.2] (pcs 0 nilV nilV 0 0 nilV) 49 29
  by_cases h1 : i < 0
  · have e : decP l i n G = (noP, 0, 1) := by unfold decP; rw [if_pos (.inl h1)]
    rw [e]
    go_enter Try.func35, Try.ntmps35
    go_wp2_with fail
    refine bodyPost_ret (results_ctu rfl _ _ (w.heap.size + 1) _ _ rfl bB.2.1 Try.underlying29 rfl Try.sizeP) rfl ?_
    exact DecPost.no 1 bB.2.2
  by_cases h2 : (l.length : Int) < i
  · have e : decP l i n G = (noP, 0, 1) := by unfold decP; rw [if_pos (.inr (.inl h2))]
    rw [e]
    go_enter Try.func35, Try.ntmps35
    go_wp2_with fail
    refine bodyPost_ret (results_ctu rfl _ _ (w.heap.size + 1) _ _ rfl bB.2.1 Try.underlying29 rfl Try.sizeP) rfl ?_
    exact DecPost.no 1 bB.2.2
  obtain ⟨k, rfl⟩ := Int.eq_ofNat_of_zero_le (show 0 ≤ i by omega)
  have hk : k ≤ l.length := by omega
  have x0 := bB.1.cell 0 (.int .i64 G.1) rfl
  have x1 := bB.1.cell 1 (.int .i64 G.2.1) rfl
  have x2 := bB.1.cell 2 (.int .i64 G.2.2) rfl
  have H1 := h1
  have hnlt : ¬ (l.length : Int) < (k : Int) := h2
  have hgw := hide bB.2.2
  cases hm : mayF n G with
  | false =>
    have hno : ¬ (okG G ∧ 0 ≤ n ∧ n ≤ 20) := fun h => by unfold mayF at hm; rw [decide_eq_true h] at hm; cases hm
    have e : decP l k n G = (noP, 0, 1) := by unfold decP; rw [if_pos (.inr (.inr hno))]
    rw [e]
    rw [hm] at mb
    have bA := bB.2.1
    go_enter Try.func35, Try.ntmps35
    go_wp2_with fail
    refine (mb _).mono ?_
    rintro e W1 ⟨rfl, g1⟩
    have b1 := bA.grown g1
    have q0 := b1.cell 0 _ rfl
    have q1 := b1.cell 1 _ rfl
    have q2 := b1.cell 2 _ rfl
    have q3 := b1.cell 3 _ rfl
    have q4 := b1.cell 4 _ rfl
    have q5 := b1.cell 5 _ rfl
    have th := b1.thaws
    have F := hide (DecPost.no 1 (grown_set (grown_set (grown_set (grown_set (grown_set (grown_set ((unhide hgw).trans g1) (w.heap.size + 1) 0 (.int .i64 0) (Nat.le_succ _)) (w.heap.size + 1) 1 nilV (Nat.le_succ _)) (w.heap.size + 1) 2 nilV (Nat.le_succ _)) (w.heap.size + 1) 3 (.int .i64 0) (Nat.le_succ _)) (w.heap.size + 1) 4 (.int .i64 0) (Nat.le_succ _)) (w.heap.size + 1) 5 nilV (Nat.le_succ _)))
    have B6 := hide (b1.set6 (v0 := .int .i64 0) (v1 := nilV) (v2 := nilV) (v3 := .int .i64 0) (v4 := .int .i64 0) (v5 := nilV))
    clear b1 g1 bA bB mb
    go_wp2_with fail
    refine bodyPost_ret (results_ctu rfl _ _ (w.heap.size + 1) _ _ rfl (unhide B6) Try.underlying29 rfl Try.sizeP) rfl ?_
    exact unhide F
  | true =>
    have hyes : okG G ∧ 0 ≤ n ∧ n ≤ 20 := by unfold mayF at hm; exact of_decide_eq_true hm
    rw [hm] at mb
    have e : decP l k n G = decR (packR l G k n) := by
      unfold decP; rw [if_neg (fun h => by rcases h with h | h | h; exact h1 h; exact h2 h; exact h hyes)]; rfl
    rw [e]
    clear e hm
    have bA := bB.2.1
    have bG := bB.1
    go_enter Try.func35, Try.ntmps35
    go_wp2_with fail
    refine (mb _).mono ?_
    rintro e W1 ⟨rfl, g1⟩
    have b1 := bA.grown g1
    have bG1 := bG.grown g1
    have y0 := bG1.cell 0 (.int .i64 G.1) rfl
    have y1 := bG1.cell 1 (.int .i64 G.2.1) rfl
    have y2 := bG1.cell 2 (.int .i64 G.2.2) rfl
    have gA := (unhide hgw).trans g1
    have gR := World.grownBy_alloc W1 (.cells (rdp (.slice a l.length c) k 0 G) 85) none
    have R0 : Rdk (W1.alloc (.cells (rdp (.slice a l.length c) k 0 G) 85)) W1.heap.size a l c G (k, 0) := by
      have hs : w.heap.size ≤ W1.heap.size := gA.size
      refine ⟨Blk.new _ _ _, (hr.farC hc (g := W1.heap.size) (grown_any (gA.trans gR) _) (fun x e hp => ⟨by have := hne x e hp; omega, hne x e hp⟩)), hc, hc2, hk, fun x e hp => ⟨by have := hne x e hp; omega, ?_⟩, hpl⟩
      exact Nat.lt_of_lt_of_le (hne x e hp) (gA.trans gR).size
    have pk := R0.packet hyes.1 hb n hyes.2
    have b2 := b1.alloc (.cells (rdp (.slice a l.length c) k 0 G) 85)
    have hs2 : w.heap.size + 1 < W1.heap.size := b1.lt
    clear mb bA bG bG1 b1 g1 R0 bB x0 x1 x2
    generalize packR l G k n = P at *
    obtain ⟨P, S, Y⟩ := P
    go_wp2_with fail
    refine pk.mono ?_
    intro e W3 hh
    obtain ⟨a1, n1, c1, a2, n2, c2, a3, n3, c3, rfl, o1, o2, o3, R3, g3⟩ := hh.shape
    clear hh pk
    have b3 := b2.far g3 (by omega)
    have gB : w.grownBy W3 none := grown_over (gA.trans gR) g3 (Nat.le_trans (Nat.le_succ _) (Nat.le_of_lt hs2))
    have hs3 : W1.heap.size < W3.heap.size := R3.blk.lt
    have c5 := R3.blk.cell 5 (.int .i64 Y) rfl
    have c1' := R3.blk.cell 1 (.int .i64 S) rfl
    have q0 := b3.cell 0 _ rfl
    have q1 := b3.cell 1 _ rfl
    have q2 := b3.cell 2 _ rfl
    have q3 := b3.cell 3 _ rfl
    have q4 := b3.cell 4 _ rfl
    have q5 := b3.cell 5 _ rfl
    have th := b3.thaws
    have gN := World.grownBy_alloc W3 (.cells (P.cs (.slice a1 n1 c1) (.slice a2 n2 c2) (.slice a3 n3 c3)) 29) none
    have z0 := (R3.blk.alloc (.cells (P.cs (.slice a1 n1 c1) (.slice a2 n2 c2) (.slice a3 n3 c3)) 29))
    have hsB : w.heap.size + 2 ≤ (W1.alloc (.cells (rdp (.slice a l.length c) k 0 G) 85)).heap.size := by show _ ≤ (W1.heap.push _).size; simp; omega
    by_cases hY : Y = 0
    · have hd : (Y == 0) = true := by simpa using hY
      have hd2 : (Y != 0) = false := by simpa using hY
      go_wp2_with fail
      have bN := Blk.new W3 (P.cs (.slice a1 n1 c1) (.slice a2 n2 c2) (.slice a3 n3 c3)) 29
      have b4 := b3.alloc (.cells (P.cs (.slice a1 n1 c1) (.slice a2 n2 c2) (.slice a3 n3 c3)) 29)
      have gC := gB.trans gN
      have p1 := (o1.far gN (fun q e => by cases e)).mono (base' := w.heap.size + 2) hsB
      have p2 := (o2.far gN (fun q e => by cases e)).mono (base' := w.heap.size + 2) hsB
      have p3 := (o3.far gN (fun q e => by cases e)).mono (base' := w.heap.size + 2) hsB
      generalize W3.alloc (.cells #[.int .i64 P.space, .slice a1 n1 c1, .slice a2 n2 c2, .int .i64 P.number, .int .i64 P.width, .slice a3 n3 c3] 29) = W4 at *
      have m0 := b4.cell 0 _ rfl
      have m1 := b4.cell 1 _ rfl
      have m2 := b4.cell 2 _ rfl
      have m3 := b4.cell 3 _ rfl
      have m4 := b4.cell 4 _ rfl
      have m5 := b4.cell 5 _ rfl
      have mt := b4.thaws
      have z1 := z0.cell 1 (.int .i64 S) rfl
      have z5 := z0.cell 5 (.int .i64 Y) rfl
      have r0 := bN.cell 0 (.int .i64 P.space) rfl
      have r1 := bN.cell 1 (.slice a1 n1 c1) rfl
      have r2 := bN.cell 2 (.slice a2 n2 c2) rfl
      have r3 := bN.cell 3 (.int .i64 P.number) rfl
      have r4 := bN.cell 4 (.int .i64 P.width) rfl
      have r5 := bN.cell 5 (.slice a3 n3 c3) rfl
      have gg : W4.grownBy ((((((W4.setCell ⟨w.heap.size + 1, 0, none⟩ (.int .i64 P.space)).setCell ⟨w.heap.size + 1, 1, none⟩ (.slice a1 n1 c1)).setCell ⟨w.heap.size + 1, 2, none⟩ (.slice a2 n2 c2)).setCell ⟨w.heap.size + 1, 3, none⟩ (.int .i64 P.number)).setCell ⟨w.heap.size + 1, 4, none⟩ (.int .i64 P.width)).setCell ⟨w.heap.size + 1, 5, none⟩ (.slice a3 n3 c3)) (some (w.heap.size + 1)) :=
        grown_at (grown_at (grown_at (grown_at (grown_at (grown_at (World.grownBy.refl W4 (some (w.heap.size + 1))) 0 _) 1 _) 2 _) 3 _) 4 _) 5 _
      have ho : ∀ q, some (w.heap.size + 1) = some q → q < w.heap.size + 2 := fun q e => by cases e; omega
      have F : Hid (DecPost w (decR (P, S, Y)) (.returned (.tuple #[P.val (.slice a1 n1 c1) (.slice a2 n2 c2) (.slice a3 n3 c3), .int .i64 S, .int .i64 0])) ((((((W4.setCell ⟨w.heap.size + 1, 0, none⟩ (.int .i64 P.space)).setCell ⟨w.heap.size + 1, 1, none⟩ (.slice a1 n1 c1)).setCell ⟨w.heap.size + 1, 2, none⟩ (.slice a2 n2 c2)).setCell ⟨w.heap.size + 1, 3, none⟩ (.int .i64 P.number)).setCell ⟨w.heap.size + 1, 4, none⟩ (.int .i64 P.width)).setCell ⟨w.heap.size + 1, 5, none⟩ (.slice a3 n3 c3))) := by
        unfold decR
        rw [if_pos hY]
        exact ⟨_, _, _, rfl, (p1.far gg ho).mono (by omega), (p2.far gg ho).mono (by omega), (p3.far gg ho).mono (by omega), grown_over gC gg (Nat.le_succ _)⟩
      have B6 := hide (b4.set6 (v0 := .int .i64 P.space) (v1 := .slice a1 n1 c1) (v2 := .slice a2 n2 c2) (v3 := .int .i64 P.number) (v4 := .int .i64 P.width) (v5 := .slice a3 n3 c3))
      clear gg ho p1 p2 p3 gC b4 bN z0 R3 b3 gB gA gR g3 o1 o2 o3 gN q0 q1 q2 q3 q4 q5 th b2 y0 y1 y2 hr hne hpl hgw c5 c1'
      go_region
      go_wp2_with fail
      refine bodyPost_ret (results_ctu rfl _ _ (w.heap.size + 1) _ _ rfl (Blk.drew (unhide B6)) Try.underlying29 rfl Try.sizeP) rfl ?_
      exact DecPost.drew (unhide F)
    · have hd : (Y == 0) = false := by simpa using hY
      have hd2 : (Y != 0) = true := by simpa using hY
      go_wp2_with fail
      have bN := Blk.new W3 (P.cs (.slice a1 n1 c1) (.slice a2 n2 c2) (.slice a3 n3 c3)) 29
      have b4 := b3.alloc (.cells (P.cs (.slice a1 n1 c1) (.slice a2 n2 c2) (.slice a3 n3 c3)) 29)
      have gC := gB.trans gN
      have p1 := (o1.far gN (fun q e => by cases e)).mono (base' := w.heap.size + 2) hsB
      have p2 := (o2.far gN (fun q e => by cases e)).mono (base' := w.heap.size + 2) hsB
      have p3 := (o3.far gN (fun q e => by cases e)).mono (base' := w.heap.size + 2) hsB
      generalize W3.alloc (.cells #[.int .i64 P.space, .slice a1 n1 c1, .slice a2 n2 c2, .int .i64 P.number, .int .i64 P.width, .slice a3 n3 c3] 29) = W4 at *
      have m0 := b4.cell 0 _ rfl
      have m1 := b4.cell 1 _ rfl
      have m2 := b4.cell 2 _ rfl
      have m3 := b4.cell 3 _ rfl
      have m4 := b4.cell 4 _ rfl
      have m5 := b4.cell 5 _ rfl
      have mt := b4.thaws
      have z1 := z0.cell 1 (.int .i64 S) rfl
      have z5 := z0.cell 5 (.int .i64 Y) rfl
      have gg : W4.grownBy ((((((W4.setCell ⟨w.heap.size + 1, 0, none⟩ (.int .i64 0)).setCell ⟨w.heap.size + 1, 1, none⟩ nilV).setCell ⟨w.heap.size + 1, 2, none⟩ nilV).setCell ⟨w.heap.size + 1, 3, none⟩ (.int .i64 0)).setCell ⟨w.heap.size + 1, 4, none⟩ (.int .i64 0)).setCell ⟨w.heap.size + 1, 5, none⟩ nilV) (some (w.heap.size + 1)) :=
        grown_at (grown_at (grown_at (grown_at (grown_at (grown_at (World.grownBy.refl W4 (some (w.heap.size + 1))) 0 _) 1 _) 2 _) 3 _) 4 _) 5 _
      have F : Hid (DecPost w (decR (P, S, Y)) (.returned (.tuple #[noP.val nilV nilV nilV, .int .i64 0, .int .i64 Y])) ((((((W4.setCell ⟨w.heap.size + 1, 0, none⟩ (.int .i64 0)).setCell ⟨w.heap.size + 1, 1, none⟩ nilV).setCell ⟨w.heap.size + 1, 2, none⟩ nilV).setCell ⟨w.heap.size + 1, 3, none⟩ (.int .i64 0)).setCell ⟨w.heap.size + 1, 4, none⟩ (.int .i64 0)).setCell ⟨w.heap.size + 1, 5, none⟩ nilV)) := by
        unfold decR
        rw [if_neg hY]
        exact DecPost.no Y (grown_over gC gg (Nat.le_succ _))
      have B6 := hide (b4.set6 (v0 := .int .i64 0) (v1 := nilV) (v2 := nilV) (v3 := .int .i64 0) (v4 := .int .i64 0) (v5 := nilV))
      clear gg p1 p2 p3 gC b4 bN z0 R3 b3 gB gA gR g3 o1 o2 o3 gN q0 q1 q2 q3 q4 q5 th b2 y0 y1 y2 hr hne hpl hgw c5 c1'
      go_region
      go_wp2_with fail
      refine bodyPost_ret (results_ctu rfl _ _ (w.heap.size + 1) _ _ rfl (Blk.drew (unhide B6)) Try.underlying29 rfl Try.sizeP) rfl ?_
      exact DecPost.drew (unhide F)

end Go.Proofs.Ytpcnpdippnljpaa
