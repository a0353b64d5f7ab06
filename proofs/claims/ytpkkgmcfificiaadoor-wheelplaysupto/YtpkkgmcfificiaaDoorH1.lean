/- laid. -/
import Derived.Test.YtpkkgmcfificiaaDoorHZ
namespace Go.Proofs.YtpkkgmcfificiaaDoor
open Go.RowKit Go.Shelf Go.Maps
set_option linter.unusedVariables false
set_option maxRecDepth 100000
set_option maxHeartbeats 1000000

theorem laidF_snoc (now : Int) (ol : List OpD) (k : Nat) (x : OpD) (h : ol[k]? = some x) : laidF now (ol.take (k + 1)) = stepF (laidF now (ol.take k)) x := by
  have : ol.take (k + 1) = ol.take k ++ [x] := by rw [List.take_add_one, h]; rfl
  unfold laidF
  rw [this, List.foldl_append]; rfl

theorem LI.drewN {B : Nat} {w : World} {now : Int} {ol : List OpD} {W k : Nat} {wr X : World} (h : LI B w now ol W k wr) (g : wr.grownBy X none) : LI B w now ol W k X := by
  obtain ⟨S, wl, hS⟩ := h.wl
  exact ⟨⟨S, wl.grown g, hS⟩, h.bel.trans ((grown_bel g).mono h.bel.size)⟩

theorem LI.step {B : Nat} {w : World} {now : Int} {ol : List OpD} {W k : Nat} {wr w' : World} (h : LI B w now ol W k wr) {S S' : Nat → Prop} (hS : ∀ g, S g → w.heap.size ≤ g) (st : St wr w' S S') (hw : Wl B w' S' W (laidF now (ol.take (k + 1))).1 (laidF now (ol.take (k + 1))).2) : LI B w now ol W (k + 1) w' := by
  refine ⟨⟨S', hw, fun g hg => ?_⟩, h.bel.trans (st.kp.bel hS h.bel.size)⟩
  rcases st.dn g hg with h1 | h1
  · exact hS g h1
  · have := h.bel.size; omega

theorem LI.arm {B : Nat} {w : World} {now : Int} {ol : List OpD} {W k : Nat} {wr : World} (h : LI B w now ol W k wr) (x : OpD) (hx : ol[k]? = some x) (hk : pk x.kind 6 = 0 ∨ pk x.kind 6 = 2 ∨ pk x.kind 6 = 3) :
    Calls Tryd.prog 21 #[ptr W, .int .i64 x.id, .int .i64 x.at_] wr fun e w' => ∃ r : Int, e = .returned (.int .i64 r) ∧ LI B w now ol W (k + 1) w' := by
  obtain ⟨S, wl, hS⟩ := h.wl
  refine (wl_arm B wr S W _ _ wl x.id x.at_).mono ?_
  rintro e w' ⟨rfl, S', wl', st⟩
  refine ⟨_, rfl, h.step hS st ?_⟩
  rw [laidF_snoc now ol k x hx]
  unfold stepF
  rw [if_pos hk]
  exact wl'
theorem LI.cancel {B : Nat} {w : World} {now : Int} {ol : List OpD} {W k : Nat} {wr : World} (h : LI B w now ol W k wr) (x : OpD) (hx : ol[k]? = some x) (ok : x.Ok) (hk : pk x.kind 6 = 1) :
    Calls Tryd.prog 22 #[ptr W, .int .i64 x.id] wr fun e w' => ∃ r : Int, e = .returned (.int .i64 r) ∧ LI B w now ol W (k + 1) w' := by
  obtain ⟨S, wl, hS⟩ := h.wl
  refine (wl_cancel B wr S W _ _ wl x.id ok.i).mono ?_
  rintro e w' ⟨rfl, S', wl', st⟩
  refine ⟨_, rfl, h.step hS st ?_⟩
  rw [laidF_snoc now ol k x hx]
  unfold stepF
  rw [if_neg (by omega), if_pos hk]
  exact wl'
theorem LI.adv {B : Nat} {w : World} {now : Int} {ol : List OpD} {W k : Nat} {wr : World} (h : LI B w now ol W k wr) (ht : Tb wr) (x : OpD) (hx : ol[k]? = some x) (hk : ¬ (pk x.kind 6 = 0 ∨ pk x.kind 6 = 2 ∨ pk x.kind 6 = 3)) (hk1 : ¬ pk x.kind 6 = 1) :
    Calls Tryd.prog 13 #[ptr W, .int .i64 x.at_] wr fun e w' => ∃ a m c', e = .returned (.slice a m c') ∧ LI B w now ol W (k + 1) w' := by
  obtain ⟨S, wl, hS⟩ := h.wl
  refine (wl_adv B wr S W _ _ wl ht x.at_).mono ?_
  rintro e w' ⟨a, m, c', rfl, -, -, wl', kp⟩
  refine ⟨a, m, c', rfl, h.step hS ⟨kp, fun _ hg => hg, fun _ hg => .inl hg⟩ ?_⟩
  rw [laidF_snoc now ol k x hx]
  unfold stepF
  rw [if_neg hk, if_neg hk1]
  exact wl'

theorem laid_any (B : Nat) (now : Int) (a : Option Addr) (len cap : Nat) (ol : List OpD) (w : World) (h : IsOps w a len cap ol) (ht : Tb w) (hB : B ≤ w.heap.size) :
    Calls Tryd.prog 16 #[.int .i64 now, .slice a len cap] w fun e w' => ∃ W, e = .returned (ptr W) ∧ LI B w now ol W len w' := by
  have hn := wl_new B now w hB
  have lenI : ¬ (9223372036854775807 : Int) < (len : Int) := by have := h.hcap; omega
  have h0 := ht.lt
  have HO := hide h; have HT := hide ht
  have hcap := h.hcap
  clear h ht
  go_enter Tryd.func16, Tryd.ntmps16
  go_wp2_with fail
  refine hn.mono ?_
  rintro e W1 ⟨W, rfl, wl, g1⟩
  have st : LI B w now ol W 0 W1 := ⟨⟨_, wl, fun g hg => hg.1⟩, grown_bel g1⟩
  have ST := hide st
  clear wl g1 st hn
  go_wp2_with fail
  go_loopw [6] (fun iv wr => ∃ k : Nat, k ≤ len ∧ iv = .int .i64 k ∧ Hid (LI B w now ol W k wr)) (fun iv _ => len - (intOf iv).toNat)
  case atStart => exact ⟨0, Nat.zero_le _, rfl, unhide ST⟩
  case round =>
    obtain ⟨k, hk, rfl, H⟩ := hrel
    clear ST
    by_cases hlt : k < len
    · have kI : (k : Int) < (len : Int) := by omega
      have li := unhide H
      have io := (unhide HO).bel li.bel (Nat.le_refl _)
      obtain ⟨x, hx⟩ : ∃ x, ol[k]? = some x := ⟨ol[k]'(by have := (unhide HO).hlen; omega), by simp⟩
      have ok := (unhide HO).ok x (List.mem_of_getElem? hx)
      have tb : Tb wr := (unhide HT).bel li.bel h0
      rcases io.cell with e0 | ⟨b, off, rfl, hc⟩
      · omega
      obtain ⟨c0, c1, c2, c3⟩ := hc k x hx
      have pc := fun X => pick_any x.kind 6 ok.k (by omega) X
      have ARM := hide (fun X (g : wr.grownBy X none) (hp : pk x.kind 6 = 0 ∨ pk x.kind 6 = 2 ∨ pk x.kind 6 = 3) => (li.drewN g).arm x hx hp)
      have CAN := hide (fun (hp : pk x.kind 6 = 1) => li.cancel x hx ok hp)
      have ADV := hide (fun (hp : ¬ (pk x.kind 6 = 0 ∨ pk x.kind 6 = 2 ∨ pk x.kind 6 = 3)) (hp1 : ¬ pk x.kind 6 = 1) => li.adv tb x hx hp hp1)
      have KEEP := hide (show ∀ X, LI B w now ol W (k + 1) X → X.cell? ⟨b, off + k * 4 + 2, none⟩ = some (.int .i64 x.id) ∧ X.cell? ⟨b, off + k * 4 + 3, none⟩ = some (.int .i64 x.at_) from fun X l2 => by
        have io2 := (unhide HO).bel l2.bel (Nat.le_refl _)
        rcases io2.cell with e0 | ⟨b', off', e1, hc'⟩
        · omega
        · simp only [Option.some.injEq, Addr.mk.injEq, and_true] at e1
          obtain ⟨rfl, rfl⟩ := e1
          exact ⟨(hc' k x hx).2.2.1, (hc' k x hx).2.2.2⟩)
      clear H li io tb hc c1 ok hx
      generalize pk x.kind 6 = p at *
      by_cases h0 : p = 0 ∨ p = 2 ∨ p = 3
      · have AR := fun X g => unhide ARM X g h0
        clear ARM CAN ADV
        go_wp2_with fail
        refine (pc _).mono ?_
        rintro e X ⟨rfl, hw⟩
        replace hw := hw.symm
        subst hw
        rcases h0 with rfl | rfl | rfl
        all_goals
          go_wp2_with fail
          go_region_held3 (fun X => X.cell? ⟨b, off + k * 4 + 2, none⟩ = some (.int .i64 x.id) ∧ X.cell? ⟨b, off + k * 4 + 3, none⟩ = some (.int .i64 x.at_)) (go_keep) (first | (go_at_call 21; refine (AR _ (by first | with_reducible exact grown_drew' (World.grownBy.refl _ none) | with_reducible exact grown_drewN (World.grownBy.refl _ none))).mono ?_; rintro e W2 ⟨r, rfl, l2⟩; have z2 := (unhide KEEP W2 l2).1; have z3 := (unhide KEEP W2 l2).2))
          have L2 := hide l2
          clear l2 AR z2 z3
          go_wp2_with fail
          exact ⟨⟨k + 1, hlt, by go_num, unhide L2⟩, by simp [intOf]; omega⟩
      · by_cases h1 : p = 1
        · have CA := unhide CAN h1
          clear ARM CAN ADV
          subst h1
          go_wp2_with fail
          refine (pc _).mono ?_
          rintro e X ⟨rfl, hw⟩
          replace hw := hw.symm
          subst hw
          go_wp2_with fail
          refine CA.mono ?_
          rintro e W2 ⟨r, rfl, l2⟩
          have L2 := hide l2
          clear l2 CA
          go_wp2_with fail
          exact ⟨⟨k + 1, hlt, by go_num, unhide L2⟩, by simp [intOf]; omega⟩
        · have AD := unhide ADV h0 h1
          clear ARM CAN ADV
          have b0 : (p == 0) = false := by simp; omega
          have b1 : (p == 1) = false := by simp; omega
          have b2 : (p == 2) = false := by simp; omega
          have b3 : (p == 3) = false := by simp; omega
          go_wp2_with fail
          refine (pc _).mono ?_
          rintro e X ⟨rfl, hw⟩
          replace hw := hw.symm
          subst hw
          go_wp2_with fail
          refine AD.mono ?_
          rintro e W2 ⟨a2, m2, c2', rfl, l2⟩
          have L2 := hide l2
          clear l2 AD
          go_wp2_with fail
          exact ⟨⟨k + 1, hlt, by go_num, unhide L2⟩, by simp [intOf]; omega⟩
    · obtain rfl : k = len := by omega
      have kI : ¬ (k : Int) < (k : Int) := by omega
      go_wp2_with fail
      go_ret
      exact ⟨W, rfl, unhide H⟩
end Go.Proofs.YtpkkgmcfificiaaDoor
