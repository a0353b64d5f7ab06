/- The reader's frame. -/
import Derived.Test.YtggjeamondampaaFY4
namespace Go.Proofs.Ytggjeamondampaa
open Go.RowKit
set_option linter.unusedVariables false
set_option linter.unusedSimpArgs false
set_option maxRecDepth 100000
set_option maxHeartbeats 4000000
theorem okP_at {p : Parts} {f : Fr} {j : Nat} (hj : j < 4) (h : OkP p (4 - j) f) : (nth p j = 9 → f.runs ≠ []) ∧ ∀ L f' l1, readP (nth p j) f L = .inl (f', l1) → OkP p (4 - (j + 1)) f' := by
  rcases (by omega : j = 0 ∨ j = 1 ∨ j = 2 ∨ j = 3) with rfl | rfl | rfl | rfl <;> exact h
theorem restP_at {p : Parts} {f : Fr} {L : List Int} {j : Nat} (hj : j < 4) : restP p (4 - j) f L = bind' (readP (nth p j) f L) (restP p (4 - (j + 1))) := by
  rcases (by omega : j = 0 ∨ j = 1 ∨ j = 2 ∨ j = 3) with rfl | rfl | rfl | rfl <;> rfl
theorem grown_rowS (W : World) (b : Nat) (cs : Array Value) : W.grownBy (W.setRow b cs) (some b) := by
  refine ⟨rfl, rfl, rfl, ?_, ?_⟩
  · show W.heap.size ≤ (W.heap.modify b _).size
    rw [Array.size_modify]; exact Nat.le_refl _
  · intro i hi hn
    simp only [World.setRow, Array.getElem?_modify]
    rw [if_neg (fun e => hn (by rw [e]))]
theorem Rdg.keepN {w W : World} {g : Nat} {a : Option Addr} {l : List Int} {c k : Nat} {y : Int} (h : Rdg w g a l c k y) (gA : w.grownBy W none) : Rdg W g a l c k y :=
  h.go k h.at_ (grown_some gA g) (h.blk.grown gA)

theorem frame_any {w : World} {g : Nat} {a : Option Addr} {l : List Int} {c k : Nat} {y : Int} (hb : Blk w g (rdr (.slice a l.length c) k y) 105) (hR : RB w a l c) (hk : k ≤ l.length) (ng : ∀ x, a = some x → x.block ≠ g) :
    Calls Try.prog 58 #[.pointer (some ⟨g, 0, none⟩)] w (FramePost w g a l c k y) := by
  have gA := World.grownBy_alloc w (.cells #[.int .i64 0, .int .i64 0, .int .i64 0, .slice none 0 0, .int .i64 0, .bool false, .bool false, .int .i64 0, .bool false, .int .i64 0, .bool false, .int .i64 0, .slice none 0 0, .bool false, .int .i64 0, .int .i64 0, .int .i64 0] 26) none
  have R0 : Rdg (w.alloc (.cells #[.int .i64 0, .int .i64 0, .int .i64 0, .slice none 0 0, .int .i64 0, .bool false, .bool false, .int .i64 0, .bool false, .int .i64 0, .bool false, .int .i64 0, .slice none 0 0, .bool false, .int .i64 0, .int .i64 0, .int .i64 0] 26)) g a l c k y := ⟨hb.alloc _, hR.rd0.grow gA, hR.cap, hR.max, hk, fun x hx => ⟨ng x hx, Nat.lt_of_lt_of_le (hR.inb x hx) gA.size⟩, hR.pl⟩
  have hnu := R0.num
  have k1 : (w.alloc (.cells #[.int .i64 0, .int .i64 0, .int .i64 0, .slice none 0 0, .int .i64 0, .bool false, .bool false, .int .i64 0, .bool false, .int .i64 0, .bool false, .int .i64 0, .slice none 0 0, .bool false, .int .i64 0, .int .i64 0, .int .i64 0] 26)).cell? ⟨g, 1, none⟩ = some (.int .i64 (k : Int)) := R0.blk.cell 1 _ rfl
  have B2 := Blk.new w #[.int .i64 0, .int .i64 0, .int .i64 0, .slice none 0 0, .int .i64 0, .bool false, .bool false, .int .i64 0, .bool false, .int .i64 0, .bool false, .int .i64 0, .slice none 0 0, .bool false, .int .i64 0, .int .i64 0, .int .i64 0] 26
  have gne : w.heap.size ≠ g := by have := hb.lt; omega
  have len := hR.len
  have HA := hide (And.intro gA (And.intro B2 (And.intro hR (And.intro ng hk))))
  clear gA R0 B2 hR ng hk hb
  go_enter Try.func58, Try.ntmps58
  go_wp2_with fail
  refine hnu.mono ?_
  rintro e W1 (⟨v, l1, hn, rfl, v0, v1, hl1, R1, g1⟩ | ⟨hn, ⟨pv, rfl⟩, hb1, hg⟩)
  case inr =>
    go_wp2_with fail
    exact ⟨rfl, .inr ⟨40, by unfold decF; rw [hn], ⟨_, rfl⟩, hb1, grown_add (grown_some (unhide HA).1 g) hg (fun k e => by cases e; exact .inr rfl)⟩⟩
  have lle : l1.length ≤ l.length := by have := congrArg List.length hl1; rw [List.length_drop] at this; omega
  have hdl : ((l.drop k).length : Int) - l1.length = ((l.length - l1.length : Nat) : Int) - (k : Int) := by rw [List.length_drop]; have := (unhide HA).2.2.2.2; omega
  have eD : decF (l.drop k) = (match shapeF v with | none => .inr 41 | some (f, ps) => if ((l.length - l1.length : Nat) : Int) - (k : Int) ≠ sizeF v then .inr 41 else readPs ps f l1) := by unfold decF; rw [hn]; simp only; rw [hdl]; cases shapeF v <;> rfl
  have hkl := (unhide HA).2.2.2.2
  have HB2 := hide ((unhide HA).2.1.far g1 gne)
  have G1 : Hid (w.grownBy W1 (some g)) := grown_add (grown_some (unhide HA).1 g) g1 (fun k e => by cases e; exact .inr rfl)
  obtain ⟨K1, hK1⟩ : ∃ K1, K1 = l.length - l1.length := ⟨_, rfl⟩
  rw [← hK1] at eD R1 hl1
  have HR1 := hide R1
  have HL1 := hide hl1
  have HDc := hide eD
  have hK1l : K1 ≤ l.length := by omega
  have HK1 := hide hK1
  clear hK1
  have kw : IntKind.i64.wrap ((K1 : Int) - (k : Int)) = (K1 : Int) - (k : Int) := by rw [IntKind.wrap_i64]; omega
  have kw2 : wrap64 ((K1 : Int) - (k : Int)) = (K1 : Int) - (k : Int) := by unfold wrap64; omega
  have uw : IntKind.u64.wrap v = v := by rw [IntKind.wrap_u64]; unfold MAXN at v1; omega
  have hsz : ∀ W, Calls Try.prog 71 #[.int .u64 v] W fun e w' => e = .returned (.int .i64 (sizeF v)) ∧ w' = W := fun W => size_any v W v0 (by unfold MAXN at v1; omega)
  clear hnu R1 g1 hl1 hdl hn k1 eD lle hkl
  cases hs : shapeF v with
  | none =>
    have hsh := hide (fun W => shape_no v hs W)
    obtain ⟨Cb, hCb⟩ : ∃ Cb, Cb = Fr.zero.cs nilS nilS := ⟨_, rfl⟩
    have Cb17 : Cb.size = 17 := by rw [hCb]; rfl
    have Cb1 : Cb.all (·.oneCell') = true := by rw [hCb]; exact one17 _ nilS nilS rfl rfl
    have iCb : (Try.prog.info? 26).map (·.size) = some Cb.size := by rw [Cb17]; exact Try.size26
    have e2 : Fr.zero.val nilS nilS = .agg Cb := by rw [hCb]
    obtain ⟨Cp, hCp⟩ : ∃ Cp : Array Value, Cp = #[.int .i64 0, .int .i64 0, .int .i64 0, .int .i64 0] := ⟨_, rfl⟩
    have Cp4 : Cp.size = 4 := by rw [hCp]; rfl
    have Cp1 : Cp.all (·.oneCell') = true := by rw [hCp]; simp [Value.oneCell']
    have iCp : (Try.prog.info? 115).map (·.size) = some Cp.size := by rw [Cp4]; exact Try.size73
    have e3 : Value.agg #[.int .i64 0, .int .i64 0, .int .i64 0, .int .i64 0] = .agg Cp := by rw [hCp]
    rw [e2, e3] at hsh
    have H4 := hide Cp4
    have HC := hide Cb17
    have HCB := hide hCb


    have ZB : Hid (∀ (X : World) (o p4' : Array Value), Blk ((X.alloc (.cells o 26)).alloc (.cells p4' 115)) X.heap.size o 26 ∧ Blk (((X.alloc (.cells o 26)).alloc (.cells p4' 115)).setRow X.heap.size Cb) (X.heap.size + 1) p4' 115 ∧ Blk ((((X.alloc (.cells o 26)).alloc (.cells p4' 115)).setRow X.heap.size Cb).setRow (X.heap.size + 1) Cp) X.heap.size Cb 26 ∧ Blk ((((X.alloc (.cells o 26)).alloc (.cells p4' 115)).setRow X.heap.size Cb).setRow (X.heap.size + 1) Cp) (X.heap.size + 1) Cp 115 ∧ X.grownBy ((((X.alloc (.cells o 26)).alloc (.cells p4' 115)).setRow X.heap.size Cb).setRow (X.heap.size + 1) Cp) none) := fun X o p4' => by
      obtain ⟨q1, q2, q3⟩ := Blk.two X o p4' 26 115
      exact ⟨q1, q2.rowO _ _ (by omega), (q1.row Cb).rowO _ _ (by omega), (q2.rowO _ Cb (by omega)).row _, grown_row (grown_row q3 _ _ (by omega)) _ _ (by omega)⟩
    have HS := hide hs
    clear Cp4 Cb17 hCp hCb e2 e3 hs
    go_upto_region 4 with (first | (go_at_call 67; refine (unhide hsh _).mono ?_; rintro e W3 ⟨rfl, g3⟩) | (refine wpList_store_row rfl _ _ _ rfl W3.heap.size Cb rfl rfl 26 _ (unhide ZB W3 _ _).1 iCb (by rw [unhide HC]; rfl) Cb1 ?_) | (refine wpList_store_row rfl _ _ _ rfl (W3.heap.size + 1) Cp rfl rfl 115 _ (unhide ZB W3 _ _).2.1 iCp (by rw [unhide H4]; rfl) Cp1 ?_))
    have z := unhide ZB W3 #[.int .i64 0, .int .i64 0, .int .i64 0, .slice none 0 0, .int .i64 0, .bool false, .bool false, .int .i64 0, .bool false, .int .i64 0, .bool false, .int .i64 0, .slice none 0 0, .bool false, .int .i64 0, .int .i64 0, .int .i64 0] #[.int .i64 0, .int .i64 0, .int .i64 0, .int .i64 0]
    replace z := z.2.2
    generalize (((W3.alloc (.cells #[.int .i64 0, .int .i64 0, .int .i64 0, .slice none 0 0, .int .i64 0, .bool false, .bool false, .int .i64 0, .bool false, .int .i64 0, .bool false, .int .i64 0, .slice none 0 0, .bool false, .int .i64 0, .int .i64 0, .int .i64 0] 26)).alloc (.cells #[.int .i64 0, .int .i64 0, .int .i64 0, .int .i64 0] 115)).setRow W3.heap.size Cb).setRow (W3.heap.size + 1) Cp = W4 at z ⊢
    have R4 := (unhide HR1).keepN (g3.trans z.2.2)
    have a4 : W4.cell? ⟨g, 1, none⟩ = some (.int .i64 (K1 : Int)) := R4.blk.cell 1 _ rfl
    have HR4 := hide R4
    have HZ := hide z
    have G3 := hide g3
    clear z ZB hsh R4 g3
    rw [unhide HS] at HDc
    have hup := hide (fun q => ((unhide HR4).keepN (grown_drewN' (q := q) (World.grownBy.refl W4 none))).up 41)
    go_wp2_with fail
    go_quiet (fail)
    go_wp2_with (first | (go_at_call 81; refine (unhide hup _).mono ?_; rintro e W5 ⟨⟨pv, rfl⟩, hb2, hg2⟩))
    exact ⟨rfl, .inr ⟨41, unhide HDc, ⟨_, rfl⟩, hb2, grown_add (grown_kept (grown_kept (unhide G1) ((unhide G3).trans (unhide HZ).2.2)) (grown_drewN' (World.grownBy.refl W4 none))) hg2 (fun k e => by cases e; exact .inr rfl)⟩⟩
  | some bp =>
    obtain ⟨bare, p⟩ := bp
    have hsh := hide (fun W => shape_yes v bare p hs W)
    obtain ⟨Cb, hCb⟩ : ∃ Cb, Cb = bare.cs nilS nilS := ⟨_, rfl⟩
    have Cb17 : Cb.size = 17 := by rw [hCb]; rfl
    have Cb1 : Cb.all (·.oneCell') = true := by rw [hCb]; exact one17 _ nilS nilS rfl rfl
    have iCb : (Try.prog.info? 26).map (·.size) = some Cb.size := by rw [Cb17]; exact Try.size26
    have e2 : bare.val nilS nilS = .agg Cb := by rw [hCb]
    obtain ⟨Cp, hCp⟩ : ∃ Cp : Array Value, Cp = c4 p := ⟨_, rfl⟩
    have Cp4 : Cp.size = 4 := by rw [hCp]; rfl
    have Cp1 : Cp.all (·.oneCell') = true := by rw [hCp]; simp [Value.oneCell']
    have iCp : (Try.prog.info? 115).map (·.size) = some Cp.size := by rw [Cp4]; exact Try.size73
    have e3 : p4 p = .agg Cp := by rw [hCp]
    rw [e2, e3] at hsh
    have H4 := hide Cp4
    have HC := hide Cb17
    have HCB := hide hCb
    have hix := hide (fun k (hk : k < 4) W => ix4 p k hk W)
    rw [e3] at hix
    have ZB : Hid (∀ (X : World) (o p4' : Array Value), Blk ((X.alloc (.cells o 26)).alloc (.cells p4' 115)) X.heap.size o 26 ∧ Blk (((X.alloc (.cells o 26)).alloc (.cells p4' 115)).setRow X.heap.size Cb) (X.heap.size + 1) p4' 115 ∧ Blk ((((X.alloc (.cells o 26)).alloc (.cells p4' 115)).setRow X.heap.size Cb).setRow (X.heap.size + 1) Cp) X.heap.size Cb 26 ∧ Blk ((((X.alloc (.cells o 26)).alloc (.cells p4' 115)).setRow X.heap.size Cb).setRow (X.heap.size + 1) Cp) (X.heap.size + 1) Cp 115 ∧ X.grownBy ((((X.alloc (.cells o 26)).alloc (.cells p4' 115)).setRow X.heap.size Cb).setRow (X.heap.size + 1) Cp) none) := fun X o p4' => by
      obtain ⟨q1, q2, q3⟩ := Blk.two X o p4' 26 115
      exact ⟨q1, q2.rowO _ _ (by omega), (q1.row Cb).rowO _ _ (by omega), (q2.rowO _ Cb (by omega)).row _, grown_row (grown_row q3 _ _ (by omega)) _ _ (by omega)⟩
    have HS := hide hs
    clear Cp4 Cb17 hCp hCb e2 e3 hs
    go_upto_region 4 with (first | (go_at_call 67; refine (unhide hsh _).mono ?_; rintro e W3 ⟨rfl, g3⟩) | (refine wpList_store_row rfl _ _ _ rfl W3.heap.size Cb rfl rfl 26 _ (unhide ZB W3 _ _).1 iCb (by rw [unhide HC]; rfl) Cb1 ?_) | (refine wpList_store_row rfl _ _ _ rfl (W3.heap.size + 1) Cp rfl rfl 115 _ (unhide ZB W3 _ _).2.1 iCp (by rw [unhide H4]; rfl) Cp1 ?_))
    have z := unhide ZB W3 #[.int .i64 0, .int .i64 0, .int .i64 0, .slice none 0 0, .int .i64 0, .bool false, .bool false, .int .i64 0, .bool false, .int .i64 0, .bool false, .int .i64 0, .slice none 0 0, .bool false, .int .i64 0, .int .i64 0, .int .i64 0] #[.int .i64 0, .int .i64 0, .int .i64 0, .int .i64 0]
    replace z := z.2.2
    generalize (((W3.alloc (.cells #[.int .i64 0, .int .i64 0, .int .i64 0, .slice none 0 0, .int .i64 0, .bool false, .bool false, .int .i64 0, .bool false, .int .i64 0, .bool false, .int .i64 0, .slice none 0 0, .bool false, .int .i64 0, .int .i64 0, .int .i64 0] 26)).alloc (.cells #[.int .i64 0, .int .i64 0, .int .i64 0, .int .i64 0] 115)).setRow W3.heap.size Cb).setRow (W3.heap.size + 1) Cp = W4 at z ⊢
    have R4 := (unhide HR1).keepN (g3.trans z.2.2)
    have a4 : W4.cell? ⟨g, 1, none⟩ = some (.int .i64 (K1 : Int)) := R4.blk.cell 1 _ rfl
    have HR4 := hide R4
    have HZ := hide z
    have G3 := hide g3
    clear z ZB hsh R4 g3
    rw [unhide HS] at HDc
    by_cases hz : (K1 : Int) - (k : Int) = sizeF v
    · rw [hz] at HDc
      obtain ⟨SZ, hSZ⟩ : ∃ SZ : Int, SZ = (sizeF v : Nat) := ⟨_, rfl⟩
      have kw3 : wrap64 ((K1 : Int) - (k : Int)) = SZ := by rw [kw2, hz, hSZ]
      have kw4 : IntKind.i64.wrap ((K1 : Int) - (k : Int)) = SZ := by rw [kw, hz, hSZ]
      rw [← hSZ] at hsz
      clear hz hSZ kw kw2
      have HDe : Hid (decF (l.drop k) = readPs p bare l1) := by have := unhide HDc; simp only at this; rw [if_neg (by simp)] at this; exact this
      clear HDc
      go_wp2_with fail
      go_quiet (exact Calls.quiet_of_same (hsz _))
      try simp only [kw3, kw4, bne_self_eq_false]
      generalize hW5 : W4.drewN nq = W5
      have g5 : W4.grownBy W5 none := by rw [← hW5]; exact grown_drewN' (World.grownBy.refl W4 none)
      have P5 : Hid (PI W3 W5 g W3.heap.size a l c K1 y bare nilS nilS) := by
        obtain ⟨q1, q2, q3⟩ := bare_plain (unhide HS)
        have gW3 : w.grownBy W3 (some g) := grown_kept (unhide G1) (unhide G3)
        refine ⟨(unhide HA).2.2.1.far gW3 (unhide HA).2.2.2.1, ((unhide HR4).keepN g5).blk, (unhide HR1).at_, by have := (unhide HZ).1.grown g5; rw [unhide HCB] at this; exact this, by rw [q1]; exact ⟨by simp, .inl ⟨rfl, rfl⟩⟩, by rw [q2]; exact ⟨rfl, .inl ⟨rfl, rfl⟩⟩, ?_, (unhide HA).2.2.2.1, Nat.le_refl _, grown_some ((unhide HZ).2.2.trans g5) g, by rw [q3]; exact ⟨by decide, by decide⟩, by rw [q2]; simp⟩
        have := ((unhide HR1).keepN (unhide G3)).blk.lt
        omega
      have BP := hide ((unhide HZ).2.1.grown g5)
      have BR : Hid (Blk W3 w.heap.size #[.int .i64 0, .int .i64 0, .int .i64 0, .slice none 0 0, .int .i64 0, .bool false, .bool false, .int .i64 0, .bool false, .int .i64 0, .bool false, .int .i64 0, .slice none 0 0, .bool false, .int .i64 0, .int .i64 0, .int .i64 0] 26 ∧ w.grownBy W3 (some g)) := ⟨(unhide HB2).grown (unhide G3), grown_kept (unhide G1) (unhide G3)⟩
      clear hW5 HZ HR4 HR1 a4 kw3 kw4 uw hsz g5 iCb Cb1 HC HCB HB2 G3 G1
      go_wp2_with (refine wpList_load_row rfl _ _ rfl (W3.heap.size + 1) rfl 115 Cp (0, 0) _ (unhide BP) Try.underlying115 rfl iCp ?_)
      go_loopw [39] (fun i wr => ∃ (j kj : Nat) (fj : Fr) (dj rj : Value), j ≤ 4 ∧ i = .int .i64 j ∧ Hid (PI W3 wr g W3.heap.size a l c kj y fj dj rj ∧ OkP p (4 - j) fj ∧ decF (l.drop k) = restP p (4 - j) fj (l.drop kj))) (fun i _ => 4 - (intOf i).toNat)
      case atStart => exact ⟨0, K1, bare, nilS, nilS, by omega, rfl, unhide P5, okP_shape (unhide HS), by rw [unhide HDe, ← unhide HL1]; exact (restP_4 _ _ _).symm⟩
      case round =>
        clear P5 BP HDe HL1
        obtain ⟨j, kj, fj, dj, rj, hj, rfl, H⟩ := hrel
        by_cases hlt : j < 4
        · have jI : (j : Int) < 4 := by omega
          have jw : IntKind.i64.wrap ((j : Int) + 1) = (j : Int) + 1 := by rw [IntKind.wrap_i64]; omega
          have ik := fun W => unhide hix j hlt W
          have hpa := part_any (nth p j) (nth_le (unhide HS) j) (unhide H).1 (okP_at hlt (unhide H).2.1).1
          obtain ⟨q, hq⟩ : ∃ q, q = nth p j := ⟨_, rfl⟩
          have HQ := hide hq
          rw [← hq] at ik hpa
          clear hq
          go_wp2_with fail
          refine hpa.mono ?_
          rintro e W6 (⟨f', l2, d', r', hr, rfl, hl, P6⟩ | ⟨e', hr, ⟨pv, rfl⟩, hb6, hg6⟩)
          case inr =>
            go_wp2_with fail
            exact ⟨rfl, .inr ⟨e', by rw [(unhide H).2.2, restP_at hlt, ← unhide HQ, hr]; rfl, ⟨_, rfl⟩, hb6, grown_add (unhide BR).2 hg6 (fun k e => by cases e; exact .inr rfl)⟩⟩
          have E : Hid (PI W3 W6 g W3.heap.size a l c (l.length - l2.length) y f' d' r' ∧ OkP p (4 - (j + 1)) f' ∧ decF (l.drop k) = restP p (4 - (j + 1)) f' (l.drop (l.length - l2.length))) := ⟨P6, (okP_at hlt (unhide H).2.1).2 _ _ _ (by rw [← unhide HQ]; exact hr), by rw [(unhide H).2.2, restP_at hlt, ← unhide HQ, hr, ← hl]; rfl⟩
          have HLT := hide hlt
          clear hpa H HQ P6 hr hl ik hix hlt
          go_wp2_with fail
          exact ⟨⟨j + 1, _, _, _, _, unhide HLT, by go_num, unhide E⟩, by simp [intOf]; have := unhide HLT; omega⟩
        · obtain rfl : j = 4 := by omega
          have jI : ¬ ((4 : Nat) : Int) < 4 := by omega
          obtain ⟨C, hC⟩ : ∃ C, C = fj.cs dj rj := ⟨_, rfl⟩
          have C17 : C.size = 17 := by rw [hC]; rfl
          have od : dj.oneCell' = true := by obtain ⟨x, z, e⟩ := (unhide H).1.own.shape; rw [e]; rfl
          have or : rj.oneCell' = true := by rcases (unhide H).1.runs.2 with ⟨e, -⟩ | ⟨_, _, _, e, -⟩ <;> (rw [e]; rfl)
          have C1 : C.all (·.oneCell') = true := by rw [hC]; exact one17 fj dj rj od or
          have iC : (Try.prog.info? 26).map (·.size) = some C.size := by rw [C17]; exact Try.size26
          have bC : Hid (Blk wr W3.heap.size C 26) := by rw [hC]; exact (unhide H).1.blk
          have bR : Hid (Blk wr w.heap.size #[.int .i64 0, .int .i64 0, .int .i64 0, .slice none 0 0, .int .i64 0, .bool false, .bool false, .int .i64 0, .bool false, .int .i64 0, .bool false, .int .i64 0, .slice none 0 0, .bool false, .int .i64 0, .int .i64 0, .int .i64 0] 26) := (unhide BR).1.far (unhide H).1.gr gne
          have HC := hide (And.intro C17 hC)
          clear C17 hC od or hix
          go_wp2_with (first | (refine wpList_load_row rfl _ _ rfl W3.heap.size rfl 26 C (0, 0) _ (unhide bC) Try.underlying26 rfl iC ?_) | (refine wpList_store_row rfl _ _ _ rfl w.heap.size C rfl rfl 26 _ (unhide bR) iC (by rw [(unhide HC).1]; rfl) C1 ?_))
          refine bodyPost_ret (results_c (p := 2) (tp := 26) Try.results58 _ _ w.heap.size C _ rfl ((unhide bR).row C) Try.underlying26 rfl iC) rfl ?_
          have P := (unhide H).1.same
          have gr := grown_rowS wr w.heap.size C
          have sz : w.heap.size ≤ W3.heap.size := (unhide BR).2.size
          refine .inl ⟨fj, l.drop kj, dj, rj, (unhide H).2.2, by rw [(unhide HC).2], P.1, P.2.rb.rowO w.heap.size C gne, ?_, ?_, ?_⟩
          · exact OwnB.mono (World.ownsRow.kept P.2.own gr (.inr (P.2.own.neBlk (unhide bR) (by decide)))) sz
          · exact OwnR.mono (World.ownsRow.kept P.2.runs gr (.inr (P.2.runs.neBlk (unhide bR) (by decide)))) sz
          · exact grown_add (grown_add (unhide BR).2 P.2.gr (fun k e => by cases e; exact .inr rfl)) gr (fun k e => by cases e; exact .inl (Nat.le_refl _))
    · have HDe : Hid (decF (l.drop k) = .inr 41) := by have := unhide HDc; simp only at this; rw [if_pos hz] at this; exact this
      obtain ⟨SZ, hSZ⟩ : ∃ SZ : Int, SZ = (sizeF v : Nat) := ⟨_, rfl⟩
      obtain ⟨T, hT⟩ : ∃ T : Int, T = (K1 : Int) - (k : Int) := ⟨_, rfl⟩
      rw [← hSZ] at hz
      have kw3 : wrap64 ((K1 : Int) - (k : Int)) = T := by rw [kw2, hT]
      have kw4 : IntKind.i64.wrap ((K1 : Int) - (k : Int)) = T := by rw [kw, hT]
      rw [← hT] at hz
      clear kw kw2
      have hsz2 : ∀ W, Calls Try.prog 71 #[.int .u64 v] W fun e w' => e = .returned (.int .i64 SZ) ∧ w' = W := by rw [hSZ]; exact hsz
      have hz2 : (T == SZ) = false := by simpa using hz
      have hz3 : (T != SZ) = true := by simpa using hz
      have hz4 : decide (T = SZ) = false := decide_eq_false hz
      have hup := hide (fun q => ((unhide HR4).keepN (grown_drewN' (q := q) (World.grownBy.refl W4 none))).up 41)
      clear HDc hT hSZ hsz
      go_wp2_with fail
      go_quiet (exact Calls.quiet_of_same (hsz2 _))
      try simp only [kw3, kw4, hz3]
      go_wp2_with (first | (go_at_call 81; refine (unhide hup _).mono ?_; rintro e W5 ⟨⟨pv, rfl⟩, hb2, hg2⟩))
      exact ⟨rfl, .inr ⟨41, unhide HDe, ⟨_, rfl⟩, hb2, grown_add (grown_kept (grown_kept (unhide G1) ((unhide G3).trans (unhide HZ).2.2)) (grown_drewN' (World.grownBy.refl W4 none))) hg2 (fun k e => by cases e; exact .inr rfl)⟩⟩
end Go.Proofs.Ytggjeamondampaa
