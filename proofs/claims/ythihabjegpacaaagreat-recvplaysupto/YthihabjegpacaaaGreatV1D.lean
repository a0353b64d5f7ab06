/- The document's Recv: Take. -/
import Derived.Test.YthihabjegpacaaaGreatV1G
import Derived.Deep.DeepCutAuto
namespace Go.Proofs.YthihabjegpacaaaGreat
open Go.RowKit
set_option linter.unusedVariables false
set_option maxRecDepth 100000
set_option maxHeartbeats 4000000

theorem putT_nil (T : Int → Option Int) (off : Int) : putT T off [] = T := by
  funext x
  cases hx : T x with
  | some y => rw [putT_some hx]
  | none => rw [putT_none hx, if_neg (by intro q; simp at q; omega)]
theorem putT_snoc (T : Int → Option Int) (off : Int) (p : List Int) (k : Nat) (y : Int) (hk : p[k]? = some y) : putT (putT T off (p.take k)) (off + k) [y] = putT T off (p.take (k + 1)) := by
  have hlt := (List.getElem?_eq_some_iff.1 hk).1
  have l1 : (p.take k).length = k := by simp; omega
  have l2 : (p.take (k + 1)).length = k + 1 := by simp; omega
  funext x
  cases hx : T x with
  | some z => rw [putT_some hx, putT_some (putT_some hx)]
  | none =>
    have e1 := putT_none (off := off) (p := p.take k) hx
    have e2 := putT_none (off := off) (p := p.take (k + 1)) hx
    rw [l1] at e1
    rw [l2] at e2
    by_cases c : off ≤ x ∧ x < off + (k : Int)
    · rw [if_pos c, List.getElem?_take, if_pos (by omega)] at e1
      rw [if_pos (by omega), List.getElem?_take, if_pos (by omega)] at e2
      have hs : p[(x - off).toNat]? = some (p[(x - off).toNat]'(by omega)) := List.getElem?_eq_getElem _
      rw [hs] at e1 e2
      rw [putT_some e1, e2]
    · rw [if_neg c] at e1
      rw [putT_none e1]
      by_cases c2 : x = off + (k : Int)
      · subst c2
        rw [if_pos (by simp; omega)]
        rw [if_pos (by omega), List.getElem?_take, if_pos (by omega), show (off + (k : Int) - off).toNat = k by omega] at e2
        rw [e2, hk]
        simp
      · rw [if_neg (by simp; omega)]
        rw [if_neg (by omega)] at e2
        rw [e2]

section
variable {W : World} {r : Nat} {a : Option Addr} {c : Nat} {S : Rv} {H : List Hd}
theorem DR.sameK (h : DR W r a c S H) (K : List Sp) : DR W r a c { S with K := K } H := ⟨h.blk, h.rd, ⟨h.ish.srt, h.ish.is, h.ish.all⟩⟩
theorem DR.grownS {W' : World} {q : Nat} (h : DR W r a c S H) (g : W.grownBy W' (some q)) (hq : ∃ cs t, Blk W q cs t ∧ t ≠ 79) (hn : r ≠ q) : DR W' r a c S H := by
  obtain ⟨cs, t, b, ht⟩ := hq
  refine ⟨h.blk.far g hn, h.rd.kept fun k cur hk => g.block k (Array.getElem?_eq_some_iff.1 hk).1 fun e => ?_, h.ish⟩
  cases e
  have := (show W.heap[q]? = _ from b)
  rw [hk] at this
  simp at this
  exact ht this.2.symm

def RtP (W : World) (r : Nat) (S' : Rv) (n : Nat) (a : Option Addr) (H : List Hd) (W' : World) : Prop := ∃ a' c' H', DR W' r a' c' S' H' ∧ W.grownBy W' (some r) ∧ H'.length ≤ H.length + n ∧ NwH W a H a' H'

theorem rtake_no (h : DR W r a c S H) (hok : RvOk S) (off : Int) (pa : Option Addr) (n pc : Nat) (fin : Bool) (p : List Int) (hn : p.length = n) (hnn : n ≤ 1048576) (hE : takeE S off n fin ≠ 0) :
    Calls Tryz.prog 16 #[ptr r, .int .i64 off, .slice pa n pc, .bool fin] W fun e W' => e = .returned (.tuple #[.int .i64 (takeN S off n fin), .int .i64 (takeE S off n fin)]) ∧ RtP W r (takeS S off p fin) n a H W' := by
  have F : Hid (RtP W r (takeS S off p fin) n a H W) := by
    refine ⟨a, c, H, ?_, World.grownBy.refl _ _, by omega, nwh_refl _ _ _⟩
    unfold takeS
    rw [hn, if_neg hE]
    exact h
  have eN : Hid (takeN S off n fin = 0) := by show _ = _; unfold takeN; rw [if_neg hE]
  obtain ⟨th, c0, c1, c2, c3, c4, c5, c6⟩ := h.cells
  have hf := hok.fin; have hhl := hok.hl; have hlm := hok.lm; have hr0 := hok.r0; have hrh := hok.rh
  have i1 : IntKind.i64.wrap (4611686018427387903 - (n : Int)) = 4611686018427387903 - (n : Int) := by rw [IntKind.wrap_i64]; omega
  have lenI : ¬ (9223372036854775807 : Int) < (n : Int) := by omega
  by_cases d1 : off < 0
  · have eE : Hid (takeE S off n fin = 1) := by show _ = _; unfold takeE; rw [if_pos (Or.inl d1)]
    clear h hE
    go_enter Tryz.func16, Tryz.ntmps16
    go_wp2_with fail
    go_ret2
    exact ⟨by rw [unhide eN, unhide eE]; rfl, unhide F⟩
  · by_cases d2 : 4611686018427387903 - (n : Int) < off
    · have eE : Hid (takeE S off n fin = 1) := by show _ = _; unfold takeE; rw [if_pos (Or.inr d2)]
      clear h hE
      go_enter Tryz.func16, Tryz.ntmps16
      go_wp2_with fail
      go_ret2
      exact ⟨by rw [unhide eN, unhide eE]; rfl, unhide F⟩
    · have i2 : IntKind.i64.wrap (off + (n : Int)) = off + (n : Int) := by rw [IntKind.wrap_i64]; omega
      have e0 : ¬ (off < 0 ∨ 4611686018427387903 - (n : Int) < off) := by omega
      by_cases d3 : S.limit < off + n
      · have eE : Hid (takeE S off n fin = 160) := by show _ = _; unfold takeE; rw [if_neg e0, if_pos d3]
        clear h hE e0
        go_enter Tryz.func16, Tryz.ntmps16
        go_wp2_with fail
        go_ret2
        exact ⟨by rw [unhide eN, unhide eE]; rfl, unhide F⟩
      · have hB : againstB S (off + n) fin = true := by
          unfold takeE at hE
          rw [if_neg e0, if_neg d3] at hE
          cases q : againstB S (off + n) fin with
          | true => rfl
          | false => rw [q] at hE; simp at hE
        have eE : Hid (takeE S off n fin = 161) := by show _ = _; unfold takeE; rw [if_neg e0, if_neg d3, if_pos hB]
        unfold againstB at hB
        simp only [Bool.or_eq_true, Bool.and_eq_true, decide_eq_true_eq] at hB
        clear h hE e0
        obtain ⟨E, hEE⟩ : ∃ E, E = off + (n : Int) := ⟨_, rfl⟩
        have i2' : IntKind.i64.wrap (off + (n : Int)) = E := by rw [hEE]; exact i2
        rw [← hEE] at hB d3
        replace hEE := hide hEE
        clear i2
        by_cases d4 : 0 ≤ S.final
        · have d4' : decide (0 ≤ S.final) = true := decide_eq_true d4
          by_cases d5 : S.final < E
          · have d5' : decide (S.final < E) = true := decide_eq_true d5
            clear hB
            go_enter Tryz.func16, Tryz.ntmps16
            go_wp2_with fail
            go_ret2
            exact ⟨by rw [unhide eN, unhide eE]; rfl, unhide F⟩
          · have d5' : decide (S.final < E) = false := decide_eq_false d5
            obtain ⟨rfl, d6⟩ := hB.resolve_left (fun q => d5 q.2)
            have d7 : (E != S.final) = true := by simp; omega
            clear hB
            go_enter Tryz.func16, Tryz.ntmps16
            go_wp2_with fail
            go_ret2
            exact ⟨by rw [unhide eN, unhide eE]; rfl, unhide F⟩
        · have d4' : decide (0 ≤ S.final) = false := decide_eq_false d4
          obtain ⟨rfl, d6⟩ := hB.resolve_left (fun q => d4 q.1)
          have d7 : decide (E < S.high) = true := decide_eq_true d6
          clear hB
          go_enter Tryz.func16, Tryz.ntmps16
          go_wp2_with fail
          go_ret2
          exact ⟨by rw [unhide eN, unhide eE]; rfl, unhide F⟩

theorem rtake_ok (h : DR W r a c S H) (hok : RvOk S) (off : Int) (pa : Option Addr) (n pc : Nat) (fin : Bool) (p : List Int) (hp : Rd W pa p) (hne : p ≠ [] → ∀ g o, pa = some ⟨g, o, none⟩ → g ≠ r) (hn : p.length = n) (hnn : n ≤ 1048576) (hH : H.length + n ≤ 100000000) (hE : takeE S off n fin = 0) :
    Calls Tryz.prog 16 #[ptr r, .int .i64 off, .slice pa n pc, .bool fin] W fun e W' => e = .returned (.tuple #[.int .i64 (takeN S off n fin), .int .i64 (takeE S off n fin)]) ∧ RtP W r (takeS S off p fin) n a H W' := by
  obtain ⟨t1, t2, t3, t4⟩ := takeE_0 hE
  obtain ⟨th, c0, c1, c2, c3, c4, c5, c6⟩ := h.cells
  have hf := hok.fin; have hhl := hok.hl; have hlm := hok.lm; have hr0 := hok.r0; have hrh := hok.rh
  have i1 : IntKind.i64.wrap (4611686018427387903 - (n : Int)) = 4611686018427387903 - (n : Int) := by rw [IntKind.wrap_i64]; omega
  have i2 : IntKind.i64.wrap (off + (n : Int)) = off + (n : Int) := by rw [IntKind.wrap_i64]; omega
  have lenI : ¬ (9223372036854775807 : Int) < (n : Int) := by omega
  have d1 : ¬ off < 0 := by omega
  have d2 : ¬ 4611686018427387903 - (n : Int) < off := by omega
  have d3 : ¬ S.limit < off + (n : Int) := by omega
  have eN : Hid (takeN S off n fin = riseN S (off + n) ∧ takeE S off n fin = 0) := ⟨by unfold takeN; rw [if_pos hE], hE⟩
  have eS : Hid (takeS S off p fin = takeG S off p fin) := by show _ = _; unfold takeS; rw [hn, if_pos hE]
  have hrise := rrise_any h (off + n) ⟨by omega, by omega⟩ ⟨by omega, by omega⟩
  have HP := hide hp
  have HNE := hide hne
  have HLOW := hide hok.low
  have OFB := hide (And.intro t1 t2)
  have HN := hide hn
  have HHN := hide hH
  obtain ⟨E, hEe⟩ : ∃ E, E = off + (n : Int) := ⟨_, rfl⟩
  have HEE := hide hEe
  have i2' : IntKind.i64.wrap (off + (n : Int)) = E := by rw [hEe]; exact i2
  rw [← hEe] at d3 hrise t2 t3 t4 eN
  clear i2
  clear h hp hne hE hEe t1 hok hn hH
  have FIN : Hid (∀ X, DR X r a c { S with high := max S.high E } H → DR (X.setCell ⟨r, 3, none⟩ (.int .i64 E)) r a c { S with high := max S.high E, final := E } H ∧ X.frozen? ⟨r, 3, none⟩ = false ∧ X.cell? ⟨r, 3, none⟩ = some (.int .i64 S.final)) := fun X hX => ⟨hX.put 3 _ rfl (hX.ish.same rfl rfl), hX.blk.thaw 3, hX.blk.cell 3 _ rfl⟩
  go_enter Tryz.func16, Tryz.ntmps16
  go_upto_region 6 with fail
  go_cut [33] (fun v wc => v = .bool false ∧ wc = W)
  case first =>
    clear hrise FIN
    by_cases d4 : 0 ≤ S.final
    · have d4' : decide (0 ≤ S.final) = true := decide_eq_true d4
      have d5 : ¬ S.final < E := by have := t3 d4; omega
      have d5' : decide (S.final < E) = false := decide_eq_false d5
      cases fin with
      | true =>
        have d7 : (E != S.final) = false := by have := t4 rfl; have := t3 d4; simp; omega
        clear t3 t4
        go_wp2_with fail
        go_meet
        case rel => exact ⟨rfl, rfl⟩
      | false =>
        clear t3 t4
        go_wp2_with fail
        go_meet
        case rel => exact ⟨rfl, rfl⟩
    · have d4' : decide (0 ≤ S.final) = false := decide_eq_false d4
      clear t3 t4
      go_wp2_with fail
      go_meet
      case rel => exact ⟨rfl, rfl⟩
  case rest =>
    obtain ⟨rfl, hwc⟩ := hcut
    replace hwc := hwc.symm
    subst hwc
    go_upto_region 8 with fail
    go_cut [58] (fun v wc => v = .bool false ∧ wc = W)
    case first =>
      clear hrise FIN
      cases fin with
      | true =>
        have d8 : ¬ E < S.high := by have := t4 rfl; omega
        have d8' : decide (E < S.high) = false := decide_eq_false d8
        clear t3 t4
        go_wp2_with fail
        go_meet
        case rel => exact ⟨rfl, rfl⟩
      | false =>
        clear t3 t4
        go_wp2_with fail
        go_meet
        case rel => exact ⟨rfl, rfl⟩
    case rest =>
      obtain ⟨rfl, hwc⟩ := hcut
      replace hwc := hwc.symm
      subst hwc
      clear t3 t4 c0 c1 c2 c3 c4 c5 c6 th
      go_wp2_with fail
      refine hrise.mono ?_
      rintro e X ⟨rfl, hX, gX⟩
      obtain ⟨q1, q2, q3⟩ := unhide FIN X hX
      have QF := hide (And.intro q1 (grown_trS gX (grown_atS r 3 (.int .i64 E))))
      have QN := hide (And.intro hX gX)
      clear hrise hX gX q1 FIN
      generalize riseN S E = RN at *
      go_upto_if 71 with fail
      go_cut [] (fun wc => ∃ Y, Y = wc ∧ Hid (DR Y r a c { S with high := max S.high E, final := if fin = true then E else S.final } H ∧ W.grownBy Y (some r)))
      case first =>
        cases fin with
        | true =>
          go_wp2_with fail
          go_meet
          case rel => exact ⟨_, rfl, QF⟩
        | false =>
          go_wp2_with fail
          go_meet
          case rel => exact ⟨_, rfl, QN⟩
      case rest =>
        obtain ⟨Y, rfl, Q⟩ := hcut
        clear QF QN q2 q3
        go_wp2_with fail
        go_loopw [12] (fun iv wr => ∃ (k : Nat) (a' : Option Addr) (c' : Nat) (H' : List Hd), k ≤ n ∧ iv = .int .i64 k ∧ Hid (DR wr r a' c' { S with high := max S.high E, final := if fin = true then E else S.final, T := if S.reset = true then S.T else putT S.T off (p.take k) } H' ∧ W.grownBy wr (some r) ∧ H'.length ≤ H.length + k ∧ NwH W a H a' H')) (fun iv _ => n - (intOf iv).toNat)
        case atStart => exact ⟨0, a, c, H, Nat.zero_le _, rfl, by
          obtain ⟨q1, q2⟩ := unhide Q
          refine ⟨?_, q2, by omega, nwh_refl _ _ _⟩
          rw [show (if S.reset = true then S.T else putT S.T off (p.take 0)) = S.T by rw [List.take_zero, putT_nil, ite_self]]
          exact q1⟩
        case round =>
          clear Q
          obtain ⟨k, a', c', H', hk, rfl, Q⟩ := hrel
          obtain ⟨-, -, -, -, -, -, -, y6⟩ := (unhide Q).1.cells
          have FF : Hid (k = n ∨ S.reset = true → RtP W r (takeS S off p fin) n a H wr) := fun hx => by
            obtain ⟨q1, q2, q3, q4⟩ := unhide Q
            refine ⟨a', c', H', ?_, q2, by omega, q4⟩
            rw [unhide eS]
            unfold takeG
            have hE2 := unhide HEE
            have hn2 := unhide HN
            have e1 : off + (p.length : Int) = E := by rw [hE2, hn2]
            rw [e1]
            have e2 : (if S.reset = true then S.T else putT S.T off p) = (if S.reset = true then S.T else putT S.T off (p.take k)) := by
              rcases hx with rfl | hx
              · rw [← hn2, List.take_length]
              · rw [if_pos hx, if_pos hx]
            rw [e2]
            exact q1.sameK _
          by_cases hlt : k < n
          · have hkI : (k : Int) < (n : Int) := by omega
            rcases (show S.reset = true ∨ S.reset = false by cases S.reset <;> simp) with hrs | hrs
            · skip
              have y6' : wr.cell? ⟨r, 6, none⟩ = some (.bool true) := by rw [← hrs]; exact y6
              have FE := hide (unhide FF (.inr hrs))
              clear y6 FF Q hlt hk hrs
              go_wp2_with fail
              go_ret2
              exact ⟨by rw [(unhide eN).1, (unhide eN).2]; rfl, unhide FE⟩
            · skip
              have y6' : wr.cell? ⟨r, 6, none⟩ = some (.bool false) := by rw [← hrs]; exact y6
              have hpk : p[k]? = some (p[k]'(by rw [unhide HN]; exact hlt)) := List.getElem?_eq_getElem _
              generalize p[k]'(by rw [unhide HN]; exact hlt) = yb at *
              have hrd := unhide HP
              have hpne : p ≠ [] := fun e => by rw [e] at hpk; simp at hpk
              obtain ⟨pb, po, rfl, hcp⟩ := hrd.2 hpne
              have hpb := unhide HNE hpne pb po rfl
              have cw : W.cell? ⟨pb, po + k, none⟩ = some (.int .u8 yb) := hrd.cell hpk
              have c7 : wr.cell? ⟨pb, po + k, none⟩ = some (.int .u8 yb) := by
                have hlt2 := World.block_lt_of_cell? _ _ cw
                rw [World.cell?_of_block ((unhide Q).2.1.block pb hlt2 (by simp; exact hpb))]
                exact cw
              have ob := unhide OFB
              have i3 : IntKind.i64.wrap (off + (k : Int)) = off + (k : Int) := by rw [IntKind.wrap_i64]; omega
              have hh := hold_any (unhide Q).1 (by have := (unhide Q).2.2.1; have := unhide HHN; omega) (off + k) yb (by omega) (fun q => by
                show ((if S.reset = true then S.T else putT S.T off (p.take k)) (off + k)).isSome = true
                rw [hrs, if_neg (by simp), putT_isSome]
                exact .inl (unhide HLOW (off + k) (by omega) q))
              have NX : Hid (∀ Z, (∃ a2 c2 H'', DR Z r a2 c2 { ({ S with high := max S.high E, final := if fin = true then E else S.final, T := if S.reset = true then S.T else putT S.T off (p.take k) } : Rv) with T := putT (if S.reset = true then S.T else putT S.T off (p.take k)) (off + k) [yb] } H'' ∧ wr.grownBy Z (some r) ∧ H''.length ≤ H'.length + 1 ∧ NwH wr a' H' a2 H'') → ∃ a2 c2 H'', DR Z r a2 c2 { S with high := max S.high E, final := if fin = true then E else S.final, T := if S.reset = true then S.T else putT S.T off (p.take (k + 1)) } H'' ∧ W.grownBy Z (some r) ∧ H''.length ≤ H.length + (k + 1) ∧ NwH W a H a2 H'') := fun Z ⟨a2, c2, H2, z1, z2, z3, z4⟩ => by
                refine ⟨a2, c2, H2, ?_, grown_trS (unhide Q).2.1 z2, by have := (unhide Q).2.2.1; omega, (unhide Q).2.2.2.trans z4 (unhide Q).2.1.size⟩
                have e3 : (if S.reset = true then S.T else putT S.T off (p.take k)) = putT S.T off (p.take k) := by rw [hrs]; rfl
                have e4 : (if S.reset = true then S.T else putT S.T off (p.take (k + 1))) = putT S.T off (p.take (k + 1)) := by rw [hrs]; rfl
                rw [e3, putT_snoc _ _ _ _ _ hpk] at z1
                rw [e4]
                exact z1
              have HLT := hide hlt
              clear y6 FF Q hlt hk hrd hcp hpk hpne cw hpb ob hrs
              go_wp2_with fail
              refine hh.mono ?_
              rintro e Z ⟨rfl, z⟩
              obtain ⟨a2, c2, H2, z⟩ := unhide NX Z z
              replace z := hide z
              clear hh NX
              go_wp2_with fail
              go_roundw
              case rel => exact ⟨k + 1, a2, c2, H2, unhide HLT, by go_num, z⟩
              case measure => have := unhide HLT; simp [intOf]; omega
          · have hkI : ¬ (k : Int) < (n : Int) := by omega
            have FE := hide (unhide FF (.inl (by omega)))
            clear FF Q hlt hk y6
            go_wp2_with fail
            go_ret2
            exact ⟨by rw [(unhide eN).1, (unhide eN).2]; rfl, unhide FE⟩
theorem rtake_any (h : DR W r a c S H) (hok : RvOk S) (off : Int) (pa : Option Addr) (n pc : Nat) (fin : Bool) (p : List Int) (hp : Rd W pa p) (hne : p ≠ [] → ∀ g o, pa = some ⟨g, o, none⟩ → g ≠ r) (hn : p.length = n) (hnn : n ≤ 1048576) (hH : H.length + n ≤ 100000000) :
    Calls Tryz.prog 16 #[ptr r, .int .i64 off, .slice pa n pc, .bool fin] W fun e W' => e = .returned (.tuple #[.int .i64 (takeN S off n fin), .int .i64 (takeE S off n fin)]) ∧ RtP W r (takeS S off p fin) n a H W' := by
  by_cases hE : takeE S off n fin = 0
  · exact rtake_ok h hok off pa n pc fin p hp hne hn hnn hH hE
  · exact rtake_no h hok off pa n pc fin p hn hnn hE
end
end Go.Proofs.YthihabjegpacaaaGreat
