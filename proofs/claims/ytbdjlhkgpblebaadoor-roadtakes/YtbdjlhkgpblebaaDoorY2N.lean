/- Road: Put. -/
import Derived.Test.YtbdjlhkgpblebaaDoorY2M
import Derived.Laws.BytesArg
namespace Go.Proofs.YtbdjlhkgpblebaaDoor
open Go.RowKit Go.Shelf Go.Maps
set_option linter.unusedVariables false
set_option linter.unusedSimpArgs false
set_option maxRecDepth 100000
set_option maxHeartbeats 1000000

theorem conv_rd (w : World) (a : Option Addr) (l : List Int) (n cap : Nat) (hn : l.length = n) (hr : Rd w a l) :
    (convert 29 9 (.slice a n cap)).run Tryd.prog w = .ok (.string (strOfNums l)) w := by
  subst hn
  by_cases h : l = []
  · subst h
    rw [run_convert_bytes_string w 29 9 5 _ _ cap Tryd.underlying29 Tryd.underlying5 Tryd.underlying9]
    cases a <;> simp [Conv.bytesToString, loadCells]
    all_goals rfl
  · obtain ⟨b, off, rfl, hc⟩ := hr.2 h
    exact run_convert_bytes_arg w 29 5 Tryd.underlying29 Tryd.underlying5 b off _ cap l rfl hc 9 Tryd.underlying9
theorem rdk {W W' : World} {S : Nat → Prop} {a : Option Addr} {l : List Int} (h : Rd W a l) (k : Kp S W W') (hn : ∀ b off, l ≠ [] → a = some ⟨b, off, none⟩ → ¬ S b) : Rd W' a l := ⟨h.1, fun hne => by
  obtain ⟨b, off, e, hc⟩ := h.2 hne
  refine ⟨b, off, e, fun i hi => ?_⟩
  rw [World.cell?_of_block (w := W) (w' := W') (k.block b (World.block_lt_of_cell? _ _ (hc i hi)) (hn b off hne e))]
  exact hc i hi⟩
theorem rdg {W W' : World} {a : Option Addr} {l : List Int} (h : Rd W a l) (g : W.grownBy W' none) : Rd W' a l := rdk h (Kp.grown g (fun _ => False)) (fun _ _ _ _ h => h)

section
variable {b : Nat} {w w' : World} {S : Nat → Prop} {r : Nat} {R : Rs}

theorem ri_drew (h : RI b w S r R) : RI b w.drew S r R := h.grown ⟨rfl, rfl, rfl, Nat.le_refl _, fun _ _ _ => rfl⟩

theorem passS_same (R : Rs) (t : Int) : (passS R t).B = R.B ∧ (passS R t).nx = R.nx ∧ (passS R t).sp = R.sp := ⟨rfl, rfl, rfl⟩
theorem layS_same (R : Rs) (g : Gm) : (layS R g).now = R.now ∧ (layS R g).sp = R.sp := by unfold layS; split <;> exact ⟨rfl, rfl⟩

theorem put_bad (h : RI b w S r R) (now to mark : Int) (a : Option Addr) (n cap : Nat) (hbad : ¬ (isEndT to ∧ isMarkT mark)) :
    Calls Tryd.prog 7 #[ptr r, .int .i64 now, .int .i64 to, .slice a n cap, .int .i64 mark] w (CallP b w S r (passS R now) (.tuple #[.int .i64 0, .int .i64 1])) := by
  have ps := pass_ri h now
  have ie := fun W => isEnd_any to W
  have im := fun W => isMark_any mark W
  unfold CallP
  by_cases h1 : isEndT to
  · have h2 : ¬ isMarkT mark := fun e => hbad ⟨h1, e⟩
    simp only [decide_eq_true h1] at ie
    simp only [decide_eq_false h2] at im
    clear h1 h2 hbad h
    go_enter Tryd.func7, Tryd.ntmps7
    go_wp2_with fail
    refine ps.mono ?_
    rintro e W1 ⟨rfl, q, st⟩
    have F := hide (And.intro q st)
    clear q st ps
    go_wp2_with (first
      | (go_at_call 18; refine (ie _).mono ?_; rintro e W2 ⟨rfl, hw⟩; subst hw)
      | (go_at_call 19; refine (im _).mono ?_; rintro e W2 ⟨rfl, hw⟩; subst hw))
    go_ret2
    exact ⟨rfl, S, unhide F⟩
  · simp only [decide_eq_false h1] at ie
    clear h1 hbad h im
    go_enter Tryd.func7, Tryd.ntmps7
    go_wp2_with fail
    refine ps.mono ?_
    rintro e W1 ⟨rfl, q, st⟩
    have F := hide (And.intro q st)
    clear q st ps
    go_wp2_with (first
      | (go_at_call 18; refine (ie _).mono ?_; rintro e W2 ⟨rfl, hw⟩; subst hw))
    go_ret2
    exact ⟨rfl, S, unhide F⟩
theorem put_long (h : RI b w S r R) (now to mark : Int) (a : Option Addr) (n cap : Nat) (h1 : isEndT to) (h2 : isMarkT mark) (hn : 9000 < n) :
    Calls Tryd.prog 7 #[ptr r, .int .i64 now, .int .i64 to, .slice a n cap, .int .i64 mark] w (CallP b w S r (passS R now) (.tuple #[.int .i64 0, .int .i64 2])) := by
  have ps := pass_ri h now
  have ie := fun W => isEnd_any to W
  have im := fun W => isMark_any mark W
  unfold CallP
  simp only [decide_eq_true h1] at ie
  simp only [decide_eq_true h2] at im
  have nI : (9000 : Int) < (n : Int) := by omega
  clear h1 h2 h
  go_enter Tryd.func7, Tryd.ntmps7
  go_wp2_with fail
  refine ps.mono ?_
  rintro e W1 ⟨rfl, q, st⟩
  have F := hide (And.intro q st)
  clear q st ps
  go_wp2_with (first
    | (go_at_call 18; refine (ie _).mono ?_; rintro e W2 ⟨rfl, hw⟩; subst hw)
    | (go_at_call 19; refine (im _).mono ?_; rintro e W2 ⟨rfl, hw⟩; subst hw))
  go_ret2
  exact ⟨rfl, S, unhide F⟩
theorem put_ok (h : RI b w S r R) (now to mark : Int) (a : Option Addr) (n cap : Nat) (tx : List Int) (h1 : isEndT to) (h2 : isMarkT mark) (hl : tx.length = n) (hn : n ≤ 9000) (hr : Rd w a tx) (hb : ∀ g off, tx ≠ [] → a = some ⟨g, off, none⟩ → ¬ S g) (hnx : R.nx < 4611686018427387904) :
    Calls Tryd.prog 7 #[ptr r, .int .i64 now, .int .i64 to, .slice a n cap, .int .i64 mark] w (CallP b w S r (layS (passS R now) ⟨0, to, (passS R now).now + R.sp, tx, mark⟩) (.tuple #[.int .i64 (layN R), .int .i64 (layE R)])) := by
  have ps := pass_ri h now
  have ie := fun W => isEnd_any to W
  have im := fun W => isMark_any mark W
  unfold CallP
  simp only [decide_eq_true h1] at ie
  simp only [decide_eq_true h2] at im
  have nI : ¬ (9000 : Int) < (n : Int) := by omega
  have nI2 : ¬ (9223372036854775807 : Int) < (n : Int) := by omega
  obtain ⟨R1, hR1⟩ : ∃ R1, R1 = passS R now := ⟨_, rfl⟩
  have eN : layN R = layN R1 ∧ layE R = layE R1 := by rw [hR1]; exact ⟨rfl, rfl⟩
  have hsp : R.sp = R1.sp := by rw [hR1]; rfl
  have hnx1 : R1.nx < 4611686018427387904 := by rw [hR1]; exact hnx
  rw [eN.1, eN.2, hsp]
  rw [← hR1] at ps ⊢
  clear h1 h2 hR1 eN hsp h
  have PS : Hid (∀ W1, RI b W1 S r R1 → St w W1 S S → ∃ W mb vl vf, W1.cell? ⟨r, 0, none⟩ = some (.int .i64 (R1.now : Int)) ∧ W1.cell? ⟨r, 1, none⟩ = some (.int .i64 (R1.sp : Int)) ∧ (convert 29 9 (.slice a n cap)).run Tryd.prog W1.drew = .ok (.string (strOfNums tx)) W1.drew ∧ W1.cell? ⟨r, 3, none⟩ = some (ptr W) ∧ W1.cell? ⟨r, 4, none⟩ = some (.map (some mb)) ∧ W1.cell? ⟨r, 5, none⟩ = some vl ∧ W1.cell? ⟨r, 6, none⟩ = some vf ∧ R1.now ≤ 2 ^ 50 ∧ R1.sp ≤ 2 ^ 36 ∧
      (∀ X, W1.grownBy X none → Calls Tryd.prog 20 #[ptr r, .agg (⟨0, to, R1.now + R1.sp, tx, mark⟩ : Gm).cs] X fun e W2 => ∃ rn re, e = .returned (.tuple #[.int .i64 rn, .int .i64 re]) ∧ Hid (rn = layN R1 ∧ re = layE R1) ∧ W2.cell? ⟨r, 0, none⟩ = some (.int .i64 (R1.now : Int)) ∧ W2.cell? ⟨r, 1, none⟩ = some (.int .i64 (R1.sp : Int)) ∧ (convert 29 9 (.slice a n cap)).run Tryd.prog W2 = .ok (.string (strOfNums tx)) W2 ∧ Hid (∃ S', RI b W2 S' r (layS R1 ⟨0, to, R1.now + R1.sp, tx, mark⟩) ∧ St w W2 S S'))) := by
    intro W1 q st
    obtain ⟨W, mb, vl, vf, c0, c1, c3, c4, c5, c6⟩ := ri_cells q
    have b4 := q.b4
    have rd1 := rdk hr st.kp hb
    refine ⟨W, mb, vl, vf, c0, c1, conv_rd W1.drew a tx n cap hl (rdg rd1 (grown_drew' (World.grownBy.refl _ _))), c3, c4, c5, c6, b4.2.2.2.1, b4.2.2.2.2, fun X gX => ?_⟩
    refine (lay_any (q.grown gX) ⟨0, to, R1.now + R1.sp, tx, mark⟩ ⟨hr.1, by simp only; omega, by simp only; omega⟩ hnx1).mono ?_
    rintro e W2 ⟨rfl, S', q2, st2⟩
    obtain ⟨W', mb', vl', vf', d0, d1, -⟩ := ri_cells q2
    rw [(layS_same R1 _).1] at d0
    rw [(layS_same R1 _).2] at d1
    have st1 : St W1 X S S := ⟨Kp.grown gX _, fun _ h => h, fun _ h => .inl h⟩
    have rd2 := rdk (rdg rd1 gX) st2.kp hb
    exact ⟨_, _, rfl, ⟨rfl, rfl⟩, d0, d1, conv_rd W2 a tx n cap hl rd2, S', q2, (st.tr st1).tr st2⟩
  clear hr hb hl hnx hnx1
  go_enter Tryd.func7, Tryd.ntmps7
  go_wp2_with fail
  refine ps.mono ?_
  rintro e W1 ⟨rfl, q, st⟩
  obtain ⟨W, mb, vl, vf, c0, c1, cv, c3, c4, c5, c6, n50, s36, LAY⟩ := unhide PS W1 q st
  replace LAY := hide LAY
  clear q st ps PS c3 c4 c5 c6
  have wadd : IntKind.i64.wrap ((R1.now : Int) + (R1.sp : Int)) = ((R1.now + R1.sp : Nat) : Int) := by rw [IntKind.wrap_i64]; omega
  go_upto_region 6 with (first
    | (go_at_call 18; refine (ie _).mono ?_; rintro e W2 ⟨rfl, hw⟩; subst hw)
    | (go_at_call 19; refine (im _).mono ?_; rintro e W2 ⟨rfl, hw⟩; subst hw))
  unfold Gm.cs at LAY
  simp only at LAY
  generalize strOfNums tx = stx at *
  have CC := hide (And.intro ie im)
  clear ie im n50 s36
  go_region_held3 (fun Z => Z.cell? ⟨r, 0, none⟩ = some (.int .i64 (R1.now : Int)) ∧ Z.cell? ⟨r, 1, none⟩ = some (.int .i64 (R1.sp : Int)) ∧ (convert 29 9 (.slice a n cap)).run Tryd.prog Z = .ok (.string stx) Z) (go_keep) (first
    | (go_at_call 20; refine (unhide LAY _ (by first | with_reducible exact World.grownBy.refl _ _ | with_reducible exact grown_drew' (World.grownBy.refl _ _))).mono ?_; rintro e W2 ⟨rn, re, rfl, H1, d0, d1, cv2, H2⟩))
  go_wp2_with fail
  go_ret2
  obtain ⟨q1, q2⟩ := unhide H1
  exact ⟨by rw [← q1, ← q2]; rfl, unhide H2⟩
end
end Go.Proofs.YtbdjlhkgpblebaaDoor
