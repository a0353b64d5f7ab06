/- recv: row. -/
import Derived.Test.YthihabjegpacaaaGreatT6S
import Derived.Deep.RegionHeld3
namespace Go.Proofs.YthihabjegpacaaaGreat
open Go.RowKit
set_option linter.unusedVariables false
set_option linter.unusedSimpArgs false
set_option maxHeartbeats 4000000
set_option maxRecDepth 100000

theorem till_le {S : Rv} {E : List He} (h : HeOk S E) {i j : Nat} {x y : He} (hx : E[i]? = some x) (hy : E[j]? = some y) (hij : i < j) : x.till ≤ y.off := by
  have hi := (List.getElem?_eq_some_iff.1 hx)
  have hj := (List.getElem?_eq_some_iff.1 hy)
  obtain ⟨li, rfl⟩ := hi
  obtain ⟨lj, rfl⟩ := hj
  exact List.pairwise_iff_getElem.1 h.srt i j li lj hij

/-- So many bytes stand in a row in the first k pieces. -/
structure RowK (S : Rv) (E : List He) (k : Nat) (n : Int) : Prop where
  n0 : 0 ≤ n
  got : ∀ x, S.read ≤ x → x < S.read + n → (S.T x).isSome = true
  last : ∀ i x, i < k → E[i]? = some x → x.till ≤ S.read + n
  next : ∀ x, 0 < k → E[k]? = some x → S.read + n ≤ x.off
theorem rowK_0 (S : Rv) (E : List He) : RowK S E 0 0 := ⟨Int.le_refl _, fun x h1 h2 => by omega, fun i x h => by omega, fun x h => by omega⟩
theorem RowK.step {S : Rv} {E : List He} (h : HeOk S E) {k : Nat} {n : Int} (hk : RowK S E k n) {x : He} (hx : E[k]? = some x) (ho : x.off ≤ S.read + n) : RowK S E (k + 1) (x.till - S.read) := by
  have px := h.pos x (List.mem_of_getElem? hx)
  have ht : x.till = x.off + x.p.length := rfl
  refine ⟨by omega, fun y h1 h2 => ?_, fun i y hi hy => ?_, fun y _ hy => by have := till_le h hx hy (by omega); omega⟩
  · by_cases c : y < S.read + n
    · exact hk.got y h1 c
    · have hl : (y - x.off).toNat < x.p.length := by omega
      have := h.is x (List.mem_of_getElem? hx) (y - x.off).toNat _ (List.getElem?_eq_getElem hl)
      rw [show x.off + ((y - x.off).toNat : Int) = y by omega] at this
      rw [this]; rfl
  · by_cases c : i = k
    · subst c; rw [hx] at hy; cases hy; omega
    · have := till_le h hy hx (by omega)
      omega
theorem RowK.stop {S : Rv} {E : List He} (h : HeOk S E) {k : Nat} {n : Int} (hk : RowK S E k n) (hn : E[k]? = none ∨ ∃ x, E[k]? = some x ∧ S.read + n < x.off) : S.T (S.read + n) = none := by
  cases hT : S.T (S.read + n) with
  | none => rfl
  | some y =>
    exfalso
    have hn0 := hk.n0
    obtain ⟨e, he, q1, q2⟩ := h.all (S.read + n) (by omega) (by rw [hT]; rfl)
    obtain ⟨i, hi⟩ := List.getElem?_of_mem he
    by_cases c : i < k
    · have := hk.last i e c hi; omega
    · rcases hn with hn | ⟨x, hx, hlt⟩
      · have : i < E.length := (List.getElem?_eq_some_iff.1 hi).1
        have : E.length ≤ k := List.getElem?_eq_none_iff.1 hn
        omega
      · by_cases c2 : i = k
        · subst c2; rw [hx] at hi; cases hi; omega
        · have := till_le h hx hi (by omega)
          have px := h.pos x (List.mem_of_getElem? hx)
          have ht : x.till = x.off + x.p.length := rfl
          omega
theorem RowK.most {S : Rv} {E : List He} {k : Nat} {n most : Int} (hk : RowK S E k n) (hm : most ≤ n) : RowN S most (max (min n most) 0).toNat := by
  have := hk.n0
  refine ⟨fun i hi => hk.got _ (by omega) (by omega), by omega, .inl (by omega)⟩
theorem RowK.less {S : Rv} {E : List He} {k : Nat} {n most : Int} (hk : RowK S E k n) (hm : n ≤ most) (hs : S.T (S.read + n) = none) : RowN S most (max (min n most) 0).toNat := by
  have := hk.n0
  refine ⟨fun i hi => hk.got _ (by omega) (by omega), by omega, .inr ?_⟩
  rw [show S.read + (((max (min n most) 0).toNat : Nat) : Int) = S.read + n by omega]
  exact hs

/-- The bounds of a piece. -/
theorem RvOk.till {S : Rv} {E : List He} (h : RvOk S) (hE : HeOk S E) {x : He} (hx : x ∈ E) : 0 ≤ x.off ∧ x.till ≤ 4611686018427387903 ∧ 0 < x.p.length := by
  have px := hE.pos x hx
  have hl : 0 < x.p.length := List.length_pos_iff.2 px.2.1
  refine ⟨px.1, ?_, hl⟩
  have := hE.is x hx (x.p.length - 1) _ (List.getElem?_eq_getElem (by omega))
  have hm : memB (x.off + ((x.p.length - 1 : Nat) : Int)) S.K = true := by rw [h.kT, this]; rfl
  have := memB_in h.gK hm
  have := h.hl; have := h.lm
  have ht : x.till = x.off + x.p.length := rfl
  omega

section
variable {w W : World} {M : Nat → Prop} {b bk : Nat} {vh : Value} {E : List He} {S : Rv}
/-- What row leaves. -/
def RowP (S : Rv) (most : Int) (W : World) (e : Ending) (W' : World) : Prop := ∃ n : Nat, e = .returned (.int .i64 (n : Int)) ∧ RowN S most n ∧ W.grownBy W' none
theorem maxmin (n most : Int) : (if n ≤ most then n else most) = min n most := by omega
theorem row_at (h : RA w M b bk vh E W S) (hok : RvOk S) (hE : HeOk S E) (nE : E.length ≤ 100000000) (most : Int) (hm : -9223372036854775808 ≤ most ∧ most ≤ 9223372036854775807) :
    Calls Tryz.prog 31 #[ptr b, .int .i64 most] W (RowP S most W) := by
  obtain ⟨va, c, ev, hc1, hc2, hrow⟩ := h.held
  obtain ⟨-, c1, -, -, -, c5, -, -⟩ := h.cells
  have hr0 := hok.r0; have hrh := hok.rh; have hhl := hok.hl; have hlm := hok.lm
  have FIN : Hid (∀ (X : World) (n z : Int), z = max (min n most) 0 → W.grownBy X none → RowN S most (max (min n most) 0).toNat → RowP S most W (.returned (.int .i64 z)) X) := fun X n z hz g r => ⟨_, by rw [hz, show (((max (min n most) 0).toNat : Nat) : Int) = max (min n most) 0 by omega], r, g⟩
  have H := hide h
  have HOK := hide hok
  have HE := hide hE
  have HR := hide hrow
  subst ev
  obtain ⟨len, hlen⟩ : ∃ len, len = E.length := ⟨_, rfl⟩
  rw [← hlen] at c5 hc1 nE
  have HL := hide hlen
  have CC := hide c1
  clear h hok hE hrow hlen
  go_enter Tryz.func31, Tryz.ntmps31
  go_wp2_with fail
  go_loopw [5, 13] (fun nv ix X => ∃ (k : Nat) (m : Int), k ≤ len ∧ nv = .int .i64 m ∧ ix = .int .i64 k ∧ Hid (RowK S E k m ∧ W.grownBy X none ∧ m ≤ 4611686018427387903)) (fun _ ix _ => len - (intOf ix).toNat)
  case atStart => exact ⟨0, 0, Nat.zero_le _, rfl, rfl, rowK_0 S E, grown_self _ _, by decide⟩
  case round =>
    obtain ⟨k, m, hk, rfl, rfl, I⟩ := hrel
    obtain ⟨X, hX⟩ : ∃ X, X = wr := ⟨_, rfl⟩
    subst hX
    obtain ⟨I1, I2, I3⟩ := unhide I
    have m0 := I1.n0
    by_cases hlt : k < len
    · have hkE : k < E.length := by rw [← unhide HL]; exact hlt
      obtain ⟨x, hx⟩ : ∃ x, E[k]? = some x := ⟨_, List.getElem?_eq_getElem hkE⟩
      have hxm := List.mem_of_getElem? hx
      have hne : E ≠ [] := fun q => by rw [q] at hkE; simp at hkE
      obtain ⟨g, q, eva, hcell⟩ := (unhide HR).resolve_left hne
      subst eva
      have x0 := cell_grown (hcell k x hx).1 I2
      have x1 := cell_grown (hcell k x hx).2 I2
      have r1 := cell_grown (unhide CC) I2
      have hkn : (k : Int) < (len : Int) := by omega
      have bx := (unhide HOK).till (unhide HE) hxm
      have htx : x.till = x.off + x.p.length := rfl
      obtain ⟨Xb, hXb⟩ : ∃ Xb, Xb = X.alloc (.cells #[.int .i64 x.off, .slice (some ⟨x.g, 0, none⟩) x.p.length x.p.length] 88) := ⟨_, rfl⟩
      have gb : X.grownBy Xb none := by rw [hXb]; exact grown_alloc _ _
      have bb : Blk Xb X.heap.size #[.int .i64 x.off, .slice (some ⟨x.g, 0, none⟩) x.p.length x.p.length] 88 := by rw [hXb]; exact Blk.new _ _ _
      have y0 : Xb.cell? ⟨X.heap.size, 0, none⟩ = some (.int .i64 x.off) := bb.cell 0 _ rfl
      have y1 : Xb.cell? ⟨X.heap.size, 1, none⟩ = some (.slice (some ⟨x.g, 0, none⟩) x.p.length x.p.length) := bb.cell 1 _ rfl
      have yr := cell_grown r1 gb
      have ws : IntKind.i64.wrap (S.read + m) = S.read + m := by rw [IntKind.wrap_i64]; omega
      have we : IntKind.i64.wrap (x.till - S.read) = x.till - S.read := by rw [IntKind.wrap_i64]; omega
      have k1 : IntKind.i64.wrap ((k : Int) + 1) = ((k + 1 : Nat) : Int) := by rw [IntKind.wrap_i64]; omega
      have hend := fun Z => end_any x.off (some ⟨x.g, 0, none⟩) x.p.length x.p.length Z (by omega)
      rw [← htx] at hend
      have HTX := hide htx
      clear htx
      have KP : Hid (∀ Z, Xb.grownBy Z none → W.grownBy Z none ∧ Z.cell? ⟨X.heap.size, 0, none⟩ = some (.int .i64 x.off) ∧ Z.cell? ⟨X.heap.size, 1, none⟩ = some (.slice (some ⟨x.g, 0, none⟩) x.p.length x.p.length) ∧ Z.cell? ⟨b, 1, none⟩ = some (.int .i64 S.read)) := fun Z gz => ⟨grown_trans I2 (grown_trans gb gz), cell_grown y0 gz, cell_grown y1 gz, cell_grown yr gz⟩
      have ST : Hid (most ≤ m → RowN S most (max (min m most) 0).toNat) := fun hmm => I1.most hmm
      have ST2 : Hid (S.read + m < x.off → m ≤ most → RowN S most (max (min m most) 0).toNat) := fun ho hmm => I1.less hmm (I1.stop (unhide HE) (.inr ⟨x, hx, ho⟩))
      have NX : Hid (x.off ≤ S.read + m → RowK S E (k + 1) (x.till - S.read) ∧ x.till - S.read ≤ 4611686018427387903) := fun ho => ⟨I1.step (unhide HE) hx ho, by omega⟩
      have GB := hide (grown_trans I2 gb)
      have HLT := hide hlt
      have M0 := hide m0
      clear I1 I2 I3 I hcell hxm hne hkE hx gb bb r1 bx hlt m0
      rw [hXb] at y0 y1 yr
      go_upto_region 5 with fail
      rw [← hXb]
      rw [← hXb] at y0 y1 yr
      clear x0 x1
      replace hXb := hide hXb
      generalize x.till = xt at *
      generalize x.off = xo at *
      by_cases cm : most ≤ m
      · have d1 : decide (most ≤ m) = true := decide_eq_true cm
        have R := hide (unhide ST cm)
        clear ST ST2 NX hend KP
        go_quiet (fail)
        rename_i nq
        have G2 : Hid (W.grownBy (Xb.drewN nq) none) := grown_trans (unhide GB) (grown_drewN _ _)
        by_cases cn : most ≤ 0
        · go_wp2_with fail
          all_goals go_ret
          all_goals exact unhide FIN _ m _ (by have := unhide M0; omega) (unhide G2) (unhide R)
        · go_wp2_with fail
          all_goals go_ret
          all_goals exact unhide FIN _ m _ (by have := unhide M0; omega) (unhide G2) (unhide R)
      · have d1 : decide (most ≤ m) = false := decide_eq_false cm
        by_cases co : S.read + m < xo
        · have d2 : decide (S.read + m < xo) = true := decide_eq_true co
          have R := hide (unhide ST2 co (by omega))
          clear ST ST2 NX hend KP
          go_quiet (fail)
          rename_i nq
          have G2 : Hid (W.grownBy (Xb.drewN nq) none) := grown_trans (unhide GB) (grown_drewN _ _)
          go_wp2_with fail
          all_goals go_ret
          all_goals exact unhide FIN _ m _ (by have := unhide M0; omega) (unhide G2) (unhide R)
        · have d2 : decide (S.read + m < xo) = false := decide_eq_false co
          have R := hide (unhide NX (by omega))
          clear ST ST2 NX
          go_quiet (fail)
          rename_i nq
          have z0 : (Xb.drewN nq).cell? ⟨X.heap.size, 0, none⟩ = some (.int .i64 xo) := y0
          have z1 : (Xb.drewN nq).cell? ⟨X.heap.size, 1, none⟩ = some (.slice (some ⟨x.g, 0, none⟩) x.p.length x.p.length) := y1
          have zr : (Xb.drewN nq).cell? ⟨b, 1, none⟩ = some (.int .i64 S.read) := yr
          go_upto_region 6 with fail
          go_region_held3 (fun Z => Z.cell? ⟨X.heap.size, 0, none⟩ = some (.int .i64 xo) ∧ Z.cell? ⟨X.heap.size, 1, none⟩ = some (.slice (some ⟨x.g, 0, none⟩) x.p.length x.p.length) ∧ Z.cell? ⟨b, 1, none⟩ = some (.int .i64 S.read)) (go_keep) (first | (go_at_call 52; refine (hend _).mono ?_; rintro e Z ⟨rfl, gz⟩; obtain ⟨G3, v0, v1, vr⟩ := unhide KP Z ⟨gz.os, gz.tape, gz.output, gz.size, gz.block⟩))
          go_wp2_with fail
          all_goals exact ⟨⟨k + 1, _, unhide HLT, rfl, by go_num, (unhide R).1, G3, (unhide R).2⟩, by simp [intOf]; have := unhide HLT; omega⟩
    · obtain rfl : k = len := by omega
      have hno : ¬ (k : Int) < (k : Int) := by omega
      have hs := I1.stop (unhide HE) (.inl (List.getElem?_eq_none (by rw [← unhide HL]; exact Nat.le_refl _)))
      have RR : Hid (RowN S most (max (min m most) 0).toNat) := by
        by_cases cm : most ≤ m
        · exact I1.most cm
        · exact I1.less (by omega) hs
      have G2 := hide I2
      clear I1 I2 I3 I hs
      by_cases cm : m ≤ most
      · go_wp2_with fail
        all_goals go_ret
        all_goals exact unhide FIN _ m _ (by omega) (unhide G2) (unhide RR)
      · by_cases cn : most ≤ 0
        · go_wp2_with fail
          all_goals go_ret
          all_goals exact unhide FIN _ m _ (by omega) (unhide G2) (unhide RR)
        · go_wp2_with fail
          all_goals go_ret
          all_goals exact unhide FIN _ m _ (by omega) (unhide G2) (unhide RR)
end
end Go.Proofs.YthihabjegpacaaaGreat
