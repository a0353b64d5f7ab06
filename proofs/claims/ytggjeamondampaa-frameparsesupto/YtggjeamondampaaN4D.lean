/- G5P, G5R, G5S, G5T, G5V, G5W, G5U, one text. -/
import Derived.Test.YtggjeamondampaaN4A
import Derived.Test.YtggjeamondampaaM4I
import Derived.Test.YtggjeamondampaaN4B
import Derived.Test.YtggjeamondampaaN4C
import Derived.Test.YtggjeamondampaaM4F
import Derived.Test.YtggjeamondampaaM4A
import Derived.Test.YtggjeamondampaaM4C
import Derived.Test.YtggjeamondampaaM4D
namespace Go.Proofs.Ytggjeamondampaa
open Go.RowKit
set_option linter.unusedVariables false
set_option linter.unusedSimpArgs false
set_option maxRecDepth 100000
set_option maxHeartbeats 4000000

theorem Moved.grown_s {w0 W W' : World} {v v' : Value} (h : Moved W W' v v') (g : w0.grownBy W none) (hv : ∀ k, v.ownBlock = some k → w0.heap.size ≤ k) : w0.grownBy W' none := by
  rcases h with ⟨-, h⟩ | ⟨-, h, -⟩
  · exact ⟨h.os.trans g.os, h.tape.trans g.tape, h.output.trans g.output, Nat.le_trans g.size h.size, fun i hi _ => (h.block i (Nat.lt_of_lt_of_le hi g.size) (fun e => by have := hv i e.symm; omega)).trans (g.block i hi (by simp))⟩
  · exact g.trans h
structure PR (Ws w0 W : World) (G b : Nat) (s : Value) (k : Nat) (e : Int) (f : Fr) (d r : Value) : Prop where
  p : PE Ws w0 W G b s k e f d r
  ro : ∀ g, r.ownBlock = some g → Ws.heap.size ≤ g
section
variable {Ws w0 W W' : World} {G b k k' : Nat} {s d r : Value} {e e' : Int} {f : Fr}
theorem PR.step (P : PR Ws w0 W G b s k e f d r) (g : W.grownBy W' (some G)) (h : RdD w0 W' G s k' e') : PR Ws w0 W' G b s k' e' f d r := ⟨P.p.step g h, P.ro⟩
theorem PR.set (P : PR Ws w0 W G b s k e f d r) (j : Nat) (x : Value) (f' : Fr) (hC : (f.cs d r).setIfInBounds j x = f'.cs d r) (h1 : f'.data = f.data) (h2 : f'.runs = f.runs) : PR Ws w0 (W.setCell ⟨b + 1, j, none⟩ x) G b s k e f' d r := ⟨P.p.set j x f' hC h1 h2, P.ro⟩
/-- One run more in the frame. -/
theorem PR.push {W4 : World} {v4 : Value} {x y : Int} (P : PR Ws w0 W G b s k e f d r) (o : OwnR w0.heap.size W4 v4 (f.runs ++ [(x, y)])) (mv : Moved (W.alloc (.cells #[.int .i64 x, .int .i64 y] 81)) W4 r v4) :
    (Blk W4 (b + 1) (f.cs d r) 26) ∧ PR Ws w0 (W4.setCell ⟨b + 1, 12, none⟩ v4) G b s k e { f with runs := f.runs ++ [(x, y)] } d v4 := by
  have gA := World.grownBy_alloc W (.cells #[.int .i64 x, .int .i64 y] 81) none
  have PA := P.p.onN gA
  have g4 := mv.gr
  have ne : ∀ {q : Nat} {cs : Array Value} {t : TypeId}, Blk (W.alloc (.cells #[.int .i64 x, .int .i64 y] 81)) q cs t → t ≠ 81 → Blk W4 q cs t := fun {q cs t} hb ht => (g4.block q hb.lt (fun e1 => by
    rcases row_far hb PA.p.run ht with h | h
    · rw [h] at e1; cases e1
    · exact h e1.symm)).trans hb
  have B5 := ne PA.p.fb (by decide)
  have gS := grown_cellS W4 (b + 1) 12 v4
  have gw : w0.grownBy W4 none := mv.grown_s PA.p.rd.gr (fun q hq => (World.ownsRow.lt PA.p.run q hq).1)
  have D4 : OwnB w0.heap.size W4 d f.data := World.ownsRow.kept PA.p.dat g4 (Rl.rows_apart PA.p.dat PA.p.run (by decide))
  refine ⟨B5, ⟨⟨⟨⟨(ne PA.p.rd.blk (by decide)).setO _ _ _ (by have := P.p.p.lt; omega), grown_set gw _ _ _ (by have := P.p.p.lt; omega), P.p.p.rd.low⟩, (ne PA.p.res (by decide)).setO _ _ _ (by omega), B5.setC 12 v4, World.ownsRow.kept D4 gS (row_far B5 D4 (by decide)), World.ownsRow.kept o gS (row_far B5 o (by decide)), P.p.p.lt⟩, grown_setS ?_ _ _ _ (by have := P.p.hs; omega), P.p.hs⟩, fun q hq => ?_⟩⟩
  · refine ⟨g4.os.trans PA.gs.os, g4.tape.trans PA.gs.tape, g4.output.trans PA.gs.output, Nat.le_trans PA.gs.size g4.size, fun i hi hn => (g4.block i (Nat.lt_of_lt_of_le hi PA.gs.size) (fun e1 => ?_)).trans (PA.gs.block i hi hn)⟩
    have := P.ro i e1.symm
    omega
  · rcases mv with ⟨e1, -⟩ | ⟨e1, -, -⟩
    · rw [e1] at hq; exact P.ro q hq
    · rw [e1] at hq
      injection hq with hq
      have h1 : (W.alloc (.cells #[.int .i64 x, .int .i64 y] 81)).heap.size = q := hq
      rw [← h1]; exact PA.gs.size
end
theorem rd_lt {l : List Int} {k k' : Nat} {v : Int} (hb : ∀ x ∈ l, IsB x) (hk : k ≤ l.length) (h : (v, k', (0 : Int)) = rdN l k 0) : k < k' := by
  cases hn : numF (l.drop k) with
  | none => rw [rdN_none hn] at h; cases h
  | some p =>
    obtain ⟨v1, l1⟩ := p
    obtain ⟨-, -, -, h4, -⟩ := num_end hb hk hn
    rw [rdN_some hn] at h; cases h; exact h4
def cq : Nat → (Fr × List Int) ⊕ Int → (Fr × List Int) ⊕ Int
  | 0, x => x
  | q + 1, x => bind' (cq q x) (rdC q)
theorem cou_set (f : Fr) (d r : Value) (q : Nat) (hq : q < 3) (v : Int) : (f.cs d r).setIfInBounds (14 + q) (.int .i64 v) = (if q = 0 then { f with c0 := v } else if q = 1 then { f with c1 := v } else { f with c2 := v } : Fr).cs d r := by
  rcases (by omega : q = 0 ∨ q = 1 ∨ q = 2) with rfl | rfl | rfl <;> rfl
theorem cou_get (f : Fr) (d r : Value) (q : Nat) (hq : q < 3) : ∃ v, (f.cs d r)[14 + q]? = some v := by
  rcases (by omega : q = 0 ∨ q = 1 ∨ q = 2) with rfl | rfl | rfl <;> exact ⟨_, rfl⟩

theorem acks_any (m : Bool) {w0 W : World} {G k n c ab ao : Nat} {l : List Int} (R : RdD w0 W G (.slice (some ⟨ab, ao, none⟩) n c) k 0) (hr : Rd w0 (some ⟨ab, ao, none⟩) l) (hn : l.length = n) (hc : n < c) (hc2 : c ≤ maxLen) (hk : k ≤ n) (hl : n ≤ 100000000) :
    Calls Try.prog 75 #[.pointer (some ⟨G, 0, none⟩), .bool m] W (fun en W' => PPost w0 G (.slice (some ⟨ab, ao, none⟩) n c) l (readPs (8, 7, 9, if m then 10 else 0) ({ Fr.zero with kind := 2, marks := m }) (l.drop k)) en W' ∧ W.grownBy W' (some G)) := by
  have P0 : PR W w0 ((W.alloc (.cells Z17 26)).alloc (.cells #[.int .i64 2, .int .i64 0, .int .i64 0, .slice none 0 0, .int .i64 0, .bool false, .bool false, .int .i64 0, .bool false, .int .i64 0, .bool false, .int .i64 0, .slice none 0 0, .bool m, .int .i64 0, .int .i64 0, .int .i64 0] 26)) G W.heap.size (.slice (some ⟨ab, ao, none⟩) n c) k 0 ({ Fr.zero with kind := 2, marks := m }) nilS nilS := ⟨PE.new R ({ Fr.zero with kind := 2, marks := m }) rfl rfl, fun g hg => by cases hg⟩
  go_enter Try.func75, Try.ntmps75
  go_upto_region 2 with (refine wpList_store_new (W.alloc (.cells Z17 26)) Z17 #[.int .i64 2, .int .i64 0, .int .i64 0, .slice none 0 0, .int .i64 0, .bool false, .bool false, .int .i64 0, .bool false, .int .i64 0, .bool false, .int .i64 0, .slice none 0 0, .bool m, .int .i64 0, .int .i64 0, .int .i64 0] (W.heap.size + 1) rfl _ _ _ rfl (by simp) rfl rfl Try.size26 rfl (one17 ({ Fr.zero with kind := 2, marks := m }) nilS nilS rfl rfl) ?_)
  generalize (W.alloc (.cells Z17 26)).alloc (.cells #[.int .i64 2, .int .i64 0, .int .i64 0, .slice none 0 0, .int .i64 0, .bool false, .bool false, .int .i64 0, .bool false, .int .i64 0, .bool false, .int .i64 0, .slice none 0 0, .bool m, .int .i64 0, .int .i64 0, .int .i64 0] 26) = U0 at *
  generalize W.heap.size = b at *
  have nu := P0.p.p.rd.num hr hn (by omega) hc2 hk
  go_upto_region 3 with (go_at_call 76; refine nu.mono ?_; rintro en Y1 ⟨v1, k1, e1, rfl, q1, rd1, g1⟩; have A1 := P0.step g1 rd1)
  have hv1 := rdN_val (l := l) (k := k) (e := 0) hr.1 (by omega)
  rw [← unhide q1] at hv1
  simp only at hv1
  unfold MAXN at hv1
  have hk1 : k1 ≤ n := by omega
  clear nu P0 rd1 g1
  have nu := A1.p.p.rd.num hr hn (by omega) hc2 hk1
  go_upto_region 4 with (go_at_call 76; refine nu.mono ?_; rintro en Y2 ⟨v2, k2, e2, rfl, q2, rd2, g2⟩; have A2 := A1.step g2 rd2; have xt := A2.p.p.fb.thaws; have xj := A2.p.p.fb.cell 11 _ rfl)
  have hv2 := rdN_val (l := l) (k := k1) (e := e1) hr.1 (by omega)
  rw [← unhide q2] at hv2
  simp only at hv2
  unfold MAXN at hv2
  have hk2 : k2 ≤ n := by omega
  clear nu A1 rd2 g2
  have P2 := A2.set 11 (.int .i64 v2) ({ Fr.zero with kind := 2, marks := m, delay := v2 }) rfl rfl rfl
  clear xt xj A2
  generalize Y2.setCell ⟨b + 1, 11, none⟩ (.int .i64 v2) = U2 at *
  have nu := P2.p.p.rd.num hr hn (by omega) hc2 hk2
  go_upto_region 5 with (go_at_call 76; refine nu.mono ?_; rintro en Y3 ⟨v3, k3, e3, rfl, q3, rd3, g3⟩; have A3 := P2.step g3 rd3)
  have hv3 := rdN_val (l := l) (k := k2) (e := e2) hr.1 (by omega)
  rw [← unhide q3] at hv3
  simp only at hv3
  unfold MAXN at hv3
  have hk3 : k3 ≤ n := by omega
  clear nu P2 rd3 g3
  have nu := A3.p.p.rd.num hr hn (by omega) hc2 hk3
  go_upto_region 6 with (go_at_call 76; refine nu.mono ?_; rintro en Y4 ⟨v4, k4, e4, rfl, q4, rd4, g4⟩; have A4 := A3.step g4 rd4)
  have hv4 := rdN_val (l := l) (k := k3) (e := e3) hr.1 (by omega)
  rw [← unhide q4] at hv4
  simp only at hv4
  unfold MAXN at hv4
  have hk4 : k4 ≤ n := by omega
  clear nu A3 rd4 g4
  have mu := A4.p.p.rd.must (decide (v4 ≤ v1))
  go_upto_region 7 with (go_at_call 77; refine mu.mono ?_; rintro en Y5 ⟨rfl, rm5, gm5⟩)
  have P5 := A4.step gm5 rm5
  have AK := AckI.start (f0 := { Fr.zero with kind := 2, marks := m }) hr.1 (by omega) (unhide q1) (unhide q2) (unhide q3) (unhide q4)
  have kk : mst e4 (decide (v4 ≤ v1)) = 0 → 1 ≤ k4 := fun h => by
    have h4 : e4 = 0 := by unfold mst at h; split at h; · exact absurd h (by decide)
                           · exact h
    rw [h4] at q4
    have h3 : e3 = 0 := by
      by_cases c : e3 = 0
      · exact c
      · have := unhide q4; rw [rdN_bad c] at this; injection this with _ t; injection t with _ t; exact absurd t.symm c
    rw [h3] at q4
    have := rd_lt hr.1 (by omega) (unhide q4)
    omega
  generalize mst e4 (decide (v4 ≤ v1)) = e5 at *
  have wl : IntKind.i64.wrap (v1 - v4) = v1 - v4 := by rw [IntKind.wrap_i64]; omega
  obtain ⟨a6, c6, W6, hap, o6, mv6⟩ := app_spanM (v1 - v4) v1 P5.p.p.run P5.p.p.rd.gr.size (by simp [Fr.zero])
  obtain ⟨B6, P6⟩ := P5.push o6 mv6
  have y12 := P5.p.p.fb.cell 12 nilS rfl
  have z12 := B6.cell 12 nilS rfl
  have zt := B6.thaws
  have HAP := hide hap
  clear mu A4 rm5 gm5 q1 q2 q3 q4 hap o6 mv6 B6 P5
  go_upto_region 9 with (at_builtin; refine Rl.wpList_append_runQ _ rfl _ _ 23 23 rfl _ _ rfl rfl (unhide HAP _) ?_)
  clear HAP y12 z12 zt wl
  have HP : Hid (PR W w0 (W6.setCell ⟨b + 1, 12, none⟩ (.slice a6 (([] : List (Int × Int)).length + 1) c6)) G b (.slice (some ⟨ab, ao, none⟩) n c) k4 e5 ({ Fr.zero with kind := 2, marks := m, delay := v2, runs := [(v1 - v4, v1)] }) nilS (.slice a6 (([] : List (Int × Int)).length + 1) c6)) := P6
  have HA : Hid (AckI l (bind' (bind' (bind' (.inl (({ Fr.zero with kind := 2, marks := m } : Fr), l.drop k)) (readP 8)) (readP 7)) (readP 9)) ({ Fr.zero with kind := 2, marks := m, delay := v2 }) [(v1 - v4, v1)] (v1 - v4) v3.toNat k4 e5 ∧ (e5 = 0 → v1 - v4 ≤ 4611686018427387903) ∧ (e5 = 0 → 1 ≤ k4)) := ⟨AK, fun _ => by omega, kk⟩
  clear P6 AK kk
  go_wp2_with fail
  go_loopw [9, 10] (fun lov iv wr => ∃ (lo : Int) (i j kq : Nat) (e : Int) (T : List (Int × Int)) (r : Value), lov = .int .i64 lo ∧ iv = .int .i64 ((i : Nat) : Int) ∧ i + j = v3.toNat ∧ Hid (kq ≤ n ∧ T.length ≤ n + 2 ∧ (e = 0 → T.length ≤ kq) ∧ (e = 0 → lo ≤ 4611686018427387903)) ∧ Hid (PR W w0 wr G b (.slice (some ⟨ab, ao, none⟩) n c) kq e ({ Fr.zero with kind := 2, marks := m, delay := v2, runs := T }) nilS r) ∧ Hid (AckI l (bind' (bind' (bind' (.inl (({ Fr.zero with kind := 2, marks := m } : Fr), l.drop k)) (readP 8)) (readP 7)) (readP 9)) ({ Fr.zero with kind := 2, marks := m, delay := v2 }) T lo j kq e)) (fun _ iv _ => v3.toNat - (intOf iv).toNat)
  case atStart => exact ⟨_, 0, v3.toNat, k4, e5, _, _, rfl, rfl, Nat.zero_add _, ⟨hk4, by simp, fun h => by simpa using (unhide HA).2.2 h, (unhide HA).2.1⟩, unhide HP, (unhide HA).1⟩
  case round =>
    clear HP HA
    obtain ⟨lo, i, j, k', e, T, r, rfl, rfl, hij, HB, HP, HA⟩ := hrel
    have c2 := (unhide HP).p.p.rd.blk.cell 2 (.int .i64 e) rfl
    by_cases hlt : i < v3.toNat
    · have kI : (i : Int) < v3 := by omega
      by_cases he : e = 0
      · subst he
        obtain ⟨j', rfl⟩ : ∃ j', j = j' + 1 := ⟨j - 1, by omega⟩
        obtain ⟨hB1, hB2, hB3, hB4⟩ := unhide HB
        have hlo : 0 ≤ lo := by rcases unhide HA with ⟨-, -, h, -⟩ | ⟨h, -⟩; · exact h
                                · exact absurd rfl h
        have hlo2 := hB4 rfl
        have hT := hB3 rfl
        have nu := (unhide HP).p.p.rd.num hr hn (by omega) hc2 hB1
        have r0 : ((0 : Int) == 0) = true := rfl
        go_upto_region 13 with (go_at_call 76; refine nu.mono ?_; rintro en Z1 ⟨g, kg, eg, rfl, qg, rg, gg⟩)
        have A1 := (unhide HP).step gg rg
        have hvg := rdN_val (l := l) (k := k') (e := 0) hr.1 (by omega)
        rw [← unhide qg] at hvg
        simp only at hvg
        unfold MAXN at hvg
        have w1 : IntKind.i64.wrap (lo - 2) = lo - 2 := by rw [IntKind.wrap_i64]; omega
        have mu := A1.p.p.rd.must (decide (g ≤ lo - 2))
        clear nu rg gg c2 HP
        go_upto_region 14 with (go_at_call 77; refine mu.mono ?_; rintro en Z2 ⟨rfl, r2, g2⟩)
        have A2 := A1.step g2 r2
        have w2 : IntKind.i64.wrap (lo - g) = lo - g := by rw [IntKind.wrap_i64]; omega
        have w3 : IntKind.i64.wrap (lo - g - 2) = lo - g - 2 := by rw [IntKind.wrap_i64]; omega
        have nu := A2.p.p.rd.num hr hn (by omega) hc2 (by omega)
        clear mu A1 r2 g2
        go_upto_region 16 with (go_at_call 76; refine nu.mono ?_; rintro en Z3 ⟨le, kl, el, rfl, ql, rl, gl⟩)
        have A3 := A2.step gl rl
        have hvl := rdN_val (l := l) (k := kg) (e := mst eg (decide (g ≤ lo - 2))) hr.1 (by omega)
        rw [← unhide ql] at hvl
        simp only at hvl
        unfold MAXN at hvl
        have mu := A3.p.p.rd.must (decide (le ≤ lo - g - 2))
        clear nu A2 rl gl
        go_upto_region 17 with (go_at_call 77; refine mu.mono ?_; rintro en Z4 ⟨rfl, r4, g4⟩)
        have A4 := A3.step g4 r4
        have w4 : IntKind.i64.wrap (lo - g - 2 - le) = lo - g - 2 - le := by rw [IntKind.wrap_i64]; omega
        have AK := (unhide HA).step hr.1 (unhide qg) (unhide ql)
        have kk : mst el (decide (le ≤ lo - g - 2)) = 0 → k' < kl ∧ lo - g - 2 - le ≤ 4611686018427387903 := fun h => by
          refine ⟨?_, by omega⟩
          have h1 : el = 0 := by unfold mst at h; split at h; · exact absurd h (by decide)
                                 · exact h
          have h2 : mst eg (decide (g ≤ lo - 2)) = 0 := by
            by_cases c : mst eg (decide (g ≤ lo - 2)) = 0
            · exact c
            · have := unhide ql; rw [rdN_bad c] at this; injection this with _ t; injection t with _ t; exact absurd (t.symm.trans h1) c
          have h3 : eg = 0 := by unfold mst at h2; split at h2; · exact absurd h2 (by decide)
                                 · exact h2
          have qg' := unhide qg
          rw [h3] at qg'
          have := rd_lt hr.1 (by omega) qg'
          omega
        generalize mst el (decide (le ≤ lo - g - 2)) = e6 at *
        obtain ⟨a6, c6, W6, hap, o6, mv6⟩ := app_spanM (lo - g - 2 - le) (lo - g - 2) A4.p.p.run A4.p.p.rd.gr.size (by simp only; omega)
        obtain ⟨B6, P6⟩ := A4.push o6 mv6
        obtain ⟨ra, rc, hra, -, -⟩ := row_shape A4.p.p.run
        simp only at hra
        have y12 := A4.p.p.fb.cell 12 r rfl
        have z12 := B6.cell 12 r rfl
        have zt := B6.thaws
        rw [hra] at y12 z12 hap
        have HAP := hide hap
        simp only at HAP
        have HP := hide P6
        have HA2 := hide AK
        clear mu A3 r4 g4 qg ql hap o6 mv6 B6 A4 P6 HA AK
        go_wp2_with (at_builtin; refine Rl.wpList_append_runQ _ rfl _ _ 23 23 rfl _ _ rfl rfl (unhide HAP _) ?_)
        refine ⟨⟨lo - g - 2 - le, i + 1, j', kl, e6, _, _, rfl, by go_num, by omega, ⟨by omega, by simp; omega, fun h => by have := (kk h).1; simp; omega, fun h => (kk h).2⟩, unhide HP, unhide HA2⟩, by simp [intOf]; omega⟩
      · have e0 : (e == 0) = false := by simp [he]
        have SF := (unhide HA).fin (.inr he)
        have HS := hide SF
        clear SF HA
        go_wp2_with fail
        go_loopw [12] (fun iv w => ∃ (q kc : Nat) (ec : Int) (f' : Fr), iv = .int .i64 ((q : Nat) : Int) ∧ q ≤ 3 ∧ (m = false → q = 0) ∧ Hid (kc ≤ n) ∧ Hid (PE W w0 w G b (.slice (some ⟨ab, ao, none⟩) n c) kc ec f' nilS r) ∧ Hid (St l (cq q (bind' (bind' (bind' (.inl (({ Fr.zero with kind := 2, marks := m } : Fr), l.drop k)) (readP 8)) (readP 7)) (readP 9))) f' kc ec)) (fun iv _ => 3 - (intOf iv).toNat)
        case atStart => exact ⟨0, k', e, _, rfl, by omega, fun _ => rfl, (unhide HB).1, (unhide HP).p, unhide HS⟩
        case round =>
          clear HP HS HB
          obtain ⟨q, kc, ec, f', rfl, hq, hm0, HK, HP, HS⟩ := hrel
          have END : m = false ∨ q = 3 → St l (readPs (8, 7, 9, if m then 10 else 0) ({ Fr.zero with kind := 2, marks := m }) (l.drop k)) f' kc ec := fun h => by
            rw [readPs_eq]
            cases m with
            | false =>
              obtain rfl := hm0 rfl
              have h0 : ∀ x, bind' x (readP (if (false = true) then 10 else 0)) = x := fun x => bind_zero x
              rw [h0]
              exact unhide HS
            | true =>
              obtain rfl : q = 3 := by rcases h with h | h; · cases h
                                       · exact h
              simp only [if_true]; rw [read10]; exact unhide HS
          by_cases hgo : m = true ∧ q < 3
          · obtain ⟨rfl, hq3⟩ := hgo
            have qI : (q : Int) < 3 := by omega
            have qJ : (0 : Int) ≤ (q : Int) := by omega
            have nu := (unhide HP).p.rd.num hr hn (by omega) hc2 (unhide HK)
            obtain ⟨cv, hcv⟩ := cou_get f' nilS r q hq3
            clear END
            go_wp2_with (go_at_call 76; refine nu.mono ?_; rintro en ZZ ⟨v, kv, ev, rfl, qv, rv, gv⟩; have AA := (unhide HP).step gv rv; have xt := AA.p.fb.thaws; have xj := AA.p.fb.cell (14 + q) _ hcv)
            have hvv := rdN_val (l := l) (k := kc) (e := ec) hr.1 (by rw [hn]; exact unhide HK)
            rw [← unhide qv] at hvv
            simp only at hvv
            have P' := AA.set (14 + q) (.int .i64 v) _ (cou_set f' nilS r q hq3 v) (by (repeat' split) <;> rfl) (by (repeat' split) <;> rfl)
            have S' := (unhide HS).cou (j := q) hr.1 (unhide qv) rfl
            exact ⟨⟨q + 1, kv, ev, _, by go_num, by omega, (fun h => by cases h), (by show kv ≤ n; omega), P', S'⟩, by simp [intOf]; omega⟩
          · have hend : m = false ∨ q = 3 := by
              rcases Bool.eq_false_or_eq_true m with h | h
              · right
                have : ¬ q < 3 := fun h2 => hgo ⟨h, h2⟩
                omega
              · exact .inl h
            have S4 := END hend
            have PF := unhide HP
            clear END HP HS HK
            cases m with
            | false =>
              obtain rfl := hm0 rfl
              obtain ⟨D9, D17, D1, fb9, res9, bl9, FIN⟩ := PF.fin S4
              have iD : (Try.prog.info? 26).map (·.size) = some D9.size := by rw [D17]; exact Try.size26
              have HFIN := FIN
              clear FIN PF S4
              go_wp2_with (first | (refine wpList_load_row rfl _ _ rfl (b + 1) rfl 26 D9 (0, 0) _ fb9 Try.underlying26 rfl iD ?_) | (refine wpList_store_row rfl _ _ _ rfl b D9 rfl rfl 26 _ res9 iD (by rw [D17]; rfl) D1 ?_))
              refine bodyPost_ret (results_cell_row Try.results75 _ _ b 26 D9 (0, 0) _ rfl bl9 Try.underlying26 rfl iD) rfl ?_
              exact unhide HFIN
            | true =>
              obtain rfl : q = 3 := by have : ¬ q < 3 := fun h => hgo ⟨rfl, h⟩; omega
              obtain ⟨D9, D17, D1, fb9, res9, bl9, FIN⟩ := PF.fin S4
              have iD : (Try.prog.info? 26).map (·.size) = some D9.size := by rw [D17]; exact Try.size26
              have HFIN := FIN
              clear FIN PF S4
              go_wp2_with (first | (refine wpList_load_row rfl _ _ rfl (b + 1) rfl 26 D9 (0, 0) _ fb9 Try.underlying26 rfl iD ?_) | (refine wpList_store_row rfl _ _ _ rfl b D9 rfl rfl 26 _ res9 iD (by rw [D17]; rfl) D1 ?_))
              refine bodyPost_ret (results_cell_row Try.results75 _ _ b 26 D9 (0, 0) _ rfl bl9 Try.underlying26 rfl iD) rfl ?_
              exact unhide HFIN
    · have kI : ¬ (i : Int) < v3 := by omega
      have SF := (unhide HA).fin (.inl (by omega))
      have HS := hide SF
      clear SF HA
      go_wp2_with fail
      go_loopw [12] (fun iv w => ∃ (q kc : Nat) (ec : Int) (f' : Fr), iv = .int .i64 ((q : Nat) : Int) ∧ q ≤ 3 ∧ (m = false → q = 0) ∧ Hid (kc ≤ n) ∧ Hid (PE W w0 w G b (.slice (some ⟨ab, ao, none⟩) n c) kc ec f' nilS r) ∧ Hid (St l (cq q (bind' (bind' (bind' (.inl (({ Fr.zero with kind := 2, marks := m } : Fr), l.drop k)) (readP 8)) (readP 7)) (readP 9))) f' kc ec)) (fun iv _ => 3 - (intOf iv).toNat)
      case atStart => exact ⟨0, k', e, _, rfl, by omega, fun _ => rfl, (unhide HB).1, (unhide HP).p, unhide HS⟩
      case round =>
        clear HP HS HB
        obtain ⟨q, kc, ec, f', rfl, hq, hm0, HK, HP, HS⟩ := hrel
        have END : m = false ∨ q = 3 → St l (readPs (8, 7, 9, if m then 10 else 0) ({ Fr.zero with kind := 2, marks := m }) (l.drop k)) f' kc ec := fun h => by
          rw [readPs_eq]
          cases m with
          | false =>
            obtain rfl := hm0 rfl
            have h0 : ∀ x, bind' x (readP (if (false = true) then 10 else 0)) = x := fun x => bind_zero x
            rw [h0]
            exact unhide HS
          | true =>
            obtain rfl : q = 3 := by rcases h with h | h; · cases h
                                     · exact h
            simp only [if_true]; rw [read10]; exact unhide HS
        by_cases hgo : m = true ∧ q < 3
        · obtain ⟨rfl, hq3⟩ := hgo
          have qI : (q : Int) < 3 := by omega
          have qJ : (0 : Int) ≤ (q : Int) := by omega
          have nu := (unhide HP).p.rd.num hr hn (by omega) hc2 (unhide HK)
          obtain ⟨cv, hcv⟩ := cou_get f' nilS r q hq3
          clear END
          go_wp2_with (go_at_call 76; refine nu.mono ?_; rintro en ZZ ⟨v, kv, ev, rfl, qv, rv, gv⟩; have AA := (unhide HP).step gv rv; have xt := AA.p.fb.thaws; have xj := AA.p.fb.cell (14 + q) _ hcv)
          have hvv := rdN_val (l := l) (k := kc) (e := ec) hr.1 (by rw [hn]; exact unhide HK)
          rw [← unhide qv] at hvv
          simp only at hvv
          have P' := AA.set (14 + q) (.int .i64 v) _ (cou_set f' nilS r q hq3 v) (by (repeat' split) <;> rfl) (by (repeat' split) <;> rfl)
          have S' := (unhide HS).cou (j := q) hr.1 (unhide qv) rfl
          exact ⟨⟨q + 1, kv, ev, _, by go_num, by omega, (fun h => by cases h), (by show kv ≤ n; omega), P', S'⟩, by simp [intOf]; omega⟩
        · have hend : m = false ∨ q = 3 := by
            rcases Bool.eq_false_or_eq_true m with h | h
            · right
              have : ¬ q < 3 := fun h2 => hgo ⟨h, h2⟩
              omega
            · exact .inl h
          have S4 := END hend
          have PF := unhide HP
          clear END HP HS HK
          cases m with
          | false =>
            obtain rfl := hm0 rfl
            obtain ⟨D9, D17, D1, fb9, res9, bl9, FIN⟩ := PF.fin S4
            have iD : (Try.prog.info? 26).map (·.size) = some D9.size := by rw [D17]; exact Try.size26
            have HFIN := FIN
            clear FIN PF S4
            go_wp2_with (first | (refine wpList_load_row rfl _ _ rfl (b + 1) rfl 26 D9 (0, 0) _ fb9 Try.underlying26 rfl iD ?_) | (refine wpList_store_row rfl _ _ _ rfl b D9 rfl rfl 26 _ res9 iD (by rw [D17]; rfl) D1 ?_))
            refine bodyPost_ret (results_cell_row Try.results75 _ _ b 26 D9 (0, 0) _ rfl bl9 Try.underlying26 rfl iD) rfl ?_
            exact unhide HFIN
          | true =>
            obtain rfl : q = 3 := by have : ¬ q < 3 := fun h => hgo ⟨rfl, h⟩; omega
            obtain ⟨D9, D17, D1, fb9, res9, bl9, FIN⟩ := PF.fin S4
            have iD : (Try.prog.info? 26).map (·.size) = some D9.size := by rw [D17]; exact Try.size26
            have HFIN := FIN
            clear FIN PF S4
            go_wp2_with (first | (refine wpList_load_row rfl _ _ rfl (b + 1) rfl 26 D9 (0, 0) _ fb9 Try.underlying26 rfl iD ?_) | (refine wpList_store_row rfl _ _ _ rfl b D9 rfl rfl 26 _ res9 iD (by rw [D17]; rfl) D1 ?_))
            refine bodyPost_ret (results_cell_row Try.results75 _ _ b 26 D9 (0, 0) _ rfl bl9 Try.underlying26 rfl iD) rfl ?_
            exact unhide HFIN
end Go.Proofs.Ytggjeamondampaa

namespace Go.Proofs.Ytggjeamondampaa
open Go.RowKit
set_option linter.unusedVariables false
set_option linter.unusedSimpArgs false
set_option maxRecDepth 100000
set_option maxHeartbeats 2000000

theorem parts_2 {w0 W : World} {G k n c ab ao : Nat} {l : List Int} (R : RdD w0 W G (.slice (some ⟨ab, ao, none⟩) n c) k 0) (hr : Rd w0 (some ⟨ab, ao, none⟩) l) (hn : l.length = n) (hc : n < c) (hc2 : c ≤ maxLen) (hk : k ≤ n) (hl : n ≤ 100000000) :
    Calls Try.prog 56 #[.pointer (some ⟨G, 0, none⟩), .int .i64 (2)] W (PPost w0 G (.slice (some ⟨ab, ao, none⟩) n c) l (readPs (8, 7, 9, if false then 10 else 0) ({ Fr.zero with kind := 2, marks := false }) (l.drop k))) := by
  have P0 : PD w0 ((W.alloc (.cells Z17 26)).alloc (.cells #[.int .i64 (2), .int .i64 0, .int .i64 0, .slice none 0 0, .int .i64 0, .bool false, .bool false, .int .i64 0, .bool false, .int .i64 0, .bool false, .int .i64 0, .slice none 0 0, .bool false, .int .i64 0, .int .i64 0, .int .i64 0] 26)) G W.heap.size (.slice (some ⟨ab, ao, none⟩) n c) k 0 ({ Fr.zero with kind := 2 }) nilS nilS := PD.new R ({ Fr.zero with kind := 2 }) rfl rfl
  go_enter Try.func56, Try.ntmps56
  go_upto_region 2 with (refine wpList_store_new (W.alloc (.cells Z17 26)) Z17 #[.int .i64 (2), .int .i64 0, .int .i64 0, .slice none 0 0, .int .i64 0, .bool false, .bool false, .int .i64 0, .bool false, .int .i64 0, .bool false, .int .i64 0, .slice none 0 0, .bool false, .int .i64 0, .int .i64 0, .int .i64 0] (W.heap.size + 1) rfl _ _ _ rfl (by simp) rfl rfl Try.size26 rfl (one17 ({ Fr.zero with kind := 2 }) nilS nilS rfl rfl) ?_)
  generalize (W.alloc (.cells Z17 26)).alloc (.cells #[.int .i64 (2), .int .i64 0, .int .i64 0, .slice none 0 0, .int .i64 0, .bool false, .bool false, .int .i64 0, .bool false, .int .i64 0, .bool false, .int .i64 0, .slice none 0 0, .bool false, .int .i64 0, .int .i64 0, .int .i64 0] 26) = U0 at *
  generalize W.heap.size = b at *
  have sc := acks_any false P0.rd hr hn hc hc2 hk hl
  go_upto_region 55 with (first | (go_at_call 75; refine sc.mono ?_; rintro en Y ⟨⟨C2, rfl, C17, C1, HC⟩, gY⟩; have iC2 : (Try.prog.info? 26).map (·.size) = some C2.size := (by rw [C17]; exact Try.size26); have fbY := P0.fb.far gY (by have := P0.lt; omega)) | (refine wpList_store_row rfl _ _ _ rfl (b + 1) C2 rfl rfl 26 _ fbY iC2 (by rw [C17]; rfl) C1 ?_))
  obtain ⟨f2, d2, r2, k2, e2, eC, o1, o2, rd2, S2⟩ := unhide HC
  have P2 := (P0.step gY rd2).put rd2 o1 o2
  rw [← eC] at P2
  have S3 : St l (readPs (8, 7, 9, if false then 10 else 0) ({ Fr.zero with kind := 2, marks := false }) (l.drop k)) f2 k2 e2 := S2
  clear sc P0 fbY iC2 C17 C1 HC gY o1 o2 rd2 S2 eC
  generalize Y.setRow (b + 1) C2 = U2 at *
  obtain ⟨D9, D17, D1, fb9, res9, bl9, FIN⟩ := P2.fin S3
  have iD : (Try.prog.info? 26).map (·.size) = some D9.size := by rw [D17]; exact Try.size26
  have HFIN := FIN
  clear FIN P2 S3
  go_wp2_with (first | (refine wpList_load_row rfl _ _ rfl (b + 1) rfl 26 D9 (0, 0) _ fb9 Try.underlying26 rfl iD ?_) | (refine wpList_store_row rfl _ _ _ rfl b D9 rfl rfl 26 _ res9 iD (by rw [D17]; rfl) D1 ?_))
  refine bodyPost_ret (results_cell_row Try.results56 _ _ b 26 D9 (0, 0) _ rfl bl9 Try.underlying26 rfl iD) rfl ?_
  exact unhide HFIN

theorem parts_3 {w0 W : World} {G k n c ab ao : Nat} {l : List Int} (R : RdD w0 W G (.slice (some ⟨ab, ao, none⟩) n c) k 0) (hr : Rd w0 (some ⟨ab, ao, none⟩) l) (hn : l.length = n) (hc : n < c) (hc2 : c ≤ maxLen) (hk : k ≤ n) (hl : n ≤ 100000000) :
    Calls Try.prog 56 #[.pointer (some ⟨G, 0, none⟩), .int .i64 (3)] W (PPost w0 G (.slice (some ⟨ab, ao, none⟩) n c) l (readPs (8, 7, 9, if true then 10 else 0) ({ Fr.zero with kind := 2, marks := true }) (l.drop k))) := by
  have P0 : PD w0 ((W.alloc (.cells Z17 26)).alloc (.cells #[.int .i64 (3), .int .i64 0, .int .i64 0, .slice none 0 0, .int .i64 0, .bool false, .bool false, .int .i64 0, .bool false, .int .i64 0, .bool false, .int .i64 0, .slice none 0 0, .bool false, .int .i64 0, .int .i64 0, .int .i64 0] 26)) G W.heap.size (.slice (some ⟨ab, ao, none⟩) n c) k 0 ({ Fr.zero with kind := 3 }) nilS nilS := PD.new R ({ Fr.zero with kind := 3 }) rfl rfl
  go_enter Try.func56, Try.ntmps56
  go_upto_region 2 with (refine wpList_store_new (W.alloc (.cells Z17 26)) Z17 #[.int .i64 (3), .int .i64 0, .int .i64 0, .slice none 0 0, .int .i64 0, .bool false, .bool false, .int .i64 0, .bool false, .int .i64 0, .bool false, .int .i64 0, .slice none 0 0, .bool false, .int .i64 0, .int .i64 0, .int .i64 0] (W.heap.size + 1) rfl _ _ _ rfl (by simp) rfl rfl Try.size26 rfl (one17 ({ Fr.zero with kind := 3 }) nilS nilS rfl rfl) ?_)
  generalize (W.alloc (.cells Z17 26)).alloc (.cells #[.int .i64 (3), .int .i64 0, .int .i64 0, .slice none 0 0, .int .i64 0, .bool false, .bool false, .int .i64 0, .bool false, .int .i64 0, .bool false, .int .i64 0, .slice none 0 0, .bool false, .int .i64 0, .int .i64 0, .int .i64 0] 26) = U0 at *
  generalize W.heap.size = b at *
  have sc := acks_any true P0.rd hr hn hc hc2 hk hl
  go_upto_region 55 with (first | (go_at_call 75; refine sc.mono ?_; rintro en Y ⟨⟨C2, rfl, C17, C1, HC⟩, gY⟩; have iC2 : (Try.prog.info? 26).map (·.size) = some C2.size := (by rw [C17]; exact Try.size26); have fbY := P0.fb.far gY (by have := P0.lt; omega)) | (refine wpList_store_row rfl _ _ _ rfl (b + 1) C2 rfl rfl 26 _ fbY iC2 (by rw [C17]; rfl) C1 ?_))
  obtain ⟨f2, d2, r2, k2, e2, eC, o1, o2, rd2, S2⟩ := unhide HC
  have P2 := (P0.step gY rd2).put rd2 o1 o2
  rw [← eC] at P2
  have S3 : St l (readPs (8, 7, 9, if true then 10 else 0) ({ Fr.zero with kind := 2, marks := true }) (l.drop k)) f2 k2 e2 := S2
  clear sc P0 fbY iC2 C17 C1 HC gY o1 o2 rd2 S2 eC
  generalize Y.setRow (b + 1) C2 = U2 at *
  obtain ⟨D9, D17, D1, fb9, res9, bl9, FIN⟩ := P2.fin S3
  have iD : (Try.prog.info? 26).map (·.size) = some D9.size := by rw [D17]; exact Try.size26
  have HFIN := FIN
  clear FIN P2 S3
  go_wp2_with (first | (refine wpList_load_row rfl _ _ rfl (b + 1) rfl 26 D9 (0, 0) _ fb9 Try.underlying26 rfl iD ?_) | (refine wpList_store_row rfl _ _ _ rfl b D9 rfl rfl 26 _ res9 iD (by rw [D17]; rfl) D1 ?_))
  refine bodyPost_ret (results_cell_row Try.results56 _ _ b 26 D9 (0, 0) _ rfl bl9 Try.underlying26 rfl iD) rfl ?_
  exact unhide HFIN

theorem pad_st {l : List Int} {k z : Nat} (h : zrs 65534 (l.drop k) = z) (hz : k + z ≤ l.length) : St l (readPs (14, 0, 0, 0) ({ Fr.zero with kind := 0 }) (l.drop k)) ({ Fr.zero with kind := 0, size := (z : Int) + 1 }) (k + z) 0 := by
  rw [readPs_eq]
  simp only [bind_zero]
  refine .inl ⟨rfl, hz, ?_⟩
  show readP 14 _ (l.drop k) = _
  have r : ∀ (f : Fr) (L : List Int), readP 14 f L = .inl ({ f with size := (zrs 65534 L : Int) + 1 }, L.drop (zrs 65534 L)) := fun _ _ => rfl
  rw [r, h, List.drop_drop]
theorem parts_0 {w0 W : World} {G k n c ab ao : Nat} {l : List Int} (R : RdD w0 W G (.slice (some ⟨ab, ao, none⟩) n c) k 0) (hr : Rd w0 (some ⟨ab, ao, none⟩) l) (hn : l.length = n) (hc : n < c) (hc2 : c ≤ maxLen) (hk : k ≤ n) (hl : n ≤ 100000000) :
    Calls Try.prog 56 #[.pointer (some ⟨G, 0, none⟩), .int .i64 (0)] W (PPost w0 G (.slice (some ⟨ab, ao, none⟩) n c) l (readPs (14, 0, 0, 0) ({ Fr.zero with kind := 0 }) (l.drop k))) := by
  have P0 : PD w0 ((W.alloc (.cells Z17 26)).alloc (.cells #[.int .i64 (0), .int .i64 0, .int .i64 0, .slice none 0 0, .int .i64 0, .bool false, .bool false, .int .i64 0, .bool false, .int .i64 0, .bool false, .int .i64 0, .slice none 0 0, .bool false, .int .i64 0, .int .i64 0, .int .i64 0] 26)) G W.heap.size (.slice (some ⟨ab, ao, none⟩) n c) k 0 ({ Fr.zero with kind := 0 }) nilS nilS := PD.new R ({ Fr.zero with kind := 0 }) rfl rfl
  go_enter Try.func56, Try.ntmps56
  go_upto_region 2 with (refine wpList_store_new (W.alloc (.cells Z17 26)) Z17 #[.int .i64 (0), .int .i64 0, .int .i64 0, .slice none 0 0, .int .i64 0, .bool false, .bool false, .int .i64 0, .bool false, .int .i64 0, .bool false, .int .i64 0, .slice none 0 0, .bool false, .int .i64 0, .int .i64 0, .int .i64 0] (W.heap.size + 1) rfl _ _ _ rfl (by simp) rfl rfl Try.size26 rfl (one17 ({ Fr.zero with kind := 0 }) nilS nilS rfl rfl) ?_)
  generalize (W.alloc (.cells Z17 26)).alloc (.cells #[.int .i64 (0), .int .i64 0, .int .i64 0, .slice none 0 0, .int .i64 0, .bool false, .bool false, .int .i64 0, .bool false, .int .i64 0, .bool false, .int .i64 0, .slice none 0 0, .bool false, .int .i64 0, .int .i64 0, .int .i64 0] 26) = U0 at *
  generalize W.heap.size = b at *
  have xt := P0.fb.thaws
  have xj := P0.fb.cell 4 _ rfl
  go_upto_region 8 with fail
  have P1 := P0.set 4 (.int .i64 1) ({ Fr.zero with kind := 0, size := 1 }) rfl rfl rfl
  clear P0 xt xj
  generalize U0.setCell ⟨b + 1, 4, none⟩ (.int .i64 1) = U1 at *
  have HP0 := hide P1
  clear P1
  go_loopw [] (fun w => ∃ z : Nat, Hid (z ≤ 65534 ∧ k + z ≤ n ∧ z + zrs (65534 - z) (l.drop (k + z)) = zrs 65534 (l.drop k)) ∧ Hid (PD w0 w G b (.slice (some ⟨ab, ao, none⟩) n c) (k + z) 0 ({ Fr.zero with kind := 0, size := (z : Int) + 1 }) nilS nilS)) (fun w => n - (match w.cell? ⟨G, 1, none⟩ with | some (.int _ x) => x.toNat | _ => 0))
  case atStart => exact ⟨0, ⟨by omega, by omega, by simp⟩, unhide HP0⟩
  case round =>
    clear HP0
    obtain ⟨z, HZ, HP⟩ := hrel
    obtain ⟨z1, z2, z3⟩ := unhide HZ
    have g0 := (unhide HP).rd.blk.cell 0 (.slice (some ⟨ab, ao, none⟩) n c) rfl
    have g1 := (unhide HP).rd.blk.cell 1 (.int .i64 ((k + z : Nat) : Int)) rfl
    have f4 := (unhide HP).fb.cell 4 (.int .i64 ((z : Int) + 1)) rfl
    have gt := (unhide HP).rd.blk.thaws
    have ft := (unhide HP).fb.thaws
    have w1 : IntKind.i64.wrap ((z : Int) + 1 + 1) = (z : Int) + 1 + 1 := by rw [IntKind.wrap_i64]; omega
    have w2 : IntKind.i64.wrap (((k + z : Nat) : Int) + 1) = ((k + z : Nat) : Int) + 1 := by rw [IntKind.wrap_i64]; omega
    generalize hK : k + z = K at *
    by_cases c1 : K < n
    · have i1 : (K : Int) < (n : Int) := by omega
      have i0 : (0 : Int) ≤ (K : Int) := by omega
      obtain ⟨b', o', eb, hcs⟩ := hr.2 (by intro e; rw [e] at hn; simp at hn; omega)
      cases eb
      have cb := cell_grown (hcs K (by omega)) (unhide HP).rd.gr
      have hd : l.drop K = l.getD K 0 :: l.drop (K + 1) := by
        rw [List.drop_eq_getElem_cons (by omega)]; simp [List.getD, show K < l.length by omega]
      generalize l.getD K 0 = x at *
      by_cases c2 : x = 0
      · subst c2
        by_cases c3 : (z : Int) + 1 < 65535
        · have FIN : Hid (∀ q, ∃ z' : Nat, Hid (z' ≤ 65534 ∧ k + z' ≤ n ∧ z' + zrs (65534 - z') (l.drop (k + z')) = zrs 65534 (l.drop k)) ∧ Hid (PD w0 (((wr.drewN q).setCell ⟨b + 1, 4, none⟩ (.int .i64 ((z : Int) + 1 + 1))).setCell ⟨G, 1, none⟩ (.int .i64 ((K : Int) + 1))) G b (.slice (some ⟨ab, ao, none⟩) n c) (k + z') 0 ({ Fr.zero with kind := 0, size := (z' : Int) + 1 }) nilS nilS)) := fun q => by
            refine ⟨z + 1, ⟨by omega, by omega, ?_⟩, ?_⟩
            · rw [← z3, hd, show 65534 - z = (65534 - (z + 1)) + 1 by omega, show k + (z + 1) = K + 1 by omega]
              simp [zrs]; omega
            · have A := ((unhide HP).onN (grown_drewN (q := q) (World.grownBy.refl wr none))).set 4 (.int .i64 ((z : Int) + 1 + 1)) ({ Fr.zero with kind := 0, size := (z : Int) + 1 + 1 }) rfl rfl rfl
              have B := A.step (W' := (((wr.drewN q).setCell ⟨b + 1, 4, none⟩ (.int .i64 ((z : Int) + 1 + 1))).setCell ⟨G, 1, none⟩ (.int .i64 ((K : Int) + 1)))) (grown_at (World.grownBy.refl _ _) 1 _) (k' := K + 1) (e' := 0) ⟨A.rd.blk.setC 1 _, grown_set A.rd.gr _ _ _ A.rd.low, A.rd.low⟩
              rw [show k + (z + 1) = K + 1 by omega, show ((z + 1 : Nat) : Int) + 1 = (z : Int) + 1 + 1 by omega]
              exact B
          have MS : Hid (∀ q, ((((wr.drewN q).setCell ⟨b + 1, 4, none⟩ (.int .i64 ((z : Int) + 1 + 1))).setCell ⟨G, 1, none⟩ (.int .i64 ((K : Int) + 1))).cell? ⟨G, 1, none⟩ = some (.int .i64 ((K : Int) + 1)))) := fun q => by
            have A := ((unhide HP).onN (grown_drewN (q := q) (World.grownBy.refl wr none))).set 4 (.int .i64 ((z : Int) + 1 + 1)) ({ Fr.zero with kind := 0, size := (z : Int) + 1 + 1 }) rfl rfl rfl
            exact (A.rd.blk.setC 1 (.int .i64 ((K : Int) + 1))).cell 1 _ rfl
          have nGb : G ≠ b + 1 := by have := (unhide HP).lt; omega
          clear HP HZ z3 hd hcs hr
          go_wp2_with fail
          go_quiet (fail)
          all_goals go_wp2_with fail
          go_roundw
          case rel => exact unhide FIN _
          case measure => rw [g1, unhide MS _]; simp only [Int.toNat_natCast]; omega
        · have HZ0 : zrs 65534 (l.drop k) = z := by
            rw [← z3, show 65534 - z = 0 by omega]; rfl
          have S4 := pad_st (l := l) (k := k) (z := z) HZ0 (by omega)
          rw [hK] at S4
          clear HZ HZ0 z3 w1
          generalize (z : Int) + 1 = Z at *
          try (have d3 : decide (Z < 65535) = false := decide_eq_false c3)
          go_wp2_with fail
          go_quiet (fail)
          have PF := (unhide HP).onN (grown_drewN (q := nq) (World.grownBy.refl wr none))
          clear g0 g1 f4 gt ft HP
          generalize wr.drewN nq = UU at *
          try clear cb
          try clear z1
          try clear z2
          try clear w2
          obtain ⟨D9, D17, D1, fb9, res9, bl9, FIN⟩ := PF.fin S4
          have iD : (Try.prog.info? 26).map (·.size) = some D9.size := by rw [D17]; exact Try.size26
          have HFIN := FIN
          clear FIN PF S4
          generalize readPs (14, 0, 0, 0) ({ Fr.zero with kind := 0 }) (l.drop k) = xx at *
          go_wp2_with (first | (refine wpList_load_row rfl _ _ rfl (b + 1) rfl 26 D9 (0, 0) _ fb9 Try.underlying26 rfl iD ?_) | (refine wpList_store_row rfl _ _ _ rfl b D9 rfl rfl 26 _ res9 iD (by rw [D17]; rfl) D1 ?_))
          refine bodyPost_ret (results_cell_row Try.results56 _ _ b 26 D9 (0, 0) _ rfl bl9 Try.underlying26 rfl iD) rfl ?_
          exact unhide HFIN
      · have x0 : (x == 0) = false := by simp [c2]
        have HZ0 : zrs 65534 (l.drop k) = z := by
          rw [← z3, hd]
          cases hh : 65534 - z with
          | zero => simp [zrs]
          | succ q => simp [zrs, c2]
        have S4 := pad_st (l := l) (k := k) (z := z) HZ0 (by omega)
        rw [hK] at S4
        clear HZ HZ0 z3 w1
        generalize (z : Int) + 1 = Z at *
        try (have d3 : decide (Z < 65535) = false := decide_eq_false c3)
        go_wp2_with fail
        go_quiet (fail)
        have PF := (unhide HP).onN (grown_drewN (q := nq) (World.grownBy.refl wr none))
        clear g0 g1 f4 gt ft HP
        generalize wr.drewN nq = UU at *
        try clear cb
        try clear z1
        try clear z2
        try clear w2
        obtain ⟨D9, D17, D1, fb9, res9, bl9, FIN⟩ := PF.fin S4
        have iD : (Try.prog.info? 26).map (·.size) = some D9.size := by rw [D17]; exact Try.size26
        have HFIN := FIN
        clear FIN PF S4
        generalize readPs (14, 0, 0, 0) ({ Fr.zero with kind := 0 }) (l.drop k) = xx at *
        go_wp2_with (first | (refine wpList_load_row rfl _ _ rfl (b + 1) rfl 26 D9 (0, 0) _ fb9 Try.underlying26 rfl iD ?_) | (refine wpList_store_row rfl _ _ _ rfl b D9 rfl rfl 26 _ res9 iD (by rw [D17]; rfl) D1 ?_))
        refine bodyPost_ret (results_cell_row Try.results56 _ _ b 26 D9 (0, 0) _ rfl bl9 Try.underlying26 rfl iD) rfl ?_
        exact unhide HFIN
    · have i1 : ¬ (K : Int) < (n : Int) := by omega
      have HZ0 : zrs 65534 (l.drop k) = z := by
        rw [← z3, List.drop_eq_nil_of_le (by omega)]
        cases 65534 - z with
        | zero => simp [zrs]
        | succ q => simp [zrs]
      have S4 := pad_st (l := l) (k := k) (z := z) HZ0 (by omega)
      rw [hK] at S4
      clear HZ HZ0 z3 w1
      generalize (z : Int) + 1 = Z at *
      try (have d3 : decide (Z < 65535) = false := decide_eq_false c3)
      go_wp2_with fail
      go_quiet (fail)
      have PF := (unhide HP).onN (grown_drewN (q := nq) (World.grownBy.refl wr none))
      clear g0 g1 f4 gt ft HP
      generalize wr.drewN nq = UU at *
      try clear cb
      try clear z1
      try clear z2
      try clear w2
      obtain ⟨D9, D17, D1, fb9, res9, bl9, FIN⟩ := PF.fin S4
      have iD : (Try.prog.info? 26).map (·.size) = some D9.size := by rw [D17]; exact Try.size26
      have HFIN := FIN
      clear FIN PF S4
      generalize readPs (14, 0, 0, 0) ({ Fr.zero with kind := 0 }) (l.drop k) = xx at *
      go_wp2_with (first | (refine wpList_load_row rfl _ _ rfl (b + 1) rfl 26 D9 (0, 0) _ fb9 Try.underlying26 rfl iD ?_) | (refine wpList_store_row rfl _ _ _ rfl b D9 rfl rfl 26 _ res9 iD (by rw [D17]; rfl) D1 ?_))
      refine bodyPost_ret (results_cell_row Try.results56 _ _ b 26 D9 (0, 0) _ rfl bl9 Try.underlying26 rfl iD) rfl ?_
      exact unhide HFIN
end Go.Proofs.Ytggjeamondampaa

namespace Go.Proofs.Ytggjeamondampaa
open Go.RowKit
set_option linter.unusedVariables false
set_option linter.unusedSimpArgs false
set_option maxRecDepth 100000
set_option maxHeartbeats 2000000

theorem parts_no {w0 W : World} {G k n c ab ao : Nat} {l : List Int} (R : RdD w0 W G (.slice (some ⟨ab, ao, none⟩) n c) k 0) (hr : Rd w0 (some ⟨ab, ao, none⟩) l) (hn : l.length = n) (hc : n < c) (hc2 : c ≤ maxLen) (hk : k ≤ n) (hl : n ≤ 100000000) (t : Int) (ht : shapeF t = none) (t0 : 0 ≤ t) (t64 : t ≤ 64) :
    Calls Try.prog 56 #[.pointer (some ⟨G, 0, none⟩), .int .i64 (t)] W (PPost w0 G (.slice (some ⟨ab, ao, none⟩) n c) l (.inr 41)) := by
  have n0 : (t == 0) = false := by
    rw [beq_eq_false_iff_ne]; intro h; subst h; have : shapeF 0 = some _ := rfl; rw [this] at ht; cases ht
  have n1 : (t == 1) = false := by
    rw [beq_eq_false_iff_ne]; intro h; subst h; have : shapeF 1 = some _ := rfl; rw [this] at ht; cases ht
  have n30 : (t == 30) = false := by
    rw [beq_eq_false_iff_ne]; intro h; subst h; have : shapeF 30 = some _ := rfl; rw [this] at ht; cases ht
  have n2 : (t == 2) = false := by
    rw [beq_eq_false_iff_ne]; intro h; subst h; have : shapeF 2 = some _ := rfl; rw [this] at ht; cases ht
  have n3 : (t == 3) = false := by
    rw [beq_eq_false_iff_ne]; intro h; subst h; have : shapeF 3 = some _ := rfl; rw [this] at ht; cases ht
  have n4 : (t == 4) = false := by
    rw [beq_eq_false_iff_ne]; intro h; subst h; have : shapeF 4 = some _ := rfl; rw [this] at ht; cases ht
  have n5 : (t == 5) = false := by
    rw [beq_eq_false_iff_ne]; intro h; subst h; have : shapeF 5 = some _ := rfl; rw [this] at ht; cases ht
  have n6 : (t == 6) = false := by
    rw [beq_eq_false_iff_ne]; intro h; subst h; have : shapeF 6 = some _ := rfl; rw [this] at ht; cases ht
  have n16 : (t == 16) = false := by
    rw [beq_eq_false_iff_ne]; intro h; subst h; have : shapeF 16 = some _ := rfl; rw [this] at ht; cases ht
  have n20 : (t == 20) = false := by
    rw [beq_eq_false_iff_ne]; intro h; subst h; have : shapeF 20 = some _ := rfl; rw [this] at ht; cases ht
  have n17 : (t == 17) = false := by
    rw [beq_eq_false_iff_ne]; intro h; subst h; have : shapeF 17 = some _ := rfl; rw [this] at ht; cases ht
  have n21 : (t == 21) = false := by
    rw [beq_eq_false_iff_ne]; intro h; subst h; have : shapeF 21 = some _ := rfl; rw [this] at ht; cases ht
  have n18 : (t == 18) = false := by
    rw [beq_eq_false_iff_ne]; intro h; subst h; have : shapeF 18 = some _ := rfl; rw [this] at ht; cases ht
  have n19 : (t == 19) = false := by
    rw [beq_eq_false_iff_ne]; intro h; subst h; have : shapeF 19 = some _ := rfl; rw [this] at ht; cases ht
  have n22 : (t == 22) = false := by
    rw [beq_eq_false_iff_ne]; intro h; subst h; have : shapeF 22 = some _ := rfl; rw [this] at ht; cases ht
  have n23 : (t == 23) = false := by
    rw [beq_eq_false_iff_ne]; intro h; subst h; have : shapeF 23 = some _ := rfl; rw [this] at ht; cases ht
  have n26 : (t == 26) = false := by
    rw [beq_eq_false_iff_ne]; intro h; subst h; have : shapeF 26 = some _ := rfl; rw [this] at ht; cases ht
  have n27 : (t == 27) = false := by
    rw [beq_eq_false_iff_ne]; intro h; subst h; have : shapeF 27 = some _ := rfl; rw [this] at ht; cases ht
  have n28 : (t == 28) = false := by
    rw [beq_eq_false_iff_ne]; intro h; subst h; have : shapeF 28 = some _ := rfl; rw [this] at ht; cases ht
  have n29 : (t == 29) = false := by
    rw [beq_eq_false_iff_ne]; intro h; subst h; have : shapeF 29 = some _ := rfl; rw [this] at ht; cases ht
  have h8 : t < 8 ∨ 16 ≤ t := by
    by_cases c : t < 8 ∨ 16 ≤ t
    · exact c
    · exfalso; have : 8 ≤ t ∧ t ≤ 15 := by omega
      rcases (by omega : t = 8 ∨ t = 9 ∨ t = 10 ∨ t = 11 ∨ t = 12 ∨ t = 13 ∨ t = 14 ∨ t = 15) with rfl | rfl | rfl | rfl | rfl | rfl | rfl | rfl <;> (have h9 := ht; unfold shapeF at h9; simp at h9)
  have P0 : PD w0 ((W.alloc (.cells Z17 26)).alloc (.cells #[.int .i64 (t), .int .i64 0, .int .i64 0, .slice none 0 0, .int .i64 0, .bool false, .bool false, .int .i64 0, .bool false, .int .i64 0, .bool false, .int .i64 0, .slice none 0 0, .bool false, .int .i64 0, .int .i64 0, .int .i64 0] 26)) G W.heap.size (.slice (some ⟨ab, ao, none⟩) n c) k 0 ({ Fr.zero with kind := t }) nilS nilS := PD.new R ({ Fr.zero with kind := t }) rfl rfl
  go_enter Try.func56, Try.ntmps56
  go_upto_region 2 with (refine wpList_store_new (W.alloc (.cells Z17 26)) Z17 #[.int .i64 (t), .int .i64 0, .int .i64 0, .slice none 0 0, .int .i64 0, .bool false, .bool false, .int .i64 0, .bool false, .int .i64 0, .bool false, .int .i64 0, .slice none 0 0, .bool false, .int .i64 0, .int .i64 0, .int .i64 0] (W.heap.size + 1) rfl _ _ _ rfl (by simp) rfl rfl Try.size26 rfl (one17 ({ Fr.zero with kind := t }) nilS nilS rfl rfl) ?_)
  generalize (W.alloc (.cells Z17 26)).alloc (.cells #[.int .i64 (t), .int .i64 0, .int .i64 0, .slice none 0 0, .int .i64 0, .bool false, .bool false, .int .i64 0, .bool false, .int .i64 0, .bool false, .int .i64 0, .slice none 0 0, .bool false, .int .i64 0, .int .i64 0, .int .i64 0] 26) = U0 at *
  generalize W.heap.size = b at *
  have P1 : PD w0 (U0.setCell ⟨G, 2, none⟩ (.int .i64 41)) G b (.slice (some ⟨ab, ao, none⟩) n c) k 41 ({ Fr.zero with kind := t }) nilS nilS := P0.step (grown_at (World.grownBy.refl U0 (some G)) 2 _) ⟨P0.rd.blk.setC 2 _, grown_set P0.rd.gr _ _ _ P0.rd.low, P0.rd.low⟩
  have S1 : St l (.inr 41) ({ Fr.zero with kind := t }) k 41 := .inr ⟨by decide, rfl⟩
  have c2 := P0.rd.blk.cell 2 (.int .i64 0) rfl
  have ct := P0.rd.blk.thaws
  clear P0 ht
  rcases h8 with h8 | h8
  · have d1 : ¬ (8 ≤ t) := by omega
    go_upto_region 55 with fail
    clear c2 ct
    generalize U0.setCell ⟨G, 2, none⟩ (.int .i64 41) = U1 at *
    obtain ⟨D9, D17, D1, fb9, res9, bl9, FIN⟩ := P1.fin S1
    have iD : (Try.prog.info? 26).map (·.size) = some D9.size := by rw [D17]; exact Try.size26
    have HFIN := FIN
    clear FIN P1 S1
    go_wp2_with (first | (refine wpList_load_row rfl _ _ rfl (b + 1) rfl 26 D9 (0, 0) _ fb9 Try.underlying26 rfl iD ?_) | (refine wpList_store_row rfl _ _ _ rfl b D9 rfl rfl 26 _ res9 iD (by rw [D17]; rfl) D1 ?_))
    refine bodyPost_ret (results_cell_row Try.results56 _ _ b 26 D9 (0, 0) _ rfl bl9 Try.underlying26 rfl iD) rfl ?_
    exact unhide HFIN
  · have d1 : 8 ≤ t := by omega
    have d2 : ¬ (t < 16) := by omega
    go_upto_region 55 with fail
    clear c2 ct
    generalize U0.setCell ⟨G, 2, none⟩ (.int .i64 41) = U1 at *
    obtain ⟨D9, D17, D1, fb9, res9, bl9, FIN⟩ := P1.fin S1
    have iD : (Try.prog.info? 26).map (·.size) = some D9.size := by rw [D17]; exact Try.size26
    have HFIN := FIN
    clear FIN P1 S1
    go_wp2_with (first | (refine wpList_load_row rfl _ _ rfl (b + 1) rfl 26 D9 (0, 0) _ fb9 Try.underlying26 rfl iD ?_) | (refine wpList_store_row rfl _ _ _ rfl b D9 rfl rfl 26 _ res9 iD (by rw [D17]; rfl) D1 ?_))
    refine bodyPost_ret (results_cell_row Try.results56 _ _ b 26 D9 (0, 0) _ rfl bl9 Try.underlying26 rfl iD) rfl ?_
    exact unhide HFIN
end Go.Proofs.Ytggjeamondampaa

namespace Go.Proofs.Ytggjeamondampaa
open Go.RowKit
set_option linter.unusedVariables false
set_option linter.unusedSimpArgs false
set_option maxRecDepth 100000
set_option maxHeartbeats 2000000

/-- parts of any type. -/
theorem parts_any {w0 W : World} {G k n c ab ao : Nat} {l : List Int} (R : RdD w0 W G (.slice (some ⟨ab, ao, none⟩) n c) k 0) (hr : Rd w0 (some ⟨ab, ao, none⟩) l) (hn : l.length = n) (hc : n < c) (hc2 : c ≤ maxLen) (hk : k ≤ n) (hl : n ≤ 100000000) (t : Int) (t0 : 0 ≤ t) (t64 : t ≤ 64) :
    Calls Try.prog 56 #[.pointer (some ⟨G, 0, none⟩), .int .i64 t] W (PPost w0 G (.slice (some ⟨ab, ao, none⟩) n c) l (match shapeF t with | none => .inr 41 | some (f, ps) => readPs ps f (l.drop k))) := by
  by_cases hs : shapeF t = none
  · rw [hs]; exact parts_no R hr hn hc hc2 hk hl t hs t0 t64
  · have hd : t = 0 ∨ t = 1 ∨ t = 30 ∨ t = 2 ∨ t = 3 ∨ t = 4 ∨ t = 5 ∨ t = 6 ∨ t = 8 ∨ t = 9 ∨ t = 10 ∨ t = 11 ∨ t = 12 ∨ t = 13 ∨ t = 14 ∨ t = 15 ∨ t = 16 ∨ t = 20 ∨ t = 17 ∨ t = 21 ∨ t = 18 ∨ t = 19 ∨ t = 22 ∨ t = 23 ∨ t = 26 ∨ t = 27 ∨ t = 28 ∨ t = 29 := by
      apply Decidable.byContradiction
      intro h
      apply hs
      unfold shapeF
      repeat rw [if_neg (by omega)]
    rcases hd with rfl | rfl | rfl | rfl | rfl | rfl | rfl | rfl | rfl | rfl | rfl | rfl | rfl | rfl | rfl | rfl | rfl | rfl | rfl | rfl | rfl | rfl | rfl | rfl | rfl | rfl | rfl | rfl
    · exact parts_0 R hr hn hc hc2 hk hl
    · exact parts_1 R hr hn hc hc2 hk hl
    · exact parts_30 R hr hn hc hc2 hk hl
    · exact parts_2 R hr hn hc hc2 hk hl
    · exact parts_3 R hr hn hc hc2 hk hl
    · exact parts_4 R hr hn hc hc2 hk hl
    · exact parts_5 R hr hn hc hc2 hk hl
    · exact parts_6 R hr hn hc hc2 hk hl
    · exact parts_8 R hr hn hc hc2 hk hl
    · exact parts_9 R hr hn hc hc2 hk hl
    · exact parts_10 R hr hn hc hc2 hk hl
    · exact parts_11 R hr hn hc hc2 hk hl
    · exact parts_12 R hr hn hc hc2 hk hl
    · exact parts_13 R hr hn hc hc2 hk hl
    · exact parts_14 R hr hn hc hc2 hk hl
    · exact parts_15 R hr hn hc hc2 hk hl
    · exact parts_16 R hr hn hc hc2 hk hl
    · exact parts_20 R hr hn hc hc2 hk hl
    · exact parts_17 R hr hn hc hc2 hk hl
    · exact parts_21 R hr hn hc hc2 hk hl
    · exact parts_18 R hr hn hc hc2 hk hl
    · exact parts_19 R hr hn hc hc2 hk hl
    · exact parts_22 R hr hn hc hc2 hk hl
    · exact parts_23 R hr hn hc hc2 hk hl
    · exact parts_26 R hr hn hc hc2 hk hl
    · exact parts_27 R hr hn hc hc2 hk hl
    · exact parts_28 R hr hn hc hc2 hk hl
    · exact parts_29 R hr hn hc hc2 hk hl

/-- What the document's Decode answers: as Decode does. -/
def DecR (w : World) (l : List Int) (k : Int) (e : Ending) (w' : World) : Prop :=
  (∃ (C : Array Value) (m : Nat), e = .returned (.tuple #[.agg C, .int .i64 (m : Int), .int .i64 0]) ∧ C.size = 17 ∧ C.all (·.oneCell') = true ∧ w.grownBy w' none ∧ Hid (0 ≤ k ∧ k ≤ l.length ∧ ∃ f' l1 d' r', decF (l.drop k.toNat) = .inl (f', l1) ∧ m = l.length - l1.length ∧ C = f'.cs d' r' ∧ OwnB w.heap.size w' d' f'.data ∧ OwnR w.heap.size w' r' f'.runs)) ∨
  (∃ e' : Int, ((0 ≤ k ∧ k ≤ l.length ∧ decF (l.drop k.toNat) = .inr e') ∨ ((k < 0 ∨ (l.length : Int) < k) ∧ e' = 1)) ∧ e = .returned (.tuple #[.agg Z17, .int .i64 0, .int .i64 e']) ∧ w.grownBy w' none)
end Go.Proofs.Ytggjeamondampaa

namespace Go.Proofs.Ytggjeamondampaa.Tu
open Go.RowKit Go.Proofs.Ytggjeamondampaa
set_option linter.unusedVariables false
set_option maxRecDepth 100000


theorem getD_set_eq (l : List Int) (i : Nat) (x : Int) (h : i < l.length) : (l.set i x).getD i 0 = x := by simp [List.getD, h]
theorem getD_set_ne (l : List Int) (i j : Nat) (x : Int) (h : i ≠ j) : (l.set i x).getD j 0 = l.getD j 0 := by simp [List.getD, h]
theorem set_byte (l : List Int) (i : Nat) (x : Int) (hl : ∀ y ∈ l, IsB y) (hx : IsB x) : ∀ y ∈ l.set i x, IsB y := by
  intro y hy
  rcases List.mem_or_eq_of_mem_set hy with h | h
  · exact hl y h
  · rw [h]; exact hx
theorem xor1_byte (x : Int) (h : IsB x) : IsB (bits .xor .u8 x 1) := by
  obtain ⟨h0, h1⟩ := h
  obtain ⟨m, rfl⟩ := Int.eq_ofNat_of_zero_le h0
  rw [show (1 : Int) = ((1 : Nat) : Int) from rfl, u8_xor_nat m 1 (by omega) (by omega)]
  have : m ^^^ 1 < 2 ^ 8 := Nat.xor_lt_two_pow (by omega) (by omega)
  exact ⟨by omega, by omega⟩
theorem list_ext_getD (l m : List Int) (hl : l.length = m.length) (h : ∀ j, l.getD j 0 = m.getD j 0) : l = m := by
  apply List.ext_getElem hl
  intro i h1 h2
  have := h i
  simpa [List.getD, h1, h2] using this

/-- Turn's invariant. -/
def TI (n i : Nat) (F W : List Int) : Prop := (∀ x ∈ F, IsB x) ∧ ∀ j, j < i ∨ n ≤ j → W.getD j 0 = F.getD j 0
theorem TI.turn {n i : Nat} {F W : List Int} (h : TI n i F W) (hi : i < n) (hF : n ≤ F.length) (hW : n ≤ W.length) (x : Int) (hx : IsB x) : TI n (i + 1) (F.set i x) (W.set i x) := by
  refine ⟨set_byte F i x h.1 hx, fun j hj => ?_⟩
  by_cases e : i = j
  · subst e; rw [getD_set_eq _ _ _ (by omega), getD_set_eq _ _ _ (by omega)]
  · rw [getD_set_ne _ _ _ _ e, getD_set_ne _ _ _ _ e]; exact h.2 j (by omega)
theorem TI.leave {n i : Nat} {F W : List Int} (h : TI n i F W) (hi : i < n) (hW : n ≤ W.length) : TI n (i + 1) F (W.set i (F.getD i 0)) := by
  refine ⟨h.1, fun j hj => ?_⟩
  by_cases e : i = j
  · subst e; rw [getD_set_eq _ _ _ (by omega)]
  · rw [getD_set_ne _ _ _ _ e]; exact h.2 j (by omega)

theorem _root_.Go.Proofs.Ytggjeamondampaa.Lent.drew {w0 wr : World} {B g n gf cf gw cw : Nat} {F W : List Int} (h : Lent w0 B wr g n gf cf gw cw F W) : Lent w0 B wr.drew g n gf cf gw cw F W := ⟨h.blk, h.full, h.was, h.sep, h.bel.drew, h.low⟩

def Only (w W : World) (a b : Nat) : Prop := W.heap.size = w.heap.size ∧ ∀ i, i ≠ a → i ≠ b → W.heap[i]? = w.heap[i]?
theorem Only.refl (w : World) (a b : Nat) : Only w w a b := ⟨rfl, fun _ _ _ => rfl⟩
theorem Only.setA {w W : World} {a b : Nat} (h : Only w W a b) (j : Nat) (v : Value) : Only w (W.setCell ⟨a, j, none⟩ v) a b := by
  refine ⟨?_, fun i h1 h2 => ?_⟩
  · have : (W.setCell ⟨a, j, none⟩ v).heap.size = W.heap.size := by simp [World.setCell]
    rw [this]; exact h.1
  · rw [heap_setCell_other _ _ _ _ (by show i ≠ a; exact h1)]; exact h.2 i h1 h2
theorem Only.setB {w W : World} {a b : Nat} (h : Only w W a b) (j : Nat) (v : Value) : Only w (W.setCell ⟨b, j, none⟩ v) a b := by
  refine ⟨?_, fun i h1 h2 => ?_⟩
  · have : (W.setCell ⟨b, j, none⟩ v).heap.size = W.heap.size := by simp [World.setCell]
    rw [this]; exact h.1
  · rw [heap_setCell_other _ _ _ _ (by show i ≠ b; exact h2)]; exact h.2 i h1 h2
theorem Only.drew {w W : World} {a b : Nat} (h : Only w W a b) : Only w W.drew a b := h

set_option maxHeartbeats 3200000 in
theorem turn_only (w0 w1 : World) (B g n gf cf gw cw : Nat) (k : Int) (F : List Int) (h : Lent w0 B w1 g n gf cf gw cw F F) (hF : ∀ x ∈ F, IsB x) (hk : 0 < k) (hk2 : k < 9223372036854775807) :
    Calls Try.prog 26 #[.pointer (some ⟨g, 0, none⟩), .int .i64 k] w1 fun e w' => e = .returned (.tuple #[]) ∧ ∃ F', Lent w0 B w' g n gf cf gw cw F' F' ∧ (∀ x ∈ F', IsB x) ∧ Only w1 w' gf gw := by
  obtain ⟨hne, hg1, hg2, h1, h2, h3, h4⟩ := h.ne
  unfold maxLen at h2 h4
  have H := hide h
  have HF := hide hF
  clear h hF
  go_enter Try.func26, Try.ntmps26
  go_wp2
  go_loopw [4] (fun i wr => ∃ (j : Nat) (F W : List Int), j ≤ n ∧ i = .int .i64 j ∧ Lent w0 B wr g n gf cf gw cw F W ∧ TI n j F W ∧ Only w1 wr gf gw) (fun i _ => n - (intOf i).toNat)
  case atStart => exact ⟨0, F, F, Nat.zero_le _, rfl, unhide H, ⟨unhide HF, fun _ _ => rfl⟩, Only.refl _ _ _⟩
  case round =>
    obtain ⟨j, F, W, hj, rfl, lent, ti, only⟩ := hrel
    obtain ⟨c0, c1, c2, f0, f1⟩ := lent.cells
    by_cases hlt : j < n
    · have hfl := lent.flen
      have hwl := lent.wlen
      obtain ⟨k1, k3⟩ := lent.fcell j (by omega)
      obtain ⟨k2, k4⟩ := lent.wcell j (by omega)
      have hb := ti.1 (F.getD j 0) (by simp [List.getD, show j < F.length by omega])
      by_cases ht : (j : Int) % k = k - 1
      · have hte : ((j : Int) % k == k - 1) = true := by rw [beq_iff_eq]; exact ht
        have lf := lent.setF j (bits .xor .u8 (F.getD j 0) 1)
        obtain ⟨d0, d1, d2, d3, d4⟩ := lf.cells
        obtain ⟨e1, e3⟩ := lf.fcell j (by omega)
        rw [getD_set_eq _ _ _ (by omega)] at e1
        obtain ⟨e2, e4⟩ := lf.wcell j (by omega)
        have O := hide ((only.setA j (.int .u8 (bits .xor .u8 (F.getD j 0) 1))).setB j (.int .u8 (bits .xor .u8 (F.getD j 0) 1)))
        have L := hide (lf.setW j (bits .xor .u8 (F.getD j 0) 1))
        have T := hide (ti.turn hlt (by omega) (by omega) (bits .xor .u8 (F.getD j 0) 1) (xor1_byte _ hb))
        generalize F.getD j 0 = x at k1 e1 e2 e3 e4 d0 d1 d2 d3 d4 L T O
        generalize W.getD j 0 = y at k2 e2
        generalize F.set j (bits .xor .u8 x 1) = F1 at L T
        clear lent ti hfl hwl ht hb lf only
        go_wp2
        go_region
        go_wp2
        go_region
        go_wp2
        go_roundw
        case rel => exact ⟨j + 1, _, _, by omega, by go_num, (unhide L).drew.drew, unhide T, (unhide O).drew.drew⟩
        case measure => simp [intOf]; omega
      · have hte : ((j : Int) % k == k - 1) = false := by rw [beq_eq_false_iff_ne]; exact ht
        have O := hide (only.setB j (.int .u8 (F.getD j 0)))
        have L := hide (lent.setW j (F.getD j 0))
        have T := hide (ti.leave hlt (by omega))
        generalize F.getD j 0 = x at k1 L T O
        generalize W.getD j 0 = y at k2
        clear lent ti hfl hwl ht hb only
        go_wp2
        go_region
        go_wp2
        go_roundw
        case rel => exact ⟨j + 1, _, _, by omega, by go_num, (unhide L).drew, unhide T, (unhide O).drew⟩
        case measure => simp [intOf]; omega
    · have e : W = F := list_ext_getD W F (by rw [lent.flen, lent.wlen]) (fun i => ti.2 i (by omega))
      subst e
      have L := hide lent
      have T := hide ti
      have O := hide only
      clear lent ti only
      go_wp2
      go_end0
      exact ⟨rfl, W, unhide L, (unhide T).1, unhide O⟩
end Go.Proofs.Ytggjeamondampaa.Tu

namespace Go.Proofs.Ytggjeamondampaa
open Go.RowKit
set_option linter.unusedVariables false
set_option linter.unusedSimpArgs false
set_option maxRecDepth 100000
set_option maxHeartbeats 1000000

theorem decC_any {ab ao n c : Nat} {l : List Int} (k : Int) (w : World) (hr : Rd w (some ⟨ab, ao, none⟩) l) (hn : l.length = n) (hab : ab < w.heap.size) (hc : n < c) (hc2 : c ≤ maxLen) (hl : n ≤ 100000000) :
    Calls Try.prog 23 #[.slice (some ⟨ab, ao, none⟩) n c, .int .i64 k] w (DecR w l k) := by
  by_cases hA : k < 0 ∨ (n : Int) < k
  · refine (decode_arg _ n c k w hA (by unfold maxLen; omega)).mono ?_
    rintro e w' ⟨rfl, g⟩
    exact .inr ⟨1, .inr ⟨by rw [hn]; exact hA, rfl⟩, rfl, g⟩
  · obtain ⟨K, rfl⟩ := Int.eq_ofNat_of_zero_le (show 0 ≤ k by omega)
    have hi : InS w (.slice (some ⟨ab, ao, none⟩) n c) l := by
      subst hn
      unfold maxLen at hc2
      exact ⟨some ⟨ab, ao, none⟩, c, rfl, hr, by omega, by unfold maxLen; omega, fun x hx _ => by cases hx; exact ⟨hab, ab, ao, rfl⟩⟩
    refine (decode_folded hi (by omega) (by omega)).mono ?_
    rintro e w' (⟨C, m, rfl, h1, h2, g, h⟩ | ⟨e', h1, rfl, g⟩)
    · obtain ⟨f', l1, d', r', a1, a2, a3, a4, a5⟩ := unhide h
      exact .inl ⟨C, m, rfl, h1, h2, g, by omega, by omega, f', l1, d', r', by rw [Int.toNat_natCast]; exact a1, a2, a3, a4, a5⟩
    · exact .inr ⟨e', .inl ⟨by omega, by omega, by rw [Int.toNat_natCast]; exact h1⟩, rfl, g⟩
theorem code_any (x : Int) (w : World) : Calls Try.prog 16 #[.int .i64 x] w fun e w' => e = .returned (.int .i64 x) ∧ w' = w := by
  go_enter Try.func16, Try.ntmps16
  go_wp2
  go_ret
  exact ⟨rfl, rfl⟩

/-- What is held between two rounds. -/
structure FDI (wA W : World) (B0 g n gf cf gw cw : Nat) (F : List Int) (L : List FV) (lv : Value) : Prop where
  lent : Lent wA wA.heap.size W g n gf cf gw cw F F
  fb : ∀ x ∈ F, IsB x
  row : W.ownsRow B0 26 17 lv L.length (clF L)
  own : ApF B0 W L
  bt : ∀ x ∈ L, ∀ z ∈ x.f.data, IsB z
  lt : g < B0 ∧ gf < B0 ∧ gw < B0 ∧ B0 ≤ W.heap.size
theorem FDI.kpt {wA W W' : World} {B0 g n gf cf gw cw : Nat} {F F' : List Int} {L : List FV} {lv : Value} (I : FDI wA W B0 g n gf cf gw cw F L lv) (hk : ∀ i, B0 ≤ i → i < W.heap.size → W'.heap[i]? = W.heap[i]?) (hs : W.heap.size ≤ W'.heap.size) (hl : Lent wA wA.heap.size W' g n gf cf gw cw F' F') (hb : ∀ x ∈ F', IsB x) : FDI wA W' B0 g n gf cf gw cw F' L lv := by
  have kp : ∀ {e : TypeId} {size m : Nat} {v : Value} {xs : List Value}, W.ownsRow B0 e size v m xs → W'.ownsRow B0 e size v m xs := fun {e size m v xs} h => by
    refine ⟨h.1, ?_⟩
    rcases h.2 with h2 | ⟨q, cap, cur, e1, q1, q2, q3⟩
    · exact .inl h2
    · exact .inr ⟨q, cap, cur, e1, q1, (hk q q1 (lt_of_block q2)).trans q2, q3⟩
  exact ⟨hl, hb, kp I.row, ⟨fun x hx => ⟨kp (I.own.dat x hx).1, (I.own.dat x hx).2⟩, fun x hx => ⟨kp (I.own.run x hx).1, (I.own.run x hx).2⟩, I.own.sepd, I.own.sepr⟩, I.bt, ⟨I.lt.1, I.lt.2.1, I.lt.2.2.1, Nat.le_trans I.lt.2.2.2 hs⟩⟩
theorem FDI.onN {wA W W' : World} {B0 g n gf cf gw cw : Nat} {F : List Int} {L : List FV} {lv : Value} (I : FDI wA W B0 g n gf cf gw cw F L lv) (gr : W.grownBy W' none) : FDI wA W' B0 g n gf cf gw cw F L lv :=
  I.kpt (fun i _ hi => gr.block i hi (by simp)) gr.size (LP.onN I.lent gr) I.fb
theorem FDI.turn {wA W W' : World} {B0 g n gf cf gw cw : Nat} {F F' : List Int} {L : List FV} {lv : Value} (I : FDI wA W B0 g n gf cf gw cw F L lv) (o : Tu.Only W W' gf gw) (hl : Lent wA wA.heap.size W' g n gf cf gw cw F' F') (hb : ∀ x ∈ F', IsB x) : FDI wA W' B0 g n gf cf gw cw F' L lv :=
  I.kpt (fun i h1 _ => o.2 i (by have := I.lt; omega) (by have := I.lt; omega)) (Nat.le_of_eq o.1.symm) hl hb
theorem sep_snoc {vs : List Value} {v : Value} (h : vs.Pairwise Bg.sepV) (hv : ∀ u ∈ vs, Bg.sepV u v) : (vs ++ [v]).Pairwise Bg.sepV := by
  rw [List.pairwise_append]
  exact ⟨h, by simp, fun a ha b hb => by rw [List.mem_singleton.1 hb]; exact hv a ha⟩
/-- One frame more. -/
theorem FDI.push {wA W : World} {B0 g n gf cf gw cw Bn : Nat} {F : List Int} {L : List FV} {lv : Value} (I : FDI wA W B0 g n gf cf gw cw F L lv) (x : FV) (hB : B0 ≤ Bn) (h1 : OwnB Bn W x.d x.f.data) (h2 : OwnR Bn W x.r x.f.runs) (hb : ∀ z ∈ x.f.data, IsB z) (l1 : x.f.data.length ≤ 140737488355000) (l2 : x.f.runs.length ≤ 200000000)
    (hd : ∀ y ∈ L, ∀ q, y.d.ownBlock = some q → q < Bn) (hr : ∀ y ∈ L, ∀ q, y.r.ownBlock = some q → q < Bn) (few : L.length ≤ 100000000) :
    ∃ a' c' W', (∀ ty, (Builtin.append_ #[47, 47] ty #[lv, .slice (some ⟨W.heap.size, 0, none⟩) 1 1]).run Try.prog (W.alloc (.cells x.C 26)) = .ok (.slice a' (L.length + 1) c') W') ∧ FDI wA W' B0 g n gf cf gw cw F (L ++ [x]) (.slice a' (L.length + 1) c') := by
  obtain ⟨inf, hi0, hz0, hz1, hz2⟩ := info_parts Try.infoF
  have gA := World.grownBy_alloc W (.cells x.C 26) none
  have one : x.C.all (·.oneCell') = true := by
    obtain ⟨_, _, e1, -⟩ := row_shapeF h1
    obtain ⟨_, _, e2, -⟩ := row_shapeF h2
    exact one17 _ _ _ (by rw [e1]; rfl) (by rw [e2]; rfl)
  obtain ⟨v', W', hrn, ho, hm, -⟩ := Rl.app_keepN (P := Try.prog) (W.alloc (.cells x.C 26)) B0 47 47 26 inf (.agg Z17) 17 160 Try.underlying47 hi0 hz0 hz1 (by decide) hz2 rfl lv L.length (clF L) (World.ownsRow.kept I.row gA (by cases lv.ownBlock <;> simp)) ⟨W.heap.size, 0, none⟩ 1 1 x.C.toList (by rw [Array.length_toList, x.size]) (fun j u hu => by
    rw [show (⟨W.heap.size, 0, none⟩ : Addr).add j = ⟨W.heap.size, j, none⟩ by simp [Addr.add]; exact fun e => e.symm]
    simp only [World.cell?, heap_alloc_new]
    simpa using hu) (fun u hu => by
    have := Array.all_eq_true_iff_forall_mem.1 one u (by simpa using hu)
    exact this) (by decide) (by unfold maxLen; omega) (by omega) (Nat.le_trans I.lt.2.2.2 gA.size)
  obtain ⟨a', c', rfl, -⟩ := row_shapeF ho
  refine ⟨a', c', W', fun _ => hrn, ?_⟩
  have IA := I.onN gA
  have g4 := hm.gr
  have kp : ∀ {e : TypeId} {size m : Nat} {v : Value} {xs : List Value} {Bq : Nat}, (W.alloc (.cells x.C 26)).ownsRow Bq e size v m xs → e ≠ 26 → W'.ownsRow Bq e size v m xs := fun {e size m v xs Bq} h he => World.ownsRow.kept h g4 (Rl.rows_apart h IA.row he)
  have hl : Lent wA wA.heap.size W' g n gf cf gw cw F F := LP.on IA.lent g4 (fun q hq => by
    rcases IA.row.2 with ⟨e2, -⟩ | ⟨g2, c2, cur2, e2, p1, p2, -⟩
    · rw [e2] at hq; cases hq
    · rw [e2] at hq
      injection hq with hq
      have hq' : g2 = q := hq
      subst hq'
      exact ⟨by have := IA.lent.low; have := I.lt; omega, _, _, p2, by decide, by decide⟩)
  have dA := h1.keepN gA
  have rA : OwnR Bn (W.alloc (.cells x.C 26)) x.r x.f.runs := World.ownsRow.kept h2 gA (by cases x.r.ownBlock <;> simp)
  refine ⟨hl, I.fb, ?_, ⟨fun y hy => ?_, fun y hy => ?_, ?_, ?_⟩, fun y hy => ?_, ⟨I.lt.1, I.lt.2.1, I.lt.2.2.1, Nat.le_trans I.lt.2.2.2 (Nat.le_trans gA.size g4.size)⟩⟩
  · rw [List.length_append, show clF (L ++ [x]) = clF L ++ x.C.toList by simp [clF]]
    exact ho
  · rcases List.mem_append.1 hy with hy | hy
    · exact ⟨kp (IA.own.dat y hy).1 (by decide), (I.own.dat y hy).2⟩
    · obtain rfl := List.mem_singleton.1 hy; exact ⟨(show OwnB Bn W' y.d y.f.data from kp dA (by decide)).mono hB, l1⟩
  · rcases List.mem_append.1 hy with hy | hy
    · exact ⟨kp (IA.own.run y hy).1 (by decide), (I.own.run y hy).2⟩
    · obtain rfl := List.mem_singleton.1 hy; exact ⟨(show OwnR Bn W' y.r y.f.runs from kp rA (by decide)).mono hB, l2⟩
  · rw [List.map_append]
    refine sep_snoc I.own.sepd (fun u hu => ?_)
    obtain ⟨y, hy, rfl⟩ := List.mem_map.1 hu
    unfold Bg.sepV
    cases hv : y.d.ownBlock with
    | none => exact .inl rfl
    | some q => right; intro e; have := hd y hy q hv; have := (World.ownsRow.lt h1 q e.symm).1; omega
  · rw [List.map_append]
    refine sep_snoc I.own.sepr (fun u hu => ?_)
    obtain ⟨y, hy, rfl⟩ := List.mem_map.1 hu
    unfold Bg.sepV
    cases hv : y.r.ownBlock with
    | none => exact .inl rfl
    | some q => right; intro e; have := hr y hy q hv; have := (World.ownsRow.lt h2 q e.symm).1; omega
  · rcases List.mem_append.1 hy with hy | hy
    · exact I.bt y hy
    · obtain rfl := List.mem_singleton.1 hy; exact hb
end Go.Proofs.Ytggjeamondampaa

namespace Go.Proofs.Ytggjeamondampaa
open Go.RowKit
set_option linter.unusedVariables false
set_option linter.unusedSimpArgs false
set_option maxRecDepth 100000
set_option maxHeartbeats 8000000

theorem results_ctt {P : Program} {fn : Func} {p u v : Tmp} {tp : TypeId} (h : fn.results = #[.cell p tp, .tmp u, .tmp v]) (tmps : Array Value) (w : World) (g1 : Nat) (c1 : Array Value) (d1 : TypeDesc)
    (hp : tmps.getD p undef = .pointer (some ⟨g1, 0, none⟩)) (b1 : Blk w g1 c1 tp)
    (hu1 : P.underlying tp = some d1) (hd1 : (match d1 with | .struct _ | .array _ _ => true | _ => false) = true) (hi1 : (P.info? tp).map (·.size) = some c1.size) :
    (results fn tmps).run P w = .ok (.tuple #[.agg c1, tmps.getD u undef, tmps.getD v undef]) w := by
  have hp' : tmps[p]?.getD undef = .pointer (some ⟨g1, 0, none⟩) := by simpa using hp
  simp [results, h, hp', asAddr, run_loadVar_row w g1 tp tp c1 (0, 0) d1 b1 hu1 hd1 hi1]
theorem oneZ : Z17.all (·.oneCell') = true := one17 Fr.zero nilS nilS rfl rfl

theorem decR_any {ab ao n c : Nat} {l : List Int} (k : Int) (w : World) (hr : Rd w (some ⟨ab, ao, none⟩) l) (hn : l.length = n) (hc : n < c) (hc2 : c ≤ maxLen) (hl : n ≤ 100000000) (k64 : -9223372036854775808 ≤ k ∧ k ≤ 9223372036854775807) :
    Calls Try.prog 21 #[.slice (some ⟨ab, ao, none⟩) n c, .int .i64 k] w (DecR w l k) := by
  have B0 := Blk.new w Z17 26
  have g0 := World.grownBy_alloc w (.cells Z17 26) none
  have BAD : Hid (∀ (W : World) (e' : Int), (w.alloc (.cells Z17 26)).grownBy W none → ((0 ≤ k ∧ k ≤ l.length ∧ decF (l.drop k.toNat) = .inr e') ∨ ((k < 0 ∨ (l.length : Int) < k) ∧ e' = 1)) → Blk W w.heap.size Z17 26 ∧ Blk (W.setRow w.heap.size Z17) w.heap.size Z17 26 ∧ DecR w l k (.returned (.tuple #[.agg Z17, .int .i64 0, .int .i64 e'])) (W.setRow w.heap.size Z17)) := fun W e' g h =>
    ⟨B0.grown g, (B0.grown g).row _, .inr ⟨e', h, rfl, grown_row (g0.trans g) _ _ (Nat.le_refl _)⟩⟩
  by_cases hA : k < 0 ∨ (n : Int) < k
  · obtain ⟨b1, b2, F⟩ := unhide BAD _ 1 (World.grownBy.refl _ none) (.inr ⟨by rw [hn]; exact hA, rfl⟩)
    clear BAD B0 g0 hr
    generalize DecR w l k = Q at *
    rcases hA with hA | hA
    · go_enter Try.func21, Try.ntmps21
      go_wp2_with (refine wpList_store_row rfl _ _ _ rfl w.heap.size Z17 rfl rfl 26 _ b1 Try.size26 rfl oneZ ?_)
      refine bodyPost_ret (results_ctt (p := 4) (u := 5) (v := 6) (tp := 26) Try.results21 _ _ w.heap.size Z17 _ rfl b2 Try.underlying26 rfl Try.size26) rfl ?_
      exact F
    · have hB : ¬ k < 0 := by omega
      go_enter Try.func21, Try.ntmps21
      go_wp2_with (refine wpList_store_row rfl _ _ _ rfl w.heap.size Z17 rfl rfl 26 _ b1 Try.size26 rfl oneZ ?_)
      refine bodyPost_ret (results_ctt (p := 4) (u := 5) (v := 6) (tp := 26) Try.results21 _ _ w.heap.size Z17 _ rfl b2 Try.underlying26 rfl Try.size26) rfl ?_
      exact F
  · obtain ⟨K, rfl⟩ := Int.eq_ofNat_of_zero_le (show 0 ≤ k by omega)
    have hK : K ≤ n := by omega
    have hB : ¬ (K : Int) < 0 := by omega
    have hC : ¬ (n : Int) < (K : Int) := by omega
    have hg := rget_any (some ⟨ab, ao, none⟩) l c K (w.alloc (.cells Z17 26)) (hr.grow g0) (by unfold maxLen; omega)
    rw [hn] at hg
    have kin : 0 ≤ (K : Int) ∧ (K : Int) ≤ (l.length : Int) := by omega
    rcases num_link l K (by omega) with ⟨h1, h6⟩ | ⟨m, hm1, hm2, hm3, hm4, h5, h6⟩
    · rw [h6] at hg
      have dF : decF (l.drop (K : Int).toNat) = .inr 40 := by rw [Int.toNat_natCast]; unfold decF; rw [h1]
      have FB := hide (fun W g => unhide BAD W 40 g (.inl ⟨kin.1, kin.2, dF⟩))
      clear BAD B0 g0 hr dF h1 h6 hA
      generalize DecR w l K = Q at *
      go_enter Try.func21, Try.ntmps21
      go_wp2_with (first | (go_at_call 54; refine hg.mono ?_; rintro e W1 ⟨rfl, hb⟩; obtain ⟨b1, b2, F⟩ := unhide FB W1 (bel_gr hb)) | (refine wpList_store_row rfl _ _ _ rfl w.heap.size Z17 rfl rfl 26 _ b1 Try.size26 rfl oneZ ?_))
      refine bodyPost_ret (results_ctt (p := 4) (u := 5) (v := 6) (tp := 26) Try.results21 _ _ w.heap.size Z17 _ rfl b2 Try.underlying26 rfl Try.size26) rfl ?_
      exact F
    · clear hm4
      rw [h6] at hg
      obtain ⟨v0, v1, q3, q4, q5⟩ := num_end hr.1 (by omega) h5
      generalize joinF (l.getD K 0 % 64) ((l.drop (K + 1)).take (m - 1)) = v at *
      have hl1 : (l.drop (K + m)).length = n - (K + m) := by rw [List.length_drop, hn]
      have dF : decF (l.drop (K : Int).toNat) = match shapeF v with | none => .inr 41 | some (f, ps) => if (m : Int) ≠ sizeF v then .inr 41 else readPs ps f (l.drop (K + m)) := by
        rw [Int.toNat_natCast]; unfold decF; rw [h5]
        simp only
        cases shapeF v with
        | none => rfl
        | some p =>
          have : ((l.drop K).length : Int) - ((l.drop (K + m)).length : Int) = (m : Int) := by rw [hl1, List.length_drop, hn]; omega
          simp only [this]
      have wm : IntKind.i64.wrap ((K : Int) + (m : Int) - (K : Int)) = (m : Int) := by rw [IntKind.wrap_i64]; omega
      unfold MAXN at v1
      have sv := fun W => rsize_any v W v0 (by omega)
      by_cases hok : (m : Int) = sizeF v ∧ v ≤ 64
      · obtain ⟨hm, h64⟩ := hok
        have e1 : ((m : Int) != (sizeF v : Int)) = false := by simp [hm]
        have n64 : ¬ 64 < v := by omega
        have w3 : IntKind.i64.wrap v = v := by rw [IntKind.wrap_i64]; omega
        have dF2 : decF (l.drop (K : Int).toNat) = match shapeF v with | none => .inr 41 | some (f, ps) => readPs ps f (l.drop (K + m)) := by
          rw [dF]
          cases shapeF v with
          | none => rfl
          | some p => simp only; rw [if_neg (fun h => h hm)]
        have KM : ((K : Int) + (m : Int)) = ((K + m : Nat) : Int) := by omega
        have hrV := hr.grow g0
        have HDF := hide dF2
        have HB0 := hide (And.intro B0 g0)
        have HKM := hide KM
        have PA := hide (fun W G (R : RdD (w.alloc (.cells Z17 26)) W G (.slice (some ⟨ab, ao, none⟩) n c) (K + m) 0) => parts_any R hrV hn hc hc2 (by omega) hl v v0 h64)
        clear BAD hr dF dF2 h5 h6 hA q3 q4 q5 hl1 hrV B0 g0 KM hm
        go_enter Try.func21, Try.ntmps21
        go_upto_region 1 with fail
        generalize w.alloc (.cells Z17 26) = V at *
        go_upto_region 10 with (first | (go_at_call 54; refine hg.mono ?_; rintro e W1 ⟨rfl, hb⟩; have gW1 := bel_gr hb) | (go_at_call 55; refine (sv _).mono ?_; rintro e W2 ⟨rfl, hW2⟩; have gW2 : V.grownBy W2 none := (by rw [hW2]; exact gW1.trans (World.grownBy_alloc W1 szs none)); clear hW2))
        have R : RdD V (W2.alloc (.cells #[.slice (some ⟨ab, ao, none⟩) n c, .int .i64 ((K : Int) + (m : Int)), .int .i64 0] 101)) W2.heap.size (.slice (some ⟨ab, ao, none⟩) n c) (K + m) 0 := ⟨by rw [← unhide HKM]; exact Blk.new W2 _ _, gW2.trans (World.grownBy_alloc W2 _ none), gW2.size⟩
        have pa := unhide PA _ _ R
        clear PA R hg sv HKM
        generalize W2.alloc (.cells #[.slice (some ⟨ab, ao, none⟩) n c, .int .i64 ((K : Int) + (m : Int)), .int .i64 0] 101) = W3 at *
        generalize W2.heap.size = G at *
        go_upto_region 11 with (first | (go_at_call 56; refine pa.mono ?_; rintro e W4 ⟨C2, rfl, C17, C1, HC⟩) | (refine wpList_store_new W4 Z17 C2 W4.heap.size rfl _ _ _ rfl rfl rfl rfl (by rw [C17]; exact Try.size26) (by rw [C17]; rfl) C1 ?_))
        obtain ⟨f2, d2, r2, k2, e2, eC, o1, o2, rd2, S2⟩ := unhide HC
        have gA := World.grownBy_alloc W4 (.cells C2 26) none
        have rd5 := rd2.on gA
        have hnb := Blk.new W4 C2 26
        have hZ5 := (unhide HB0).1.grown rd5.gr
        have o15 := o1.keepN gA
        have o25 := o2.keepN gA
        have lt4 : V.heap.size ≤ W4.heap.size := rd2.gr.size
        clear HC pa gA o1 o2 rd2
        generalize W4.alloc (.cells C2 26) = W5 at *
        generalize hnb0 : W4.heap.size = nb at *
        have hw1 : w.heap.size < V.heap.size := by have := (unhide HB0).1.lt; exact this
        have n1 : nb ≠ w.heap.size := by omega
        have n2 : G ≠ w.heap.size := by have := rd5.low; omega
        have c1 := rd5.blk.cell 1 (.int .i64 (k2 : Int)) rfl
        have c2 := rd5.blk.cell 2 (.int .i64 e2) rfl
        have hZ : Blk W5.drew w.heap.size Z17 26 := hZ5
        by_cases he : e2 = 0
        · subst he
          obtain ⟨kl, xe⟩ := S2.ok
          have hS0 : (∀ j v, C2[j]? = some v → W5.drew.cell? ⟨nb, 0 + j, none⟩ = some v) ∧ W5.drew.cell? ⟨G, 1, none⟩ = some (.int .i64 (k2 : Int)) := ⟨fun j v h => by rw [Nat.zero_add]; exact hnb.cell j v h, c1⟩
          have hS1 : (∀ j v, C2[j]? = some v → (W5.drew.setRow w.heap.size C2).cell? ⟨nb, 0 + j, none⟩ = some v) ∧ (W5.drew.setRow w.heap.size C2).cell? ⟨G, 1, none⟩ = some (.int .i64 (k2 : Int)) := ⟨fun j v h => by rw [Nat.zero_add]; exact ((show Blk W5.drew nb C2 26 from hnb).rowO _ C2 (Ne.symm n1)).cell j v h, ((show Blk W5.drew G _ 101 from rd5.blk).rowO _ C2 (Ne.symm n2)).cell 1 _ rfl⟩
          have hB2 := hZ.row C2
          have FIN : Hid (DecR w l K (.returned (.tuple #[.agg C2, .int .i64 (k2 : Int), .int .i64 0])) (W5.drew.setRow w.heap.size C2)) := by
            refine .inl ⟨C2, k2, rfl, C17, C1, grown_row ((unhide HB0).2.trans (rd5.gr.trans (drew_gr W5))) _ _ (Nat.le_refl _), kin.1, kin.2, f2, l.drop k2, d2, r2, (unhide HDF).trans xe, by rw [List.length_drop]; omega, eC, ?_, ?_⟩
            · exact ((o15.mono (Nat.le_of_lt hw1)).keepN (drew_gr W5)).row hZ
            · exact ((o25.mono (Nat.le_of_lt hw1)).keepN (drew_gr W5)).row hZ
          clear HDF HB0 S2 rd5 hnb hZ5 o15 o25 xe kl eC
          generalize DecR w l K = Q at *
          go_upto_region 13 with fail
          obtain ⟨SS, hSS⟩ : ∃ SS : World → Prop, SS = fun W => (∀ j v, C2[j]? = some v → W.cell? ⟨nb, 0 + j, none⟩ = some v) ∧ W.cell? ⟨G, 1, none⟩ = some (.int .i64 ((k2 : Int))) := ⟨_, rfl⟩
          have hT0 : SS W5.drew := by rw [hSS]; exact hS0
          have hT1 : SS (W5.drew.setRow w.heap.size C2) := by rw [hSS]; exact hS1
          clear hS0 hS1
          refine wp_region_held_drew (S := SS) (by kernel_rfl) hT0 (fun hHeld => ?_)
          refine wpAnyH_take (i := 0) (v := .agg C2) rfl (by as_aux_lemma => kernel_rfl) (by as_aux_lemma => kernel_rfl) (by as_aux_lemma => kernel_rfl) (fun _ _ _ h => h) (Or.inl ⟨by rfl, ?_⟩) hT0 ?_
          · intro wH hSw
            rw [hSS] at hSw
            exact exec_load_at (x := .tmp 12) rfl rfl C17 hSw.1
          try simp (maxSteps := 10000000) only [Act.put, List.getElem_toArray, List.getElem_cons_zero, List.getElem_cons_succ, List.setIfInBounds_toArray, List.set_cons_zero, List.set_cons_succ]
          refine wpAnyH_take (i := 1) (v := ?_) rfl (by as_aux_lemma => kernel_rfl) (by as_aux_lemma => kernel_rfl) (by as_aux_lemma => kernel_rfl) (fun _ _ _ h => h) (Or.inl ⟨by rfl, ?_⟩) hT0 ?_
          rotate_left
          · intro wH hSw
            rw [hSS] at hSw
            obtain ⟨s1, s2⟩ := hSw
            go_simp
            try with_reducible rfl
          try simp (maxSteps := 10000000) only [Act.put, List.getElem_toArray, List.getElem_cons_zero, List.getElem_cons_succ, List.setIfInBounds_toArray, List.set_cons_zero, List.set_cons_succ]
          refine wpAnyH_take (i := 2) (v := ?_) rfl (by as_aux_lemma => kernel_rfl) (by as_aux_lemma => kernel_rfl) (by as_aux_lemma => kernel_rfl) (fun _ _ _ h => h) (Or.inl ⟨by rfl, ?_⟩) hT0 ?_
          rotate_left
          · intro wH hSw
            rw [hSS] at hSw
            obtain ⟨s1, s2⟩ := hSw
            go_simp
            try with_reducible rfl
          try simp (maxSteps := 10000000) only [Act.put, List.getElem_toArray, List.getElem_cons_zero, List.getElem_cons_succ, List.setIfInBounds_toArray, List.set_cons_zero, List.set_cons_succ]
          refine wpAnyH_take (i := 3) (v := ?_) rfl (by as_aux_lemma => kernel_rfl) (by as_aux_lemma => kernel_rfl) (by as_aux_lemma => kernel_rfl) (fun _ _ _ h => h) (Or.inl ⟨by rfl, ?_⟩) hT0 ?_
          rotate_left
          · intro wH hSw
            rw [hSS] at hSw
            obtain ⟨s1, s2⟩ := hSw
            go_simp
            try with_reducible rfl
          try simp (maxSteps := 10000000) only [Act.put, List.getElem_toArray, List.getElem_cons_zero, List.getElem_cons_succ, List.setIfInBounds_toArray, List.set_cons_zero, List.set_cons_succ]
          refine wpAnyH_take (i := 4) (v := ?_) rfl (by as_aux_lemma => kernel_rfl) (by as_aux_lemma => kernel_rfl) (by as_aux_lemma => kernel_rfl) (fun _ _ _ h => h) (Or.inl ⟨by rfl, ?_⟩) hT0 ?_
          rotate_left
          · intro wH hSw
            rw [hSS] at hSw
            obtain ⟨s1, s2⟩ := hSw
            go_simp
            try with_reducible rfl
          try simp (maxSteps := 10000000) only [Act.put, List.getElem_toArray, List.getElem_cons_zero, List.getElem_cons_succ, List.setIfInBounds_toArray, List.set_cons_zero, List.set_cons_succ]
          refine wpAnyH_ready (rs := [5]) (by as_aux_lemma => kernel_rfl) (by simp) ?_
          refine AllReadyH.cons (o := { dst := none, op := Op.store 26 (Operand.tmp 4) (Operand.tmp 62), type := 0, pos := "ref.go:409", after := #[{ on := 0, ground := Ground.data }, { on := 0, ground := Ground.phase }, { on := 1, ground := Ground.textOnly Departure.lateStores }, { on := 2, ground := Ground.textOnly Departure.lateStores }, { on := 3, ground := Ground.textOnly Departure.lateStores }, { on := 4, ground := Ground.textOnly Departure.lateStores }], guard := none }) rfl (fun KH hKH => ?_) AllReadyH.nil
          refine step_store_row rfl _ _ _ rfl w.heap.size C2 Z17 rfl rfl 26 hZ (by rw [C17]; exact Try.size26) (by rw [C17]; rfl) C1 ?_
          refine hKH.out _ _ hT1 (fun hHeld5 => ?_)
          clear hKH KH
          try simp (maxSteps := 10000000) only [Act.put, List.getElem_toArray, List.getElem_cons_zero, List.getElem_cons_succ, List.setIfInBounds_toArray, List.set_cons_zero, List.set_cons_succ]
          refine wpAnyH_ready (rs := [6]) (by as_aux_lemma => kernel_rfl) (by simp) ?_
          refine AllReadyH.cons (o := { dst := some 5, op := Op.assign (Operand.tmp 66), type := 3, pos := "ref.go:409", after := #[{ on := 4, ground := Ground.data }, { on := 5, ground := Ground.chain }, { on := 0, ground := Ground.phase }, { on := 1, ground := Ground.phase }, { on := 2, ground := Ground.phase }, { on := 3, ground := Ground.phase }, { on := 4, ground := Ground.phase }, { on := 5, ground := Ground.phase }], guard := none }) rfl (fun KH hKH => ?_) AllReadyH.nil
          go_simp
          refine hKH.out _ _ hT1 (fun hHeld6 => ?_)
          clear hKH KH
          try simp (maxSteps := 10000000) only [Act.put, List.getElem_toArray, List.getElem_cons_zero, List.getElem_cons_succ, List.setIfInBounds_toArray, List.set_cons_zero, List.set_cons_succ]
          refine wpAnyH_ready (rs := [7]) (by as_aux_lemma => kernel_rfl) (by simp) ?_
          refine AllReadyH.cons (o := { dst := some 6, op := Op.assign (Operand.const (Value.int IntKind.i64 0)), type := 3, pos := "ref.go:409", after := #[{ on := 6, ground := Ground.chain }, { on := 0, ground := Ground.phase }, { on := 1, ground := Ground.phase }, { on := 2, ground := Ground.phase }, { on := 3, ground := Ground.phase }, { on := 4, ground := Ground.phase }, { on := 5, ground := Ground.phase }, { on := 6, ground := Ground.phase }], guard := none }) rfl (fun KH hKH => ?_) AllReadyH.nil
          go_simp
          refine hKH.out _ _ hT1 (fun hHeld7 => ?_)
          clear hKH KH
          try simp (maxSteps := 10000000) only [Act.put, List.getElem_toArray, List.getElem_cons_zero, List.getElem_cons_succ, List.setIfInBounds_toArray, List.set_cons_zero, List.set_cons_succ]
          refine wpAnyH_done (by as_aux_lemma => kernel_rfl) ?_ _
          go_wp2_with fail
          refine bodyPost_ret (results_ctt (p := 4) (u := 5) (v := 6) (tp := 26) Try.results21 _ _ w.heap.size C2 _ rfl hB2 Try.underlying26 rfl (by rw [C17]; exact Try.size26)) rfl ?_
          exact unhide FIN
        · have e0 : (e2 != 0) = true := by simp [he]
          have xe := S2.bad he
          have hS0 : (∀ j v, C2[j]? = some v → W5.drew.cell? ⟨nb, 0 + j, none⟩ = some v) ∧ W5.drew.cell? ⟨G, 2, none⟩ = some (.int .i64 e2) := ⟨fun j v h => by rw [Nat.zero_add]; exact hnb.cell j v h, c2⟩
          have hS1 : (∀ j v, C2[j]? = some v → (W5.drew.setRow w.heap.size Z17).cell? ⟨nb, 0 + j, none⟩ = some v) ∧ (W5.drew.setRow w.heap.size Z17).cell? ⟨G, 2, none⟩ = some (.int .i64 e2) := ⟨fun j v h => by rw [Nat.zero_add]; exact ((show Blk W5.drew nb C2 26 from hnb).rowO _ Z17 (Ne.symm n1)).cell j v h, ((show Blk W5.drew G _ 101 from rd5.blk).rowO _ Z17 (Ne.symm n2)).cell 2 _ rfl⟩
          have hB2 := hZ.row Z17
          have FIN : Hid (DecR w l K (.returned (.tuple #[.agg Z17, .int .i64 0, .int .i64 e2])) (W5.drew.setRow w.heap.size Z17)) :=
            .inr ⟨e2, .inl ⟨kin.1, kin.2, (unhide HDF).trans xe⟩, rfl, grown_row ((unhide HB0).2.trans (rd5.gr.trans (drew_gr W5))) _ _ (Nat.le_refl _)⟩
          clear HDF HB0 S2 rd5 hnb hZ5 o15 o25 xe eC
          generalize DecR w l K = Q at *
          go_upto_region 12 with fail
          obtain ⟨SS, hSS⟩ : ∃ SS : World → Prop, SS = fun W => (∀ j v, C2[j]? = some v → W.cell? ⟨nb, 0 + j, none⟩ = some v) ∧ W.cell? ⟨G, 2, none⟩ = some (.int .i64 (e2)) := ⟨_, rfl⟩
          have hT0 : SS W5.drew := by rw [hSS]; exact hS0
          have hT1 : SS (W5.drew.setRow w.heap.size Z17) := by rw [hSS]; exact hS1
          clear hS0 hS1
          refine wp_region_held_drew (S := SS) (by kernel_rfl) hT0 (fun hHeld => ?_)
          refine wpAnyH_take (i := 0) (v := ?_) rfl (by as_aux_lemma => kernel_rfl) (by as_aux_lemma => kernel_rfl) (by as_aux_lemma => kernel_rfl) (fun _ _ _ h => h) (Or.inl ⟨by rfl, ?_⟩) hT0 ?_
          rotate_left
          · intro wH hSw
            rw [hSS] at hSw
            obtain ⟨s1, s2⟩ := hSw
            go_simp
            try with_reducible rfl
          try simp (maxSteps := 10000000) only [Act.put, List.getElem_toArray, List.getElem_cons_zero, List.getElem_cons_succ, List.setIfInBounds_toArray, List.set_cons_zero, List.set_cons_succ]
          refine wpAnyH_take (i := 1) (v := ?_) rfl (by as_aux_lemma => kernel_rfl) (by as_aux_lemma => kernel_rfl) (by as_aux_lemma => kernel_rfl) (fun _ _ _ h => h) (Or.inl ⟨by rfl, ?_⟩) hT0 ?_
          rotate_left
          · intro wH hSw
            rw [hSS] at hSw
            obtain ⟨s1, s2⟩ := hSw
            go_simp
            try with_reducible rfl
          try simp (maxSteps := 10000000) only [Act.put, List.getElem_toArray, List.getElem_cons_zero, List.getElem_cons_succ, List.setIfInBounds_toArray, List.set_cons_zero, List.set_cons_succ]
          refine wpAnyH_take (i := 2) (v := ?_) rfl (by as_aux_lemma => kernel_rfl) (by as_aux_lemma => kernel_rfl) (by as_aux_lemma => kernel_rfl) (fun _ _ _ h => h) (Or.inl ⟨by rfl, ?_⟩) hT0 ?_
          rotate_left
          · intro wH hSw
            rw [hSS] at hSw
            obtain ⟨s1, s2⟩ := hSw
            go_simp
            try with_reducible rfl
          try simp (maxSteps := 10000000) only [Act.put, List.getElem_toArray, List.getElem_cons_zero, List.getElem_cons_succ, List.setIfInBounds_toArray, List.set_cons_zero, List.set_cons_succ]
          refine wpAnyH_take (i := 3) (v := ?_) rfl (by as_aux_lemma => kernel_rfl) (by as_aux_lemma => kernel_rfl) (by as_aux_lemma => kernel_rfl) (fun _ _ _ h => h) (Or.inl ⟨by rfl, ?_⟩) hT0 ?_
          rotate_left
          · intro wH hSw
            rw [hSS] at hSw
            obtain ⟨s1, s2⟩ := hSw
            go_simp
            try with_reducible rfl
          try simp (maxSteps := 10000000) only [Act.put, List.getElem_toArray, List.getElem_cons_zero, List.getElem_cons_succ, List.setIfInBounds_toArray, List.set_cons_zero, List.set_cons_succ]
          refine wpAnyH_take (i := 4) (v := ?_) rfl (by as_aux_lemma => kernel_rfl) (by as_aux_lemma => kernel_rfl) (by as_aux_lemma => kernel_rfl) (fun _ _ _ h => h) (Or.inl ⟨by rfl, ?_⟩) hT0 ?_
          rotate_left
          · intro wH hSw
            rw [hSS] at hSw
            obtain ⟨s1, s2⟩ := hSw
            go_simp
            try with_reducible rfl
          try simp (maxSteps := 10000000) only [Act.put, List.getElem_toArray, List.getElem_cons_zero, List.getElem_cons_succ, List.setIfInBounds_toArray, List.set_cons_zero, List.set_cons_succ]
          refine wpAnyH_ready (rs := [5]) (by as_aux_lemma => kernel_rfl) (by simp) ?_
          refine AllReadyH.cons (o := { dst := none, op := Op.store 26 (Operand.tmp 4) (Operand.tmp 57), type := 0, pos := "ref.go:407", after := #[{ on := 0, ground := Ground.data }, { on := 0, ground := Ground.phase }, { on := 1, ground := Ground.textOnly Departure.lateStores }, { on := 2, ground := Ground.textOnly Departure.lateStores }, { on := 3, ground := Ground.textOnly Departure.lateStores }, { on := 4, ground := Ground.textOnly Departure.lateStores }], guard := none }) rfl (fun KH hKH => ?_) AllReadyH.nil
          refine step_store_row rfl _ _ _ rfl w.heap.size Z17 Z17 rfl rfl 26 hZ Try.size26 rfl oneZ ?_
          refine hKH.out _ _ hT1 (fun hHeld5 => ?_)
          clear hKH KH
          try simp (maxSteps := 10000000) only [Act.put, List.getElem_toArray, List.getElem_cons_zero, List.getElem_cons_succ, List.setIfInBounds_toArray, List.set_cons_zero, List.set_cons_succ]
          refine wpAnyH_ready (rs := [6]) (by as_aux_lemma => kernel_rfl) (by simp) ?_
          refine AllReadyH.cons (o := { dst := some 5, op := Op.assign (Operand.const (Value.int IntKind.i64 0)), type := 3, pos := "ref.go:407", after := #[{ on := 5, ground := Ground.chain }, { on := 0, ground := Ground.phase }, { on := 1, ground := Ground.textOnly Departure.lateStores }, { on := 2, ground := Ground.textOnly Departure.lateStores }, { on := 3, ground := Ground.textOnly Departure.lateStores }, { on := 4, ground := Ground.textOnly Departure.lateStores }, { on := 5, ground := Ground.phase }], guard := none }) rfl (fun KH hKH => ?_) AllReadyH.nil
          go_simp
          refine hKH.out _ _ hT1 (fun hHeld6 => ?_)
          clear hKH KH
          try simp (maxSteps := 10000000) only [Act.put, List.getElem_toArray, List.getElem_cons_zero, List.getElem_cons_succ, List.setIfInBounds_toArray, List.set_cons_zero, List.set_cons_succ]
          refine wpAnyH_ready (rs := [7]) (by as_aux_lemma => kernel_rfl) (by simp) ?_
          refine AllReadyH.cons (o := { dst := some 6, op := Op.assign (Operand.tmp 61), type := 3, pos := "ref.go:407", after := #[{ on := 4, ground := Ground.data }, { on := 6, ground := Ground.chain }, { on := 0, ground := Ground.phase }, { on := 1, ground := Ground.phase }, { on := 2, ground := Ground.phase }, { on := 3, ground := Ground.phase }, { on := 4, ground := Ground.phase }, { on := 5, ground := Ground.phase }, { on := 6, ground := Ground.phase }], guard := none }) rfl (fun KH hKH => ?_) AllReadyH.nil
          go_simp
          refine hKH.out _ _ hT1 (fun hHeld7 => ?_)
          clear hKH KH
          try simp (maxSteps := 10000000) only [Act.put, List.getElem_toArray, List.getElem_cons_zero, List.getElem_cons_succ, List.setIfInBounds_toArray, List.set_cons_zero, List.set_cons_succ]
          refine wpAnyH_done (by as_aux_lemma => kernel_rfl) ?_ _
          go_wp2_with fail
          refine bodyPost_ret (results_ctt (p := 4) (u := 5) (v := 6) (tp := 26) Try.results21 _ _ w.heap.size Z17 _ rfl hB2 Try.underlying26 rfl (Try.size26)) rfl ?_
          exact unhide FIN
      · have dB : decF (l.drop (K : Int).toNat) = .inr 41 := by
          rw [dF]
          by_cases h64 : v ≤ 64
          · cases shapeF v with
            | none => rfl
            | some p => simp only; rw [if_pos (fun h => hok ⟨h, h64⟩)]
          · have : shapeF v = none := by unfold shapeF; repeat rw [if_neg (by omega)]
            rw [this]
        have FB := hide (fun W g => unhide BAD W 41 g (.inl ⟨kin.1, kin.2, dB⟩))
        clear BAD B0 g0 hr dF dB h5 h6 hA q3 q4 q5 hl1
        generalize DecR w l K = Q at *
        by_cases hm : (m : Int) = sizeF v
        · have h64 : 64 < v := by
            apply Decidable.byContradiction
            intro h
            exact hok ⟨hm, by omega⟩
          have e1 : ((m : Int) != (sizeF v : Int)) = false := by simp [hm]
          clear hok
          go_enter Try.func21, Try.ntmps21
          go_wp2_with (first | (go_at_call 54; refine hg.mono ?_; rintro e W1 ⟨rfl, hb⟩; have gW1 := bel_gr hb) | (go_at_call 55; refine (sv _).mono ?_; rintro e W2 ⟨rfl, rfl⟩; obtain ⟨b1, b2, F⟩ := unhide FB _ (gW1.trans (World.grownBy_alloc W1 szs none))) | (refine wpList_store_row rfl _ _ _ rfl w.heap.size Z17 rfl rfl 26 _ b1 Try.size26 rfl oneZ ?_))
          refine bodyPost_ret (results_ctt (p := 4) (u := 5) (v := 6) (tp := 26) Try.results21 _ _ w.heap.size Z17 _ rfl b2 Try.underlying26 rfl Try.size26) rfl ?_
          exact F
        · have e1 : ((m : Int) != (sizeF v : Int)) = true := by simp [hm]
          clear hok
          go_enter Try.func21, Try.ntmps21
          go_wp2_with (first | (go_at_call 54; refine hg.mono ?_; rintro e W1 ⟨rfl, hb⟩; have gW1 := bel_gr hb) | (go_at_call 55; refine (sv _).mono ?_; rintro e W2 ⟨rfl, rfl⟩; obtain ⟨b1, b2, F⟩ := unhide FB _ (gW1.trans (World.grownBy_alloc W1 szs none))) | (refine wpList_store_row rfl _ _ _ rfl w.heap.size Z17 rfl rfl 26 _ b1 Try.size26 rfl oneZ ?_))
          refine bodyPost_ret (results_ctt (p := 4) (u := 5) (v := 6) (tp := 26) Try.results21 _ _ w.heap.size Z17 _ rfl b2 Try.underlying26 rfl Try.size26) rfl ?_
          exact F
end Go.Proofs.Ytggjeamondampaa
