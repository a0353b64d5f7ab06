/- G5K, G5L, G5M, G5N, one text. -/
import Derived.Test.YtggjeamondampaaN4A
namespace Go.Proofs.Ytggjeamondampaa
open Go.RowKit
set_option linter.unusedVariables false
set_option linter.unusedSimpArgs false
set_option maxRecDepth 100000
set_option maxHeartbeats 2000000

theorem stream_8 {w0 W : World} {G k n c ab ao : Nat} {l : List Int} (R : RdD w0 W G (.slice (some ⟨ab, ao, none⟩) n c) k 0) (hr : Rd w0 (some ⟨ab, ao, none⟩) l) (hn : l.length = n) (hc : n < c) (hc2 : c ≤ maxLen) (hk : k ≤ n) (hl : n ≤ 100000000) :
    Calls Try.prog 79 #[.pointer (some ⟨G, 0, none⟩), .int .i64 8] W (fun en W' => PPost w0 G (.slice (some ⟨ab, ao, none⟩) n c) l (readPs (1, 0, 12, 0) ({ Fr.zero with kind := 8, fin := false, tail := true }) (l.drop k)) en W' ∧ W.grownBy W' (some G)) := by
  have P0 : PE W w0 ((W.alloc (.cells Z17 26)).alloc (.cells #[.int .i64 8, .int .i64 0, .int .i64 0, .slice none 0 0, .int .i64 0, .bool false, .bool true, .int .i64 0, .bool false, .int .i64 0, .bool false, .int .i64 0, .slice none 0 0, .bool false, .int .i64 0, .int .i64 0, .int .i64 0] 26)) G W.heap.size (.slice (some ⟨ab, ao, none⟩) n c) k 0 ({ Fr.zero with kind := 8, fin := false, tail := true }) nilS nilS := PE.new R ({ Fr.zero with kind := 8, fin := false, tail := true }) rfl rfl
  go_enter Try.func79, Try.ntmps79
  go_upto_region 2 with (refine wpList_store_new (W.alloc (.cells Z17 26)) Z17 #[.int .i64 8, .int .i64 0, .int .i64 0, .slice none 0 0, .int .i64 0, .bool false, .bool true, .int .i64 0, .bool false, .int .i64 0, .bool false, .int .i64 0, .slice none 0 0, .bool false, .int .i64 0, .int .i64 0, .int .i64 0] (W.heap.size + 1) rfl _ _ _ rfl (by simp) rfl rfl Try.size26 rfl (one17 ({ Fr.zero with kind := 8, fin := false, tail := true }) nilS nilS rfl rfl) ?_)
  generalize (W.alloc (.cells Z17 26)).alloc (.cells #[.int .i64 8, .int .i64 0, .int .i64 0, .slice none 0 0, .int .i64 0, .bool false, .bool true, .int .i64 0, .bool false, .int .i64 0, .bool false, .int .i64 0, .slice none 0 0, .bool false, .int .i64 0, .int .i64 0, .int .i64 0] 26) = U0 at *
  generalize W.heap.size = b at *
  have S0 := St.start l ({ Fr.zero with kind := 8, fin := false, tail := true }) k (by omega)
  have nu := P0.p.rd.num hr hn (by omega) hc2 hk
  go_upto_region 3 with (go_at_call 76; refine nu.mono ?_; rintro en Y1 ⟨v1, k1, e1, rfl, q1, rd1, g1⟩; have A1 := P0.step g1 rd1; have xt := A1.p.fb.thaws; have xj := A1.p.fb.cell 1 _ rfl)
  have hk1 : k1 ≤ n := by have h := (rdN_val (l := l) (k := k) (e := 0) hr.1 (by omega)).2.2.1; rw [← unhide q1] at h; simp only at h; omega
  have hv1 := rdN_val (l := l) (k := k) (e := 0) hr.1 (by omega)
  rw [← unhide q1] at hv1
  simp only at hv1
  unfold MAXN at hv1
  have S1 := S0.num (p := 1) hr.1 (by omega) (unhide q1) (f' := { Fr.zero with kind := 8, fin := false, tail := true, stream := v1 }) rfl
  have P1 := A1.set 1 (.int .i64 v1) ({ Fr.zero with kind := 8, fin := false, tail := true, stream := v1 }) rfl rfl rfl
  clear nu xt xj A1 P0 rd1 g1 q1
  generalize Y1.setCell ⟨b + 1, 1, none⟩ (.int .i64 v1) = U1 at *
  have z0 := P1.p.rd.blk.cell 0 (.slice (some ⟨ab, ao, none⟩) n c) rfl
  have z1 := P1.p.rd.blk.cell 1 (.int .i64 (k1 : Int)) rfl
  have wn : IntKind.i64.wrap ((n : Int) - (k1 : Int)) = (n : Int) - (k1 : Int) := by rw [IntKind.wrap_i64]; omega
  go_upto_region 5 with fail
  go_quiet (fail)
  have Q := P1.onN (grown_drewN (q := nq) (World.grownBy.refl U1 none))
  clear z0 z1 P1
  generalize U1.drewN nq = UQ at *
  have x6 := Q.p.fb.cell 6 (.bool true) rfl
  have ws : IntKind.i64.wrap (4611686018427387903 - ((n : Int) - (k1 : Int))) = 4611686018427387903 - ((n : Int) - (k1 : Int)) := by rw [IntKind.wrap_i64]; omega
  have mu := Q.p.rd.must (decide (((n : Int) - (k1 : Int)) ≤ 4611686018427387903))
  have x2 := Q.p.fb.cell 2 (.int .i64 (0)) rfl
  have eqb : decide ((0 : Int) ≤ 4611686018427387903 - ((n : Int) - (k1 : Int))) = decide (((n : Int) - (k1 : Int)) ≤ 4611686018427387903) := by rw [decide_eq_decide]; omega
  go_upto_region 9 with (go_at_call 77; refine mu.mono ?_; rintro en Z1 ⟨rfl, rm1, gm1⟩)
  have B1 := Q.step gm1 rm1
  clear mu x2 Q rm1 gm1 ws x6
  have by1 := B1.p.rd.byts hr hn hc hc2 hk1 hl ((n : Int) - (k1 : Int)) (by omega) (by unfold MAXN; omega)
  go_upto_region 10 with (go_at_call 78; refine by1.mono ?_; rintro en X1 ⟨dv, D, kb, eb, rfl, qb, ob, rb, gb⟩; obtain ⟨da, dc, hdv⟩ := ob.shape; subst hdv; have D1 := B1.step gb rb; have xt := D1.p.fb.thaws; have xj := D1.p.fb.cell 3 _ rfl)
  have SF := S1.tailO (o := 0) hn rfl (by rw [eqb]; exact unhide qb) (f' := { Fr.zero with kind := 8, fin := false, tail := true, stream := v1, data := D }) rfl
  have PF := D1.setD ob
  clear by1 xt xj D1 B1 ob rb gb qb
  generalize X1.setCell ⟨b + 1, 3, none⟩ (.slice da D.length dc) = UF at *
  obtain ⟨D9, D17, D1, fb9, res9, bl9, FIN⟩ := PF.fin SF
  have iD : (Try.prog.info? 26).map (·.size) = some D9.size := by rw [D17]; exact Try.size26
  have HFIN : Hid (PPost w0 G (.slice (some ⟨ab, ao, none⟩) n c) l (readPs (1, 0, 12, 0) ({ Fr.zero with kind := 8, fin := false, tail := true }) (l.drop k)) (.returned (.agg D9)) (UF.setRow b D9) ∧ W.grownBy (UF.setRow b D9) (some G)) := by rw [readPs_eq]; simp only [bind_zero]; exact FIN
  clear FIN PF SF
  go_wp2_with (first | (refine wpList_load_row rfl _ _ rfl (b + 1) rfl 26 D9 (0, 0) _ fb9 Try.underlying26 rfl iD ?_) | (refine wpList_store_row rfl _ _ _ rfl b D9 rfl rfl 26 _ res9 iD (by rw [D17]; rfl) D1 ?_))
  refine bodyPost_ret (results_cell_row Try.results79 _ _ b 26 D9 (0, 0) _ rfl bl9 Try.underlying26 rfl iD) rfl ?_
  exact unhide HFIN

theorem parts_8 {w0 W : World} {G k n c ab ao : Nat} {l : List Int} (R : RdD w0 W G (.slice (some ⟨ab, ao, none⟩) n c) k 0) (hr : Rd w0 (some ⟨ab, ao, none⟩) l) (hn : l.length = n) (hc : n < c) (hc2 : c ≤ maxLen) (hk : k ≤ n) (hl : n ≤ 100000000) :
    Calls Try.prog 56 #[.pointer (some ⟨G, 0, none⟩), .int .i64 8] W (PPost w0 G (.slice (some ⟨ab, ao, none⟩) n c) l (readPs (1, 0, 12, 0) ({ Fr.zero with kind := 8, fin := false, tail := true }) (l.drop k))) := by
  have P0 : PD w0 ((W.alloc (.cells Z17 26)).alloc (.cells #[.int .i64 8, .int .i64 0, .int .i64 0, .slice none 0 0, .int .i64 0, .bool false, .bool false, .int .i64 0, .bool false, .int .i64 0, .bool false, .int .i64 0, .slice none 0 0, .bool false, .int .i64 0, .int .i64 0, .int .i64 0] 26)) G W.heap.size (.slice (some ⟨ab, ao, none⟩) n c) k 0 ({ Fr.zero with kind := 8 }) nilS nilS := PD.new R ({ Fr.zero with kind := 8 }) rfl rfl
  go_enter Try.func56, Try.ntmps56
  go_upto_region 2 with (refine wpList_store_new (W.alloc (.cells Z17 26)) Z17 #[.int .i64 8, .int .i64 0, .int .i64 0, .slice none 0 0, .int .i64 0, .bool false, .bool false, .int .i64 0, .bool false, .int .i64 0, .bool false, .int .i64 0, .slice none 0 0, .bool false, .int .i64 0, .int .i64 0, .int .i64 0] (W.heap.size + 1) rfl _ _ _ rfl (by simp) rfl rfl Try.size26 rfl (one17 ({ Fr.zero with kind := 8 }) nilS nilS rfl rfl) ?_)
  generalize (W.alloc (.cells Z17 26)).alloc (.cells #[.int .i64 8, .int .i64 0, .int .i64 0, .slice none 0 0, .int .i64 0, .bool false, .bool false, .int .i64 0, .bool false, .int .i64 0, .bool false, .int .i64 0, .slice none 0 0, .bool false, .int .i64 0, .int .i64 0, .int .i64 0] 26) = U0 at *
  generalize W.heap.size = b at *
  have sc := stream_8 P0.rd hr hn hc hc2 hk hl
  go_upto_region 55 with (first | (go_at_call 79; refine sc.mono ?_; rintro en Y ⟨⟨C2, rfl, C17, C1, HC⟩, gY⟩; have iC2 : (Try.prog.info? 26).map (·.size) = some C2.size := (by rw [C17]; exact Try.size26); have fbY := P0.fb.far gY (by have := P0.lt; omega)) | (refine wpList_store_row rfl _ _ _ rfl (b + 1) C2 rfl rfl 26 _ fbY iC2 (by rw [C17]; rfl) C1 ?_))
  obtain ⟨f2, d2, r2, k2, e2, eC, o1, o2, rd2, S2⟩ := unhide HC
  have P2 := (P0.step gY rd2).put rd2 o1 o2
  rw [← eC] at P2
  have S3 : St l (readPs (1, 0, 12, 0) ({ Fr.zero with kind := 8, fin := false, tail := true }) (l.drop k)) f2 k2 e2 := S2
  clear sc P0 fbY iC2 C17 C1 HC gY o1 o2 rd2 S2 eC
  generalize Y.setRow (b + 1) C2 = U2 at *
  obtain ⟨D9, D17, D1, fb9, res9, bl9, FIN⟩ := P2.fin S3
  have iD : (Try.prog.info? 26).map (·.size) = some D9.size := by rw [D17]; exact Try.size26
  have HFIN : Hid (PPost w0 G (.slice (some ⟨ab, ao, none⟩) n c) l (readPs (1, 0, 12, 0) ({ Fr.zero with kind := 8, fin := false, tail := true }) (l.drop k)) (.returned (.agg D9)) (U2.setRow b D9)) := FIN
  clear FIN P2 S3
  generalize readPs (1, 0, 12, 0) ({ Fr.zero with kind := 8, fin := false, tail := true }) (l.drop k) = x at *
  go_wp2_with (first | (refine wpList_load_row rfl _ _ rfl (b + 1) rfl 26 D9 (0, 0) _ fb9 Try.underlying26 rfl iD ?_) | (refine wpList_store_row rfl _ _ _ rfl b D9 rfl rfl 26 _ res9 iD (by rw [D17]; rfl) D1 ?_))
  refine bodyPost_ret (results_cell_row Try.results56 _ _ b 26 D9 (0, 0) _ rfl bl9 Try.underlying26 rfl iD) rfl ?_
  exact unhide HFIN

theorem stream_9 {w0 W : World} {G k n c ab ao : Nat} {l : List Int} (R : RdD w0 W G (.slice (some ⟨ab, ao, none⟩) n c) k 0) (hr : Rd w0 (some ⟨ab, ao, none⟩) l) (hn : l.length = n) (hc : n < c) (hc2 : c ≤ maxLen) (hk : k ≤ n) (hl : n ≤ 100000000) :
    Calls Try.prog 79 #[.pointer (some ⟨G, 0, none⟩), .int .i64 9] W (fun en W' => PPost w0 G (.slice (some ⟨ab, ao, none⟩) n c) l (readPs (1, 0, 12, 0) ({ Fr.zero with kind := 8, fin := true, tail := true }) (l.drop k)) en W' ∧ W.grownBy W' (some G)) := by
  have P0 : PE W w0 ((W.alloc (.cells Z17 26)).alloc (.cells #[.int .i64 8, .int .i64 0, .int .i64 0, .slice none 0 0, .int .i64 0, .bool true, .bool true, .int .i64 0, .bool false, .int .i64 0, .bool false, .int .i64 0, .slice none 0 0, .bool false, .int .i64 0, .int .i64 0, .int .i64 0] 26)) G W.heap.size (.slice (some ⟨ab, ao, none⟩) n c) k 0 ({ Fr.zero with kind := 8, fin := true, tail := true }) nilS nilS := PE.new R ({ Fr.zero with kind := 8, fin := true, tail := true }) rfl rfl
  go_enter Try.func79, Try.ntmps79
  go_upto_region 2 with (refine wpList_store_new (W.alloc (.cells Z17 26)) Z17 #[.int .i64 8, .int .i64 0, .int .i64 0, .slice none 0 0, .int .i64 0, .bool true, .bool true, .int .i64 0, .bool false, .int .i64 0, .bool false, .int .i64 0, .slice none 0 0, .bool false, .int .i64 0, .int .i64 0, .int .i64 0] (W.heap.size + 1) rfl _ _ _ rfl (by simp) rfl rfl Try.size26 rfl (one17 ({ Fr.zero with kind := 8, fin := true, tail := true }) nilS nilS rfl rfl) ?_)
  generalize (W.alloc (.cells Z17 26)).alloc (.cells #[.int .i64 8, .int .i64 0, .int .i64 0, .slice none 0 0, .int .i64 0, .bool true, .bool true, .int .i64 0, .bool false, .int .i64 0, .bool false, .int .i64 0, .slice none 0 0, .bool false, .int .i64 0, .int .i64 0, .int .i64 0] 26) = U0 at *
  generalize W.heap.size = b at *
  have S0 := St.start l ({ Fr.zero with kind := 8, fin := true, tail := true }) k (by omega)
  have nu := P0.p.rd.num hr hn (by omega) hc2 hk
  go_upto_region 3 with (go_at_call 76; refine nu.mono ?_; rintro en Y1 ⟨v1, k1, e1, rfl, q1, rd1, g1⟩; have A1 := P0.step g1 rd1; have xt := A1.p.fb.thaws; have xj := A1.p.fb.cell 1 _ rfl)
  have hk1 : k1 ≤ n := by have h := (rdN_val (l := l) (k := k) (e := 0) hr.1 (by omega)).2.2.1; rw [← unhide q1] at h; simp only at h; omega
  have hv1 := rdN_val (l := l) (k := k) (e := 0) hr.1 (by omega)
  rw [← unhide q1] at hv1
  simp only at hv1
  unfold MAXN at hv1
  have S1 := S0.num (p := 1) hr.1 (by omega) (unhide q1) (f' := { Fr.zero with kind := 8, fin := true, tail := true, stream := v1 }) rfl
  have P1 := A1.set 1 (.int .i64 v1) ({ Fr.zero with kind := 8, fin := true, tail := true, stream := v1 }) rfl rfl rfl
  clear nu xt xj A1 P0 rd1 g1 q1
  generalize Y1.setCell ⟨b + 1, 1, none⟩ (.int .i64 v1) = U1 at *
  have z0 := P1.p.rd.blk.cell 0 (.slice (some ⟨ab, ao, none⟩) n c) rfl
  have z1 := P1.p.rd.blk.cell 1 (.int .i64 (k1 : Int)) rfl
  have wn : IntKind.i64.wrap ((n : Int) - (k1 : Int)) = (n : Int) - (k1 : Int) := by rw [IntKind.wrap_i64]; omega
  go_upto_region 5 with fail
  go_quiet (fail)
  have Q := P1.onN (grown_drewN (q := nq) (World.grownBy.refl U1 none))
  clear z0 z1 P1
  generalize U1.drewN nq = UQ at *
  have x6 := Q.p.fb.cell 6 (.bool true) rfl
  have ws : IntKind.i64.wrap (4611686018427387903 - ((n : Int) - (k1 : Int))) = 4611686018427387903 - ((n : Int) - (k1 : Int)) := by rw [IntKind.wrap_i64]; omega
  have mu := Q.p.rd.must (decide (((n : Int) - (k1 : Int)) ≤ 4611686018427387903))
  have x2 := Q.p.fb.cell 2 (.int .i64 (0)) rfl
  have eqb : decide ((0 : Int) ≤ 4611686018427387903 - ((n : Int) - (k1 : Int))) = decide (((n : Int) - (k1 : Int)) ≤ 4611686018427387903) := by rw [decide_eq_decide]; omega
  go_upto_region 9 with (go_at_call 77; refine mu.mono ?_; rintro en Z1 ⟨rfl, rm1, gm1⟩)
  have B1 := Q.step gm1 rm1
  clear mu x2 Q rm1 gm1 ws x6
  have by1 := B1.p.rd.byts hr hn hc hc2 hk1 hl ((n : Int) - (k1 : Int)) (by omega) (by unfold MAXN; omega)
  go_upto_region 10 with (go_at_call 78; refine by1.mono ?_; rintro en X1 ⟨dv, D, kb, eb, rfl, qb, ob, rb, gb⟩; obtain ⟨da, dc, hdv⟩ := ob.shape; subst hdv; have D1 := B1.step gb rb; have xt := D1.p.fb.thaws; have xj := D1.p.fb.cell 3 _ rfl)
  have SF := S1.tailO (o := 0) hn rfl (by rw [eqb]; exact unhide qb) (f' := { Fr.zero with kind := 8, fin := true, tail := true, stream := v1, data := D }) rfl
  have PF := D1.setD ob
  clear by1 xt xj D1 B1 ob rb gb qb
  generalize X1.setCell ⟨b + 1, 3, none⟩ (.slice da D.length dc) = UF at *
  obtain ⟨D9, D17, D1, fb9, res9, bl9, FIN⟩ := PF.fin SF
  have iD : (Try.prog.info? 26).map (·.size) = some D9.size := by rw [D17]; exact Try.size26
  have HFIN : Hid (PPost w0 G (.slice (some ⟨ab, ao, none⟩) n c) l (readPs (1, 0, 12, 0) ({ Fr.zero with kind := 8, fin := true, tail := true }) (l.drop k)) (.returned (.agg D9)) (UF.setRow b D9) ∧ W.grownBy (UF.setRow b D9) (some G)) := by rw [readPs_eq]; simp only [bind_zero]; exact FIN
  clear FIN PF SF
  go_wp2_with (first | (refine wpList_load_row rfl _ _ rfl (b + 1) rfl 26 D9 (0, 0) _ fb9 Try.underlying26 rfl iD ?_) | (refine wpList_store_row rfl _ _ _ rfl b D9 rfl rfl 26 _ res9 iD (by rw [D17]; rfl) D1 ?_))
  refine bodyPost_ret (results_cell_row Try.results79 _ _ b 26 D9 (0, 0) _ rfl bl9 Try.underlying26 rfl iD) rfl ?_
  exact unhide HFIN

theorem parts_9 {w0 W : World} {G k n c ab ao : Nat} {l : List Int} (R : RdD w0 W G (.slice (some ⟨ab, ao, none⟩) n c) k 0) (hr : Rd w0 (some ⟨ab, ao, none⟩) l) (hn : l.length = n) (hc : n < c) (hc2 : c ≤ maxLen) (hk : k ≤ n) (hl : n ≤ 100000000) :
    Calls Try.prog 56 #[.pointer (some ⟨G, 0, none⟩), .int .i64 9] W (PPost w0 G (.slice (some ⟨ab, ao, none⟩) n c) l (readPs (1, 0, 12, 0) ({ Fr.zero with kind := 8, fin := true, tail := true }) (l.drop k))) := by
  have P0 : PD w0 ((W.alloc (.cells Z17 26)).alloc (.cells #[.int .i64 9, .int .i64 0, .int .i64 0, .slice none 0 0, .int .i64 0, .bool false, .bool false, .int .i64 0, .bool false, .int .i64 0, .bool false, .int .i64 0, .slice none 0 0, .bool false, .int .i64 0, .int .i64 0, .int .i64 0] 26)) G W.heap.size (.slice (some ⟨ab, ao, none⟩) n c) k 0 ({ Fr.zero with kind := 9 }) nilS nilS := PD.new R ({ Fr.zero with kind := 9 }) rfl rfl
  go_enter Try.func56, Try.ntmps56
  go_upto_region 2 with (refine wpList_store_new (W.alloc (.cells Z17 26)) Z17 #[.int .i64 9, .int .i64 0, .int .i64 0, .slice none 0 0, .int .i64 0, .bool false, .bool false, .int .i64 0, .bool false, .int .i64 0, .bool false, .int .i64 0, .slice none 0 0, .bool false, .int .i64 0, .int .i64 0, .int .i64 0] (W.heap.size + 1) rfl _ _ _ rfl (by simp) rfl rfl Try.size26 rfl (one17 ({ Fr.zero with kind := 9 }) nilS nilS rfl rfl) ?_)
  generalize (W.alloc (.cells Z17 26)).alloc (.cells #[.int .i64 9, .int .i64 0, .int .i64 0, .slice none 0 0, .int .i64 0, .bool false, .bool false, .int .i64 0, .bool false, .int .i64 0, .bool false, .int .i64 0, .slice none 0 0, .bool false, .int .i64 0, .int .i64 0, .int .i64 0] 26) = U0 at *
  generalize W.heap.size = b at *
  have sc := stream_9 P0.rd hr hn hc hc2 hk hl
  go_upto_region 55 with (first | (go_at_call 79; refine sc.mono ?_; rintro en Y ⟨⟨C2, rfl, C17, C1, HC⟩, gY⟩; have iC2 : (Try.prog.info? 26).map (·.size) = some C2.size := (by rw [C17]; exact Try.size26); have fbY := P0.fb.far gY (by have := P0.lt; omega)) | (refine wpList_store_row rfl _ _ _ rfl (b + 1) C2 rfl rfl 26 _ fbY iC2 (by rw [C17]; rfl) C1 ?_))
  obtain ⟨f2, d2, r2, k2, e2, eC, o1, o2, rd2, S2⟩ := unhide HC
  have P2 := (P0.step gY rd2).put rd2 o1 o2
  rw [← eC] at P2
  have S3 : St l (readPs (1, 0, 12, 0) ({ Fr.zero with kind := 8, fin := true, tail := true }) (l.drop k)) f2 k2 e2 := S2
  clear sc P0 fbY iC2 C17 C1 HC gY o1 o2 rd2 S2 eC
  generalize Y.setRow (b + 1) C2 = U2 at *
  obtain ⟨D9, D17, D1, fb9, res9, bl9, FIN⟩ := P2.fin S3
  have iD : (Try.prog.info? 26).map (·.size) = some D9.size := by rw [D17]; exact Try.size26
  have HFIN : Hid (PPost w0 G (.slice (some ⟨ab, ao, none⟩) n c) l (readPs (1, 0, 12, 0) ({ Fr.zero with kind := 8, fin := true, tail := true }) (l.drop k)) (.returned (.agg D9)) (U2.setRow b D9)) := FIN
  clear FIN P2 S3
  generalize readPs (1, 0, 12, 0) ({ Fr.zero with kind := 8, fin := true, tail := true }) (l.drop k) = x at *
  go_wp2_with (first | (refine wpList_load_row rfl _ _ rfl (b + 1) rfl 26 D9 (0, 0) _ fb9 Try.underlying26 rfl iD ?_) | (refine wpList_store_row rfl _ _ _ rfl b D9 rfl rfl 26 _ res9 iD (by rw [D17]; rfl) D1 ?_))
  refine bodyPost_ret (results_cell_row Try.results56 _ _ b 26 D9 (0, 0) _ rfl bl9 Try.underlying26 rfl iD) rfl ?_
  exact unhide HFIN

end Go.Proofs.Ytggjeamondampaa

namespace Go.Proofs.Ytggjeamondampaa
open Go.RowKit
set_option linter.unusedVariables false
set_option linter.unusedSimpArgs false
set_option maxRecDepth 100000
set_option maxHeartbeats 2000000

theorem stream_10 {w0 W : World} {G k n c ab ao : Nat} {l : List Int} (R : RdD w0 W G (.slice (some ⟨ab, ao, none⟩) n c) k 0) (hr : Rd w0 (some ⟨ab, ao, none⟩) l) (hn : l.length = n) (hc : n < c) (hc2 : c ≤ maxLen) (hk : k ≤ n) (hl : n ≤ 100000000) :
    Calls Try.prog 79 #[.pointer (some ⟨G, 0, none⟩), .int .i64 10] W (fun en W' => PPost w0 G (.slice (some ⟨ab, ao, none⟩) n c) l (readPs (1, 0, 11, 0) ({ Fr.zero with kind := 8, fin := false, tail := false }) (l.drop k)) en W' ∧ W.grownBy W' (some G)) := by
  have P0 : PE W w0 ((W.alloc (.cells Z17 26)).alloc (.cells #[.int .i64 8, .int .i64 0, .int .i64 0, .slice none 0 0, .int .i64 0, .bool false, .bool false, .int .i64 0, .bool false, .int .i64 0, .bool false, .int .i64 0, .slice none 0 0, .bool false, .int .i64 0, .int .i64 0, .int .i64 0] 26)) G W.heap.size (.slice (some ⟨ab, ao, none⟩) n c) k 0 ({ Fr.zero with kind := 8, fin := false, tail := false }) nilS nilS := PE.new R ({ Fr.zero with kind := 8, fin := false, tail := false }) rfl rfl
  go_enter Try.func79, Try.ntmps79
  go_upto_region 2 with (refine wpList_store_new (W.alloc (.cells Z17 26)) Z17 #[.int .i64 8, .int .i64 0, .int .i64 0, .slice none 0 0, .int .i64 0, .bool false, .bool false, .int .i64 0, .bool false, .int .i64 0, .bool false, .int .i64 0, .slice none 0 0, .bool false, .int .i64 0, .int .i64 0, .int .i64 0] (W.heap.size + 1) rfl _ _ _ rfl (by simp) rfl rfl Try.size26 rfl (one17 ({ Fr.zero with kind := 8, fin := false, tail := false }) nilS nilS rfl rfl) ?_)
  generalize (W.alloc (.cells Z17 26)).alloc (.cells #[.int .i64 8, .int .i64 0, .int .i64 0, .slice none 0 0, .int .i64 0, .bool false, .bool false, .int .i64 0, .bool false, .int .i64 0, .bool false, .int .i64 0, .slice none 0 0, .bool false, .int .i64 0, .int .i64 0, .int .i64 0] 26) = U0 at *
  generalize W.heap.size = b at *
  have S0 := St.start l ({ Fr.zero with kind := 8, fin := false, tail := false }) k (by omega)
  have nu := P0.p.rd.num hr hn (by omega) hc2 hk
  go_upto_region 3 with (go_at_call 76; refine nu.mono ?_; rintro en Y1 ⟨v1, k1, e1, rfl, q1, rd1, g1⟩; have A1 := P0.step g1 rd1; have xt := A1.p.fb.thaws; have xj := A1.p.fb.cell 1 _ rfl)
  have hk1 : k1 ≤ n := by have h := (rdN_val (l := l) (k := k) (e := 0) hr.1 (by omega)).2.2.1; rw [← unhide q1] at h; simp only at h; omega
  have hv1 := rdN_val (l := l) (k := k) (e := 0) hr.1 (by omega)
  rw [← unhide q1] at hv1
  simp only at hv1
  unfold MAXN at hv1
  have S1 := S0.num (p := 1) hr.1 (by omega) (unhide q1) (f' := { Fr.zero with kind := 8, fin := false, tail := false, stream := v1 }) rfl
  have P1 := A1.set 1 (.int .i64 v1) ({ Fr.zero with kind := 8, fin := false, tail := false, stream := v1 }) rfl rfl rfl
  clear nu xt xj A1 P0 rd1 g1 q1
  generalize Y1.setCell ⟨b + 1, 1, none⟩ (.int .i64 v1) = U1 at *
  have z0 := P1.p.rd.blk.cell 0 (.slice (some ⟨ab, ao, none⟩) n c) rfl
  have z1 := P1.p.rd.blk.cell 1 (.int .i64 (k1 : Int)) rfl
  have wn : IntKind.i64.wrap ((n : Int) - (k1 : Int)) = (n : Int) - (k1 : Int) := by rw [IntKind.wrap_i64]; omega
  go_upto_region 5 with fail
  go_quiet (fail)
  have Q := P1.onN (grown_drewN (q := nq) (World.grownBy.refl U1 none))
  clear z0 z1 P1
  generalize U1.drewN nq = UQ at *
  have x6 := Q.p.fb.cell 6 (.bool false) rfl
  have nu := Q.p.rd.num hr hn (by omega) hc2 hk1
  go_upto_region 8 with (go_at_call 76; refine nu.mono ?_; rintro en Y9 ⟨v9, k9, e9, rfl, q9, rd9, g9⟩)
  have A9 := Q.step g9 rd9
  have hv9 := rdN_val (l := l) (k := k1) (e := e1) hr.1 (by omega)
  rw [← unhide q9] at hv9
  simp only at hv9
  unfold MAXN at hv9
  have hk9 : k9 ≤ n := by omega
  clear nu Q rd9 g9 x6
  have ws : IntKind.i64.wrap (4611686018427387903 - v9) = 4611686018427387903 - v9 := by rw [IntKind.wrap_i64]; omega
  have mu := A9.p.rd.must (true)
  have x2 := A9.p.fb.cell 2 (.int .i64 (0)) rfl
  have eqb : decide ((0 : Int) ≤ 4611686018427387903 - v9) = true := decide_eq_true (by omega)
  go_upto_region 9 with (go_at_call 77; refine mu.mono ?_; rintro en Z1 ⟨rfl, rm1, gm1⟩)
  have B1 := A9.step gm1 rm1
  clear mu x2 A9 rm1 gm1 ws
  have by1 := B1.p.rd.byts hr hn hc hc2 hk9 hl v9 (by omega) (by unfold MAXN; omega)
  go_upto_region 10 with (go_at_call 78; refine by1.mono ?_; rintro en X1 ⟨dv, D, kb, eb, rfl, qb, ob, rb, gb⟩; obtain ⟨da, dc, hdv⟩ := ob.shape; subst hdv; have D1 := B1.step gb rb; have xt := D1.p.fb.thaws; have xj := D1.p.fb.cell 3 _ rfl)
  have SF := S1.cntO (o := 0) hr.1 rfl (unhide q9) (by rw [eqb]; exact unhide qb) (f' := { Fr.zero with kind := 8, fin := false, tail := false, stream := v1, data := D }) rfl
  have PF := D1.setD ob
  clear by1 xt xj D1 B1 ob rb gb qb q9
  generalize X1.setCell ⟨b + 1, 3, none⟩ (.slice da D.length dc) = UF at *
  obtain ⟨D9, D17, D1, fb9, res9, bl9, FIN⟩ := PF.fin SF
  have iD : (Try.prog.info? 26).map (·.size) = some D9.size := by rw [D17]; exact Try.size26
  have HFIN : Hid (PPost w0 G (.slice (some ⟨ab, ao, none⟩) n c) l (readPs (1, 0, 11, 0) ({ Fr.zero with kind := 8, fin := false, tail := false }) (l.drop k)) (.returned (.agg D9)) (UF.setRow b D9) ∧ W.grownBy (UF.setRow b D9) (some G)) := by rw [readPs_eq]; simp only [bind_zero]; exact FIN
  clear FIN PF SF
  go_wp2_with (first | (refine wpList_load_row rfl _ _ rfl (b + 1) rfl 26 D9 (0, 0) _ fb9 Try.underlying26 rfl iD ?_) | (refine wpList_store_row rfl _ _ _ rfl b D9 rfl rfl 26 _ res9 iD (by rw [D17]; rfl) D1 ?_))
  refine bodyPost_ret (results_cell_row Try.results79 _ _ b 26 D9 (0, 0) _ rfl bl9 Try.underlying26 rfl iD) rfl ?_
  exact unhide HFIN

theorem parts_10 {w0 W : World} {G k n c ab ao : Nat} {l : List Int} (R : RdD w0 W G (.slice (some ⟨ab, ao, none⟩) n c) k 0) (hr : Rd w0 (some ⟨ab, ao, none⟩) l) (hn : l.length = n) (hc : n < c) (hc2 : c ≤ maxLen) (hk : k ≤ n) (hl : n ≤ 100000000) :
    Calls Try.prog 56 #[.pointer (some ⟨G, 0, none⟩), .int .i64 10] W (PPost w0 G (.slice (some ⟨ab, ao, none⟩) n c) l (readPs (1, 0, 11, 0) ({ Fr.zero with kind := 8, fin := false, tail := false }) (l.drop k))) := by
  have P0 : PD w0 ((W.alloc (.cells Z17 26)).alloc (.cells #[.int .i64 10, .int .i64 0, .int .i64 0, .slice none 0 0, .int .i64 0, .bool false, .bool false, .int .i64 0, .bool false, .int .i64 0, .bool false, .int .i64 0, .slice none 0 0, .bool false, .int .i64 0, .int .i64 0, .int .i64 0] 26)) G W.heap.size (.slice (some ⟨ab, ao, none⟩) n c) k 0 ({ Fr.zero with kind := 10 }) nilS nilS := PD.new R ({ Fr.zero with kind := 10 }) rfl rfl
  go_enter Try.func56, Try.ntmps56
  go_upto_region 2 with (refine wpList_store_new (W.alloc (.cells Z17 26)) Z17 #[.int .i64 10, .int .i64 0, .int .i64 0, .slice none 0 0, .int .i64 0, .bool false, .bool false, .int .i64 0, .bool false, .int .i64 0, .bool false, .int .i64 0, .slice none 0 0, .bool false, .int .i64 0, .int .i64 0, .int .i64 0] (W.heap.size + 1) rfl _ _ _ rfl (by simp) rfl rfl Try.size26 rfl (one17 ({ Fr.zero with kind := 10 }) nilS nilS rfl rfl) ?_)
  generalize (W.alloc (.cells Z17 26)).alloc (.cells #[.int .i64 10, .int .i64 0, .int .i64 0, .slice none 0 0, .int .i64 0, .bool false, .bool false, .int .i64 0, .bool false, .int .i64 0, .bool false, .int .i64 0, .slice none 0 0, .bool false, .int .i64 0, .int .i64 0, .int .i64 0] 26) = U0 at *
  generalize W.heap.size = b at *
  have sc := stream_10 P0.rd hr hn hc hc2 hk hl
  go_upto_region 55 with (first | (go_at_call 79; refine sc.mono ?_; rintro en Y ⟨⟨C2, rfl, C17, C1, HC⟩, gY⟩; have iC2 : (Try.prog.info? 26).map (·.size) = some C2.size := (by rw [C17]; exact Try.size26); have fbY := P0.fb.far gY (by have := P0.lt; omega)) | (refine wpList_store_row rfl _ _ _ rfl (b + 1) C2 rfl rfl 26 _ fbY iC2 (by rw [C17]; rfl) C1 ?_))
  obtain ⟨f2, d2, r2, k2, e2, eC, o1, o2, rd2, S2⟩ := unhide HC
  have P2 := (P0.step gY rd2).put rd2 o1 o2
  rw [← eC] at P2
  have S3 : St l (readPs (1, 0, 11, 0) ({ Fr.zero with kind := 8, fin := false, tail := false }) (l.drop k)) f2 k2 e2 := S2
  clear sc P0 fbY iC2 C17 C1 HC gY o1 o2 rd2 S2 eC
  generalize Y.setRow (b + 1) C2 = U2 at *
  obtain ⟨D9, D17, D1, fb9, res9, bl9, FIN⟩ := P2.fin S3
  have iD : (Try.prog.info? 26).map (·.size) = some D9.size := by rw [D17]; exact Try.size26
  have HFIN : Hid (PPost w0 G (.slice (some ⟨ab, ao, none⟩) n c) l (readPs (1, 0, 11, 0) ({ Fr.zero with kind := 8, fin := false, tail := false }) (l.drop k)) (.returned (.agg D9)) (U2.setRow b D9)) := FIN
  clear FIN P2 S3
  generalize readPs (1, 0, 11, 0) ({ Fr.zero with kind := 8, fin := false, tail := false }) (l.drop k) = x at *
  go_wp2_with (first | (refine wpList_load_row rfl _ _ rfl (b + 1) rfl 26 D9 (0, 0) _ fb9 Try.underlying26 rfl iD ?_) | (refine wpList_store_row rfl _ _ _ rfl b D9 rfl rfl 26 _ res9 iD (by rw [D17]; rfl) D1 ?_))
  refine bodyPost_ret (results_cell_row Try.results56 _ _ b 26 D9 (0, 0) _ rfl bl9 Try.underlying26 rfl iD) rfl ?_
  exact unhide HFIN

theorem stream_11 {w0 W : World} {G k n c ab ao : Nat} {l : List Int} (R : RdD w0 W G (.slice (some ⟨ab, ao, none⟩) n c) k 0) (hr : Rd w0 (some ⟨ab, ao, none⟩) l) (hn : l.length = n) (hc : n < c) (hc2 : c ≤ maxLen) (hk : k ≤ n) (hl : n ≤ 100000000) :
    Calls Try.prog 79 #[.pointer (some ⟨G, 0, none⟩), .int .i64 11] W (fun en W' => PPost w0 G (.slice (some ⟨ab, ao, none⟩) n c) l (readPs (1, 0, 11, 0) ({ Fr.zero with kind := 8, fin := true, tail := false }) (l.drop k)) en W' ∧ W.grownBy W' (some G)) := by
  have P0 : PE W w0 ((W.alloc (.cells Z17 26)).alloc (.cells #[.int .i64 8, .int .i64 0, .int .i64 0, .slice none 0 0, .int .i64 0, .bool true, .bool false, .int .i64 0, .bool false, .int .i64 0, .bool false, .int .i64 0, .slice none 0 0, .bool false, .int .i64 0, .int .i64 0, .int .i64 0] 26)) G W.heap.size (.slice (some ⟨ab, ao, none⟩) n c) k 0 ({ Fr.zero with kind := 8, fin := true, tail := false }) nilS nilS := PE.new R ({ Fr.zero with kind := 8, fin := true, tail := false }) rfl rfl
  go_enter Try.func79, Try.ntmps79
  go_upto_region 2 with (refine wpList_store_new (W.alloc (.cells Z17 26)) Z17 #[.int .i64 8, .int .i64 0, .int .i64 0, .slice none 0 0, .int .i64 0, .bool true, .bool false, .int .i64 0, .bool false, .int .i64 0, .bool false, .int .i64 0, .slice none 0 0, .bool false, .int .i64 0, .int .i64 0, .int .i64 0] (W.heap.size + 1) rfl _ _ _ rfl (by simp) rfl rfl Try.size26 rfl (one17 ({ Fr.zero with kind := 8, fin := true, tail := false }) nilS nilS rfl rfl) ?_)
  generalize (W.alloc (.cells Z17 26)).alloc (.cells #[.int .i64 8, .int .i64 0, .int .i64 0, .slice none 0 0, .int .i64 0, .bool true, .bool false, .int .i64 0, .bool false, .int .i64 0, .bool false, .int .i64 0, .slice none 0 0, .bool false, .int .i64 0, .int .i64 0, .int .i64 0] 26) = U0 at *
  generalize W.heap.size = b at *
  have S0 := St.start l ({ Fr.zero with kind := 8, fin := true, tail := false }) k (by omega)
  have nu := P0.p.rd.num hr hn (by omega) hc2 hk
  go_upto_region 3 with (go_at_call 76; refine nu.mono ?_; rintro en Y1 ⟨v1, k1, e1, rfl, q1, rd1, g1⟩; have A1 := P0.step g1 rd1; have xt := A1.p.fb.thaws; have xj := A1.p.fb.cell 1 _ rfl)
  have hk1 : k1 ≤ n := by have h := (rdN_val (l := l) (k := k) (e := 0) hr.1 (by omega)).2.2.1; rw [← unhide q1] at h; simp only at h; omega
  have hv1 := rdN_val (l := l) (k := k) (e := 0) hr.1 (by omega)
  rw [← unhide q1] at hv1
  simp only at hv1
  unfold MAXN at hv1
  have S1 := S0.num (p := 1) hr.1 (by omega) (unhide q1) (f' := { Fr.zero with kind := 8, fin := true, tail := false, stream := v1 }) rfl
  have P1 := A1.set 1 (.int .i64 v1) ({ Fr.zero with kind := 8, fin := true, tail := false, stream := v1 }) rfl rfl rfl
  clear nu xt xj A1 P0 rd1 g1 q1
  generalize Y1.setCell ⟨b + 1, 1, none⟩ (.int .i64 v1) = U1 at *
  have z0 := P1.p.rd.blk.cell 0 (.slice (some ⟨ab, ao, none⟩) n c) rfl
  have z1 := P1.p.rd.blk.cell 1 (.int .i64 (k1 : Int)) rfl
  have wn : IntKind.i64.wrap ((n : Int) - (k1 : Int)) = (n : Int) - (k1 : Int) := by rw [IntKind.wrap_i64]; omega
  go_upto_region 5 with fail
  go_quiet (fail)
  have Q := P1.onN (grown_drewN (q := nq) (World.grownBy.refl U1 none))
  clear z0 z1 P1
  generalize U1.drewN nq = UQ at *
  have x6 := Q.p.fb.cell 6 (.bool false) rfl
  have nu := Q.p.rd.num hr hn (by omega) hc2 hk1
  go_upto_region 8 with (go_at_call 76; refine nu.mono ?_; rintro en Y9 ⟨v9, k9, e9, rfl, q9, rd9, g9⟩)
  have A9 := Q.step g9 rd9
  have hv9 := rdN_val (l := l) (k := k1) (e := e1) hr.1 (by omega)
  rw [← unhide q9] at hv9
  simp only at hv9
  unfold MAXN at hv9
  have hk9 : k9 ≤ n := by omega
  clear nu Q rd9 g9 x6
  have ws : IntKind.i64.wrap (4611686018427387903 - v9) = 4611686018427387903 - v9 := by rw [IntKind.wrap_i64]; omega
  have mu := A9.p.rd.must (true)
  have x2 := A9.p.fb.cell 2 (.int .i64 (0)) rfl
  have eqb : decide ((0 : Int) ≤ 4611686018427387903 - v9) = true := decide_eq_true (by omega)
  go_upto_region 9 with (go_at_call 77; refine mu.mono ?_; rintro en Z1 ⟨rfl, rm1, gm1⟩)
  have B1 := A9.step gm1 rm1
  clear mu x2 A9 rm1 gm1 ws
  have by1 := B1.p.rd.byts hr hn hc hc2 hk9 hl v9 (by omega) (by unfold MAXN; omega)
  go_upto_region 10 with (go_at_call 78; refine by1.mono ?_; rintro en X1 ⟨dv, D, kb, eb, rfl, qb, ob, rb, gb⟩; obtain ⟨da, dc, hdv⟩ := ob.shape; subst hdv; have D1 := B1.step gb rb; have xt := D1.p.fb.thaws; have xj := D1.p.fb.cell 3 _ rfl)
  have SF := S1.cntO (o := 0) hr.1 rfl (unhide q9) (by rw [eqb]; exact unhide qb) (f' := { Fr.zero with kind := 8, fin := true, tail := false, stream := v1, data := D }) rfl
  have PF := D1.setD ob
  clear by1 xt xj D1 B1 ob rb gb qb q9
  generalize X1.setCell ⟨b + 1, 3, none⟩ (.slice da D.length dc) = UF at *
  obtain ⟨D9, D17, D1, fb9, res9, bl9, FIN⟩ := PF.fin SF
  have iD : (Try.prog.info? 26).map (·.size) = some D9.size := by rw [D17]; exact Try.size26
  have HFIN : Hid (PPost w0 G (.slice (some ⟨ab, ao, none⟩) n c) l (readPs (1, 0, 11, 0) ({ Fr.zero with kind := 8, fin := true, tail := false }) (l.drop k)) (.returned (.agg D9)) (UF.setRow b D9) ∧ W.grownBy (UF.setRow b D9) (some G)) := by rw [readPs_eq]; simp only [bind_zero]; exact FIN
  clear FIN PF SF
  go_wp2_with (first | (refine wpList_load_row rfl _ _ rfl (b + 1) rfl 26 D9 (0, 0) _ fb9 Try.underlying26 rfl iD ?_) | (refine wpList_store_row rfl _ _ _ rfl b D9 rfl rfl 26 _ res9 iD (by rw [D17]; rfl) D1 ?_))
  refine bodyPost_ret (results_cell_row Try.results79 _ _ b 26 D9 (0, 0) _ rfl bl9 Try.underlying26 rfl iD) rfl ?_
  exact unhide HFIN

theorem parts_11 {w0 W : World} {G k n c ab ao : Nat} {l : List Int} (R : RdD w0 W G (.slice (some ⟨ab, ao, none⟩) n c) k 0) (hr : Rd w0 (some ⟨ab, ao, none⟩) l) (hn : l.length = n) (hc : n < c) (hc2 : c ≤ maxLen) (hk : k ≤ n) (hl : n ≤ 100000000) :
    Calls Try.prog 56 #[.pointer (some ⟨G, 0, none⟩), .int .i64 11] W (PPost w0 G (.slice (some ⟨ab, ao, none⟩) n c) l (readPs (1, 0, 11, 0) ({ Fr.zero with kind := 8, fin := true, tail := false }) (l.drop k))) := by
  have P0 : PD w0 ((W.alloc (.cells Z17 26)).alloc (.cells #[.int .i64 11, .int .i64 0, .int .i64 0, .slice none 0 0, .int .i64 0, .bool false, .bool false, .int .i64 0, .bool false, .int .i64 0, .bool false, .int .i64 0, .slice none 0 0, .bool false, .int .i64 0, .int .i64 0, .int .i64 0] 26)) G W.heap.size (.slice (some ⟨ab, ao, none⟩) n c) k 0 ({ Fr.zero with kind := 11 }) nilS nilS := PD.new R ({ Fr.zero with kind := 11 }) rfl rfl
  go_enter Try.func56, Try.ntmps56
  go_upto_region 2 with (refine wpList_store_new (W.alloc (.cells Z17 26)) Z17 #[.int .i64 11, .int .i64 0, .int .i64 0, .slice none 0 0, .int .i64 0, .bool false, .bool false, .int .i64 0, .bool false, .int .i64 0, .bool false, .int .i64 0, .slice none 0 0, .bool false, .int .i64 0, .int .i64 0, .int .i64 0] (W.heap.size + 1) rfl _ _ _ rfl (by simp) rfl rfl Try.size26 rfl (one17 ({ Fr.zero with kind := 11 }) nilS nilS rfl rfl) ?_)
  generalize (W.alloc (.cells Z17 26)).alloc (.cells #[.int .i64 11, .int .i64 0, .int .i64 0, .slice none 0 0, .int .i64 0, .bool false, .bool false, .int .i64 0, .bool false, .int .i64 0, .bool false, .int .i64 0, .slice none 0 0, .bool false, .int .i64 0, .int .i64 0, .int .i64 0] 26) = U0 at *
  generalize W.heap.size = b at *
  have sc := stream_11 P0.rd hr hn hc hc2 hk hl
  go_upto_region 55 with (first | (go_at_call 79; refine sc.mono ?_; rintro en Y ⟨⟨C2, rfl, C17, C1, HC⟩, gY⟩; have iC2 : (Try.prog.info? 26).map (·.size) = some C2.size := (by rw [C17]; exact Try.size26); have fbY := P0.fb.far gY (by have := P0.lt; omega)) | (refine wpList_store_row rfl _ _ _ rfl (b + 1) C2 rfl rfl 26 _ fbY iC2 (by rw [C17]; rfl) C1 ?_))
  obtain ⟨f2, d2, r2, k2, e2, eC, o1, o2, rd2, S2⟩ := unhide HC
  have P2 := (P0.step gY rd2).put rd2 o1 o2
  rw [← eC] at P2
  have S3 : St l (readPs (1, 0, 11, 0) ({ Fr.zero with kind := 8, fin := true, tail := false }) (l.drop k)) f2 k2 e2 := S2
  clear sc P0 fbY iC2 C17 C1 HC gY o1 o2 rd2 S2 eC
  generalize Y.setRow (b + 1) C2 = U2 at *
  obtain ⟨D9, D17, D1, fb9, res9, bl9, FIN⟩ := P2.fin S3
  have iD : (Try.prog.info? 26).map (·.size) = some D9.size := by rw [D17]; exact Try.size26
  have HFIN : Hid (PPost w0 G (.slice (some ⟨ab, ao, none⟩) n c) l (readPs (1, 0, 11, 0) ({ Fr.zero with kind := 8, fin := true, tail := false }) (l.drop k)) (.returned (.agg D9)) (U2.setRow b D9)) := FIN
  clear FIN P2 S3
  generalize readPs (1, 0, 11, 0) ({ Fr.zero with kind := 8, fin := true, tail := false }) (l.drop k) = x at *
  go_wp2_with (first | (refine wpList_load_row rfl _ _ rfl (b + 1) rfl 26 D9 (0, 0) _ fb9 Try.underlying26 rfl iD ?_) | (refine wpList_store_row rfl _ _ _ rfl b D9 rfl rfl 26 _ res9 iD (by rw [D17]; rfl) D1 ?_))
  refine bodyPost_ret (results_cell_row Try.results56 _ _ b 26 D9 (0, 0) _ rfl bl9 Try.underlying26 rfl iD) rfl ?_
  exact unhide HFIN

end Go.Proofs.Ytggjeamondampaa

namespace Go.Proofs.Ytggjeamondampaa
open Go.RowKit
set_option linter.unusedVariables false
set_option linter.unusedSimpArgs false
set_option maxRecDepth 100000
set_option maxHeartbeats 2000000

theorem stream_12 {w0 W : World} {G k n c ab ao : Nat} {l : List Int} (R : RdD w0 W G (.slice (some ⟨ab, ao, none⟩) n c) k 0) (hr : Rd w0 (some ⟨ab, ao, none⟩) l) (hn : l.length = n) (hc : n < c) (hc2 : c ≤ maxLen) (hk : k ≤ n) (hl : n ≤ 100000000) :
    Calls Try.prog 79 #[.pointer (some ⟨G, 0, none⟩), .int .i64 12] W (fun en W' => PPost w0 G (.slice (some ⟨ab, ao, none⟩) n c) l (readPs (1, 2, 12, 0) ({ Fr.zero with kind := 8, fin := false, tail := true }) (l.drop k)) en W' ∧ W.grownBy W' (some G)) := by
  have P0 : PE W w0 ((W.alloc (.cells Z17 26)).alloc (.cells #[.int .i64 8, .int .i64 0, .int .i64 0, .slice none 0 0, .int .i64 0, .bool false, .bool true, .int .i64 0, .bool false, .int .i64 0, .bool false, .int .i64 0, .slice none 0 0, .bool false, .int .i64 0, .int .i64 0, .int .i64 0] 26)) G W.heap.size (.slice (some ⟨ab, ao, none⟩) n c) k 0 ({ Fr.zero with kind := 8, fin := false, tail := true }) nilS nilS := PE.new R ({ Fr.zero with kind := 8, fin := false, tail := true }) rfl rfl
  go_enter Try.func79, Try.ntmps79
  go_upto_region 2 with (refine wpList_store_new (W.alloc (.cells Z17 26)) Z17 #[.int .i64 8, .int .i64 0, .int .i64 0, .slice none 0 0, .int .i64 0, .bool false, .bool true, .int .i64 0, .bool false, .int .i64 0, .bool false, .int .i64 0, .slice none 0 0, .bool false, .int .i64 0, .int .i64 0, .int .i64 0] (W.heap.size + 1) rfl _ _ _ rfl (by simp) rfl rfl Try.size26 rfl (one17 ({ Fr.zero with kind := 8, fin := false, tail := true }) nilS nilS rfl rfl) ?_)
  generalize (W.alloc (.cells Z17 26)).alloc (.cells #[.int .i64 8, .int .i64 0, .int .i64 0, .slice none 0 0, .int .i64 0, .bool false, .bool true, .int .i64 0, .bool false, .int .i64 0, .bool false, .int .i64 0, .slice none 0 0, .bool false, .int .i64 0, .int .i64 0, .int .i64 0] 26) = U0 at *
  generalize W.heap.size = b at *
  have S0 := St.start l ({ Fr.zero with kind := 8, fin := false, tail := true }) k (by omega)
  have nu := P0.p.rd.num hr hn (by omega) hc2 hk
  go_upto_region 3 with (go_at_call 76; refine nu.mono ?_; rintro en Y1 ⟨v1, k1, e1, rfl, q1, rd1, g1⟩; have A1 := P0.step g1 rd1; have xt := A1.p.fb.thaws; have xj := A1.p.fb.cell 1 _ rfl)
  have hk1 : k1 ≤ n := by have h := (rdN_val (l := l) (k := k) (e := 0) hr.1 (by omega)).2.2.1; rw [← unhide q1] at h; simp only at h; omega
  have hv1 := rdN_val (l := l) (k := k) (e := 0) hr.1 (by omega)
  rw [← unhide q1] at hv1
  simp only at hv1
  unfold MAXN at hv1
  have S1 := S0.num (p := 1) hr.1 (by omega) (unhide q1) (f' := { Fr.zero with kind := 8, fin := false, tail := true, stream := v1 }) rfl
  have P1 := A1.set 1 (.int .i64 v1) ({ Fr.zero with kind := 8, fin := false, tail := true, stream := v1 }) rfl rfl rfl
  clear nu xt xj A1 P0 rd1 g1 q1
  generalize Y1.setCell ⟨b + 1, 1, none⟩ (.int .i64 v1) = U1 at *
  have nu := P1.p.rd.num hr hn (by omega) hc2 hk1
  go_upto_region 5 with (go_at_call 76; refine nu.mono ?_; rintro en Y2 ⟨v2, k2, e2, rfl, q2, rd2, g2⟩; have A2 := P1.step g2 rd2; have xt := A2.p.fb.thaws; have xj := A2.p.fb.cell 2 _ rfl)
  have hk2 : k2 ≤ n := by have h := (rdN_val (l := l) (k := k1) (e := e1) hr.1 (by omega)).2.2.1; rw [← unhide q2] at h; simp only at h; omega
  have hv2 := rdN_val (l := l) (k := k1) (e := e1) hr.1 (by omega)
  rw [← unhide q2] at hv2
  simp only at hv2
  unfold MAXN at hv2
  have S2 := S1.num (p := 2) hr.1 (by omega) (unhide q2) (f' := { Fr.zero with kind := 8, fin := false, tail := true, stream := v1, offset := v2 }) rfl
  have P2 := A2.set 2 (.int .i64 v2) ({ Fr.zero with kind := 8, fin := false, tail := true, stream := v1, offset := v2 }) rfl rfl rfl
  clear nu xt xj A2 P1 rd2 g2 q2
  generalize Y2.setCell ⟨b + 1, 2, none⟩ (.int .i64 v2) = U2 at *
  have z0 := P2.p.rd.blk.cell 0 (.slice (some ⟨ab, ao, none⟩) n c) rfl
  have z1 := P2.p.rd.blk.cell 1 (.int .i64 (k2 : Int)) rfl
  have wn : IntKind.i64.wrap ((n : Int) - (k2 : Int)) = (n : Int) - (k2 : Int) := by rw [IntKind.wrap_i64]; omega
  go_upto_region 5 with fail
  go_quiet (fail)
  have Q := P2.onN (grown_drewN (q := nq) (World.grownBy.refl U2 none))
  clear z0 z1 P2
  generalize U2.drewN nq = UQ at *
  have x6 := Q.p.fb.cell 6 (.bool true) rfl
  have ws : IntKind.i64.wrap (4611686018427387903 - ((n : Int) - (k2 : Int))) = 4611686018427387903 - ((n : Int) - (k2 : Int)) := by rw [IntKind.wrap_i64]; omega
  have mu := Q.p.rd.must (decide (v2 ≤ 4611686018427387903 - ((n : Int) - (k2 : Int))))
  have x2 := Q.p.fb.cell 2 (.int .i64 (v2)) rfl
  go_upto_region 9 with (go_at_call 77; refine mu.mono ?_; rintro en Z1 ⟨rfl, rm1, gm1⟩)
  have B1 := Q.step gm1 rm1
  clear mu x2 Q rm1 gm1 ws x6
  have by1 := B1.p.rd.byts hr hn hc hc2 hk2 hl ((n : Int) - (k2 : Int)) (by omega) (by unfold MAXN; omega)
  go_upto_region 10 with (go_at_call 78; refine by1.mono ?_; rintro en X1 ⟨dv, D, kb, eb, rfl, qb, ob, rb, gb⟩; obtain ⟨da, dc, hdv⟩ := ob.shape; subst hdv; have D1 := B1.step gb rb; have xt := D1.p.fb.thaws; have xj := D1.p.fb.cell 3 _ rfl)
  have SF := S2.tail (by rw [hn]; exact unhide qb) (f' := { Fr.zero with kind := 8, fin := false, tail := true, stream := v1, offset := v2, data := D }) rfl
  have PF := D1.setD ob
  clear by1 xt xj D1 B1 ob rb gb qb
  generalize X1.setCell ⟨b + 1, 3, none⟩ (.slice da D.length dc) = UF at *
  obtain ⟨D9, D17, D1, fb9, res9, bl9, FIN⟩ := PF.fin SF
  have iD : (Try.prog.info? 26).map (·.size) = some D9.size := by rw [D17]; exact Try.size26
  have HFIN : Hid (PPost w0 G (.slice (some ⟨ab, ao, none⟩) n c) l (readPs (1, 2, 12, 0) ({ Fr.zero with kind := 8, fin := false, tail := true }) (l.drop k)) (.returned (.agg D9)) (UF.setRow b D9) ∧ W.grownBy (UF.setRow b D9) (some G)) := by rw [readPs_eq]; simp only [bind_zero]; exact FIN
  clear FIN PF SF
  go_wp2_with (first | (refine wpList_load_row rfl _ _ rfl (b + 1) rfl 26 D9 (0, 0) _ fb9 Try.underlying26 rfl iD ?_) | (refine wpList_store_row rfl _ _ _ rfl b D9 rfl rfl 26 _ res9 iD (by rw [D17]; rfl) D1 ?_))
  refine bodyPost_ret (results_cell_row Try.results79 _ _ b 26 D9 (0, 0) _ rfl bl9 Try.underlying26 rfl iD) rfl ?_
  exact unhide HFIN

theorem parts_12 {w0 W : World} {G k n c ab ao : Nat} {l : List Int} (R : RdD w0 W G (.slice (some ⟨ab, ao, none⟩) n c) k 0) (hr : Rd w0 (some ⟨ab, ao, none⟩) l) (hn : l.length = n) (hc : n < c) (hc2 : c ≤ maxLen) (hk : k ≤ n) (hl : n ≤ 100000000) :
    Calls Try.prog 56 #[.pointer (some ⟨G, 0, none⟩), .int .i64 12] W (PPost w0 G (.slice (some ⟨ab, ao, none⟩) n c) l (readPs (1, 2, 12, 0) ({ Fr.zero with kind := 8, fin := false, tail := true }) (l.drop k))) := by
  have P0 : PD w0 ((W.alloc (.cells Z17 26)).alloc (.cells #[.int .i64 12, .int .i64 0, .int .i64 0, .slice none 0 0, .int .i64 0, .bool false, .bool false, .int .i64 0, .bool false, .int .i64 0, .bool false, .int .i64 0, .slice none 0 0, .bool false, .int .i64 0, .int .i64 0, .int .i64 0] 26)) G W.heap.size (.slice (some ⟨ab, ao, none⟩) n c) k 0 ({ Fr.zero with kind := 12 }) nilS nilS := PD.new R ({ Fr.zero with kind := 12 }) rfl rfl
  go_enter Try.func56, Try.ntmps56
  go_upto_region 2 with (refine wpList_store_new (W.alloc (.cells Z17 26)) Z17 #[.int .i64 12, .int .i64 0, .int .i64 0, .slice none 0 0, .int .i64 0, .bool false, .bool false, .int .i64 0, .bool false, .int .i64 0, .bool false, .int .i64 0, .slice none 0 0, .bool false, .int .i64 0, .int .i64 0, .int .i64 0] (W.heap.size + 1) rfl _ _ _ rfl (by simp) rfl rfl Try.size26 rfl (one17 ({ Fr.zero with kind := 12 }) nilS nilS rfl rfl) ?_)
  generalize (W.alloc (.cells Z17 26)).alloc (.cells #[.int .i64 12, .int .i64 0, .int .i64 0, .slice none 0 0, .int .i64 0, .bool false, .bool false, .int .i64 0, .bool false, .int .i64 0, .bool false, .int .i64 0, .slice none 0 0, .bool false, .int .i64 0, .int .i64 0, .int .i64 0] 26) = U0 at *
  generalize W.heap.size = b at *
  have sc := stream_12 P0.rd hr hn hc hc2 hk hl
  go_upto_region 55 with (first | (go_at_call 79; refine sc.mono ?_; rintro en Y ⟨⟨C2, rfl, C17, C1, HC⟩, gY⟩; have iC2 : (Try.prog.info? 26).map (·.size) = some C2.size := (by rw [C17]; exact Try.size26); have fbY := P0.fb.far gY (by have := P0.lt; omega)) | (refine wpList_store_row rfl _ _ _ rfl (b + 1) C2 rfl rfl 26 _ fbY iC2 (by rw [C17]; rfl) C1 ?_))
  obtain ⟨f2, d2, r2, k2, e2, eC, o1, o2, rd2, S2⟩ := unhide HC
  have P2 := (P0.step gY rd2).put rd2 o1 o2
  rw [← eC] at P2
  have S3 : St l (readPs (1, 2, 12, 0) ({ Fr.zero with kind := 8, fin := false, tail := true }) (l.drop k)) f2 k2 e2 := S2
  clear sc P0 fbY iC2 C17 C1 HC gY o1 o2 rd2 S2 eC
  generalize Y.setRow (b + 1) C2 = U2 at *
  obtain ⟨D9, D17, D1, fb9, res9, bl9, FIN⟩ := P2.fin S3
  have iD : (Try.prog.info? 26).map (·.size) = some D9.size := by rw [D17]; exact Try.size26
  have HFIN : Hid (PPost w0 G (.slice (some ⟨ab, ao, none⟩) n c) l (readPs (1, 2, 12, 0) ({ Fr.zero with kind := 8, fin := false, tail := true }) (l.drop k)) (.returned (.agg D9)) (U2.setRow b D9)) := FIN
  clear FIN P2 S3
  generalize readPs (1, 2, 12, 0) ({ Fr.zero with kind := 8, fin := false, tail := true }) (l.drop k) = x at *
  go_wp2_with (first | (refine wpList_load_row rfl _ _ rfl (b + 1) rfl 26 D9 (0, 0) _ fb9 Try.underlying26 rfl iD ?_) | (refine wpList_store_row rfl _ _ _ rfl b D9 rfl rfl 26 _ res9 iD (by rw [D17]; rfl) D1 ?_))
  refine bodyPost_ret (results_cell_row Try.results56 _ _ b 26 D9 (0, 0) _ rfl bl9 Try.underlying26 rfl iD) rfl ?_
  exact unhide HFIN

theorem stream_13 {w0 W : World} {G k n c ab ao : Nat} {l : List Int} (R : RdD w0 W G (.slice (some ⟨ab, ao, none⟩) n c) k 0) (hr : Rd w0 (some ⟨ab, ao, none⟩) l) (hn : l.length = n) (hc : n < c) (hc2 : c ≤ maxLen) (hk : k ≤ n) (hl : n ≤ 100000000) :
    Calls Try.prog 79 #[.pointer (some ⟨G, 0, none⟩), .int .i64 13] W (fun en W' => PPost w0 G (.slice (some ⟨ab, ao, none⟩) n c) l (readPs (1, 2, 12, 0) ({ Fr.zero with kind := 8, fin := true, tail := true }) (l.drop k)) en W' ∧ W.grownBy W' (some G)) := by
  have P0 : PE W w0 ((W.alloc (.cells Z17 26)).alloc (.cells #[.int .i64 8, .int .i64 0, .int .i64 0, .slice none 0 0, .int .i64 0, .bool true, .bool true, .int .i64 0, .bool false, .int .i64 0, .bool false, .int .i64 0, .slice none 0 0, .bool false, .int .i64 0, .int .i64 0, .int .i64 0] 26)) G W.heap.size (.slice (some ⟨ab, ao, none⟩) n c) k 0 ({ Fr.zero with kind := 8, fin := true, tail := true }) nilS nilS := PE.new R ({ Fr.zero with kind := 8, fin := true, tail := true }) rfl rfl
  go_enter Try.func79, Try.ntmps79
  go_upto_region 2 with (refine wpList_store_new (W.alloc (.cells Z17 26)) Z17 #[.int .i64 8, .int .i64 0, .int .i64 0, .slice none 0 0, .int .i64 0, .bool true, .bool true, .int .i64 0, .bool false, .int .i64 0, .bool false, .int .i64 0, .slice none 0 0, .bool false, .int .i64 0, .int .i64 0, .int .i64 0] (W.heap.size + 1) rfl _ _ _ rfl (by simp) rfl rfl Try.size26 rfl (one17 ({ Fr.zero with kind := 8, fin := true, tail := true }) nilS nilS rfl rfl) ?_)
  generalize (W.alloc (.cells Z17 26)).alloc (.cells #[.int .i64 8, .int .i64 0, .int .i64 0, .slice none 0 0, .int .i64 0, .bool true, .bool true, .int .i64 0, .bool false, .int .i64 0, .bool false, .int .i64 0, .slice none 0 0, .bool false, .int .i64 0, .int .i64 0, .int .i64 0] 26) = U0 at *
  generalize W.heap.size = b at *
  have S0 := St.start l ({ Fr.zero with kind := 8, fin := true, tail := true }) k (by omega)
  have nu := P0.p.rd.num hr hn (by omega) hc2 hk
  go_upto_region 3 with (go_at_call 76; refine nu.mono ?_; rintro en Y1 ⟨v1, k1, e1, rfl, q1, rd1, g1⟩; have A1 := P0.step g1 rd1; have xt := A1.p.fb.thaws; have xj := A1.p.fb.cell 1 _ rfl)
  have hk1 : k1 ≤ n := by have h := (rdN_val (l := l) (k := k) (e := 0) hr.1 (by omega)).2.2.1; rw [← unhide q1] at h; simp only at h; omega
  have hv1 := rdN_val (l := l) (k := k) (e := 0) hr.1 (by omega)
  rw [← unhide q1] at hv1
  simp only at hv1
  unfold MAXN at hv1
  have S1 := S0.num (p := 1) hr.1 (by omega) (unhide q1) (f' := { Fr.zero with kind := 8, fin := true, tail := true, stream := v1 }) rfl
  have P1 := A1.set 1 (.int .i64 v1) ({ Fr.zero with kind := 8, fin := true, tail := true, stream := v1 }) rfl rfl rfl
  clear nu xt xj A1 P0 rd1 g1 q1
  generalize Y1.setCell ⟨b + 1, 1, none⟩ (.int .i64 v1) = U1 at *
  have nu := P1.p.rd.num hr hn (by omega) hc2 hk1
  go_upto_region 5 with (go_at_call 76; refine nu.mono ?_; rintro en Y2 ⟨v2, k2, e2, rfl, q2, rd2, g2⟩; have A2 := P1.step g2 rd2; have xt := A2.p.fb.thaws; have xj := A2.p.fb.cell 2 _ rfl)
  have hk2 : k2 ≤ n := by have h := (rdN_val (l := l) (k := k1) (e := e1) hr.1 (by omega)).2.2.1; rw [← unhide q2] at h; simp only at h; omega
  have hv2 := rdN_val (l := l) (k := k1) (e := e1) hr.1 (by omega)
  rw [← unhide q2] at hv2
  simp only at hv2
  unfold MAXN at hv2
  have S2 := S1.num (p := 2) hr.1 (by omega) (unhide q2) (f' := { Fr.zero with kind := 8, fin := true, tail := true, stream := v1, offset := v2 }) rfl
  have P2 := A2.set 2 (.int .i64 v2) ({ Fr.zero with kind := 8, fin := true, tail := true, stream := v1, offset := v2 }) rfl rfl rfl
  clear nu xt xj A2 P1 rd2 g2 q2
  generalize Y2.setCell ⟨b + 1, 2, none⟩ (.int .i64 v2) = U2 at *
  have z0 := P2.p.rd.blk.cell 0 (.slice (some ⟨ab, ao, none⟩) n c) rfl
  have z1 := P2.p.rd.blk.cell 1 (.int .i64 (k2 : Int)) rfl
  have wn : IntKind.i64.wrap ((n : Int) - (k2 : Int)) = (n : Int) - (k2 : Int) := by rw [IntKind.wrap_i64]; omega
  go_upto_region 5 with fail
  go_quiet (fail)
  have Q := P2.onN (grown_drewN (q := nq) (World.grownBy.refl U2 none))
  clear z0 z1 P2
  generalize U2.drewN nq = UQ at *
  have x6 := Q.p.fb.cell 6 (.bool true) rfl
  have ws : IntKind.i64.wrap (4611686018427387903 - ((n : Int) - (k2 : Int))) = 4611686018427387903 - ((n : Int) - (k2 : Int)) := by rw [IntKind.wrap_i64]; omega
  have mu := Q.p.rd.must (decide (v2 ≤ 4611686018427387903 - ((n : Int) - (k2 : Int))))
  have x2 := Q.p.fb.cell 2 (.int .i64 (v2)) rfl
  go_upto_region 9 with (go_at_call 77; refine mu.mono ?_; rintro en Z1 ⟨rfl, rm1, gm1⟩)
  have B1 := Q.step gm1 rm1
  clear mu x2 Q rm1 gm1 ws x6
  have by1 := B1.p.rd.byts hr hn hc hc2 hk2 hl ((n : Int) - (k2 : Int)) (by omega) (by unfold MAXN; omega)
  go_upto_region 10 with (go_at_call 78; refine by1.mono ?_; rintro en X1 ⟨dv, D, kb, eb, rfl, qb, ob, rb, gb⟩; obtain ⟨da, dc, hdv⟩ := ob.shape; subst hdv; have D1 := B1.step gb rb; have xt := D1.p.fb.thaws; have xj := D1.p.fb.cell 3 _ rfl)
  have SF := S2.tail (by rw [hn]; exact unhide qb) (f' := { Fr.zero with kind := 8, fin := true, tail := true, stream := v1, offset := v2, data := D }) rfl
  have PF := D1.setD ob
  clear by1 xt xj D1 B1 ob rb gb qb
  generalize X1.setCell ⟨b + 1, 3, none⟩ (.slice da D.length dc) = UF at *
  obtain ⟨D9, D17, D1, fb9, res9, bl9, FIN⟩ := PF.fin SF
  have iD : (Try.prog.info? 26).map (·.size) = some D9.size := by rw [D17]; exact Try.size26
  have HFIN : Hid (PPost w0 G (.slice (some ⟨ab, ao, none⟩) n c) l (readPs (1, 2, 12, 0) ({ Fr.zero with kind := 8, fin := true, tail := true }) (l.drop k)) (.returned (.agg D9)) (UF.setRow b D9) ∧ W.grownBy (UF.setRow b D9) (some G)) := by rw [readPs_eq]; simp only [bind_zero]; exact FIN
  clear FIN PF SF
  go_wp2_with (first | (refine wpList_load_row rfl _ _ rfl (b + 1) rfl 26 D9 (0, 0) _ fb9 Try.underlying26 rfl iD ?_) | (refine wpList_store_row rfl _ _ _ rfl b D9 rfl rfl 26 _ res9 iD (by rw [D17]; rfl) D1 ?_))
  refine bodyPost_ret (results_cell_row Try.results79 _ _ b 26 D9 (0, 0) _ rfl bl9 Try.underlying26 rfl iD) rfl ?_
  exact unhide HFIN

theorem parts_13 {w0 W : World} {G k n c ab ao : Nat} {l : List Int} (R : RdD w0 W G (.slice (some ⟨ab, ao, none⟩) n c) k 0) (hr : Rd w0 (some ⟨ab, ao, none⟩) l) (hn : l.length = n) (hc : n < c) (hc2 : c ≤ maxLen) (hk : k ≤ n) (hl : n ≤ 100000000) :
    Calls Try.prog 56 #[.pointer (some ⟨G, 0, none⟩), .int .i64 13] W (PPost w0 G (.slice (some ⟨ab, ao, none⟩) n c) l (readPs (1, 2, 12, 0) ({ Fr.zero with kind := 8, fin := true, tail := true }) (l.drop k))) := by
  have P0 : PD w0 ((W.alloc (.cells Z17 26)).alloc (.cells #[.int .i64 13, .int .i64 0, .int .i64 0, .slice none 0 0, .int .i64 0, .bool false, .bool false, .int .i64 0, .bool false, .int .i64 0, .bool false, .int .i64 0, .slice none 0 0, .bool false, .int .i64 0, .int .i64 0, .int .i64 0] 26)) G W.heap.size (.slice (some ⟨ab, ao, none⟩) n c) k 0 ({ Fr.zero with kind := 13 }) nilS nilS := PD.new R ({ Fr.zero with kind := 13 }) rfl rfl
  go_enter Try.func56, Try.ntmps56
  go_upto_region 2 with (refine wpList_store_new (W.alloc (.cells Z17 26)) Z17 #[.int .i64 13, .int .i64 0, .int .i64 0, .slice none 0 0, .int .i64 0, .bool false, .bool false, .int .i64 0, .bool false, .int .i64 0, .bool false, .int .i64 0, .slice none 0 0, .bool false, .int .i64 0, .int .i64 0, .int .i64 0] (W.heap.size + 1) rfl _ _ _ rfl (by simp) rfl rfl Try.size26 rfl (one17 ({ Fr.zero with kind := 13 }) nilS nilS rfl rfl) ?_)
  generalize (W.alloc (.cells Z17 26)).alloc (.cells #[.int .i64 13, .int .i64 0, .int .i64 0, .slice none 0 0, .int .i64 0, .bool false, .bool false, .int .i64 0, .bool false, .int .i64 0, .bool false, .int .i64 0, .slice none 0 0, .bool false, .int .i64 0, .int .i64 0, .int .i64 0] 26) = U0 at *
  generalize W.heap.size = b at *
  have sc := stream_13 P0.rd hr hn hc hc2 hk hl
  go_upto_region 55 with (first | (go_at_call 79; refine sc.mono ?_; rintro en Y ⟨⟨C2, rfl, C17, C1, HC⟩, gY⟩; have iC2 : (Try.prog.info? 26).map (·.size) = some C2.size := (by rw [C17]; exact Try.size26); have fbY := P0.fb.far gY (by have := P0.lt; omega)) | (refine wpList_store_row rfl _ _ _ rfl (b + 1) C2 rfl rfl 26 _ fbY iC2 (by rw [C17]; rfl) C1 ?_))
  obtain ⟨f2, d2, r2, k2, e2, eC, o1, o2, rd2, S2⟩ := unhide HC
  have P2 := (P0.step gY rd2).put rd2 o1 o2
  rw [← eC] at P2
  have S3 : St l (readPs (1, 2, 12, 0) ({ Fr.zero with kind := 8, fin := true, tail := true }) (l.drop k)) f2 k2 e2 := S2
  clear sc P0 fbY iC2 C17 C1 HC gY o1 o2 rd2 S2 eC
  generalize Y.setRow (b + 1) C2 = U2 at *
  obtain ⟨D9, D17, D1, fb9, res9, bl9, FIN⟩ := P2.fin S3
  have iD : (Try.prog.info? 26).map (·.size) = some D9.size := by rw [D17]; exact Try.size26
  have HFIN : Hid (PPost w0 G (.slice (some ⟨ab, ao, none⟩) n c) l (readPs (1, 2, 12, 0) ({ Fr.zero with kind := 8, fin := true, tail := true }) (l.drop k)) (.returned (.agg D9)) (U2.setRow b D9)) := FIN
  clear FIN P2 S3
  generalize readPs (1, 2, 12, 0) ({ Fr.zero with kind := 8, fin := true, tail := true }) (l.drop k) = x at *
  go_wp2_with (first | (refine wpList_load_row rfl _ _ rfl (b + 1) rfl 26 D9 (0, 0) _ fb9 Try.underlying26 rfl iD ?_) | (refine wpList_store_row rfl _ _ _ rfl b D9 rfl rfl 26 _ res9 iD (by rw [D17]; rfl) D1 ?_))
  refine bodyPost_ret (results_cell_row Try.results56 _ _ b 26 D9 (0, 0) _ rfl bl9 Try.underlying26 rfl iD) rfl ?_
  exact unhide HFIN

end Go.Proofs.Ytggjeamondampaa

namespace Go.Proofs.Ytggjeamondampaa
open Go.RowKit
set_option linter.unusedVariables false
set_option linter.unusedSimpArgs false
set_option maxRecDepth 100000
set_option maxHeartbeats 2000000

theorem stream_14 {w0 W : World} {G k n c ab ao : Nat} {l : List Int} (R : RdD w0 W G (.slice (some ⟨ab, ao, none⟩) n c) k 0) (hr : Rd w0 (some ⟨ab, ao, none⟩) l) (hn : l.length = n) (hc : n < c) (hc2 : c ≤ maxLen) (hk : k ≤ n) (hl : n ≤ 100000000) :
    Calls Try.prog 79 #[.pointer (some ⟨G, 0, none⟩), .int .i64 14] W (fun en W' => PPost w0 G (.slice (some ⟨ab, ao, none⟩) n c) l (readPs (1, 2, 11, 0) ({ Fr.zero with kind := 8, fin := false, tail := false }) (l.drop k)) en W' ∧ W.grownBy W' (some G)) := by
  have P0 : PE W w0 ((W.alloc (.cells Z17 26)).alloc (.cells #[.int .i64 8, .int .i64 0, .int .i64 0, .slice none 0 0, .int .i64 0, .bool false, .bool false, .int .i64 0, .bool false, .int .i64 0, .bool false, .int .i64 0, .slice none 0 0, .bool false, .int .i64 0, .int .i64 0, .int .i64 0] 26)) G W.heap.size (.slice (some ⟨ab, ao, none⟩) n c) k 0 ({ Fr.zero with kind := 8, fin := false, tail := false }) nilS nilS := PE.new R ({ Fr.zero with kind := 8, fin := false, tail := false }) rfl rfl
  go_enter Try.func79, Try.ntmps79
  go_upto_region 2 with (refine wpList_store_new (W.alloc (.cells Z17 26)) Z17 #[.int .i64 8, .int .i64 0, .int .i64 0, .slice none 0 0, .int .i64 0, .bool false, .bool false, .int .i64 0, .bool false, .int .i64 0, .bool false, .int .i64 0, .slice none 0 0, .bool false, .int .i64 0, .int .i64 0, .int .i64 0] (W.heap.size + 1) rfl _ _ _ rfl (by simp) rfl rfl Try.size26 rfl (one17 ({ Fr.zero with kind := 8, fin := false, tail := false }) nilS nilS rfl rfl) ?_)
  generalize (W.alloc (.cells Z17 26)).alloc (.cells #[.int .i64 8, .int .i64 0, .int .i64 0, .slice none 0 0, .int .i64 0, .bool false, .bool false, .int .i64 0, .bool false, .int .i64 0, .bool false, .int .i64 0, .slice none 0 0, .bool false, .int .i64 0, .int .i64 0, .int .i64 0] 26) = U0 at *
  generalize W.heap.size = b at *
  have S0 := St.start l ({ Fr.zero with kind := 8, fin := false, tail := false }) k (by omega)
  have nu := P0.p.rd.num hr hn (by omega) hc2 hk
  go_upto_region 3 with (go_at_call 76; refine nu.mono ?_; rintro en Y1 ⟨v1, k1, e1, rfl, q1, rd1, g1⟩; have A1 := P0.step g1 rd1; have xt := A1.p.fb.thaws; have xj := A1.p.fb.cell 1 _ rfl)
  have hk1 : k1 ≤ n := by have h := (rdN_val (l := l) (k := k) (e := 0) hr.1 (by omega)).2.2.1; rw [← unhide q1] at h; simp only at h; omega
  have hv1 := rdN_val (l := l) (k := k) (e := 0) hr.1 (by omega)
  rw [← unhide q1] at hv1
  simp only at hv1
  unfold MAXN at hv1
  have S1 := S0.num (p := 1) hr.1 (by omega) (unhide q1) (f' := { Fr.zero with kind := 8, fin := false, tail := false, stream := v1 }) rfl
  have P1 := A1.set 1 (.int .i64 v1) ({ Fr.zero with kind := 8, fin := false, tail := false, stream := v1 }) rfl rfl rfl
  clear nu xt xj A1 P0 rd1 g1 q1
  generalize Y1.setCell ⟨b + 1, 1, none⟩ (.int .i64 v1) = U1 at *
  have nu := P1.p.rd.num hr hn (by omega) hc2 hk1
  go_upto_region 5 with (go_at_call 76; refine nu.mono ?_; rintro en Y2 ⟨v2, k2, e2, rfl, q2, rd2, g2⟩; have A2 := P1.step g2 rd2; have xt := A2.p.fb.thaws; have xj := A2.p.fb.cell 2 _ rfl)
  have hk2 : k2 ≤ n := by have h := (rdN_val (l := l) (k := k1) (e := e1) hr.1 (by omega)).2.2.1; rw [← unhide q2] at h; simp only at h; omega
  have hv2 := rdN_val (l := l) (k := k1) (e := e1) hr.1 (by omega)
  rw [← unhide q2] at hv2
  simp only at hv2
  unfold MAXN at hv2
  have S2 := S1.num (p := 2) hr.1 (by omega) (unhide q2) (f' := { Fr.zero with kind := 8, fin := false, tail := false, stream := v1, offset := v2 }) rfl
  have P2 := A2.set 2 (.int .i64 v2) ({ Fr.zero with kind := 8, fin := false, tail := false, stream := v1, offset := v2 }) rfl rfl rfl
  clear nu xt xj A2 P1 rd2 g2 q2
  generalize Y2.setCell ⟨b + 1, 2, none⟩ (.int .i64 v2) = U2 at *
  have z0 := P2.p.rd.blk.cell 0 (.slice (some ⟨ab, ao, none⟩) n c) rfl
  have z1 := P2.p.rd.blk.cell 1 (.int .i64 (k2 : Int)) rfl
  have wn : IntKind.i64.wrap ((n : Int) - (k2 : Int)) = (n : Int) - (k2 : Int) := by rw [IntKind.wrap_i64]; omega
  go_upto_region 5 with fail
  go_quiet (fail)
  have Q := P2.onN (grown_drewN (q := nq) (World.grownBy.refl U2 none))
  clear z0 z1 P2
  generalize U2.drewN nq = UQ at *
  have x6 := Q.p.fb.cell 6 (.bool false) rfl
  have nu := Q.p.rd.num hr hn (by omega) hc2 hk2
  go_upto_region 8 with (go_at_call 76; refine nu.mono ?_; rintro en Y9 ⟨v9, k9, e9, rfl, q9, rd9, g9⟩)
  have A9 := Q.step g9 rd9
  have hv9 := rdN_val (l := l) (k := k2) (e := e2) hr.1 (by omega)
  rw [← unhide q9] at hv9
  simp only at hv9
  unfold MAXN at hv9
  have hk9 : k9 ≤ n := by omega
  clear nu Q rd9 g9 x6
  have ws : IntKind.i64.wrap (4611686018427387903 - v9) = 4611686018427387903 - v9 := by rw [IntKind.wrap_i64]; omega
  have mu := A9.p.rd.must (decide (v2 ≤ 4611686018427387903 - v9))
  have x2 := A9.p.fb.cell 2 (.int .i64 (v2)) rfl
  go_upto_region 9 with (go_at_call 77; refine mu.mono ?_; rintro en Z1 ⟨rfl, rm1, gm1⟩)
  have B1 := A9.step gm1 rm1
  clear mu x2 A9 rm1 gm1 ws
  have by1 := B1.p.rd.byts hr hn hc hc2 hk9 hl v9 (by omega) (by unfold MAXN; omega)
  go_upto_region 10 with (go_at_call 78; refine by1.mono ?_; rintro en X1 ⟨dv, D, kb, eb, rfl, qb, ob, rb, gb⟩; obtain ⟨da, dc, hdv⟩ := ob.shape; subst hdv; have D1 := B1.step gb rb; have xt := D1.p.fb.thaws; have xj := D1.p.fb.cell 3 _ rfl)
  have SF := S2.cnt hr.1 (unhide q9) (unhide qb) (f' := { Fr.zero with kind := 8, fin := false, tail := false, stream := v1, offset := v2, data := D }) rfl
  have PF := D1.setD ob
  clear by1 xt xj D1 B1 ob rb gb qb q9
  generalize X1.setCell ⟨b + 1, 3, none⟩ (.slice da D.length dc) = UF at *
  obtain ⟨D9, D17, D1, fb9, res9, bl9, FIN⟩ := PF.fin SF
  have iD : (Try.prog.info? 26).map (·.size) = some D9.size := by rw [D17]; exact Try.size26
  have HFIN : Hid (PPost w0 G (.slice (some ⟨ab, ao, none⟩) n c) l (readPs (1, 2, 11, 0) ({ Fr.zero with kind := 8, fin := false, tail := false }) (l.drop k)) (.returned (.agg D9)) (UF.setRow b D9) ∧ W.grownBy (UF.setRow b D9) (some G)) := by rw [readPs_eq]; simp only [bind_zero]; exact FIN
  clear FIN PF SF
  go_wp2_with (first | (refine wpList_load_row rfl _ _ rfl (b + 1) rfl 26 D9 (0, 0) _ fb9 Try.underlying26 rfl iD ?_) | (refine wpList_store_row rfl _ _ _ rfl b D9 rfl rfl 26 _ res9 iD (by rw [D17]; rfl) D1 ?_))
  refine bodyPost_ret (results_cell_row Try.results79 _ _ b 26 D9 (0, 0) _ rfl bl9 Try.underlying26 rfl iD) rfl ?_
  exact unhide HFIN

theorem parts_14 {w0 W : World} {G k n c ab ao : Nat} {l : List Int} (R : RdD w0 W G (.slice (some ⟨ab, ao, none⟩) n c) k 0) (hr : Rd w0 (some ⟨ab, ao, none⟩) l) (hn : l.length = n) (hc : n < c) (hc2 : c ≤ maxLen) (hk : k ≤ n) (hl : n ≤ 100000000) :
    Calls Try.prog 56 #[.pointer (some ⟨G, 0, none⟩), .int .i64 14] W (PPost w0 G (.slice (some ⟨ab, ao, none⟩) n c) l (readPs (1, 2, 11, 0) ({ Fr.zero with kind := 8, fin := false, tail := false }) (l.drop k))) := by
  have P0 : PD w0 ((W.alloc (.cells Z17 26)).alloc (.cells #[.int .i64 14, .int .i64 0, .int .i64 0, .slice none 0 0, .int .i64 0, .bool false, .bool false, .int .i64 0, .bool false, .int .i64 0, .bool false, .int .i64 0, .slice none 0 0, .bool false, .int .i64 0, .int .i64 0, .int .i64 0] 26)) G W.heap.size (.slice (some ⟨ab, ao, none⟩) n c) k 0 ({ Fr.zero with kind := 14 }) nilS nilS := PD.new R ({ Fr.zero with kind := 14 }) rfl rfl
  go_enter Try.func56, Try.ntmps56
  go_upto_region 2 with (refine wpList_store_new (W.alloc (.cells Z17 26)) Z17 #[.int .i64 14, .int .i64 0, .int .i64 0, .slice none 0 0, .int .i64 0, .bool false, .bool false, .int .i64 0, .bool false, .int .i64 0, .bool false, .int .i64 0, .slice none 0 0, .bool false, .int .i64 0, .int .i64 0, .int .i64 0] (W.heap.size + 1) rfl _ _ _ rfl (by simp) rfl rfl Try.size26 rfl (one17 ({ Fr.zero with kind := 14 }) nilS nilS rfl rfl) ?_)
  generalize (W.alloc (.cells Z17 26)).alloc (.cells #[.int .i64 14, .int .i64 0, .int .i64 0, .slice none 0 0, .int .i64 0, .bool false, .bool false, .int .i64 0, .bool false, .int .i64 0, .bool false, .int .i64 0, .slice none 0 0, .bool false, .int .i64 0, .int .i64 0, .int .i64 0] 26) = U0 at *
  generalize W.heap.size = b at *
  have sc := stream_14 P0.rd hr hn hc hc2 hk hl
  go_upto_region 55 with (first | (go_at_call 79; refine sc.mono ?_; rintro en Y ⟨⟨C2, rfl, C17, C1, HC⟩, gY⟩; have iC2 : (Try.prog.info? 26).map (·.size) = some C2.size := (by rw [C17]; exact Try.size26); have fbY := P0.fb.far gY (by have := P0.lt; omega)) | (refine wpList_store_row rfl _ _ _ rfl (b + 1) C2 rfl rfl 26 _ fbY iC2 (by rw [C17]; rfl) C1 ?_))
  obtain ⟨f2, d2, r2, k2, e2, eC, o1, o2, rd2, S2⟩ := unhide HC
  have P2 := (P0.step gY rd2).put rd2 o1 o2
  rw [← eC] at P2
  have S3 : St l (readPs (1, 2, 11, 0) ({ Fr.zero with kind := 8, fin := false, tail := false }) (l.drop k)) f2 k2 e2 := S2
  clear sc P0 fbY iC2 C17 C1 HC gY o1 o2 rd2 S2 eC
  generalize Y.setRow (b + 1) C2 = U2 at *
  obtain ⟨D9, D17, D1, fb9, res9, bl9, FIN⟩ := P2.fin S3
  have iD : (Try.prog.info? 26).map (·.size) = some D9.size := by rw [D17]; exact Try.size26
  have HFIN : Hid (PPost w0 G (.slice (some ⟨ab, ao, none⟩) n c) l (readPs (1, 2, 11, 0) ({ Fr.zero with kind := 8, fin := false, tail := false }) (l.drop k)) (.returned (.agg D9)) (U2.setRow b D9)) := FIN
  clear FIN P2 S3
  generalize readPs (1, 2, 11, 0) ({ Fr.zero with kind := 8, fin := false, tail := false }) (l.drop k) = x at *
  go_wp2_with (first | (refine wpList_load_row rfl _ _ rfl (b + 1) rfl 26 D9 (0, 0) _ fb9 Try.underlying26 rfl iD ?_) | (refine wpList_store_row rfl _ _ _ rfl b D9 rfl rfl 26 _ res9 iD (by rw [D17]; rfl) D1 ?_))
  refine bodyPost_ret (results_cell_row Try.results56 _ _ b 26 D9 (0, 0) _ rfl bl9 Try.underlying26 rfl iD) rfl ?_
  exact unhide HFIN

theorem stream_15 {w0 W : World} {G k n c ab ao : Nat} {l : List Int} (R : RdD w0 W G (.slice (some ⟨ab, ao, none⟩) n c) k 0) (hr : Rd w0 (some ⟨ab, ao, none⟩) l) (hn : l.length = n) (hc : n < c) (hc2 : c ≤ maxLen) (hk : k ≤ n) (hl : n ≤ 100000000) :
    Calls Try.prog 79 #[.pointer (some ⟨G, 0, none⟩), .int .i64 15] W (fun en W' => PPost w0 G (.slice (some ⟨ab, ao, none⟩) n c) l (readPs (1, 2, 11, 0) ({ Fr.zero with kind := 8, fin := true, tail := false }) (l.drop k)) en W' ∧ W.grownBy W' (some G)) := by
  have P0 : PE W w0 ((W.alloc (.cells Z17 26)).alloc (.cells #[.int .i64 8, .int .i64 0, .int .i64 0, .slice none 0 0, .int .i64 0, .bool true, .bool false, .int .i64 0, .bool false, .int .i64 0, .bool false, .int .i64 0, .slice none 0 0, .bool false, .int .i64 0, .int .i64 0, .int .i64 0] 26)) G W.heap.size (.slice (some ⟨ab, ao, none⟩) n c) k 0 ({ Fr.zero with kind := 8, fin := true, tail := false }) nilS nilS := PE.new R ({ Fr.zero with kind := 8, fin := true, tail := false }) rfl rfl
  go_enter Try.func79, Try.ntmps79
  go_upto_region 2 with (refine wpList_store_new (W.alloc (.cells Z17 26)) Z17 #[.int .i64 8, .int .i64 0, .int .i64 0, .slice none 0 0, .int .i64 0, .bool true, .bool false, .int .i64 0, .bool false, .int .i64 0, .bool false, .int .i64 0, .slice none 0 0, .bool false, .int .i64 0, .int .i64 0, .int .i64 0] (W.heap.size + 1) rfl _ _ _ rfl (by simp) rfl rfl Try.size26 rfl (one17 ({ Fr.zero with kind := 8, fin := true, tail := false }) nilS nilS rfl rfl) ?_)
  generalize (W.alloc (.cells Z17 26)).alloc (.cells #[.int .i64 8, .int .i64 0, .int .i64 0, .slice none 0 0, .int .i64 0, .bool true, .bool false, .int .i64 0, .bool false, .int .i64 0, .bool false, .int .i64 0, .slice none 0 0, .bool false, .int .i64 0, .int .i64 0, .int .i64 0] 26) = U0 at *
  generalize W.heap.size = b at *
  have S0 := St.start l ({ Fr.zero with kind := 8, fin := true, tail := false }) k (by omega)
  have nu := P0.p.rd.num hr hn (by omega) hc2 hk
  go_upto_region 3 with (go_at_call 76; refine nu.mono ?_; rintro en Y1 ⟨v1, k1, e1, rfl, q1, rd1, g1⟩; have A1 := P0.step g1 rd1; have xt := A1.p.fb.thaws; have xj := A1.p.fb.cell 1 _ rfl)
  have hk1 : k1 ≤ n := by have h := (rdN_val (l := l) (k := k) (e := 0) hr.1 (by omega)).2.2.1; rw [← unhide q1] at h; simp only at h; omega
  have hv1 := rdN_val (l := l) (k := k) (e := 0) hr.1 (by omega)
  rw [← unhide q1] at hv1
  simp only at hv1
  unfold MAXN at hv1
  have S1 := S0.num (p := 1) hr.1 (by omega) (unhide q1) (f' := { Fr.zero with kind := 8, fin := true, tail := false, stream := v1 }) rfl
  have P1 := A1.set 1 (.int .i64 v1) ({ Fr.zero with kind := 8, fin := true, tail := false, stream := v1 }) rfl rfl rfl
  clear nu xt xj A1 P0 rd1 g1 q1
  generalize Y1.setCell ⟨b + 1, 1, none⟩ (.int .i64 v1) = U1 at *
  have nu := P1.p.rd.num hr hn (by omega) hc2 hk1
  go_upto_region 5 with (go_at_call 76; refine nu.mono ?_; rintro en Y2 ⟨v2, k2, e2, rfl, q2, rd2, g2⟩; have A2 := P1.step g2 rd2; have xt := A2.p.fb.thaws; have xj := A2.p.fb.cell 2 _ rfl)
  have hk2 : k2 ≤ n := by have h := (rdN_val (l := l) (k := k1) (e := e1) hr.1 (by omega)).2.2.1; rw [← unhide q2] at h; simp only at h; omega
  have hv2 := rdN_val (l := l) (k := k1) (e := e1) hr.1 (by omega)
  rw [← unhide q2] at hv2
  simp only at hv2
  unfold MAXN at hv2
  have S2 := S1.num (p := 2) hr.1 (by omega) (unhide q2) (f' := { Fr.zero with kind := 8, fin := true, tail := false, stream := v1, offset := v2 }) rfl
  have P2 := A2.set 2 (.int .i64 v2) ({ Fr.zero with kind := 8, fin := true, tail := false, stream := v1, offset := v2 }) rfl rfl rfl
  clear nu xt xj A2 P1 rd2 g2 q2
  generalize Y2.setCell ⟨b + 1, 2, none⟩ (.int .i64 v2) = U2 at *
  have z0 := P2.p.rd.blk.cell 0 (.slice (some ⟨ab, ao, none⟩) n c) rfl
  have z1 := P2.p.rd.blk.cell 1 (.int .i64 (k2 : Int)) rfl
  have wn : IntKind.i64.wrap ((n : Int) - (k2 : Int)) = (n : Int) - (k2 : Int) := by rw [IntKind.wrap_i64]; omega
  go_upto_region 5 with fail
  go_quiet (fail)
  have Q := P2.onN (grown_drewN (q := nq) (World.grownBy.refl U2 none))
  clear z0 z1 P2
  generalize U2.drewN nq = UQ at *
  have x6 := Q.p.fb.cell 6 (.bool false) rfl
  have nu := Q.p.rd.num hr hn (by omega) hc2 hk2
  go_upto_region 8 with (go_at_call 76; refine nu.mono ?_; rintro en Y9 ⟨v9, k9, e9, rfl, q9, rd9, g9⟩)
  have A9 := Q.step g9 rd9
  have hv9 := rdN_val (l := l) (k := k2) (e := e2) hr.1 (by omega)
  rw [← unhide q9] at hv9
  simp only at hv9
  unfold MAXN at hv9
  have hk9 : k9 ≤ n := by omega
  clear nu Q rd9 g9 x6
  have ws : IntKind.i64.wrap (4611686018427387903 - v9) = 4611686018427387903 - v9 := by rw [IntKind.wrap_i64]; omega
  have mu := A9.p.rd.must (decide (v2 ≤ 4611686018427387903 - v9))
  have x2 := A9.p.fb.cell 2 (.int .i64 (v2)) rfl
  go_upto_region 9 with (go_at_call 77; refine mu.mono ?_; rintro en Z1 ⟨rfl, rm1, gm1⟩)
  have B1 := A9.step gm1 rm1
  clear mu x2 A9 rm1 gm1 ws
  have by1 := B1.p.rd.byts hr hn hc hc2 hk9 hl v9 (by omega) (by unfold MAXN; omega)
  go_upto_region 10 with (go_at_call 78; refine by1.mono ?_; rintro en X1 ⟨dv, D, kb, eb, rfl, qb, ob, rb, gb⟩; obtain ⟨da, dc, hdv⟩ := ob.shape; subst hdv; have D1 := B1.step gb rb; have xt := D1.p.fb.thaws; have xj := D1.p.fb.cell 3 _ rfl)
  have SF := S2.cnt hr.1 (unhide q9) (unhide qb) (f' := { Fr.zero with kind := 8, fin := true, tail := false, stream := v1, offset := v2, data := D }) rfl
  have PF := D1.setD ob
  clear by1 xt xj D1 B1 ob rb gb qb q9
  generalize X1.setCell ⟨b + 1, 3, none⟩ (.slice da D.length dc) = UF at *
  obtain ⟨D9, D17, D1, fb9, res9, bl9, FIN⟩ := PF.fin SF
  have iD : (Try.prog.info? 26).map (·.size) = some D9.size := by rw [D17]; exact Try.size26
  have HFIN : Hid (PPost w0 G (.slice (some ⟨ab, ao, none⟩) n c) l (readPs (1, 2, 11, 0) ({ Fr.zero with kind := 8, fin := true, tail := false }) (l.drop k)) (.returned (.agg D9)) (UF.setRow b D9) ∧ W.grownBy (UF.setRow b D9) (some G)) := by rw [readPs_eq]; simp only [bind_zero]; exact FIN
  clear FIN PF SF
  go_wp2_with (first | (refine wpList_load_row rfl _ _ rfl (b + 1) rfl 26 D9 (0, 0) _ fb9 Try.underlying26 rfl iD ?_) | (refine wpList_store_row rfl _ _ _ rfl b D9 rfl rfl 26 _ res9 iD (by rw [D17]; rfl) D1 ?_))
  refine bodyPost_ret (results_cell_row Try.results79 _ _ b 26 D9 (0, 0) _ rfl bl9 Try.underlying26 rfl iD) rfl ?_
  exact unhide HFIN

theorem parts_15 {w0 W : World} {G k n c ab ao : Nat} {l : List Int} (R : RdD w0 W G (.slice (some ⟨ab, ao, none⟩) n c) k 0) (hr : Rd w0 (some ⟨ab, ao, none⟩) l) (hn : l.length = n) (hc : n < c) (hc2 : c ≤ maxLen) (hk : k ≤ n) (hl : n ≤ 100000000) :
    Calls Try.prog 56 #[.pointer (some ⟨G, 0, none⟩), .int .i64 15] W (PPost w0 G (.slice (some ⟨ab, ao, none⟩) n c) l (readPs (1, 2, 11, 0) ({ Fr.zero with kind := 8, fin := true, tail := false }) (l.drop k))) := by
  have P0 : PD w0 ((W.alloc (.cells Z17 26)).alloc (.cells #[.int .i64 15, .int .i64 0, .int .i64 0, .slice none 0 0, .int .i64 0, .bool false, .bool false, .int .i64 0, .bool false, .int .i64 0, .bool false, .int .i64 0, .slice none 0 0, .bool false, .int .i64 0, .int .i64 0, .int .i64 0] 26)) G W.heap.size (.slice (some ⟨ab, ao, none⟩) n c) k 0 ({ Fr.zero with kind := 15 }) nilS nilS := PD.new R ({ Fr.zero with kind := 15 }) rfl rfl
  go_enter Try.func56, Try.ntmps56
  go_upto_region 2 with (refine wpList_store_new (W.alloc (.cells Z17 26)) Z17 #[.int .i64 15, .int .i64 0, .int .i64 0, .slice none 0 0, .int .i64 0, .bool false, .bool false, .int .i64 0, .bool false, .int .i64 0, .bool false, .int .i64 0, .slice none 0 0, .bool false, .int .i64 0, .int .i64 0, .int .i64 0] (W.heap.size + 1) rfl _ _ _ rfl (by simp) rfl rfl Try.size26 rfl (one17 ({ Fr.zero with kind := 15 }) nilS nilS rfl rfl) ?_)
  generalize (W.alloc (.cells Z17 26)).alloc (.cells #[.int .i64 15, .int .i64 0, .int .i64 0, .slice none 0 0, .int .i64 0, .bool false, .bool false, .int .i64 0, .bool false, .int .i64 0, .bool false, .int .i64 0, .slice none 0 0, .bool false, .int .i64 0, .int .i64 0, .int .i64 0] 26) = U0 at *
  generalize W.heap.size = b at *
  have sc := stream_15 P0.rd hr hn hc hc2 hk hl
  go_upto_region 55 with (first | (go_at_call 79; refine sc.mono ?_; rintro en Y ⟨⟨C2, rfl, C17, C1, HC⟩, gY⟩; have iC2 : (Try.prog.info? 26).map (·.size) = some C2.size := (by rw [C17]; exact Try.size26); have fbY := P0.fb.far gY (by have := P0.lt; omega)) | (refine wpList_store_row rfl _ _ _ rfl (b + 1) C2 rfl rfl 26 _ fbY iC2 (by rw [C17]; rfl) C1 ?_))
  obtain ⟨f2, d2, r2, k2, e2, eC, o1, o2, rd2, S2⟩ := unhide HC
  have P2 := (P0.step gY rd2).put rd2 o1 o2
  rw [← eC] at P2
  have S3 : St l (readPs (1, 2, 11, 0) ({ Fr.zero with kind := 8, fin := true, tail := false }) (l.drop k)) f2 k2 e2 := S2
  clear sc P0 fbY iC2 C17 C1 HC gY o1 o2 rd2 S2 eC
  generalize Y.setRow (b + 1) C2 = U2 at *
  obtain ⟨D9, D17, D1, fb9, res9, bl9, FIN⟩ := P2.fin S3
  have iD : (Try.prog.info? 26).map (·.size) = some D9.size := by rw [D17]; exact Try.size26
  have HFIN : Hid (PPost w0 G (.slice (some ⟨ab, ao, none⟩) n c) l (readPs (1, 2, 11, 0) ({ Fr.zero with kind := 8, fin := true, tail := false }) (l.drop k)) (.returned (.agg D9)) (U2.setRow b D9)) := FIN
  clear FIN P2 S3
  generalize readPs (1, 2, 11, 0) ({ Fr.zero with kind := 8, fin := true, tail := false }) (l.drop k) = x at *
  go_wp2_with (first | (refine wpList_load_row rfl _ _ rfl (b + 1) rfl 26 D9 (0, 0) _ fb9 Try.underlying26 rfl iD ?_) | (refine wpList_store_row rfl _ _ _ rfl b D9 rfl rfl 26 _ res9 iD (by rw [D17]; rfl) D1 ?_))
  refine bodyPost_ret (results_cell_row Try.results56 _ _ b 26 D9 (0, 0) _ rfl bl9 Try.underlying26 rfl iD) rfl ?_
  exact unhide HFIN

end Go.Proofs.Ytggjeamondampaa
