/- G5D, G5E, G5F, G5G, G5H, G5I, one text. -/
import Derived.Test.YtggjeamondampaaN4A
namespace Go.Proofs.Ytggjeamondampaa
open Go.RowKit
set_option linter.unusedVariables false
set_option linter.unusedSimpArgs false
set_option maxRecDepth 100000
set_option maxHeartbeats 2000000

theorem parts_4 {w0 W : World} {G k n c ab ao : Nat} {l : List Int} (R : RdD w0 W G (.slice (some ⟨ab, ao, none⟩) n c) k 0) (hr : Rd w0 (some ⟨ab, ao, none⟩) l) (hn : l.length = n) (hc : n < c) (hc2 : c ≤ maxLen) (hk : k ≤ n) (hl : n ≤ 100000000) :
    Calls Try.prog 56 #[.pointer (some ⟨G, 0, none⟩), .int .i64 4] W (PPost w0 G (.slice (some ⟨ab, ao, none⟩) n c) l (readPs (1, 5, 6, 0) ({ Fr.zero with kind := 4 }) (l.drop k))) := by
  have P0 : PD w0 ((W.alloc (.cells Z17 26)).alloc (.cells #[.int .i64 4, .int .i64 0, .int .i64 0, .slice none 0 0, .int .i64 0, .bool false, .bool false, .int .i64 0, .bool false, .int .i64 0, .bool false, .int .i64 0, .slice none 0 0, .bool false, .int .i64 0, .int .i64 0, .int .i64 0] 26)) G W.heap.size (.slice (some ⟨ab, ao, none⟩) n c) k 0 ({ Fr.zero with kind := 4 }) nilS nilS := PD.new R ({ Fr.zero with kind := 4 }) rfl rfl
  go_enter Try.func56, Try.ntmps56
  go_upto_region 2 with (refine wpList_store_new (W.alloc (.cells Z17 26)) Z17 #[.int .i64 4, .int .i64 0, .int .i64 0, .slice none 0 0, .int .i64 0, .bool false, .bool false, .int .i64 0, .bool false, .int .i64 0, .bool false, .int .i64 0, .slice none 0 0, .bool false, .int .i64 0, .int .i64 0, .int .i64 0] (W.heap.size + 1) rfl _ _ _ rfl (by simp) rfl rfl Try.size26 rfl (one17 ({ Fr.zero with kind := 4 }) nilS nilS rfl rfl) ?_)
  generalize (W.alloc (.cells Z17 26)).alloc (.cells #[.int .i64 4, .int .i64 0, .int .i64 0, .slice none 0 0, .int .i64 0, .bool false, .bool false, .int .i64 0, .bool false, .int .i64 0, .bool false, .int .i64 0, .slice none 0 0, .bool false, .int .i64 0, .int .i64 0, .int .i64 0] 26) = U0 at *
  generalize W.heap.size = b at *
  go_upto_region 17 with fail
  have S0 := St.start l ({ Fr.zero with kind := 4 }) k (by omega)
  have nu := P0.rd.num hr hn (by omega) hc2 hk
  go_upto_region 18 with (go_at_call 76; refine nu.mono ?_; rintro en Y1 ⟨v1, k1, e1, rfl, q1, rd1, g1⟩; have A1 := P0.step g1 rd1; have xt := A1.fb.thaws; have xj := A1.fb.cell 1 _ rfl)
  have hk1 : k1 ≤ n := by have h := (rdN_val (l := l) (k := k) (e := 0) hr.1 (by omega)).2.2.1; rw [← unhide q1] at h; simp only at h; omega
  have S1 := S0.num (p := 1) hr.1 (by omega) (unhide q1) (f' := { Fr.zero with kind := 4, stream := v1 }) rfl
  have P1 := A1.set 1 (.int .i64 v1) ({ Fr.zero with kind := 4, stream := v1 }) rfl rfl rfl
  clear nu xt xj A1 P0 rd1 g1 q1
  generalize Y1.setCell ⟨b + 1, 1, none⟩ (.int .i64 v1) = U1 at *
  have nu := P1.rd.num hr hn (by omega) hc2 hk1
  go_upto_region 19 with (go_at_call 76; refine nu.mono ?_; rintro en Y2 ⟨v2, k2, e2, rfl, q2, rd2, g2⟩; have A2 := P1.step g2 rd2; have xt := A2.fb.thaws; have xj := A2.fb.cell 9 _ rfl)
  have hk2 : k2 ≤ n := by have h := (rdN_val (l := l) (k := k1) (e := e1) hr.1 (by omega)).2.2.1; rw [← unhide q2] at h; simp only at h; omega
  have S2 := S1.num (p := 5) hr.1 (by omega) (unhide q2) (f' := { Fr.zero with kind := 4, stream := v1, code := v2 }) rfl
  have P2 := A2.set 9 (.int .i64 v2) ({ Fr.zero with kind := 4, stream := v1, code := v2 }) rfl rfl rfl
  clear nu xt xj A2 P1 rd2 g2 q2
  generalize Y2.setCell ⟨b + 1, 9, none⟩ (.int .i64 v2) = U2 at *
  have nu := P2.rd.num hr hn (by omega) hc2 hk2
  go_upto_region 55 with (go_at_call 76; refine nu.mono ?_; rintro en Y3 ⟨v3, k3, e3, rfl, q3, rd3, g3⟩; have A3 := P2.step g3 rd3; have xt := A3.fb.thaws; have xj := A3.fb.cell 4 _ rfl)
  have hk3 : k3 ≤ n := by have h := (rdN_val (l := l) (k := k2) (e := e2) hr.1 (by omega)).2.2.1; rw [← unhide q3] at h; simp only at h; omega
  have S3 := S2.num (p := 6) hr.1 (by omega) (unhide q3) (f' := { Fr.zero with kind := 4, stream := v1, code := v2, size := v3 }) rfl
  have P3 := A3.set 4 (.int .i64 v3) ({ Fr.zero with kind := 4, stream := v1, code := v2, size := v3 }) rfl rfl rfl
  clear nu xt xj A3 P2 rd3 g3 q3
  generalize Y3.setCell ⟨b + 1, 4, none⟩ (.int .i64 v3) = U3 at *
  obtain ⟨D9, D17, D1, fb9, res9, bl9, FIN⟩ := P3.fin S3
  have iD : (Try.prog.info? 26).map (·.size) = some D9.size := by rw [D17]; exact Try.size26
  have HFIN : Hid (PPost w0 G (.slice (some ⟨ab, ao, none⟩) n c) l (readPs (1, 5, 6, 0) ({ Fr.zero with kind := 4 }) (l.drop k)) (.returned (.agg D9)) (U3.setRow b D9)) := by rw [readPs_eq]; simp only [bind_zero]; exact FIN
  clear FIN P3 S3
  generalize readPs (1, 5, 6, 0) ({ Fr.zero with kind := 4 }) (l.drop k) = x at *
  go_wp2_with (first | (refine wpList_load_row rfl _ _ rfl (b + 1) rfl 26 D9 (0, 0) _ fb9 Try.underlying26 rfl iD ?_) | (refine wpList_store_row rfl _ _ _ rfl b D9 rfl rfl 26 _ res9 iD (by rw [D17]; rfl) D1 ?_))
  refine bodyPost_ret (results_cell_row Try.results56 _ _ b 26 D9 (0, 0) _ rfl bl9 Try.underlying26 rfl iD) rfl ?_
  exact unhide HFIN

theorem parts_1 {w0 W : World} {G k n c ab ao : Nat} {l : List Int} (R : RdD w0 W G (.slice (some ⟨ab, ao, none⟩) n c) k 0) (hr : Rd w0 (some ⟨ab, ao, none⟩) l) (hn : l.length = n) (hc : n < c) (hc2 : c ≤ maxLen) (hk : k ≤ n) (hl : n ≤ 100000000) :
    Calls Try.prog 56 #[.pointer (some ⟨G, 0, none⟩), .int .i64 1] W (PPost w0 G (.slice (some ⟨ab, ao, none⟩) n c) l (readPs (0, 0, 0, 0) ({ Fr.zero with kind := 1 }) (l.drop k))) := by
  have P0 : PD w0 ((W.alloc (.cells Z17 26)).alloc (.cells #[.int .i64 1, .int .i64 0, .int .i64 0, .slice none 0 0, .int .i64 0, .bool false, .bool false, .int .i64 0, .bool false, .int .i64 0, .bool false, .int .i64 0, .slice none 0 0, .bool false, .int .i64 0, .int .i64 0, .int .i64 0] 26)) G W.heap.size (.slice (some ⟨ab, ao, none⟩) n c) k 0 ({ Fr.zero with kind := 1 }) nilS nilS := PD.new R ({ Fr.zero with kind := 1 }) rfl rfl
  go_enter Try.func56, Try.ntmps56
  go_upto_region 2 with (refine wpList_store_new (W.alloc (.cells Z17 26)) Z17 #[.int .i64 1, .int .i64 0, .int .i64 0, .slice none 0 0, .int .i64 0, .bool false, .bool false, .int .i64 0, .bool false, .int .i64 0, .bool false, .int .i64 0, .slice none 0 0, .bool false, .int .i64 0, .int .i64 0, .int .i64 0] (W.heap.size + 1) rfl _ _ _ rfl (by simp) rfl rfl Try.size26 rfl (one17 ({ Fr.zero with kind := 1 }) nilS nilS rfl rfl) ?_)
  generalize (W.alloc (.cells Z17 26)).alloc (.cells #[.int .i64 1, .int .i64 0, .int .i64 0, .slice none 0 0, .int .i64 0, .bool false, .bool false, .int .i64 0, .bool false, .int .i64 0, .bool false, .int .i64 0, .slice none 0 0, .bool false, .int .i64 0, .int .i64 0, .int .i64 0] 26) = U0 at *
  generalize W.heap.size = b at *
  go_upto_region 55 with fail
  have S0 := St.start l ({ Fr.zero with kind := 1 }) k (by omega)
  obtain ⟨D9, D17, D1, fb9, res9, bl9, FIN⟩ := P0.fin S0
  have iD : (Try.prog.info? 26).map (·.size) = some D9.size := by rw [D17]; exact Try.size26
  have HFIN : Hid (PPost w0 G (.slice (some ⟨ab, ao, none⟩) n c) l (readPs (0, 0, 0, 0) ({ Fr.zero with kind := 1 }) (l.drop k)) (.returned (.agg D9)) (U0.setRow b D9)) := by rw [readPs_eq]; simp only [bind_zero]; exact FIN
  clear FIN P0 S0
  generalize readPs (0, 0, 0, 0) ({ Fr.zero with kind := 1 }) (l.drop k) = x at *
  go_wp2_with (first | (refine wpList_load_row rfl _ _ rfl (b + 1) rfl 26 D9 (0, 0) _ fb9 Try.underlying26 rfl iD ?_) | (refine wpList_store_row rfl _ _ _ rfl b D9 rfl rfl 26 _ res9 iD (by rw [D17]; rfl) D1 ?_))
  refine bodyPost_ret (results_cell_row Try.results56 _ _ b 26 D9 (0, 0) _ rfl bl9 Try.underlying26 rfl iD) rfl ?_
  exact unhide HFIN

theorem parts_30 {w0 W : World} {G k n c ab ao : Nat} {l : List Int} (R : RdD w0 W G (.slice (some ⟨ab, ao, none⟩) n c) k 0) (hr : Rd w0 (some ⟨ab, ao, none⟩) l) (hn : l.length = n) (hc : n < c) (hc2 : c ≤ maxLen) (hk : k ≤ n) (hl : n ≤ 100000000) :
    Calls Try.prog 56 #[.pointer (some ⟨G, 0, none⟩), .int .i64 30] W (PPost w0 G (.slice (some ⟨ab, ao, none⟩) n c) l (readPs (0, 0, 0, 0) ({ Fr.zero with kind := 30 }) (l.drop k))) := by
  have P0 : PD w0 ((W.alloc (.cells Z17 26)).alloc (.cells #[.int .i64 30, .int .i64 0, .int .i64 0, .slice none 0 0, .int .i64 0, .bool false, .bool false, .int .i64 0, .bool false, .int .i64 0, .bool false, .int .i64 0, .slice none 0 0, .bool false, .int .i64 0, .int .i64 0, .int .i64 0] 26)) G W.heap.size (.slice (some ⟨ab, ao, none⟩) n c) k 0 ({ Fr.zero with kind := 30 }) nilS nilS := PD.new R ({ Fr.zero with kind := 30 }) rfl rfl
  go_enter Try.func56, Try.ntmps56
  go_upto_region 2 with (refine wpList_store_new (W.alloc (.cells Z17 26)) Z17 #[.int .i64 30, .int .i64 0, .int .i64 0, .slice none 0 0, .int .i64 0, .bool false, .bool false, .int .i64 0, .bool false, .int .i64 0, .bool false, .int .i64 0, .slice none 0 0, .bool false, .int .i64 0, .int .i64 0, .int .i64 0] (W.heap.size + 1) rfl _ _ _ rfl (by simp) rfl rfl Try.size26 rfl (one17 ({ Fr.zero with kind := 30 }) nilS nilS rfl rfl) ?_)
  generalize (W.alloc (.cells Z17 26)).alloc (.cells #[.int .i64 30, .int .i64 0, .int .i64 0, .slice none 0 0, .int .i64 0, .bool false, .bool false, .int .i64 0, .bool false, .int .i64 0, .bool false, .int .i64 0, .slice none 0 0, .bool false, .int .i64 0, .int .i64 0, .int .i64 0] 26) = U0 at *
  generalize W.heap.size = b at *
  go_upto_region 55 with fail
  have S0 := St.start l ({ Fr.zero with kind := 30 }) k (by omega)
  obtain ⟨D9, D17, D1, fb9, res9, bl9, FIN⟩ := P0.fin S0
  have iD : (Try.prog.info? 26).map (·.size) = some D9.size := by rw [D17]; exact Try.size26
  have HFIN : Hid (PPost w0 G (.slice (some ⟨ab, ao, none⟩) n c) l (readPs (0, 0, 0, 0) ({ Fr.zero with kind := 30 }) (l.drop k)) (.returned (.agg D9)) (U0.setRow b D9)) := by rw [readPs_eq]; simp only [bind_zero]; exact FIN
  clear FIN P0 S0
  generalize readPs (0, 0, 0, 0) ({ Fr.zero with kind := 30 }) (l.drop k) = x at *
  go_wp2_with (first | (refine wpList_load_row rfl _ _ rfl (b + 1) rfl 26 D9 (0, 0) _ fb9 Try.underlying26 rfl iD ?_) | (refine wpList_store_row rfl _ _ _ rfl b D9 rfl rfl 26 _ res9 iD (by rw [D17]; rfl) D1 ?_))
  refine bodyPost_ret (results_cell_row Try.results56 _ _ b 26 D9 (0, 0) _ rfl bl9 Try.underlying26 rfl iD) rfl ?_
  exact unhide HFIN
end Go.Proofs.Ytggjeamondampaa

namespace Go.Proofs.Ytggjeamondampaa
open Go.RowKit
set_option linter.unusedVariables false
set_option linter.unusedSimpArgs false
set_option maxRecDepth 100000
set_option maxHeartbeats 2000000

theorem parts_5 {w0 W : World} {G k n c ab ao : Nat} {l : List Int} (R : RdD w0 W G (.slice (some ⟨ab, ao, none⟩) n c) k 0) (hr : Rd w0 (some ⟨ab, ao, none⟩) l) (hn : l.length = n) (hc : n < c) (hc2 : c ≤ maxLen) (hk : k ≤ n) (hl : n ≤ 100000000) :
    Calls Try.prog 56 #[.pointer (some ⟨G, 0, none⟩), .int .i64 5] W (PPost w0 G (.slice (some ⟨ab, ao, none⟩) n c) l (readPs (1, 5, 0, 0) ({ Fr.zero with kind := 5 }) (l.drop k))) := by
  have P0 : PD w0 ((W.alloc (.cells Z17 26)).alloc (.cells #[.int .i64 5, .int .i64 0, .int .i64 0, .slice none 0 0, .int .i64 0, .bool false, .bool false, .int .i64 0, .bool false, .int .i64 0, .bool false, .int .i64 0, .slice none 0 0, .bool false, .int .i64 0, .int .i64 0, .int .i64 0] 26)) G W.heap.size (.slice (some ⟨ab, ao, none⟩) n c) k 0 ({ Fr.zero with kind := 5 }) nilS nilS := PD.new R ({ Fr.zero with kind := 5 }) rfl rfl
  go_enter Try.func56, Try.ntmps56
  go_upto_region 2 with (refine wpList_store_new (W.alloc (.cells Z17 26)) Z17 #[.int .i64 5, .int .i64 0, .int .i64 0, .slice none 0 0, .int .i64 0, .bool false, .bool false, .int .i64 0, .bool false, .int .i64 0, .bool false, .int .i64 0, .slice none 0 0, .bool false, .int .i64 0, .int .i64 0, .int .i64 0] (W.heap.size + 1) rfl _ _ _ rfl (by simp) rfl rfl Try.size26 rfl (one17 ({ Fr.zero with kind := 5 }) nilS nilS rfl rfl) ?_)
  generalize (W.alloc (.cells Z17 26)).alloc (.cells #[.int .i64 5, .int .i64 0, .int .i64 0, .slice none 0 0, .int .i64 0, .bool false, .bool false, .int .i64 0, .bool false, .int .i64 0, .bool false, .int .i64 0, .slice none 0 0, .bool false, .int .i64 0, .int .i64 0, .int .i64 0] 26) = U0 at *
  generalize W.heap.size = b at *
  go_upto_region 21 with fail
  have S0 := St.start l ({ Fr.zero with kind := 5 }) k (by omega)
  have nu := P0.rd.num hr hn (by omega) hc2 hk
  go_upto_region 22 with (go_at_call 76; refine nu.mono ?_; rintro en Y1 ⟨v1, k1, e1, rfl, q1, rd1, g1⟩; have A1 := P0.step g1 rd1; have xt := A1.fb.thaws; have xj := A1.fb.cell 1 _ rfl)
  have hk1 : k1 ≤ n := by have h := (rdN_val (l := l) (k := k) (e := 0) hr.1 (by omega)).2.2.1; rw [← unhide q1] at h; simp only at h; omega
  have S1 := S0.num (p := 1) hr.1 (by omega) (unhide q1) (f' := { Fr.zero with kind := 5, stream := v1 }) rfl
  have P1 := A1.set 1 (.int .i64 v1) ({ Fr.zero with kind := 5, stream := v1 }) rfl rfl rfl
  clear nu xt xj A1 P0 rd1 g1 q1
  generalize Y1.setCell ⟨b + 1, 1, none⟩ (.int .i64 v1) = U1 at *
  have nu := P1.rd.num hr hn (by omega) hc2 hk1
  go_upto_region 55 with (go_at_call 76; refine nu.mono ?_; rintro en Y2 ⟨v2, k2, e2, rfl, q2, rd2, g2⟩; have A2 := P1.step g2 rd2; have xt := A2.fb.thaws; have xj := A2.fb.cell 9 _ rfl)
  have hk2 : k2 ≤ n := by have h := (rdN_val (l := l) (k := k1) (e := e1) hr.1 (by omega)).2.2.1; rw [← unhide q2] at h; simp only at h; omega
  have S2 := S1.num (p := 5) hr.1 (by omega) (unhide q2) (f' := { Fr.zero with kind := 5, stream := v1, code := v2 }) rfl
  have P2 := A2.set 9 (.int .i64 v2) ({ Fr.zero with kind := 5, stream := v1, code := v2 }) rfl rfl rfl
  clear nu xt xj A2 P1 rd2 g2 q2
  generalize Y2.setCell ⟨b + 1, 9, none⟩ (.int .i64 v2) = U2 at *
  obtain ⟨D9, D17, D1, fb9, res9, bl9, FIN⟩ := P2.fin S2
  have iD : (Try.prog.info? 26).map (·.size) = some D9.size := by rw [D17]; exact Try.size26
  have HFIN : Hid (PPost w0 G (.slice (some ⟨ab, ao, none⟩) n c) l (readPs (1, 5, 0, 0) ({ Fr.zero with kind := 5 }) (l.drop k)) (.returned (.agg D9)) (U2.setRow b D9)) := by rw [readPs_eq]; simp only [bind_zero]; exact FIN
  clear FIN P2 S2
  generalize readPs (1, 5, 0, 0) ({ Fr.zero with kind := 5 }) (l.drop k) = x at *
  go_wp2_with (first | (refine wpList_load_row rfl _ _ rfl (b + 1) rfl 26 D9 (0, 0) _ fb9 Try.underlying26 rfl iD ?_) | (refine wpList_store_row rfl _ _ _ rfl b D9 rfl rfl 26 _ res9 iD (by rw [D17]; rfl) D1 ?_))
  refine bodyPost_ret (results_cell_row Try.results56 _ _ b 26 D9 (0, 0) _ rfl bl9 Try.underlying26 rfl iD) rfl ?_
  exact unhide HFIN

theorem parts_6 {w0 W : World} {G k n c ab ao : Nat} {l : List Int} (R : RdD w0 W G (.slice (some ⟨ab, ao, none⟩) n c) k 0) (hr : Rd w0 (some ⟨ab, ao, none⟩) l) (hn : l.length = n) (hc : n < c) (hc2 : c ≤ maxLen) (hk : k ≤ n) (hl : n ≤ 100000000) :
    Calls Try.prog 56 #[.pointer (some ⟨G, 0, none⟩), .int .i64 6] W (PPost w0 G (.slice (some ⟨ab, ao, none⟩) n c) l (readPs (2, 11, 0, 0) ({ Fr.zero with kind := 6 }) (l.drop k))) := by
  have P0 : PD w0 ((W.alloc (.cells Z17 26)).alloc (.cells #[.int .i64 6, .int .i64 0, .int .i64 0, .slice none 0 0, .int .i64 0, .bool false, .bool false, .int .i64 0, .bool false, .int .i64 0, .bool false, .int .i64 0, .slice none 0 0, .bool false, .int .i64 0, .int .i64 0, .int .i64 0] 26)) G W.heap.size (.slice (some ⟨ab, ao, none⟩) n c) k 0 ({ Fr.zero with kind := 6 }) nilS nilS := PD.new R ({ Fr.zero with kind := 6 }) rfl rfl
  go_enter Try.func56, Try.ntmps56
  go_upto_region 2 with (refine wpList_store_new (W.alloc (.cells Z17 26)) Z17 #[.int .i64 6, .int .i64 0, .int .i64 0, .slice none 0 0, .int .i64 0, .bool false, .bool false, .int .i64 0, .bool false, .int .i64 0, .bool false, .int .i64 0, .slice none 0 0, .bool false, .int .i64 0, .int .i64 0, .int .i64 0] (W.heap.size + 1) rfl _ _ _ rfl (by simp) rfl rfl Try.size26 rfl (one17 ({ Fr.zero with kind := 6 }) nilS nilS rfl rfl) ?_)
  generalize (W.alloc (.cells Z17 26)).alloc (.cells #[.int .i64 6, .int .i64 0, .int .i64 0, .slice none 0 0, .int .i64 0, .bool false, .bool false, .int .i64 0, .bool false, .int .i64 0, .bool false, .int .i64 0, .slice none 0 0, .bool false, .int .i64 0, .int .i64 0, .int .i64 0] 26) = U0 at *
  generalize W.heap.size = b at *
  go_upto_region 24 with fail
  have S0 := St.start l ({ Fr.zero with kind := 6 }) k (by omega)
  have nu := P0.rd.num hr hn (by omega) hc2 hk
  go_upto_region 25 with (go_at_call 76; refine nu.mono ?_; rintro en Y1 ⟨v1, k1, e1, rfl, q1, rd1, g1⟩; have A1 := P0.step g1 rd1; have xt := A1.fb.thaws; have xj := A1.fb.cell 2 _ rfl)
  have hk1 : k1 ≤ n := by have h := (rdN_val (l := l) (k := k) (e := 0) hr.1 (by omega)).2.2.1; rw [← unhide q1] at h; simp only at h; omega
  have S1 := S0.num (p := 2) hr.1 (by omega) (unhide q1) (f' := { Fr.zero with kind := 6, offset := v1 }) rfl
  have P1 := A1.set 2 (.int .i64 v1) ({ Fr.zero with kind := 6, offset := v1 }) rfl rfl rfl
  clear nu xt xj A1 P0 rd1 g1 q1
  generalize Y1.setCell ⟨b + 1, 2, none⟩ (.int .i64 v1) = U1 at *
  have nu := P1.rd.num hr hn (by omega) hc2 hk1
  go_upto_region 26 with (go_at_call 76; refine nu.mono ?_; rintro en Y2 ⟨v2, k2, e2, rfl, q2, rd2, g2⟩)
  have A2 := P1.step g2 rd2
  have hv2 := rdN_val (l := l) (k := k1) (e := e1) hr.1 (by omega)
  rw [← unhide q2] at hv2
  simp only at hv2
  unfold MAXN at hv2
  have hk2 : k2 ≤ n := by omega
  clear nu P1 rd2 g2
  have ws2 : IntKind.i64.wrap (4611686018427387903 - v2) = 4611686018427387903 - v2 := by rw [IntKind.wrap_i64]; omega
  have mu := A2.rd.must (decide (v1 ≤ 4611686018427387903 - v2))
  have x2 := A2.fb.cell 2 (.int .i64 (v1)) rfl
  go_upto_region 27 with (go_at_call 77; refine mu.mono ?_; rintro en Z2 ⟨rfl, rm2, gm2⟩)
  have B2 := A2.step gm2 rm2
  clear mu x2 A2 rm2 gm2 ws2
  have by2 := B2.rd.byts hr hn hc hc2 hk2 hl v2 (by omega) (by unfold MAXN; omega)
  go_upto_region 55 with (go_at_call 78; refine by2.mono ?_; rintro en X2 ⟨dv, D, k2b, e2b, rfl, qb, ob, rb, gb⟩; obtain ⟨da, dc, hdv⟩ := ob.shape; subst hdv; have D2 := B2.step gb rb; have xt := D2.fb.thaws; have xj := D2.fb.cell 3 _ rfl)
  have S2 := S1.cnt hr.1 (unhide q2) (unhide qb) (f' := { Fr.zero with kind := 6, offset := v1, data := D }) rfl
  have P2 := D2.setD ob
  clear by2 xt xj D2 B2 ob rb gb qb q2
  generalize X2.setCell ⟨b + 1, 3, none⟩ (.slice da D.length dc) = U2 at *
  obtain ⟨D9, D17, D1, fb9, res9, bl9, FIN⟩ := P2.fin S2
  have iD : (Try.prog.info? 26).map (·.size) = some D9.size := by rw [D17]; exact Try.size26
  have HFIN : Hid (PPost w0 G (.slice (some ⟨ab, ao, none⟩) n c) l (readPs (2, 11, 0, 0) ({ Fr.zero with kind := 6 }) (l.drop k)) (.returned (.agg D9)) (U2.setRow b D9)) := by rw [readPs_eq]; simp only [bind_zero]; exact FIN
  clear FIN P2 S2
  generalize readPs (2, 11, 0, 0) ({ Fr.zero with kind := 6 }) (l.drop k) = x at *
  go_wp2_with (first | (refine wpList_load_row rfl _ _ rfl (b + 1) rfl 26 D9 (0, 0) _ fb9 Try.underlying26 rfl iD ?_) | (refine wpList_store_row rfl _ _ _ rfl b D9 rfl rfl 26 _ res9 iD (by rw [D17]; rfl) D1 ?_))
  refine bodyPost_ret (results_cell_row Try.results56 _ _ b 26 D9 (0, 0) _ rfl bl9 Try.underlying26 rfl iD) rfl ?_
  exact unhide HFIN
end Go.Proofs.Ytggjeamondampaa

namespace Go.Proofs.Ytggjeamondampaa
open Go.RowKit
set_option linter.unusedVariables false
set_option linter.unusedSimpArgs false
set_option maxRecDepth 100000
set_option maxHeartbeats 2000000

theorem parts_16 {w0 W : World} {G k n c ab ao : Nat} {l : List Int} (R : RdD w0 W G (.slice (some ⟨ab, ao, none⟩) n c) k 0) (hr : Rd w0 (some ⟨ab, ao, none⟩) l) (hn : l.length = n) (hc : n < c) (hc2 : c ≤ maxLen) (hk : k ≤ n) (hl : n ≤ 100000000) :
    Calls Try.prog 56 #[.pointer (some ⟨G, 0, none⟩), .int .i64 16] W (PPost w0 G (.slice (some ⟨ab, ao, none⟩) n c) l (readPs (3, 0, 0, 0) ({ Fr.zero with kind := 16 }) (l.drop k))) := by
  have P0 : PD w0 ((W.alloc (.cells Z17 26)).alloc (.cells #[.int .i64 16, .int .i64 0, .int .i64 0, .slice none 0 0, .int .i64 0, .bool false, .bool false, .int .i64 0, .bool false, .int .i64 0, .bool false, .int .i64 0, .slice none 0 0, .bool false, .int .i64 0, .int .i64 0, .int .i64 0] 26)) G W.heap.size (.slice (some ⟨ab, ao, none⟩) n c) k 0 ({ Fr.zero with kind := 16 }) nilS nilS := PD.new R ({ Fr.zero with kind := 16 }) rfl rfl
  go_enter Try.func56, Try.ntmps56
  go_upto_region 2 with (refine wpList_store_new (W.alloc (.cells Z17 26)) Z17 #[.int .i64 16, .int .i64 0, .int .i64 0, .slice none 0 0, .int .i64 0, .bool false, .bool false, .int .i64 0, .bool false, .int .i64 0, .bool false, .int .i64 0, .slice none 0 0, .bool false, .int .i64 0, .int .i64 0, .int .i64 0] (W.heap.size + 1) rfl _ _ _ rfl (by simp) rfl rfl Try.size26 rfl (one17 ({ Fr.zero with kind := 16 }) nilS nilS rfl rfl) ?_)
  generalize (W.alloc (.cells Z17 26)).alloc (.cells #[.int .i64 16, .int .i64 0, .int .i64 0, .slice none 0 0, .int .i64 0, .bool false, .bool false, .int .i64 0, .bool false, .int .i64 0, .bool false, .int .i64 0, .slice none 0 0, .bool false, .int .i64 0, .int .i64 0, .int .i64 0] 26) = U0 at *
  generalize W.heap.size = b at *
  go_upto_region 30 with fail
  have S0 := St.start l ({ Fr.zero with kind := 16 }) k (by omega)
  have nu := P0.rd.num hr hn (by omega) hc2 hk
  go_upto_region 55 with (go_at_call 76; refine nu.mono ?_; rintro en Y1 ⟨v1, k1, e1, rfl, q1, rd1, g1⟩; have A1 := P0.step g1 rd1; have xt := A1.fb.thaws; have xj := A1.fb.cell 7 _ rfl)
  have hk1 : k1 ≤ n := by have h := (rdN_val (l := l) (k := k) (e := 0) hr.1 (by omega)).2.2.1; rw [← unhide q1] at h; simp only at h; omega
  have S1 := S0.num (p := 3) hr.1 (by omega) (unhide q1) (f' := { Fr.zero with kind := 16, limit := v1 }) rfl
  have P1 := A1.set 7 (.int .i64 v1) ({ Fr.zero with kind := 16, limit := v1 }) rfl rfl rfl
  clear nu xt xj A1 P0 rd1 g1 q1
  generalize Y1.setCell ⟨b + 1, 7, none⟩ (.int .i64 v1) = U1 at *
  obtain ⟨D9, D17, D1, fb9, res9, bl9, FIN⟩ := P1.fin S1
  have iD : (Try.prog.info? 26).map (·.size) = some D9.size := by rw [D17]; exact Try.size26
  have HFIN : Hid (PPost w0 G (.slice (some ⟨ab, ao, none⟩) n c) l (readPs (3, 0, 0, 0) ({ Fr.zero with kind := 16 }) (l.drop k)) (.returned (.agg D9)) (U1.setRow b D9)) := by rw [readPs_eq]; simp only [bind_zero]; exact FIN
  clear FIN P1 S1
  generalize readPs (3, 0, 0, 0) ({ Fr.zero with kind := 16 }) (l.drop k) = x at *
  go_wp2_with (first | (refine wpList_load_row rfl _ _ rfl (b + 1) rfl 26 D9 (0, 0) _ fb9 Try.underlying26 rfl iD ?_) | (refine wpList_store_row rfl _ _ _ rfl b D9 rfl rfl 26 _ res9 iD (by rw [D17]; rfl) D1 ?_))
  refine bodyPost_ret (results_cell_row Try.results56 _ _ b 26 D9 (0, 0) _ rfl bl9 Try.underlying26 rfl iD) rfl ?_
  exact unhide HFIN

theorem parts_20 {w0 W : World} {G k n c ab ao : Nat} {l : List Int} (R : RdD w0 W G (.slice (some ⟨ab, ao, none⟩) n c) k 0) (hr : Rd w0 (some ⟨ab, ao, none⟩) l) (hn : l.length = n) (hc : n < c) (hc2 : c ≤ maxLen) (hk : k ≤ n) (hl : n ≤ 100000000) :
    Calls Try.prog 56 #[.pointer (some ⟨G, 0, none⟩), .int .i64 20] W (PPost w0 G (.slice (some ⟨ab, ao, none⟩) n c) l (readPs (3, 0, 0, 0) ({ Fr.zero with kind := 20 }) (l.drop k))) := by
  have P0 : PD w0 ((W.alloc (.cells Z17 26)).alloc (.cells #[.int .i64 20, .int .i64 0, .int .i64 0, .slice none 0 0, .int .i64 0, .bool false, .bool false, .int .i64 0, .bool false, .int .i64 0, .bool false, .int .i64 0, .slice none 0 0, .bool false, .int .i64 0, .int .i64 0, .int .i64 0] 26)) G W.heap.size (.slice (some ⟨ab, ao, none⟩) n c) k 0 ({ Fr.zero with kind := 20 }) nilS nilS := PD.new R ({ Fr.zero with kind := 20 }) rfl rfl
  go_enter Try.func56, Try.ntmps56
  go_upto_region 2 with (refine wpList_store_new (W.alloc (.cells Z17 26)) Z17 #[.int .i64 20, .int .i64 0, .int .i64 0, .slice none 0 0, .int .i64 0, .bool false, .bool false, .int .i64 0, .bool false, .int .i64 0, .bool false, .int .i64 0, .slice none 0 0, .bool false, .int .i64 0, .int .i64 0, .int .i64 0] (W.heap.size + 1) rfl _ _ _ rfl (by simp) rfl rfl Try.size26 rfl (one17 ({ Fr.zero with kind := 20 }) nilS nilS rfl rfl) ?_)
  generalize (W.alloc (.cells Z17 26)).alloc (.cells #[.int .i64 20, .int .i64 0, .int .i64 0, .slice none 0 0, .int .i64 0, .bool false, .bool false, .int .i64 0, .bool false, .int .i64 0, .bool false, .int .i64 0, .slice none 0 0, .bool false, .int .i64 0, .int .i64 0, .int .i64 0] 26) = U0 at *
  generalize W.heap.size = b at *
  go_upto_region 30 with fail
  have S0 := St.start l ({ Fr.zero with kind := 20 }) k (by omega)
  have nu := P0.rd.num hr hn (by omega) hc2 hk
  go_upto_region 55 with (go_at_call 76; refine nu.mono ?_; rintro en Y1 ⟨v1, k1, e1, rfl, q1, rd1, g1⟩; have A1 := P0.step g1 rd1; have xt := A1.fb.thaws; have xj := A1.fb.cell 7 _ rfl)
  have hk1 : k1 ≤ n := by have h := (rdN_val (l := l) (k := k) (e := 0) hr.1 (by omega)).2.2.1; rw [← unhide q1] at h; simp only at h; omega
  have S1 := S0.num (p := 3) hr.1 (by omega) (unhide q1) (f' := { Fr.zero with kind := 20, limit := v1 }) rfl
  have P1 := A1.set 7 (.int .i64 v1) ({ Fr.zero with kind := 20, limit := v1 }) rfl rfl rfl
  clear nu xt xj A1 P0 rd1 g1 q1
  generalize Y1.setCell ⟨b + 1, 7, none⟩ (.int .i64 v1) = U1 at *
  obtain ⟨D9, D17, D1, fb9, res9, bl9, FIN⟩ := P1.fin S1
  have iD : (Try.prog.info? 26).map (·.size) = some D9.size := by rw [D17]; exact Try.size26
  have HFIN : Hid (PPost w0 G (.slice (some ⟨ab, ao, none⟩) n c) l (readPs (3, 0, 0, 0) ({ Fr.zero with kind := 20 }) (l.drop k)) (.returned (.agg D9)) (U1.setRow b D9)) := by rw [readPs_eq]; simp only [bind_zero]; exact FIN
  clear FIN P1 S1
  generalize readPs (3, 0, 0, 0) ({ Fr.zero with kind := 20 }) (l.drop k) = x at *
  go_wp2_with (first | (refine wpList_load_row rfl _ _ rfl (b + 1) rfl 26 D9 (0, 0) _ fb9 Try.underlying26 rfl iD ?_) | (refine wpList_store_row rfl _ _ _ rfl b D9 rfl rfl 26 _ res9 iD (by rw [D17]; rfl) D1 ?_))
  refine bodyPost_ret (results_cell_row Try.results56 _ _ b 26 D9 (0, 0) _ rfl bl9 Try.underlying26 rfl iD) rfl ?_
  exact unhide HFIN

theorem parts_17 {w0 W : World} {G k n c ab ao : Nat} {l : List Int} (R : RdD w0 W G (.slice (some ⟨ab, ao, none⟩) n c) k 0) (hr : Rd w0 (some ⟨ab, ao, none⟩) l) (hn : l.length = n) (hc : n < c) (hc2 : c ≤ maxLen) (hk : k ≤ n) (hl : n ≤ 100000000) :
    Calls Try.prog 56 #[.pointer (some ⟨G, 0, none⟩), .int .i64 17] W (PPost w0 G (.slice (some ⟨ab, ao, none⟩) n c) l (readPs (1, 3, 0, 0) ({ Fr.zero with kind := 17 }) (l.drop k))) := by
  have P0 : PD w0 ((W.alloc (.cells Z17 26)).alloc (.cells #[.int .i64 17, .int .i64 0, .int .i64 0, .slice none 0 0, .int .i64 0, .bool false, .bool false, .int .i64 0, .bool false, .int .i64 0, .bool false, .int .i64 0, .slice none 0 0, .bool false, .int .i64 0, .int .i64 0, .int .i64 0] 26)) G W.heap.size (.slice (some ⟨ab, ao, none⟩) n c) k 0 ({ Fr.zero with kind := 17 }) nilS nilS := PD.new R ({ Fr.zero with kind := 17 }) rfl rfl
  go_enter Try.func56, Try.ntmps56
  go_upto_region 2 with (refine wpList_store_new (W.alloc (.cells Z17 26)) Z17 #[.int .i64 17, .int .i64 0, .int .i64 0, .slice none 0 0, .int .i64 0, .bool false, .bool false, .int .i64 0, .bool false, .int .i64 0, .bool false, .int .i64 0, .slice none 0 0, .bool false, .int .i64 0, .int .i64 0, .int .i64 0] (W.heap.size + 1) rfl _ _ _ rfl (by simp) rfl rfl Try.size26 rfl (one17 ({ Fr.zero with kind := 17 }) nilS nilS rfl rfl) ?_)
  generalize (W.alloc (.cells Z17 26)).alloc (.cells #[.int .i64 17, .int .i64 0, .int .i64 0, .slice none 0 0, .int .i64 0, .bool false, .bool false, .int .i64 0, .bool false, .int .i64 0, .bool false, .int .i64 0, .slice none 0 0, .bool false, .int .i64 0, .int .i64 0, .int .i64 0] 26) = U0 at *
  generalize W.heap.size = b at *
  go_upto_region 33 with fail
  have S0 := St.start l ({ Fr.zero with kind := 17 }) k (by omega)
  have nu := P0.rd.num hr hn (by omega) hc2 hk
  go_upto_region 34 with (go_at_call 76; refine nu.mono ?_; rintro en Y1 ⟨v1, k1, e1, rfl, q1, rd1, g1⟩; have A1 := P0.step g1 rd1; have xt := A1.fb.thaws; have xj := A1.fb.cell 1 _ rfl)
  have hk1 : k1 ≤ n := by have h := (rdN_val (l := l) (k := k) (e := 0) hr.1 (by omega)).2.2.1; rw [← unhide q1] at h; simp only at h; omega
  have S1 := S0.num (p := 1) hr.1 (by omega) (unhide q1) (f' := { Fr.zero with kind := 17, stream := v1 }) rfl
  have P1 := A1.set 1 (.int .i64 v1) ({ Fr.zero with kind := 17, stream := v1 }) rfl rfl rfl
  clear nu xt xj A1 P0 rd1 g1 q1
  generalize Y1.setCell ⟨b + 1, 1, none⟩ (.int .i64 v1) = U1 at *
  have nu := P1.rd.num hr hn (by omega) hc2 hk1
  go_upto_region 55 with (go_at_call 76; refine nu.mono ?_; rintro en Y2 ⟨v2, k2, e2, rfl, q2, rd2, g2⟩; have A2 := P1.step g2 rd2; have xt := A2.fb.thaws; have xj := A2.fb.cell 7 _ rfl)
  have hk2 : k2 ≤ n := by have h := (rdN_val (l := l) (k := k1) (e := e1) hr.1 (by omega)).2.2.1; rw [← unhide q2] at h; simp only at h; omega
  have S2 := S1.num (p := 3) hr.1 (by omega) (unhide q2) (f' := { Fr.zero with kind := 17, stream := v1, limit := v2 }) rfl
  have P2 := A2.set 7 (.int .i64 v2) ({ Fr.zero with kind := 17, stream := v1, limit := v2 }) rfl rfl rfl
  clear nu xt xj A2 P1 rd2 g2 q2
  generalize Y2.setCell ⟨b + 1, 7, none⟩ (.int .i64 v2) = U2 at *
  obtain ⟨D9, D17, D1, fb9, res9, bl9, FIN⟩ := P2.fin S2
  have iD : (Try.prog.info? 26).map (·.size) = some D9.size := by rw [D17]; exact Try.size26
  have HFIN : Hid (PPost w0 G (.slice (some ⟨ab, ao, none⟩) n c) l (readPs (1, 3, 0, 0) ({ Fr.zero with kind := 17 }) (l.drop k)) (.returned (.agg D9)) (U2.setRow b D9)) := by rw [readPs_eq]; simp only [bind_zero]; exact FIN
  clear FIN P2 S2
  generalize readPs (1, 3, 0, 0) ({ Fr.zero with kind := 17 }) (l.drop k) = x at *
  go_wp2_with (first | (refine wpList_load_row rfl _ _ rfl (b + 1) rfl 26 D9 (0, 0) _ fb9 Try.underlying26 rfl iD ?_) | (refine wpList_store_row rfl _ _ _ rfl b D9 rfl rfl 26 _ res9 iD (by rw [D17]; rfl) D1 ?_))
  refine bodyPost_ret (results_cell_row Try.results56 _ _ b 26 D9 (0, 0) _ rfl bl9 Try.underlying26 rfl iD) rfl ?_
  exact unhide HFIN

theorem parts_21 {w0 W : World} {G k n c ab ao : Nat} {l : List Int} (R : RdD w0 W G (.slice (some ⟨ab, ao, none⟩) n c) k 0) (hr : Rd w0 (some ⟨ab, ao, none⟩) l) (hn : l.length = n) (hc : n < c) (hc2 : c ≤ maxLen) (hk : k ≤ n) (hl : n ≤ 100000000) :
    Calls Try.prog 56 #[.pointer (some ⟨G, 0, none⟩), .int .i64 21] W (PPost w0 G (.slice (some ⟨ab, ao, none⟩) n c) l (readPs (1, 3, 0, 0) ({ Fr.zero with kind := 21 }) (l.drop k))) := by
  have P0 : PD w0 ((W.alloc (.cells Z17 26)).alloc (.cells #[.int .i64 21, .int .i64 0, .int .i64 0, .slice none 0 0, .int .i64 0, .bool false, .bool false, .int .i64 0, .bool false, .int .i64 0, .bool false, .int .i64 0, .slice none 0 0, .bool false, .int .i64 0, .int .i64 0, .int .i64 0] 26)) G W.heap.size (.slice (some ⟨ab, ao, none⟩) n c) k 0 ({ Fr.zero with kind := 21 }) nilS nilS := PD.new R ({ Fr.zero with kind := 21 }) rfl rfl
  go_enter Try.func56, Try.ntmps56
  go_upto_region 2 with (refine wpList_store_new (W.alloc (.cells Z17 26)) Z17 #[.int .i64 21, .int .i64 0, .int .i64 0, .slice none 0 0, .int .i64 0, .bool false, .bool false, .int .i64 0, .bool false, .int .i64 0, .bool false, .int .i64 0, .slice none 0 0, .bool false, .int .i64 0, .int .i64 0, .int .i64 0] (W.heap.size + 1) rfl _ _ _ rfl (by simp) rfl rfl Try.size26 rfl (one17 ({ Fr.zero with kind := 21 }) nilS nilS rfl rfl) ?_)
  generalize (W.alloc (.cells Z17 26)).alloc (.cells #[.int .i64 21, .int .i64 0, .int .i64 0, .slice none 0 0, .int .i64 0, .bool false, .bool false, .int .i64 0, .bool false, .int .i64 0, .bool false, .int .i64 0, .slice none 0 0, .bool false, .int .i64 0, .int .i64 0, .int .i64 0] 26) = U0 at *
  generalize W.heap.size = b at *
  go_upto_region 33 with fail
  have S0 := St.start l ({ Fr.zero with kind := 21 }) k (by omega)
  have nu := P0.rd.num hr hn (by omega) hc2 hk
  go_upto_region 34 with (go_at_call 76; refine nu.mono ?_; rintro en Y1 ⟨v1, k1, e1, rfl, q1, rd1, g1⟩; have A1 := P0.step g1 rd1; have xt := A1.fb.thaws; have xj := A1.fb.cell 1 _ rfl)
  have hk1 : k1 ≤ n := by have h := (rdN_val (l := l) (k := k) (e := 0) hr.1 (by omega)).2.2.1; rw [← unhide q1] at h; simp only at h; omega
  have S1 := S0.num (p := 1) hr.1 (by omega) (unhide q1) (f' := { Fr.zero with kind := 21, stream := v1 }) rfl
  have P1 := A1.set 1 (.int .i64 v1) ({ Fr.zero with kind := 21, stream := v1 }) rfl rfl rfl
  clear nu xt xj A1 P0 rd1 g1 q1
  generalize Y1.setCell ⟨b + 1, 1, none⟩ (.int .i64 v1) = U1 at *
  have nu := P1.rd.num hr hn (by omega) hc2 hk1
  go_upto_region 55 with (go_at_call 76; refine nu.mono ?_; rintro en Y2 ⟨v2, k2, e2, rfl, q2, rd2, g2⟩; have A2 := P1.step g2 rd2; have xt := A2.fb.thaws; have xj := A2.fb.cell 7 _ rfl)
  have hk2 : k2 ≤ n := by have h := (rdN_val (l := l) (k := k1) (e := e1) hr.1 (by omega)).2.2.1; rw [← unhide q2] at h; simp only at h; omega
  have S2 := S1.num (p := 3) hr.1 (by omega) (unhide q2) (f' := { Fr.zero with kind := 21, stream := v1, limit := v2 }) rfl
  have P2 := A2.set 7 (.int .i64 v2) ({ Fr.zero with kind := 21, stream := v1, limit := v2 }) rfl rfl rfl
  clear nu xt xj A2 P1 rd2 g2 q2
  generalize Y2.setCell ⟨b + 1, 7, none⟩ (.int .i64 v2) = U2 at *
  obtain ⟨D9, D17, D1, fb9, res9, bl9, FIN⟩ := P2.fin S2
  have iD : (Try.prog.info? 26).map (·.size) = some D9.size := by rw [D17]; exact Try.size26
  have HFIN : Hid (PPost w0 G (.slice (some ⟨ab, ao, none⟩) n c) l (readPs (1, 3, 0, 0) ({ Fr.zero with kind := 21 }) (l.drop k)) (.returned (.agg D9)) (U2.setRow b D9)) := by rw [readPs_eq]; simp only [bind_zero]; exact FIN
  clear FIN P2 S2
  generalize readPs (1, 3, 0, 0) ({ Fr.zero with kind := 21 }) (l.drop k) = x at *
  go_wp2_with (first | (refine wpList_load_row rfl _ _ rfl (b + 1) rfl 26 D9 (0, 0) _ fb9 Try.underlying26 rfl iD ?_) | (refine wpList_store_row rfl _ _ _ rfl b D9 rfl rfl 26 _ res9 iD (by rw [D17]; rfl) D1 ?_))
  refine bodyPost_ret (results_cell_row Try.results56 _ _ b 26 D9 (0, 0) _ rfl bl9 Try.underlying26 rfl iD) rfl ?_
  exact unhide HFIN
end Go.Proofs.Ytggjeamondampaa

namespace Go.Proofs.Ytggjeamondampaa
open Go.RowKit
set_option linter.unusedVariables false
set_option linter.unusedSimpArgs false
set_option maxRecDepth 100000
set_option maxHeartbeats 2000000

theorem parts_18 {w0 W : World} {G k n c ab ao : Nat} {l : List Int} (R : RdD w0 W G (.slice (some ⟨ab, ao, none⟩) n c) k 0) (hr : Rd w0 (some ⟨ab, ao, none⟩) l) (hn : l.length = n) (hc : n < c) (hc2 : c ≤ maxLen) (hk : k ≤ n) (hl : n ≤ 100000000) :
    Calls Try.prog 56 #[.pointer (some ⟨G, 0, none⟩), .int .i64 18] W (PPost w0 G (.slice (some ⟨ab, ao, none⟩) n c) l (readPs (4, 0, 0, 0) ({ Fr.zero with kind := 18, uni := false }) (l.drop k))) := by
  have P0 : PD w0 ((W.alloc (.cells Z17 26)).alloc (.cells #[.int .i64 18, .int .i64 0, .int .i64 0, .slice none 0 0, .int .i64 0, .bool false, .bool false, .int .i64 0, .bool false, .int .i64 0, .bool false, .int .i64 0, .slice none 0 0, .bool false, .int .i64 0, .int .i64 0, .int .i64 0] 26)) G W.heap.size (.slice (some ⟨ab, ao, none⟩) n c) k 0 ({ Fr.zero with kind := 18 }) nilS nilS := PD.new R ({ Fr.zero with kind := 18 }) rfl rfl
  go_enter Try.func56, Try.ntmps56
  go_upto_region 2 with (refine wpList_store_new (W.alloc (.cells Z17 26)) Z17 #[.int .i64 18, .int .i64 0, .int .i64 0, .slice none 0 0, .int .i64 0, .bool false, .bool false, .int .i64 0, .bool false, .int .i64 0, .bool false, .int .i64 0, .slice none 0 0, .bool false, .int .i64 0, .int .i64 0, .int .i64 0] (W.heap.size + 1) rfl _ _ _ rfl (by simp) rfl rfl Try.size26 rfl (one17 ({ Fr.zero with kind := 18 }) nilS nilS rfl rfl) ?_)
  generalize (W.alloc (.cells Z17 26)).alloc (.cells #[.int .i64 18, .int .i64 0, .int .i64 0, .slice none 0 0, .int .i64 0, .bool false, .bool false, .int .i64 0, .bool false, .int .i64 0, .bool false, .int .i64 0, .slice none 0 0, .bool false, .int .i64 0, .int .i64 0, .int .i64 0] 26) = U0 at *
  generalize W.heap.size = b at *
  go_upto_region 39 with fail
  have xt := P0.fb.thaws
  have xj := P0.fb.cell 0 _ rfl
  go_upto_region 40 with fail
  have Q0 := P0.set 0 (.int .i64 18) ({ Fr.zero with kind := 18 }) rfl rfl rfl
  clear P0 xt xj
  generalize U0.setCell ⟨b + 1, 0, none⟩ (.int .i64 18) = V0 at *
  have xt := Q0.fb.thaws
  have xj := Q0.fb.cell 8 _ rfl
  go_upto_region 41 with fail
  have Q1 := Q0.set 8 (.bool false) ({ Fr.zero with kind := 18, uni := false }) rfl rfl rfl
  clear Q0 xt xj
  generalize V0.setCell ⟨b + 1, 8, none⟩ (.bool false) = V1 at *
  have S0 := St.start l ({ Fr.zero with kind := 18, uni := false }) k (by omega)
  have nu := Q1.rd.num hr hn (by omega) hc2 hk
  go_upto_region 42 with (go_at_call 76; refine nu.mono ?_; rintro en Y1 ⟨v1, k1, e1, rfl, q1, rd1, g1⟩; have A1 := Q1.step g1 rd1; have xt := A1.fb.thaws; have xj := A1.fb.cell 7 _ rfl)
  have hk1 : k1 ≤ n := by have h := (rdN_val (l := l) (k := k) (e := 0) hr.1 (by omega)).2.2.1; rw [← unhide q1] at h; simp only at h; omega
  have S1 := S0.lim hr.1 (unhide q1) (f' := { Fr.zero with kind := 18, uni := false, limit := v1 }) rfl
  have P1 := A1.set 7 (.int .i64 v1) ({ Fr.zero with kind := 18, uni := false, limit := v1 }) rfl rfl rfl
  clear nu xt xj A1 Q1 rd1 g1 q1
  generalize Y1.setCell ⟨b + 1, 7, none⟩ (.int .i64 v1) = U1 at *
  have mu := P1.rd.must (decide (v1 ≤ 1152921504606846976))
  have x7 := P1.fb.cell 7 (.int .i64 v1) rfl
  go_upto_region 55 with (go_at_call 77; refine mu.mono ?_; rintro en Z1 ⟨rfl, rm1, gm1⟩)
  have M1 := P1.step gm1 rm1
  clear mu x7 P1 rm1 gm1
  obtain ⟨D9, D17, D1, fb9, res9, bl9, FIN⟩ := M1.fin S1
  have iD : (Try.prog.info? 26).map (·.size) = some D9.size := by rw [D17]; exact Try.size26
  have HFIN : Hid (PPost w0 G (.slice (some ⟨ab, ao, none⟩) n c) l (readPs (4, 0, 0, 0) ({ Fr.zero with kind := 18, uni := false }) (l.drop k)) (.returned (.agg D9)) (Z1.setRow b D9)) := by rw [readPs_eq]; simp only [bind_zero]; exact FIN
  clear FIN M1 S1
  generalize readPs (4, 0, 0, 0) ({ Fr.zero with kind := 18, uni := false }) (l.drop k) = x at *
  go_wp2_with (first | (refine wpList_load_row rfl _ _ rfl (b + 1) rfl 26 D9 (0, 0) _ fb9 Try.underlying26 rfl iD ?_) | (refine wpList_store_row rfl _ _ _ rfl b D9 rfl rfl 26 _ res9 iD (by rw [D17]; rfl) D1 ?_))
  refine bodyPost_ret (results_cell_row Try.results56 _ _ b 26 D9 (0, 0) _ rfl bl9 Try.underlying26 rfl iD) rfl ?_
  exact unhide HFIN

theorem parts_19 {w0 W : World} {G k n c ab ao : Nat} {l : List Int} (R : RdD w0 W G (.slice (some ⟨ab, ao, none⟩) n c) k 0) (hr : Rd w0 (some ⟨ab, ao, none⟩) l) (hn : l.length = n) (hc : n < c) (hc2 : c ≤ maxLen) (hk : k ≤ n) (hl : n ≤ 100000000) :
    Calls Try.prog 56 #[.pointer (some ⟨G, 0, none⟩), .int .i64 19] W (PPost w0 G (.slice (some ⟨ab, ao, none⟩) n c) l (readPs (4, 0, 0, 0) ({ Fr.zero with kind := 18, uni := true }) (l.drop k))) := by
  have P0 : PD w0 ((W.alloc (.cells Z17 26)).alloc (.cells #[.int .i64 19, .int .i64 0, .int .i64 0, .slice none 0 0, .int .i64 0, .bool false, .bool false, .int .i64 0, .bool false, .int .i64 0, .bool false, .int .i64 0, .slice none 0 0, .bool false, .int .i64 0, .int .i64 0, .int .i64 0] 26)) G W.heap.size (.slice (some ⟨ab, ao, none⟩) n c) k 0 ({ Fr.zero with kind := 19 }) nilS nilS := PD.new R ({ Fr.zero with kind := 19 }) rfl rfl
  go_enter Try.func56, Try.ntmps56
  go_upto_region 2 with (refine wpList_store_new (W.alloc (.cells Z17 26)) Z17 #[.int .i64 19, .int .i64 0, .int .i64 0, .slice none 0 0, .int .i64 0, .bool false, .bool false, .int .i64 0, .bool false, .int .i64 0, .bool false, .int .i64 0, .slice none 0 0, .bool false, .int .i64 0, .int .i64 0, .int .i64 0] (W.heap.size + 1) rfl _ _ _ rfl (by simp) rfl rfl Try.size26 rfl (one17 ({ Fr.zero with kind := 19 }) nilS nilS rfl rfl) ?_)
  generalize (W.alloc (.cells Z17 26)).alloc (.cells #[.int .i64 19, .int .i64 0, .int .i64 0, .slice none 0 0, .int .i64 0, .bool false, .bool false, .int .i64 0, .bool false, .int .i64 0, .bool false, .int .i64 0, .slice none 0 0, .bool false, .int .i64 0, .int .i64 0, .int .i64 0] 26) = U0 at *
  generalize W.heap.size = b at *
  go_upto_region 39 with fail
  have xt := P0.fb.thaws
  have xj := P0.fb.cell 0 _ rfl
  go_upto_region 40 with fail
  have Q0 := P0.set 0 (.int .i64 18) ({ Fr.zero with kind := 18 }) rfl rfl rfl
  clear P0 xt xj
  generalize U0.setCell ⟨b + 1, 0, none⟩ (.int .i64 18) = V0 at *
  have xt := Q0.fb.thaws
  have xj := Q0.fb.cell 8 _ rfl
  go_upto_region 41 with fail
  have Q1 := Q0.set 8 (.bool true) ({ Fr.zero with kind := 18, uni := true }) rfl rfl rfl
  clear Q0 xt xj
  generalize V0.setCell ⟨b + 1, 8, none⟩ (.bool true) = V1 at *
  have S0 := St.start l ({ Fr.zero with kind := 18, uni := true }) k (by omega)
  have nu := Q1.rd.num hr hn (by omega) hc2 hk
  go_upto_region 42 with (go_at_call 76; refine nu.mono ?_; rintro en Y1 ⟨v1, k1, e1, rfl, q1, rd1, g1⟩; have A1 := Q1.step g1 rd1; have xt := A1.fb.thaws; have xj := A1.fb.cell 7 _ rfl)
  have hk1 : k1 ≤ n := by have h := (rdN_val (l := l) (k := k) (e := 0) hr.1 (by omega)).2.2.1; rw [← unhide q1] at h; simp only at h; omega
  have S1 := S0.lim hr.1 (unhide q1) (f' := { Fr.zero with kind := 18, uni := true, limit := v1 }) rfl
  have P1 := A1.set 7 (.int .i64 v1) ({ Fr.zero with kind := 18, uni := true, limit := v1 }) rfl rfl rfl
  clear nu xt xj A1 Q1 rd1 g1 q1
  generalize Y1.setCell ⟨b + 1, 7, none⟩ (.int .i64 v1) = U1 at *
  have mu := P1.rd.must (decide (v1 ≤ 1152921504606846976))
  have x7 := P1.fb.cell 7 (.int .i64 v1) rfl
  go_upto_region 55 with (go_at_call 77; refine mu.mono ?_; rintro en Z1 ⟨rfl, rm1, gm1⟩)
  have M1 := P1.step gm1 rm1
  clear mu x7 P1 rm1 gm1
  obtain ⟨D9, D17, D1, fb9, res9, bl9, FIN⟩ := M1.fin S1
  have iD : (Try.prog.info? 26).map (·.size) = some D9.size := by rw [D17]; exact Try.size26
  have HFIN : Hid (PPost w0 G (.slice (some ⟨ab, ao, none⟩) n c) l (readPs (4, 0, 0, 0) ({ Fr.zero with kind := 18, uni := true }) (l.drop k)) (.returned (.agg D9)) (Z1.setRow b D9)) := by rw [readPs_eq]; simp only [bind_zero]; exact FIN
  clear FIN M1 S1
  generalize readPs (4, 0, 0, 0) ({ Fr.zero with kind := 18, uni := true }) (l.drop k) = x at *
  go_wp2_with (first | (refine wpList_load_row rfl _ _ rfl (b + 1) rfl 26 D9 (0, 0) _ fb9 Try.underlying26 rfl iD ?_) | (refine wpList_store_row rfl _ _ _ rfl b D9 rfl rfl 26 _ res9 iD (by rw [D17]; rfl) D1 ?_))
  refine bodyPost_ret (results_cell_row Try.results56 _ _ b 26 D9 (0, 0) _ rfl bl9 Try.underlying26 rfl iD) rfl ?_
  exact unhide HFIN

theorem parts_22 {w0 W : World} {G k n c ab ao : Nat} {l : List Int} (R : RdD w0 W G (.slice (some ⟨ab, ao, none⟩) n c) k 0) (hr : Rd w0 (some ⟨ab, ao, none⟩) l) (hn : l.length = n) (hc : n < c) (hc2 : c ≤ maxLen) (hk : k ≤ n) (hl : n ≤ 100000000) :
    Calls Try.prog 56 #[.pointer (some ⟨G, 0, none⟩), .int .i64 22] W (PPost w0 G (.slice (some ⟨ab, ao, none⟩) n c) l (readPs (4, 0, 0, 0) ({ Fr.zero with kind := 22, uni := false }) (l.drop k))) := by
  have P0 : PD w0 ((W.alloc (.cells Z17 26)).alloc (.cells #[.int .i64 22, .int .i64 0, .int .i64 0, .slice none 0 0, .int .i64 0, .bool false, .bool false, .int .i64 0, .bool false, .int .i64 0, .bool false, .int .i64 0, .slice none 0 0, .bool false, .int .i64 0, .int .i64 0, .int .i64 0] 26)) G W.heap.size (.slice (some ⟨ab, ao, none⟩) n c) k 0 ({ Fr.zero with kind := 22 }) nilS nilS := PD.new R ({ Fr.zero with kind := 22 }) rfl rfl
  go_enter Try.func56, Try.ntmps56
  go_upto_region 2 with (refine wpList_store_new (W.alloc (.cells Z17 26)) Z17 #[.int .i64 22, .int .i64 0, .int .i64 0, .slice none 0 0, .int .i64 0, .bool false, .bool false, .int .i64 0, .bool false, .int .i64 0, .bool false, .int .i64 0, .slice none 0 0, .bool false, .int .i64 0, .int .i64 0, .int .i64 0] (W.heap.size + 1) rfl _ _ _ rfl (by simp) rfl rfl Try.size26 rfl (one17 ({ Fr.zero with kind := 22 }) nilS nilS rfl rfl) ?_)
  generalize (W.alloc (.cells Z17 26)).alloc (.cells #[.int .i64 22, .int .i64 0, .int .i64 0, .slice none 0 0, .int .i64 0, .bool false, .bool false, .int .i64 0, .bool false, .int .i64 0, .bool false, .int .i64 0, .slice none 0 0, .bool false, .int .i64 0, .int .i64 0, .int .i64 0] 26) = U0 at *
  generalize W.heap.size = b at *
  go_upto_region 39 with fail
  have xt := P0.fb.thaws
  have xj := P0.fb.cell 0 _ rfl
  go_upto_region 40 with fail
  have Q0 := P0.set 0 (.int .i64 22) ({ Fr.zero with kind := 22 }) rfl rfl rfl
  clear P0 xt xj
  generalize U0.setCell ⟨b + 1, 0, none⟩ (.int .i64 22) = V0 at *
  have xt := Q0.fb.thaws
  have xj := Q0.fb.cell 8 _ rfl
  go_upto_region 41 with fail
  have Q1 := Q0.set 8 (.bool false) ({ Fr.zero with kind := 22, uni := false }) rfl rfl rfl
  clear Q0 xt xj
  generalize V0.setCell ⟨b + 1, 8, none⟩ (.bool false) = V1 at *
  have S0 := St.start l ({ Fr.zero with kind := 22, uni := false }) k (by omega)
  have nu := Q1.rd.num hr hn (by omega) hc2 hk
  go_upto_region 42 with (go_at_call 76; refine nu.mono ?_; rintro en Y1 ⟨v1, k1, e1, rfl, q1, rd1, g1⟩; have A1 := Q1.step g1 rd1; have xt := A1.fb.thaws; have xj := A1.fb.cell 7 _ rfl)
  have hk1 : k1 ≤ n := by have h := (rdN_val (l := l) (k := k) (e := 0) hr.1 (by omega)).2.2.1; rw [← unhide q1] at h; simp only at h; omega
  have S1 := S0.lim hr.1 (unhide q1) (f' := { Fr.zero with kind := 22, uni := false, limit := v1 }) rfl
  have P1 := A1.set 7 (.int .i64 v1) ({ Fr.zero with kind := 22, uni := false, limit := v1 }) rfl rfl rfl
  clear nu xt xj A1 Q1 rd1 g1 q1
  generalize Y1.setCell ⟨b + 1, 7, none⟩ (.int .i64 v1) = U1 at *
  have mu := P1.rd.must (decide (v1 ≤ 1152921504606846976))
  have x7 := P1.fb.cell 7 (.int .i64 v1) rfl
  go_upto_region 55 with (go_at_call 77; refine mu.mono ?_; rintro en Z1 ⟨rfl, rm1, gm1⟩)
  have M1 := P1.step gm1 rm1
  clear mu x7 P1 rm1 gm1
  obtain ⟨D9, D17, D1, fb9, res9, bl9, FIN⟩ := M1.fin S1
  have iD : (Try.prog.info? 26).map (·.size) = some D9.size := by rw [D17]; exact Try.size26
  have HFIN : Hid (PPost w0 G (.slice (some ⟨ab, ao, none⟩) n c) l (readPs (4, 0, 0, 0) ({ Fr.zero with kind := 22, uni := false }) (l.drop k)) (.returned (.agg D9)) (Z1.setRow b D9)) := by rw [readPs_eq]; simp only [bind_zero]; exact FIN
  clear FIN M1 S1
  generalize readPs (4, 0, 0, 0) ({ Fr.zero with kind := 22, uni := false }) (l.drop k) = x at *
  go_wp2_with (first | (refine wpList_load_row rfl _ _ rfl (b + 1) rfl 26 D9 (0, 0) _ fb9 Try.underlying26 rfl iD ?_) | (refine wpList_store_row rfl _ _ _ rfl b D9 rfl rfl 26 _ res9 iD (by rw [D17]; rfl) D1 ?_))
  refine bodyPost_ret (results_cell_row Try.results56 _ _ b 26 D9 (0, 0) _ rfl bl9 Try.underlying26 rfl iD) rfl ?_
  exact unhide HFIN

theorem parts_23 {w0 W : World} {G k n c ab ao : Nat} {l : List Int} (R : RdD w0 W G (.slice (some ⟨ab, ao, none⟩) n c) k 0) (hr : Rd w0 (some ⟨ab, ao, none⟩) l) (hn : l.length = n) (hc : n < c) (hc2 : c ≤ maxLen) (hk : k ≤ n) (hl : n ≤ 100000000) :
    Calls Try.prog 56 #[.pointer (some ⟨G, 0, none⟩), .int .i64 23] W (PPost w0 G (.slice (some ⟨ab, ao, none⟩) n c) l (readPs (4, 0, 0, 0) ({ Fr.zero with kind := 22, uni := true }) (l.drop k))) := by
  have P0 : PD w0 ((W.alloc (.cells Z17 26)).alloc (.cells #[.int .i64 23, .int .i64 0, .int .i64 0, .slice none 0 0, .int .i64 0, .bool false, .bool false, .int .i64 0, .bool false, .int .i64 0, .bool false, .int .i64 0, .slice none 0 0, .bool false, .int .i64 0, .int .i64 0, .int .i64 0] 26)) G W.heap.size (.slice (some ⟨ab, ao, none⟩) n c) k 0 ({ Fr.zero with kind := 23 }) nilS nilS := PD.new R ({ Fr.zero with kind := 23 }) rfl rfl
  go_enter Try.func56, Try.ntmps56
  go_upto_region 2 with (refine wpList_store_new (W.alloc (.cells Z17 26)) Z17 #[.int .i64 23, .int .i64 0, .int .i64 0, .slice none 0 0, .int .i64 0, .bool false, .bool false, .int .i64 0, .bool false, .int .i64 0, .bool false, .int .i64 0, .slice none 0 0, .bool false, .int .i64 0, .int .i64 0, .int .i64 0] (W.heap.size + 1) rfl _ _ _ rfl (by simp) rfl rfl Try.size26 rfl (one17 ({ Fr.zero with kind := 23 }) nilS nilS rfl rfl) ?_)
  generalize (W.alloc (.cells Z17 26)).alloc (.cells #[.int .i64 23, .int .i64 0, .int .i64 0, .slice none 0 0, .int .i64 0, .bool false, .bool false, .int .i64 0, .bool false, .int .i64 0, .bool false, .int .i64 0, .slice none 0 0, .bool false, .int .i64 0, .int .i64 0, .int .i64 0] 26) = U0 at *
  generalize W.heap.size = b at *
  go_upto_region 39 with fail
  have xt := P0.fb.thaws
  have xj := P0.fb.cell 0 _ rfl
  go_upto_region 40 with fail
  have Q0 := P0.set 0 (.int .i64 22) ({ Fr.zero with kind := 22 }) rfl rfl rfl
  clear P0 xt xj
  generalize U0.setCell ⟨b + 1, 0, none⟩ (.int .i64 22) = V0 at *
  have xt := Q0.fb.thaws
  have xj := Q0.fb.cell 8 _ rfl
  go_upto_region 41 with fail
  have Q1 := Q0.set 8 (.bool true) ({ Fr.zero with kind := 22, uni := true }) rfl rfl rfl
  clear Q0 xt xj
  generalize V0.setCell ⟨b + 1, 8, none⟩ (.bool true) = V1 at *
  have S0 := St.start l ({ Fr.zero with kind := 22, uni := true }) k (by omega)
  have nu := Q1.rd.num hr hn (by omega) hc2 hk
  go_upto_region 42 with (go_at_call 76; refine nu.mono ?_; rintro en Y1 ⟨v1, k1, e1, rfl, q1, rd1, g1⟩; have A1 := Q1.step g1 rd1; have xt := A1.fb.thaws; have xj := A1.fb.cell 7 _ rfl)
  have hk1 : k1 ≤ n := by have h := (rdN_val (l := l) (k := k) (e := 0) hr.1 (by omega)).2.2.1; rw [← unhide q1] at h; simp only at h; omega
  have S1 := S0.lim hr.1 (unhide q1) (f' := { Fr.zero with kind := 22, uni := true, limit := v1 }) rfl
  have P1 := A1.set 7 (.int .i64 v1) ({ Fr.zero with kind := 22, uni := true, limit := v1 }) rfl rfl rfl
  clear nu xt xj A1 Q1 rd1 g1 q1
  generalize Y1.setCell ⟨b + 1, 7, none⟩ (.int .i64 v1) = U1 at *
  have mu := P1.rd.must (decide (v1 ≤ 1152921504606846976))
  have x7 := P1.fb.cell 7 (.int .i64 v1) rfl
  go_upto_region 55 with (go_at_call 77; refine mu.mono ?_; rintro en Z1 ⟨rfl, rm1, gm1⟩)
  have M1 := P1.step gm1 rm1
  clear mu x7 P1 rm1 gm1
  obtain ⟨D9, D17, D1, fb9, res9, bl9, FIN⟩ := M1.fin S1
  have iD : (Try.prog.info? 26).map (·.size) = some D9.size := by rw [D17]; exact Try.size26
  have HFIN : Hid (PPost w0 G (.slice (some ⟨ab, ao, none⟩) n c) l (readPs (4, 0, 0, 0) ({ Fr.zero with kind := 22, uni := true }) (l.drop k)) (.returned (.agg D9)) (Z1.setRow b D9)) := by rw [readPs_eq]; simp only [bind_zero]; exact FIN
  clear FIN M1 S1
  generalize readPs (4, 0, 0, 0) ({ Fr.zero with kind := 22, uni := true }) (l.drop k) = x at *
  go_wp2_with (first | (refine wpList_load_row rfl _ _ rfl (b + 1) rfl 26 D9 (0, 0) _ fb9 Try.underlying26 rfl iD ?_) | (refine wpList_store_row rfl _ _ _ rfl b D9 rfl rfl 26 _ res9 iD (by rw [D17]; rfl) D1 ?_))
  refine bodyPost_ret (results_cell_row Try.results56 _ _ b 26 D9 (0, 0) _ rfl bl9 Try.underlying26 rfl iD) rfl ?_
  exact unhide HFIN
end Go.Proofs.Ytggjeamondampaa

namespace Go.Proofs.Ytggjeamondampaa
open Go.RowKit
set_option linter.unusedVariables false
set_option linter.unusedSimpArgs false
set_option maxRecDepth 100000
set_option maxHeartbeats 2000000

theorem parts_26 {w0 W : World} {G k n c ab ao : Nat} {l : List Int} (R : RdD w0 W G (.slice (some ⟨ab, ao, none⟩) n c) k 0) (hr : Rd w0 (some ⟨ab, ao, none⟩) l) (hn : l.length = n) (hc : n < c) (hc2 : c ≤ maxLen) (hk : k ≤ n) (hl : n ≤ 100000000) :
    Calls Try.prog 56 #[.pointer (some ⟨G, 0, none⟩), .int .i64 26] W (PPost w0 G (.slice (some ⟨ab, ao, none⟩) n c) l (readPs (13, 0, 0, 0) ({ Fr.zero with kind := 26 }) (l.drop k))) := by
  have P0 : PD w0 ((W.alloc (.cells Z17 26)).alloc (.cells #[.int .i64 26, .int .i64 0, .int .i64 0, .slice none 0 0, .int .i64 0, .bool false, .bool false, .int .i64 0, .bool false, .int .i64 0, .bool false, .int .i64 0, .slice none 0 0, .bool false, .int .i64 0, .int .i64 0, .int .i64 0] 26)) G W.heap.size (.slice (some ⟨ab, ao, none⟩) n c) k 0 ({ Fr.zero with kind := 26 }) nilS nilS := PD.new R ({ Fr.zero with kind := 26 }) rfl rfl
  go_enter Try.func56, Try.ntmps56
  go_upto_region 2 with (refine wpList_store_new (W.alloc (.cells Z17 26)) Z17 #[.int .i64 26, .int .i64 0, .int .i64 0, .slice none 0 0, .int .i64 0, .bool false, .bool false, .int .i64 0, .bool false, .int .i64 0, .bool false, .int .i64 0, .slice none 0 0, .bool false, .int .i64 0, .int .i64 0, .int .i64 0] (W.heap.size + 1) rfl _ _ _ rfl (by simp) rfl rfl Try.size26 rfl (one17 ({ Fr.zero with kind := 26 }) nilS nilS rfl rfl) ?_)
  generalize (W.alloc (.cells Z17 26)).alloc (.cells #[.int .i64 26, .int .i64 0, .int .i64 0, .slice none 0 0, .int .i64 0, .bool false, .bool false, .int .i64 0, .bool false, .int .i64 0, .bool false, .int .i64 0, .slice none 0 0, .bool false, .int .i64 0, .int .i64 0, .int .i64 0] 26) = U0 at *
  generalize W.heap.size = b at *
  go_upto_region 45 with fail
  have S0 := St.start l ({ Fr.zero with kind := 26 }) k (by omega)
  have by1 := P0.rd.byts hr hn hc hc2 hk hl 8 (by omega) (by unfold MAXN; omega)
  go_upto_region 55 with (go_at_call 78; refine by1.mono ?_; rintro en X1 ⟨dv, D, k1, e1, rfl, qb, ob, rb, gb⟩; obtain ⟨da, dc, hdv⟩ := ob.shape; subst hdv; have D1 := P0.step gb rb; have xt := D1.fb.thaws; have xj := D1.fb.cell 3 _ rfl)
  have S1 := S0.eight (unhide qb) (f' := { Fr.zero with kind := 26, data := D }) rfl
  have P1 := D1.setD ob
  clear by1 xt xj D1 P0 ob rb gb qb
  generalize X1.setCell ⟨b + 1, 3, none⟩ (.slice da D.length dc) = U1 at *
  obtain ⟨D9, D17, D1, fb9, res9, bl9, FIN⟩ := P1.fin S1
  have iD : (Try.prog.info? 26).map (·.size) = some D9.size := by rw [D17]; exact Try.size26
  have HFIN : Hid (PPost w0 G (.slice (some ⟨ab, ao, none⟩) n c) l (readPs (13, 0, 0, 0) ({ Fr.zero with kind := 26 }) (l.drop k)) (.returned (.agg D9)) (U1.setRow b D9)) := by rw [readPs_eq]; simp only [bind_zero]; exact FIN
  clear FIN P1 S1
  generalize readPs (13, 0, 0, 0) ({ Fr.zero with kind := 26 }) (l.drop k) = x at *
  go_wp2_with (first | (refine wpList_load_row rfl _ _ rfl (b + 1) rfl 26 D9 (0, 0) _ fb9 Try.underlying26 rfl iD ?_) | (refine wpList_store_row rfl _ _ _ rfl b D9 rfl rfl 26 _ res9 iD (by rw [D17]; rfl) D1 ?_))
  refine bodyPost_ret (results_cell_row Try.results56 _ _ b 26 D9 (0, 0) _ rfl bl9 Try.underlying26 rfl iD) rfl ?_
  exact unhide HFIN

theorem parts_27 {w0 W : World} {G k n c ab ao : Nat} {l : List Int} (R : RdD w0 W G (.slice (some ⟨ab, ao, none⟩) n c) k 0) (hr : Rd w0 (some ⟨ab, ao, none⟩) l) (hn : l.length = n) (hc : n < c) (hc2 : c ≤ maxLen) (hk : k ≤ n) (hl : n ≤ 100000000) :
    Calls Try.prog 56 #[.pointer (some ⟨G, 0, none⟩), .int .i64 27] W (PPost w0 G (.slice (some ⟨ab, ao, none⟩) n c) l (readPs (13, 0, 0, 0) ({ Fr.zero with kind := 27 }) (l.drop k))) := by
  have P0 : PD w0 ((W.alloc (.cells Z17 26)).alloc (.cells #[.int .i64 27, .int .i64 0, .int .i64 0, .slice none 0 0, .int .i64 0, .bool false, .bool false, .int .i64 0, .bool false, .int .i64 0, .bool false, .int .i64 0, .slice none 0 0, .bool false, .int .i64 0, .int .i64 0, .int .i64 0] 26)) G W.heap.size (.slice (some ⟨ab, ao, none⟩) n c) k 0 ({ Fr.zero with kind := 27 }) nilS nilS := PD.new R ({ Fr.zero with kind := 27 }) rfl rfl
  go_enter Try.func56, Try.ntmps56
  go_upto_region 2 with (refine wpList_store_new (W.alloc (.cells Z17 26)) Z17 #[.int .i64 27, .int .i64 0, .int .i64 0, .slice none 0 0, .int .i64 0, .bool false, .bool false, .int .i64 0, .bool false, .int .i64 0, .bool false, .int .i64 0, .slice none 0 0, .bool false, .int .i64 0, .int .i64 0, .int .i64 0] (W.heap.size + 1) rfl _ _ _ rfl (by simp) rfl rfl Try.size26 rfl (one17 ({ Fr.zero with kind := 27 }) nilS nilS rfl rfl) ?_)
  generalize (W.alloc (.cells Z17 26)).alloc (.cells #[.int .i64 27, .int .i64 0, .int .i64 0, .slice none 0 0, .int .i64 0, .bool false, .bool false, .int .i64 0, .bool false, .int .i64 0, .bool false, .int .i64 0, .slice none 0 0, .bool false, .int .i64 0, .int .i64 0, .int .i64 0] 26) = U0 at *
  generalize W.heap.size = b at *
  go_upto_region 45 with fail
  have S0 := St.start l ({ Fr.zero with kind := 27 }) k (by omega)
  have by1 := P0.rd.byts hr hn hc hc2 hk hl 8 (by omega) (by unfold MAXN; omega)
  go_upto_region 55 with (go_at_call 78; refine by1.mono ?_; rintro en X1 ⟨dv, D, k1, e1, rfl, qb, ob, rb, gb⟩; obtain ⟨da, dc, hdv⟩ := ob.shape; subst hdv; have D1 := P0.step gb rb; have xt := D1.fb.thaws; have xj := D1.fb.cell 3 _ rfl)
  have S1 := S0.eight (unhide qb) (f' := { Fr.zero with kind := 27, data := D }) rfl
  have P1 := D1.setD ob
  clear by1 xt xj D1 P0 ob rb gb qb
  generalize X1.setCell ⟨b + 1, 3, none⟩ (.slice da D.length dc) = U1 at *
  obtain ⟨D9, D17, D1, fb9, res9, bl9, FIN⟩ := P1.fin S1
  have iD : (Try.prog.info? 26).map (·.size) = some D9.size := by rw [D17]; exact Try.size26
  have HFIN : Hid (PPost w0 G (.slice (some ⟨ab, ao, none⟩) n c) l (readPs (13, 0, 0, 0) ({ Fr.zero with kind := 27 }) (l.drop k)) (.returned (.agg D9)) (U1.setRow b D9)) := by rw [readPs_eq]; simp only [bind_zero]; exact FIN
  clear FIN P1 S1
  generalize readPs (13, 0, 0, 0) ({ Fr.zero with kind := 27 }) (l.drop k) = x at *
  go_wp2_with (first | (refine wpList_load_row rfl _ _ rfl (b + 1) rfl 26 D9 (0, 0) _ fb9 Try.underlying26 rfl iD ?_) | (refine wpList_store_row rfl _ _ _ rfl b D9 rfl rfl 26 _ res9 iD (by rw [D17]; rfl) D1 ?_))
  refine bodyPost_ret (results_cell_row Try.results56 _ _ b 26 D9 (0, 0) _ rfl bl9 Try.underlying26 rfl iD) rfl ?_
  exact unhide HFIN
end Go.Proofs.Ytggjeamondampaa

namespace Go.Proofs.Ytggjeamondampaa
open Go.RowKit
set_option linter.unusedVariables false
set_option linter.unusedSimpArgs false
set_option maxRecDepth 100000
set_option maxHeartbeats 2000000

theorem parts_28 {w0 W : World} {G k n c ab ao : Nat} {l : List Int} (R : RdD w0 W G (.slice (some ⟨ab, ao, none⟩) n c) k 0) (hr : Rd w0 (some ⟨ab, ao, none⟩) l) (hn : l.length = n) (hc : n < c) (hc2 : c ≤ maxLen) (hk : k ≤ n) (hl : n ≤ 100000000) :
    Calls Try.prog 56 #[.pointer (some ⟨G, 0, none⟩), .int .i64 28] W (PPost w0 G (.slice (some ⟨ab, ao, none⟩) n c) l (readPs (5, 6, 11, 0) ({ Fr.zero with kind := 28, own := false }) (l.drop k))) := by
  have P0 : PD w0 ((W.alloc (.cells Z17 26)).alloc (.cells #[.int .i64 28, .int .i64 0, .int .i64 0, .slice none 0 0, .int .i64 0, .bool false, .bool false, .int .i64 0, .bool false, .int .i64 0, .bool false, .int .i64 0, .slice none 0 0, .bool false, .int .i64 0, .int .i64 0, .int .i64 0] 26)) G W.heap.size (.slice (some ⟨ab, ao, none⟩) n c) k 0 ({ Fr.zero with kind := 28 }) nilS nilS := PD.new R ({ Fr.zero with kind := 28 }) rfl rfl
  go_enter Try.func56, Try.ntmps56
  go_upto_region 2 with (refine wpList_store_new (W.alloc (.cells Z17 26)) Z17 #[.int .i64 28, .int .i64 0, .int .i64 0, .slice none 0 0, .int .i64 0, .bool false, .bool false, .int .i64 0, .bool false, .int .i64 0, .bool false, .int .i64 0, .slice none 0 0, .bool false, .int .i64 0, .int .i64 0, .int .i64 0] (W.heap.size + 1) rfl _ _ _ rfl (by simp) rfl rfl Try.size26 rfl (one17 ({ Fr.zero with kind := 28 }) nilS nilS rfl rfl) ?_)
  generalize (W.alloc (.cells Z17 26)).alloc (.cells #[.int .i64 28, .int .i64 0, .int .i64 0, .slice none 0 0, .int .i64 0, .bool false, .bool false, .int .i64 0, .bool false, .int .i64 0, .bool false, .int .i64 0, .slice none 0 0, .bool false, .int .i64 0, .int .i64 0, .int .i64 0] 26) = U0 at *
  generalize W.heap.size = b at *
  go_upto_region 48 with fail
  have xt := P0.fb.thaws
  have xj := P0.fb.cell 0 _ rfl
  go_upto_region 49 with fail
  have Q0 := P0.set 0 (.int .i64 28) ({ Fr.zero with kind := 28 }) rfl rfl rfl
  clear P0 xt xj
  generalize U0.setCell ⟨b + 1, 0, none⟩ (.int .i64 28) = V0 at *
  have xt := Q0.fb.thaws
  have xj := Q0.fb.cell 10 _ rfl
  go_upto_region 50 with fail
  have Q1 := Q0.set 10 (.bool false) ({ Fr.zero with kind := 28, own := false }) rfl rfl rfl
  clear Q0 xt xj
  generalize V0.setCell ⟨b + 1, 10, none⟩ (.bool false) = V1 at *
  have S0 := St.start l ({ Fr.zero with kind := 28, own := false }) k (by omega)
  have nu := Q1.rd.num hr hn (by omega) hc2 hk
  go_upto_region 51 with (go_at_call 76; refine nu.mono ?_; rintro en Y1 ⟨v1, k1, e1, rfl, q1, rd1, g1⟩; have A1 := Q1.step g1 rd1; have xt := A1.fb.thaws; have xj := A1.fb.cell 9 _ rfl)
  have hk1 : k1 ≤ n := by have h := (rdN_val (l := l) (k := k) (e := 0) hr.1 (by omega)).2.2.1; rw [← unhide q1] at h; simp only at h; omega
  have S1 := S0.num (p := 5) hr.1 (by omega) (unhide q1) (f' := { Fr.zero with kind := 28, own := false, code := v1 }) rfl
  have P1 := A1.set 9 (.int .i64 v1) ({ Fr.zero with kind := 28, own := false, code := v1 }) rfl rfl rfl
  clear nu xt xj A1 Q1 rd1 g1 q1
  generalize Y1.setCell ⟨b + 1, 9, none⟩ (.int .i64 v1) = U1 at *
  have x10f := P1.fb.cell 10 _ rfl
  have nu := P1.rd.num hr hn (by omega) hc2 hk1
  go_upto_region 53 with (go_at_call 76; refine nu.mono ?_; rintro en Y2 ⟨v2, k2, e2, rfl, q2, rd2, g2⟩; have A2 := P1.step g2 rd2; have xt := A2.fb.thaws; have xj := A2.fb.cell 4 _ rfl)
  have hk2 : k2 ≤ n := by have h := (rdN_val (l := l) (k := k1) (e := e1) hr.1 (by omega)).2.2.1; rw [← unhide q2] at h; simp only at h; omega
  have S2 := S1.num (p := 6) hr.1 (by omega) (unhide q2) (f' := { Fr.zero with kind := 28, own := false, code := v1, size := v2 }) rfl
  have P2 := A2.set 4 (.int .i64 v2) ({ Fr.zero with kind := 28, own := false, code := v1, size := v2 }) rfl rfl rfl
  clear nu xt xj A2 P1 rd2 g2 q2
  generalize Y2.setCell ⟨b + 1, 4, none⟩ (.int .i64 v2) = U2 at *
  have nu := P2.rd.num hr hn (by omega) hc2 hk2
  go_upto_region 54 with (go_at_call 76; refine nu.mono ?_; rintro en Y3 ⟨v3, k3, e3, rfl, q3, rd3, g3⟩)
  have A3 := P2.step g3 rd3
  have hv3 := rdN_val (l := l) (k := k2) (e := e2) hr.1 (by omega)
  rw [← unhide q3] at hv3
  simp only at hv3
  unfold MAXN at hv3
  have hk3 : k3 ≤ n := by omega
  clear nu P2 rd3 g3
  have em : mst e3 (decide ((0 : Int) ≤ 4611686018427387903 - v3)) = e3 := by rw [decide_eq_true (by omega)]; unfold mst; simp
  have B3 := A3
  rw [← em] at B3
  clear A3 em
  have by3 := B3.rd.byts hr hn hc hc2 hk3 hl v3 (by omega) (by unfold MAXN; omega)
  go_upto_region 55 with (go_at_call 78; refine by3.mono ?_; rintro en X3 ⟨dv, D, k3b, e3b, rfl, qb, ob, rb, gb⟩; obtain ⟨da, dc, hdv⟩ := ob.shape; subst hdv; have D3 := B3.step gb rb; have xt := D3.fb.thaws; have xj := D3.fb.cell 3 _ rfl)
  have S3 := S2.cnt hr.1 (unhide q3) (unhide qb) (f' := { Fr.zero with kind := 28, own := false, code := v1, size := v2, data := D }) rfl
  have P3 := D3.setD ob
  clear by3 xt xj D3 B3 ob rb gb qb q3
  generalize X3.setCell ⟨b + 1, 3, none⟩ (.slice da D.length dc) = U3 at *
  obtain ⟨D9, D17, D1, fb9, res9, bl9, FIN⟩ := P3.fin S3
  have iD : (Try.prog.info? 26).map (·.size) = some D9.size := by rw [D17]; exact Try.size26
  have HFIN : Hid (PPost w0 G (.slice (some ⟨ab, ao, none⟩) n c) l (readPs (5, 6, 11, 0) ({ Fr.zero with kind := 28, own := false }) (l.drop k)) (.returned (.agg D9)) (U3.setRow b D9)) := by rw [readPs_eq]; simp only [bind_zero]; exact FIN
  clear FIN P3 S3
  generalize readPs (5, 6, 11, 0) ({ Fr.zero with kind := 28, own := false }) (l.drop k) = x at *
  go_wp2_with (first | (refine wpList_load_row rfl _ _ rfl (b + 1) rfl 26 D9 (0, 0) _ fb9 Try.underlying26 rfl iD ?_) | (refine wpList_store_row rfl _ _ _ rfl b D9 rfl rfl 26 _ res9 iD (by rw [D17]; rfl) D1 ?_))
  refine bodyPost_ret (results_cell_row Try.results56 _ _ b 26 D9 (0, 0) _ rfl bl9 Try.underlying26 rfl iD) rfl ?_
  exact unhide HFIN

theorem parts_29 {w0 W : World} {G k n c ab ao : Nat} {l : List Int} (R : RdD w0 W G (.slice (some ⟨ab, ao, none⟩) n c) k 0) (hr : Rd w0 (some ⟨ab, ao, none⟩) l) (hn : l.length = n) (hc : n < c) (hc2 : c ≤ maxLen) (hk : k ≤ n) (hl : n ≤ 100000000) :
    Calls Try.prog 56 #[.pointer (some ⟨G, 0, none⟩), .int .i64 29] W (PPost w0 G (.slice (some ⟨ab, ao, none⟩) n c) l (readPs (5, 11, 0, 0) ({ Fr.zero with kind := 28, own := true }) (l.drop k))) := by
  have P0 : PD w0 ((W.alloc (.cells Z17 26)).alloc (.cells #[.int .i64 29, .int .i64 0, .int .i64 0, .slice none 0 0, .int .i64 0, .bool false, .bool false, .int .i64 0, .bool false, .int .i64 0, .bool false, .int .i64 0, .slice none 0 0, .bool false, .int .i64 0, .int .i64 0, .int .i64 0] 26)) G W.heap.size (.slice (some ⟨ab, ao, none⟩) n c) k 0 ({ Fr.zero with kind := 29 }) nilS nilS := PD.new R ({ Fr.zero with kind := 29 }) rfl rfl
  go_enter Try.func56, Try.ntmps56
  go_upto_region 2 with (refine wpList_store_new (W.alloc (.cells Z17 26)) Z17 #[.int .i64 29, .int .i64 0, .int .i64 0, .slice none 0 0, .int .i64 0, .bool false, .bool false, .int .i64 0, .bool false, .int .i64 0, .bool false, .int .i64 0, .slice none 0 0, .bool false, .int .i64 0, .int .i64 0, .int .i64 0] (W.heap.size + 1) rfl _ _ _ rfl (by simp) rfl rfl Try.size26 rfl (one17 ({ Fr.zero with kind := 29 }) nilS nilS rfl rfl) ?_)
  generalize (W.alloc (.cells Z17 26)).alloc (.cells #[.int .i64 29, .int .i64 0, .int .i64 0, .slice none 0 0, .int .i64 0, .bool false, .bool false, .int .i64 0, .bool false, .int .i64 0, .bool false, .int .i64 0, .slice none 0 0, .bool false, .int .i64 0, .int .i64 0, .int .i64 0] 26) = U0 at *
  generalize W.heap.size = b at *
  go_upto_region 48 with fail
  have xt := P0.fb.thaws
  have xj := P0.fb.cell 0 _ rfl
  go_upto_region 49 with fail
  have Q0 := P0.set 0 (.int .i64 28) ({ Fr.zero with kind := 28 }) rfl rfl rfl
  clear P0 xt xj
  generalize U0.setCell ⟨b + 1, 0, none⟩ (.int .i64 28) = V0 at *
  have xt := Q0.fb.thaws
  have xj := Q0.fb.cell 10 _ rfl
  go_upto_region 50 with fail
  have Q1 := Q0.set 10 (.bool true) ({ Fr.zero with kind := 28, own := true }) rfl rfl rfl
  clear Q0 xt xj
  generalize V0.setCell ⟨b + 1, 10, none⟩ (.bool true) = V1 at *
  have S0 := St.start l ({ Fr.zero with kind := 28, own := true }) k (by omega)
  have nu := Q1.rd.num hr hn (by omega) hc2 hk
  go_upto_region 51 with (go_at_call 76; refine nu.mono ?_; rintro en Y1 ⟨v1, k1, e1, rfl, q1, rd1, g1⟩; have A1 := Q1.step g1 rd1; have xt := A1.fb.thaws; have xj := A1.fb.cell 9 _ rfl)
  have hk1 : k1 ≤ n := by have h := (rdN_val (l := l) (k := k) (e := 0) hr.1 (by omega)).2.2.1; rw [← unhide q1] at h; simp only at h; omega
  have S1 := S0.num (p := 5) hr.1 (by omega) (unhide q1) (f' := { Fr.zero with kind := 28, own := true, code := v1 }) rfl
  have P1 := A1.set 9 (.int .i64 v1) ({ Fr.zero with kind := 28, own := true, code := v1 }) rfl rfl rfl
  clear nu xt xj A1 Q1 rd1 g1 q1
  generalize Y1.setCell ⟨b + 1, 9, none⟩ (.int .i64 v1) = U1 at *
  have x10f := P1.fb.cell 10 _ rfl
  have nu := P1.rd.num hr hn (by omega) hc2 hk1
  go_upto_region 54 with (go_at_call 76; refine nu.mono ?_; rintro en Y2 ⟨v2, k2, e2, rfl, q2, rd2, g2⟩)
  have A2 := P1.step g2 rd2
  have hv2 := rdN_val (l := l) (k := k1) (e := e1) hr.1 (by omega)
  rw [← unhide q2] at hv2
  simp only at hv2
  unfold MAXN at hv2
  have hk2 : k2 ≤ n := by omega
  clear nu P1 rd2 g2
  have em : mst e2 (decide ((0 : Int) ≤ 4611686018427387903 - v2)) = e2 := by rw [decide_eq_true (by omega)]; unfold mst; simp
  have B2 := A2
  rw [← em] at B2
  clear A2 em
  have by2 := B2.rd.byts hr hn hc hc2 hk2 hl v2 (by omega) (by unfold MAXN; omega)
  go_upto_region 55 with (go_at_call 78; refine by2.mono ?_; rintro en X2 ⟨dv, D, k2b, e2b, rfl, qb, ob, rb, gb⟩; obtain ⟨da, dc, hdv⟩ := ob.shape; subst hdv; have D2 := B2.step gb rb; have xt := D2.fb.thaws; have xj := D2.fb.cell 3 _ rfl)
  have S2 := S1.cnt hr.1 (unhide q2) (unhide qb) (f' := { Fr.zero with kind := 28, own := true, code := v1, data := D }) rfl
  have P2 := D2.setD ob
  clear by2 xt xj D2 B2 ob rb gb qb q2
  generalize X2.setCell ⟨b + 1, 3, none⟩ (.slice da D.length dc) = U2 at *
  obtain ⟨D9, D17, D1, fb9, res9, bl9, FIN⟩ := P2.fin S2
  have iD : (Try.prog.info? 26).map (·.size) = some D9.size := by rw [D17]; exact Try.size26
  have HFIN : Hid (PPost w0 G (.slice (some ⟨ab, ao, none⟩) n c) l (readPs (5, 11, 0, 0) ({ Fr.zero with kind := 28, own := true }) (l.drop k)) (.returned (.agg D9)) (U2.setRow b D9)) := by rw [readPs_eq]; simp only [bind_zero]; exact FIN
  clear FIN P2 S2
  generalize readPs (5, 11, 0, 0) ({ Fr.zero with kind := 28, own := true }) (l.drop k) = x at *
  go_wp2_with (first | (refine wpList_load_row rfl _ _ rfl (b + 1) rfl 26 D9 (0, 0) _ fb9 Try.underlying26 rfl iD ?_) | (refine wpList_store_row rfl _ _ _ rfl b D9 rfl rfl 26 _ res9 iD (by rw [D17]; rfl) D1 ?_))
  refine bodyPost_ret (results_cell_row Try.results56 _ _ b 26 D9 (0, 0) _ rfl bl9 Try.underlying26 rfl iD) rfl ?_
  exact unhide HFIN
end Go.Proofs.Ytggjeamondampaa
