/- Ledger: View. -/
import Derived.Test.YtnflbefbgcbdfaaL3G
import Derived.Deep.DeepCutAuto
import Derived.Deep.RegionWith
import Derived.Deep.CutRange
import Derived.BigRegion
namespace Go.Proofs.Ytnflbefbgcbdfaa
open Go.RowKit
set_option linter.unusedVariables false
set_option maxRecDepth 100000
set_option maxHeartbeats 4000000

/-- The sum of the sizes; how many want an acknowledgement. -/
def flt : List St → Int
  | [] => 0
  | s :: r => s.si + flt r
def wtg : List St → Int
  | [] => 0
  | s :: r => (if s.el = true then 1 else 0) + wtg r
theorem flt_app : ∀ (A B : List St), flt (A ++ B) = flt A + flt B
  | [], B => by simp [flt]
  | s :: A, B => by simp only [List.cons_append, flt, flt_app A B]; omega
theorem wtg_app : ∀ (A B : List St), wtg (A ++ B) = wtg A + wtg B
  | [], B => by simp [wtg]
  | s :: A, B => by simp only [List.cons_append, wtg, wtg_app A B]; omega
theorem flt_next {ks : List St} {k : Nat} {s : St} (h : ks[k]? = some s) : flt (ks.take (k + 1)) = flt (ks.take k) + s.si := by
  rw [List.take_add_one, h, flt_app]; simp [flt]
theorem wtg_next {ks : List St} {k : Nat} {s : St} (h : ks[k]? = some s) : wtg (ks.take (k + 1)) = wtg (ks.take k) + (if s.el = true then 1 else 0) := by
  rw [List.take_add_one, h, wtg_app]; simp [wtg]
theorem flt_bd : ∀ (ks : List St), (∀ s ∈ ks, 0 ≤ s.si ∧ s.si ≤ 65535) → 0 ≤ flt ks ∧ flt ks ≤ ks.length * 65535
  | [], h => by simp [flt]
  | s :: r, h => by
    have h1 := h s (by simp)
    have h2 := flt_bd r (fun x hx => h x (by simp [hx]))
    simp only [flt, List.length_cons]
    omega
theorem wtg_bd : ∀ (ks : List St), 0 ≤ wtg ks ∧ wtg ks ≤ ks.length
  | [] => by simp [wtg]
  | s :: r => by
    have h2 := wtg_bd r
    simp only [wtg, List.length_cons]
    split <;> omega

/-- The cells of a view. -/
def vw (l : Lg) (f n w : Int) : Array Value := #[.bool l.op, .int .i64 l.ne, .int .i64 l.la, .int .i64 l.ls, .int .i64 (-1), .int .i64 f, .int .i64 n, .int .i64 w]

theorem Try.sizeSpace : (Try.prog.info? 44).map (·.size) = some 8 := by kernel_rfl
theorem view_any {R : Nat → Prop} (b q : Nat) (kv : Value) (l : Lg) (X : World) (hb : Blk X b (l.cs kv q) 63) (hk : KvAt R X kv l.ks) (hl : l.ks.length ≤ 1100000) (hs : ∀ s ∈ l.ks, 0 ≤ s.si ∧ s.si ≤ 65535) (hR : ∀ g, R g → g < X.heap.size) :
    Calls Try.prog 10 #[.pointer (some ⟨b, 0, none⟩)] X fun e Y => e = .returned (.agg (vw l (flt l.ks) l.ks.length (wtg l.ks))) ∧ X.grownBy Y none := by
  obtain ⟨W1, hW1⟩ : ∃ W1, W1 = X.alloc (.cells #[.bool false, .int .i64 0, .int .i64 0, .int .i64 0, .int .i64 0, .int .i64 0, .int .i64 0, .int .i64 0] 44) := ⟨_, rfl⟩
  have g1 : X.grownBy W1 none := by rw [hW1]; exact grown_alloc _ _
  have B1 : Blk W1 X.heap.size #[.bool false, .int .i64 0, .int .i64 0, .int .i64 0, .int .i64 0, .int .i64 0, .int .i64 0, .int .i64 0] 44 := by rw [hW1]; exact Blk.new X _ _
  have hb1 := hb.grown g1
  have hk1 := hk.grown g1
  obtain ⟨a, n, c, hkv, hn⟩ : ∃ a n c, kv = .slice a n c ∧ n = l.ks.length := by
    rcases hk.sh with ⟨e1, e2⟩ | ⟨g, c, e1, -⟩
    · exact ⟨none, 0, 0, e1, by rw [e2]; rfl⟩
    · exact ⟨_, _, c, e1, rfl⟩
  subst hkv
  have c0 : W1.cell? ⟨b, 0, none⟩ = some (.bool l.op) := hb1.cell 0 _ rfl
  have c2 : W1.cell? ⟨b, 2, none⟩ = some (.int .i64 l.ne) := hb1.cell 2 _ rfl
  have c3 : W1.cell? ⟨b, 3, none⟩ = some (.int .i64 l.la) := hb1.cell 3 _ rfl
  have c5 : W1.cell? ⟨b, 5, none⟩ = some (.int .i64 l.ls) := hb1.cell 5 _ rfl
  have c6 : W1.cell? ⟨b, 6, none⟩ = some (.slice a n c) := hb1.cell 6 _ rfl
  have d0 := cell_grown c0 (grown_alloc W1 (.cells #[.bool false, .int .i64 0, .int .i64 0, .int .i64 0, .int .i64 0, .int .i64 0, .int .i64 0, .int .i64 0] 44))
  have d2 := cell_grown c2 (grown_alloc W1 (.cells #[.bool false, .int .i64 0, .int .i64 0, .int .i64 0, .int .i64 0, .int .i64 0, .int .i64 0, .int .i64 0] 44))
  have d3 := cell_grown c3 (grown_alloc W1 (.cells #[.bool false, .int .i64 0, .int .i64 0, .int .i64 0, .int .i64 0, .int .i64 0, .int .i64 0, .int .i64 0] 44))
  have d5 := cell_grown c5 (grown_alloc W1 (.cells #[.bool false, .int .i64 0, .int .i64 0, .int .i64 0, .int .i64 0, .int .i64 0, .int .i64 0, .int .i64 0] 44))
  have d6 := cell_grown c6 (grown_alloc W1 (.cells #[.bool false, .int .i64 0, .int .i64 0, .int .i64 0, .int .i64 0, .int .i64 0, .int .i64 0, .int .i64 0] 44))
  have hnI : ¬ (9223372036854775807 : Int) < (n : Int) := by omega
  obtain ⟨r0, hr0⟩ : ∃ r0, r0 = X.heap.size := ⟨_, rfl⟩
  rw [← hr0] at B1
  have HR := hide hR
  clear hR
  have LO := hide (And.intro g1 (And.intro B1 (And.intro hb1 (And.intro hk1 (And.intro hs (And.intro hn hl))))))
  clear g1 B1 hb1 hk1 hs hb hk hn hl
  go_enter Try.func10, Try.ntmps10
  go_upto_region 1 with fail
  rw [← hW1, ← hr0]
  replace hW1 := hide hW1
  replace hr0 := hide hr0
  go_region
  obtain ⟨W2, hW2⟩ : ∃ W2, W2 = (W1.alloc (.cells #[.bool l.op, .int .i64 l.ne, .int .i64 l.la, .int .i64 l.ls, .int .i64 (-1), .int .i64 0, .int .i64 n, .int .i64 0] 44)).drew := ⟨_, rfl⟩
  have g2 : W1.grownBy W2 none := by rw [hW2]; exact grown_drew' (grown_alloc _ _)
  have e6 : W2.cell? ⟨b, 6, none⟩ = some (.slice a n c) := cell_grown c6 g2
  have B2 : Blk W2 W1.heap.size #[.bool l.op, .int .i64 l.ne, .int .i64 l.la, .int .i64 l.ls, .int .i64 (-1), .int .i64 0, .int .i64 n, .int .i64 0] 44 := by rw [hW2]; exact (Blk.new W1 _ _).drew
  rw [← hW2]
  replace hW2 := hide hW2
  obtain ⟨b3, hb3⟩ : ∃ b3, b3 = W1.heap.size := ⟨_, rfl⟩
  rw [← hb3] at B2 ⊢
  have I0 : Hid (X.grownBy W2 none ∧ Blk W2 r0 #[.bool false, .int .i64 0, .int .i64 0, .int .i64 0, .int .i64 0, .int .i64 0, .int .i64 0, .int .i64 0] 44 ∧ Blk W2 b3 (vw l (flt (l.ks.take 0)) n (wtg (l.ks.take 0))) 44 ∧ KvAt R W2 (.slice a n c) l.ks ∧ r0 < b3) := by
    obtain ⟨q1, q2, q3, q4, q5, q6⟩ := unhide LO
    exact ⟨grown_trans q1 g2, q2.grown g2, B2, q4.grown g2, by rw [hb3]; exact q2.lt⟩
  have SX : Hid (X.heap.size ≤ r0) := by show _ ≤ _; rw [unhide hr0]; exact Nat.le_refl _
  clear g2 B2 d0 d2 d3 d5 d6 c0 c2 c3 c5 c6
  replace hb3 := hide hb3
  go_upto_region 3 with fail
  clear e6
  go_loopw [33] (fun iv wr => ∃ (k : Nat), k ≤ n ∧ iv = .int .i64 k ∧ Hid (X.grownBy wr none ∧ Blk wr r0 #[.bool false, .int .i64 0, .int .i64 0, .int .i64 0, .int .i64 0, .int .i64 0, .int .i64 0, .int .i64 0] 44 ∧ Blk wr b3 (vw l (flt (l.ks.take k)) n (wtg (l.ks.take k))) 44 ∧ KvAt R wr (.slice a n c) l.ks ∧ r0 < b3)) (fun iv _ => n - (intOf iv).toNat)
  case atStart => exact ⟨0, Nat.zero_le _, rfl, I0⟩
  case round =>
    clear I0
    obtain ⟨k, hk, rfl, I⟩ := hrel
    by_cases hlt : k < n
    · have hkI : (k : Int) < (n : Int) := by omega
      obtain ⟨q1, q2, q3, q4, q5⟩ := unhide I
      obtain ⟨p1, p2, p3, p4, p5, p6, p7⟩ := unhide LO
      obtain ⟨s, hs⟩ : ∃ s, l.ks[k]? = some s := ⟨_, List.getElem?_eq_getElem (by omega)⟩
      obtain ⟨g, rfl⟩ : ∃ g, a = some ⟨g, 0, none⟩ := by
        rcases q4.sh with ⟨_, e2⟩ | ⟨g, c', e1, -⟩
        · rw [e2] at hs; simp at hs
        · injection e1 with e1; exact ⟨g, e1⟩
      subst p6
      obtain ⟨fv, hfv, hc⟩ := q4.get hs
      have y0 : wr.cell? ⟨g, k * 8, none⟩ = some (.int .i64 s.nu) := hc 0 _ rfl
      have y1 : wr.cell? ⟨g, k * 8 + 1, none⟩ = some (.int .i64 s.ti) := hc 1 _ rfl
      have y2 : wr.cell? ⟨g, k * 8 + 2, none⟩ = some (.int .i64 s.si) := hc 2 _ rfl
      have y3 : wr.cell? ⟨g, k * 8 + 3, none⟩ = some (.bool s.el) := hc 3 _ rfl
      have y4 : wr.cell? ⟨g, k * 8 + 4, none⟩ = some (.bool s.co) := hc 4 _ rfl
      have y5 : wr.cell? ⟨g, k * 8 + 5, none⟩ = some (.bool s.pr) := hc 5 _ rfl
      have y6 : wr.cell? ⟨g, k * 8 + 6, none⟩ = some (.int .i64 s.tl) := hc 6 _ rfl
      have y7 : wr.cell? ⟨g, k * 8 + 7, none⟩ = some fv := hc 7 _ rfl
      obtain ⟨-, fa, fc, css, rfl, -⟩ := hfv
      obtain ⟨Z, hZ⟩ : ∃ Z, Z = wr.alloc (.cells #[.int .i64 s.nu, .int .i64 s.ti, .int .i64 s.si, .bool s.el, .bool s.co, .bool s.pr, .int .i64 s.tl, .slice fa s.fs.length fc] 36) := ⟨_, rfl⟩
      have gZ : wr.grownBy Z none := by rw [hZ]; exact grown_alloc _ _
      have BZ : Blk Z wr.heap.size #[.int .i64 s.nu, .int .i64 s.ti, .int .i64 s.si, .bool s.el, .bool s.co, .bool s.pr, .int .i64 s.tl, .slice fa s.fs.length fc] 36 := by rw [hZ]; exact Blk.new wr _ _
      have q3Z := q3.grown gZ
      obtain ⟨F, hF⟩ : ∃ F, F = flt (l.ks.take k) := ⟨_, rfl⟩
      obtain ⟨N, hN⟩ : ∃ N, N = wtg (l.ks.take k) := ⟨_, rfl⟩
      rw [← hF, ← hN] at q3Z
      obtain ⟨zs, hzs⟩ : ∃ zs, zs = wr.heap.size := ⟨_, rfl⟩
      rw [← hzs] at BZ
      have ne3 : b3 ≠ zs := by have := q3.lt; omega
      have z5 : Z.cell? ⟨b3, 5, none⟩ = some (.int .i64 F) := q3Z.cell 5 _ rfl
      have t5 := q3Z.thaw 5
      have zs2 : Z.cell? ⟨zs, 2, none⟩ = some (.int .i64 s.si) := BZ.cell 2 _ rfl
      obtain ⟨Z1, hZ1⟩ : ∃ Z1, Z1 = Z.setCell ⟨b3, 5, none⟩ (.int .i64 (F + s.si)) := ⟨_, rfl⟩
      have q3Z1 : Blk Z1 b3 (vw l (F + s.si) l.ks.length N) 44 := by rw [hZ1]; exact q3Z.setC 5 _
      have BZ1 : Blk Z1 zs #[.int .i64 s.nu, .int .i64 s.ti, .int .i64 s.si, .bool s.el, .bool s.co, .bool s.pr, .int .i64 s.tl, .slice fa s.fs.length fc] 36 := by rw [hZ1]; exact BZ.setO b3 5 _ ne3
      have z13 : Z1.cell? ⟨zs, 3, none⟩ = some (.bool s.el) := BZ1.cell 3 _ rfl
      have z17 : Z1.cell? ⟨b3, 7, none⟩ = some (.int .i64 N) := q3Z1.cell 7 _ rfl
      have t17 := q3Z1.thaw 7
      have bF := flt_bd (l.ks.take k) (fun x hx => p5 x (List.mem_of_mem_take hx))
      have bN := wtg_bd (l.ks.take k)
      have lk : (l.ks.take k).length ≤ 1100000 := by rw [List.length_take]; omega
      have bs := p5 s (List.mem_of_getElem? hs)
      rw [← hF] at bF
      rw [← hN] at bN
      have bF1 : 0 ≤ F := bF.1
      have bF2 : F ≤ 72088500000 := by omega
      have bN1 : 0 ≤ N := bN.1
      have bN2 : N ≤ 1100000 := by omega
      have bs1 := bs.1
      have bs2 := bs.2
      have hn8 : (l.ks.length : Int) ≤ 1100000 := by omega
      have hkv := q4
      have sx : X.heap.size ≤ b3 := by have := unhide SX; omega
      have ng : ∀ g', Value.ownBlock (.slice (some ⟨g, 0, none⟩) l.ks.length c) = some g' → g' ≠ b3 := by
        intro g' e1 e2
        subst e2
        injection e1 with e1
        have e1 : g = g' := e1
        subst e1
        have r := q3.cell 0 _ rfl
        obtain ⟨fvs, -, ho, -⟩ := q4
        rcases ho.2 with ⟨e, -⟩ | ⟨g'', c', cur, e, -, u, -⟩
        · cases e
        · injection e with e
          injection e with e
          injection e with e
          subst e
          have := u.symm.trans q3
          simp at this
      have GO := hide (And.intro hF (And.intro hN (And.intro hs (And.intro sx (And.intro ng (And.intro gZ (And.intro q3Z1 BZ1)))))))
      clear q1 q2 q3 q4 q5 p1 p2 p3 p4 p5 p7 gZ BZ q3Z hF hN q3Z1 BZ1 bF bN lk bs hkv sx ng hs hc hnI
      go_upto_region 5 with fail
      rw [← hZ, ← hzs]
      replace hZ := hide hZ
      replace hzs := hide hzs
      clear y0 y1 y2 y3 y4 y5 y6 y7
      go_upto_region 6 with fail
      rw [← hZ1]
      have STEP : ∀ (W' : World) (N' : Int), (W' = Z1 ∧ N' = N ∧ s.el = false ∨ W' = Z1.setCell ⟨b3, 7, none⟩ (.int .i64 (N + 1)) ∧ N' = N + 1 ∧ s.el = true) → Hid (X.grownBy W' none ∧ Blk W' r0 #[.bool false, .int .i64 0, .int .i64 0, .int .i64 0, .int .i64 0, .int .i64 0, .int .i64 0, .int .i64 0] 44 ∧ Blk W' b3 (vw l (flt (l.ks.take (k + 1))) l.ks.length (wtg (l.ks.take (k + 1)))) 44 ∧ KvAt R W' (.slice (some ⟨g, 0, none⟩) l.ks.length c) l.ks ∧ r0 < b3) := by
        intro W' N' hW
        obtain ⟨q1, q2, q3, q4, q5⟩ := unhide I
        obtain ⟨hF, hN, hs, sx, ng, gZ, q3Z1, BZ1⟩ := unhide GO
        have e1 : F + s.si = flt (l.ks.take (k + 1)) := by rw [flt_next hs, hF]
        have x1 : X.grownBy Z1 none := by rw [hZ1]; exact grown_set (grown_trans q1 gZ) _ _ _ sx
        have x2 : Blk Z1 r0 #[.bool false, .int .i64 0, .int .i64 0, .int .i64 0, .int .i64 0, .int .i64 0, .int .i64 0, .int .i64 0] 44 := by rw [hZ1]; exact (q2.grown gZ).setO b3 5 _ (by omega)
        have nR : ∀ b, R b → b ≠ b3 := fun b hb => by have := unhide HR b hb; omega
        have x4 : KvAt R Z1 (.slice (some ⟨g, 0, none⟩) l.ks.length c) l.ks := by
          rw [hZ1]
          exact (q4.grown gZ).kept (fun b hb => set_heap _ _ _ _ _ (nR b hb)) (fun g' hg' => set_heap _ _ _ _ _ (ng g' hg'))
        rcases hW with ⟨rfl, rfl, el⟩ | ⟨rfl, rfl, el⟩
        · have e2 : N' = wtg (l.ks.take (k + 1)) := by rw [wtg_next hs, hN, el]; simp
          rw [e1, e2] at q3Z1
          exact ⟨x1, x2, q3Z1, x4, q5⟩
        · have e2 : N + 1 = wtg (l.ks.take (k + 1)) := by rw [wtg_next hs, hN, el]; simp
          refine ⟨grown_set x1 _ _ _ sx, x2.setO b3 7 _ (by omega), ?_, x4.kept (fun b hb => set_heap _ _ _ _ _ (nR b hb)) (fun g' hg' => set_heap _ _ _ _ _ (ng g' hg')), q5⟩
          rw [e1] at q3Z1
          rw [← e2]
          exact q3Z1.setC 7 _
      have ST := hide STEP
      clear STEP GO I hZ1 z5 t5 zs2
      cases el : s.el
      · rw [el] at z13
        go_wp2_with fail
        exact ⟨⟨k + 1, hlt, rfl, unhide ST _ N (.inl ⟨rfl, rfl, el⟩)⟩, by simp [intOf]; omega⟩
      · rw [el] at z13
        go_wp2_with fail
        exact ⟨⟨k + 1, hlt, rfl, unhide ST _ (N + 1) (.inr ⟨rfl, rfl, el⟩)⟩, by simp [intOf]; omega⟩
    · obtain rfl : k = n := by omega
      have hkI : ¬ (k : Int) < (k : Int) := by omega
      obtain ⟨q1, q2, q3, q4, q5⟩ := unhide I
      obtain ⟨p1, p2, p3, p4, p5, p6, p7⟩ := unhide LO
      have ek : l.ks.take k = l.ks := by rw [p6]; exact List.take_length
      rw [ek] at q3
      obtain ⟨F, hF⟩ : ∃ F, F = flt l.ks := ⟨_, rfl⟩
      obtain ⟨N, hN⟩ : ∃ N, N = wtg l.ks := ⟨_, rfl⟩
      rw [← hF, ← hN] at q3
      have fin : Hid (X.grownBy (wr.setRow r0 #[.bool l.op, .int .i64 l.ne, .int .i64 l.la, .int .i64 l.ls, .int .i64 (-1), .int .i64 F, .int .i64 k, .int .i64 N]) none ∧ Blk (wr.setRow r0 #[.bool l.op, .int .i64 l.ne, .int .i64 l.la, .int .i64 l.ls, .int .i64 (-1), .int .i64 F, .int .i64 k, .int .i64 N]) r0 #[.bool l.op, .int .i64 l.ne, .int .i64 l.la, .int .i64 l.ls, .int .i64 (-1), .int .i64 F, .int .i64 k, .int .i64 N] 44 ∧ (.agg (vw l F k N) : Value) = .agg (vw l (flt l.ks) l.ks.length (wtg l.ks))) := ⟨grown_row q1 _ _ (unhide SX), q2.row _, by rw [hF, hN, p6]⟩
      obtain ⟨y0, y1, y2, y3, y4, y5, y6, y7⟩ : wr.cell? ⟨b3, 0, none⟩ = some (.bool l.op) ∧ wr.cell? ⟨b3, 1, none⟩ = some (.int .i64 l.ne) ∧ wr.cell? ⟨b3, 2, none⟩ = some (.int .i64 l.la) ∧ wr.cell? ⟨b3, 3, none⟩ = some (.int .i64 l.ls) ∧ wr.cell? ⟨b3, 4, none⟩ = some (.int .i64 (-1)) ∧ wr.cell? ⟨b3, 5, none⟩ = some (.int .i64 F) ∧ wr.cell? ⟨b3, 6, none⟩ = some (.int .i64 k) ∧ wr.cell? ⟨b3, 7, none⟩ = some (.int .i64 N) := ⟨q3.cell 0 _ rfl, q3.cell 1 _ rfl, q3.cell 2 _ rfl, q3.cell 3 _ rfl, q3.cell 4 _ rfl, q3.cell 5 _ rfl, q3.cell 6 _ rfl, q3.cell 7 _ rfl⟩
      have Q2 := hide q2
      clear q1 q2 q3 q4 q5 p1 p2 p3 p4 p5 p6 p7 ek hF hN I LO
      go_wp2_with (refine wpList_store_row rfl _ _ _ rfl r0 #[.bool l.op, .int .i64 l.ne, .int .i64 l.la, .int .i64 l.ls, .int .i64 (-1), .int .i64 F, .int .i64 k, .int .i64 N] rfl rfl 44 _ (unhide Q2) Try.sizeSpace rfl (by simp [Value.oneCell']) ?_)
      refine bodyPost_ret (results_cell_row rfl _ _ r0 44 #[.bool l.op, .int .i64 l.ne, .int .i64 l.la, .int .i64 l.ls, .int .i64 (-1), .int .i64 F, .int .i64 k, .int .i64 N] (0, 0) _ rfl (unhide fin).2.1 Try.underlying44 rfl Try.sizeSpace) rfl ?_
      exact ⟨congrArg Ending.returned (unhide fin).2.2, (unhide fin).1⟩
end Go.Proofs.Ytnflbefbgcbdfaa
