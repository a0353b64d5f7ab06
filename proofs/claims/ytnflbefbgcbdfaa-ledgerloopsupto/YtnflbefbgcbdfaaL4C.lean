/- Ledger: take's function where it leaves a packet; IndexFunc. -/
import Derived.Test.YtnflbefbgcbdfaaL4B
namespace Go.Proofs.Ytnflbefbgcbdfaa
open Go.RowKit
set_option linter.unusedVariables false
set_option linter.unusedSimpArgs false
set_option maxRecDepth 100000
set_option maxHeartbeats 4000000

theorem take1_no (bm bo : Nat) (f : FuncId) (pre cb : Array Value) (s : St) (fa : Option Addr) (fc : Nat) (W : World)
    (eg : ∀ args w, (callFunc f args).run Try.prog w = .ok (.enter f args) w) (hm : W.cell? ⟨bm, 0, none⟩ = some (.func (.func f) pre cb))
    (hM : ∀ Z, W.grownBy Z none → Calls Try.prog f (pre ++ #[.int .i64 s.nu] ++ cb) Z fun e Z' => e = .returned (.bool false) ∧ Z.grownBy Z' none) :
    Calls Try.prog 45 #[.agg (s.cs (.slice fa s.fs.length fc)), .pointer (some ⟨bm, 0, none⟩), .pointer (some ⟨bo, 0, none⟩)] W fun e W' => e = .returned (.bool false) ∧ W.grownBy W' none := by
  obtain ⟨B, hB⟩ : ∃ B, B = W.alloc (.cells (s.cs (.slice fa s.fs.length fc)) 36) := ⟨_, rfl⟩
  have gB : W.grownBy B none := by rw [hB]; exact grown_alloc _ _
  have bB : Blk B W.heap.size (s.cs (.slice fa s.fs.length fc)) 36 := by rw [hB]; exact Blk.new W _ _
  obtain ⟨bs, hbs⟩ : ∃ bs, bs = W.heap.size := ⟨_, rfl⟩
  rw [← hbs] at bB
  have hc1 := hM B gB
  have hmB := cell_grown hm gB
  have GB := hide gB
  obtain ⟨nu, ti, si, el, co, pr, tl, fs⟩ := s
  simp only [St.cs] at hB bB hc1 hbs ⊢
  have y0 : B.cell? ⟨bs, 0, none⟩ = some (.int .i64 nu) := bB.cell 0 _ rfl
  clear bB gB hM hm
  go_enter Try.func45, Try.ntmps45
  go_upto_region 1 with fail
  rw [← hB, ← hbs]
  replace hB := hide hB
  replace hbs := hide hbs
  go_wp2_with (refine hc1.mono ?_; rintro e X ⟨rfl, gX⟩)
  have G := hide (grown_trans (unhide GB) gX)
  clear gX hc1
  go_wp2_with fail
  all_goals go_ret
  all_goals exact ⟨rfl, unhide G⟩

/-- Which packets are meant: a function of their numbers that only reads, in every world in which the row g alone has changed. -/
structure Mn (w0 : World) (g : Option Nat) (f : FuncId) (pre cb : Array Value) (M : Int → Bool) : Prop where
  en : ∀ args w, (callFunc f args).run Try.prog w = .ok (.enter f args) w
  ca : ∀ Z k, w0.grownBy Z g → Calls Try.prog f (pre ++ #[.int .i64 k] ++ cb) Z fun e Z' => e = .returned (.bool (M k)) ∧ Z.grownBy Z' none

/-- What IndexFunc leaves. -/
def IdxP (n0 : Nat) (W : World) (bo : Nat) (ov : Value) (Ro : Nat → Prop) (M : Int → Bool) (ks : List St) (e : Ending) (W' : World) : Prop :=
  (e = .returned (.int .i64 (-1)) ∧ (∀ s ∈ ks, M s.nu = false) ∧ W.grownBy W' none) ∨
  ∃ (k : Nat) (s : St), e = .returned (.int .i64 k) ∧ ks[k]? = some s ∧ M s.nu = true ∧ (∀ s ∈ ks.take k, M s.nu = false) ∧ ∃ v' Ro', TO n0 W' bo v' Ro' [s] ∧ KT W W' bo ov ∧ (v'.ownBlock = ov.ownBlock ∨ ∀ g, v'.ownBlock = some g → W.heap.size ≤ g)

theorem idx_any (n0 bm bo g c : Nat) (w0 : World) (f : FuncId) (pre cb : Array Value) (M : Int → Bool) (ks : List St) (R : Nat → Prop) (W : World) (ov : Value) (Ro : Nat → Prop)
    (hM : Mn w0 (some g) f pre cb M) (gW : w0.grownBy W (some g)) (hm : W.cell? ⟨bm, 0, none⟩ = some (.func (.func f) pre cb)) (hk : KvAt R W (.slice (some ⟨g, 0, none⟩) ks.length c) ks) (h : TO n0 W bo ov Ro []) (hn : ks.length ≤ 1100000) :
    Calls Try.prog 66 #[.slice (some ⟨g, 0, none⟩) ks.length c, .func (.func 45) #[] #[.pointer (some ⟨bm, 0, none⟩), .pointer (some ⟨bo, 0, none⟩)]] W fun e W' => IdxP n0 W bo ov Ro M ks e W' := by
  obtain ⟨n, hnn⟩ : ∃ n, n = ks.length := ⟨_, rfl⟩
  have HM := hide hM
  have GW := hide gW
  have HK := hide hk
  have HT := hide h
  have lenI : ¬ (9223372036854775807 : Int) < (n : Int) := by omega
  rw [← hnn]
  clear hM gW hk h
  replace hnn := hide hnn
  replace hm := hide hm
  go_enter Try.func66, Try.ntmps66
  go_wp2
  go_loopw [8] (fun iv wr => ∃ (k : Nat), k ≤ n ∧ iv = .int .i64 k ∧ Hid (W.grownBy wr none ∧ ∀ s ∈ ks.take k, M s.nu = false)) (fun iv _ => n - (intOf iv).toNat)
  case atStart => exact ⟨0, Nat.zero_le _, rfl, ⟨grown_self _ _, by simp⟩⟩
  case round =>
    obtain ⟨k, hk, rfl, I⟩ := hrel
    by_cases hlt : k < n
    · have hkI : (k : Int) < (n : Int) := by omega
      have hk0 : (0 : Int) ≤ (k : Int) := by omega
      obtain ⟨q1, q2⟩ := unhide I
      obtain ⟨s, hs⟩ : ∃ s, ks[k]? = some s := ⟨_, List.getElem?_eq_getElem (by rw [← unhide hnn]; exact hlt)⟩
      obtain ⟨fv, hfv, hc⟩ := ((unhide HK).grown q1).get hs
      have y0 : wr.cell? ⟨g, k * 8, none⟩ = some (.int .i64 s.nu) := hc 0 _ rfl
      have y1 : wr.cell? ⟨g, k * 8 + 1, none⟩ = some (.int .i64 s.ti) := hc 1 _ rfl
      have y2 : wr.cell? ⟨g, k * 8 + 2, none⟩ = some (.int .i64 s.si) := hc 2 _ rfl
      have y3 : wr.cell? ⟨g, k * 8 + 3, none⟩ = some (.bool s.el) := hc 3 _ rfl
      have y4 : wr.cell? ⟨g, k * 8 + 4, none⟩ = some (.bool s.co) := hc 4 _ rfl
      have y5 : wr.cell? ⟨g, k * 8 + 5, none⟩ = some (.bool s.pr) := hc 5 _ rfl
      have y6 : wr.cell? ⟨g, k * 8 + 6, none⟩ = some (.int .i64 s.tl) := hc 6 _ rfl
      have y7 : wr.cell? ⟨g, k * 8 + 7, none⟩ = some fv := hc 7 _ rfl
      have HF := hide hfv
      obtain ⟨-, fa, fc, css, rfl, -⟩ := hfv
      have hmw := cell_grown (unhide hm) q1
      have gww := grown_trans (unhide GW) q1
      have ht := (unhide HT).grown q1
      have HS := hide hs
      have Q := hide (And.intro q1 q2)
      by_cases hp : M s.nu = true
      · have hc1 := take1_yes n0 bm bo f pre cb s R fa fc wr ov Ro [] (unhide HM).en hmw (fun Z gZ => by have := (unhide HM).ca Z s.nu (grown_trans gww gZ); rw [hp] at this; exact this) (unhide HF) ht (by simp)
        have HP := hide hp
        clear hc HF hmw gww ht hp q1 q2 I HK HT hs
        go_wp2_with (refine hc1.mono ?_; rintro e X ⟨rfl, v2, Ro2, t2, k2, o2⟩)
        all_goals go_ret
        all_goals
          obtain ⟨q1, q2⟩ := unhide Q
          refine .inr ⟨k, s, rfl, unhide HS, unhide HP, q2, v2, Ro2, t2, Kp.trans (Kp.grown q1 _) k2, o2.imp id (fun q g e => Nat.le_trans q1.size (q g e))⟩
      · have hp : M s.nu = false := by simpa using hp
        have hc1 := take1_no bm bo f pre cb s fa fc wr (unhide HM).en hmw (fun Z gZ => by have := (unhide HM).ca Z s.nu (grown_trans gww gZ); rw [hp] at this; exact this)
        have HP := hide hp
        clear hc HF hmw gww ht hp q1 q2 I HK HT hs
        go_wp2_with (refine hc1.mono ?_; rintro e X ⟨rfl, gX⟩)
        all_goals go_roundw
        case rel =>
          obtain ⟨q1, q2⟩ := unhide Q
          refine ⟨k + 1, hlt, by go_num, ⟨grown_trans q1 gX, fun x hx => ?_⟩⟩
          rw [List.take_add_one, unhide HS] at hx
          rcases List.mem_append.1 hx with h1 | h1
          · exact q2 x h1
          · simp at h1; subst h1; exact unhide HP
        case measure => simp [intOf]; omega
    · obtain rfl : k = n := by omega
      have hkI : ¬ (k : Int) < (k : Int) := by omega
      go_wp2
      go_ret
      obtain ⟨q1, q2⟩ := unhide I
      refine .inl ⟨rfl, fun s hs => q2 s ?_, q1⟩
      rw [List.take_of_length_le (by rw [unhide hnn]; exact Nat.le_refl _)]
      exact hs
end Go.Proofs.Ytnflbefbgcbdfaa
