/- Ledger: mayAck. -/
import Derived.Test.YtnflbefbgcbdfaaL3I
import Derived.Deep.DeepCutAuto
import Derived.Deep.RegionWith
import Derived.Deep.CutRange
namespace Go.Proofs.Ytnflbefbgcbdfaa
open Go.RowKit
set_option linter.unusedVariables false
set_option maxRecDepth 100000
set_option maxHeartbeats 4000000

/-- What mayAck answers of an open one. -/
def ackF (l : Lg) : List Sp → Int
  | [] => 0
  | r :: t => if r.2 < r.1 ∨ r.1 < 0 then 1 else if r.1 < l.fi ∨ l.ne ≤ r.2 then 130 else ackF l t
def Lg.mayAck (l : Lg) (rs : List Sp) : Int := if l.op = false then 5 else ackF l rs
/-- Runs that are read. -/
def RdS (W : World) (a : Option Addr) (rs : List Sp) : Prop := rs = [] ∨ ∃ g off, a = some ⟨g, off, none⟩ ∧ ∀ (i : Nat) (r : Sp), rs[i]? = some r → W.cell? ⟨g, off + i * 2, none⟩ = some (.int .i64 r.1) ∧ W.cell? ⟨g, off + i * 2 + 1, none⟩ = some (.int .i64 r.2)

theorem mayack_any (b q : Nat) (kv : Value) (l : Lg) (a : Option Addr) (n c : Nat) (rs : List Sp) (hn : n = rs.length) (hn8 : n ≤ 1000000000000) (X : World) (hb : Blk X b (l.cs kv q) 63) (hr : RdS X a rs) :
    Calls Try.prog 21 #[.pointer (some ⟨b, 0, none⟩), .slice a n c] X fun e Y => e = .returned (.int .i64 (l.mayAck rs)) ∧ X.grownBy Y none := by
  have c0 : X.cell? ⟨b, 0, none⟩ = some (.bool l.op) := hb.cell 0 _ rfl
  have c1 : X.cell? ⟨b, 1, none⟩ = some (.int .i64 l.fi) := hb.cell 1 _ rfl
  have c2 : X.cell? ⟨b, 2, none⟩ = some (.int .i64 l.ne) := hb.cell 2 _ rfl
  have HN := hide hn
  have HR := hide hr
  clear hb hr hn
  obtain ⟨op, fi, ne, la, ti, ls, ks, ac⟩ := l
  simp only at c0 c1 c2
  cases op
  · go_enter Try.func21, Try.ntmps21
    go_wp2_with fail
    all_goals go_ret
    all_goals exact ⟨rfl, grown_self _ _⟩
  · have em : Lg.mayAck ⟨true, fi, ne, la, ti, ls, ks, ac⟩ rs = ackF ⟨true, fi, ne, la, ti, ls, ks, ac⟩ rs := rfl
    rw [em]
    clear em
    obtain ⟨m, hm⟩ : ∃ m, m = ackF ⟨true, fi, ne, la, ti, ls, ks, ac⟩ rs := ⟨_, rfl⟩
    rw [← hm]
    have HM := hide hm
    clear hm
    have hnI : ¬ (9223372036854775807 : Int) < (n : Int) := by omega
    go_enter Try.func21, Try.ntmps21
    go_upto_region 4 with fail
    go_loopw [14] (fun iv wr => ∃ (k : Nat), k ≤ n ∧ iv = .int .i64 k ∧ Hid (X.grownBy wr none ∧ m = ackF ⟨true, fi, ne, la, ti, ls, ks, ac⟩ (rs.drop k))) (fun iv _ => n - (intOf iv).toNat)
    case atStart => exact ⟨0, Nat.zero_le _, rfl, grown_self _ _, unhide HM⟩
    case round =>
      obtain ⟨k, hk, rfl, I⟩ := hrel
      by_cases hlt : k < n
      · have hkI : (k : Int) < (n : Int) := by omega
        obtain ⟨q1, q2⟩ := unhide I
        have hkr : k < rs.length := by rw [← unhide HN]; exact hlt
        obtain ⟨r, hr⟩ : ∃ r, rs[k]? = some r := ⟨_, List.getElem?_eq_getElem hkr⟩
        obtain ⟨g, off, rfl, hc⟩ : ∃ g off, a = some ⟨g, off, none⟩ ∧ ∀ (i : Nat) (r : Sp), rs[i]? = some r → X.cell? ⟨g, off + i * 2, none⟩ = some (.int .i64 r.1) ∧ X.cell? ⟨g, off + i * 2 + 1, none⟩ = some (.int .i64 r.2) := by
          rcases unhide HR with e | h
          · rw [e] at hr; simp at hr
          · exact h
        obtain ⟨lo, hi⟩ := r
        obtain ⟨y0, y1⟩ := hc k _ hr
        replace y0 := cell_grown y0 q1
        replace y1 := cell_grown y1 q1
        have ed : rs.drop k = (lo, hi) :: rs.drop (k + 1) := by
          rw [List.drop_eq_getElem_cons hkr]
          rw [List.getElem?_eq_getElem hkr] at hr
          injection hr with hr
          rw [hr]
        rw [ed] at q2
        simp only [ackF] at q2
        obtain ⟨Z, hZ⟩ : ∃ Z, Z = wr.alloc (.cells #[.int .i64 lo, .int .i64 hi] 48) := ⟨_, rfl⟩
        have gZ : wr.grownBy Z none := by rw [hZ]; exact grown_alloc _ _
        have BZ : Blk Z wr.heap.size #[.int .i64 lo, .int .i64 hi] 48 := by rw [hZ]; exact Blk.new wr _ _
        obtain ⟨zs, hzs⟩ : ∃ zs, zs = wr.heap.size := ⟨_, rfl⟩
        rw [← hzs] at BZ
        have z0 : Z.cell? ⟨zs, 0, none⟩ = some (.int .i64 lo) := BZ.cell 0 _ rfl
        have z1 : Z.cell? ⟨zs, 1, none⟩ = some (.int .i64 hi) := BZ.cell 1 _ rfl
        have gX := grown_trans q1 gZ
        have d1 := cell_grown c1 gX
        have d2 := cell_grown c2 gX
        have Q2 := hide (And.intro q2 gX)
        clear q1 q2 hc hr ed I BZ gZ gX HR
        go_upto_region 6 with fail
        rw [← hZ, ← hzs]
        replace hZ := hide hZ
        replace hzs := hide hzs
        clear y0 y1
        by_cases a1 : hi < lo
        · have hk1 : 1 = m := by rw [(unhide Q2).1, if_pos (Or.inl a1)]
          have HK := hide hk1
          clear hk1
          go_wp2_with fail
          all_goals go_ret
          all_goals exact ⟨by rw [← unhide HK]; rfl, (unhide Q2).2⟩
        by_cases a2 : lo < 0
        · have hk1 : 1 = m := by rw [(unhide Q2).1, if_pos (Or.inr a2)]
          have HK := hide hk1
          clear hk1
          go_wp2_with fail
          all_goals go_ret
          all_goals exact ⟨by rw [← unhide HK]; rfl, (unhide Q2).2⟩
        have hq := (unhide Q2).1
        rw [if_neg (by omega)] at hq
        have HQ := hide (And.intro hq (unhide Q2).2)
        clear hq Q2
        by_cases a3 : lo < fi
        · have hk1 : 130 = m := by rw [(unhide HQ).1, if_pos (Or.inl a3)]
          have HK := hide hk1
          clear hk1
          go_upto_region 8 with fail
          go_region
          all_goals go_wp2_with fail
          all_goals go_ret
          all_goals exact ⟨by rw [← unhide HK]; rfl, by first | exact grown_drew' (unhide HQ).2 | exact (unhide HQ).2⟩
        by_cases a4 : ne ≤ hi
        · have hk1 : 130 = m := by rw [(unhide HQ).1, if_pos (Or.inr a4)]
          have HK := hide hk1
          clear hk1
          go_upto_region 8 with fail
          go_region
          all_goals go_wp2_with fail
          all_goals go_ret
          all_goals exact ⟨by rw [← unhide HK]; rfl, by first | exact grown_drew' (unhide HQ).2 | exact (unhide HQ).2⟩
        have hk1 : m = ackF ⟨true, fi, ne, la, ti, ls, ks, ac⟩ (rs.drop (k + 1)) := by rw [(unhide HQ).1, if_neg (by omega)]
        have HK := hide hk1
        clear hk1
        have a4' : hi < ne := by omega
        go_upto_region 8 with fail
        go_region
        all_goals go_wp2_with fail
        all_goals exact ⟨⟨k + 1, hlt, rfl, by first | exact grown_drew' (unhide HQ).2 | exact (unhide HQ).2, unhide HK⟩, by simp [intOf]; omega⟩
      · obtain rfl : k = n := by omega
        have hkI : ¬ (k : Int) < (k : Int) := by omega
        obtain ⟨q1, q2⟩ := unhide I
        have e0 : m = 0 := by rw [q2, unhide HN, List.drop_length]; rfl
        have GX := hide (And.intro q1 e0)
        clear q1 q2 e0 I HM
        go_wp2_with fail
        all_goals go_ret
        all_goals exact ⟨by rw [(unhide GX).2]; rfl, (unhide GX).1⟩
end Go.Proofs.Ytnflbefbgcbdfaa
