/- Ledger: the ledger in memory; New, Next, mayAdd. -/
import Derived.Test.YtnflbefbgcbdfaaL3E
import Derived.Deep.DeepCutAuto
import Derived.Deep.RegionWith
import Derived.Deep.CutRange
namespace Go.Proofs.Ytnflbefbgcbdfaa
open Go.RowKit
set_option linter.unusedVariables false
set_option maxRecDepth 100000
set_option maxHeartbeats 4000000

/-- A ledger's content. -/
structure Lg where
  op : Bool
  fi : Int
  ne : Int
  la : Int
  ti : Int
  ls : Int
  ks : List St
  ac : List Sp
/-- A ledger's cells. -/
def Lg.cs (l : Lg) (kv : Value) (q : Nat) : Array Value := #[.bool l.op, .int .i64 l.fi, .int .i64 l.ne, .int .i64 l.la, .int .i64 l.ti, .int .i64 l.ls, kv, .pointer (some ⟨q, 0, none⟩)]
/-- A new one. -/
def Lg.fresh (first : Int) : Lg := ⟨true, first, first, -1, 0, -1, [], []⟩

/-- What Next answers. -/
def Lg.next (l : Lg) : Int × Int := if l.op = false then (0, 5) else if l.ne > 4611686018427387903 then (0, 132) else (l.ne, 0)
/-- What mayAdd answers. -/
def Lg.may (l : Lg) (s : St) : Int :=
  if l.next.2 ≠ 0 then l.next.2 else if s.nu ≠ l.next.1 then 131 else
  if s.ti < 0 ∨ s.ti > 1125899906842624 ∨ s.si < 0 ∨ s.si > 65535 ∨ (s.el = true ∧ s.co = false) then 1 else
  if s.ti < l.ti then 131 else 0

theorem lnew_bad (first : Int) (w : World) (h : first < 0 ∨ first > 4611686018427387903) :
    Calls Try.prog 7 #[.int .i64 first] w fun e w' => e = .returned (.tuple #[.pointer none, .int .i64 1]) ∧ w' = w := by
  go_enter Try.func7, Try.ntmps7
  by_cases h1 : first < 0
  · go_wp2
    all_goals go_ret2
    all_goals exact ⟨rfl, rfl⟩
  · have h2 : 4611686018427387903 < first := by omega
    clear h
    go_wp2
    all_goals go_ret2
    all_goals exact ⟨rfl, rfl⟩

theorem lnew_good (first : Int) (w : World) (h : 0 ≤ first ∧ first ≤ 4611686018427387903) :
    Calls Try.prog 7 #[.int .i64 first] w fun e w' => ∃ b q, e = .returned (.tuple #[.pointer (some ⟨b, 0, none⟩), .int .i64 0]) ∧ Blk w' b ((Lg.fresh first).cs (.slice none 0 0) q) 63 ∧ SetAt w' q 256 (.slice none 0 0) [] ∧ q < b ∧ w.heap.size ≤ b ∧ w.heap.size ≤ q ∧ w.grownBy w' none := by
  have hn := new_any 256 w (by omega)
  go_enter Try.func7, Try.ntmps7
  have h1 : ¬ first < 0 := by omega
  have h2 : ¬ 4611686018427387903 < first := by omega
  clear h
  go_wp2_with fail
  refine hn.mono ?_
  rintro e Y ⟨rfl, hs, gY⟩
  go_wp2_with fail
  all_goals go_ret2
  have lt : w.heap.size < Y.heap.size := Blk.lt hs.blk
  exact ⟨Y.heap.size, w.heap.size, rfl, Blk.new Y _ _, ⟨Blk.alloc hs.blk _, row_nil _⟩, lt, gY.size, Nat.le_refl _, grown_trans gY (grown_alloc _ _)⟩

theorem lnext_any (b q : Nat) (kv : Value) (l : Lg) (w : World) (hb : Blk w b (l.cs kv q) 63) :
    Calls Try.prog 54 #[.pointer (some ⟨b, 0, none⟩)] w fun e w' => e = .returned (.tuple #[.int .i64 l.next.1, .int .i64 l.next.2]) ∧ w' = w := by
  have c0 : w.cell? ⟨b, 0, none⟩ = some (.bool l.op) := hb.cell 0 _ rfl
  have c2 : w.cell? ⟨b, 2, none⟩ = some (.int .i64 l.ne) := hb.cell 2 _ rfl
  obtain ⟨op, fi, ne, la, ti, ls, ks, ac⟩ := l
  simp only at c0 c2
  clear hb
  go_enter Try.func54, Try.ntmps54
  cases op
  · go_wp2
    all_goals go_ret2
    all_goals exact ⟨by simp [Lg.next], rfl⟩
  · by_cases h : ne > 4611686018427387903
    · go_wp2
      all_goals go_ret2
      all_goals exact ⟨by simp [Lg.next, h], rfl⟩
    · have h' : ¬ 4611686018427387903 < ne := h
      go_wp2
      all_goals go_ret2
      all_goals exact ⟨by simp [Lg.next, Int.not_lt.2 h'], rfl⟩

theorem may_any (b q : Nat) (kv : Value) (l : Lg) (s : St) (fv : Value) (w : World) (hb : Blk w b (l.cs kv q) 63) :
    Calls Try.prog 29 #[.pointer (some ⟨b, 0, none⟩), .agg (s.cs fv)] w fun e w' => e = .returned (.int .i64 (l.may s)) ∧ w.grownBy w' none := by
  obtain ⟨W, hW⟩ : ∃ W, W = w.alloc (.cells (s.cs fv) 36) := ⟨_, rfl⟩
  have gW : w.grownBy W none := by rw [hW]; exact grown_alloc _ _
  have hbW := hb.grown gW
  have hs : Blk W w.heap.size (s.cs fv) 36 := by rw [hW]; exact Blk.new w _ _
  have hn := lnext_any b q kv l W hbW
  have c4 : W.cell? ⟨b, 4, none⟩ = some (.int .i64 l.ti) := hbW.cell 4 _ rfl
  have s0 : W.cell? ⟨w.heap.size, 0, none⟩ = some (.int .i64 s.nu) := hs.cell 0 _ rfl
  have s1 : W.cell? ⟨w.heap.size, 1, none⟩ = some (.int .i64 s.ti) := hs.cell 1 _ rfl
  have s2 : W.cell? ⟨w.heap.size, 2, none⟩ = some (.int .i64 s.si) := hs.cell 2 _ rfl
  have s3 : W.cell? ⟨w.heap.size, 3, none⟩ = some (.bool s.el) := hs.cell 3 _ rfl
  have s4 : W.cell? ⟨w.heap.size, 4, none⟩ = some (.bool s.co) := hs.cell 4 _ rfl
  obtain ⟨nx, er, hx⟩ : ∃ nx er, l.next = (nx, er) := ⟨_, _, rfl⟩
  have hm : l.may s = if er ≠ 0 then er else if s.nu ≠ nx then 131 else
    if s.ti < 0 ∨ s.ti > 1125899906842624 ∨ s.si < 0 ∨ s.si > 65535 ∨ (s.el = true ∧ s.co = false) then 1 else
    if s.ti < l.ti then 131 else 0 := by simp only [Lg.may, hx]
  rw [hx] at hn
  simp only at hn
  obtain ⟨bs, hbs⟩ : ∃ bs, bs = w.heap.size := ⟨_, rfl⟩
  rw [← hbs] at s0 s1 s2 s3 s4
  clear hb hbW hs hx
  have HM := hide hm
  clear hm
  generalize l.may s = m at HM ⊢
  generalize l.ti = lt at c4 HM
  obtain ⟨nu, ti, si, el, co, pr, tl, fs⟩ := s
  simp only at s0 s1 s2 s3 s4 HM
  simp only [St.cs] at hW ⊢
  have fin : ∀ (k : Int) (W' : World), k = m → (W' = W ∨ W' = W.drew) → (Ending.returned (.int .i64 k) = .returned (.int .i64 m) ∧ w.grownBy W' none) := fun k W' e1 e2 => by
    subst e1
    rcases e2 with rfl | rfl
    · exact ⟨rfl, gW⟩
    · exact ⟨rfl, grown_drew' gW⟩
  have FIN := hide fin
  clear fin
  have GW := hide gW
  clear gW
  go_enter Try.func29, Try.ntmps29
  go_upto_region 1 with fail
  rw [← hW, ← hbs]
  replace hW := hide hW
  replace hbs := hide hbs
  go_wp2_with fail
  refine hn.mono ?_
  rintro e Y ⟨rfl, rfl⟩
  by_cases e0 : er = 0
  case neg =>
    have hk : er = m := by have := unhide HM; simp [e0] at this; exact this.symm
    have HK := hide hk
    clear hk HM
    go_wp2_with fail
    all_goals go_ret
    all_goals exact unhide FIN _ _ (unhide HK) (.inl rfl)
  subst e0
  by_cases e1 : nu = nx
  case neg =>
    have hk : 131 = m := by have := unhide HM; simp [e1] at this; exact this.symm
    have HK := hide hk
    clear hk HM
    go_wp2_with fail
    all_goals go_ret
    all_goals exact unhide FIN _ _ (unhide HK) (.inl rfl)
  subst e1
  by_cases a1 : ti < 0
  · have hk : 1 = m := by have := unhide HM; simp [a1] at this; exact this.symm
    have HK := hide hk
    clear hk HM
    go_wp2_with fail
    all_goals go_ret
    all_goals exact unhide FIN _ _ (unhide HK) (.inl rfl)
  by_cases a2 : 1125899906842624 < ti
  · have hk : 1 = m := by have := unhide HM; simp [a2] at this; exact this.symm
    have HK := hide hk
    clear hk HM
    go_wp2_with fail
    all_goals go_ret
    all_goals exact unhide FIN _ _ (unhide HK) (.inl rfl)
  by_cases a3 : si < 0
  · have hk : 1 = m := by have := unhide HM; simp [a3] at this; exact this.symm
    have HK := hide hk
    clear hk HM
    go_wp2_with fail
    all_goals go_ret
    all_goals exact unhide FIN _ _ (unhide HK) (.inl rfl)
  by_cases a4 : 65535 < si
  · have hk : 1 = m := by have := unhide HM; simp [a4] at this; exact this.symm
    have HK := hide hk
    clear hk HM
    go_wp2_with fail
    all_goals go_ret
    all_goals exact unhide FIN _ _ (unhide HK) (.inl rfl)
  by_cases a5 : el = true ∧ co = false
  · have hk : 1 = m := by have := unhide HM; simp [a5] at this; exact this.symm
    have HK := hide hk
    clear hk HM
    obtain ⟨rfl, rfl⟩ := a5
    go_wp2_with fail
    all_goals go_ret
    all_goals exact unhide FIN _ _ (unhide HK) (.inl rfl)
  have hk : (if ti < lt then 131 else 0) = m := by
    have := unhide HM
    have hno : ¬ (ti < 0 ∨ ti > 1125899906842624 ∨ si < 0 ∨ si > 65535 ∨ (el = true ∧ co = false)) := by
      rintro (h | h | h | h | h)
      · exact a1 h
      · exact a2 h
      · exact a3 h
      · exact a4 h
      · exact a5 h
    simp only [ne_eq, not_true_eq_false, if_false] at this
    rw [if_neg hno] at this
    exact this.symm
  have HK := hide hk
  clear hk HM
  have a5' : el = false ∨ (el = true ∧ co = true) := by cases el <;> cases co <;> simp_all
  clear a5
  by_cases a6 : ti < lt
  · rcases a5' with rfl | ⟨rfl, rfl⟩
    · go_upto_region 8 with fail
      go_region
      all_goals go_wp2_with fail
      all_goals go_ret
      all_goals exact unhide FIN _ _ (by rw [← unhide HK, if_pos a6]) (by first | exact .inr rfl | exact .inl rfl)
    · go_upto_region 8 with fail
      go_region
      all_goals go_wp2_with fail
      all_goals go_ret
      all_goals exact unhide FIN _ _ (by rw [← unhide HK, if_pos a6]) (by first | exact .inr rfl | exact .inl rfl)
  · have A6 := hide a6
    rcases a5' with rfl | ⟨rfl, rfl⟩
    · go_upto_region 8 with fail
      go_region
      all_goals go_wp2_with fail
      all_goals go_ret
      all_goals exact unhide FIN _ _ (by rw [← unhide HK, if_neg (Int.not_lt.2 (unhide A6))]) (by first | exact .inr rfl | exact .inl rfl)
    · go_upto_region 8 with fail
      go_region
      all_goals go_wp2_with fail
      all_goals go_ret
      all_goals exact unhide FIN _ _ (by rw [← unhide HK, if_neg (Int.not_lt.2 (unhide A6))]) (by first | exact .inr rfl | exact .inl rfl)
end Go.Proofs.Ytnflbefbgcbdfaa
