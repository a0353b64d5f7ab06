/- L3F, L3G, L3I, L3J, L3K, L3L, one text. -/
import Derived.Test.YtnflbefbgcbdfaaGreatL8P
import Derived.Deep.DeepCutAuto
import Derived.Deep.RegionWith
import Derived.Deep.CutRange
import Derived.Maps.AppendAt
import Derived.BigRegion
namespace Go.Proofs.YtnflbefbgcbdfaaGreat
open Go.RowKit
set_option linter.unusedVariables false
set_option maxRecDepth 100000
set_option maxHeartbeats 4000000

/-- A ledger's content. -/
structure Lg where
  op : Bool
  fi : Int
  ne : Int
  la : Int
  ti : Int
  ls : Int
  ks : List St
  ac : List Sp
/-- A ledger's cells. -/
def Lg.cs (l : Lg) (kv : Value) (q : Nat) : Array Value := #[.bool l.op, .int .i64 l.fi, .int .i64 l.ne, .int .i64 l.la, .int .i64 l.ti, .int .i64 l.ls, kv, .pointer (some ⟨q, 0, none⟩)]
/-- A new one. -/
def Lg.fresh (first : Int) : Lg := ⟨true, first, first, -1, 0, -1, [], []⟩

/-- What Next answers. -/
def Lg.next (l : Lg) : Int × Int := if l.op = false then (0, 5) else if l.ne > 4611686018427387903 then (0, 132) else (l.ne, 0)
/-- What mayAdd answers. -/
def Lg.may (l : Lg) (s : St) : Int :=
  if l.next.2 ≠ 0 then l.next.2 else if s.nu ≠ l.next.1 then 131 else
  if s.ti < 0 ∨ s.ti > 1125899906842624 ∨ s.si < 0 ∨ s.si > 65535 ∨ (s.el = true ∧ s.co = false) then 1 else
  if s.ti < l.ti then 131 else 0

theorem lnew_bad (first : Int) (w : World) (h : first < 0 ∨ first > 4611686018427387903) :
    Calls Tryz.prog 6 #[.int .i64 first] w fun e w' => e = .returned (.tuple #[.pointer none, .int .i64 1]) ∧ w' = w := by
  go_enter Tryz.func6, Tryz.ntmps6
  by_cases h1 : first < 0
  · go_wp2
    all_goals go_ret2
    all_goals exact ⟨rfl, rfl⟩
  · have h2 : 4611686018427387903 < first := by omega
    clear h
    go_wp2
    all_goals go_ret2
    all_goals exact ⟨rfl, rfl⟩

theorem lnew_good (first : Int) (w : World) (h : 0 ≤ first ∧ first ≤ 4611686018427387903) :
    Calls Tryz.prog 6 #[.int .i64 first] w fun e w' => ∃ b q, e = .returned (.tuple #[.pointer (some ⟨b, 0, none⟩), .int .i64 0]) ∧ Blk w' b ((Lg.fresh first).cs (.slice none 0 0) q) 75 ∧ SetAt w' q 256 (.slice none 0 0) [] ∧ q < b ∧ w.heap.size ≤ b ∧ w.heap.size ≤ q ∧ w.grownBy w' none := by
  have hn := new_any 256 w (by omega)
  go_enter Tryz.func6, Tryz.ntmps6
  have h1 : ¬ first < 0 := by omega
  have h2 : ¬ 4611686018427387903 < first := by omega
  clear h
  go_wp2_with fail
  refine hn.mono ?_
  rintro e Y ⟨rfl, hs, gY⟩
  go_wp2_with fail
  all_goals go_ret2
  have lt : w.heap.size < Y.heap.size := Blk.lt hs.blk
  exact ⟨Y.heap.size, w.heap.size, rfl, Blk.new Y _ _, ⟨Blk.alloc hs.blk _, row_nil _⟩, lt, gY.size, Nat.le_refl _, grown_trans gY (grown_alloc _ _)⟩

theorem lnext_any (b q : Nat) (kv : Value) (l : Lg) (w : World) (hb : Blk w b (l.cs kv q) 75) :
    Calls Tryz.prog 30 #[.pointer (some ⟨b, 0, none⟩)] w fun e w' => e = .returned (.tuple #[.int .i64 l.next.1, .int .i64 l.next.2]) ∧ w' = w := by
  have c0 : w.cell? ⟨b, 0, none⟩ = some (.bool l.op) := hb.cell 0 _ rfl
  have c2 : w.cell? ⟨b, 2, none⟩ = some (.int .i64 l.ne) := hb.cell 2 _ rfl
  obtain ⟨op, fi, ne, la, ti, ls, ks, ac⟩ := l
  simp only at c0 c2
  clear hb
  go_enter Tryz.func30, Tryz.ntmps30
  cases op
  · go_wp2
    all_goals go_ret2
    all_goals exact ⟨by simp [Lg.next], rfl⟩
  · by_cases h : ne > 4611686018427387903
    · go_wp2
      all_goals go_ret2
      all_goals exact ⟨by simp [Lg.next, h], rfl⟩
    · have h' : ¬ 4611686018427387903 < ne := h
      go_wp2
      all_goals go_ret2
      all_goals exact ⟨by simp [Lg.next, Int.not_lt.2 h'], rfl⟩

theorem may_any (b q : Nat) (kv : Value) (l : Lg) (s : St) (fv : Value) (w : World) (hb : Blk w b (l.cs kv q) 75) :
    Calls Tryz.prog 49 #[.pointer (some ⟨b, 0, none⟩), .agg (s.cs fv)] w fun e w' => e = .returned (.int .i64 (l.may s)) ∧ w.grownBy w' none := by
  obtain ⟨W, hW⟩ : ∃ W, W = w.alloc (.cells (s.cs fv) 46) := ⟨_, rfl⟩
  have gW : w.grownBy W none := by rw [hW]; exact grown_alloc _ _
  have hbW := hb.grown gW
  have hs : Blk W w.heap.size (s.cs fv) 46 := by rw [hW]; exact Blk.new w _ _
  have hn := lnext_any b q kv l W hbW
  have c4 : W.cell? ⟨b, 4, none⟩ = some (.int .i64 l.ti) := hbW.cell 4 _ rfl
  have s0 : W.cell? ⟨w.heap.size, 0, none⟩ = some (.int .i64 s.nu) := hs.cell 0 _ rfl
  have s1 : W.cell? ⟨w.heap.size, 1, none⟩ = some (.int .i64 s.ti) := hs.cell 1 _ rfl
  have s2 : W.cell? ⟨w.heap.size, 2, none⟩ = some (.int .i64 s.si) := hs.cell 2 _ rfl
  have s3 : W.cell? ⟨w.heap.size, 3, none⟩ = some (.bool s.el) := hs.cell 3 _ rfl
  have s4 : W.cell? ⟨w.heap.size, 4, none⟩ = some (.bool s.co) := hs.cell 4 _ rfl
  obtain ⟨nx, er, hx⟩ : ∃ nx er, l.next = (nx, er) := ⟨_, _, rfl⟩
  have hm : l.may s = if er ≠ 0 then er else if s.nu ≠ nx then 131 else
    if s.ti < 0 ∨ s.ti > 1125899906842624 ∨ s.si < 0 ∨ s.si > 65535 ∨ (s.el = true ∧ s.co = false) then 1 else
    if s.ti < l.ti then 131 else 0 := by simp only [Lg.may, hx]
  rw [hx] at hn
  simp only at hn
  obtain ⟨bs, hbs⟩ : ∃ bs, bs = w.heap.size := ⟨_, rfl⟩
  rw [← hbs] at s0 s1 s2 s3 s4
  clear hb hbW hs hx
  have HM := hide hm
  clear hm
  generalize l.may s = m at HM ⊢
  generalize l.ti = lt at c4 HM
  obtain ⟨nu, ti, si, el, co, pr, tl, fs⟩ := s
  simp only at s0 s1 s2 s3 s4 HM
  simp only [St.cs] at hW ⊢
  have fin : ∀ (k : Int) (W' : World), k = m → (W' = W ∨ W' = W.drew) → (Ending.returned (.int .i64 k) = .returned (.int .i64 m) ∧ w.grownBy W' none) := fun k W' e1 e2 => by
    subst e1
    rcases e2 with rfl | rfl
    · exact ⟨rfl, gW⟩
    · exact ⟨rfl, grown_drew' gW⟩
  have FIN := hide fin
  clear fin
  have GW := hide gW
  clear gW
  go_enter Tryz.func49, Tryz.ntmps49
  go_upto_region 1 with fail
  rw [← hW, ← hbs]
  replace hW := hide hW
  replace hbs := hide hbs
  go_wp2_with fail
  refine hn.mono ?_
  rintro e Y ⟨rfl, rfl⟩
  by_cases e0 : er = 0
  case neg =>
    have hk : er = m := by have := unhide HM; simp [e0] at this; exact this.symm
    have HK := hide hk
    clear hk HM
    go_wp2_with fail
    all_goals go_ret
    all_goals exact unhide FIN _ _ (unhide HK) (.inl rfl)
  subst e0
  by_cases e1 : nu = nx
  case neg =>
    have hk : 131 = m := by have := unhide HM; simp [e1] at this; exact this.symm
    have HK := hide hk
    clear hk HM
    go_wp2_with fail
    all_goals go_ret
    all_goals exact unhide FIN _ _ (unhide HK) (.inl rfl)
  subst e1
  by_cases a1 : ti < 0
  · have hk : 1 = m := by have := unhide HM; simp [a1] at this; exact this.symm
    have HK := hide hk
    clear hk HM
    go_wp2_with fail
    all_goals go_ret
    all_goals exact unhide FIN _ _ (unhide HK) (.inl rfl)
  by_cases a2 : 1125899906842624 < ti
  · have hk : 1 = m := by have := unhide HM; simp [a2] at this; exact this.symm
    have HK := hide hk
    clear hk HM
    go_wp2_with fail
    all_goals go_ret
    all_goals exact unhide FIN _ _ (unhide HK) (.inl rfl)
  by_cases a3 : si < 0
  · have hk : 1 = m := by have := unhide HM; simp [a3] at this; exact this.symm
    have HK := hide hk
    clear hk HM
    go_wp2_with fail
    all_goals go_ret
    all_goals exact unhide FIN _ _ (unhide HK) (.inl rfl)
  by_cases a4 : 65535 < si
  · have hk : 1 = m := by have := unhide HM; simp [a4] at this; exact this.symm
    have HK := hide hk
    clear hk HM
    go_wp2_with fail
    all_goals go_ret
    all_goals exact unhide FIN _ _ (unhide HK) (.inl rfl)
  by_cases a5 : el = true ∧ co = false
  · have hk : 1 = m := by have := unhide HM; simp [a5] at this; exact this.symm
    have HK := hide hk
    clear hk HM
    obtain ⟨rfl, rfl⟩ := a5
    go_wp2_with fail
    all_goals go_ret
    all_goals exact unhide FIN _ _ (unhide HK) (.inl rfl)
  have hk : (if ti < lt then 131 else 0) = m := by
    have := unhide HM
    have hno : ¬ (ti < 0 ∨ ti > 1125899906842624 ∨ si < 0 ∨ si > 65535 ∨ (el = true ∧ co = false)) := by
      rintro (h | h | h | h | h)
      · exact a1 h
      · exact a2 h
      · exact a3 h
      · exact a4 h
      · exact a5 h
    simp only [ne_eq, not_true_eq_false, if_false] at this
    rw [if_neg hno] at this
    exact this.symm
  have HK := hide hk
  clear hk HM
  have a5' : el = false ∨ (el = true ∧ co = true) := by cases el <;> cases co <;> simp_all
  clear a5
  by_cases a6 : ti < lt
  · rcases a5' with rfl | ⟨rfl, rfl⟩
    · go_upto_region 8 with fail
      go_region
      all_goals go_wp2_with fail
      all_goals go_ret
      all_goals exact unhide FIN _ _ (by rw [← unhide HK, if_pos a6]) (by first | exact .inr rfl | exact .inl rfl)
    · go_upto_region 8 with fail
      go_region
      all_goals go_wp2_with fail
      all_goals go_ret
      all_goals exact unhide FIN _ _ (by rw [← unhide HK, if_pos a6]) (by first | exact .inr rfl | exact .inl rfl)
  · have A6 := hide a6
    rcases a5' with rfl | ⟨rfl, rfl⟩
    · go_upto_region 8 with fail
      go_region
      all_goals go_wp2_with fail
      all_goals go_ret
      all_goals exact unhide FIN _ _ (by rw [← unhide HK, if_neg (Int.not_lt.2 (unhide A6))]) (by first | exact .inr rfl | exact .inl rfl)
    · go_upto_region 8 with fail
      go_region
      all_goals go_wp2_with fail
      all_goals go_ret
      all_goals exact unhide FIN _ _ (by rw [← unhide HK, if_neg (Int.not_lt.2 (unhide A6))]) (by first | exact .inr rfl | exact .inl rfl)
end Go.Proofs.YtnflbefbgcbdfaaGreat

namespace Go.Proofs.YtnflbefbgcbdfaaGreat
open Go.RowKit
set_option linter.unusedVariables false
set_option maxRecDepth 100000
set_option maxHeartbeats 4000000

theorem St.len (s : St) (fv : Value) : (s.cs fv).toList.length = 8 := rfl
/-- The rows of packets. -/
def skl (ks : List St) (fvs : List Value) : List (List Value) := List.zipWith (fun s fv => (s.cs fv).toList) ks fvs
theorem skl_8 (ks : List St) (fvs : List Value) : ∀ c ∈ skl ks fvs, c.length = 8 := by
  intro c hc
  obtain ⟨i, hi⟩ := List.getElem?_of_mem hc
  simp only [skl, List.getElem?_zipWith] at hi
  split at hi
  · cases hi; rfl
  · cases hi
theorem skl_at {ks : List St} {fvs : List Value} {i : Nat} {s : St} {fv : Value} (h1 : ks[i]? = some s) (h2 : fvs[i]? = some fv) : (skl ks fvs)[i]? = some (s.cs fv).toList := by
  simp [skl, List.getElem?_zipWith, h1, h2]
theorem skl_len {ks : List St} {fvs : List Value} (h : fvs.length = ks.length) : (skl ks fvs).length = ks.length := by simp [skl, h]
theorem skl_app {ks : List St} {fvs : List Value} (h : fvs.length = ks.length) (s : St) (fv : Value) : skl (ks ++ [s]) (fvs ++ [fv]) = skl ks fvs ++ [(s.cs fv).toList] := by
  simp only [skl]; rw [List.zipWith_append h.symm]; rfl

/-- What is kept, in memory: a row of packets; the blocks of their frames are of R. -/
def KvAt (R : Nat → Prop) (W : World) (kv : Value) (ks : List St) : Prop := ∃ fvs, fvs.length = ks.length ∧ W.ownsRow 0 46 8 kv ks.length (skl ks fvs).flatten ∧ ∀ (i : Nat) (s : St) (fv : Value), ks[i]? = some s → fvs[i]? = some fv → FvAt R W fv s.fs
theorem KvAt.nil (R : Nat → Prop) (W : World) : KvAt R W (.slice none 0 0) [] := ⟨[], rfl, ⟨rfl, .inl ⟨rfl, rfl⟩⟩, fun i s fv h => by simp at h⟩
theorem KvAt.kept {R : Nat → Prop} {W W' : World} {kv : Value} {ks : List St} (h : KvAt R W kv ks) (hk : ∀ b, R b → W'.heap[b]? = W.heap[b]?) (ho : ∀ g, kv.ownBlock = some g → W'.heap[g]? = W.heap[g]?) : KvAt R W' kv ks := by
  obtain ⟨fvs, h1, h2, h3⟩ := h
  refine ⟨fvs, h1, ⟨h2.1, ?_⟩, fun i s fv a b => (h3 i s fv a b).kept hk⟩
  rcases h2.2 with q | ⟨g, c, cur, e1, q1, q2, q3⟩
  · exact .inl q
  · exact .inr ⟨g, c, cur, e1, q1, (ho g (by rw [e1]; rfl)).trans q2, q3⟩
theorem KvAt.lt {R : Nat → Prop} {W : World} {kv : Value} {ks : List St} (h : KvAt R W kv ks) : ∀ g, kv.ownBlock = some g → g < W.heap.size := by
  intro g e
  obtain ⟨fvs, h1, h2, h3⟩ := h
  rcases h2.2 with ⟨rfl, -⟩ | ⟨g', c, cur, rfl, q1, q2, -⟩
  · cases e
  · cases e; exact (Array.getElem?_eq_some_iff.1 q2).1
theorem KvAt.grown {R : Nat → Prop} {W W' : World} {kv : Value} {ks : List St} (h : KvAt R W kv ks) (g : W.grownBy W' none) : KvAt R W' kv ks := by
  have hl := h.lt
  obtain ⟨fvs, h1, h2, h3⟩ := h
  refine ⟨fvs, h1, ⟨h2.1, ?_⟩, fun i s fv a b => (h3 i s fv a b).grown g⟩
  rcases h2.2 with q | ⟨g', c, cur, e1, q1, q2, q3⟩
  · exact .inl q
  · exact .inr ⟨g', c, cur, e1, q1, (g.block g' (hl g' (by rw [e1]; rfl)) (by simp)).trans q2, q3⟩
/-- Its value. -/
theorem KvAt.sh {R : Nat → Prop} {W : World} {kv : Value} {ks : List St} (h : KvAt R W kv ks) : (kv = .slice none 0 0 ∧ ks = []) ∨ ∃ g c, kv = .slice (some ⟨g, 0, none⟩) ks.length c ∧ ks.length ≤ c := by
  obtain ⟨fvs, h1, h2, h3⟩ := h
  rcases h2.2 with ⟨e1, e2⟩ | ⟨g', c, cur, e1, q1, q2, q3, -⟩
  · exact .inl ⟨e1, List.length_eq_zero_iff.1 e2⟩
  · exact .inr ⟨g', c, e1, q3⟩
/-- A packet of it. -/
theorem KvAt.get {R : Nat → Prop} {W : World} {ks : List St} {g c k : Nat} {s : St} (h : KvAt R W (.slice (some ⟨g, 0, none⟩) ks.length c) ks) (hk : ks[k]? = some s) : ∃ fv, FvAt R W fv s.fs ∧ ∀ j v, (s.cs fv)[j]? = some v → W.cell? ⟨g, k * 8 + j, none⟩ = some v := by
  obtain ⟨fvs, h1, h2, h3⟩ := h
  have hlt := (List.getElem?_eq_some_iff.1 hk).1
  obtain ⟨fv, hf⟩ : ∃ fv, fvs[k]? = some fv := ⟨_, List.getElem?_eq_getElem (by omega)⟩
  refine ⟨fv, h3 k s fv hk hf, fun j v hj => ?_⟩
  rcases h2.2 with ⟨e1, -⟩ | ⟨g', c', cur, e1, q1, q2, q3, q4, q5, q6⟩
  · cases e1
  · injection e1 with e2 e3 e4
    injection e2 with e2
    injection e2 with e5
    subst e5
    have hj8 : j < 8 := by have := (Array.getElem?_eq_some_iff.1 hj).1; exact this
    have hx : (skl ks fvs).flatten[k * 8 + j]? = some v := by
      rw [flat_get 8 _ k j (skl_8 ks fvs) hj8, skl_at hk hf]
      simpa using hj
    rw [← q6, List.getElem?_take, if_pos (by omega), Array.getElem?_toList] at hx
    unfold World.cell?
    rw [q2]
    exact hx
theorem Tryz.infoSe : (Tryz.prog.info? 46).map (fun i => (i.zero, i.size, i.bytes)) = some (some (.agg #[.int .i64 0, .int .i64 0, .int .i64 0, .bool false, .bool false, .bool false, .int .i64 0, .slice none 0 0]), 8, 64) := by kernel_rfl
/-- One more. -/
theorem KvAt.app {R : Nat → Prop} {W : World} {kv : Value} {ks : List St} (h : KvAt R W kv ks) (s : St) (fv : Value) (hf : FvAt R W fv s.fs) (hr : ∀ g, kv.ownBlock = some g → ¬ R g) (hl : ks.length ≤ 1100000) (g0 : Nat) (sc : Nat) (hc : ∀ j v, (s.cs fv)[j]? = some v → W.cell? ⟨g0, j, none⟩ = some v) (hR : ∀ g, R g → g < W.heap.size) (t : TypeId) :
    ∃ v' W', (Builtin.append_ #[26, 26] t #[kv, .slice (some ⟨g0, 0, none⟩) 1 sc]).run Tryz.prog W = .ok v' W' ∧ KvAt R W' v' (ks ++ [s]) ∧ W.grownBy W' kv.ownBlock ∧ (v'.ownBlock = kv.ownBlock ∨ v'.ownBlock = some W.heap.size) := by
  obtain ⟨i, hi, hz0, hz1, hz2⟩ := info_parts Tryz.infoSe
  obtain ⟨fvs, h1, h2, h3⟩ := h
  have hv1 : fv.oneCell' = true := by obtain ⟨-, a, c, css, rfl, -⟩ := hf; rfl
  obtain ⟨v', W', hrun, ho, hgr, hnil, hob⟩ := run_append_own_at (P := Tryz.prog) W 0 26 t 46 i _ 8 64 Tryz.underlying26 hi hz0 hz1 hz2 rfl (by decide) kv ks.length _ h2 ⟨g0, 0, none⟩ 1 sc (s.cs fv).toList rfl (fun j u hj => by
      rw [Addr.add_lit, Nat.zero_add]
      exact hc j u (by simpa using hj)) (by
      intro u hu
      simp only [St.cs, List.mem_cons, List.not_mem_nil, or_false] at hu
      rcases hu with rfl | rfl | rfl | rfl | rfl | rfl | rfl | rfl <;> first | rfl | exact hv1) (by unfold maxLen; omega) (by omega) (Nat.zero_le _)
  have keep : ∀ b, R b → W'.heap[b]? = W.heap[b]? := fun b hb => hgr.block b (hR b hb) (fun e => hr b e.symm hb)
  refine ⟨v', W', hrun, ⟨fvs ++ [fv], by simp [h1], ?_, fun j s' fv' e1 e2 => ?_⟩, hgr, hob⟩
  · rw [skl_app h1, List.flatten_append, List.length_append]
    simpa using ho
  · by_cases hj : j < ks.length
    · rw [List.getElem?_append_left hj] at e1
      rw [List.getElem?_append_left (by omega)] at e2
      exact (h3 j s' fv' e1 e2).kept keep
    · have hj2 : j = ks.length := by have := (List.getElem?_eq_some_iff.1 e1).1; simp at this; omega
      subst hj2
      rw [List.getElem?_append_right (Nat.le_refl _)] at e1
      rw [List.getElem?_append_right (by omega)] at e2
      simp at e1
      simp [h1] at e2
      subst e1
      subst e2
      exact hf.kept keep
end Go.Proofs.YtnflbefbgcbdfaaGreat

namespace Go.Proofs.YtnflbefbgcbdfaaGreat
open Go.RowKit
set_option linter.unusedVariables false
set_option maxRecDepth 100000
set_option maxHeartbeats 4000000

/-- What Told answers. -/
def Lg.told (l : Lg) (lo hi : Int) : Bool := !(if hi < lo then [] else withinF lo hi l.ac).isEmpty
/-- A ledger in memory: its cells at b, its set at q, what it keeps at kv; the frames' blocks are of R. -/
structure LgAt (R : Nat → Prop) (W : World) (b q : Nat) (kv va : Value) (l : Lg) : Prop where
  blk : Blk W b (l.cs kv q) 75
  set : SetAt W q 256 va l.ac
  row : KvAt R W kv l.ks
  low : ∀ g, R g → g < W.heap.size
  nb : ¬ R b
  nq : ¬ R q
  nk : ∀ g, kv.ownBlock = some g → ¬ R g
  na : ∀ g, va.ownBlock = some g → ¬ R g
theorem LgAt.grown {R : Nat → Prop} {W W' : World} {b q : Nat} {kv va : Value} {l : Lg} (h : LgAt R W b q kv va l) (g : W.grownBy W' none) : LgAt R W' b q kv va l :=
  ⟨h.blk.grown g, h.set.keep g, h.row.grown g, fun k hk => Nat.lt_of_lt_of_le (h.low k hk) g.size, h.nb, h.nq, h.nk, h.na⟩
theorem LgAt.new {W : World} {b q : Nat} {first : Int} (h1 : Blk W b ((Lg.fresh first).cs (.slice none 0 0) q) 75) (h2 : SetAt W q 256 (.slice none 0 0) []) : LgAt (fun _ => False) W b q (.slice none 0 0) (.slice none 0 0) (Lg.fresh first) :=
  ⟨h1, h2, KvAt.nil _ _, fun _ h => h.elim, id, id, fun _ _ => id, fun _ _ => id⟩

theorem told_any (b q : Nat) (kv va : Value) (l : Lg) (lo hi : Int) (w : World) (hb : Blk w b (l.cs kv q) 75) (hs : SetAt w q 256 va l.ac) (hL : Ok l.ac) :
    Calls Tryz.prog 19 #[.pointer (some ⟨b, 0, none⟩), .int .i64 lo, .int .i64 hi] w fun e w' => e = .returned (.bool (l.told lo hi)) ∧ w.grownBy w' none := by
  have hw : Calls Tryz.prog 51 #[.pointer (some ⟨q, 0, none⟩), .int .i64 lo, .int .i64 hi] w fun e w' => ∃ a n c, e = .returned (.slice a n c) ∧ n ≤ 1000000000000000 ∧ l.told lo hi = decide (0 < (n : Int)) ∧ w.grownBy w' none := by
    by_cases hlh : hi < lo
    · refine (within_gt q lo hi w hlh).mono ?_
      rintro e w' ⟨rfl, rfl⟩
      exact ⟨none, 0, 0, rfl, by omega, by simp [Lg.told, hlh], grown_self _ _⟩
    · refine (within_any q 256 lo hi va l.ac w hs hL (by omega)).mono ?_
      rintro e w' ⟨v', rfl, hr, -, gw⟩
      obtain ⟨a, n, c, rfl, hn⟩ : ∃ a n c, v' = .slice a n c ∧ n = (withinF lo hi l.ac).length := by
        rcases hr.2 with ⟨e1, e2⟩ | ⟨g, c, cur, e1, -⟩
        · exact ⟨none, 0, 0, e1, e2.symm⟩
        · exact ⟨_, _, c, e1, rfl⟩
      refine ⟨a, n, c, rfl, ?_, ?_, gw⟩
      · have h1 := hL.size
        have h2 : (withinF lo hi l.ac).length ≤ 1000000000000000 := Nat.le_trans (withinF_length lo hi l.ac) (by omega)
        omega
      · rw [hn]
        simp only [Lg.told, if_neg hlh]
        cases withinF lo hi l.ac <;> simp
  have c7 : w.cell? ⟨b, 7, none⟩ = some (.pointer (some ⟨q, 0, none⟩)) := hb.cell 7 _ rfl
  clear hb hs hL
  generalize l.told lo hi = m at hw ⊢
  go_enter Tryz.func19, Tryz.ntmps19
  go_wp2_with fail
  refine hw.mono ?_
  rintro e Y ⟨a, n, c, rfl, hn, rfl, gY⟩
  have hn8 : ¬ (9223372036854775807 : Int) < (n : Int) := by omega
  have GY := hide gY
  clear hw gY
  by_cases h0 : (0 : Int) < (n : Int)
  · go_wp2_with fail
    all_goals go_ret
    all_goals exact ⟨by simp, unhide GY⟩
  · go_wp2_with fail
    all_goals go_ret
    all_goals exact ⟨by simp, unhide GY⟩
end Go.Proofs.YtnflbefbgcbdfaaGreat

namespace Go.Proofs.YtnflbefbgcbdfaaGreat
open Go.RowKit
set_option linter.unusedVariables false
set_option maxRecDepth 100000
set_option maxHeartbeats 4000000

/-- What mayAck answers of an open one. -/
def ackF (l : Lg) : List Sp → Int
  | [] => 0
  | r :: t => if r.2 < r.1 ∨ r.1 < 0 then 1 else if r.1 < l.fi ∨ l.ne ≤ r.2 then 130 else ackF l t
def Lg.mayAck (l : Lg) (rs : List Sp) : Int := if l.op = false then 5 else ackF l rs
/-- Runs that are read. -/
def RdS (W : World) (a : Option Addr) (rs : List Sp) : Prop := rs = [] ∨ ∃ g off, a = some ⟨g, off, none⟩ ∧ ∀ (i : Nat) (r : Sp), rs[i]? = some r → W.cell? ⟨g, off + i * 2, none⟩ = some (.int .i64 r.1) ∧ W.cell? ⟨g, off + i * 2 + 1, none⟩ = some (.int .i64 r.2)

theorem mayack_any (b q : Nat) (kv : Value) (l : Lg) (a : Option Addr) (n c : Nat) (rs : List Sp) (hn : n = rs.length) (hn8 : n ≤ 1000000000000) (X : World) (hb : Blk X b (l.cs kv q) 75) (hr : RdS X a rs) :
    Calls Tryz.prog 40 #[.pointer (some ⟨b, 0, none⟩), .slice a n c] X fun e Y => e = .returned (.int .i64 (l.mayAck rs)) ∧ X.grownBy Y none := by
  have c0 : X.cell? ⟨b, 0, none⟩ = some (.bool l.op) := hb.cell 0 _ rfl
  have c1 : X.cell? ⟨b, 1, none⟩ = some (.int .i64 l.fi) := hb.cell 1 _ rfl
  have c2 : X.cell? ⟨b, 2, none⟩ = some (.int .i64 l.ne) := hb.cell 2 _ rfl
  have HN := hide hn
  have HR := hide hr
  clear hb hr hn
  obtain ⟨op, fi, ne, la, ti, ls, ks, ac⟩ := l
  simp only at c0 c1 c2
  cases op
  · go_enter Tryz.func40, Tryz.ntmps40
    go_wp2_with fail
    all_goals go_ret
    all_goals exact ⟨rfl, grown_self _ _⟩
  · have em : Lg.mayAck ⟨true, fi, ne, la, ti, ls, ks, ac⟩ rs = ackF ⟨true, fi, ne, la, ti, ls, ks, ac⟩ rs := rfl
    rw [em]
    clear em
    obtain ⟨m, hm⟩ : ∃ m, m = ackF ⟨true, fi, ne, la, ti, ls, ks, ac⟩ rs := ⟨_, rfl⟩
    rw [← hm]
    have HM := hide hm
    clear hm
    have hnI : ¬ (9223372036854775807 : Int) < (n : Int) := by omega
    go_enter Tryz.func40, Tryz.ntmps40
    go_upto_region 4 with fail
    go_loopw [14] (fun iv wr => ∃ (k : Nat), k ≤ n ∧ iv = .int .i64 k ∧ Hid (X.grownBy wr none ∧ m = ackF ⟨true, fi, ne, la, ti, ls, ks, ac⟩ (rs.drop k))) (fun iv _ => n - (intOf iv).toNat)
    case atStart => exact ⟨0, Nat.zero_le _, rfl, grown_self _ _, unhide HM⟩
    case round =>
      obtain ⟨k, hk, rfl, I⟩ := hrel
      by_cases hlt : k < n
      · have hkI : (k : Int) < (n : Int) := by omega
        obtain ⟨q1, q2⟩ := unhide I
        have hkr : k < rs.length := by rw [← unhide HN]; exact hlt
        obtain ⟨r, hr⟩ : ∃ r, rs[k]? = some r := ⟨_, List.getElem?_eq_getElem hkr⟩
        obtain ⟨g, off, rfl, hc⟩ : ∃ g off, a = some ⟨g, off, none⟩ ∧ ∀ (i : Nat) (r : Sp), rs[i]? = some r → X.cell? ⟨g, off + i * 2, none⟩ = some (.int .i64 r.1) ∧ X.cell? ⟨g, off + i * 2 + 1, none⟩ = some (.int .i64 r.2) := by
          rcases unhide HR with e | h
          · rw [e] at hr; simp at hr
          · exact h
        obtain ⟨lo, hi⟩ := r
        obtain ⟨y0, y1⟩ := hc k _ hr
        replace y0 := cell_grown y0 q1
        replace y1 := cell_grown y1 q1
        have ed : rs.drop k = (lo, hi) :: rs.drop (k + 1) := by
          rw [List.drop_eq_getElem_cons hkr]
          rw [List.getElem?_eq_getElem hkr] at hr
          injection hr with hr
          rw [hr]
        rw [ed] at q2
        simp only [ackF] at q2
        obtain ⟨Z, hZ⟩ : ∃ Z, Z = wr.alloc (.cells #[.int .i64 lo, .int .i64 hi] 63) := ⟨_, rfl⟩
        have gZ : wr.grownBy Z none := by rw [hZ]; exact grown_alloc _ _
        have BZ : Blk Z wr.heap.size #[.int .i64 lo, .int .i64 hi] 63 := by rw [hZ]; exact Blk.new wr _ _
        obtain ⟨zs, hzs⟩ : ∃ zs, zs = wr.heap.size := ⟨_, rfl⟩
        rw [← hzs] at BZ
        have z0 : Z.cell? ⟨zs, 0, none⟩ = some (.int .i64 lo) := BZ.cell 0 _ rfl
        have z1 : Z.cell? ⟨zs, 1, none⟩ = some (.int .i64 hi) := BZ.cell 1 _ rfl
        have gX := grown_trans q1 gZ
        have d1 := cell_grown c1 gX
        have d2 := cell_grown c2 gX
        have Q2 := hide (And.intro q2 gX)
        clear q1 q2 hc hr ed I BZ gZ gX HR
        go_upto_region 6 with fail
        rw [← hZ, ← hzs]
        replace hZ := hide hZ
        replace hzs := hide hzs
        clear y0 y1
        by_cases a1 : hi < lo
        · have hk1 : 1 = m := by rw [(unhide Q2).1, if_pos (Or.inl a1)]
          have HK := hide hk1
          clear hk1
          go_wp2_with fail
          all_goals go_ret
          all_goals exact ⟨by rw [← unhide HK]; rfl, (unhide Q2).2⟩
        by_cases a2 : lo < 0
        · have hk1 : 1 = m := by rw [(unhide Q2).1, if_pos (Or.inr a2)]
          have HK := hide hk1
          clear hk1
          go_wp2_with fail
          all_goals go_ret
          all_goals exact ⟨by rw [← unhide HK]; rfl, (unhide Q2).2⟩
        have hq := (unhide Q2).1
        rw [if_neg (by omega)] at hq
        have HQ := hide (And.intro hq (unhide Q2).2)
        clear hq Q2
        by_cases a3 : lo < fi
        · have hk1 : 130 = m := by rw [(unhide HQ).1, if_pos (Or.inl a3)]
          have HK := hide hk1
          clear hk1
          go_upto_region 8 with fail
          go_region
          all_goals go_wp2_with fail
          all_goals go_ret
          all_goals exact ⟨by rw [← unhide HK]; rfl, by first | exact grown_drew' (unhide HQ).2 | exact (unhide HQ).2⟩
        by_cases a4 : ne ≤ hi
        · have hk1 : 130 = m := by rw [(unhide HQ).1, if_pos (Or.inr a4)]
          have HK := hide hk1
          clear hk1
          go_upto_region 8 with fail
          go_region
          all_goals go_wp2_with fail
          all_goals go_ret
          all_goals exact ⟨by rw [← unhide HK]; rfl, by first | exact grown_drew' (unhide HQ).2 | exact (unhide HQ).2⟩
        have hk1 : m = ackF ⟨true, fi, ne, la, ti, ls, ks, ac⟩ (rs.drop (k + 1)) := by rw [(unhide HQ).1, if_neg (by omega)]
        have HK := hide hk1
        clear hk1
        have a4' : hi < ne := by omega
        go_upto_region 8 with fail
        go_region
        all_goals go_wp2_with fail
        all_goals exact ⟨⟨k + 1, hlt, rfl, by first | exact grown_drew' (unhide HQ).2 | exact (unhide HQ).2, unhide HK⟩, by simp [intOf]; omega⟩
      · obtain rfl : k = n := by omega
        have hkI : ¬ (k : Int) < (k : Int) := by omega
        obtain ⟨q1, q2⟩ := unhide I
        have e0 : m = 0 := by rw [q2, unhide HN, List.drop_length]; rfl
        have GX := hide (And.intro q1 e0)
        clear q1 q2 e0 I HM
        go_wp2_with fail
        all_goals go_ret
        all_goals exact ⟨by rw [(unhide GX).2]; rfl, (unhide GX).1⟩
end Go.Proofs.YtnflbefbgcbdfaaGreat

namespace Go.Proofs.YtnflbefbgcbdfaaGreat
open Go.RowKit
set_option linter.unusedVariables false
set_option maxRecDepth 100000
set_option maxHeartbeats 4000000

theorem add_bad (b q : Nat) (kv : Value) (l : Lg) (s : St) (fa : Option Addr) (fn fc : Nat) (w : World) (hb : Blk w b (l.cs kv q) 75) (hm : l.may s ≠ 0) :
    Calls Tryz.prog 18 #[.pointer (some ⟨b, 0, none⟩), .agg (s.cs (.slice fa fn fc))] w fun e w' => e = .returned (.tuple #[.slice none 0 0, .int .i64 (l.may s)]) ∧ w.grownBy w' none := by
  obtain ⟨W, hW⟩ : ∃ W, W = w.alloc (.cells (s.cs (.slice fa fn fc)) 46) := ⟨_, rfl⟩
  have gW : w.grownBy W none := by rw [hW]; exact grown_alloc _ _
  have hs : Blk W w.heap.size (s.cs (.slice fa fn fc)) 46 := by rw [hW]; exact Blk.new w _ _
  have ha := may_any b q kv l s (.slice fa fn fc) W (hb.grown gW)
  obtain ⟨bs, hbs⟩ : ∃ bs, bs = w.heap.size := ⟨_, rfl⟩
  rw [← hbs] at hs
  generalize l.may s = m at hm ha ⊢
  obtain ⟨nu, ti, si, el, co, pr, tl, fs⟩ := s
  simp only [St.cs] at hW hs ha ⊢
  obtain ⟨y0, y1, y2, y3, y4, y5, y6, y7⟩ : W.cell? ⟨bs, 0, none⟩ = some (.int .i64 nu) ∧ W.cell? ⟨bs, 1, none⟩ = some (.int .i64 ti) ∧ W.cell? ⟨bs, 2, none⟩ = some (.int .i64 si) ∧ W.cell? ⟨bs, 3, none⟩ = some (.bool el) ∧ W.cell? ⟨bs, 4, none⟩ = some (.bool co) ∧ W.cell? ⟨bs, 5, none⟩ = some (.bool pr) ∧ W.cell? ⟨bs, 6, none⟩ = some (.int .i64 tl) ∧ W.cell? ⟨bs, 7, none⟩ = some (.slice fa fn fc) := ⟨hs.cell 0 _ rfl, hs.cell 1 _ rfl, hs.cell 2 _ rfl, hs.cell 3 _ rfl, hs.cell 4 _ rfl, hs.cell 5 _ rfl, hs.cell 6 _ rfl, hs.cell 7 _ rfl⟩
  have GW := hide gW
  clear gW hb hs
  go_enter Tryz.func18, Tryz.ntmps18
  go_upto_region 1 with fail
  rw [← hW, ← hbs]
  replace hW := hide hW
  replace hbs := hide hbs
  go_wp2_with fail
  refine ha.mono ?_
  rintro e Y ⟨rfl, gY⟩
  have GY := hide (grown_trans (unhide GW) gY)
  clear gY ha
  go_wp2_with fail
  all_goals go_ret2
  all_goals exact ⟨rfl, unhide GY⟩
end Go.Proofs.YtnflbefbgcbdfaaGreat

namespace Go.Proofs.YtnflbefbgcbdfaaGreat
open Go.RowKit
set_option linter.unusedVariables false
set_option maxRecDepth 100000
set_option maxHeartbeats 4000000

theorem may_zero {l : Lg} {s : St} (h : l.may s = 0) (hco : s.co = false) : s.nu = l.ne ∧ l.ne ≤ 4611686018427387903 ∧ s.el = false := by
  unfold Lg.may at h
  by_cases h1 : l.next.2 ≠ 0
  · rw [if_pos h1] at h; exact absurd h h1
  · rw [if_neg h1] at h
    by_cases h2 : s.nu ≠ l.next.1
    · rw [if_pos h2] at h; simp at h
    · rw [if_neg h2] at h
      have h2 : s.nu = l.next.1 := by simpa using h2
      have h1 : l.next.2 = 0 := by simpa using h1
      unfold Lg.next at h1 h2
      cases hop : l.op
      · simp [hop] at h1
      · simp only [hop] at h1 h2
        by_cases h3 : l.ne > 4611686018427387903
        · simp [h3] at h1
        · simp only [if_neg h3] at h2
          refine ⟨by simpa using h2, by omega, ?_⟩
          cases hel : s.el
          · rfl
          · rw [if_pos (.inr (.inr (.inr (.inr ⟨hel, hco⟩))))] at h
            simp at h

theorem add_bare (b q : Nat) (kv : Value) (l : Lg) (s : St) (fa : Option Addr) (fn fc : Nat) (w : World) (hb : Blk w b (l.cs kv q) 75) (hm : l.may s = 0) (hco : s.co = false) (hne : 0 ≤ l.ne) :
    Calls Tryz.prog 18 #[.pointer (some ⟨b, 0, none⟩), .agg (s.cs (.slice fa fn fc))] w fun e w' => e = .returned (.tuple #[.slice none 0 0, .int .i64 0]) ∧ Blk w' b ((⟨l.op, l.fi, s.nu + 1, l.la, s.ti, l.ls, l.ks, l.ac⟩ : Lg).cs kv q) 75 ∧ w.grownBy w' (some b) := by
  obtain ⟨m1, m2, m3⟩ := may_zero hm hco
  obtain ⟨W, hW⟩ : ∃ W, W = w.alloc (.cells (s.cs (.slice fa fn fc)) 46) := ⟨_, rfl⟩
  have gW : w.grownBy W none := by rw [hW]; exact grown_alloc _ _
  have hs : Blk W w.heap.size (s.cs (.slice fa fn fc)) 46 := by rw [hW]; exact Blk.new w _ _
  have ha := may_any b q kv l s (.slice fa fn fc) W (hb.grown gW)
  obtain ⟨bs, hbs⟩ : ∃ bs, bs = w.heap.size := ⟨_, rfl⟩
  rw [← hbs] at hs
  rw [hm] at ha
  clear hm
  have HBW := hide (hb.grown gW)
  obtain ⟨nu, ti, si, el, co, pr, tl, fs⟩ := s
  simp only at m1 m2 m3 hco
  subst hco
  subst m3
  have nu1 : 0 ≤ nu := by omega
  have nu2 : nu ≤ 4611686018427387903 := by omega
  clear m1 m2 hne
  simp only [St.cs] at hW hs ha ⊢
  obtain ⟨y0, y1, y2, y3, y4, y5, y6, y7⟩ : W.cell? ⟨bs, 0, none⟩ = some (.int .i64 nu) ∧ W.cell? ⟨bs, 1, none⟩ = some (.int .i64 ti) ∧ W.cell? ⟨bs, 2, none⟩ = some (.int .i64 si) ∧ W.cell? ⟨bs, 3, none⟩ = some (.bool false) ∧ W.cell? ⟨bs, 4, none⟩ = some (.bool false) ∧ W.cell? ⟨bs, 5, none⟩ = some (.bool pr) ∧ W.cell? ⟨bs, 6, none⟩ = some (.int .i64 tl) ∧ W.cell? ⟨bs, 7, none⟩ = some (.slice fa fn fc) := ⟨hs.cell 0 _ rfl, hs.cell 1 _ rfl, hs.cell 2 _ rfl, hs.cell 3 _ rfl, hs.cell 4 _ rfl, hs.cell 5 _ rfl, hs.cell 6 _ rfl, hs.cell 7 _ rfl⟩
  have GW := hide gW
  have HB := hide hb.lt
  clear gW hb hs
  go_enter Tryz.func18, Tryz.ntmps18
  go_upto_region 1 with fail
  rw [← hW, ← hbs]
  replace hW := hide hW
  replace hbs := hide hbs
  go_wp2_with fail
  refine ha.mono ?_
  rintro e Y ⟨rfl, gY⟩
  have BY := (unhide HBW).grown gY
  have v2 : Y.cell? ⟨b, 2, none⟩ = some (.int .i64 l.ne) := BY.cell 2 _ rfl
  have v4 : Y.cell? ⟨b, 4, none⟩ = some (.int .i64 l.ti) := BY.cell 4 _ rfl
  have f2 := BY.thaw 2
  have f4 := BY.thaw 4
  have x0 := cell_grown y0 gY
  have x1 := cell_grown y1 gY
  have x3 := cell_grown y3 gY
  have x4 := cell_grown y4 gY
  have nb : bs ≠ b := by
    have h1 := unhide HB
    have h2 := unhide hbs
    omega
  have GY := hide (And.intro (grown_trans (unhide GW) gY) BY)
  clear gY ha BY y0 y1 y2 y3 y4 y5 y6 y7
  go_upto_region 4 with fail
  go_region
  all_goals go_wp2_with fail
  all_goals go_ret2
  all_goals
    obtain ⟨g1, B1⟩ := unhide GY
    refine ⟨rfl, ?_, ?_⟩
    · first
        | exact (B1.setC 2 _).setC 4 _
        | exact (B1.setC 4 _).setC 2 _
    · first
        | exact grown_drewS (grown_at (grown_at (grown_any g1 b) _ _) _ _) _
        | exact grown_at (grown_at (grown_any g1 b) _ _) _ _
        | exact grown_at (grown_at (grown_any (grown_drew' g1) b) _ _) _ _
end Go.Proofs.YtnflbefbgcbdfaaGreat
