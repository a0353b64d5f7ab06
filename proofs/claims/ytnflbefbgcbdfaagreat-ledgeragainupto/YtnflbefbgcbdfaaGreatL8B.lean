/- L5F, L0G, L0H, L0I, L0J, one text. -/
import Derived.Test.YtnflbefbgcbdfaaGreatL8A
namespace Go.Proofs.YtnflbefbgcbdfaaGreat
open Go.RowKit
set_option linter.unusedVariables false
set_option linter.unusedSimpArgs false
set_option maxRecDepth 100000
set_option maxHeartbeats 1000000

/-- A packet that was added: its number, its size, its fate. -/
abbrev Tr := Int × Int × Int
def nsT (T : List Tr) : List Int := T.map (·.1)
def zsT (T : List Tr) : List Int := T.map (·.2.1)
def ftT (T : List Tr) : List Int := T.map (·.2.2)
def fateT (f : Int) (N : List Int) (T : List Tr) : List Tr := T.map (fun t => if t.1 ∈ N then (t.1, t.2.1, f) else t)
theorem nsT_fate (f : Int) (N : List Int) (T : List Tr) : nsT (fateT f N T) = nsT T := by
  simp only [nsT, fateT, List.map_map]
  refine List.map_congr_left fun t _ => ?_
  simp only [Function.comp]
  split <;> rfl
theorem zsT_fate (f : Int) (N : List Int) (T : List Tr) : zsT (fateT f N T) = zsT T := by
  simp only [zsT, fateT, List.map_map]
  refine List.map_congr_left fun t _ => ?_
  simp only [Function.comp]
  split <;> rfl
theorem updF_T (f o : Int) (T : List Tr) : updF (nsT T) f o (ftT T) = ftT (fateT f [o] T) := by
  simp only [updF, nsT, ftT, fateT, List.map_map, List.zipWith_map, List.zipWith_self]
  refine List.map_congr_left fun t _ => ?_
  simp only [Function.comp, List.mem_singleton]
  split <;> rfl
theorem fateT_two (f o : Int) (N : List Int) (T : List Tr) : fateT f N (fateT f [o] T) = fateT f (o :: N) T := by
  simp only [fateT, List.map_map]
  refine List.map_congr_left fun t _ => ?_
  simp only [Function.comp, List.mem_singleton, List.mem_cons]
  by_cases h1 : t.1 = o
  · simp only [h1, true_or, if_true]
    by_cases h2 : o ∈ N <;> simp [h2]
  · simp [h1]
theorem fateF_T (f : Int) : ∀ (outs : List St) (T : List Tr), fateF (nsT T) f outs (ftT T) = ftT (fateT f (outs.map St.nu) T)
  | [], T => by simp [fateF, fateT]
  | o :: outs, T => by
    have ih := fateF_T f outs (fateT f [o.nu] T)
    unfold fateF at ih ⊢
    rw [nsT_fate] at ih
    rw [List.foldl_cons, updF_T, ih, List.map_cons, fateT_two]

/-- What a load and its ledger have in common. -/
structure OnT (l : Lg) (T : List Tr) : Prop where
  ks : l.ks.map (fun s => (s.nu, s.si)) = (T.filter (fun t => decide (t.2.2 = 0))).map (fun t => (t.1, t.2.1))
  up : (nsT T).Pairwise (· < ·)
  lo : ∀ t ∈ T, 0 ≤ t.1 ∧ t.1 < l.ne
theorem OnT.mem {l : Lg} {T : List Tr} (h : OnT l T) {s : St} (hs : s ∈ l.ks) : ∃ t ∈ T, t.1 = s.nu ∧ t.2.1 = s.si ∧ t.2.2 = 0 := by
  have : (s.nu, s.si) ∈ l.ks.map (fun s => (s.nu, s.si)) := List.mem_map.2 ⟨s, hs, rfl⟩
  rw [h.ks] at this
  obtain ⟨t, ht, e⟩ := List.mem_map.1 this
  obtain ⟨h1, h2⟩ := List.mem_filter.1 ht
  simp only [Prod.mk.injEq] at e
  exact ⟨t, h1, e.1, e.2, by simpa using h2⟩
theorem OnT.back {l : Lg} {T : List Tr} (h : OnT l T) {t : Tr} (ht : t ∈ T) (h0 : t.2.2 = 0) : ∃ s ∈ l.ks, s.nu = t.1 := by
  have : (t.1, t.2.1) ∈ (T.filter (fun t => decide (t.2.2 = 0))).map (fun t => (t.1, t.2.1)) := List.mem_map.2 ⟨t, List.mem_filter.2 ⟨ht, by simpa using h0⟩, rfl⟩
  rw [← h.ks] at this
  obtain ⟨s, hs, e⟩ := List.mem_map.1 this
  simp only [Prod.mk.injEq] at e
  exact ⟨s, hs, e.1⟩
theorem nsT_inj {T : List Tr} (h : (nsT T).Pairwise (· < ·)) {t t' : Tr} (h1 : t ∈ T) (h2 : t' ∈ T) (e : t.1 = t'.1) : t = t' := by
  obtain ⟨i, hi⟩ := List.getElem?_of_mem h1
  obtain ⟨j, hj⟩ := List.getElem?_of_mem h2
  have li := (List.getElem?_eq_some_iff.1 hi).1
  have lj := (List.getElem?_eq_some_iff.1 hj).1
  have ei := (List.getElem?_eq_some_iff.1 hi).2
  have ej := (List.getElem?_eq_some_iff.1 hj).2
  have key := List.pairwise_iff_getElem.1 h
  have gi : (nsT T)[i]'(by simpa [nsT] using li) = t.1 := by simp [nsT, ei]
  have gj : (nsT T)[j]'(by simpa [nsT] using lj) = t'.1 := by simp [nsT, ej]
  rcases Nat.lt_trichotomy i j with q | q | q
  · have := key i j (by simpa [nsT] using li) (by simpa [nsT] using lj) q
    rw [gi, gj] at this
    omega
  · subst q
    rw [hi] at hj
    injection hj
  · have := key j i (by simpa [nsT] using lj) (by simpa [nsT] using li) q
    rw [gi, gj] at this
    omega
theorem OnT.rise {l : Lg} {T : List Tr} (h : OnT l T) : (l.ks.map St.nu).Pairwise (· < ·) := by
  have e : l.ks.map St.nu = (T.filter (fun t => decide (t.2.2 = 0))).map (·.1) := by
    have := congrArg (List.map Prod.fst) h.ks
    simpa [List.map_map, Function.comp_def] using this
  rw [e]
  exact h.up.sublist (List.Sublist.map _ List.filter_sublist)
theorem OnT.fok {l : Lg} {T : List Tr} (h : OnT l T) (M : Int → Bool) (f : Int) : FOk (nsT T) (zsT T) (ftT T) f (l.ks.filter (fun s => M s.nu)) := by
  have hmem : ∀ (i : Nat) (o : St), (l.ks.filter (fun s => M s.nu))[i]? = some o → o ∈ l.ks := fun i o hi => (List.mem_filter.1 (List.mem_of_getElem? hi)).1
  have hup : ((l.ks.filter (fun s => M s.nu)).map St.nu).Pairwise (· < ·) := h.rise.sublist (List.Sublist.map _ List.filter_sublist)
  refine ⟨by simp [nsT, ftT], by simp [nsT, zsT], fun i o hi => ?_, fun i o hi => ?_, fun i o hi k hk => ?_⟩
  · obtain ⟨t, ht, e1, e2, e3⟩ := h.mem (hmem i o hi)
    have := (h.lo t ht).1
    by_cases h0 : i = 0
    · rw [if_pos h0]; omega
    · rw [if_neg h0]
      have li := (List.getElem?_eq_some_iff.1 hi).1
      have ei := (List.getElem?_eq_some_iff.1 hi).2
      have key := List.pairwise_iff_getElem.1 hup (i - 1) i (by simp only [List.length_map]; omega) (by simp only [List.length_map]; omega) (by omega)
      rw [List.getElem?_eq_getElem (by omega)]
      simpa [ei] using key
  · obtain ⟨t, ht, e1, e2, e3⟩ := h.mem (hmem i o hi)
    exact List.mem_map.2 ⟨t, ht, e1⟩
  · obtain ⟨t, ht, e1, e2, e3⟩ := h.mem (hmem i o hi)
    obtain ⟨t', hk', e'⟩ : ∃ t', T[k]? = some t' ∧ t'.1 = o.nu := by
      rw [nsT, List.getElem?_map] at hk
      obtain ⟨t', h1, h2⟩ := Option.map_eq_some_iff.1 hk
      exact ⟨t', h1, h2⟩
    have ett : t' = t := nsT_inj h.up (List.mem_of_getElem? hk') ht (by rw [e', e1])
    subst ett
    refine ⟨?_, by rw [zsT, List.getElem?_map, hk']; simp [e2]⟩
    rw [fateF_T, ftT, fateT, List.map_map, List.getElem?_map, hk']
    have hno : t'.1 ∉ ((l.ks.filter (fun s => M s.nu)).take i).map St.nu := by
      intro hm
      rw [List.map_take] at hm
      obtain ⟨j, hj⟩ := List.getElem?_of_mem hm
      have lj := (List.getElem?_eq_some_iff.1 hj).1
      rw [List.length_take] at lj
      rw [List.getElem?_take, if_pos (by omega)] at hj
      have ljj := (List.getElem?_eq_some_iff.1 hj).1
      have ej := (List.getElem?_eq_some_iff.1 hj).2
      have li := (List.getElem?_eq_some_iff.1 hi).1
      have ei := (List.getElem?_eq_some_iff.1 hi).2
      have key := List.pairwise_iff_getElem.1 hup j i ljj (by simp only [List.length_map]; omega) (by omega)
      rw [ej] at key
      simp [ei] at key
      omega
    show some ((if t'.1 ∈ ((l.ks.filter (fun s => M s.nu)).take i).map St.nu then (t'.1, t'.2.1, f) else t').2.2) = some 0
    rw [if_neg hno, e3]
theorem OnT.left {l : Lg} {T : List Tr} (h : OnT l T) (M : Int → Bool) {f : Int} (hf : f ≠ 0) : OnT (l.left M) (fateT f ((l.ks.filter (fun s => M s.nu)).map St.nu) T) := by
  have hN : ∀ t ∈ T, t.2.2 = 0 → (t.1 ∈ (l.ks.filter (fun s => M s.nu)).map St.nu ↔ M t.1 = true) := by
    intro t ht h0
    constructor
    · intro hm
      obtain ⟨s, hs, e⟩ := List.mem_map.1 hm
      rw [← e]
      simpa using (List.mem_filter.1 hs).2
    · intro hm
      obtain ⟨s, hs, e⟩ := h.back ht h0
      exact List.mem_map.2 ⟨s, List.mem_filter.2 ⟨hs, by rw [e]; simpa using hm⟩, e⟩
  generalize (l.ks.filter (fun s => M s.nu)).map St.nu = N at *
  refine ⟨?_, by rw [nsT_fate]; exact h.up, fun t ht => ?_⟩
  · show ((l.ks.filter (fun s => !M s.nu)).map (fun s => (s.nu, s.si))) = _
    have e1 : (l.ks.filter (fun s => !M s.nu)).map (fun s => (s.nu, s.si)) = (l.ks.map (fun s => (s.nu, s.si))).filter (fun p => !M p.1) := by
      rw [List.filter_map]; rfl
    rw [e1, h.ks, List.filter_map]
    unfold fateT
    rw [List.filter_map, List.map_map, List.filter_filter]
    have e2 : T.filter ((fun t : Tr => decide (t.2.2 = 0)) ∘ fun t => if t.1 ∈ N then (t.1, t.2.1, f) else t) = T.filter (fun t => ((fun p : Int × Int => !M p.1) ∘ fun t : Tr => (t.1, t.2.1)) t && decide (t.2.2 = 0)) := by
      refine List.filter_congr fun t ht => ?_
      simp only [Function.comp]
      by_cases h0 : t.2.2 = 0
      · have hq := hN t ht h0
        by_cases hm : t.1 ∈ N
        · have hq := hq.1 hm
          simp [hm, hf, hq]
        · have hM : M t.1 = false := by
            cases hq2 : M t.1
            · rfl
            · exact absurd (hq.2 hq2) hm
          simp [hm, h0, hM]
      · by_cases hm : t.1 ∈ N
        · simp [hm, hf, h0]
        · simp [hm, h0]
    rw [e2]
    refine List.map_congr_left fun t ht => ?_
    simp only [Function.comp]
    split <;> rfl
  · obtain ⟨t0, h0, e⟩ := List.mem_map.1 ht
    have := h.lo t0 h0
    rw [← e]
    split <;> exact this
theorem OnT.added {l : Lg} {T : List Tr} (h : OnT l T) {s : St} (hs : s.nu = l.ne) (h0 : 0 ≤ l.ne) : OnT (l.added s) (T ++ [(s.nu, s.si, 0)]) := by
  refine ⟨?_, ?_, fun t ht => ?_⟩
  · show (l.ks ++ [s]).map _ = _
    rw [List.map_append, h.ks, List.filter_append, List.map_append]
    simp
  · rw [nsT, List.map_append, List.pairwise_append]
    refine ⟨h.up, by simp, fun a ha b hb => ?_⟩
    obtain ⟨t, ht, rfl⟩ := List.mem_map.1 ha
    simp at hb
    subst hb
    have := (h.lo t ht).2
    omega
  · show 0 ≤ t.1 ∧ t.1 < s.nu + 1
    rcases List.mem_append.1 ht with q | q
    · have := h.lo t q; omega
    · simp at q; subst q; simp; omega
theorem OnT.next {l : Lg} {T : List Tr} (h : OnT l T) {l' : Lg} (hk : l'.ks = l.ks) (hn : l.ne ≤ l'.ne) : OnT l' T := ⟨by rw [hk]; exact h.ks, h.up, fun t ht => by have := h.lo t ht; omega⟩
end Go.Proofs.YtnflbefbgcbdfaaGreat

namespace Go.Proofs.YtnflbefbgcbdfaaGreat
open Go.RowKit
set_option linter.unusedVariables false
set_option linter.unusedSimpArgs false
set_option maxRecDepth 100000
set_option maxHeartbeats 1000000

/-- The blocks that a load and its ledger write. -/
def ownL (lw b q : Nat) (nv zv fv kv va : Value) (x : Nat) : Prop := x = lw ∨ x = b ∨ x = q ∨ nv.ownBlock = some x ∨ zv.ownBlock = some x ∨ fv.ownBlock = some x ∨ kv.ownBlock = some x ∨ va.ownBlock = some x
/-- What is true of both. -/
structure LOk (l : Lg) (T : List Tr) : Prop where
  on : OnT l T
  ac : AcOk l.ac
  ne : 0 ≤ l.ne
  kl : l.ks.length ≤ 256
  si : ∀ s ∈ l.ks, 0 ≤ s.si ∧ s.si ≤ 65535
/-- A load and its ledger in memory. -/
structure LW (R : Nat → Prop) (W : World) (lw b q : Nat) (nv zv fv kv va : Value) (l : Lg) (T : List Tr) : Prop where
  ld : Blk W lw (ldc b nv zv fv l.ne l.op) 60
  n_ : IR 2 W nv (nsT T)
  z_ : IR 2 W zv (zsT T)
  f_ : IR 3 W fv (ftT T)
  lg : LgAt R W b q kv va l
  nz : ∀ g, nv.ownBlock = some g → zv.ownBlock ≠ some g
  ro : ∀ g, R g → g ≠ lw ∧ nv.ownBlock ≠ some g ∧ zv.ownBlock ≠ some g ∧ fv.ownBlock ≠ some g
  ok : LOk l T
section
variable {R : Nat → Prop} {W W' : World} {lw b q : Nat} {nv zv fv kv va : Value} {l : Lg} {T : List Tr}
theorem LW.grown (h : LW R W lw b q nv zv fv kv va l T) (g : W.grownBy W' none) : LW R W' lw b q nv zv fv kv va l T := ⟨h.ld.grown g, h.n_.grown g, h.z_.grown g, h.f_.grown g, h.lg.grown g, h.nz, h.ro, h.ok⟩
/-- The ledger's blocks are none of the load's. -/
theorem LW.far (h : LW R W lw b q nv zv fv kv va l T) : (∀ x, (x = b ∨ x = q ∨ kv.ownBlock = some x ∨ va.ownBlock = some x) → x ≠ lw ∧ nv.ownBlock ≠ some x ∧ zv.ownBlock ≠ some x ∧ fv.ownBlock ≠ some x) := by
  have key : ∀ x cs t, Blk W x cs t → t ≠ 60 → t ≠ 2 → t ≠ 3 → x ≠ lw ∧ nv.ownBlock ≠ some x ∧ zv.ownBlock ≠ some x ∧ fv.ownBlock ≠ some x := by
    intro x cs t hb h1 h2 h3
    refine ⟨ty_ne hb h.ld h1, fun e => ?_, fun e => ?_, fun e => ?_⟩
    · obtain ⟨c2, hc⟩ := h.n_.ty x e; exact ty_ne hb hc h2 rfl
    · obtain ⟨c2, hc⟩ := h.z_.ty x e; exact ty_ne hb hc h2 rfl
    · obtain ⟨c2, hc⟩ := h.f_.ty x e; exact ty_ne hb hc h3 rfl
  rintro x (rfl | rfl | e | e)
  · exact key _ _ _ h.lg.blk (by decide) (by decide) (by decide)
  · have hq : Blk W x _ 116 := h.lg.set.blk
    exact key _ _ _ hq (by decide) (by decide) (by decide)
  · obtain ⟨cs, hc⟩ := h.lg.row.ty x e
    exact key _ _ _ hc (by decide) (by decide) (by decide)
  · obtain ⟨cs, hc⟩ := row_ty h.lg.set.row x e
    exact key _ _ _ hc (by decide) (by decide) (by decide)
/-- The load's rows are apart, too. -/
theorem LW.rows (h : LW R W lw b q nv zv fv kv va l T) : (∀ x, fv.ownBlock = some x → x ≠ lw ∧ nv.ownBlock ≠ some x ∧ zv.ownBlock ≠ some x) ∧ nv.ownBlock ≠ some lw ∧ zv.ownBlock ≠ some lw := by
  refine ⟨fun x e => ?_, fun e => ?_, fun e => ?_⟩
  · obtain ⟨c1, h1⟩ := h.f_.ty x e
    refine ⟨ty_ne h1 h.ld (by decide), fun e => ?_, fun e => ?_⟩
    · obtain ⟨c2, h2⟩ := h.n_.ty x e; exact ty_ne h1 h2 (by decide) rfl
    · obtain ⟨c2, h2⟩ := h.z_.ty x e; exact ty_ne h1 h2 (by decide) rfl
  · obtain ⟨c1, h1⟩ := h.n_.ty lw e; exact ty_ne h1 h.ld (by decide) rfl
  · obtain ⟨c1, h1⟩ := h.z_.ty lw e; exact ty_ne h1 h.ld (by decide) rfl
end
/-- What does leaves. -/
def DoP (D : Lg → Prop) (R : Nat → Prop) (w : World) (lw b q : Nat) (nv zv fv kv va : Value) (l : Lg) (T : List Tr) (e : Ending) (w' : World) : Prop :=
  ∃ (R' : Nat → Prop) (nv' zv' fv' kv' va' : Value) (l' : Lg) (T' : List Tr), e = .returned (.bool true) ∧ LW R' w' lw b q nv' zv' fv' kv' va' l' T' ∧ Kp (ownL lw b q nv zv fv kv va) w w' ∧ (∀ x, ownL lw b q nv' zv' fv' kv' va' x → ownL lw b q nv zv fv kv va x ∨ w.heap.size ≤ x) ∧ (∀ x, R' x → R x ∨ w.heap.size ≤ x) ∧ l'.ne ≤ l.ne + 1 ∧ T'.length ≤ T.length + 1 ∧ l'.fi = l.fi ∧ D l'
theorem DoP.weak {D D' : Lg → Prop} {R : Nat → Prop} {w : World} {lw b q : Nat} {nv zv fv kv va : Value} {l : Lg} {T : List Tr} {e : Ending} {w' : World} (h : DoP D R w lw b q nv zv fv kv va l T e w') (hD : ∀ x, D x → D' x) : DoP D' R w lw b q nv zv fv kv va l T e w' := by
  obtain ⟨R', nv', zv', fv', kv', va', l', T', h0, h1, h2, h3, h4, h5, h6, h7, h8⟩ := h
  exact ⟨R', nv', zv', fv', kv', va', l', T', h0, h1, h2, h3, h4, h5, h6, h7, hD _ h8⟩
/-- An answer came out of the ledger; what became of its packets is written down. -/
theorem LW.ans2 {D : Lg → Prop} {R : Nat → Prop} {w w1 : World} {lw b q : Nat} {nv zv fv kv va : Value} {l : Lg} {T : List Tr} (h : LW R w lw b q nv zv fv kv va l T) (M : Int → Bool) (l1 : Lg) (hk : l1.ks = l.ks) (hne : l.ne ≤ l1.ne ∧ l1.ne ≤ l.ne + 1) (hac : AcOk l1.ac) (hfi : l1.fi = l.fi) (hop : D (l1.left M)) (f : Int) (hf : f ≠ 0) (hT : T.length ≤ 1100000)
    (kv1 va1 ov : Value) (Ro : Nat → Prop) (hlg : LgAt R w1 b q kv1 va1 (l1.left M)) (ho : KvAt Ro w1 ov (l.ks.filter (fun s => M s.nu))) (hld : Blk w1 lw (ldc b nv zv fv l1.ne l1.op) 60) (hkv : kv1.ownBlock = kv.ownBlock) (hva : va1.ownBlock = va.ownBlock ∨ ∀ g, va1.ownBlock = some g → w.heap.size ≤ g) (k : Kp (fun x => x = lw ∨ x = b ∨ x = q ∨ kv.ownBlock = some x ∨ va.ownBlock = some x) w w1) :
    Calls Tryz.prog 39 #[.pointer (some ⟨lw, 0, none⟩), ov, .int .i64 f] w1 fun e w' => DoP D R w lw b q nv zv fv kv va l T e w' := by
  have far := h.far
  obtain ⟨rows, rn, rz⟩ := h.rows
  have kr : ∀ x, (nv.ownBlock = some x ∨ zv.ownBlock = some x ∨ fv.ownBlock = some x) → x < w.heap.size → w1.heap[x]? = w.heap[x]? := fun x hx hl => k.block x hl (fun e => by
    rcases e with e | e
    · subst e
      rcases hx with q1 | q1 | q1
      · exact rn q1
      · exact rz q1
      · exact (rows x q1).1 rfl
    · have := far x e
      rcases hx with q1 | q1 | q1
      · exact this.2.1 q1
      · exact this.2.2.1 q1
      · exact this.2.2.2 q1)
  have n1 : IR 2 w1 nv (nsT T) := h.n_.kept fun x e => kr x (.inl e) (h.n_.lt x e)
  have z1 : IR 2 w1 zv (zsT T) := h.z_.kept fun x e => kr x (.inr (.inl e)) (h.z_.lt x e)
  have f1 : IR 3 w1 fv (ftT T) := h.f_.kept fun x e => kr x (.inr (.inr e)) (h.f_.lt x e)
  have on1 : OnT l1 T := h.ok.on.next hk (by omega)
  have hfo := on1.fok M f
  rw [← hk] at ho
  have hlo : (l1.ks.filter (fun s => M s.nu)).length ≤ 1100000 := by
    have h1 := List.length_filter_le (fun s : St => M s.nu) l1.ks
    have h2 := h.ok.kl
    have h3 : l1.ks.length = l.ks.length := by rw [hk]
    omega
  refine (fates_any lw b nv zv fv ov l1.ne l1.op (nsT T) (zsT T) (ftT T) f _ Ro w1 hld n1 z1 f1 ho hfo (by simpa [nsT] using hT) hlo).mono ?_
  rintro e w2 ⟨rfl, f2, g2⟩
  rw [fateF_T] at f2
  have on2 := on1.left M hf
  have g2b : ∀ x, x < w1.heap.size → fv.ownBlock ≠ some x → w2.heap[x]? = w1.heap[x]? := fun x hx hn => g2.block x hx (fun e => hn e.symm)
  have s1 := k.size
  have nz2 := h.nz
  refine ⟨R, nv, zv, fv, kv1, va1, l1.left M, fateT f ((l1.ks.filter (fun s => M s.nu)).map St.nu) T, rfl, ⟨?_, ?_, ?_, f2, ?_, h.nz, h.ro, ⟨on2, hac, ?_, ?_, ?_⟩⟩, ?_, ?_, fun x hx => .inl hx, ?_, ?_, hfi, hop⟩
  · exact (g2b lw hld.lt (fun e => (rows lw e).1 rfl)).trans hld
  · rw [nsT_fate]
    exact n1.kept fun x e => g2b x (n1.lt x e) (fun e2 => (rows x e2).2.1 e)
  · rw [zsT_fate]
    exact z1.kept fun x e => g2b x (z1.lt x e) (fun e2 => (rows x e2).2.2 e)
  · refine hlg.kept (S := fun x => fv.ownBlock = some x) ⟨g2.os, g2.tape, g2.output, g2.size, fun x hx hn => g2b x hx hn⟩ fun x e => ?_
    have tyb : x ≠ b ∧ x ≠ q ∧ kv1.ownBlock ≠ some x ∧ va1.ownBlock ≠ some x := by
      obtain ⟨c1, hc1⟩ := f1.ty x e
      refine ⟨ty_ne hc1 hlg.blk (by decide), ?_, fun e2 => ?_, fun e2 => ?_⟩
      · have hq : Blk w1 q _ 116 := hlg.set.blk
        exact ty_ne hc1 hq (by decide)
      · obtain ⟨c2, hc2⟩ := hlg.row.ty x e2; exact ty_ne hc1 hc2 (by decide) rfl
      · obtain ⟨c2, hc2⟩ := row_ty hlg.set.row x e2; exact ty_ne hc1 hc2 (by decide) rfl
    exact ⟨fun hr => (h.ro x hr).2.2.2 e, tyb⟩
  · show 0 ≤ l1.ne
    have := h.ok.ne; omega
  · show (l1.ks.filter _).length ≤ 256
    have h1 := List.length_filter_le (fun s : St => !M s.nu) l1.ks
    have h2 := h.ok.kl
    have h3 : l1.ks.length = l.ks.length := by rw [hk]
    omega
  · intro s hs
    have hs2 : s ∈ l1.ks.filter (fun s => !M s.nu) := hs
    exact h.ok.si s (by rw [← hk]; exact (List.mem_filter.1 hs2).1)
  · refine ⟨g2.os.trans k.os, g2.tape.trans k.tape, g2.output.trans k.output, Nat.le_trans k.size g2.size, fun x hx hn => (g2b x (by omega) (fun e => hn (by unfold ownL; simp [e]))).trans (k.block x hx (fun e => hn ?_))⟩
    unfold ownL
    rcases e with e | e | e | e | e
    · exact .inl e
    · exact .inr (.inl e)
    · exact .inr (.inr (.inl e))
    · exact .inr (.inr (.inr (.inr (.inr (.inr (.inl e))))))
    · exact .inr (.inr (.inr (.inr (.inr (.inr (.inr e))))))
  · intro x hx
    unfold ownL at hx ⊢
    rcases hx with e | e | e | e | e | e | e | e
    · exact .inl (.inl e)
    · exact .inl (.inr (.inl e))
    · exact .inl (.inr (.inr (.inl e)))
    · exact .inl (.inr (.inr (.inr (.inl e))))
    · exact .inl (.inr (.inr (.inr (.inr (.inl e)))))
    · exact .inl (.inr (.inr (.inr (.inr (.inr (.inl e))))))
    · exact .inl (.inr (.inr (.inr (.inr (.inr (.inr (.inl (by rw [← hkv]; exact e))))))))
    · rcases hva with q1 | q1
      · exact .inl (.inr (.inr (.inr (.inr (.inr (.inr (.inr (by rw [← q1]; exact e))))))))
      · exact .inr (q1 x e)
  · show l1.ne ≤ _
    omega
  · simp [fateT]
theorem LW.ans {D : Lg → Prop} {R : Nat → Prop} {w w1 : World} {lw b q : Nat} {nv zv fv kv va : Value} {l : Lg} {T : List Tr} (h : LW R w lw b q nv zv fv kv va l T) (M : Int → Bool) (l1 : Lg) (hk : l1.ks = l.ks) (hne : l1.ne = l.ne) (hac : AcOk l1.ac) (hfi : l1.fi = l.fi) (hop : D (l1.left M)) (f : Int) (hf : f ≠ 0) (hT : T.length ≤ 1100000)
    (kv1 va1 ov : Value) (Ro : Nat → Prop) (hlg : LgAt R w1 b q kv1 va1 (l1.left M)) (ho : KvAt Ro w1 ov (l.ks.filter (fun s => M s.nu))) (hld : Blk w1 lw (ldc b nv zv fv l1.ne l1.op) 60) (hkv : kv1.ownBlock = kv.ownBlock) (hva : va1.ownBlock = va.ownBlock ∨ ∀ g, va1.ownBlock = some g → w.heap.size ≤ g) (k : Kp (fun x => x = lw ∨ x = b ∨ x = q ∨ kv.ownBlock = some x ∨ va.ownBlock = some x) w w1) :
    Calls Tryz.prog 39 #[.pointer (some ⟨lw, 0, none⟩), ov, .int .i64 f] w1 fun e w' => DoP D R w lw b q nv zv fv kv va l T e w' :=
  h.ans2 M l1 hk ⟨by omega, by omega⟩ hac hfi hop f hf hT kv1 va1 ov Ro hlg ho hld hkv hva k
end Go.Proofs.YtnflbefbgcbdfaaGreat

namespace Go.Proofs.YtnflbefbgcbdfaaGreat
open Go.RowKit
set_option linter.unusedVariables false
set_option linter.unusedSimpArgs false
set_option maxRecDepth 100000
set_option maxHeartbeats 1000000

/-- A step's cells. -/
def opc (kd hh : Int) (s : St) (fv rv mv : Value) (n : Int) : Array Value := #[.int .i64 kd, .int .i64 hh, .int .i64 s.nu, .int .i64 s.ti, .int .i64 s.si, .bool s.el, .bool s.co, .bool s.pr, .int .i64 s.tl, fv, rv, mv, .int .i64 n]

section
variable {R : Nat → Prop} {lw b q : Nat} {nv zv fv kv va : Value} {l : Lg} {T : List Tr}
theorem DoP.same {D : Lg → Prop} {w w' : World} (h : LW R w lw b q nv zv fv kv va l T) (g : w.grownBy w' none) (hD : D l) : DoP D R w lw b q nv zv fv kv va l T (.returned (.bool true)) w' :=
  ⟨R, nv, zv, fv, kv, va, l, T, rfl, h.grown g, Kp.grown g _, fun x hx => .inl hx, fun x hx => .inl hx, by omega, by omega, rfl, hD⟩

theorem does_else (w : World) (h : LW R w lw b q nv zv fv kv va l T) (kd hh : Int) (s : St) (fw rv mv : Value) (n : Int) (f1 : fw.oneCell' = true) (k1 : kd ≠ 1) (k2 : kd ≠ 2) (k3 : kd ≠ 3) (k4 : kd ≠ 4) :
    Calls Tryz.prog 13 #[.pointer (some ⟨lw, 0, none⟩), .agg (opc kd hh s fw rv mv n)] w fun e w' => DoP (fun x => x = l) R w lw b q nv zv fv kv va l T e w' := by
  obtain ⟨B, hB⟩ : ∃ B, B = w.alloc (.cells (opc kd hh s fw rv mv n) 50) := ⟨_, rfl⟩
  have gB : w.grownBy B none := by rw [hB]; exact grown_alloc _ _
  have bB : Blk B w.heap.size (opc kd hh s fw rv mv n) 50 := by rw [hB]; exact Blk.new w _ _
  obtain ⟨bs, hbs⟩ : ∃ bs, bs = w.heap.size := ⟨_, rfl⟩
  rw [← hbs] at bB
  have y0 : B.cell? ⟨bs, 0, none⟩ = some (.int .i64 kd) := bB.cell 0 _ rfl
  have FIN := hide (DoP.same (D := fun x => x = l) h gB rfl)
  clear h gB bB
  go_enter Tryz.func13, Tryz.ntmps13
  go_upto_region 1 with fail
  rw [← hB, ← hbs]
  replace hB := hide hB
  replace hbs := hide hbs
  go_wp2_with fail
  all_goals go_ret
  all_goals exact unhide FIN

/-- What a drop leaves. -/
def Lg.drpd (l : Lg) : Lg := ({ l with op := false } : Lg).left (fun _ => true)
theorem does_drop (w : World) (h : LW R w lw b q nv zv fv kv va l T) (hT : T.length ≤ 1100000) (hh : Int) (s : St) (fw rv mv : Value) (n : Int) :
    Calls Tryz.prog 13 #[.pointer (some ⟨lw, 0, none⟩), .agg (opc 4 hh s fw rv mv n)] w fun e w' => DoP (fun x => x = l.drpd) R w lw b q nv zv fv kv va l T e w' := by
  obtain ⟨B, hB⟩ : ∃ B, B = w.alloc (.cells (opc 4 hh s fw rv mv n) 50) := ⟨_, rfl⟩
  have gB : w.grownBy B none := by rw [hB]; exact grown_alloc _ _
  have bB : Blk B w.heap.size (opc 4 hh s fw rv mv n) 50 := by rw [hB]; exact Blk.new w _ _
  obtain ⟨bs, hbs⟩ : ∃ bs, bs = w.heap.size := ⟨_, rfl⟩
  rw [← hbs] at bB
  have y0 : B.cell? ⟨bs, 0, none⟩ = some (.int .i64 4) := bB.cell 0 _ rfl
  have hLB := h.grown gB
  have c5 : B.cell? ⟨lw, 5, none⟩ = some (.bool l.op) := hLB.ld.cell 5 _ rfl
  have f5 := hLB.ld.thaw 5
  obtain ⟨W1, hW1⟩ : ∃ W1, W1 = B.setCell ⟨lw, 5, none⟩ (.bool false) := ⟨_, rfl⟩
  have ld1 : Blk W1 lw (ldc b nv zv fv l.ne false) 60 := by rw [hW1]; exact hLB.ld.setC 5 _
  have c0 : W1.cell? ⟨lw, 0, none⟩ = some (.pointer (some ⟨b, 0, none⟩)) := ld1.cell 0 _ rfl
  have far := h.far
  have kB : Kp (fun x => x = lw) B W1 := by rw [hW1]; exact Kp.set (Kp.refl _ _) lw 5 _ (fun _ => rfl)
  have lg1 : LgAt R W1 b q kv va l := hLB.lg.kept kB (fun x e => by
    subst e
    exact ⟨fun hr => (h.ro x hr).1 rfl, fun e => (far x (.inl e)).1 rfl, fun e => (far x (.inr (.inl e))).1 rfl, fun e => (far x (.inr (.inr (.inl e)))).1 rfl, fun e => (far x (.inr (.inr (.inr e)))).1 rfl⟩)
  have hd := drop_any b q kv va l R W1 lg1 (by have := h.ok.kl; omega)
  have AN : Hid (∀ ov w1, TkP R W1 b q kv va { l with op := false } (fun _ => true) (.returned ov) w1 → Calls Tryz.prog 39 #[.pointer (some ⟨lw, 0, none⟩), ov, .int .i64 4] w1 fun e w' => DoP (fun x => x = l.drpd) R w lw b q nv zv fv kv va l T e w') := by
    intro ov w1 hP
    obtain ⟨ov', Ro, kv', e1, p2, p3, p4, p5, p6, p7⟩ := hP
    injection e1 with e1
    subst e1
    refine h.ans (D := fun x => x = l.drpd) (fun _ => true) { l with op := false } rfl rfl h.ok.ac rfl rfl 4 (by decide) hT kv' va ov Ro p5 p2 ?_ p6 (.inl rfl) ?_
    · exact (p7.block lw ld1.lt (fun e => e.elim (fun e => (far lw (.inl e)).1 rfl) (fun e => (far lw (.inr (.inr (.inl e)))).1 rfl))).trans ld1
    · exact (Kp.grown gB _).trans ((kB.mono fun x _ e => .inl e).trans (p7.mono fun x _ e => e.elim (fun e => .inr (.inl e)) (fun e => .inr (.inr (.inr (.inl e))))))
  clear h gB bB hLB ld1 far kB lg1
  go_enter Tryz.func13, Tryz.ntmps13
  go_upto_region 1 with fail
  rw [← hB, ← hbs]
  replace hB := hide hB
  replace hbs := hide hbs
  go_upto_region 28 with fail
  rw [← hW1]
  replace hW1 := hide hW1
  clear y0 c5 f5
  go_wp2_with fail
  refine hd.mono ?_
  intro e w1 hP
  obtain ⟨ov, hov⟩ : ∃ ov, e = .returned ov := by obtain ⟨ov, Ro, kv', e1, -⟩ := hP; exact ⟨ov, e1⟩
  subst hov
  have ha := unhide AN ov w1 hP
  clear hd AN hP
  go_wp2_with fail
  refine ha.mono ?_
  intro e w' hP
  obtain ⟨R', nv', zv', fv', kv', va', l', T', rfl, rest⟩ := hP
  have FIN := hide rest
  clear ha rest
  go_wp2_with fail
  go_ret
  exact ⟨R', nv', zv', fv', kv', va', l', T', rfl, unhide FIN⟩
end
end Go.Proofs.YtnflbefbgcbdfaaGreat

namespace Go.Proofs.YtnflbefbgcbdfaaGreat
open Go.RowKit
set_option linter.unusedVariables false
set_option linter.unusedSimpArgs false
set_option maxRecDepth 100000
set_option maxHeartbeats 1000000

/-- One number more. -/
theorem IR.app {t sT : TypeId} (hu : Tryz.prog.underlying sT = some (.slice t)) (hinfo : (Tryz.prog.info? t).map (fun i => (i.zero, i.size, i.bytes)) = some (some (.int .i64 0), 1, 8)) {W : World} {v : Value} {xs : List Int} (h : IR t W v xs) (x : Int) (g0 : Nat) (hb : Blk W g0 #[.int .i64 x] t) (hl : xs.length ≤ 100000000) :
    ∃ a' c' W', (Builtin.append_ #[sT, sT] sT #[v, .slice (some ⟨g0, 0, none⟩) 1 1]).run Tryz.prog W = .ok (.slice a' (xs.length + 1) c') W' ∧ IR t W' (.slice a' (xs.length + 1) c') (xs ++ [x]) ∧ W.grownBy W' v.ownBlock ∧ ((Value.slice a' (xs.length + 1) c').ownBlock = v.ownBlock ∨ (Value.slice a' (xs.length + 1) c').ownBlock = some W.heap.size) := by
  obtain ⟨i, hi, hz0, hz1, hz2⟩ := info_parts hinfo
  obtain ⟨v', W', hrun, ho, hgr, hnil, hob⟩ := run_append_own_at (P := Tryz.prog) W 0 sT sT t i _ 1 8 hu hi hz0 hz1 hz2 rfl (by decide) v xs.length _ h ⟨g0, 0, none⟩ 1 1 [.int .i64 x] rfl (fun j u hj => by
      rw [Addr.add_lit, Nat.zero_add]
      exact hb.cell j u (by simpa using hj)) (by intro u hu; simp at hu; subst hu; rfl) (by unfold maxLen; omega) (by omega) (Nat.zero_le _)
  have hir : IR t W' v' (xs ++ [x]) := by
    unfold IR
    simpa [ints] using ho
  obtain ⟨a', c', hv⟩ : ∃ a' c', v' = .slice a' (xs.length + 1) c' := by
    rcases hir.sh with ⟨-, q⟩ | ⟨g, c, q, -⟩
    · exact absurd q (by simp)
    · exact ⟨some ⟨g, 0, none⟩, c, by rw [q]; simp⟩
  subst hv
  exact ⟨a', c', W', hrun, hir, hgr, hob⟩
/-- A number, told from the next one down. -/
def wsub (next m : Int) : Int := IntKind.i64.wrap (next - m)
def LsI (X : World) (next : Int) (ms : List Int) (n : Nat) (vv iv : Value) (wr : World) : Prop :=
  ∃ (k : Nat) (v : Value), k ≤ n ∧ v = vv ∧ iv = .int .i64 k ∧ Hid (IR 2 wr v ((ms.take k).map (wsub next)) ∧ Fresh X v ∧ X.grownBy wr none)
theorem IR.rd {t : TypeId} {W : World} {a : Option Addr} {n c : Nat} {xs : List Int} (h : IR t W (.slice a n c) xs) : RdV W a (ints xs) := by
  rcases h.sh with ⟨e1, e2⟩ | ⟨g, c', e1, -⟩
  · subst e2; exact rdv_nil _ _
  · injection e1 with e1 e2 e3
    subst e1
    refine .inr ⟨g, 0, rfl, fun j u hj => ?_⟩
    rw [List.getElem?_map] at hj
    obtain ⟨x, hx, rfl⟩ := Option.map_eq_some_iff.1 hj
    rw [Nat.zero_add]
    exact h.cell j x hx

section
variable {R : Nat → Prop} {lw b q : Nat} {nv zv fv kv va : Value} {l : Lg} {T : List Tr}
/-- What is left behind numbers are told as lost. -/
def Lg.lostBy (l : Lg) (ms : List Int) : Lg := l.left (fun k => decide (k ∈ ms.map (wsub l.ne)))
theorem does_lose (w : World) (h : LW R w lw b q nv zv fv kv va l T) (hT : T.length ≤ 1100000) (hh : Int) (s : St) (fw rv : Value) (n : Int) (ms : List Int) (ma : Option Addr) (mc : Nat) (hm : ms.length ≤ 1100000) (rd : RdV w ma (ints ms)) :
    Calls Tryz.prog 13 #[.pointer (some ⟨lw, 0, none⟩), .agg (opc 3 hh s fw rv (.slice ma ms.length mc) n)] w fun e w' => DoP (fun x => x = l.lostBy ms) R w lw b q nv zv fv kv va l T e w' := by
  obtain ⟨N, hN⟩ : ∃ N, N = ms.length := ⟨_, rfl⟩
  rw [← hN]
  obtain ⟨B, hB⟩ : ∃ B, B = w.alloc (.cells (opc 3 hh s fw rv (.slice ma N mc) n) 50) := ⟨_, rfl⟩
  have gB : w.grownBy B none := by rw [hB]; exact grown_alloc _ _
  have bB : Blk B w.heap.size (opc 3 hh s fw rv (.slice ma N mc) n) 50 := by rw [hB]; exact Blk.new w _ _
  obtain ⟨bs, hbs⟩ : ∃ bs, bs = w.heap.size := ⟨_, rfl⟩
  rw [← hbs] at bB
  have y0 : B.cell? ⟨bs, 0, none⟩ = some (.int .i64 3) := bB.cell 0 _ rfl
  have y11 : B.cell? ⟨bs, 11, none⟩ = some (.slice ma N mc) := bB.cell 11 _ rfl
  have hLB := h.grown gB
  have c4 : B.cell? ⟨lw, 4, none⟩ = some (.int .i64 l.ne) := hLB.ld.cell 4 _ rfl
  have c0 : B.cell? ⟨lw, 0, none⟩ = some (.pointer (some ⟨b, 0, none⟩)) := hLB.ld.cell 0 _ rfl
  have rdB := rd.grown gB
  have far := h.far
  have LAST : Hid (∀ (Z : World) (a : Option Addr) (c : Nat), B.grownBy Z none → IR 2 Z (.slice a N c) (ms.map (wsub l.ne)) → Calls Tryz.prog 17 #[.pointer (some ⟨b, 0, none⟩), .slice a N c] Z fun e w1 => ∃ ov, e = .returned ov ∧ Calls Tryz.prog 39 #[.pointer (some ⟨lw, 0, none⟩), ov, .int .i64 2] w1 fun e w' => DoP (fun x => x = l.lostBy ms) R w lw b q nv zv fv kv va l T e w') := by
    intro Z a c gZ hir
    have e1 : N = (ms.map (wsub l.ne)).length := by rw [List.length_map, hN]
    have hlz := hLB.grown gZ
    rw [e1]
    refine (lose_any b q kv va l R Z (ms.map (wsub l.ne)) a c hlz.lg (by have := h.ok.kl; omega) (by omega) hir.rd).mono ?_
    rintro e w1 ⟨ov, Ro, kv', rfl, p2, p3, p4, p5, p6, p7⟩
    refine ⟨ov, rfl, h.ans (D := fun x => x = l.lostBy ms) _ l rfl rfl h.ok.ac rfl rfl 2 (by decide) hT kv' va ov Ro p5 p2 ?_ p6 (.inl rfl) ?_⟩
    · exact (p7.block lw hlz.ld.lt (fun e => e.elim (fun e => (far lw (.inl e)).1 rfl) (fun e => (far lw (.inr (.inr (.inl e)))).1 rfl))).trans hlz.ld
    · exact (Kp.grown gB _).trans ((Kp.grown gZ _).trans (p7.mono fun x _ e => e.elim (fun e => .inr (.inl e)) (fun e => .inr (.inr (.inr (.inl e))))))
  have HN := hide (And.intro hN hm)
  have RDB := hide rdB
  have LWB := hide (And.intro hLB.ld bB)
  have lenI : ¬ (9223372036854775807 : Int) < (N : Int) := by omega
  have I0 : Hid (IR 2 B (.slice none 0 0) ((ms.take 0).map (wsub l.ne)) ∧ Fresh B (.slice none 0 0) ∧ B.grownBy B none) := ⟨IR.nil _ _, fresh_nil _, grown_self _ _⟩
  obtain ⟨nx, hnx⟩ : ∃ nx, nx = l.ne := ⟨_, rfl⟩
  rw [← hnx] at c4 LAST I0
  have LWB2 : Hid (Blk B lw (ldc b nv zv fv nx l.op) 60) := by show Blk _ _ _ _; rw [hnx]; exact hLB.ld
  clear h gB bB hLB rdB far rd hN hm hnx
  go_enter Tryz.func13, Tryz.ntmps13
  go_upto_region 1 with fail
  rw [← hB, ← hbs]
  replace hB := hide hB
  replace hbs := hide hbs
  go_upto_region 22 with fail
  clear y0
  go_loopw [10, 11] (fun vv iv wr => LsI B nx ms N vv iv wr) (fun _ iv _ => N - (intOf iv).toNat)
  case atStart => exact ⟨0, _, Nat.zero_le _, rfl, rfl, I0⟩
  case round =>
    clear I0
    obtain ⟨k, v, hk, rfl, rfl, I⟩ := hrel
    obtain ⟨hir, hf, gr⟩ := unhide I
    have d11 := cell_grown y11 gr
    have d4 := cell_grown c4 gr
    have d0 := cell_grown c0 gr
    have hl1 : ((ms.take k).map (wsub nx)).length = k := by rw [List.length_map, List.length_take, ← (unhide HN).1]; omega
    obtain ⟨va2, vc2, hva⟩ : ∃ va2 vc2, v = .slice va2 k vc2 := by
      rcases hir.sh with ⟨e1, e2⟩ | ⟨g, c, e1, -⟩
      · refine ⟨none, 0, ?_⟩
        rw [e2] at hl1
        rw [e1, ← hl1]; rfl
      · exact ⟨_, c, by rw [e1, hl1]⟩
    subst hva
    by_cases hlt : k < N
    · have hkI : (k : Int) < (N : Int) := by omega
      have hk0 : (0 : Int) ≤ (k : Int) := by omega
      obtain ⟨m, hx⟩ : ∃ m, ms[k]? = some m := ⟨_, List.getElem?_eq_getElem (by rw [← (unhide HN).1]; exact hlt)⟩
      have hne : ints ms ≠ [] := fun e => by
        have := congrArg List.length e
        rw [List.length_map] at this
        have h2 := (List.getElem?_eq_some_iff.1 hx).1
        simp at this
        rw [this] at h2
        simp at h2
      obtain ⟨gm, off, hma, rdc⟩ := (unhide RDB).resolve_left hne
      subst hma
      have ym : B.cell? ⟨gm, off + k, none⟩ = some (.int .i64 m) := rdc k _ (by rw [List.getElem?_map, hx]; rfl)
      have dm := cell_grown ym gr
      obtain ⟨x, hxx⟩ : ∃ x, x = IntKind.i64.wrap (nx - m) := ⟨_, rfl⟩
      have gA := grown_trans (grown_drew' gr) (grown_alloc wr.drew (.cells #[.int .i64 x] 2))
      have gA0 := grown_trans (grown_drew' (grown_self wr none)) (grown_alloc wr.drew (.cells #[.int .i64 x] 2))
      have bA : Blk (wr.drew.alloc (.cells #[.int .i64 x] 2)) wr.drew.heap.size #[.int .i64 x] 2 := Blk.new _ _ _
      have hl2 : ((ms.take k).map (wsub nx)).length ≤ 100000000 := by
        rw [hl1]
        have h1 := (unhide HN).1
        have h2 := (unhide HN).2
        omega
      obtain ⟨a', c', W', hap, hir', gW, own⟩ := IR.app (sT := 48) Tryz.underlying48 Tryz.infoI64 (hir.grown gA0) x wr.drew.heap.size bA hl2
      rw [hl1] at hap hir' own
      have gBW : B.grownBy W' none := by
        refine ⟨gW.os.trans gA.os, gW.tape.trans gA.tape, gW.output.trans gA.output, Nat.le_trans gA.size gW.size, fun y hy _ => (gW.block y (Nat.lt_of_lt_of_le hy gA.size) (fun e => ?_)).trans (gA.block y hy (by simp))⟩
        have := hf y e.symm
        omega
      have hf' : Fresh B (.slice a' (k + 1) c') := fun y hy => by
        rcases own with q1 | q1
        · rw [q1] at hy; exact hf y hy
        · rw [q1] at hy
          injection hy with hy
          subst hy
          exact gA.size
      have NX : Hid (IR 2 W' (.slice a' (k + 1) c') ((ms.take (k + 1)).map (wsub nx)) ∧ Fresh B (.slice a' (k + 1) c') ∧ B.grownBy W' none) := by
        refine ⟨?_, hf', gBW⟩
        rw [take_at hx, List.map_append]
        rw [hxx] at hir'
        exact hir'
      have q0 : wr.drew.cell? ⟨lw, 4, none⟩ = some (.int .i64 nx) ∧ wr.drew.cell? ⟨bs, 11, none⟩ = some (.slice (some ⟨gm, off, none⟩) N mc) ∧ wr.drew.cell? ⟨gm, off + k, none⟩ = some (.int .i64 m) := ⟨d4, d11, dm⟩
      have qA : (wr.drew.alloc (.cells #[.int .i64 x] 2)).cell? ⟨lw, 4, none⟩ = some (.int .i64 nx) ∧ (wr.drew.alloc (.cells #[.int .i64 x] 2)).cell? ⟨bs, 11, none⟩ = some (.slice (some ⟨gm, off, none⟩) N mc) ∧ (wr.drew.alloc (.cells #[.int .i64 x] 2)).cell? ⟨gm, off + k, none⟩ = some (.int .i64 m) := ⟨cell_grown c4 gA, cell_grown y11 gA, cell_grown ym gA⟩
      have qW : W'.cell? ⟨lw, 4, none⟩ = some (.int .i64 nx) ∧ W'.cell? ⟨bs, 11, none⟩ = some (.slice (some ⟨gm, off, none⟩) N mc) ∧ W'.cell? ⟨gm, off + k, none⟩ = some (.int .i64 m) := ⟨cell_grown c4 gBW, cell_grown y11 gBW, cell_grown ym gBW⟩
      have hsub : IntKind.i64.wrap (nx - m) = x := hxx.symm
      clear hir hf gr hl1 hl2 hne rdc ym dm hxx gA gA0 bA hir' gW own gBW hf' hx I d0
      go_upto_region 24 with fail
      refine wp_region_held_drew (S := fun Z => Z.cell? ⟨lw, 4, none⟩ = some (.int .i64 nx) ∧ Z.cell? ⟨bs, 11, none⟩ = some (.slice (some ⟨gm, off, none⟩) N mc) ∧ Z.cell? ⟨gm, off + k, none⟩ = some (.int .i64 m)) (by kernel_rfl) q0 (fun hHeld => ?_)
      refine wpAnyH_take (i := 0) (v := ?_) rfl (by as_aux_lemma => kernel_rfl) (by as_aux_lemma => kernel_rfl) (by as_aux_lemma => kernel_rfl) (fun _ _ _ h => h) (Or.inl ⟨by rfl, ?_⟩) (by assumption) ?_
      rotate_left
      · intro wH hSw
        try dsimp only at hSw
        obtain ⟨s0q, s1q, s2q⟩ := hSw
        go_simp
        try with_reducible rfl
      try simp only [Act.put, List.setIfInBounds_toArray, List.set_cons_zero, List.set_cons_succ]
      refine wpAnyH_take (i := 1) (v := ?_) rfl (by as_aux_lemma => kernel_rfl) (by as_aux_lemma => kernel_rfl) (by as_aux_lemma => kernel_rfl) (fun _ _ _ h => h) (Or.inl ⟨by rfl, ?_⟩) (by assumption) ?_
      rotate_left
      · intro wH hSw
        try dsimp only at hSw
        obtain ⟨s0q, s1q, s2q⟩ := hSw
        go_simp
        try with_reducible rfl
      try simp only [Act.put, List.setIfInBounds_toArray, List.set_cons_zero, List.set_cons_succ]
      refine wpAnyH_take (i := 2) (v := ?_) rfl (by as_aux_lemma => kernel_rfl) (by as_aux_lemma => kernel_rfl) (by as_aux_lemma => kernel_rfl) (fun _ _ _ h => h) (Or.inl ⟨by rfl, ?_⟩) (by assumption) ?_
      rotate_left
      · intro wH hSw
        try dsimp only at hSw
        obtain ⟨s0q, s1q, s2q⟩ := hSw
        go_simp
        try with_reducible rfl
      try simp only [Act.put, List.setIfInBounds_toArray, List.set_cons_zero, List.set_cons_succ]
      refine wpAnyH_take (i := 3) (v := ?_) rfl (by as_aux_lemma => kernel_rfl) (by as_aux_lemma => kernel_rfl) (by as_aux_lemma => kernel_rfl) (fun _ _ _ h => h) (Or.inl ⟨by rfl, ?_⟩) (by assumption) ?_
      rotate_left
      · intro wH hSw
        try dsimp only at hSw
        obtain ⟨s0q, s1q, s2q⟩ := hSw
        go_simp
        try with_reducible rfl
      try simp only [Act.put, List.setIfInBounds_toArray, List.set_cons_zero, List.set_cons_succ]
      refine wpAnyH_take (i := 4) (v := ?_) rfl (by as_aux_lemma => kernel_rfl) (by as_aux_lemma => kernel_rfl) (by as_aux_lemma => kernel_rfl) (fun _ _ _ h => h) (Or.inl ⟨by rfl, ?_⟩) (by assumption) ?_
      rotate_left
      · intro wH hSw
        try dsimp only at hSw
        obtain ⟨s0q, s1q, s2q⟩ := hSw
        go_simp
        try with_reducible rfl
      try simp only [Act.put, List.setIfInBounds_toArray, List.set_cons_zero, List.set_cons_succ]
      refine wpAnyH_take (i := 5) (v := ?_) rfl (by as_aux_lemma => kernel_rfl) (by as_aux_lemma => kernel_rfl) (by as_aux_lemma => kernel_rfl) (fun _ _ _ h => h) (Or.inl ⟨by rfl, ?_⟩) (by assumption) ?_
      rotate_left
      · intro wH hSw
        try dsimp only at hSw
        obtain ⟨s0q, s1q, s2q⟩ := hSw
        go_simp
        try with_reducible rfl
      try simp only [Act.put, List.setIfInBounds_toArray, List.set_cons_zero, List.set_cons_succ]
      refine wpAnyH_take (i := 6) (v := ?_) rfl (by as_aux_lemma => kernel_rfl) (by as_aux_lemma => kernel_rfl) (by as_aux_lemma => kernel_rfl) (fun _ _ _ h => h) (Or.inl ⟨by rfl, ?_⟩) (by assumption) ?_
      rotate_left
      · intro wH hSw
        try dsimp only at hSw
        obtain ⟨s0q, s1q, s2q⟩ := hSw
        go_simp
        try with_reducible rfl
      try simp only [Act.put, List.setIfInBounds_toArray, List.set_cons_zero, List.set_cons_succ]
      refine wpAnyH_take (i := 7) (v := ?_) rfl (by as_aux_lemma => kernel_rfl) (by as_aux_lemma => kernel_rfl) (by as_aux_lemma => kernel_rfl) (fun _ _ _ h => h) (Or.inl ⟨by rfl, ?_⟩) (by assumption) ?_
      rotate_left
      · intro wH hSw
        try dsimp only at hSw
        obtain ⟨s0q, s1q, s2q⟩ := hSw
        go_simp
        try with_reducible rfl
      try simp only [Act.put, List.setIfInBounds_toArray, List.set_cons_zero, List.set_cons_succ]
      refine wpAnyH_take (i := 8) (v := ?_) rfl (by as_aux_lemma => kernel_rfl) (by as_aux_lemma => kernel_rfl) (by as_aux_lemma => kernel_rfl) (fun _ _ _ h => h) (Or.inl ⟨by rfl, ?_⟩) (by assumption) ?_
      rotate_left
      · intro wH hSw
        try dsimp only at hSw
        obtain ⟨s0q, s1q, s2q⟩ := hSw
        go_simp
        try with_reducible rfl
      try simp only [Act.put, List.setIfInBounds_toArray, List.set_cons_zero, List.set_cons_succ]
      refine wpAnyH_take (i := 9) (v := ?_) rfl (by as_aux_lemma => kernel_rfl) (by as_aux_lemma => kernel_rfl) (by as_aux_lemma => kernel_rfl) (fun _ _ _ h => h) (Or.inl ⟨by rfl, ?_⟩) (by assumption) ?_
      rotate_left
      · intro wH hSw
        try dsimp only at hSw
        obtain ⟨s0q, s1q, s2q⟩ := hSw
        go_simp
        try with_reducible rfl
      try simp only [Act.put, List.setIfInBounds_toArray, List.set_cons_zero, List.set_cons_succ]
      refine wpAnyH_take (i := 10) (v := ?_) rfl (by as_aux_lemma => kernel_rfl) (by as_aux_lemma => kernel_rfl) (by as_aux_lemma => kernel_rfl) (fun _ _ _ h => h) (Or.inl ⟨by rfl, ?_⟩) (by assumption) ?_
      rotate_left
      · intro wH hSw
        try dsimp only at hSw
        obtain ⟨s0q, s1q, s2q⟩ := hSw
        go_simp
        try with_reducible rfl
      try simp only [Act.put, List.setIfInBounds_toArray, List.set_cons_zero, List.set_cons_succ]
      refine wpAnyH_ready (rs := [11]) (by as_aux_lemma => kernel_rfl) (by simp) ?_
      refine AllReadyH.cons rfl (fun KH hKH => ?_) AllReadyH.nil
      go_simp
      refine hKH.out _ _ qA (fun hHeld11 => ?_)
      clear hKH KH
      try simp only [Act.put, List.setIfInBounds_toArray, List.set_cons_zero, List.set_cons_succ]
      refine wpAnyH_ready (rs := [12]) (by as_aux_lemma => kernel_rfl) (by simp) ?_
      refine AllReadyH.cons rfl (fun KH hKH => ?_) AllReadyH.nil
      refine step_append_run rfl (Operand.tmp 115) (Operand.tmp 126) 48 48 rfl (.slice va2 k vc2) (.slice (some ⟨wr.drew.heap.size, 0, none⟩) 1 1) rfl rfl hap ?_
      refine hKH.out _ _ qW (fun hHeld12 => ?_)
      clear hKH KH
      try simp only [Act.put, List.setIfInBounds_toArray, List.set_cons_zero, List.set_cons_succ]
      refine wpAnyH_ready (rs := [13]) (by as_aux_lemma => kernel_rfl) (by simp) ?_
      refine AllReadyH.cons rfl (fun KH hKH => ?_) AllReadyH.nil
      go_simp
      refine hKH.out _ _ qW (fun hHeld13 => ?_)
      clear hKH KH
      try simp only [Act.put, List.setIfInBounds_toArray, List.set_cons_zero, List.set_cons_succ]
      refine wpAnyH_done (by as_aux_lemma => kernel_rfl) ?_ _
      clear q0 qA qW hap
      go_wp2_with fail
      all_goals go_roundw
      case rel => exact ⟨k + 1, _, hlt, rfl, by go_num, NX⟩
      case measure => simp [intOf]; omega
    · obtain rfl : k = N := by omega
      have hkI : ¬ (k : Int) < (k : Int) := by omega
      rw [List.take_of_length_le (by rw [(unhide HN).1]; exact Nat.le_refl _)] at hir
      have hlo := unhide LAST wr va2 vc2 gr hir
      clear hir hf gr hl1 I LAST d4
      go_wp2_with fail
      refine hlo.mono ?_
      rintro e w1 ⟨ov, rfl, ha⟩
      clear hlo
      go_wp2_with fail
      refine ha.mono ?_
      intro e w' hP
      obtain ⟨R', nv', zv', fv', kv', va', l', T', rfl, rest⟩ := hP
      have FIN := hide rest
      clear ha rest
      go_wp2_with fail
      go_ret
      exact ⟨R', nv', zv', fv', kv', va', l', T', rfl, unhide FIN⟩
end
end Go.Proofs.YtnflbefbgcbdfaaGreat

namespace Go.Proofs.YtnflbefbgcbdfaaGreat
open Go.RowKit
set_option linter.unusedVariables false
set_option linter.unusedSimpArgs false
set_option maxRecDepth 100000
set_option maxHeartbeats 1000000

theorem enters_below : Enters Tryz.prog 14 := Go.Proofs.enters_of Tryz.func14 (by kernel_rfl) rfl
theorem enters_ack : Enters Tryz.prog 15 := Go.Proofs.enters_of Tryz.func15 (by kernel_rfl) rfl
section
variable {R : Nat → Prop} {lw b q : Nat} {nv zv fv kv va : Value} {l : Lg} {T : List Tr}
/-- What is known behind the call of Ack in does. -/
def AckD (D : Lg → Prop) (R : Nat → Prop) (w : World) (lw b q : Nat) (nv zv fv kv va : Value) (l : Lg) (T : List Tr) (ov : Value) (er : Int) (w1 : World) : Prop :=
  (er ≠ 0 ∧ ov = .slice none 0 0 ∧ DoP D R w lw b q nv zv fv kv va l T (.returned (.bool true)) w1) ∨ (er = 0 ∧ Calls Tryz.prog 39 #[.pointer (some ⟨lw, 0, none⟩), ov, .int .i64 1] w1 fun e w' => DoP D R w lw b q nv zv fv kv va l T e w')
theorem AckD.drew {D : Lg → Prop} {w w1 : World} {ov : Value} {er : Int} (h : AckD D R w lw b q nv zv fv kv va l T ov er w1) : (er ≠ 0 ∧ ov = .slice none 0 0) ∨ er = 0 := by
  rcases h with h | h
  · exact .inl ⟨h.1, h.2.1⟩
  · exact .inr h.1

/-- What runs that are told leave. -/
def Lg.ackR (l : Lg) (rs : List Sp) (x : Lg) : Prop := if l.mayAck (rs.map (belowF l.ne)) = 0 then ∃ P : List Sp, P.Perm (rs.map (belowF l.ne)) ∧ x = (l.ackd (rs.map (belowF l.ne))).left (fun k => memB k (putL [] P)) else x = l
theorem does_ack (w : World) (h : LW R w lw b q nv zv fv kv va l T) (hT : T.length ≤ 1100000) (hB62 : l.ne ≤ 4611686018427387904) (hh : Int) (s : St) (fw mv : Value) (n : Int) (rs : List Sp) (ra : Option Addr) (rc : Nat) (hr : rs.length ≤ 1100000) (rd : RdS w ra rs) :
    Calls Tryz.prog 13 #[.pointer (some ⟨lw, 0, none⟩), .agg (opc 2 hh s fw (.slice ra rs.length rc) mv n)] w fun e w' => DoP (l.ackR rs) R w lw b q nv zv fv kv va l T e w' := by
  obtain ⟨N, hN⟩ : ∃ N, N = rs.length := ⟨_, rfl⟩
  rw [← hN]
  obtain ⟨B, hB⟩ : ∃ B, B = w.alloc (.cells (opc 2 hh s fw (.slice ra N rc) mv n) 50) := ⟨_, rfl⟩
  have gB : w.grownBy B none := by rw [hB]; exact grown_alloc _ _
  have bB : Blk B w.heap.size (opc 2 hh s fw (.slice ra N rc) mv n) 50 := by rw [hB]; exact Blk.new w _ _
  obtain ⟨bs, hbs⟩ : ∃ bs, bs = w.heap.size := ⟨_, rfl⟩
  rw [← hbs] at bB
  have y0 : B.cell? ⟨bs, 0, none⟩ = some (.int .i64 2) := bB.cell 0 _ rfl
  have hLB := h.grown gB
  have far := h.far
  have rdB : RdS B.drew ra rs := by
    rcases rd with h0 | ⟨g, off, e, hc⟩
    · exact .inl h0
    · exact .inr ⟨g, off, e, fun i r hi => ⟨cell_grown (hc i r hi).1 (grown_drew' gB), cell_grown (hc i r hi).2 (grown_drew' gB)⟩⟩
  have hbel := below_any l.ne ra N rc rs B.drew hN (by omega) rdB
  have q0 : B.drew.cell? ⟨lw, 0, none⟩ = some (.pointer (some ⟨b, 0, none⟩)) ∧ B.drew.cell? ⟨lw, 4, none⟩ = some (.int .i64 l.ne) ∧ B.drew.cell? ⟨bs, 10, none⟩ = some (.slice ra N rc) := ⟨hLB.ld.cell 0 _ rfl, hLB.ld.cell 4 _ rfl, bB.cell 10 _ rfl⟩
  have ACK : Hid (∀ (Y : World) (v : Value), B.drew.grownBy Y none → Row Y v (rs.map (belowF l.ne)) → Fresh B.drew v → Y.cell? ⟨lw, 0, none⟩ = some (.pointer (some ⟨b, 0, none⟩)) ∧ Y.cell? ⟨lw, 4, none⟩ = some (.int .i64 l.ne) ∧ Y.cell? ⟨bs, 10, none⟩ = some (.slice ra N rc) ∧ Calls Tryz.prog 15 #[.pointer (some ⟨b, 0, none⟩), v] Y fun e w1 => ∃ oa on oc er, e = .returned (.tuple #[.slice oa on oc, .int .i64 er]) ∧ (w1.cell? ⟨lw, 0, none⟩ = some (.pointer (some ⟨b, 0, none⟩)) ∧ w1.cell? ⟨lw, 4, none⟩ = some (.int .i64 l.ne) ∧ w1.cell? ⟨bs, 10, none⟩ = some (.slice ra N rc)) ∧ Hid (AckD (l.ackR rs) R w lw b q nv zv fv kv va l T (.slice oa on oc) er w1)) := by
    intro Y v gY hrow hfr
    have hlY := (hLB.grown (grown_drew' (grown_self B none))).grown gY
    have bY : Blk Y bs (opc 2 hh s fw (.slice ra N rc) mv n) 50 := bB.drew.grown gY
    have gwY : w.grownBy Y none := grown_trans (grown_drew' gB) gY
    refine ⟨hlY.ld.cell 0 _ rfl, hlY.ld.cell 4 _ rfl, bY.cell 10 _ rfl, ?_⟩
    have hll : (rs.map (belowF l.ne)).length ≤ 1100000 := by rw [List.length_map]; exact hr
    by_cases hm : l.mayAck (rs.map (belowF l.ne)) = 0
    · have hsB : w.heap.size ≤ B.drew.heap.size := gB.size
      have hvb : ∀ g, v.ownBlock = some g → g ≠ b ∧ g ≠ q ∧ va.ownBlock ≠ some g := fun g e => by
        have h1 := hfr g e
        have hq : Blk w q _ 116 := h.lg.set.blk
        refine ⟨by have := h.lg.blk.lt; omega, by have := hq.lt; omega, fun e2 => by have := row_lt h.lg.set.row g e2; omega⟩
      refine (ack_ok b q kv va l R Y v _ hlY.lg hrow hvb hll hm h.ok.ac hB62 (by have := h.ok.kl; omega)).mono ?_
      rintro e w1 ⟨P, ov, Ro, kv', va', hP, rfl, p2, p3, p4, p5, p6, p7, p8⟩
      obtain ⟨oa, on, oc, hov⟩ : ∃ oa on oc, ov = .slice oa on oc := by
        rcases p2.sh with ⟨e1, -⟩ | ⟨g, c, e1, -⟩
        · exact ⟨_, _, _, e1⟩
        · exact ⟨_, _, _, e1⟩
      subst hov
      have lwk : w1.heap[lw]? = Y.heap[lw]? := p8.block lw hlY.ld.lt (fun e => (far lw (by
        rcases e with e | e | e | e
        · exact .inl e
        · exact .inr (.inl e)
        · exact .inr (.inr (.inl e))
        · exact .inr (.inr (.inr e)))).1 rfl)
      have ld1 : Blk w1 lw (ldc b nv zv fv l.ne l.op) 60 := lwk.trans hlY.ld
      have bs1 : Blk w1 bs (opc 2 hh s fw (.slice ra N rc) mv n) 50 := (p8.block bs bY.lt (fun e => by
        have hq : Blk w q _ 116 := h.lg.set.blk
        rcases e with e | e | e | e
        · have := h.lg.blk.lt; omega
        · have := hq.lt; omega
        · have := h.lg.row.lt bs e; omega
        · have := row_lt h.lg.set.row bs e; omega)).trans bY
      refine ⟨oa, on, oc, 0, rfl, ⟨ld1.cell 0 _ rfl, ld1.cell 4 _ rfl, bs1.cell 10 _ rfl⟩, .inr ⟨rfl, ?_⟩⟩
      obtain ⟨hop, hz⟩ := mayAck_zero hm
      refine h.ans (D := l.ackR rs) (fun k => memB k (putL [] P)) (l.ackd (rs.map (belowF l.ne))) rfl rfl (h.ok.ac.fold fun r hr2 => by have := hz r hr2; omega) rfl (by unfold Lg.ackR; rw [if_pos hm]; exact ⟨P, hP, rfl⟩) 1 (by decide) hT kv' va' (.slice oa on oc) Ro p5 p2 ld1 p6 ?_ ?_
      · exact p7.imp id (fun f g e => Nat.le_trans gwY.size (f g e))
      · exact (Kp.grown gwY _).trans (p8.mono fun x _ e => .inr e)
    · refine (ack_bad b q kv va l R Y v _ hlY.lg hrow hll hm).mono ?_
      rintro e w1 ⟨rfl, g1⟩
      have hl1 := hlY.grown g1
      have b1 := bY.grown g1
      refine ⟨none, 0, 0, _, rfl, ⟨hl1.ld.cell 0 _ rfl, hl1.ld.cell 4 _ rfl, b1.cell 10 _ rfl⟩, .inl ⟨hm, rfl, ?_⟩⟩
      exact DoP.same (D := l.ackR rs) h (grown_trans gwY g1) (by unfold Lg.ackR; rw [if_neg hm])
  obtain ⟨nx, hnx⟩ : ∃ nx, nx = l.ne := ⟨_, rfl⟩
  rw [← hnx] at ACK hbel q0
  clear h gB bB hLB far rdB hN hnx rd
  go_enter Tryz.func13, Tryz.ntmps13
  go_upto_region 1 with fail
  rw [← hB, ← hbs]
  replace hB := hide hB
  replace hbs := hide hbs
  go_upto_region 15 with fail
  clear y0
  refine wp_region_held_drew (S := fun Z => Z.cell? ⟨lw, 0, none⟩ = some (.pointer (some ⟨b, 0, none⟩)) ∧ Z.cell? ⟨lw, 4, none⟩ = some (.int .i64 nx) ∧ Z.cell? ⟨bs, 10, none⟩ = some (.slice ra N rc)) (by kernel_rfl) q0 (fun hHeld => ?_)
  refine wpAnyH_take (i := 0) (v := ?_) rfl (by as_aux_lemma => kernel_rfl) (by as_aux_lemma => kernel_rfl) (by as_aux_lemma => kernel_rfl) (fun _ _ _ h => h) (Or.inl ⟨by rfl, ?_⟩) (by assumption) ?_
  rotate_left
  · intro wH hSw
    try dsimp only at hSw
    obtain ⟨s0q, s1q, s2q⟩ := hSw
    go_simp
    try with_reducible rfl
  try simp only [Act.put, List.setIfInBounds_toArray, List.set_cons_zero, List.set_cons_succ]
  refine wpAnyH_take (i := 1) (v := ?_) rfl (by as_aux_lemma => kernel_rfl) (by as_aux_lemma => kernel_rfl) (by as_aux_lemma => kernel_rfl) (fun _ _ _ h => h) (Or.inl ⟨by rfl, ?_⟩) (by assumption) ?_
  rotate_left
  · intro wH hSw
    try dsimp only at hSw
    obtain ⟨s0q, s1q, s2q⟩ := hSw
    go_simp
    try with_reducible rfl
  try simp only [Act.put, List.setIfInBounds_toArray, List.set_cons_zero, List.set_cons_succ]
  refine wpAnyH_take (i := 2) (v := ?_) rfl (by as_aux_lemma => kernel_rfl) (by as_aux_lemma => kernel_rfl) (by as_aux_lemma => kernel_rfl) (fun _ _ _ h => h) (Or.inl ⟨by rfl, ?_⟩) (by assumption) ?_
  rotate_left
  · intro wH hSw
    try dsimp only at hSw
    obtain ⟨s0q, s1q, s2q⟩ := hSw
    go_simp
    try with_reducible rfl
  try simp only [Act.put, List.setIfInBounds_toArray, List.set_cons_zero, List.set_cons_succ]
  refine wpAnyH_take (i := 3) (v := ?_) rfl (by as_aux_lemma => kernel_rfl) (by as_aux_lemma => kernel_rfl) (by as_aux_lemma => kernel_rfl) (fun _ _ _ h => h) (Or.inl ⟨by rfl, ?_⟩) (by assumption) ?_
  rotate_left
  · intro wH hSw
    try dsimp only at hSw
    obtain ⟨s0q, s1q, s2q⟩ := hSw
    go_simp
    try with_reducible rfl
  try simp only [Act.put, List.setIfInBounds_toArray, List.set_cons_zero, List.set_cons_succ]
  refine wpAnyH_take (i := 4) (v := ?_) rfl (by as_aux_lemma => kernel_rfl) (by as_aux_lemma => kernel_rfl) (by as_aux_lemma => kernel_rfl) (fun _ _ _ h => h) (Or.inl ⟨by rfl, ?_⟩) (by assumption) ?_
  rotate_left
  · intro wH hSw
    try dsimp only at hSw
    obtain ⟨s0q, s1q, s2q⟩ := hSw
    go_simp
    try with_reducible rfl
  try simp only [Act.put, List.setIfInBounds_toArray, List.set_cons_zero, List.set_cons_succ]
  refine wpAnyH_take (i := 5) (v := ?_) rfl (by as_aux_lemma => kernel_rfl) (by as_aux_lemma => kernel_rfl) (by as_aux_lemma => kernel_rfl) (fun _ _ _ h => h) (Or.inl ⟨by rfl, ?_⟩) (by assumption) ?_
  rotate_left
  · intro wH hSw
    try dsimp only at hSw
    obtain ⟨s0q, s1q, s2q⟩ := hSw
    go_simp
    try with_reducible rfl
  try simp only [Act.put, List.setIfInBounds_toArray, List.set_cons_zero, List.set_cons_succ]
  refine wpAnyH_take (i := 6) (v := ?_) rfl (by as_aux_lemma => kernel_rfl) (by as_aux_lemma => kernel_rfl) (by as_aux_lemma => kernel_rfl) (fun _ _ _ h => h) (Or.inl ⟨by rfl, ?_⟩) (by assumption) ?_
  rotate_left
  · intro wH hSw
    try dsimp only at hSw
    obtain ⟨s0q, s1q, s2q⟩ := hSw
    go_simp
    try with_reducible rfl
  try simp only [Act.put, List.setIfInBounds_toArray, List.set_cons_zero, List.set_cons_succ]
  refine wpAnyH_take (i := 7) (v := ?_) rfl (by as_aux_lemma => kernel_rfl) (by as_aux_lemma => kernel_rfl) (by as_aux_lemma => kernel_rfl) (fun _ _ _ h => h) (Or.inl ⟨by rfl, ?_⟩) (by assumption) ?_
  rotate_left
  · intro wH hSw
    try dsimp only at hSw
    obtain ⟨s0q, s1q, s2q⟩ := hSw
    go_simp
    try with_reducible rfl
  try simp only [Act.put, List.setIfInBounds_toArray, List.set_cons_zero, List.set_cons_succ]
  refine wpAnyH_take (i := 8) (v := ?_) rfl (by as_aux_lemma => kernel_rfl) (by as_aux_lemma => kernel_rfl) (by as_aux_lemma => kernel_rfl) (fun _ _ _ h => h) (Or.inl ⟨by rfl, ?_⟩) (by assumption) ?_
  rotate_left
  · intro wH hSw
    try dsimp only at hSw
    obtain ⟨s0q, s1q, s2q⟩ := hSw
    go_simp
    try with_reducible rfl
  try simp only [Act.put, List.setIfInBounds_toArray, List.set_cons_zero, List.set_cons_succ]
  refine wpAnyH_take (i := 9) (v := ?_) rfl (by as_aux_lemma => kernel_rfl) (by as_aux_lemma => kernel_rfl) (by as_aux_lemma => kernel_rfl) (fun _ _ _ h => h) (Or.inl ⟨by rfl, ?_⟩) (by assumption) ?_
  rotate_left
  · intro wH hSw
    try dsimp only at hSw
    obtain ⟨s0q, s1q, s2q⟩ := hSw
    go_simp
    try with_reducible rfl
  try simp only [Act.put, List.setIfInBounds_toArray, List.set_cons_zero, List.set_cons_succ]
  refine wpAnyH_ready (rs := [10]) (by as_aux_lemma => kernel_rfl) (by simp) ?_
  refine AllReadyH.cons rfl (fun KH hKH => ?_) AllReadyH.nil
  (refine step_call (by rfl) 14 #[.int .i64 nx, .slice ra N rc] enters_below #[Operand.tmp 91, Operand.tmp 93] #[2, 47] (by rfl) (by simp [Act.eval]) hbel ?_; rintro e Y ⟨v, rfl, hrow, hfr, gY⟩; refine ⟨_, rfl, ?_⟩; obtain ⟨qa, qb, qc, hack⟩ := unhide ACK Y v gY hrow hfr; have qY : Y.cell? ⟨lw, 0, none⟩ = some (.pointer (some ⟨b, 0, none⟩)) ∧ Y.cell? ⟨lw, 4, none⟩ = some (.int .i64 nx) ∧ Y.cell? ⟨bs, 10, none⟩ = some (.slice ra N rc) := ⟨qa, qb, qc⟩; clear qa qb qc hrow hfr gY)
  refine hKH.out _ _ qY (fun hHeld10 => ?_)
  clear hKH KH
  try simp only [Act.put, List.setIfInBounds_toArray, List.set_cons_zero, List.set_cons_succ]
  refine wpAnyH_ready (rs := [11]) (by as_aux_lemma => kernel_rfl) (by simp) ?_
  refine AllReadyH.cons rfl (fun KH hKH => ?_) AllReadyH.nil
  (refine step_call (by rfl) 15 #[.pointer (some ⟨b, 0, none⟩), v] enters_ack #[Operand.tmp 87, Operand.tmp 94] #[25, 47] (by rfl) (by simp [Act.eval]) hack ?_; rintro e w1 ⟨oa, on, oc, er, rfl, qV, D⟩; refine ⟨_, rfl, ?_⟩)
  refine hKH.out _ _ qV (fun hHeld11 => ?_)
  clear hKH KH
  try simp only [Act.put, List.setIfInBounds_toArray, List.set_cons_zero, List.set_cons_succ]
  refine wpAnyH_ready (rs := [12]) (by as_aux_lemma => kernel_rfl) (by simp) ?_
  refine AllReadyH.cons rfl (fun KH hKH => ?_) AllReadyH.nil
  go_simp
  refine hKH.out _ _ qV (fun hHeld12 => ?_)
  clear hKH KH
  try simp only [Act.put, List.setIfInBounds_toArray, List.set_cons_zero, List.set_cons_succ]
  refine wpAnyH_ready (rs := [13, 14]) (by as_aux_lemma => kernel_rfl) (by simp) ?_
  refine AllReadyH.cons rfl (fun KH hKH => ?_) (AllReadyH.cons rfl (fun KH hKH => ?_) AllReadyH.nil)
  · go_simp
    refine hKH.out _ _ qV (fun hHeld13 => ?_)
    clear hKH KH
    try simp only [Act.put, List.setIfInBounds_toArray, List.set_cons_zero, List.set_cons_succ]
    refine wpAnyH_ready (rs := [14, 15]) (by as_aux_lemma => kernel_rfl) (by simp) ?_
    refine AllReadyH.cons rfl (fun KH hKH => ?_) (AllReadyH.cons rfl (fun KH hKH => ?_) AllReadyH.nil)
    · go_simp
      refine hKH.out _ _ qV (fun hHeld14 => ?_)
      clear hKH KH
      try simp only [Act.put, List.setIfInBounds_toArray, List.set_cons_zero, List.set_cons_succ]
      refine wpAnyH_ready (rs := [15]) (by as_aux_lemma => kernel_rfl) (by simp) ?_
      refine AllReadyH.cons rfl (fun KH hKH => ?_) AllReadyH.nil
      go_simp
      refine hKH.out _ _ qV (fun hHeld15 => ?_)
      clear hKH KH
      try simp only [Act.put, List.setIfInBounds_toArray, List.set_cons_zero, List.set_cons_succ]
      refine wpAnyH_ready (rs := [16]) (by as_aux_lemma => kernel_rfl) (by simp) ?_
      refine AllReadyH.cons rfl (fun KH hKH => ?_) AllReadyH.nil
      go_simp
      refine hKH.out _ _ qV (fun hHeld16 => ?_)
      clear hKH KH
      try simp only [Act.put, List.setIfInBounds_toArray, List.set_cons_zero, List.set_cons_succ]
      refine wpAnyH_done (by as_aux_lemma => kernel_rfl) ?_ _
      clear q0 qY qV hbel hack ACK
      rcases (unhide D).drew with ⟨her, hov⟩ | her
      · injection hov with h1 h2 h3
        subst h1
        subst h2
        subst h3
        go_wp2_with fail
        all_goals go_ret
        all_goals
          rcases unhide D with ⟨-, -, hD⟩ | ⟨e0, -⟩
          · exact hD
          · exact absurd e0 her
      · subst her
        have ha : Calls Tryz.prog 39 #[.pointer (some ⟨lw, 0, none⟩), .slice oa on oc, .int .i64 1] w1 fun e w' => DoP (l.ackR rs) R w lw b q nv zv fv kv va l T e w' := by
          rcases unhide D with ⟨e0, -⟩ | ⟨-, hc⟩
          · exact absurd rfl e0
          · exact hc
        clear D
        go_wp2_with fail
        refine ha.mono ?_
        intro e w' hP
        obtain ⟨R', nv', zv', fv', kv', va', l', T', rfl, rest⟩ := hP
        have FIN := hide rest
        clear ha rest
        go_wp2_with fail
        go_ret
        exact ⟨R', nv', zv', fv', kv', va', l', T', rfl, unhide FIN⟩
    · go_simp
      refine hKH.out _ _ qV (fun hHeld15 => ?_)
      clear hKH KH
      try simp only [Act.put, List.setIfInBounds_toArray, List.set_cons_zero, List.set_cons_succ]
      refine wpAnyH_ready (rs := [14]) (by as_aux_lemma => kernel_rfl) (by simp) ?_
      refine AllReadyH.cons rfl (fun KH hKH => ?_) AllReadyH.nil
      go_simp
      refine hKH.out _ _ qV (fun hHeld14 => ?_)
      clear hKH KH
      try simp only [Act.put, List.setIfInBounds_toArray, List.set_cons_zero, List.set_cons_succ]
      refine wpAnyH_ready (rs := [16]) (by as_aux_lemma => kernel_rfl) (by simp) ?_
      refine AllReadyH.cons rfl (fun KH hKH => ?_) AllReadyH.nil
      go_simp
      refine hKH.out _ _ qV (fun hHeld16 => ?_)
      clear hKH KH
      try simp only [Act.put, List.setIfInBounds_toArray, List.set_cons_zero, List.set_cons_succ]
      refine wpAnyH_done (by as_aux_lemma => kernel_rfl) ?_ _
      clear q0 qY qV hbel hack ACK
      rcases (unhide D).drew with ⟨her, hov⟩ | her
      · injection hov with h1 h2 h3
        subst h1
        subst h2
        subst h3
        go_wp2_with fail
        all_goals go_ret
        all_goals
          rcases unhide D with ⟨-, -, hD⟩ | ⟨e0, -⟩
          · exact hD
          · exact absurd e0 her
      · subst her
        have ha : Calls Tryz.prog 39 #[.pointer (some ⟨lw, 0, none⟩), .slice oa on oc, .int .i64 1] w1 fun e w' => DoP (l.ackR rs) R w lw b q nv zv fv kv va l T e w' := by
          rcases unhide D with ⟨e0, -⟩ | ⟨-, hc⟩
          · exact absurd rfl e0
          · exact hc
        clear D
        go_wp2_with fail
        refine ha.mono ?_
        intro e w' hP
        obtain ⟨R', nv', zv', fv', kv', va', l', T', rfl, rest⟩ := hP
        have FIN := hide rest
        clear ha rest
        go_wp2_with fail
        go_ret
        exact ⟨R', nv', zv', fv', kv', va', l', T', rfl, unhide FIN⟩
  · go_simp
    refine hKH.out _ _ qV (fun hHeld14 => ?_)
    clear hKH KH
    try simp only [Act.put, List.setIfInBounds_toArray, List.set_cons_zero, List.set_cons_succ]
    refine wpAnyH_ready (rs := [13]) (by as_aux_lemma => kernel_rfl) (by simp) ?_
    refine AllReadyH.cons rfl (fun KH hKH => ?_) AllReadyH.nil
    go_simp
    refine hKH.out _ _ qV (fun hHeld13 => ?_)
    clear hKH KH
    try simp only [Act.put, List.setIfInBounds_toArray, List.set_cons_zero, List.set_cons_succ]
    refine wpAnyH_ready (rs := [15]) (by as_aux_lemma => kernel_rfl) (by simp) ?_
    refine AllReadyH.cons rfl (fun KH hKH => ?_) AllReadyH.nil
    go_simp
    refine hKH.out _ _ qV (fun hHeld15 => ?_)
    clear hKH KH
    try simp only [Act.put, List.setIfInBounds_toArray, List.set_cons_zero, List.set_cons_succ]
    refine wpAnyH_ready (rs := [16]) (by as_aux_lemma => kernel_rfl) (by simp) ?_
    refine AllReadyH.cons rfl (fun KH hKH => ?_) AllReadyH.nil
    go_simp
    refine hKH.out _ _ qV (fun hHeld16 => ?_)
    clear hKH KH
    try simp only [Act.put, List.setIfInBounds_toArray, List.set_cons_zero, List.set_cons_succ]
    refine wpAnyH_done (by as_aux_lemma => kernel_rfl) ?_ _
    clear q0 qY qV hbel hack ACK
    rcases (unhide D).drew with ⟨her, hov⟩ | her
    · injection hov with h1 h2 h3
      subst h1
      subst h2
      subst h3
      go_wp2_with fail
      all_goals go_ret
      all_goals
        rcases unhide D with ⟨-, -, hD⟩ | ⟨e0, -⟩
        · exact hD
        · exact absurd e0 her
    · subst her
      have ha : Calls Tryz.prog 39 #[.pointer (some ⟨lw, 0, none⟩), .slice oa on oc, .int .i64 1] w1 fun e w' => DoP (l.ackR rs) R w lw b q nv zv fv kv va l T e w' := by
        rcases unhide D with ⟨e0, -⟩ | ⟨-, hc⟩
        · exact absurd rfl e0
        · exact hc
      clear D
      go_wp2_with fail
      refine ha.mono ?_
      intro e w' hP
      obtain ⟨R', nv', zv', fv', kv', va', l', T', rfl, rest⟩ := hP
      have FIN := hide rest
      clear ha rest
      go_wp2_with fail
      go_ret
      exact ⟨R', nv', zv', fv', kv', va', l', T', rfl, unhide FIN⟩
end
end Go.Proofs.YtnflbefbgcbdfaaGreat
