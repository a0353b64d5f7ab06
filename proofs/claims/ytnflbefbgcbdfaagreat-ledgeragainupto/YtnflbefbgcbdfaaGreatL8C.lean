/- L0K, L0L, L0M, L0N, one text. -/
import Derived.Test.YtnflbefbgcbdfaaGreatL8B
namespace Go.Proofs.YtnflbefbgcbdfaaGreat
open Go.RowKit
set_option linter.unusedVariables false
set_option linter.unusedSimpArgs false
set_option maxRecDepth 100000
set_option maxHeartbeats 1000000

theorem ans_core {R1 : Nat → Prop} {w1 : World} {lw b q : Nat} {nv zv fv kv1 va1 ov : Value} {l1 : Lg} {T1 : List Tr} (M : Int → Bool) (f : Int) (hf : f ≠ 0) (Ro : Nat → Prop)
    (hld : Blk w1 lw (ldc b nv zv fv l1.ne l1.op) 60) (n1 : IR 2 w1 nv (nsT T1)) (z1 : IR 2 w1 zv (zsT T1)) (f1 : IR 3 w1 fv (ftT T1)) (nz : ∀ g, nv.ownBlock = some g → zv.ownBlock ≠ some g) (ro : ∀ g, R1 g → g ≠ lw ∧ nv.ownBlock ≠ some g ∧ zv.ownBlock ≠ some g ∧ fv.ownBlock ≠ some g) (on1 : OnT l1 T1) (hac : AcOk l1.ac) (hne : 0 ≤ l1.ne) (hlg : LgAt R1 w1 b q kv1 va1 (l1.left M)) (ho : KvAt Ro w1 ov (l1.ks.filter (fun s => M s.nu))) (hT : T1.length ≤ 1100000) (hk2 : l1.ks.length ≤ 1000) (hk : (l1.left M).ks.length ≤ 256) (hsi : ∀ s ∈ l1.ks, 0 ≤ s.si ∧ s.si ≤ 65535) :
    Calls Tryz.prog 39 #[.pointer (some ⟨lw, 0, none⟩), ov, .int .i64 f] w1 fun e w2 => e = .returned (.bool true) ∧ LW R1 w2 lw b q nv zv fv kv1 va1 (l1.left M) (fateT f ((l1.ks.filter (fun s => M s.nu)).map St.nu) T1) ∧ w1.grownBy w2 fv.ownBlock := by
  have rows : ∀ x, fv.ownBlock = some x → x ≠ lw ∧ nv.ownBlock ≠ some x ∧ zv.ownBlock ≠ some x := fun x e => by
    obtain ⟨c1, h1⟩ := f1.ty x e
    refine ⟨ty_ne h1 hld (by decide), fun e => ?_, fun e => ?_⟩
    · obtain ⟨c2, h2⟩ := n1.ty x e; exact ty_ne h1 h2 (by decide) rfl
    · obtain ⟨c2, h2⟩ := z1.ty x e; exact ty_ne h1 h2 (by decide) rfl
  have hfo := on1.fok M f
  have hlo : (l1.ks.filter (fun s => M s.nu)).length ≤ 1100000 := by
    have h1 := List.length_filter_le (fun s : St => M s.nu) l1.ks
    omega
  refine (fates_any lw b nv zv fv ov l1.ne l1.op (nsT T1) (zsT T1) (ftT T1) f _ Ro w1 hld n1 z1 f1 ho hfo (by simpa [nsT] using hT) hlo).mono ?_
  rintro e w2 ⟨rfl, f2, g2⟩
  rw [fateF_T] at f2
  have on2 := on1.left M hf
  have g2b : ∀ x, x < w1.heap.size → fv.ownBlock ≠ some x → w2.heap[x]? = w1.heap[x]? := fun x hx hn => g2.block x hx (fun e => hn e.symm)
  refine ⟨rfl, ⟨?_, ?_, ?_, f2, ?_, nz, ro, ⟨on2, hac, hne, hk, ?_⟩⟩, g2⟩
  · exact (g2b lw hld.lt (fun e => (rows lw e).1 rfl)).trans hld
  · rw [nsT_fate]
    exact n1.kept fun x e => g2b x (n1.lt x e) (fun e2 => (rows x e2).2.1 e)
  · rw [zsT_fate]
    exact z1.kept fun x e => g2b x (z1.lt x e) (fun e2 => (rows x e2).2.2 e)
  · refine hlg.kept (S := fun x => fv.ownBlock = some x) ⟨g2.os, g2.tape, g2.output, g2.size, fun x hx hn => g2b x hx hn⟩ fun x e => ?_
    have tyb : x ≠ b ∧ x ≠ q ∧ kv1.ownBlock ≠ some x ∧ va1.ownBlock ≠ some x := by
      obtain ⟨c1, hc1⟩ := f1.ty x e
      refine ⟨ty_ne hc1 hlg.blk (by decide), ?_, fun e2 => ?_, fun e2 => ?_⟩
      · have hq : Blk w1 q _ 116 := hlg.set.blk
        exact ty_ne hc1 hq (by decide)
      · obtain ⟨c2, hc2⟩ := hlg.row.ty x e2; exact ty_ne hc1 hc2 (by decide) rfl
      · obtain ⟨c2, hc2⟩ := row_ty hlg.set.row x e2; exact ty_ne hc1 hc2 (by decide) rfl
    exact ⟨fun hr => (ro x hr).2.2.2 e, tyb⟩
  · intro s hs
    have hs2 : s ∈ l1.ks.filter (fun s => !M s.nu) := hs
    exact hsi s (List.mem_filter.1 hs2).1

/-- A number is put to a list that hangs on a load. -/
theorem push_ir {t sT : TypeId} (hu : Tryz.prog.underlying sT = some (.slice t)) (hinfo : (Tryz.prog.info? t).map (fun i => (i.zero, i.size, i.bytes)) = some (some (.int .i64 0), 1, 8)) (ht : t ≠ 60) {V X : World} (gX : V.grownBy X none) {lw : Nat} {cs : Array Value} {v : Value} {xs : List Int} (hb : Blk V lw cs 60) (h : IR t V v xs) (x : Int) (j : Nat) (hl : xs.length ≤ 100000000) :
    ∃ a' c' W', (Builtin.append_ #[sT, sT] sT #[v, .slice (some ⟨X.heap.size, 0, none⟩) 1 1]).run Tryz.prog (X.alloc (.cells #[.int .i64 x] t)) = .ok (.slice a' (xs.length + 1) c') W' ∧ Blk W' lw cs 60 ∧
      IR t (W'.setCell ⟨lw, j, none⟩ (.slice a' (xs.length + 1) c')) (.slice a' (xs.length + 1) c') (xs ++ [x]) ∧ Blk (W'.setCell ⟨lw, j, none⟩ (.slice a' (xs.length + 1) c')) lw (cs.setIfInBounds j (.slice a' (xs.length + 1) c')) 60 ∧ Kp (fun y => y = lw ∨ v.ownBlock = some y) V (W'.setCell ⟨lw, j, none⟩ (.slice a' (xs.length + 1) c')) ∧ ((Value.slice a' (xs.length + 1) c').ownBlock = v.ownBlock ∨ ∀ g, (Value.slice a' (xs.length + 1) c').ownBlock = some g → V.heap.size ≤ g) := by
  have gA := grown_trans gX (grown_alloc X (.cells #[.int .i64 x] t))
  have bA : Blk (X.alloc (.cells #[.int .i64 x] t)) X.heap.size #[.int .i64 x] t := Blk.new _ _ _
  obtain ⟨a', c', W', hap, hir, gW, own⟩ := IR.app hu hinfo (h.grown gA) x X.heap.size bA hl
  have vlw : v.ownBlock ≠ some lw := fun e => by obtain ⟨c1, h1⟩ := h.ty lw e; exact ty_ne h1 hb ht rfl
  have bW : Blk W' lw cs 60 := (gW.block lw (hb.grown gA).lt (fun e => vlw e.symm)).trans (hb.grown gA)
  have vl2 : (Value.slice a' (xs.length + 1) c').ownBlock ≠ some lw := fun e => by
    obtain ⟨c1, h1⟩ := hir.ty lw e
    exact ty_ne h1 bW ht rfl
  refine ⟨a', c', W', hap, bW, hir.kept fun g e => set_heap _ _ _ _ _ (fun e2 => vl2 (e2 ▸ e)), bW.setC j _, ?_, ?_⟩
  · exact Kp.set ((Kp.grown gA _).trans ⟨gW.os, gW.tape, gW.output, gW.size, fun g hg hn => gW.block g hg (fun e => hn (.inr e.symm))⟩) lw j _ (fun _ => .inl rfl)
  · rcases own with q1 | q1
    · exact .inl q1
    · refine .inr fun g e => ?_
      rw [q1] at e
      injection e with e
      subst e
      exact gA.size
theorem enters_ladd : Enters Tryz.prog 18 := Go.Proofs.enters_of Tryz.func18 (by kernel_rfl) rfl
theorem over_len {l : Lg} (h : l.ks.length ≤ 257) : (l.left l.over).ks.length ≤ 256 := by
  show (l.ks.filter _).length ≤ 256
  by_cases h1 : l.ks.length ≤ 256
  · have := List.length_filter_le (fun s : St => !l.over s.nu) l.ks
    omega
  · obtain ⟨s, hs⟩ : ∃ s, l.ks[0]? = some s := ⟨_, List.getElem?_eq_getElem (by omega)⟩
    rw [over_yes h1 hs]
    have hlt : (l.ks.filter (fun x => !decide (x.nu ∈ [s.nu]))).length < l.ks.length := by
      rw [List.length_filter_lt_length_iff_exists]
      exact ⟨s, List.mem_of_getElem? hs, by simp⟩
    show (l.ks.filter (fun x => !decide (x.nu ∈ [s.nu]))).length ≤ 256
    omega
end Go.Proofs.YtnflbefbgcbdfaaGreat

namespace Go.Proofs.YtnflbefbgcbdfaaGreat
open Go.RowKit
set_option linter.unusedVariables false
set_option linter.unusedSimpArgs false
set_option maxRecDepth 100000
set_option maxHeartbeats 1000000

theorem may_si {l : Lg} {s : St} (h : l.may s = 0) : 0 ≤ s.si ∧ s.si ≤ 65535 := by
  unfold Lg.may at h
  by_cases h1 : l.next.2 ≠ 0
  · rw [if_pos h1] at h; exact absurd h h1
  · rw [if_neg h1] at h
    by_cases h2 : s.nu ≠ l.next.1
    · rw [if_pos h2] at h; simp at h
    · rw [if_neg h2] at h
      by_cases h3 : s.ti < 0 ∨ s.ti > 1125899906842624 ∨ s.si < 0 ∨ s.si > 65535 ∨ (s.el = true ∧ s.co = false)
      · rw [if_pos h3] at h; simp at h
      · omega
/-- Behind a counted packet was put in. -/
structure AddM (R : Nat → Prop) (w : World) (lw b q : Nat) (nv zv fv kv va : Value) (l : Lg) (T : List Tr) (s : St) (ov : Value) (w1 : World) (R1 Ro : Nat → Prop) (kv1 : Value) : Prop where
  lg : LgAt R1 w1 b q kv1 va ((l.added s).left (l.added s).over)
  ov_ : KvAt Ro w1 ov ((l.added s).ks.filter (fun x => (l.added s).over x.nu))
  kp : Kp (fun x => x = b ∨ kv.ownBlock = some x) w w1
  ok1 : kv1.ownBlock = kv.ownBlock ∨ ∀ g, kv1.ownBlock = some g → w.heap.size ≤ g
  rr : ∀ g, R1 g → R g ∨ w.heap.size ≤ g
  rl : ∀ g, R1 g → g < w1.heap.size
  ro : ∀ g, Ro g → w.heap.size ≤ g ∧ g < w1.heap.size
  oo : ∀ g, ov.ownBlock = some g → w.heap.size ≤ g
section
variable {R R1 Ro : Nat → Prop} {w w1 : World} {lw b q : Nat} {nv zv fv kv va kv1 ov : Value} {l : Lg} {T : List Tr} {s : St}
theorem AddM.fin (h : LW R w lw b q nv zv fv kv va l T) (hT : T.length < 1100000) (a : AddM R w lw b q nv zv fv kv va l T s ov w1 R1 Ro kv1) (hm : l.may s = 0) (W5 : World) (nv' zv' fv' : Value) (hld : Blk W5 lw (ldc b nv' zv' fv' (l.ne + 1) l.op) 60) (n5 : IR 2 W5 nv' (nsT T ++ [s.nu])) (z5 : IR 2 W5 zv' (zsT T ++ [s.si])) (f5 : IR 3 W5 fv' (ftT T ++ [0])) (nz : ∀ g, nv'.ownBlock = some g → zv'.ownBlock ≠ some g)
    (k5 : Kp (fun x => x = lw ∨ nv.ownBlock = some x ∨ zv.ownBlock = some x ∨ fv.ownBlock = some x) w1 W5) (on_ : nv'.ownBlock = nv.ownBlock ∨ ∀ g, nv'.ownBlock = some g → w1.heap.size ≤ g) (oz : zv'.ownBlock = zv.ownBlock ∨ ∀ g, zv'.ownBlock = some g → w1.heap.size ≤ g) (of_ : fv'.ownBlock = fv.ownBlock ∨ ∀ g, fv'.ownBlock = some g → w1.heap.size ≤ g) :
    Calls Tryz.prog 39 #[.pointer (some ⟨lw, 0, none⟩), ov, .int .i64 3] W5 fun e w' => DoP (fun x => x = (l.added s).left (l.added s).over) R w lw b q nv zv fv kv va l T e w' := by
  obtain ⟨m1, m2⟩ := may_zero2 hm
  have hsi := may_si hm
  have s1 := a.kp.size
  have s5 := k5.size
  have far := h.far
  have on1 := h.ok.on.added (s := s) m1 h.ok.ne
  have hq : Blk w q _ 116 := h.lg.set.blk
  have hq1 : Blk w1 q _ 116 := a.lg.set.blk
  have lg5 : LgAt R1 W5 b q kv1 va ((l.added s).left (l.added s).over) := by
    refine a.lg.kept k5 fun x hx => ?_
    have hxw : x < w.heap.size := by
      rcases hx with e | e | e | e
      · rw [e]; exact h.ld.lt
      · exact h.n_.lt x e
      · exact h.z_.lt x e
      · exact h.f_.lt x e
    have hfx : ¬ (x = b ∨ x = q ∨ kv.ownBlock = some x ∨ va.ownBlock = some x) := fun e => by
      have := far x e
      rcases hx with e | e | e | e
      · exact this.1 e
      · exact this.2.1 e
      · exact this.2.2.1 e
      · exact this.2.2.2 e
    refine ⟨fun hr => ?_, fun e => hfx (.inl e), fun e => hfx (.inr (.inl e)), fun e => ?_, fun e => hfx (.inr (.inr (.inr e)))⟩
    · rcases a.rr x hr with q1 | q1
      · have := h.ro x q1
        rcases hx with e | e | e | e
        · exact this.1 e
        · exact this.2.1 e
        · exact this.2.2.1 e
        · exact this.2.2.2 e
      · omega
    · rcases a.ok1 with q1 | q1
      · exact hfx (.inr (.inr (.inl (by rw [← q1]; exact e))))
      · have := q1 x e; omega
  have old : ∀ x, (x = lw ∨ nv.ownBlock = some x ∨ zv.ownBlock = some x ∨ fv.ownBlock = some x) → x < w.heap.size := fun x hx => by
    rcases hx with e | e | e | e
    · rw [e]; exact h.ld.lt
    · exact h.n_.lt x e
    · exact h.z_.lt x e
    · exact h.f_.lt x e
  have ov5 : KvAt Ro W5 ov ((l.added s).ks.filter (fun x => (l.added s).over x.nu)) := a.ov_.kept (fun x hx => k5.block x (a.ro x hx).2 (fun e => by have := old x e; have := (a.ro x hx).1; omega)) (fun x e => k5.block x (a.ov_.lt x e) (fun e2 => by have := old x e2; have := a.oo x e; omega))
  have ro5 : ∀ g, R1 g → g ≠ lw ∧ nv'.ownBlock ≠ some g ∧ zv'.ownBlock ≠ some g ∧ fv'.ownBlock ≠ some g := by
    intro g hg
    have hgl := a.rl g hg
    have hlw := h.ld.lt
    have key : ∀ (v v' : Value), (∀ x, v.ownBlock = some x → x < w.heap.size) → (∀ x, R x → v.ownBlock ≠ some x) → (v'.ownBlock = v.ownBlock ∨ ∀ g, v'.ownBlock = some g → w1.heap.size ≤ g) → v'.ownBlock ≠ some g := by
      intro v v' h1 h2 h3 e
      rcases h3 with q1 | q1
      · rw [q1] at e
        have := h1 g e
        rcases a.rr g hg with q2 | q2
        · exact h2 g q2 e
        · omega
      · have := q1 g e; omega
    refine ⟨fun e => ?_, key nv nv' (fun x e => h.n_.lt x e) (fun x hx => (h.ro x hx).2.1) on_, key zv zv' (fun x e => h.z_.lt x e) (fun x hx => (h.ro x hx).2.2.1) oz, key fv fv' (fun x e => h.f_.lt x e) (fun x hx => (h.ro x hx).2.2.2) of_⟩
    rcases a.rr g hg with q2 | q2
    · exact (h.ro g q2).1 e
    · omega
  have e1 : nsT (T ++ [(s.nu, s.si, 0)]) = nsT T ++ [s.nu] := by simp [nsT]
  have e2 : zsT (T ++ [(s.nu, s.si, 0)]) = zsT T ++ [s.si] := by simp [zsT]
  have e3 : ftT (T ++ [(s.nu, s.si, 0)]) = ftT T ++ [0] := by simp [ftT]
  rw [← e1] at n5
  rw [← e2] at z5
  rw [← e3] at f5
  have hne1 : (l.added s).ne = l.ne + 1 := by show s.nu + 1 = _; rw [m1]
  have hld2 : Blk W5 lw (ldc b nv' zv' fv' (l.added s).ne (l.added s).op) 60 := by rw [hne1]; exact hld
  have hkl : (l.added s).ks.length ≤ 257 := by
    have := h.ok.kl
    show (l.ks ++ [s]).length ≤ 257
    rw [List.length_append, List.length_singleton]; omega
  refine (ans_core (l.added s).over 3 (by decide) Ro hld2 n5 z5 f5 nz ro5 on1 h.ok.ac (by have := h.ok.ne; omega) lg5 ov5 (by rw [List.length_append, List.length_singleton]; omega) (by omega) (over_len hkl) (fun x hx => ?_)).mono ?_
  · have hx2 : x ∈ l.ks ++ [s] := hx
    rcases List.mem_append.1 hx2 with q1 | q1
    · exact h.ok.si x q1
    · simp at q1; subst q1; exact hsi
  · rintro e w2 ⟨rfl, hW, g2⟩
    refine ⟨R1, nv', zv', fv', kv1, va, _, _, rfl, hW, ?_, ?_, a.rr, ?_, ?_, rfl, rfl⟩
    · refine ⟨g2.os.trans (k5.os.trans a.kp.os), g2.tape.trans (k5.tape.trans a.kp.tape), g2.output.trans (k5.output.trans a.kp.output), by have := g2.size; omega, fun x hx hn => (g2.block x (by omega) (fun e => ?_)).trans ((k5.block x (by omega) (fun e => hn ?_)).trans (a.kp.block x hx (fun e => hn ?_)))⟩
      · rcases of_ with q1 | q1
        · exact hn (.inr (.inr (.inr (.inr (.inr (.inl (by rw [← q1]; exact e.symm)))))))
        · have := q1 x e.symm; omega
      · rcases e with e | e | e | e
        · exact .inl e
        · exact .inr (.inr (.inr (.inl e)))
        · exact .inr (.inr (.inr (.inr (.inl e))))
        · exact .inr (.inr (.inr (.inr (.inr (.inl e)))))
      · rcases e with e | e
        · exact .inr (.inl e)
        · exact .inr (.inr (.inr (.inr (.inr (.inr (.inl e))))))
    · intro x hx
      have up : ∀ y, w1.heap.size ≤ y → w.heap.size ≤ y := fun y hy => by omega
      rcases hx with e | e | e | e | e | e | e | e
      · exact .inl (.inl e)
      · exact .inl (.inr (.inl e))
      · exact .inl (.inr (.inr (.inl e)))
      · rcases on_ with q1 | q1
        · exact .inl (.inr (.inr (.inr (.inl (by rw [← q1]; exact e)))))
        · exact .inr (up x (q1 x e))
      · rcases oz with q1 | q1
        · exact .inl (.inr (.inr (.inr (.inr (.inl (by rw [← q1]; exact e))))))
        · exact .inr (up x (q1 x e))
      · rcases of_ with q1 | q1
        · exact .inl (.inr (.inr (.inr (.inr (.inr (.inl (by rw [← q1]; exact e)))))))
        · exact .inr (up x (q1 x e))
      · rcases a.ok1 with q1 | q1
        · exact .inl (.inr (.inr (.inr (.inr (.inr (.inr (.inl (by rw [← q1]; exact e))))))))
        · exact .inr (q1 x e)
      · exact .inl (.inr (.inr (.inr (.inr (.inr (.inr (.inr e)))))))
    · show (l.added s).ne ≤ _
      omega
    · simp [fateT]
end
end Go.Proofs.YtnflbefbgcbdfaaGreat

namespace Go.Proofs.YtnflbefbgcbdfaaGreat
open Go.RowKit
set_option linter.unusedVariables false
set_option linter.unusedSimpArgs false
set_option maxRecDepth 100000
set_option maxHeartbeats 1000000

/-- The packet as it is handed in. -/
def St.at_ (s : St) (nx : Int) : St := { s with nu := nx }
section
variable {R : Nat → Prop} {lw b q : Nat} {nv zv fv kv va : Value} {l : Lg} {T : List Tr}
/-- What a packet that is handed in leaves. -/
def Lg.addBy (l : Lg) (s : St) : Lg := if l.may s = 0 then (if s.co = true then (l.added s).left (l.added s).over else ⟨l.op, l.fi, s.nu + 1, l.la, s.ti, l.ls, l.ks, l.ac⟩) else l
/-- What is known behind the call of Add. -/
def AddD (R : Nat → Prop) (w : World) (lw b q : Nat) (nv zv fv kv va : Value) (l : Lg) (T : List Tr) (s : St) (ov : Value) (er : Int) (w1 : World) : Prop :=
  (er ≠ 0 ∧ ov = .slice none 0 0 ∧ DoP (fun x => x = l.addBy s) R w lw b q nv zv fv kv va l T (.returned (.bool true)) w1) ∨
  (er = 0 ∧ s.co = false ∧ ov = .slice none 0 0 ∧ Calls Tryz.prog 39 #[.pointer (some ⟨lw, 0, none⟩), .slice none 0 0, .int .i64 3] (w1.setCell ⟨lw, 4, none⟩ (.int .i64 (l.ne + 1))) fun e w' => DoP (fun x => x = l.addBy s) R w lw b q nv zv fv kv va l T e w') ∨
  (er = 0 ∧ s.co = true ∧ l.may s = 0 ∧ ∃ R1 Ro kv1, AddM R w lw b q nv zv fv kv va l T s ov w1 R1 Ro kv1)
theorem add_call (w V : World) (h : LW R w lw b q nv zv fv kv va l T) (hT : T.length < 1100000) (gV : w.grownBy V none) (s : St) (hs : s.nu = l.ne) (fa : Option Addr) (fc : Nat) (R0 : Nat → Prop) (hR0 : ∀ g, R0 g → w.heap.size ≤ g) (hf : FvAt R0 V (.slice fa s.fs.length fc) s.fs) (bd : Nat) (hbd : w.heap.size ≤ bd) (bD : Blk V bd (s.cs (.slice fa s.fs.length fc)) 46) :
    Calls Tryz.prog 18 #[.pointer (some ⟨b, 0, none⟩), .agg (s.cs (.slice fa s.fs.length fc))] V fun e w1 => ∃ oa on oc er, e = .returned (.tuple #[.slice oa on oc, .int .i64 er]) ∧ Blk w1 lw (ldc b nv zv fv l.ne l.op) 60 ∧ Blk w1 bd (s.cs (.slice fa s.fs.length fc)) 46 ∧ Kp (fun x => x = b ∨ kv.ownBlock = some x) w w1 ∧ Hid (AddD R w lw b q nv zv fv kv va l T s (.slice oa on oc) er w1) := by
  have hV := h.grown gV
  have far := h.far
  have sV := gV.size
  have hbw := h.lg.blk.lt
  have lwb : lw ≠ b := fun e => (far lw (.inl e)).1 rfl
  have lwk : kv.ownBlock ≠ some lw := fun e => (far lw (.inr (.inr (.inl e)))).1 rfl
  have bdb : bd ≠ b := by omega
  have bdk : kv.ownBlock ≠ some bd := fun e => by have := h.lg.row.lt bd e; omega
  by_cases hm : l.may s = 0
  · obtain ⟨m1, m2⟩ := may_zero2 hm
    cases hco : s.co with
    | false =>
      refine (add_bare b q kv l s fa s.fs.length fc V hV.lg.blk hm hco h.ok.ne).mono ?_
      rintro e w1 ⟨rfl, bb, g1⟩
      have ld1 : Blk w1 lw (ldc b nv zv fv l.ne l.op) 60 := hV.ld.far g1 lwb
      have k1 : Kp (fun x => x = b) V w1 := Kp.grownS g1 rfl
      have kw : Kp (fun x => x = b ∨ kv.ownBlock = some x) w w1 := (Kp.grown gV _).trans (k1.mono fun x _ e => .inl e)
      refine ⟨none, 0, 0, 0, rfl, ld1, bD.far g1 bdb, kw, .inr (.inl ⟨rfl, hco, rfl, ?_⟩)⟩
      obtain ⟨l1, hl1⟩ : ∃ l1 : Lg, l1 = ⟨l.op, l.fi, s.nu + 1, l.la, s.ti, l.ls, l.ks, l.ac⟩ := ⟨_, rfl⟩
      rw [← hl1] at bb
      have k4 : Kp (fun x => x = lw) w1 (w1.setCell ⟨lw, 4, none⟩ (.int .i64 (l.ne + 1))) := Kp.set (Kp.refl _ _) lw 4 _ (fun _ => rfl)
      have dV := hV.lg.diff
      have hqV : Blk V q _ 116 := hV.lg.set.blk
      have lg1 : LgAt R w1 b q kv va l1 := by
        refine ⟨bb, ?_, ?_, fun g hg => Nat.lt_of_lt_of_le (hV.lg.low g hg) g1.size, hV.lg.nb, hV.lg.nq, hV.lg.nk, hV.lg.na⟩
        · rw [hl1]
          exact hV.lg.set.kept (k1.block q hqV.lt (Ne.symm dV.bq)) (fun g e => k1.block g (row_lt hV.lg.set.row g e) (dV.vb g e).1)
        · rw [hl1]
          exact hV.lg.row.kept (fun g hg => k1.block g (hV.lg.low g hg) (fun e => hV.lg.nb (e ▸ hg))) (fun g e => k1.block g (hV.lg.row.lt g e) (dV.kb g e).1)
      have lg4 : LgAt R (w1.setCell ⟨lw, 4, none⟩ (.int .i64 (l.ne + 1))) b q kv va (l1.left (fun _ => false)) := by
        have e1 : l1.left (fun _ => false) = l1 := by unfold Lg.left; rw [List.filter_eq_self.2 (fun x _ => by simp)]
        rw [e1]
        exact lg1.kept k4 (fun x e => by
          subst e
          exact ⟨fun hr => (h.ro x hr).1 rfl, lwb, fun e => (far x (.inr (.inl e))).1 rfl, lwk, fun e => (far x (.inr (.inr (.inr e)))).1 rfl⟩)
      have e2 : l.ks.filter (fun s => (fun _ : Int => false) s.nu) = [] := by simp
      have hne1 : l1.ne = l.ne + 1 := by rw [hl1]; show s.nu + 1 = _; rw [hs]
      refine h.ans2 (D := fun x => x = l.addBy s) (fun _ => false) l1 (by rw [hl1]) ⟨by omega, by omega⟩ (by rw [hl1]; exact h.ok.ac) (by rw [hl1]) (by show l1.left _ = l.addBy s; unfold Lg.addBy; rw [if_pos hm, hco, if_neg (by decide), ← hl1]; unfold Lg.left; rw [List.filter_eq_self.2 (fun x _ => by simp)]) 3 (by decide) (by omega) kv va (.slice none 0 0) (fun _ => False) lg4 (by rw [e2]; exact KvAt.nil _ _) ?_ rfl (.inl rfl) ?_
      · have hop1 : l1.op = l.op := by rw [hl1]
        rw [hne1, hop1]
        exact ld1.setC 4 _
      · exact (Kp.grown gV _).trans ((k1.mono fun x _ e => .inr (.inl e)).trans (k4.mono fun x _ e => .inl e))
    | true =>
      refine (add_more b q kv va l R R0 s fa fc V hV.lg hf (fun e => by have := hR0 b e; omega) hm hco h.ok.ne (by have := h.ok.kl; omega)).mono ?_
      rintro e w1 ⟨ov, Ro, kv', R', rfl, p2, p3, p4, p5, p6, p7, p8⟩
      obtain ⟨oa, on, oc, hov⟩ : ∃ oa on oc, ov = .slice oa on oc := by
        rcases p2.sh with ⟨e1, -⟩ | ⟨g, c, e1, -⟩
        · exact ⟨_, _, _, e1⟩
        · exact ⟨_, _, _, e1⟩
      subst hov
      have kw : Kp (fun x => x = b ∨ kv.ownBlock = some x) w w1 := (Kp.grown gV _).trans p8
      refine ⟨oa, on, oc, 0, rfl, (p8.block lw hV.ld.lt (fun e => e.elim lwb lwk)).trans hV.ld, (p8.block bd bD.lt (fun e => e.elim bdb bdk)).trans bD, kw, .inr (.inr ⟨rfl, hco, hm, R', Ro, kv', ?_⟩)⟩
      exact ⟨p5, p2, kw, p6.imp id (fun f g e => Nat.le_trans sV (f g e)), fun g e => (p7 g e).imp id (fun q => Nat.le_trans sV q), fun g e => p5.low g e, fun g e => ⟨Nat.le_trans sV (p3 g e).1, (p3 g e).2⟩, fun g e => Nat.le_trans sV (p4 g e).1⟩
  · refine (add_bad b q kv l s fa s.fs.length fc V hV.lg.blk hm).mono ?_
    rintro e w1 ⟨rfl, g1⟩
    refine ⟨none, 0, 0, _, rfl, hV.ld.grown g1, bD.grown g1, (Kp.grown (grown_trans gV g1) _), .inl ⟨hm, rfl, ?_⟩⟩
    exact DoP.same (D := fun x => x = l.addBy s) h (grown_trans gV g1) (by show l = l.addBy s; unfold Lg.addBy; rw [if_neg hm])
end
end Go.Proofs.YtnflbefbgcbdfaaGreat

namespace Go.Proofs.YtnflbefbgcbdfaaGreat
open Go.RowKit
set_option linter.unusedVariables false
set_option linter.unusedSimpArgs false
set_option maxRecDepth 100000
set_option maxHeartbeats 1000000

theorem Tryz.infoI3 : (Tryz.prog.info? 3).map (fun i => (i.zero, i.size, i.bytes)) = some (some (.int .i64 0), 1, 8) := by kernel_rfl
section
variable {R : Nat → Prop} {lw b q : Nat} {nv zv fv kv va : Value} {l : Lg} {T : List Tr}
/-- Behind the region that calls Add. -/
def AdW (R : Nat → Prop) (w : World) (lw b q bd : Nat) (nv zv fv kv va : Value) (l : Lg) (T : List Tr) (s : St) (C : Array Value) (oa : Option Addr) (on oc : Nat) (er : Int) (w1 : World) : Prop :=
  Blk w1 lw (ldc b nv zv fv l.ne l.op) 60 ∧ Blk w1 bd C 46 ∧ Kp (fun x => x = b ∨ kv.ownBlock = some x) w w1 ∧ AddD R w lw b q nv zv fv kv va l T s (.slice oa on oc) er w1
theorem does_add (w : World) (h : LW R w lw b q nv zv fv kv va l T) (hT : T.length < 1100000) (h62 : l.ne ≤ 4611686018427387904) (hh : Int) (s : St) (R0 : Nat → Prop) (fa : Option Addr) (fc : Nat) (rv mv : Value) (n : Int) (hf : FvAt R0 w (.slice fa s.fs.length fc) s.fs) :
    Calls Tryz.prog 13 #[.pointer (some ⟨lw, 0, none⟩), .agg (opc 1 hh s (.slice fa s.fs.length fc) rv mv n)] w fun e w' => DoP (fun x => x = l.addBy (s.at_ l.ne)) R w lw b q nv zv fv kv va l T e w' := by
  obtain ⟨B, hB⟩ : ∃ B, B = w.alloc (.cells (opc 1 hh s (.slice fa s.fs.length fc) rv mv n) 50) := ⟨_, rfl⟩
  have gB : w.grownBy B none := by rw [hB]; exact grown_alloc _ _
  have bB : Blk B w.heap.size (opc 1 hh s (.slice fa s.fs.length fc) rv mv n) 50 := by rw [hB]; exact Blk.new w _ _
  obtain ⟨bs, hbs⟩ : ∃ bs, bs = w.heap.size := ⟨_, rfl⟩
  rw [← hbs] at bB
  have y0 : B.cell? ⟨bs, 0, none⟩ = some (.int .i64 1) := bB.cell 0 _ rfl
  have y2 : B.cell? ⟨bs, 2, none⟩ = some (.int .i64 s.nu) := bB.cell 2 _ rfl
  have y3 : B.cell? ⟨bs, 3, none⟩ = some (.int .i64 s.ti) := bB.cell 3 _ rfl
  have y4 : B.cell? ⟨bs, 4, none⟩ = some (.int .i64 s.si) := bB.cell 4 _ rfl
  have y5 : B.cell? ⟨bs, 5, none⟩ = some (.bool s.el) := bB.cell 5 _ rfl
  have y6 : B.cell? ⟨bs, 6, none⟩ = some (.bool s.co) := bB.cell 6 _ rfl
  have y7 : B.cell? ⟨bs, 7, none⟩ = some (.bool s.pr) := bB.cell 7 _ rfl
  have y8 : B.cell? ⟨bs, 8, none⟩ = some (.int .i64 s.tl) := bB.cell 8 _ rfl
  have y9 : B.cell? ⟨bs, 9, none⟩ = some (.slice fa s.fs.length fc) := bB.cell 9 _ rfl
  have hdp := deep_any s R0 fa fc B (hf.grown gB)
  have hLB := h.grown gB
  obtain ⟨nx, hnx⟩ : ∃ nx, nx = l.ne := ⟨_, rfl⟩
  rw [← hnx]
  have nx0 : 0 ≤ nx := by have := h.ok.ne; omega
  have nx1 : nx ≤ 4611686018427387904 := by omega
  have PRE : Hid (∀ (Y : World) (a2 : Option Addr) (c2 : Nat), B.grownBy Y none → FvAt (fun x => B.heap.size ≤ x) Y (.slice a2 s.fs.length c2) s.fs → ∃ W3, W3 = (Y.alloc (.cells (s.cs (.slice a2 s.fs.length c2)) 46)).setCell ⟨Y.heap.size, 0, none⟩ (.int .i64 nx) ∧ (Y.alloc (.cells (s.cs (.slice a2 s.fs.length c2)) 46)).cell? ⟨lw, 4, none⟩ = some (.int .i64 nx) ∧ (Y.alloc (.cells (s.cs (.slice a2 s.fs.length c2)) 46)).cell? ⟨lw, 0, none⟩ = some (.pointer (some ⟨b, 0, none⟩)) ∧ Blk (Y.alloc (.cells (s.cs (.slice a2 s.fs.length c2)) 46)) Y.heap.size (s.cs (.slice a2 s.fs.length c2)) 46 ∧ Blk W3 Y.heap.size ((s.at_ nx).cs (.slice a2 s.fs.length c2)) 46 ∧ W3.cell? ⟨lw, 0, none⟩ = some (.pointer (some ⟨b, 0, none⟩)) ∧ w.heap.size ≤ Y.heap.size ∧ lw ≠ Y.heap.size ∧
      Calls Tryz.prog 18 #[.pointer (some ⟨b, 0, none⟩), .agg ((s.at_ nx).cs (.slice a2 s.fs.length c2))] W3.drew fun e w1 => ∃ oa on oc er, e = .returned (.tuple #[.slice oa on oc, .int .i64 er]) ∧ Blk w1 lw (ldc b nv zv fv l.ne l.op) 60 ∧ Blk w1 Y.heap.size ((s.at_ nx).cs (.slice a2 s.fs.length c2)) 46 ∧ Kp (fun x => x = b ∨ kv.ownBlock = some x) w w1 ∧ Hid (AddD R w lw b q nv zv fv kv va l T (s.at_ nx) (.slice oa on oc) er w1)) := by
    intro Y a2 c2 gY hfY
    obtain ⟨W2, hW2⟩ : ∃ W2, W2 = Y.alloc (.cells (s.cs (.slice a2 s.fs.length c2)) 46) := ⟨_, rfl⟩
    have g2 : Y.grownBy W2 none := by rw [hW2]; exact grown_alloc _ _
    have b2 : Blk W2 Y.heap.size (s.cs (.slice a2 s.fs.length c2)) 46 := by rw [hW2]; exact Blk.new _ _ _
    have l2 := hLB.grown (grown_trans gY g2)
    have sY : w.heap.size ≤ Y.heap.size := Nat.le_trans gB.size gY.size
    have hne : lw ≠ Y.heap.size := by have := h.ld.lt; omega
    obtain ⟨W3, hW3⟩ : ∃ W3, W3 = W2.setCell ⟨Y.heap.size, 0, none⟩ (.int .i64 nx) := ⟨_, rfl⟩
    have b3 : Blk W3 Y.heap.size ((s.at_ nx).cs (.slice a2 s.fs.length c2)) 46 := by rw [hW3]; exact b2.setC 0 _
    have ld3 : Blk W3 lw (ldc b nv zv fv l.ne l.op) 60 := by rw [hW3]; exact l2.ld.setO _ 0 _ (Ne.symm hne)
    have g3 : w.grownBy W3 none := by rw [hW3]; exact grown_set (grown_trans gB (grown_trans gY g2)) _ _ _ sY
    have f3 : FvAt (fun x => B.heap.size ≤ x) W3.drew (.slice a2 s.fs.length c2) s.fs := by
      have := ((hfY.lo.grown g2).kept (W' := W3) fun x hx => by rw [hW3]; exact set_heap _ _ _ _ _ (by omega)).grown (grown_drew' (grown_self W3 none))
      exact this.mono fun x hx => hx.1
    rw [← hW2]
    refine ⟨W3, hW3, by rw [hnx]; exact l2.ld.cell 4 _ rfl, l2.ld.cell 0 _ rfl, b2, b3, ld3.cell 0 _ rfl, sY, hne, ?_⟩
    exact add_call w W3.drew h hT (grown_drew' g3) (s.at_ nx) hnx a2 c2 _ (fun g e => Nat.le_trans gB.size e) f3 Y.heap.size sY b3.drew
  have LWH := hide (And.intro h hnx)
  have HTT := hide hT
  clear h gB bB hLB hf hnx hT h62
  simp only [St.cs] at hdp
  go_enter Tryz.func13, Tryz.ntmps13
  go_upto_region 1 with fail
  rw [← hB, ← hbs]
  replace hB := hide hB
  replace hbs := hide hbs
  go_wp2_with fail
  refine hdp.mono ?_
  rintro e Y ⟨a2, c2, rfl, hfY, gY⟩
  obtain ⟨W3, hW3, d4, d0, b2, b3, e0, sY, hne, hadd⟩ := unhide PRE Y a2 c2 gY hfY
  simp only [St.cs, St.at_] at hW3 d4 d0 b2 b3 hadd
  obtain ⟨bd, hbd⟩ : ∃ bd, bd = Y.heap.size := ⟨_, rfl⟩
  rw [← hbd] at hW3 b2 b3 hne hadd
  have z0 : (Y.alloc (.cells #[.int .i64 s.nu, .int .i64 s.ti, .int .i64 s.si, .bool s.el, .bool s.co, .bool s.pr, .int .i64 s.tl, .slice a2 s.fs.length c2] 46)).cell? ⟨bd, 0, none⟩ = some (.int .i64 s.nu) := b2.cell 0 _ rfl
  have t0 := b2.thaw 0
  have B3 := hide b3
  have SY := hide sY
  clear hdp PRE gY hfY b2 b3 sY y0 y2 y3 y4 y5 y6 y7 y8 y9
  go_upto_region 4 with fail
  rw [← hbd]
  replace hbd := hide hbd
  generalize (Y.alloc (.cells #[.int .i64 s.nu, .int .i64 s.ti, .int .i64 s.si, .bool s.el, .bool s.co, .bool s.pr, .int .i64 s.tl, .slice a2 s.fs.length c2] 46)) = W2 at *
  go_upto_region 5 with fail
  rw [← hW3]
  replace hW3 := hide hW3
  clear d4 d0 z0 t0
  have q0 : W3.drew.cell? ⟨lw, 0, none⟩ = some (.pointer (some ⟨b, 0, none⟩)) ∧ W3.drew.cell? ⟨bd, 0, none⟩ = some (.int .i64 nx) ∧ W3.drew.cell? ⟨bd, 1, none⟩ = some (.int .i64 s.ti) ∧ W3.drew.cell? ⟨bd, 2, none⟩ = some (.int .i64 s.si) ∧ W3.drew.cell? ⟨bd, 3, none⟩ = some (.bool s.el) ∧ W3.drew.cell? ⟨bd, 4, none⟩ = some (.bool s.co) ∧ W3.drew.cell? ⟨bd, 5, none⟩ = some (.bool s.pr) ∧ W3.drew.cell? ⟨bd, 6, none⟩ = some (.int .i64 s.tl) ∧ W3.drew.cell? ⟨bd, 7, none⟩ = some (.slice a2 s.fs.length c2) := ⟨e0, cells8 (unhide B3).drew⟩
  go_cut [6, 7] (fun v6 v7 wd => ∃ oa on oc er, v6 = .slice oa on oc ∧ v7 = .int .i64 er ∧ Hid (AdW R w lw b q bd nv zv fv kv va l T (s.at_ nx) #[.int .i64 nx, .int .i64 s.ti, .int .i64 s.si, .bool s.el, .bool s.co, .bool s.pr, .int .i64 s.tl, .slice a2 s.fs.length c2] oa on oc er wd))
  case first =>
    refine wp_region_held_drew (S := fun Z => Z.cell? ⟨lw, 0, none⟩ = some (.pointer (some ⟨b, 0, none⟩)) ∧ Z.cell? ⟨bd, 0, none⟩ = some (.int .i64 nx) ∧ Z.cell? ⟨bd, 1, none⟩ = some (.int .i64 s.ti) ∧ Z.cell? ⟨bd, 2, none⟩ = some (.int .i64 s.si) ∧ Z.cell? ⟨bd, 3, none⟩ = some (.bool s.el) ∧ Z.cell? ⟨bd, 4, none⟩ = some (.bool s.co) ∧ Z.cell? ⟨bd, 5, none⟩ = some (.bool s.pr) ∧ Z.cell? ⟨bd, 6, none⟩ = some (.int .i64 s.tl) ∧ Z.cell? ⟨bd, 7, none⟩ = some (.slice a2 s.fs.length c2)) (by kernel_rfl) q0 (fun hHeld => ?_)
    refine wpAnyH_take (i := 0) (v := ?_) rfl (by as_aux_lemma => kernel_rfl) (by as_aux_lemma => kernel_rfl) (by as_aux_lemma => kernel_rfl) (fun _ _ _ h => h) (Or.inl ⟨by rfl, ?_⟩) (by assumption) ?_
    rotate_left
    · intro wH hSw
      try dsimp only at hSw
      obtain ⟨s0q, s1q, s2q, s3q, s4q, s5q, s6q, s7q, s8q⟩ := hSw
      go_simp
      try with_reducible rfl
    try simp only [Act.put, List.setIfInBounds_toArray, List.set_cons_zero, List.set_cons_succ]
    refine wpAnyH_take (i := 1) (v := ?_) rfl (by as_aux_lemma => kernel_rfl) (by as_aux_lemma => kernel_rfl) (by as_aux_lemma => kernel_rfl) (fun _ _ _ h => h) (Or.inl ⟨by rfl, ?_⟩) (by assumption) ?_
    rotate_left
    · intro wH hSw
      try dsimp only at hSw
      obtain ⟨s0q, s1q, s2q, s3q, s4q, s5q, s6q, s7q, s8q⟩ := hSw
      go_simp
      try with_reducible rfl
    try simp only [Act.put, List.setIfInBounds_toArray, List.set_cons_zero, List.set_cons_succ]
    refine wpAnyH_take (i := 2) (v := ?_) rfl (by as_aux_lemma => kernel_rfl) (by as_aux_lemma => kernel_rfl) (by as_aux_lemma => kernel_rfl) (fun _ _ _ h => h) (Or.inl ⟨by rfl, ?_⟩) (by assumption) ?_
    rotate_left
    · intro wH hSw
      try dsimp only at hSw
      obtain ⟨s0q, s1q, s2q, s3q, s4q, s5q, s6q, s7q, s8q⟩ := hSw
      go_simp
      try with_reducible rfl
    try simp only [Act.put, List.setIfInBounds_toArray, List.set_cons_zero, List.set_cons_succ]
    refine wpAnyH_take (i := 3) (v := ?_) rfl (by as_aux_lemma => kernel_rfl) (by as_aux_lemma => kernel_rfl) (by as_aux_lemma => kernel_rfl) (fun _ _ _ h => h) (Or.inl ⟨by rfl, ?_⟩) (by assumption) ?_
    rotate_left
    · intro wH hSw
      try dsimp only at hSw
      obtain ⟨s0q, s1q, s2q, s3q, s4q, s5q, s6q, s7q, s8q⟩ := hSw
      go_simp
      try with_reducible rfl
    try simp only [Act.put, List.setIfInBounds_toArray, List.set_cons_zero, List.set_cons_succ]
    refine wpAnyH_take (i := 4) (v := ?_) rfl (by as_aux_lemma => kernel_rfl) (by as_aux_lemma => kernel_rfl) (by as_aux_lemma => kernel_rfl) (fun _ _ _ h => h) (Or.inl ⟨by rfl, ?_⟩) (by assumption) ?_
    rotate_left
    · intro wH hSw
      try dsimp only at hSw
      obtain ⟨s0q, s1q, s2q, s3q, s4q, s5q, s6q, s7q, s8q⟩ := hSw
      go_simp
      try with_reducible rfl
    try simp only [Act.put, List.setIfInBounds_toArray, List.set_cons_zero, List.set_cons_succ]
    refine wpAnyH_ready (rs := [5]) (by as_aux_lemma => kernel_rfl) (by simp) ?_
    refine AllReadyH.cons rfl (fun KH hKH => ?_) AllReadyH.nil
    (refine step_call (by rfl) 18 #[.pointer (some ⟨b, 0, none⟩), .agg #[.int .i64 nx, .int .i64 s.ti, .int .i64 s.si, .bool s.el, .bool s.co, .bool s.pr, .int .i64 s.tl, .slice a2 s.fs.length c2]] enters_ladd #[Operand.tmp 28, Operand.tmp 29] #[25, 46] (by rfl) (by simp [Act.eval]) hadd ?_; rintro e w1 ⟨oa, on, oc, er, rfl, x1, x2, x3, x4⟩; refine ⟨_, rfl, ?_⟩; have qV : w1.cell? ⟨lw, 0, none⟩ = some (.pointer (some ⟨b, 0, none⟩)) ∧ w1.cell? ⟨bd, 0, none⟩ = some (.int .i64 nx) ∧ w1.cell? ⟨bd, 1, none⟩ = some (.int .i64 s.ti) ∧ w1.cell? ⟨bd, 2, none⟩ = some (.int .i64 s.si) ∧ w1.cell? ⟨bd, 3, none⟩ = some (.bool s.el) ∧ w1.cell? ⟨bd, 4, none⟩ = some (.bool s.co) ∧ w1.cell? ⟨bd, 5, none⟩ = some (.bool s.pr) ∧ w1.cell? ⟨bd, 6, none⟩ = some (.int .i64 s.tl) ∧ w1.cell? ⟨bd, 7, none⟩ = some (.slice a2 s.fs.length c2) := ⟨x1.cell 0 _ rfl, cells8 x2⟩; have ADW : Hid (AdW R w lw b q bd nv zv fv kv va l T (s.at_ nx) #[.int .i64 nx, .int .i64 s.ti, .int .i64 s.si, .bool s.el, .bool s.co, .bool s.pr, .int .i64 s.tl, .slice a2 s.fs.length c2] oa on oc er w1) := ⟨x1, x2, x3, unhide x4⟩; clear x1 x2 x3 x4)
    refine hKH.out _ _ qV (fun hHeld5 => ?_)
    clear hKH KH
    try simp only [Act.put, List.setIfInBounds_toArray, List.set_cons_zero, List.set_cons_succ]
    refine wpAnyH_ready (rs := [6]) (by as_aux_lemma => kernel_rfl) (by simp) ?_
    refine AllReadyH.cons rfl (fun KH hKH => ?_) AllReadyH.nil
    go_simp
    refine hKH.out _ _ qV (fun hHeld6 => ?_)
    clear hKH KH
    try simp only [Act.put, List.setIfInBounds_toArray, List.set_cons_zero, List.set_cons_succ]
    refine wpAnyH_ready (rs := [7, 8]) (by as_aux_lemma => kernel_rfl) (by simp) ?_
    refine AllReadyH.cons rfl (fun KH hKH => ?_) (AllReadyH.cons rfl (fun KH hKH => ?_) AllReadyH.nil)
    · go_simp
      refine hKH.out _ _ qV (fun hHeld7 => ?_)
      clear hKH KH
      try simp only [Act.put, List.setIfInBounds_toArray, List.set_cons_zero, List.set_cons_succ]
      refine wpAnyH_ready (rs := [8, 9]) (by as_aux_lemma => kernel_rfl) (by simp) ?_
      refine AllReadyH.cons rfl (fun KH hKH => ?_) (AllReadyH.cons rfl (fun KH hKH => ?_) AllReadyH.nil)
      · go_simp
        refine hKH.out _ _ qV (fun hHeld8 => ?_)
        clear hKH KH
        try simp only [Act.put, List.setIfInBounds_toArray, List.set_cons_zero, List.set_cons_succ]
        refine wpAnyH_ready (rs := [9]) (by as_aux_lemma => kernel_rfl) (by simp) ?_
        refine AllReadyH.cons rfl (fun KH hKH => ?_) AllReadyH.nil
        go_simp
        refine hKH.out _ _ qV (fun hHeld9 => ?_)
        clear hKH KH
        try simp only [Act.put, List.setIfInBounds_toArray, List.set_cons_zero, List.set_cons_succ]
        refine wpAnyH_ready (rs := [10]) (by as_aux_lemma => kernel_rfl) (by simp) ?_
        refine AllReadyH.cons rfl (fun KH hKH => ?_) AllReadyH.nil
        go_simp
        refine hKH.out _ _ qV (fun hHeld10 => ?_)
        clear hKH KH
        try simp only [Act.put, List.setIfInBounds_toArray, List.set_cons_zero, List.set_cons_succ]
        refine wpAnyH_done (by as_aux_lemma => kernel_rfl) ?_ _
        clear q0 qV hadd
        try go_wp2_with fail
        go_meet
        exact ⟨oa, on, oc, er, rfl, rfl, ADW⟩
      · go_simp
        refine hKH.out _ _ qV (fun hHeld9 => ?_)
        clear hKH KH
        try simp only [Act.put, List.setIfInBounds_toArray, List.set_cons_zero, List.set_cons_succ]
        refine wpAnyH_ready (rs := [8]) (by as_aux_lemma => kernel_rfl) (by simp) ?_
        refine AllReadyH.cons rfl (fun KH hKH => ?_) AllReadyH.nil
        go_simp
        refine hKH.out _ _ qV (fun hHeld8 => ?_)
        clear hKH KH
        try simp only [Act.put, List.setIfInBounds_toArray, List.set_cons_zero, List.set_cons_succ]
        refine wpAnyH_ready (rs := [10]) (by as_aux_lemma => kernel_rfl) (by simp) ?_
        refine AllReadyH.cons rfl (fun KH hKH => ?_) AllReadyH.nil
        go_simp
        refine hKH.out _ _ qV (fun hHeld10 => ?_)
        clear hKH KH
        try simp only [Act.put, List.setIfInBounds_toArray, List.set_cons_zero, List.set_cons_succ]
        refine wpAnyH_done (by as_aux_lemma => kernel_rfl) ?_ _
        clear q0 qV hadd
        try go_wp2_with fail
        go_meet
        exact ⟨oa, on, oc, er, rfl, rfl, ADW⟩
    · go_simp
      refine hKH.out _ _ qV (fun hHeld8 => ?_)
      clear hKH KH
      try simp only [Act.put, List.setIfInBounds_toArray, List.set_cons_zero, List.set_cons_succ]
      refine wpAnyH_ready (rs := [7]) (by as_aux_lemma => kernel_rfl) (by simp) ?_
      refine AllReadyH.cons rfl (fun KH hKH => ?_) AllReadyH.nil
      go_simp
      refine hKH.out _ _ qV (fun hHeld7 => ?_)
      clear hKH KH
      try simp only [Act.put, List.setIfInBounds_toArray, List.set_cons_zero, List.set_cons_succ]
      refine wpAnyH_ready (rs := [9]) (by as_aux_lemma => kernel_rfl) (by simp) ?_
      refine AllReadyH.cons rfl (fun KH hKH => ?_) AllReadyH.nil
      go_simp
      refine hKH.out _ _ qV (fun hHeld9 => ?_)
      clear hKH KH
      try simp only [Act.put, List.setIfInBounds_toArray, List.set_cons_zero, List.set_cons_succ]
      refine wpAnyH_ready (rs := [10]) (by as_aux_lemma => kernel_rfl) (by simp) ?_
      refine AllReadyH.cons rfl (fun KH hKH => ?_) AllReadyH.nil
      go_simp
      refine hKH.out _ _ qV (fun hHeld10 => ?_)
      clear hKH KH
      try simp only [Act.put, List.setIfInBounds_toArray, List.set_cons_zero, List.set_cons_succ]
      refine wpAnyH_done (by as_aux_lemma => kernel_rfl) ?_ _
      clear q0 qV hadd
      try go_wp2_with fail
      go_meet
      exact ⟨oa, on, oc, er, rfl, rfl, ADW⟩
  case rest =>
    clear q0 hadd e0
    obtain ⟨oa, on, oc, er, rfl, rfl, D⟩ := hcut
    obtain ⟨h, hnx⟩ := unhide LWH
    obtain ⟨x1, x2, x3, x4⟩ := unhide D
    rcases x4 with ⟨her, hov, hD⟩ | ⟨her, hco, hov, hfa⟩ | ⟨her, hco, hmay, R1, Ro, kv1, am⟩
    · injection hov with h1 h2 h3
      subst h1
      subst h2
      subst h3
      have FIN := hide hD
      clear hD x1 x2 x3 h D hnx
      go_wp2_with fail
      all_goals go_ret
      all_goals exact unhide FIN
    · injection hov with h1 h2 h3
      subst h1
      subst h2
      subst h3
      subst her
      rw [← hnx] at x1 hfa
      have v4 : wc.cell? ⟨lw, 4, none⟩ = some (.int .i64 nx) := x1.cell 4 _ rfl
      have f4 := x1.thaw 4
      have c4 : (wc.setCell ⟨lw, 4, none⟩ (.int .i64 (nx + 1))).cell? ⟨bd, 4, none⟩ = some (.bool false) := by
        have := (x2.setO lw 4 (.int .i64 (nx + 1)) hne).cell 4 _ rfl
        have e : s.co = false := hco
        rw [e] at this
        exact this
      clear x1 x2 x3 h D hnx hco
      obtain ⟨W4, hW4⟩ : ∃ W4, W4 = wc.setCell ⟨lw, 4, none⟩ (.int .i64 (nx + 1)) := ⟨_, rfl⟩
      rw [← hW4] at hfa c4
      go_upto_region 9 with fail
      rw [← hW4]
      replace hW4 := hide hW4
      clear v4 f4
      go_wp2_with fail
      refine hfa.mono ?_
      intro e w' hP
      obtain ⟨R', nv', zv', fv', kv', va', l', T', rfl, rest⟩ := hP
      have FIN := hide rest
      clear hfa rest
      go_wp2_with fail
      go_ret
      exact ⟨R', nv', zv', fv', kv', va', l', T', rfl, unhide FIN⟩
    · subst her
      have hT := unhide HTT
      have sw := x3.size
      have far := h.far
      have keepR : ∀ (v : Value) y, v.ownBlock = some y → y < w.heap.size → (¬ (y = b ∨ y = q ∨ kv.ownBlock = some y ∨ va.ownBlock = some y)) → y ≠ lw → (wc.setCell ⟨lw, 4, none⟩ (.int .i64 (nx + 1))).heap[y]? = w.heap[y]? := fun v y e hy hfy hyl => (set_heap _ _ _ _ _ hyl).trans (x3.block y hy (fun e2 => hfy (e2.elim .inl (fun e3 => .inr (.inr (.inl e3))))))
      obtain ⟨rows, rn, rz⟩ := h.rows
      obtain ⟨W4, hW4⟩ : ∃ W4, W4 = wc.setCell ⟨lw, 4, none⟩ (.int .i64 (nx + 1)) := ⟨_, rfl⟩
      have ld4 : Blk W4 lw (ldc b nv zv fv (nx + 1) l.op) 60 := by rw [hW4]; exact x1.setC 4 _
      have bd4 : Blk W4 bd #[.int .i64 nx, .int .i64 s.ti, .int .i64 s.si, .bool s.el, .bool s.co, .bool s.pr, .int .i64 s.tl, .slice a2 s.fs.length c2] 46 := by rw [hW4]; exact x2.setO lw 4 _ hne
      have k4 : Kp (fun x => x = lw) wc W4 := by rw [hW4]; exact Kp.set (Kp.refl _ _) lw 4 _ (fun _ => rfl)
      have n4 : IR 2 W4 nv (nsT T) := h.n_.kept fun y e => by rw [hW4]; exact keepR nv y e (h.n_.lt y e) (fun e2 => (far y e2).2.1 e) (fun e2 => rn (e2 ▸ e))
      have z4 : IR 2 W4 zv (zsT T) := h.z_.kept fun y e => by rw [hW4]; exact keepR zv y e (h.z_.lt y e) (fun e2 => (far y e2).2.2.1 e) (fun e2 => rz (e2 ▸ e))
      have fz4 : IR 3 W4 fv (ftT T) := h.f_.kept fun y e => by rw [hW4]; exact keepR fv y e (h.f_.lt y e) (fun e2 => (far y e2).2.2.2 e) (rows y e).1
      have hbd2 : w.heap.size ≤ bd := by rw [unhide hbd]; exact unhide SY
      have lT : T.length ≤ 1100000 := by omega
      have shp : ∀ (t : TypeId) (v : Value) (xs : List Int), IR t W4 v xs → ∃ a c, v = .slice a xs.length c := fun t v xs hi => by
        rcases hi.sh with ⟨e1, e2⟩ | ⟨g, c, e1, -⟩
        · exact ⟨none, 0, by rw [e1, e2]; rfl⟩
        · exact ⟨_, c, e1⟩
      have hnl : ∀ y, nv.ownBlock = some y → y < w.heap.size := fun y e => h.n_.lt y e
      have hzl : ∀ y, zv.ownBlock = some y → y < w.heap.size := fun y e => h.z_.lt y e
      have hfl : ∀ y, fv.ownBlock = some y → y < w.heap.size := fun y e => h.f_.lt y e
      have hnz := h.nz
      have s4 := k4.size
      have lenN : (nsT T).length = T.length := by simp [nsT]
      have lenZ : (zsT T).length = T.length := by simp [zsT]
      have lenF : (ftT T).length = T.length := by simp [ftT]
      obtain ⟨a1, c1, P1, hap1, b1, ir1, bl1, kp1, ow1⟩ := push_ir (sT := 48) Tryz.underlying48 Tryz.infoI64 (by decide) (grown_drew' (grown_self W4 none)) ld4 n4 nx 1 (by omega)
      rw [lenN] at hap1 ir1 bl1 kp1 ow1
      obtain ⟨V1, hV1⟩ : ∃ V1, V1 = P1.setCell ⟨lw, 1, none⟩ (.slice a1 (T.length + 1) c1) := ⟨_, rfl⟩
      rw [← hV1] at ir1 bl1 kp1
      have s5 := kp1.size
      have bdV1 : Blk V1 bd #[.int .i64 nx, .int .i64 s.ti, .int .i64 s.si, .bool s.el, .bool s.co, .bool s.pr, .int .i64 s.tl, .slice a2 s.fs.length c2] 46 := (kp1.block bd bd4.lt (fun e => e.elim (Ne.symm hne) (fun e => by have := hnl bd e; omega))).trans bd4
      have zV1 : IR 2 V1 zv (zsT T) := z4.kept fun y e => kp1.block y (z4.lt y e) (fun e2 => e2.elim (fun e3 => rz (e3 ▸ e)) (fun e3 => hnz y e3 e))
      have fV1 : IR 3 V1 fv (ftT T) := fz4.kept fun y e => kp1.block y (fz4.lt y e) (fun e2 => e2.elim (rows y e).1 (rows y e).2.1)
      have bl1' : Blk V1 lw (ldc b (.slice a1 (T.length + 1) c1) zv fv (nx + 1) l.op) 60 := bl1
      obtain ⟨a2', c2', P2, hap2, b2, ir2, bl2, kp2, ow2⟩ := push_ir (sT := 48) Tryz.underlying48 Tryz.infoI64 (by decide) (grown_drew' (grown_self V1 none)) bl1' zV1 s.si 2 (by omega)
      rw [lenZ] at hap2 ir2 bl2 kp2 ow2
      obtain ⟨V2, hV2⟩ : ∃ V2, V2 = P2.setCell ⟨lw, 2, none⟩ (.slice a2' (T.length + 1) c2') := ⟨_, rfl⟩
      rw [← hV2] at ir2 bl2 kp2
      have s6 := kp2.size
      have n1lt := ir1.lt
      have n1lw : (Value.slice a1 (T.length + 1) c1).ownBlock ≠ some lw := fun e => by obtain ⟨cc, hc⟩ := ir1.ty lw e; exact ty_ne hc bl1' (by decide) rfl
      have nV2 : IR 2 V2 (.slice a1 (T.length + 1) c1) (nsT T ++ [nx]) := ir1.kept fun y e => kp2.block y (n1lt y e) (fun e2 => e2.elim (fun e3 => n1lw (e3 ▸ e)) (fun e3 => by
        rcases ow1 with q1 | q1
        · rw [q1] at e; exact hnz y e e3
        · have := q1 y e; have := hzl y e3; omega))
      have fV2 : IR 3 V2 fv (ftT T) := fV1.kept fun y e => kp2.block y (fV1.lt y e) (fun e2 => e2.elim (rows y e).1 (rows y e).2.2)
      have bdV2 : Blk V2 bd #[.int .i64 nx, .int .i64 s.ti, .int .i64 s.si, .bool s.el, .bool s.co, .bool s.pr, .int .i64 s.tl, .slice a2 s.fs.length c2] 46 := (kp2.block bd bdV1.lt (fun e => e.elim (Ne.symm hne) (fun e => by have := hzl bd e; omega))).trans bdV1
      have bl2' : Blk V2 lw (ldc b (.slice a1 (T.length + 1) c1) (.slice a2' (T.length + 1) c2') fv (nx + 1) l.op) 60 := bl2
      obtain ⟨a3, c3, P3, hap3, b3', ir3, bl3, kp3, ow3⟩ := push_ir (sT := 58) Tryz.underlying58 Tryz.infoI3 (by decide) (grown_self V2 none) bl2' fV2 0 3 (by omega)
      rw [lenF] at hap3 ir3 bl3 kp3 ow3
      obtain ⟨V3, hV3⟩ : ∃ V3, V3 = P3.setCell ⟨lw, 3, none⟩ (.slice a3 (T.length + 1) c3) := ⟨_, rfl⟩
      rw [← hV3] at ir3 bl3 kp3
      have z2lw : (Value.slice a2' (T.length + 1) c2').ownBlock ≠ some lw := fun e => by obtain ⟨cc, hc⟩ := ir2.ty lw e; exact ty_ne hc bl2' (by decide) rfl
      have fne : ∀ (v : Value) (xs : List Int), IR 2 V2 v xs → ∀ y, v.ownBlock = some y → fv.ownBlock ≠ some y := fun v xs hi y e e2 => by
        obtain ⟨cc, hc⟩ := hi.ty y e
        obtain ⟨cd, hd⟩ := fV2.ty y e2
        exact ty_ne hc hd (by decide) rfl
      have nV3 : IR 2 V3 (.slice a1 (T.length + 1) c1) (nsT T ++ [nx]) := nV2.kept fun y e => kp3.block y (nV2.lt y e) (fun e2 => e2.elim (fun e3 => n1lw (e3 ▸ e)) (fun e3 => fne _ _ nV2 y e e3))
      have zV3 : IR 2 V3 (.slice a2' (T.length + 1) c2') (zsT T ++ [s.si]) := ir2.kept fun y e => kp3.block y (ir2.lt y e) (fun e2 => e2.elim (fun e3 => z2lw (e3 ▸ e)) (fun e3 => fne _ _ ir2 y e e3))
      have nz3 : ∀ g, (Value.slice a1 (T.length + 1) c1).ownBlock = some g → (Value.slice a2' (T.length + 1) c2').ownBlock ≠ some g := fun g e e2 => by
        rcases ow2 with q2 | q2
        · rw [q2] at e2
          rcases ow1 with q1 | q1
          · rw [q1] at e; exact hnz g e e2
          · have := q1 g e; have := hzl g e2; omega
        · have := q2 g e2; have := n1lt g e; omega
      have K5 : Kp (fun x => x = lw ∨ nv.ownBlock = some x ∨ zv.ownBlock = some x ∨ fv.ownBlock = some x) wc V3 := (k4.mono fun x _ e => .inl e).trans ((kp1.mono fun x _ e => e.elim .inl (fun e => .inr (.inl e))).trans ((kp2.mono fun x _ e => e.elim .inl (fun e => .inr (.inr (.inl e)))).trans (kp3.mono fun x _ e => e.elim .inl (fun e => .inr (.inr (.inr e))))))
      have bl3' : Blk V3 lw (ldc b (.slice a1 (T.length + 1) c1) (.slice a2' (T.length + 1) c2') (.slice a3 (T.length + 1) c3) (l.ne + 1) l.op) 60 := by rw [← hnx]; exact bl3
      have hfin0 := AddM.fin h hT am hmay V3 _ _ _ bl3' nV3 zV3 ir3 nz3 K5 (ow1.imp id (fun f g e => Nat.le_trans s4 (f g e))) (ow2.imp id (fun f g e => by have := f g e; omega)) (ow3.imp id (fun f g e => by have := f g e; omega))
      have hfin := hfin0.mono fun e w' d => d.weak (D' := fun x => x = l.addBy (s.at_ nx)) fun x hx => by
        show x = l.addBy (s.at_ nx)
        unfold Lg.addBy
        rw [if_pos hmay, if_pos hco]
        exact hx
      obtain ⟨na, nc, hnv⟩ : ∃ a c, nv = .slice a T.length c := by obtain ⟨a, c, e⟩ := shp _ _ _ n4; rw [lenN] at e; exact ⟨a, c, e⟩
      obtain ⟨za, zc, hzv⟩ : ∃ a c, zv = .slice a T.length c := by obtain ⟨a, c, e⟩ := shp _ _ _ z4; rw [lenZ] at e; exact ⟨a, c, e⟩
      obtain ⟨fa3, fc3, hfv⟩ : ∃ a c, fv = .slice a T.length c := by obtain ⟨a, c, e⟩ := shp _ _ _ fz4; rw [lenF] at e; exact ⟨a, c, e⟩
      rw [← hnx] at x1
      have v4 : wc.cell? ⟨lw, 4, none⟩ = some (.int .i64 nx) := x1.cell 4 _ rfl
      have f4 := x1.thaw 4
      have cco : W4.cell? ⟨bd, 4, none⟩ = some (.bool true) := by
        have := bd4.cell 4 _ rfl
        have e : s.co = true := hco
        rw [e] at this
        exact this
      have hFIN := hide hfin
      have o1 : W4.cell? ⟨lw, 1, none⟩ = some nv := ld4.cell 1 _ rfl
      have o1A : (W4.alloc (.cells #[.int .i64 nx] 2)).cell? ⟨lw, 1, none⟩ = some nv := (ld4.alloc _).cell 1 _ rfl
      have o1P : P1.cell? ⟨lw, 1, none⟩ = some nv := b1.cell 1 _ rfl
      have t1P := b1.thaw 1
      have o2 : V1.cell? ⟨lw, 2, none⟩ = some zv := bl1'.cell 2 _ rfl
      have o2A : (V1.alloc (.cells #[.int .i64 s.si] 2)).cell? ⟨lw, 2, none⟩ = some zv := (bl1'.alloc _).cell 2 _ rfl
      have o2P : P2.cell? ⟨lw, 2, none⟩ = some zv := b2.cell 2 _ rfl
      have t2P := b2.thaw 2
      have o3 : V2.cell? ⟨lw, 3, none⟩ = some fv := bl2'.cell 3 _ rfl
      have o3P : P3.cell? ⟨lw, 3, none⟩ = some fv := b3'.cell 3 _ rfl
      have t3P := b3'.thaw 3
      have q10 : W4.drew.cell? ⟨bd, 0, none⟩ = some (.int .i64 nx) := bd4.drew.cell 0 _ rfl
      have q10A : (W4.drew.alloc (.cells #[.int .i64 nx] 2)).cell? ⟨bd, 0, none⟩ = some (.int .i64 nx) := (bd4.drew.alloc _).cell 0 _ rfl
      have q10S : (P1.setCell ⟨lw, 1, none⟩ (.slice a1 (T.length + 1) c1)).cell? ⟨bd, 0, none⟩ = some (.int .i64 nx) := by rw [← hV1]; exact bdV1.cell 0 _ rfl
      have q10P : P1.cell? ⟨bd, 0, none⟩ = some (.int .i64 nx) := by
        have hb : Blk P1 bd #[.int .i64 nx, .int .i64 s.ti, .int .i64 s.si, .bool s.el, .bool s.co, .bool s.pr, .int .i64 s.tl, .slice a2 s.fs.length c2] 46 := by
          have e := set_heap P1 lw 1 (.slice a1 (T.length + 1) c1) bd (Ne.symm hne)
          rw [← hV1] at e
          exact e.symm.trans bdV1
        exact hb.cell 0 _ rfl
      have q11 : V1.drew.cell? ⟨bd, 2, none⟩ = some (.int .i64 s.si) := bdV1.drew.cell 2 _ rfl
      have q11A : (V1.drew.alloc (.cells #[.int .i64 s.si] 2)).cell? ⟨bd, 2, none⟩ = some (.int .i64 s.si) := (bdV1.drew.alloc _).cell 2 _ rfl
      have q11S : (P2.setCell ⟨lw, 2, none⟩ (.slice a2' (T.length + 1) c2')).cell? ⟨bd, 2, none⟩ = some (.int .i64 s.si) := by rw [← hV2]; exact bdV2.cell 2 _ rfl
      have q11P : P2.cell? ⟨bd, 2, none⟩ = some (.int .i64 s.si) := by
        have hb : Blk P2 bd #[.int .i64 nx, .int .i64 s.ti, .int .i64 s.si, .bool s.el, .bool s.co, .bool s.pr, .int .i64 s.tl, .slice a2 s.fs.length c2] 46 := by
          have e := set_heap P2 lw 2 (.slice a2' (T.length + 1) c2') bd (Ne.symm hne)
          rw [← hV2] at e
          exact e.symm.trans bdV2
        exact hb.cell 2 _ rfl
      clear hfin K5 nz3 zV3 nV3 fne z2lw bl3 bl3' ir3 kp3 ow3 bdV2 fV2 nV2 n1lw n1lt ir2 bl2 bl2' kp2 ow2 fV1 zV1 bdV1 ir1 bl1 bl1' kp1 ow1 b1 b2 b3' n4 z4 fz4 ld4 bd4 k4 keepR rows rn rz far am hmay x1 x2 x3 h hco shp hnl hzl hfl hnz D s4 s5 s6 lenN lenZ lenF sw hbd2 hnx lT hT B3 SY
      replace hV1 := hide hV1
      replace hV2 := hide hV2
      replace hV3 := hide hV3
      generalize T.length = K at *
      subst hnv
      subst hzv
      subst hfv
      go_upto_region 9 with fail
      rw [← hW4]
      replace hW4 := hide hW4
      clear v4 f4
      go_upto_region 10 with fail
      go_cut [] (fun wd => wd = V1)
      case first =>
        refine wp_region_held_drew (S := fun Z => Z.cell? ⟨bd, 0, none⟩ = some (.int .i64 nx)) (by kernel_rfl) q10 (fun hHeld => ?_)
        refine wpAnyH_take (i := 0) (v := ?_) rfl (by as_aux_lemma => kernel_rfl) (by as_aux_lemma => kernel_rfl) (by as_aux_lemma => kernel_rfl) (fun _ _ _ h => h) (Or.inl ⟨by rfl, ?_⟩) (by assumption) ?_
        rotate_left
        · intro wH hSw
          try dsimp only at hSw
          go_simp
          try with_reducible rfl
        try simp only [Act.put, List.setIfInBounds_toArray, List.set_cons_zero, List.set_cons_succ]
        refine wpAnyH_take (i := 1) (v := ?_) rfl (by as_aux_lemma => kernel_rfl) (by as_aux_lemma => kernel_rfl) (by as_aux_lemma => kernel_rfl) (fun _ _ _ h => h) (Or.inl ⟨by rfl, ?_⟩) (by assumption) ?_
        rotate_left
        · intro wH hSw
          try dsimp only at hSw
          go_simp
          try with_reducible rfl
        try simp only [Act.put, List.setIfInBounds_toArray, List.set_cons_zero, List.set_cons_succ]
        refine wpAnyH_take (i := 2) (v := ?_) rfl (by as_aux_lemma => kernel_rfl) (by as_aux_lemma => kernel_rfl) (by as_aux_lemma => kernel_rfl) (fun _ _ _ h => h) (Or.inl ⟨by rfl, ?_⟩) (by assumption) ?_
        rotate_left
        · intro wH hSw
          try dsimp only at hSw
          go_simp
          try with_reducible rfl
        try simp only [Act.put, List.setIfInBounds_toArray, List.set_cons_zero, List.set_cons_succ]
        refine wpAnyH_take (i := 3) (v := ?_) rfl (by as_aux_lemma => kernel_rfl) (by as_aux_lemma => kernel_rfl) (by as_aux_lemma => kernel_rfl) (fun _ _ _ h => h) (Or.inl ⟨by rfl, ?_⟩) (by assumption) ?_
        rotate_left
        · intro wH hSw
          try dsimp only at hSw
          go_simp
          try with_reducible rfl
        try simp only [Act.put, List.setIfInBounds_toArray, List.set_cons_zero, List.set_cons_succ]
        refine wpAnyH_take (i := 5) (v := ?_) rfl (by as_aux_lemma => kernel_rfl) (by as_aux_lemma => kernel_rfl) (by as_aux_lemma => kernel_rfl) (fun _ _ _ h => h) (Or.inl ⟨by rfl, ?_⟩) (by assumption) ?_
        rotate_left
        · intro wH hSw
          try dsimp only at hSw
          go_simp
          try with_reducible rfl
        try simp only [Act.put, List.setIfInBounds_toArray, List.set_cons_zero, List.set_cons_succ]
        refine wpAnyH_take (i := 6) (v := ?_) rfl (by as_aux_lemma => kernel_rfl) (by as_aux_lemma => kernel_rfl) (by as_aux_lemma => kernel_rfl) (fun _ _ _ h => h) (Or.inl ⟨by rfl, ?_⟩) (by assumption) ?_
        rotate_left
        · intro wH hSw
          try dsimp only at hSw
          go_simp
          try with_reducible rfl
        try simp only [Act.put, List.setIfInBounds_toArray, List.set_cons_zero, List.set_cons_succ]
        refine wpAnyH_ready (rs := [4, 7]) (by as_aux_lemma => kernel_rfl) (by simp) ?_
        refine AllReadyH.cons rfl (fun KH hKH => ?_) (AllReadyH.cons rfl (fun KH hKH => ?_) AllReadyH.nil)
        · go_simp
          refine hKH.out _ _ q10 (fun hHeld4 => ?_)
          clear hKH KH
          try simp only [Act.put, List.setIfInBounds_toArray, List.set_cons_zero, List.set_cons_succ]
          refine wpAnyH_ready (rs := [7]) (by as_aux_lemma => kernel_rfl) (by simp) ?_
          refine AllReadyH.cons rfl (fun KH hKH => ?_) AllReadyH.nil
          go_simp
          refine hKH.out _ _ q10A (fun hHeld7 => ?_)
          clear hKH KH
          try simp only [Act.put, List.setIfInBounds_toArray, List.set_cons_zero, List.set_cons_succ]
          refine wpAnyH_ready (rs := [8]) (by as_aux_lemma => kernel_rfl) (by simp) ?_
          refine AllReadyH.cons rfl (fun KH hKH => ?_) AllReadyH.nil
          refine step_append_run rfl (Operand.tmp 51) (Operand.tmp 54) 48 48 rfl (.slice na K nc) (.slice (some ⟨W4.drew.heap.size, 0, none⟩) 1 1) rfl rfl hap1 ?_
          refine hKH.out _ _ q10P (fun hHeld8 => ?_)
          clear hKH KH
          try simp only [Act.put, List.setIfInBounds_toArray, List.set_cons_zero, List.set_cons_succ]
          refine wpAnyH_ready (rs := [9]) (by as_aux_lemma => kernel_rfl) (by simp) ?_
          refine AllReadyH.cons rfl (fun KH hKH => ?_) AllReadyH.nil
          go_simp
          refine hKH.out _ _ q10P (fun hHeld9 => ?_)
          clear hKH KH
          try simp only [Act.put, List.setIfInBounds_toArray, List.set_cons_zero, List.set_cons_succ]
          refine wpAnyH_ready (rs := [10]) (by as_aux_lemma => kernel_rfl) (by simp) ?_
          refine AllReadyH.cons rfl (fun KH hKH => ?_) AllReadyH.nil
          go_simp
          refine hKH.out _ _ q10P (fun hHeld10 => ?_)
          clear hKH KH
          try simp only [Act.put, List.setIfInBounds_toArray, List.set_cons_zero, List.set_cons_succ]
          refine wpAnyH_ready (rs := [11]) (by as_aux_lemma => kernel_rfl) (by simp) ?_
          refine AllReadyH.cons rfl (fun KH hKH => ?_) AllReadyH.nil
          go_simp
          refine hKH.out _ _ q10S (fun hHeld11 => ?_)
          clear hKH KH
          try simp only [Act.put, List.setIfInBounds_toArray, List.set_cons_zero, List.set_cons_succ]
          refine wpAnyH_done (by as_aux_lemma => kernel_rfl) ?_ _
          rw [← unhide hV1]
          try go_wp2_with fail
          go_meet
          rfl
        · go_simp
          refine hKH.out _ _ q10A (fun hHeld7 => ?_)
          clear hKH KH
          try simp only [Act.put, List.setIfInBounds_toArray, List.set_cons_zero, List.set_cons_succ]
          refine wpAnyH_ready (rs := [4]) (by as_aux_lemma => kernel_rfl) (by simp) ?_
          refine AllReadyH.cons rfl (fun KH hKH => ?_) AllReadyH.nil
          go_simp
          refine hKH.out _ _ q10A (fun hHeld4 => ?_)
          clear hKH KH
          try simp only [Act.put, List.setIfInBounds_toArray, List.set_cons_zero, List.set_cons_succ]
          refine wpAnyH_ready (rs := [8]) (by as_aux_lemma => kernel_rfl) (by simp) ?_
          refine AllReadyH.cons rfl (fun KH hKH => ?_) AllReadyH.nil
          refine step_append_run rfl (Operand.tmp 51) (Operand.tmp 54) 48 48 rfl (.slice na K nc) (.slice (some ⟨W4.drew.heap.size, 0, none⟩) 1 1) rfl rfl hap1 ?_
          refine hKH.out _ _ q10P (fun hHeld8 => ?_)
          clear hKH KH
          try simp only [Act.put, List.setIfInBounds_toArray, List.set_cons_zero, List.set_cons_succ]
          refine wpAnyH_ready (rs := [9]) (by as_aux_lemma => kernel_rfl) (by simp) ?_
          refine AllReadyH.cons rfl (fun KH hKH => ?_) AllReadyH.nil
          go_simp
          refine hKH.out _ _ q10P (fun hHeld9 => ?_)
          clear hKH KH
          try simp only [Act.put, List.setIfInBounds_toArray, List.set_cons_zero, List.set_cons_succ]
          refine wpAnyH_ready (rs := [10]) (by as_aux_lemma => kernel_rfl) (by simp) ?_
          refine AllReadyH.cons rfl (fun KH hKH => ?_) AllReadyH.nil
          go_simp
          refine hKH.out _ _ q10P (fun hHeld10 => ?_)
          clear hKH KH
          try simp only [Act.put, List.setIfInBounds_toArray, List.set_cons_zero, List.set_cons_succ]
          refine wpAnyH_ready (rs := [11]) (by as_aux_lemma => kernel_rfl) (by simp) ?_
          refine AllReadyH.cons rfl (fun KH hKH => ?_) AllReadyH.nil
          go_simp
          refine hKH.out _ _ q10S (fun hHeld11 => ?_)
          clear hKH KH
          try simp only [Act.put, List.setIfInBounds_toArray, List.set_cons_zero, List.set_cons_succ]
          refine wpAnyH_done (by as_aux_lemma => kernel_rfl) ?_ _
          rw [← unhide hV1]
          try go_wp2_with fail
          go_meet
          rfl
      case rest =>
        rw [hcut]
        clear hcut
        clear q10 q10A q10P q10S hap1 o1 o1A o1P t1P
        go_upto_region 11 with fail
        go_cut [] (fun wd => wd = V2)
        case first =>
          refine wp_region_held_drew (S := fun Z => Z.cell? ⟨bd, 2, none⟩ = some (.int .i64 s.si)) (by kernel_rfl) q11 (fun hHeld => ?_)
          refine wpAnyH_take (i := 0) (v := ?_) rfl (by as_aux_lemma => kernel_rfl) (by as_aux_lemma => kernel_rfl) (by as_aux_lemma => kernel_rfl) (fun _ _ _ h => h) (Or.inl ⟨by rfl, ?_⟩) (by assumption) ?_
          rotate_left
          · intro wH hSw
            try dsimp only at hSw
            go_simp
            try with_reducible rfl
          try simp only [Act.put, List.setIfInBounds_toArray, List.set_cons_zero, List.set_cons_succ]
          refine wpAnyH_take (i := 1) (v := ?_) rfl (by as_aux_lemma => kernel_rfl) (by as_aux_lemma => kernel_rfl) (by as_aux_lemma => kernel_rfl) (fun _ _ _ h => h) (Or.inl ⟨by rfl, ?_⟩) (by assumption) ?_
          rotate_left
          · intro wH hSw
            try dsimp only at hSw
            go_simp
            try with_reducible rfl
          try simp only [Act.put, List.setIfInBounds_toArray, List.set_cons_zero, List.set_cons_succ]
          refine wpAnyH_take (i := 2) (v := ?_) rfl (by as_aux_lemma => kernel_rfl) (by as_aux_lemma => kernel_rfl) (by as_aux_lemma => kernel_rfl) (fun _ _ _ h => h) (Or.inl ⟨by rfl, ?_⟩) (by assumption) ?_
          rotate_left
          · intro wH hSw
            try dsimp only at hSw
            go_simp
            try with_reducible rfl
          try simp only [Act.put, List.setIfInBounds_toArray, List.set_cons_zero, List.set_cons_succ]
          refine wpAnyH_take (i := 3) (v := ?_) rfl (by as_aux_lemma => kernel_rfl) (by as_aux_lemma => kernel_rfl) (by as_aux_lemma => kernel_rfl) (fun _ _ _ h => h) (Or.inl ⟨by rfl, ?_⟩) (by assumption) ?_
          rotate_left
          · intro wH hSw
            try dsimp only at hSw
            go_simp
            try with_reducible rfl
          try simp only [Act.put, List.setIfInBounds_toArray, List.set_cons_zero, List.set_cons_succ]
          refine wpAnyH_take (i := 5) (v := ?_) rfl (by as_aux_lemma => kernel_rfl) (by as_aux_lemma => kernel_rfl) (by as_aux_lemma => kernel_rfl) (fun _ _ _ h => h) (Or.inl ⟨by rfl, ?_⟩) (by assumption) ?_
          rotate_left
          · intro wH hSw
            try dsimp only at hSw
            go_simp
            try with_reducible rfl
          try simp only [Act.put, List.setIfInBounds_toArray, List.set_cons_zero, List.set_cons_succ]
          refine wpAnyH_take (i := 6) (v := ?_) rfl (by as_aux_lemma => kernel_rfl) (by as_aux_lemma => kernel_rfl) (by as_aux_lemma => kernel_rfl) (fun _ _ _ h => h) (Or.inl ⟨by rfl, ?_⟩) (by assumption) ?_
          rotate_left
          · intro wH hSw
            try dsimp only at hSw
            go_simp
            try with_reducible rfl
          try simp only [Act.put, List.setIfInBounds_toArray, List.set_cons_zero, List.set_cons_succ]
          refine wpAnyH_ready (rs := [4, 7]) (by as_aux_lemma => kernel_rfl) (by simp) ?_
          refine AllReadyH.cons rfl (fun KH hKH => ?_) (AllReadyH.cons rfl (fun KH hKH => ?_) AllReadyH.nil)
          · go_simp
            refine hKH.out _ _ q11 (fun hHeld4 => ?_)
            clear hKH KH
            try simp only [Act.put, List.setIfInBounds_toArray, List.set_cons_zero, List.set_cons_succ]
            refine wpAnyH_ready (rs := [7]) (by as_aux_lemma => kernel_rfl) (by simp) ?_
            refine AllReadyH.cons rfl (fun KH hKH => ?_) AllReadyH.nil
            go_simp
            refine hKH.out _ _ q11A (fun hHeld7 => ?_)
            clear hKH KH
            try simp only [Act.put, List.setIfInBounds_toArray, List.set_cons_zero, List.set_cons_succ]
            refine wpAnyH_ready (rs := [8]) (by as_aux_lemma => kernel_rfl) (by simp) ?_
            refine AllReadyH.cons rfl (fun KH hKH => ?_) AllReadyH.nil
            refine step_append_run rfl (Operand.tmp 62) (Operand.tmp 65) 48 48 rfl (.slice za K zc) (.slice (some ⟨V1.drew.heap.size, 0, none⟩) 1 1) rfl rfl hap2 ?_
            refine hKH.out _ _ q11P (fun hHeld8 => ?_)
            clear hKH KH
            try simp only [Act.put, List.setIfInBounds_toArray, List.set_cons_zero, List.set_cons_succ]
            refine wpAnyH_ready (rs := [9]) (by as_aux_lemma => kernel_rfl) (by simp) ?_
            refine AllReadyH.cons rfl (fun KH hKH => ?_) AllReadyH.nil
            go_simp
            refine hKH.out _ _ q11P (fun hHeld9 => ?_)
            clear hKH KH
            try simp only [Act.put, List.setIfInBounds_toArray, List.set_cons_zero, List.set_cons_succ]
            refine wpAnyH_ready (rs := [10]) (by as_aux_lemma => kernel_rfl) (by simp) ?_
            refine AllReadyH.cons rfl (fun KH hKH => ?_) AllReadyH.nil
            go_simp
            refine hKH.out _ _ q11P (fun hHeld10 => ?_)
            clear hKH KH
            try simp only [Act.put, List.setIfInBounds_toArray, List.set_cons_zero, List.set_cons_succ]
            refine wpAnyH_ready (rs := [11]) (by as_aux_lemma => kernel_rfl) (by simp) ?_
            refine AllReadyH.cons rfl (fun KH hKH => ?_) AllReadyH.nil
            go_simp
            refine hKH.out _ _ q11S (fun hHeld11 => ?_)
            clear hKH KH
            try simp only [Act.put, List.setIfInBounds_toArray, List.set_cons_zero, List.set_cons_succ]
            refine wpAnyH_done (by as_aux_lemma => kernel_rfl) ?_ _
            rw [← unhide hV2]
            try go_wp2_with fail
            go_meet
            rfl
          · go_simp
            refine hKH.out _ _ q11A (fun hHeld7 => ?_)
            clear hKH KH
            try simp only [Act.put, List.setIfInBounds_toArray, List.set_cons_zero, List.set_cons_succ]
            refine wpAnyH_ready (rs := [4]) (by as_aux_lemma => kernel_rfl) (by simp) ?_
            refine AllReadyH.cons rfl (fun KH hKH => ?_) AllReadyH.nil
            go_simp
            refine hKH.out _ _ q11A (fun hHeld4 => ?_)
            clear hKH KH
            try simp only [Act.put, List.setIfInBounds_toArray, List.set_cons_zero, List.set_cons_succ]
            refine wpAnyH_ready (rs := [8]) (by as_aux_lemma => kernel_rfl) (by simp) ?_
            refine AllReadyH.cons rfl (fun KH hKH => ?_) AllReadyH.nil
            refine step_append_run rfl (Operand.tmp 62) (Operand.tmp 65) 48 48 rfl (.slice za K zc) (.slice (some ⟨V1.drew.heap.size, 0, none⟩) 1 1) rfl rfl hap2 ?_
            refine hKH.out _ _ q11P (fun hHeld8 => ?_)
            clear hKH KH
            try simp only [Act.put, List.setIfInBounds_toArray, List.set_cons_zero, List.set_cons_succ]
            refine wpAnyH_ready (rs := [9]) (by as_aux_lemma => kernel_rfl) (by simp) ?_
            refine AllReadyH.cons rfl (fun KH hKH => ?_) AllReadyH.nil
            go_simp
            refine hKH.out _ _ q11P (fun hHeld9 => ?_)
            clear hKH KH
            try simp only [Act.put, List.setIfInBounds_toArray, List.set_cons_zero, List.set_cons_succ]
            refine wpAnyH_ready (rs := [10]) (by as_aux_lemma => kernel_rfl) (by simp) ?_
            refine AllReadyH.cons rfl (fun KH hKH => ?_) AllReadyH.nil
            go_simp
            refine hKH.out _ _ q11P (fun hHeld10 => ?_)
            clear hKH KH
            try simp only [Act.put, List.setIfInBounds_toArray, List.set_cons_zero, List.set_cons_succ]
            refine wpAnyH_ready (rs := [11]) (by as_aux_lemma => kernel_rfl) (by simp) ?_
            refine AllReadyH.cons rfl (fun KH hKH => ?_) AllReadyH.nil
            go_simp
            refine hKH.out _ _ q11S (fun hHeld11 => ?_)
            clear hKH KH
            try simp only [Act.put, List.setIfInBounds_toArray, List.set_cons_zero, List.set_cons_succ]
            refine wpAnyH_done (by as_aux_lemma => kernel_rfl) ?_ _
            rw [← unhide hV2]
            try go_wp2_with fail
            go_meet
            rfl
        case rest =>
          rw [hcut]
          clear hcut
          clear q11 q11A q11P q11S hap2 o2 o2A o2P t2P
          go_wp2_with (at_builtin; refine wpList_append_run _ rfl _ _ 58 58 rfl _ _ rfl rfl hap3 ?_)
          rw [← unhide hV3]
          refine (unhide hFIN).mono ?_
          intro e w' hP
          obtain ⟨R', nv', zv', fv', kv', va', l', T', rfl, rest⟩ := hP
          have FIN := hide rest
          clear hFIN rest
          go_wp2_with fail
          go_ret
          exact ⟨R', nv', zv', fv', kv', va', l', T', rfl, unhide FIN⟩
end
end Go.Proofs.YtnflbefbgcbdfaaGreat
