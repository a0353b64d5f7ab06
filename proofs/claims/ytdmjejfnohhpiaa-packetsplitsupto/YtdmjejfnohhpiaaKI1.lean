/- KI1, KI2, KI3, KJ1, KJ2, KWB, KJ3, KJ4, one text. -/
import Derived.Test.YtdmjejfnohhpiaaKF1
import Derived.Test.YtdmjejfnohhpiaaK8
import Derived.Test.YtdmjejfnohhpiaaKD7
import Derived.Deep.DeepCutAuto
import Derived.WalkMore
import Derived.Deep.RegionHeld3
import Derived.Deep.RegionHeldLaw
namespace Go.Proofs.Ytdmjejfnohhpiaa
open Go.RowKit
open Sp (sepV Sep3 sep_nil sep_nil_r)
set_option linter.unusedVariables false
set_option maxRecDepth 100000
set_option maxHeartbeats 1000000

structure PRow0 (B : Nat) (w : World) (lv : Value) (ps : List PV) : Prop where
  row : w.ownsRow B 24 6 lv ps.length (ps.flatMap PV.cl)
  own : ∀ x ∈ ps, x.In B w
theorem PRow0.kpt {B : Nat} {w w' : World} {lv : Value} {ps : List PV} (h : PRow0 B w lv ps) (hk : ∀ g, B ≤ g → g < w.heap.size → w'.heap[g]? = w.heap[g]?) : PRow0 B w' lv ps :=
  ⟨row_kpt h.row (fun g h1 h2 _ => hk g h1 h2), fun x hx => (h.own x hx).kpt (fun g v n xs ho e => hk g (ho.lt g e).1 (ho.lt g e).2)⟩
theorem PRow0.grown {B : Nat} {w w' : World} {lv : Value} {ps : List PV} (h : PRow0 B w lv ps) (g : w.grownBy w' none) : PRow0 B w' lv ps := h.kpt (fun i _ hi => g.block i hi (by simp))
theorem PRow0.nil (B : Nat) (w : World) : PRow0 B w nilV [] := ⟨World.ownsRow_nil _ _ _ _, by simp⟩
theorem PRow.zero {B : Nat} {w : World} {lv : Value} {ps : List PV} (h : PRow B w lv ps) : PRow0 B w lv ps := ⟨h.row, h.own⟩
theorem row_mono {base base' size n : Nat} {e : TypeId} {w : World} {v : Value} {xs : List Value} (h : w.ownsRow base e size v n xs) (hb : base' ≤ base) : w.ownsRow base' e size v n xs := by
  refine ⟨h.1, ?_⟩
  rcases h.2 with h2 | ⟨g, cap, cur, e1, q1, q2⟩
  · exact .inl h2
  · exact .inr ⟨g, cap, cur, e1, Nat.le_trans hb q1, q2⟩
theorem PRow0.mono {B B' : Nat} {w : World} {lv : Value} {ps : List PV} (h : PRow0 B w lv ps) (hb : B' ≤ B) : PRow0 B' w lv ps :=
  ⟨row_mono h.row hb, fun x hx => ⟨(h.own x hx).d.mono hb, (h.own x hx).s.mono hb, (h.own x hx).y.mono hb, (h.own x hx).ld, (h.own x hx).ls, (h.own x hx).ly⟩⟩
/-- One packet more. -/
theorem PRow0.push {B : Nat} {w : World} {lv : Value} {ps : List PV} (h : PRow0 B w lv ps) (x : PV) (hx : x.In B w) (few : ps.length ≤ 1000000000) (hB : B ≤ w.heap.size) :
    ∃ g c w', (Builtin.append_ #[48, 48] 48 #[lv, .slice (some ⟨w.heap.size, 0, none⟩) 1 1]).run Try.prog (w.alloc (.cells (x.p.cs x.d x.s x.y) 24)) = .ok (.slice (some ⟨g, 0, none⟩) (ps.length + 1) c) w'
      ∧ PRow0 B w' (.slice (some ⟨g, 0, none⟩) (ps.length + 1) c) (ps ++ [x]) ∧ Below B w w' := by
  obtain ⟨inf, hi0, hz0, hz1, hz2⟩ := info_parts Try.infoP
  have h1 := h.grown (World.grownBy_alloc w (.cells (x.p.cs x.d x.s x.y) 24) none)
  have hx1 : x.In B (w.alloc (.cells (x.p.cs x.d x.s x.y) 24)) := hx.kpt (fun g v n xs ho e => (World.grownBy_alloc w _ none).block g (ho.lt g e).2 (by simp))
  have hsz := alloc_size w (.cells (x.p.cs x.d x.s x.y) 24)
  have hnews : ∀ (i : Nat) u, x.cl[i]? = some u → (w.alloc (.cells (x.p.cs x.d x.s x.y) 24)).cell? ((⟨w.heap.size, 0, none⟩ : Addr).add i) = some u := fun i u hu => by
    rw [show (⟨w.heap.size, 0, none⟩ : Addr).add i = ⟨w.heap.size, i, none⟩ by simp [Addr.add]; exact fun e => e.symm]
    simp only [World.cell?, heap_alloc_new]
    rw [← hu]
    simp [PV.cl]
  have one : ∀ u ∈ x.cl, u.oneCell' = true := fun u hu => by
    simp only [PV.cl, List.mem_cons, List.not_mem_nil, or_false] at hu
    rcases hu with rfl | rfl | rfl | rfl | rfl | rfl
    · rfl
    · exact hx.d.one
    · exact hx.s.one
    · rfl
    · rfl
    · exact hx.y.one
  obtain ⟨v5, W5, hrun, o5, g5, -⟩ := run_append_own (P := Try.prog) (w.alloc (.cells (x.p.cs x.d x.s x.y) 24)) B 48 48 24 inf (.agg (pcs 0 nilV nilV 0 0 nilV)) 6 96 Try.underlying48 hi0 hz0 hz1 hz2 rfl (by decide) lv ps.length (ps.flatMap PV.cl) h1.row ⟨w.heap.size, 0, none⟩ 1 1 x.cl rfl hnews one (by unfold maxLen; omega) (by omega) (by omega)
  obtain ⟨h5, c5, rfl⟩ : ∃ h5 c5, v5 = .slice (some ⟨h5, 0, none⟩) (ps.length + 1) c5 := by
    rcases o5.2 with ⟨-, e⟩ | ⟨g6, cap, cur, e, -⟩
    · omega
    · exact ⟨g6, cap, e⟩
  have keep : ∀ g v n xs, (w.alloc (.cells (x.p.cs x.d x.s x.y) 24)).ownsRow B 5 1 v n xs → v.ownBlock = some g → W5.heap[g]? = (w.alloc (.cells (x.p.cs x.d x.s x.y) 24)).heap[g]? := fun g v n xs ho e =>
    g5.block g (ho.lt g e).2 (row_ne ho h1.row (by decide) e)
  refine ⟨h5, c5, W5, hrun, ⟨?_, ?_⟩, ?_⟩
  · have e1 : (ps ++ [x]).length = ps.length + 1 := by simp
    have e2 : (ps ++ [x]).flatMap PV.cl = ps.flatMap PV.cl ++ x.cl := by simp
    rw [e1, e2]; exact o5
  · intro q hq
    rcases List.mem_append.1 hq with hq | hq
    · exact (h1.own q hq).kpt keep
    · simp only [List.mem_singleton] at hq; subst hq
      exact hx1.kpt keep
  · exact ((Below.refl B w).alloc hB _).grown g5 (by omega) (fun k e => (h1.row.lt k e).1)


theorem sep_push {ps : List PV} (x : PV) (h : (ps.flatMap PV.vl).Pairwise sepV) (hs : Sep3 x.d x.s x.y) (hn : ∀ v ∈ ps.flatMap PV.vl, ∀ u ∈ x.vl, sepV v u) : ((ps ++ [x]).flatMap PV.vl).Pairwise sepV := by
  rw [show (ps ++ [x]).flatMap PV.vl = ps.flatMap PV.vl ++ x.vl by simp, List.pairwise_append]
  refine ⟨h, ?_, fun v hv u hu => hn v hv u hu⟩
  show List.Pairwise sepV [x.d, x.s, x.y]
  simp only [List.pairwise_cons, List.mem_cons, List.not_mem_nil, or_false, forall_eq_or_imp, forall_eq, List.Pairwise.nil, and_true, false_implies, implies_true]
  exact ⟨⟨hs.1, hs.2.1⟩, hs.2.2⟩

/-- A datagram, read from 'at' on. -/
def splF (l : List Int) (n : Int) (G : Lg) : Nat → Nat → List Pk × Nat
  | 0, at_ => ([], at_)
  | f + 1, at_ => if at_ < l.length ∧ (decP l at_ n G).2.2 = 0 then
      ((decP l at_ n G).1 :: (splF l n G f (decP l at_ n G).2.1.toNat).1, (splF l n G f (decP l at_ n G).2.1.toNat).2)
    else ([], at_)
theorem splF_end {l : List Int} {n : Int} {G : Lg} {f k : Nat} (h : ¬ (k < l.length ∧ (decP l k n G).2.2 = 0)) : splF l n G f k = ([], k) := by
  cases f with
  | zero => rfl
  | succ f => show (if _ then _ else _) = _; rw [if_neg h]
theorem splF_step {l : List Int} {n : Int} {G : Lg} {f k e : Nat} {p : Pk} (hk : k < l.length) (h : decP l k n G = (p, (e : Int), 0)) : splF l n G (f + 1) k = (p :: (splF l n G f e).1, (splF l n G f e).2) := by
  show (if _ then _ else _) = _
  rw [if_pos ⟨hk, by rw [h]⟩, h]
  simp

structure Good1 (p : Pk) : Prop where
  bd : ∀ x ∈ p.dst, IsB x
  bs : ∀ x ∈ p.src, IsB x
  by_ : ∀ x ∈ p.payload, IsB x
  ld : p.dst.length ≤ 140737488355000
  ls : p.src.length ≤ 140737488355000
  ly : p.payload.length ≤ 140737488355000
theorem dec_on (l : List Int) (k : Nat) (n : Int) (G : Lg) (hb : ∀ x ∈ l, IsB x) (hl : l.length ≤ 1048576) : (∃ y, y ≠ 0 ∧ decP l k n G = (noP, 0, y)) ∨ ∃ e p, decP l k n G = (p, ((e : Nat) : Int), 0) ∧ k < e ∧ e ≤ l.length ∧ Good1 p := by
  rcases dec_cases l k n G hb with h | ⟨k', m, p, e0, -, -, -, e, g⟩
  · exact .inl h
  · obtain rfl : k = k' := by omega
    exact .inr ⟨m, p, e, g.lt, g.le, ⟨g.bd, g.bs, g.by_, by have := g.d; omega, by have := g.s; omega, by have := g.yl; omega⟩⟩

end Go.Proofs.Ytdmjejfnohhpiaa

namespace Go.Proofs.Ytdmjejfnohhpiaa
open Go.RowKit
open Sp (sepV Sep3 sep_nil sep_nil_r)
set_option linter.unusedVariables false
set_option maxRecDepth 100000
set_option maxHeartbeats 1000000

theorem wpList_append_runQ {P : Program} (w : World) {ops : Array Oper} {rest : List Oper} {o : Oper} {a : Act} {Q : Exit → Act → World → Prop} (hgd : o.guard = none) (d s : Operand) (t t' : TypeId)
    (ho : o.op = .call { callee := .builtin .append, args := #[d, s], argTypes := #[t, t'] }) (v u : Value) (hv : a.eval d = v) (hu : a.eval s = u) {v' : Value} {w' : World}
    (hr : (Builtin.append_ #[t, t'] o.type #[v, u]).run P w = .ok v' w') (h : wpList P ops Q rest (a.put o.dst v') w') : wpList P ops Q (o :: rest) a w := by
  refine wpList_plain hgd fun K hK => ?_
  unfold Oper.wp execOp
  simp only [ho, resolve, invoke, builtin, Sem.run_bind, Sem.run_pure, Result.andThen_ok, List.map_toArray, List.map_cons, List.map_nil, hv, hu, hr]
  exact hK _ _ h

/-- What Split leaves (the document's; the code's: the lists apart). -/
def Spl0 (w : World) (l : List Int) (A : List Pk × Nat) (e : Ending) (w' : World) : Prop :=
  ∃ (a : Option Addr) (m c : Nat) (ps : List PV), e = .returned (.tuple #[.slice a m c, .int .i64 (A.2 : Int)]) ∧ ps.length = m ∧ m ≤ l.length ∧ PRow0 w.heap.size w' (.slice a m c) ps ∧ ps.map PV.p = A.1 ∧ (∀ x ∈ ps, Good1 x.p) ∧ w.grownBy w' none
def SplS (w : World) (l : List Int) (A : List Pk × Nat) (e : Ending) (w' : World) : Prop :=
  ∃ (a : Option Addr) (m c : Nat) (ps : List PV), e = .returned (.tuple #[.slice a m c, .int .i64 (A.2 : Int)]) ∧ ps.length = m ∧ m ≤ l.length ∧ PRow0 w.heap.size w' (.slice a m c) ps ∧ (ps.flatMap PV.vl).Pairwise sepV ∧ ps.map PV.p = A.1 ∧ (∀ x ∈ ps, Good1 x.p) ∧ w.grownBy w' none

theorem split_any (v : Value) (l : List Int) (n : Int) (G : Lg) (w : World) (hv : InB w v l) (hl : l.length ≤ 1048576) :
    Calls Try.prog 30 #[v, .int .i64 n, G.v] w (SplS w l (splF l n G (l.length + 1) 0)) := by
  obtain ⟨a0, c0, rfl, -⟩ := id hv
  have HV := hide hv
  have HBY := hide hv.bytes
  clear hv
  have b0 := Blk.new w #[.int .i64 G.1, .int .i64 G.2.1, .int .i64 G.2.2] 46
  have g0 := World.grownBy_alloc w (.cells #[.int .i64 G.1, .int .i64 G.2.1, .int .i64 G.2.2] 46) none
  have sz0 := alloc_size w (.cells #[.int .i64 G.1, .int .i64 G.2.1, .int .i64 G.2.2] 46)
  have hml : ¬ (9223372036854775807 : Int) < (l.length : Int) := by omega
  generalize hA : splF l n G (l.length + 1) 0 = A at *
  have HA := hide hA
  clear hA
  go_enter Try.func30, Try.ntmps30
  go_wp2_with fail
  have START : Hid (Blk (w.alloc (.cells #[.int .i64 G.1, .int .i64 G.2.1, .int .i64 G.2.2] 46)) w.heap.size #[.int .i64 G.1, .int .i64 G.2.1, .int .i64 G.2.2] 46 ∧ w.grownBy (w.alloc (.cells #[.int .i64 G.1, .int .i64 G.2.1, .int .i64 G.2.2] 46)) none ∧ w.heap.size + 1 ≤ (w.alloc (.cells #[.int .i64 G.1, .int .i64 G.2.1, .int .i64 G.2.2] 46)).heap.size) := ⟨b0, g0, by omega⟩
  clear b0 g0 sz0
  generalize w.alloc (.cells #[.int .i64 G.1, .int .i64 G.2.1, .int .i64 G.2.2] 46) = W0 at *
  go_step3
  go_wp2_with fail
  go_step3
  go_wp2_with fail
  generalize hgG : w.heap.size = gG at *
  have HgG := hide hgG
  clear hgG
  go_loopw [8, 9] (fun lv at_ wr => ∃ (k : Nat) (a : Option Addr) (m c f : Nat) (ps : List PV), k ≤ l.length ∧ at_ = .int .i64 k ∧ lv = .slice a m c ∧ Hid (ps.length = m ∧ m ≤ k ∧ l.length < k + f ∧ A = (ps.map PV.p ++ (splF l n G f k).1, (splF l n G f k).2) ∧ PRow0 (gG + 1) wr (.slice a m c) ps ∧ (ps.flatMap PV.vl).Pairwise sepV ∧ (∀ x ∈ ps, Good1 x.p) ∧ Blk wr gG #[.int .i64 G.1, .int .i64 G.2.1, .int .i64 G.2.2] 46 ∧ w.grownBy wr none ∧ gG + 1 ≤ wr.heap.size)) (fun _ at_ _ => l.length - (intOf at_).toNat)
  case atStart => exact ⟨0, none, 0, 0, l.length + 1, [], Nat.zero_le _, rfl, rfl, rfl, Nat.le_refl _, by omega, by rw [unhide HA]; simp, PRow0.nil _ _, by simp, by simp, (unhide START).1, (unhide START).2.1, (unhide START).2.2⟩
  case round =>
    clear START
    obtain ⟨k, a, m, c, f, ps, hk, rfl, rfl, H⟩ := hrel
    by_cases hlt : k < l.length
    · have kN : (k : Int) < (l.length : Int) := by omega
      obtain ⟨h1, h2, h3, h4, pr, sp, gd1, bG, gr, hB⟩ := unhide H
      have n0 := bG.cell 0 (.int .i64 G.1) rfl
      have n1 := bG.cell 1 (.int .i64 G.2.1) rfl
      have n2 := bG.cell 2 (.int .i64 G.2.2) rfl
      have de : Calls Try.prog 24 #[.slice a0 l.length c0, .int .i64 k, .int .i64 n, G.v] wr (Sp.DecPost wr (decP l k n G)) := Sp.decode_in _ l k n G wr ((unhide HV).grown gr) (by omega)
      have on := dec_on l k n G (unhide HBY) hl
      have HON := hide on
      have DE := hide de
      clear on de h1 h2 h3 h4 pr sp gd1 bG gr hB
      rcases unhide HON with ⟨y, hy, er⟩ | ⟨e1, p, er, lt1, le1, gp⟩
      · rw [er] at DE
        have yb : (y == 0) = false := by simpa using hy
        have yn : (y != 0) = true := by simpa using hy
        have FIN : Hid (∀ W, wr.grownBy W none → SplS w l A (.returned (.tuple #[.slice a m c, .int .i64 (k : Int)])) W) := by
          intro W gW
          obtain ⟨h1, h2, h3, h4, pr, sp, gd1, bG, gr, hB⟩ := unhide H
          rw [splF_end (fun h => by rw [er] at h; exact hy h.2)] at h4
          show ∃ (a' : Option Addr) (m' c' : Nat) (ps : List PV), _
          refine ⟨a, m, c, ps, by rw [h4], h1, by omega, (pr.grown gW).mono (by rw [unhide HgG]; exact Nat.le_succ _), sp, by rw [h4]; simp, gd1, gr.trans gW⟩
        clear H HON er hy
        go_wp2_with fail
        refine (unhide DE).mono ?_
        intro e W3 hd
        obtain ⟨b1, m1, f1, b2, m2, f2, b3, m3, f3, rfl, o1, o2, o3, gd, q1, q2, q3, s3⟩ := hd.parts
        have E := hide (unhide FIN _ (gd.trans (World.grownBy_alloc W3 (.cells (noP.cs (.slice b1 m1 f1) (.slice b2 m2 f2) (.slice b3 m3 f3)) 24) none)))
        clear DE FIN o1 o2 o3 gd q1 q2 q3 hd s3
        go_wp2_with fail
        try rw [Exit.noGoto_ret]
        go_ret2
        exact unhide E
      · rw [er] at DE
        have STEP : Hid (∀ W3 (b1 b2 b3 : Option Addr) (m1 m2 m3 f1 f2 f3 : Nat), wr.grownBy W3 none → OwnB wr.heap.size W3 (.slice b1 m1 f1) p.dst → OwnB wr.heap.size W3 (.slice b2 m2 f2) p.src → OwnB wr.heap.size W3 (.slice b3 m3 f3) p.payload → Sep3 (.slice b1 m1 f1) (.slice b2 m2 f2) (.slice b3 m3 f3) → 
            ∃ g' c' w', (Builtin.append_ #[48, 48] 48 #[.slice a m c, .slice (some ⟨W3.heap.size + 1, 0, none⟩) 1 1]).run Try.prog ((W3.alloc (.cells (p.cs (.slice b1 m1 f1) (.slice b2 m2 f2) (.slice b3 m3 f3)) 24)).alloc (.cells (p.cs (.slice b1 m1 f1) (.slice b2 m2 f2) (.slice b3 m3 f3)) 24)) = .ok (.slice (some ⟨g', 0, none⟩) (m + 1) c') w'
              ∧ ∃ (k' : Nat) (a : Option Addr) (m' c f : Nat) (ps : List PV), k' ≤ l.length ∧ Value.int .i64 (e1 : Int) = .int .i64 k' ∧ Value.slice (some ⟨g', 0, none⟩) (m + 1) c' = .slice a m' c ∧ Hid (ps.length = m' ∧ m' ≤ k' ∧ l.length < k' + f ∧ A = (ps.map PV.p ++ (splF l n G f k').1, (splF l n G f k').2) ∧ PRow0 (gG + 1) w' (.slice a m' c) ps ∧ (ps.flatMap PV.vl).Pairwise sepV ∧ (∀ x ∈ ps, Good1 x.p) ∧ Blk w' gG #[.int .i64 G.1, .int .i64 G.2.1, .int .i64 G.2.2] 46 ∧ w.grownBy w' none ∧ gG + 1 ≤ w'.heap.size)) := by
          intro W3 b1 b2 b3 m1 m2 m3 f1 f2 f3 gd o1 o2 o3 s3
          obtain ⟨h1, h2, h3, h4, pr, sp, gd1, bG, gr, hB⟩ := unhide H
          have gN := World.grownBy_alloc W3 (.cells (p.cs (.slice b1 m1 f1) (.slice b2 m2 f2) (.slice b3 m3 f3)) 24) none
          have sN := alloc_size W3 (.cells (p.cs (.slice b1 m1 f1) (.slice b2 m2 f2) (.slice b3 m3 f3)) 24)
          have gall := gd.trans gN
          have xin : PV.In ⟨p, .slice b1 m1 f1, .slice b2 m2 f2, .slice b3 m3 f3⟩ (gG + 1) (W3.alloc (.cells (p.cs (.slice b1 m1 f1) (.slice b2 m2 f2) (.slice b3 m3 f3)) 24)) :=
            ⟨(o1.far gN (fun q e => by cases e)).mono hB, (o2.far gN (fun q e => by cases e)).mono hB, (o3.far gN (fun q e => by cases e)).mono hB, gp.ld, gp.ls, gp.ly⟩
          obtain ⟨g', c', w', hrun, pr', bl⟩ := (pr.grown gall).push ⟨p, .slice b1 m1 f1, .slice b2 m2 f2, .slice b3 m3 f3⟩ xin (by omega) (Nat.le_trans hB gall.size)
          rw [sN] at hrun
          rw [h1] at hrun pr'
          obtain ⟨f, rfl⟩ : ∃ f', f = f' + 1 := ⟨f - 1, by omega⟩
          rw [splF_step hlt er] at h4
          refine ⟨g', c', w', hrun, e1, some ⟨g', 0, none⟩, m + 1, c', f, ps ++ [⟨p, .slice b1 m1 f1, .slice b2 m2 f2, .slice b3 m3 f3⟩], le1, rfl, rfl, by simp [h1], by omega, by omega, by rw [h4]; simp, pr', ?_, ?_, (bl.block gG (Nat.lt_succ_self _)).trans (bG.grown gall), ?_, Nat.le_trans (Nat.le_trans hB gall.size) bl.size⟩
          · refine sep_push _ sp s3 (fun v hv u hu => ?_)
            rw [List.mem_flatMap] at hv
            obtain ⟨x, hx, hv⟩ := hv
            have xo := pr.own x hx
            have key : ∀ d, OwnB (gG + 1) wr v d → sepV v u := fun d hd => by
              simp only [PV.vl, List.mem_cons, List.not_mem_nil, or_false] at hu
              rcases hu with rfl | rfl | rfl
              · exact Sp.own_sep hd o1 (Nat.le_refl _)
              · exact Sp.own_sep hd o2 (Nat.le_refl _)
              · exact Sp.own_sep hd o3 (Nat.le_refl _)
            simp only [PV.vl, List.mem_cons, List.not_mem_nil, or_false] at hv
            rcases hv with rfl | rfl | rfl
            · exact key _ xo.d
            · exact key _ xo.s
            · exact key _ xo.y
          · intro x hx
            rcases List.mem_append.1 hx with hx | hx
            · exact gd1 x hx
            · simp only [List.mem_singleton] at hx; subst hx; exact gp
          · have bl' : Below w.heap.size w w' := (grown_bel (gr.trans gall)).trans (bl.mono (by rw [unhide HgG]; omega))
            exact below_grown bl'
        clear H HON er gp
        go_wp2_with fail
        refine (unhide DE).mono ?_
        intro e W3 hd
        obtain ⟨b1, m1, f1, b2, m2, f2, b3, m3, f3, rfl, o1, o2, o3, gd, q1, q2, q3, s3⟩ := hd.parts
        have bN := Blk.new W3 (p.cs (.slice b1 m1 f1) (.slice b2 m2 f2) (.slice b3 m3 f3)) 24
        have z0 := bN.cell 0 (.int .i64 p.space) rfl
        have z1 := bN.cell 1 (.slice b1 m1 f1) rfl
        have z2 := bN.cell 2 (.slice b2 m2 f2) rfl
        have z3 := bN.cell 3 (.int .i64 p.number) rfl
        have z4 := bN.cell 4 (.int .i64 p.width) rfl
        have z5 := bN.cell 5 (.slice b3 m3 f3) rfl
        obtain ⟨g', c', w', hrun, NXT⟩ := unhide STEP W3 b1 b2 b3 m1 m2 m3 f1 f2 f3 gd o1 o2 o3 s3
        have HRUN := hide hrun
        have HNX := hide NXT
        clear DE STEP o1 o2 o3 gd q1 q2 q3 hd bN hrun NXT s3
        go_wp2_with (at_builtin; refine wpList_append_runQ _ rfl _ _ 48 48 rfl _ _ rfl rfl (unhide HRUN) ?_)
        exact ⟨unhide HNX, by simp [intOf]; omega⟩
    · obtain rfl : k = l.length := by omega
      have kN : ¬ (l.length : Int) < (l.length : Int) := by omega
      have E : Hid (SplS w l A (.returned (.tuple #[.slice a m c, .int .i64 (l.length : Int)])) wr) := by
        obtain ⟨h1, h2, h3, h4, pr, sp, gd1, bG, gr, hB⟩ := unhide H
        rw [splF_end (fun h => by omega)] at h4
        show ∃ (a' : Option Addr) (m' c' : Nat) (ps : List PV), _
        refine ⟨a, m, c, ps, by rw [h4], h1, h2, pr.mono (by rw [unhide HgG]; exact Nat.le_succ _), sp, by rw [h4]; simp, gd1, gr⟩
      clear H
      go_wp2_with fail
      try rw [Exit.noGoto_ret]
      go_ret2
      exact unhide E

theorem rsplit_any (g0 c0 : Nat) (l : List Int) (n : Int) (G : Lg) (w : World) (hv : InL w g0 c0 l) (hl : l.length ≤ 1048576) :
    Calls Try.prog 29 #[.slice (some ⟨g0, 0, none⟩) l.length c0, .int .i64 n, G.v] w (Spl0 w l (splF l n G (l.length + 1) 0)) := by
  have HV := hide hv
  have HBY := hide hv.b
  clear hv
  have b0 := Blk.new w #[.int .i64 G.1, .int .i64 G.2.1, .int .i64 G.2.2] 46
  have g0 := World.grownBy_alloc w (.cells #[.int .i64 G.1, .int .i64 G.2.1, .int .i64 G.2.2] 46) none
  have sz0 := alloc_size w (.cells #[.int .i64 G.1, .int .i64 G.2.1, .int .i64 G.2.2] 46)
  have hml : ¬ (9223372036854775807 : Int) < (l.length : Int) := by omega
  generalize hA : splF l n G (l.length + 1) 0 = A at *
  have HA := hide hA
  clear hA
  go_enter Try.func29, Try.ntmps29
  go_wp2_with fail
  have START : Hid (Blk (w.alloc (.cells #[.int .i64 G.1, .int .i64 G.2.1, .int .i64 G.2.2] 46)) w.heap.size #[.int .i64 G.1, .int .i64 G.2.1, .int .i64 G.2.2] 46 ∧ w.grownBy (w.alloc (.cells #[.int .i64 G.1, .int .i64 G.2.1, .int .i64 G.2.2] 46)) none ∧ w.heap.size + 1 ≤ (w.alloc (.cells #[.int .i64 G.1, .int .i64 G.2.1, .int .i64 G.2.2] 46)).heap.size) := ⟨b0, g0, by omega⟩
  clear b0 g0 sz0
  generalize w.alloc (.cells #[.int .i64 G.1, .int .i64 G.2.1, .int .i64 G.2.2] 46) = W0 at *
  generalize hgG : w.heap.size = gG at *
  have HgG := hide hgG
  clear hgG
  go_loopw [8, 9] (fun lv at_ wr => ∃ (k : Nat) (a : Option Addr) (m c f : Nat) (ps : List PV), k ≤ l.length ∧ at_ = .int .i64 k ∧ lv = .slice a m c ∧ Hid (ps.length = m ∧ m ≤ k ∧ l.length < k + f ∧ A = (ps.map PV.p ++ (splF l n G f k).1, (splF l n G f k).2) ∧ PRow0 (gG + 1) wr (.slice a m c) ps ∧ True ∧ (∀ x ∈ ps, Good1 x.p) ∧ Blk wr gG #[.int .i64 G.1, .int .i64 G.2.1, .int .i64 G.2.2] 46 ∧ w.grownBy wr none ∧ gG + 1 ≤ wr.heap.size)) (fun _ at_ _ => l.length - (intOf at_).toNat)
  case atStart => exact ⟨0, none, 0, 0, l.length + 1, [], Nat.zero_le _, rfl, rfl, rfl, Nat.le_refl _, by omega, by rw [unhide HA]; simp, PRow0.nil _ _, trivial, by simp, (unhide START).1, (unhide START).2.1, (unhide START).2.2⟩
  case round =>
    clear START
    obtain ⟨k, a, m, c, f, ps, hk, rfl, rfl, H⟩ := hrel
    by_cases hlt : k < l.length
    · have kN : (k : Int) < (l.length : Int) := by omega
      obtain ⟨h1, h2, h3, h4, pr, sp, gd1, bG, gr, hB⟩ := unhide H
      have n0 := bG.cell 0 (.int .i64 G.1) rfl
      have n1 := bG.cell 1 (.int .i64 G.2.1) rfl
      have n2 := bG.cell 2 (.int .i64 G.2.2) rfl
      have de : Calls Try.prog 22 #[.slice (some ⟨g0, 0, none⟩) l.length c0, .int .i64 k, .int .i64 n, G.v] wr (DecPost wr (decP l k n G)) := rdec_any g0 c0 l k n G wr ((unhide HV).grown gr) (by omega)
      have on := dec_on l k n G (unhide HBY) hl
      have HON := hide on
      have DE := hide de
      clear on de h1 h2 h3 h4 pr sp gd1 bG gr hB
      rcases unhide HON with ⟨y, hy, er⟩ | ⟨e1, p, er, lt1, le1, gp⟩
      · rw [er] at DE
        have yb : (y == 0) = false := by simpa using hy
        have yn : (y != 0) = true := by simpa using hy
        have FIN : Hid (∀ W, wr.grownBy W none → Spl0 w l A (.returned (.tuple #[.slice a m c, .int .i64 (k : Int)])) W) := by
          intro W gW
          obtain ⟨h1, h2, h3, h4, pr, sp, gd1, bG, gr, hB⟩ := unhide H
          rw [splF_end (fun h => by rw [er] at h; exact hy h.2)] at h4
          show ∃ (a' : Option Addr) (m' c' : Nat) (ps : List PV), _
          refine ⟨a, m, c, ps, by rw [h4], h1, by omega, (pr.grown gW).mono (by rw [unhide HgG]; exact Nat.le_succ _), by rw [h4]; simp, gd1, gr.trans gW⟩
        clear H HON er hy
        go_wp2_with fail
        refine (unhide DE).mono ?_
        intro e W3 hd
        obtain ⟨b1, m1, f1, b2, m2, f2, b3, m3, f3, rfl, o1, o2, o3, gd, q1, q2, q3⟩ := hd.parts
        have E := hide (unhide FIN _ (gd.trans (World.grownBy_alloc W3 (.cells (noP.cs (.slice b1 m1 f1) (.slice b2 m2 f2) (.slice b3 m3 f3)) 24) none)))
        clear DE FIN o1 o2 o3 gd q1 q2 q3 hd
        go_wp2_with fail
        go_ret2
        exact unhide E
      · rw [er] at DE
        have STEP : Hid (∀ W3 (b1 b2 b3 : Option Addr) (m1 m2 m3 f1 f2 f3 : Nat), wr.grownBy W3 none → OwnB wr.heap.size W3 (.slice b1 m1 f1) p.dst → OwnB wr.heap.size W3 (.slice b2 m2 f2) p.src → OwnB wr.heap.size W3 (.slice b3 m3 f3) p.payload → 
            ∃ g' c' w', (Builtin.append_ #[48, 48] 48 #[.slice a m c, .slice (some ⟨W3.heap.size + 1, 0, none⟩) 1 1]).run Try.prog ((W3.alloc (.cells (p.cs (.slice b1 m1 f1) (.slice b2 m2 f2) (.slice b3 m3 f3)) 24)).alloc (.cells (p.cs (.slice b1 m1 f1) (.slice b2 m2 f2) (.slice b3 m3 f3)) 24)) = .ok (.slice (some ⟨g', 0, none⟩) (m + 1) c') w'
              ∧ ∃ (k' : Nat) (a : Option Addr) (m' c f : Nat) (ps : List PV), k' ≤ l.length ∧ Value.int .i64 (e1 : Int) = .int .i64 k' ∧ Value.slice (some ⟨g', 0, none⟩) (m + 1) c' = .slice a m' c ∧ Hid (ps.length = m' ∧ m' ≤ k' ∧ l.length < k' + f ∧ A = (ps.map PV.p ++ (splF l n G f k').1, (splF l n G f k').2) ∧ PRow0 (gG + 1) w' (.slice a m' c) ps ∧ True ∧ (∀ x ∈ ps, Good1 x.p) ∧ Blk w' gG #[.int .i64 G.1, .int .i64 G.2.1, .int .i64 G.2.2] 46 ∧ w.grownBy w' none ∧ gG + 1 ≤ w'.heap.size)) := by
          intro W3 b1 b2 b3 m1 m2 m3 f1 f2 f3 gd o1 o2 o3
          obtain ⟨h1, h2, h3, h4, pr, sp, gd1, bG, gr, hB⟩ := unhide H
          have gN := World.grownBy_alloc W3 (.cells (p.cs (.slice b1 m1 f1) (.slice b2 m2 f2) (.slice b3 m3 f3)) 24) none
          have sN := alloc_size W3 (.cells (p.cs (.slice b1 m1 f1) (.slice b2 m2 f2) (.slice b3 m3 f3)) 24)
          have gall := gd.trans gN
          have xin : PV.In ⟨p, .slice b1 m1 f1, .slice b2 m2 f2, .slice b3 m3 f3⟩ (gG + 1) (W3.alloc (.cells (p.cs (.slice b1 m1 f1) (.slice b2 m2 f2) (.slice b3 m3 f3)) 24)) :=
            ⟨(o1.far gN (fun q e => by cases e)).mono hB, (o2.far gN (fun q e => by cases e)).mono hB, (o3.far gN (fun q e => by cases e)).mono hB, gp.ld, gp.ls, gp.ly⟩
          obtain ⟨g', c', w', hrun, pr', bl⟩ := (pr.grown gall).push ⟨p, .slice b1 m1 f1, .slice b2 m2 f2, .slice b3 m3 f3⟩ xin (by omega) (Nat.le_trans hB gall.size)
          rw [sN] at hrun
          rw [h1] at hrun pr'
          obtain ⟨f, rfl⟩ : ∃ f', f = f' + 1 := ⟨f - 1, by omega⟩
          rw [splF_step hlt er] at h4
          refine ⟨g', c', w', hrun, e1, some ⟨g', 0, none⟩, m + 1, c', f, ps ++ [⟨p, .slice b1 m1 f1, .slice b2 m2 f2, .slice b3 m3 f3⟩], le1, rfl, rfl, by simp [h1], by omega, by omega, by rw [h4]; simp, pr', ?_, ?_, (bl.block gG (Nat.lt_succ_self _)).trans (bG.grown gall), ?_, Nat.le_trans (Nat.le_trans hB gall.size) bl.size⟩
          · trivial
          · intro x hx
            rcases List.mem_append.1 hx with hx | hx
            · exact gd1 x hx
            · simp only [List.mem_singleton] at hx; subst hx; exact gp
          · have bl' : Below w.heap.size w w' := (grown_bel (gr.trans gall)).trans (bl.mono (by rw [unhide HgG]; omega))
            exact below_grown bl'
        clear H HON er gp
        go_wp2_with fail
        refine (unhide DE).mono ?_
        intro e W3 hd
        obtain ⟨b1, m1, f1, b2, m2, f2, b3, m3, f3, rfl, o1, o2, o3, gd, q1, q2, q3⟩ := hd.parts
        have bN := Blk.new W3 (p.cs (.slice b1 m1 f1) (.slice b2 m2 f2) (.slice b3 m3 f3)) 24
        have z0 := bN.cell 0 (.int .i64 p.space) rfl
        have z1 := bN.cell 1 (.slice b1 m1 f1) rfl
        have z2 := bN.cell 2 (.slice b2 m2 f2) rfl
        have z3 := bN.cell 3 (.int .i64 p.number) rfl
        have z4 := bN.cell 4 (.int .i64 p.width) rfl
        have z5 := bN.cell 5 (.slice b3 m3 f3) rfl
        obtain ⟨g', c', w', hrun, NXT⟩ := unhide STEP W3 b1 b2 b3 m1 m2 m3 f1 f2 f3 gd o1 o2 o3
        have HRUN := hide hrun
        have HNX := hide NXT
        clear DE STEP o1 o2 o3 gd q1 q2 q3 hd bN hrun NXT
        go_wp2_with (at_builtin; refine wpList_append_runQ _ rfl _ _ 48 48 rfl _ _ rfl rfl (unhide HRUN) ?_)
        exact ⟨unhide HNX, by simp [intOf]; omega⟩
    · obtain rfl : k = l.length := by omega
      have kN : ¬ (l.length : Int) < (l.length : Int) := by omega
      have E : Hid (Spl0 w l A (.returned (.tuple #[.slice a m c, .int .i64 (l.length : Int)])) wr) := by
        obtain ⟨h1, h2, h3, h4, pr, sp, gd1, bG, gr, hB⟩ := unhide H
        rw [splF_end (fun h => by omega)] at h4
        show ∃ (a' : Option Addr) (m' c' : Nat) (ps : List PV), _
        refine ⟨a, m, c, ps, by rw [h4], h1, h2, pr.mono (by rw [unhide HgG]; exact Nat.le_succ _), by rw [h4]; simp, gd1, gr⟩
      clear H
      go_wp2_with fail
      go_ret2
      exact unhide E

end Go.Proofs.Ytdmjejfnohhpiaa

namespace Go.Proofs.Ytdmjejfnohhpiaa
open Go.RowKit
open Sp (sepV Sep3 sep_nil sep_nil_r)
set_option linter.unusedVariables false
set_option maxRecDepth 100000
set_option maxHeartbeats 1000000


theorem PRow0.cell {B : Nat} {w : World} {gl n cl : Nat} {ps : List PV} (h : PRow0 B w (.slice (some ⟨gl, 0, none⟩) n cl) ps) (k : Nat) (x : PV) (hk : ps[k]? = some x) (j : Nat) (hj : j < 6) : w.cell? ⟨gl, k * 6 + j, none⟩ = x.cl[j]? := by
  rcases h.row.2 with ⟨e, -⟩ | ⟨g, cap, cur, e, q1, q2, q3, q4, q5, q6⟩
  · cases e
  · simp only [Value.slice.injEq, Option.some.injEq, Addr.mk.injEq, and_true] at e
    obtain ⟨rfl, rfl, rfl⟩ := e
    have hlt : k < ps.length := by
      by_cases c : k < ps.length
      · exact c
      · rw [List.getElem?_eq_none (by omega)] at hk; cases hk
    simp only [World.cell?, q2]
    have e : (cur.toList.take (ps.length * 6))[k * 6 + j]? = (ps.flatMap PV.cl)[k * 6 + j]? := by rw [q6]
    rw [List.getElem?_take, if_pos (by omega), Array.getElem?_toList] at e
    rw [e]
    exact flat_six PV.cl 6 (fun _ => rfl) ps k x hk j hj
theorem PRow0.some_ {B : Nat} {w : World} {a : Option Addr} {n c : Nat} {ps : List PV} (h : PRow0 B w (.slice a n c) ps) (hn : ps.length = n) (h0 : 0 < n) : ∃ g, a = some ⟨g, 0, none⟩ ∧ n ≤ c ∧ c ≤ 9223372036854775807 ∧ B ≤ g ∧ g < w.heap.size := by
  have lt := h.row.lt
  rcases h.row.2 with ⟨e, e2⟩ | ⟨g, cap, cur, e, q1, q2, q3, q4, q5, q6⟩
  · omega
  · simp only [Value.slice.injEq] at e
    obtain ⟨rfl, e2, rfl⟩ := e
    unfold maxLen at q4
    exact ⟨g, rfl, by omega, by omega, q1, (lt g rfl).2⟩

theorem samePk_any (B1 B2 : Nat) (a1 a2 : Option Addr) (m c1 c2 : Nat) (ps qs : List PV) (w : World) (h1 : PRow0 B1 w (.slice a1 m c1) ps) (h2 : PRow0 B2 w (.slice a2 m c2) qs) (l1 : ps.length = m) (he : ps.map PV.p = qs.map PV.p) (hg : ∀ x ∈ ps, Good1 x.p) (few : m ≤ 1048576) :
    Calls Try.prog 31 #[.slice a1 m c1, .slice a2 m c2] w fun e w' => e = .returned (.bool true) ∧ w.grownBy w' none := by
  have l2 : qs.length = m := by rw [← l1, ← List.length_map (f := PV.p), ← he, List.length_map]
  have hml : ¬ (9223372036854775807 : Int) < (m : Int) := by omega
  by_cases h0 : m = 0
  · subst h0
    have E := hide (World.grownBy.refl w none)
    clear h1 h2 he hg l1 l2
    go_enter Try.func31, Try.ntmps31
    go_wp2_with fail
    go_loopw [5] (fun i wr => i = .int .i64 0 ∧ wr = w) (fun i _ => 0)
    case atStart => exact ⟨rfl, rfl⟩
    case round =>
      obtain ⟨rfl, rfl⟩ := hrel
      go_wp2_with fail
      go_ret
      exact ⟨rfl, unhide E⟩
  obtain ⟨g1, rfl, k1, k2, -, -⟩ := h1.some_ l1 (by omega)
  obtain ⟨g2, rfl, k3, k4, -, -⟩ := h2.some_ l2 (by omega)
  have mm : ((m : Int) != (m : Int)) = false := by simp
  have P1 := hide h1; have P2 := hide h2; have HE := hide he; have HG := hide hg; have L1 := hide l1; have L2 := hide l2
  clear h1 h2 he hg l1 l2
  go_enter Try.func31, Try.ntmps31
  go_wp2_with fail
  go_loopw [5] (fun i wr => ∃ k : Nat, k ≤ m ∧ i = .int .i64 k ∧ w.grownBy wr none) (fun i _ => m - (intOf i).toNat)
  case atStart => exact ⟨0, Nat.zero_le _, rfl, World.grownBy.refl w none⟩
  case round =>
    obtain ⟨k, hk, rfl, gr⟩ := hrel
    by_cases hlt : k < m
    · have kN : (k : Int) < (m : Int) := by omega
      have q1 := (unhide P1).grown gr
      have q2 := (unhide P2).grown gr
      obtain ⟨x, hx⟩ : ∃ x, ps[k]? = some x := ⟨ps[k]'(by have := unhide L1; omega), by simp⟩
      obtain ⟨y, hy⟩ : ∃ y, qs[k]? = some y := ⟨qs[k]'(by have := unhide L2; omega), by simp⟩
      have hp : x.p = y.p := by
        have e : (ps.map PV.p)[k]? = (qs.map PV.p)[k]? := by rw [unhide HE]
        rw [List.getElem?_map, List.getElem?_map, hx, hy] at e
        simpa using e
      have xi := q1.own x (List.mem_of_getElem? hx)
      have yi := q2.own y (List.mem_of_getElem? hy)
      have gx := unhide HG x (List.mem_of_getElem? hx)
      have x0 : wr.cell? ⟨g1, k * 6, none⟩ = some (.int .i64 x.p.space) := q1.cell k x hx 0 (by omega)
      have x1 : wr.cell? ⟨g1, k * 6 + 1, none⟩ = some x.d := q1.cell k x hx 1 (by omega)
      have x2 : wr.cell? ⟨g1, k * 6 + 2, none⟩ = some x.s := q1.cell k x hx 2 (by omega)
      have x3 : wr.cell? ⟨g1, k * 6 + 3, none⟩ = some (.int .i64 x.p.number) := q1.cell k x hx 3 (by omega)
      have x4 : wr.cell? ⟨g1, k * 6 + 4, none⟩ = some (.int .i64 x.p.width) := q1.cell k x hx 4 (by omega)
      have x5 : wr.cell? ⟨g1, k * 6 + 5, none⟩ = some x.y := q1.cell k x hx 5 (by omega)
      have y0 : wr.cell? ⟨g2, k * 6, none⟩ = some (.int .i64 y.p.space) := q2.cell k y hy 0 (by omega)
      have y1 : wr.cell? ⟨g2, k * 6 + 1, none⟩ = some y.d := q2.cell k y hy 1 (by omega)
      have y2 : wr.cell? ⟨g2, k * 6 + 2, none⟩ = some y.s := q2.cell k y hy 2 (by omega)
      have y3 : wr.cell? ⟨g2, k * 6 + 3, none⟩ = some (.int .i64 y.p.number) := q2.cell k y hy 3 (by omega)
      have y4 : wr.cell? ⟨g2, k * 6 + 4, none⟩ = some (.int .i64 y.p.width) := q2.cell k y hy 4 (by omega)
      have y5 : wr.cell? ⟨g2, k * 6 + 5, none⟩ = some y.y := q2.cell k y hy 5 (by omega)
      obtain ⟨xp, xd, xs, xy⟩ := x
      obtain ⟨yp, yd, ys, yy⟩ := y
      obtain rfl : xp = yp := hp
      have sm := fun W (gW : wr.grownBy W none) => same05 xp xd xs xy yd ys yy W ((xi.d.inB gx.bd).grown gW) ((xi.s.inB gx.bs).grown gW) ((xi.y.inB gx.by_).grown gW) ((yi.d.inB gx.bd).grown gW) ((yi.s.inB gx.bs).grown gW) ((yi.y.inB gx.by_).grown gW)
      obtain ⟨u1, v1, rfl⟩ : ∃ u v, xd = .slice u xp.dst.length v := xi.d.shape
      obtain ⟨u2, v2, rfl⟩ : ∃ u v, xs = .slice u xp.src.length v := xi.s.shape
      obtain ⟨u3, v3, rfl⟩ : ∃ u v, xy = .slice u xp.payload.length v := xi.y.shape
      obtain ⟨u4, v4, rfl⟩ : ∃ u v, yd = .slice u xp.dst.length v := yi.d.shape
      obtain ⟨u5, v5, rfl⟩ : ∃ u v, ys = .slice u xp.src.length v := yi.s.shape
      obtain ⟨u6, v6, rfl⟩ : ∃ u v, yy = .slice u xp.payload.length v := yi.y.shape
      have SM := hide sm; have GR := hide gr
      clear sm gr xi yi gx hx hy q1 q2 HE HG P1 P2
      dsimp only at x0 x1 x2 x3 x4 x5 y0 y1 y2 y3 y4 y5
      generalize xp.dst.length = n1 at *
      generalize xp.src.length = n2 at *
      generalize xp.payload.length = n3 at *
      go_upto_region 6 with fail
      go_region_held3 (fun W => W.cell? ⟨g1, k * 6, none⟩ = some (.int .i64 xp.space) ∧ W.cell? ⟨g1, k * 6 + 1, none⟩ = some (.slice u1 n1 v1) ∧ W.cell? ⟨g1, k * 6 + 2, none⟩ = some (.slice u2 n2 v2) ∧ W.cell? ⟨g1, k * 6 + 3, none⟩ = some (.int .i64 xp.number) ∧ W.cell? ⟨g1, k * 6 + 4, none⟩ = some (.int .i64 xp.width) ∧ W.cell? ⟨g1, k * 6 + 5, none⟩ = some (.slice u3 n3 v3) ∧ W.cell? ⟨g2, k * 6, none⟩ = some (.int .i64 xp.space) ∧ W.cell? ⟨g2, k * 6 + 1, none⟩ = some (.slice u4 n1 v4) ∧ W.cell? ⟨g2, k * 6 + 2, none⟩ = some (.slice u5 n2 v5) ∧ W.cell? ⟨g2, k * 6 + 3, none⟩ = some (.int .i64 xp.number) ∧ W.cell? ⟨g2, k * 6 + 4, none⟩ = some (.int .i64 xp.width) ∧ W.cell? ⟨g2, k * 6 + 5, none⟩ = some (.slice u6 n3 v6)) (go_keep) (first
        | (go_at_call 26; refine (unhide SM _ (by (first | with_reducible exact World.grownBy.refl _ none | with_reducible exact grown_drew' (World.grownBy.refl _ none) | with_reducible exact grown_drewN (World.grownBy.refl _ none) | with_reducible exact World.grownBy_alloc _ _ none | with_reducible exact grown_drew' (World.grownBy_alloc _ _ none) | with_reducible exact (grown_drew' (World.grownBy.refl _ none)).trans (World.grownBy_alloc _ _ none) | with_reducible exact (grown_drewN (World.grownBy.refl _ none)).trans (World.grownBy_alloc _ _ none)))).mono ?_; rintro e Ws ⟨rfl, gs⟩; have gs' : World.grownBy wr Ws none := World.grownBy.trans (by (first | with_reducible exact World.grownBy.refl _ none | with_reducible exact grown_drew' (World.grownBy.refl _ none) | with_reducible exact grown_drewN (World.grownBy.refl _ none) | with_reducible exact World.grownBy_alloc _ _ none | with_reducible exact grown_drew' (World.grownBy_alloc _ _ none) | with_reducible exact (grown_drew' (World.grownBy.refl _ none)).trans (World.grownBy_alloc _ _ none) | with_reducible exact (grown_drewN (World.grownBy.refl _ none)).trans (World.grownBy_alloc _ _ none))) gs; have z0 := cell_grown x0 gs'; have z1 := cell_grown x1 gs'; have z2 := cell_grown x2 gs'; have z3 := cell_grown x3 gs'; have z4 := cell_grown x4 gs'; have z5 := cell_grown x5 gs'; have s0 := cell_grown y0 gs'; have s1 := cell_grown y1 gs'; have s2 := cell_grown y2 gs'; have s3 := cell_grown y3 gs'; have s4 := cell_grown y4 gs'; have s5 := cell_grown y5 gs'))
      have E := hide ((unhide GR).trans gs')
      clear SM gs gs' z0 z1 z2 z3 z4 z5 s0 s1 s2 s3 s4 s5
      go_wp2_with fail
      exact ⟨⟨k + 1, hlt, by go_num, unhide E⟩, by simp [intOf]; omega⟩
    · obtain rfl : k = m := by omega
      have kN : ¬ (k : Int) < (k : Int) := by omega
      have E := hide gr
      clear gr P1 P2 HE HG
      go_wp2_with fail
      go_ret
      exact ⟨rfl, unhide E⟩

end Go.Proofs.Ytdmjejfnohhpiaa

namespace Go.Proofs.Ytdmjejfnohhpiaa.Pl
open Go.RowKit Go.Proofs.Ytdmjejfnohhpiaa
set_option maxRecDepth 100000
set_option linter.unusedVariables false

def mkA (i k : Nat) : Int := 1000 * (i : Int) + (k : Int)
def cA (i : Nat) : Int := -1 - (i : Int)
def zc (x : Int) : List Value := [.int .i64 x, nilV, nilV, .int .i64 0, .int .i64 0, nilV]

section
variable {P : Program}
theorem app_keepN (w : World) (base : Nat) (t ty e : TypeId) (i : TypeInfo) (z : Value) (size bytes : Nat) (ht : P.underlying t = some (.slice e)) (hi : P.info? e = some i) (hz : i.zero = some z)
    (hsize : i.size = size) (hsz : 0 < size) (hby : i.bytes = bytes) (hzs : z.cells.size = size)
    (v : Value) (n : Nat) (xs : List Value) (hown : w.ownsRow base e size v n xs)
    (a : Addr) (m c : Nat) (news : List Value) (hl : news.length = m * size) (hnews : ∀ j u, news[j]? = some u → w.cell? (a.add j) = some u) (h1 : ∀ u ∈ news, u.oneCell' = true)
    (hm : 0 < m) (h63 : n + m ≤ maxLen) (hbytes : (n + m) * bytes ≤ 140737488355328) (hbase : base ≤ w.heap.size) :
    ∃ v' w', (Builtin.append_ #[t, t] ty #[v, .slice (some a) m c]).run P w = .ok v' w' ∧ w'.ownsRow base e size v' (n + m) (xs ++ news) ∧ Moved w w' v v' ∧ v' ≠ .slice none 0 0 := by
  obtain ⟨v', w', hr, ho, hg, hnil⟩ := run_append_own (P := P) w base t ty e i z size bytes ht hi hz hsize hby hzs hsz v n xs hown a m c news hl hnews h1 h63 hbytes hbase
  refine ⟨v', w', hr, ho, ?_, fun h => by have := (hnil.1 h).2; omega⟩
  have h63' : n + m ≤ 9223372036854775807 := by simp only [maxLen] at h63; omega
  rcases hown.2 with ⟨rfl, rfl⟩ | ⟨g, cap, cur, rfl, hbg, hgg, hnc, hcm, hcs, htake⟩
  · have := run_append_nil (P := P) w t ty e i z ht hi hz a m c news (by rw [hsize]; exact hl) hnews hm (by omega) (by rw [hby]; simp only [Nat.zero_add] at hbytes; omega)
    rw [this] at hr
    injection hr with e1 e2
    subst e1 e2
    exact .inr ⟨rfl, grown_drew_alloc w _⟩
  · by_cases hroom : n + m ≤ cap
    · have := run_append_room (P := P) w t ty e i ht hi g n cap cur hgg a m c news (by rw [hsize]; exact hl) hnews h1 hroom (by rw [hsize, hcs, hl, ← Nat.add_mul]; exact Nat.mul_le_mul_right _ hroom)
      rw [this] at hr
      injection hr with e1 e2
      subst e1
      exact .inl ⟨rfl, hg⟩
    · have := run_append_grow (P := P) w t ty e i z ht hi hz ⟨g, 0, none⟩ n cap xs (by rw [hsize]; exact hown.1) (hown.cells (g := g) rfl) a m c news (by rw [hsize]; exact hl) hnews (by omega) (by omega) (growslice_fits (by omega) (by rw [hby]; exact hbytes))
      rw [this] at hr
      injection hr with e1 e2
      subst e1 e2
      exact .inr ⟨rfl, grown_drew_alloc w _⟩

end
theorem ownsRow_open {w : World} {base size : Nat} {e : TypeId} {v : Value} {n : Nat} {xs : List Value} (h : w.ownsRow base e size v n xs) (hn : n ≠ 0) : ∃ g cap, v = .slice (some ⟨g, 0, none⟩) n cap ∧ base ≤ g ∧ g < w.heap.size ∧ n ≤ cap ∧ cap ≤ maxLen := by
  have hl := h.lt
  rcases h.2 with ⟨_, h0⟩ | ⟨g, cap, cur, rfl, hb, hg, hnc, hm, _⟩
  · exact absurd h0 hn
  · exact ⟨g, cap, rfl, hb, (hl g rfl).2, hnc, hm⟩
theorem ownsRow_block {w : World} {base size : Nat} {e : TypeId} {v : Value} {n : Nat} {xs : List Value} (h : w.ownsRow base e size v n xs) : ∀ g, v.ownBlock = some g → ∃ c, w.heap[g]? = some (.cells c e (0, 0)) := by
  intro g hg
  rcases h.2 with ⟨rfl, _⟩ | ⟨g', cap, cur, rfl, _, hh, _⟩
  · simp [Value.ownBlock] at hg
  · simp [Value.ownBlock] at hg
    subst hg
    exact ⟨cur, hh⟩

theorem keptM {w w' : World} {y y' v : Value} {e : TypeId} {B n size : Nat} {xs : List Value} (h : Moved w w' y y') (ho : w.ownsRow B e size v n xs) (hs : v.ownBlock = none ∨ v.ownBlock ≠ y.ownBlock) : w'.ownsRow B e size v n xs := by
  rcases h with ⟨_, hg⟩ | ⟨_, hg, _⟩
  · exact ho.kept hg hs
  · exact ho.kept hg (by cases v.ownBlock <;> simp)
theorem rows_apart {e e' : TypeId} {v v' : Value} {n n' s1 s2 : Nat} {xs xs' : List Value} {wr : World} {B B' : Nat} (h : wr.ownsRow B e s1 v n xs) (h' : wr.ownsRow B' e' s2 v' n' xs') (hne : e ≠ e') : v.ownBlock = none ∨ v.ownBlock ≠ v'.ownBlock := by
  cases hv : v.ownBlock with
  | none => exact .inl rfl
  | some g =>
    right
    intro e1
    obtain ⟨c, h1⟩ := ownsRow_block h g hv
    obtain ⟨c', h2⟩ := ownsRow_block h' g e1.symm
    rw [h1] at h2
    simp at h2
    exact hne h2.2

/-- The lists that are held against one another: where each lies, how long it is, its room. -/
structure Held where
  m : Nat
  ad : Nat → Option Addr
  ns : Nat → Nat
  cp : Nat → Nat
  cb : Array Value
def Held.v (h : Held) (j : Nat) : Value := .slice (h.ad j) (h.ns j) (h.cp j)

structure Held.Fit (h : Held) : Prop where
  cell : ∀ j, j < h.m → h.cb[j]? = some (h.v j)
  sep : ∀ i j, i < h.m → j < h.m → i ≠ j → (h.v i).ownBlock = none ∨ (h.v i).ownBlock ≠ (h.v j).ownBlock
  small : ∀ j, j < h.m → h.ns j ≤ 2000000
  few : h.m ≤ 1000

section
variable {H : Held} {w0 wr : World} {B b : Nat}

/-- The first phase: the first i lists are written full, of the next one k places. -/
structure A1 (H : Held) (w0 : World) (B b : Nat) (wr : World) (i k : Nat) : Prop where
  blk : wr.heap[b]? = some (.cells H.cb 48 (0, 0))
  own : ∀ j, j < H.m → ∃ xs, wr.ownsRow B 24 6 (H.v j) (H.ns j) xs ∧ ∀ q, q < H.ns j → (j < i ∨ (j = i ∧ q < k)) → xs[q * 6]? = some (.int .i64 (mkA j q))
  bel : Below B w0 wr
  low : B ≤ b

theorem A1.next {i : Nat} (h : A1 H w0 B b wr i (H.ns i)) : A1 H w0 B b wr (i + 1) 0 :=
  ⟨h.blk, fun j hj => by
    obtain ⟨xs, h1, h2⟩ := h.own j hj
    refine ⟨xs, h1, fun q hq hd => h2 q hq ?_⟩
    by_cases e : j = i
    · subst e; exact .inr ⟨rfl, hq⟩
    · left; omega, h.bel, h.low⟩

theorem cellB (hb : wr.heap[b]? = some (.cells H.cb 48 (0, 0))) (hf : H.Fit) (j : Nat) (hj : j < H.m) : wr.cell? ⟨b, j, none⟩ = some (.slice (H.ad j) (H.ns j) (H.cp j)) := by
  simp only [World.cell?, hb]
  simpa [Held.v] using hf.cell j hj

theorem neB (hb : wr.heap[b]? = some (.cells H.cb 48 (0, 0))) {g : Nat} {c : Array Value} (hg : wr.heap[g]? = some (.cells c 24 (0, 0))) : b ≠ g := by
  intro e
  subst e
  rw [hb] at hg
  simp at hg

theorem A1.step {i k : Nat} (h : A1 H w0 B b wr i k) (hf : H.Fit) (hi : i < H.m) (hk : k < H.ns i) :
    ∃ g, H.ad i = some ⟨g, 0, none⟩ ∧ H.ns i ≤ H.cp i ∧ H.cp i ≤ maxLen ∧ (∃ y0 y1 y2 y3 y4 y5, wr.cell? ⟨g, k * 6, none⟩ = some y0 ∧ wr.cell? ⟨g, k * 6 + 1, none⟩ = some y1 ∧ wr.cell? ⟨g, k * 6 + 2, none⟩ = some y2 ∧ wr.cell? ⟨g, k * 6 + 3, none⟩ = some y3 ∧ wr.cell? ⟨g, k * 6 + 4, none⟩ = some y4 ∧ wr.cell? ⟨g, k * 6 + 5, none⟩ = some y5) ∧ (∀ j, wr.frozen? ⟨g, j, none⟩ = false)
      ∧ A1 H w0 B b ((((((wr.setCell ⟨g, k * 6, none⟩ (.int .i64 (mkA i k))).setCell ⟨g, k * 6 + 1, none⟩ nilV).setCell ⟨g, k * 6 + 2, none⟩ nilV).setCell ⟨g, k * 6 + 3, none⟩ (.int .i64 0)).setCell ⟨g, k * 6 + 4, none⟩ (.int .i64 0)).setCell ⟨g, k * 6 + 5, none⟩ nilV) i (k + 1) := by
  obtain ⟨xs, ho, hx⟩ := h.own i hi
  obtain ⟨g, cap, e, hg, hgl, hnc, hcm⟩ := ownsRow_open ho (by omega)
  have e' := e
  simp only [Held.v, Value.slice.injEq] at e'
  obtain ⟨ea, -, ec⟩ := e'
  rw [e] at ho
  have hl := ho.1
  have hc : ∀ j, j < 6 → wr.cell? ⟨g, k * 6 + j, none⟩ = some (xs.getD (k * 6 + j) nilV) := fun j hj => by
    rw [ho.cellAt (k * 6 + j) (by omega)]
    simp [List.getD, show k * 6 + j < xs.length by omega]
  have s1 := ho.stored (k * 6) (.int .i64 (mkA i k))
  have s2 := s1.1.stored (k * 6 + 1) nilV
  have s3 := s2.1.stored (k * 6 + 2) nilV
  have s4 := s3.1.stored (k * 6 + 3) (.int .i64 0)
  have s5 := s4.1.stored (k * 6 + 4) (.int .i64 0)
  have s6 := s5.1.stored (k * 6 + 5) nilV
  have gg := ((((s1.2.trans s2.2).trans s3.2).trans s4.2).trans s5.2).trans s6.2
  obtain ⟨c, hcb⟩ := ownsRow_block ho g rfl
  refine ⟨g, ea, by omega, by rw [ec]; exact hcm, ⟨_, _, _, _, _, _, hc 0 (by omega), hc 1 (by omega), hc 2 (by omega), hc 3 (by omega), hc 4 (by omega), hc 5 (by omega)⟩, fun j => ho.frozenAt j, ⟨?_, fun j hj => ?_, h.bel.grown gg (by have := lt_of_block h.blk; have := h.low; omega) (fun k e => by cases e; exact hg), h.low⟩⟩
  · rw [gg.block b (lt_of_block h.blk) (fun e => by cases e; exact neB h.blk hcb rfl)]; exact h.blk
  · by_cases eij : j = i
    · subst eij
      refine ⟨_, by rw [e]; exact s6.1, fun q hq hd => ?_⟩
      rw [List.getElem?_set_ne (by omega), List.getElem?_set_ne (by omega), List.getElem?_set_ne (by omega), List.getElem?_set_ne (by omega), List.getElem?_set_ne (by omega)]
      by_cases eq : k = q
      · subst eq; rw [List.getElem?_set_self (by omega)]
      · rw [List.getElem?_set_ne (by omega)]; exact hx q hq (by omega)
    · obtain ⟨ys, h1, h2⟩ := h.own j hj
      refine ⟨ys, h1.kept gg ?_, fun q hq hd => h2 q hq (by omega)⟩
      rcases hf.sep j i hj hi eij with hs | hs
      · exact .inl hs
      · right; rw [e] at hs; exact hs

/-- What holds of a list that was made longer. -/
def Long (H : Held) (B : Nat) (w : World) (j k : Nat) (u : Value) : Prop :=
  ∃ xs, w.ownsRow B 24 6 u (H.ns j + k) xs ∧ (∀ q, q < H.ns j → xs[q * 6]? = some (.int .i64 (mkA j q))) ∧ ∀ q, H.ns j ≤ q → q < H.ns j + k → xs[q * 6]? = some (.int .i64 (cA j))

/-- The second phase, between two lists. -/
structure A2 (H : Held) (w0 : World) (B b : Nat) (wr : World) (i : Nat) (lv : Value) (ys : List Value) : Prop where
  blk : wr.heap[b]? = some (.cells H.cb 48 (0, 0))
  rd : ∀ j, j < H.m → ∀ q, q < H.ns j → ∃ g, H.ad j = some ⟨g, 0, none⟩ ∧ wr.cell? ⟨g, q * 6, none⟩ = some (.int .i64 (mkA j q))
  own : ∀ j, i ≤ j → j < H.m → Long H B wr j 0 (H.v j)
  typ : ∀ j, j < H.m → ∀ g, (H.v j).ownBlock = some g → ∃ c, wr.heap[g]? = some (.cells c 24 (0, 0))
  len : ys.length = i
  old : ∀ (j : Nat) (u : Value), ys[j]? = some u → Long H B wr j 40 u
  row : wr.ownsRow (b + 1) 48 1 lv i ys
  sep : ∀ (j : Nat) (u : Value), ys[j]? = some u → ∀ q, q < H.m → i ≤ q → u.ownBlock ≠ (H.v q).ownBlock
  bel : Below B w0 wr
  low : B ≤ b

/-- The second phase, within a list: y is made longer. -/
structure A2y (H : Held) (w0 : World) (B b : Nat) (wr : World) (i k : Nat) (y lv : Value) (ys : List Value) : Prop where
  blk : wr.heap[b]? = some (.cells H.cb 48 (0, 0))
  rd : ∀ j, j < H.m → ∀ q, q < H.ns j → ∃ g, H.ad j = some ⟨g, 0, none⟩ ∧ wr.cell? ⟨g, q * 6, none⟩ = some (.int .i64 (mkA j q))
  own : ∀ j, i < j → j < H.m → Long H B wr j 0 (H.v j)
  cur : Long H B wr i k y
  typ : ∀ j, j < H.m → ∀ g, (H.v j).ownBlock = some g → ∃ c, wr.heap[g]? = some (.cells c 24 (0, 0))
  len : ys.length = i
  old : ∀ (j : Nat) (u : Value), ys[j]? = some u → Long H B wr j 40 u
  row : wr.ownsRow (b + 1) 48 1 lv i ys
  sepv : ∀ j, j < H.m → j ≠ i → y.ownBlock = none ∨ y.ownBlock ≠ (H.v j).ownBlock
  sepu : ∀ (j : Nat) (u : Value), ys[j]? = some u → y.ownBlock = none ∨ y.ownBlock ≠ u.ownBlock
  sep : ∀ (j : Nat) (u : Value), ys[j]? = some u → ∀ q, q < H.m → i < q → u.ownBlock ≠ (H.v q).ownBlock
  bel : Below B w0 wr
  low : B ≤ b

theorem A1.turn (h : A1 H w0 B b wr H.m 0) : A2 H w0 B b wr 0 (.slice none 0 0) [] := by
  have ow : ∀ j, j < H.m → Long H B wr j 0 (H.v j) := fun j hj => by
    obtain ⟨xs, h1, h2⟩ := h.own j hj
    exact ⟨xs, h1, fun q hq => h2 q hq (.inl hj), fun q h1 h2 => by omega⟩
  refine ⟨h.blk, fun j hj q hq => ?_, fun j _ hj => ow j hj, fun j hj g hg => ?_, rfl, fun j u hu => by simp at hu, World.ownsRow_nil _ _ _ _, fun j u hu => by simp at hu, h.bel, h.low⟩
  · obtain ⟨xs, h1, h2, _⟩ := ow j hj
    obtain ⟨g, cap, e, _⟩ := ownsRow_open h1 (by omega)
    have e' := e
    simp only [Held.v, Value.slice.injEq] at e'
    rw [e] at h1
    exact ⟨g, e'.1, by rw [h1.cellAt (q * 6) (by omega)]; exact h2 q hq⟩
  · obtain ⟨xs, h1, h2, _⟩ := ow j hj
    exact ownsRow_block h1 g hg

theorem A2.enter {i : Nat} {lv : Value} {ys : List Value} (h : A2 H w0 B b wr i lv ys) (hf : H.Fit) (hi : i < H.m) : A2y H w0 B b wr i 0 (H.v i) lv ys :=
  ⟨h.blk, h.rd, fun j h1 h2 => h.own j (by omega) h2, h.own i (Nat.le_refl _) hi, h.typ, h.len, h.old, h.row, fun j hj hne => hf.sep i j hi hj (Ne.symm hne),
    fun j u hu => .inr (Ne.symm (h.sep j u hu i hi (Nat.le_refl _))), fun j u hu q hq hiq => h.sep j u hu q hq (by omega), h.bel, h.low⟩

theorem A2y.app {i k : Nat} {y lv : Value} {ys : List Value} (h : A2y H w0 B b wr i k y lv ys) (hi : i < H.m) (o : Obj) {W1 : World} {y' : Value} {xs : List Value} (hx : wr.ownsRow B 24 6 y (H.ns i + k) xs) (hm : Moved (wr.alloc o) W1 y y') (ho : W1.ownsRow B 24 6 y' (H.ns i + k + 1) (xs ++ zc (cA i))) :
    A2y H w0 B b W1 i (k + 1) y' lv ys := by
  have hsz := hm.size
  simp only [World.size_alloc] at hsz
  have yb : y.ownBlock ≠ some b := fun e => by
    obtain ⟨c, hc⟩ := ownsRow_block hx b e
    exact neB h.blk hc rfl
  have hl := hx.1
  obtain ⟨xs0, hx0, hx1, hx2⟩ := h.cur
  have exs : xs0 = xs := by
    rcases hx.2 with ⟨rfl, h0⟩ | ⟨g, cap, c, rfl, _, hg, _, _, _, ht⟩
    · have := hx0.1
      simp only [h0, Nat.zero_mul] at this hl
      rw [List.eq_nil_of_length_eq_zero this, List.eq_nil_of_length_eq_zero hl]
    · rcases hx0.2 with ⟨h', _⟩ | ⟨g', cap', c', h', _, hg', _, _, _, ht'⟩
      · simp at h'
      · simp only [Value.slice.injEq, Option.some.injEq, Addr.mk.injEq, and_true, true_and] at h'
        obtain ⟨rfl, rfl⟩ := h'
        rw [hg] at hg'
        simp only [Option.some.injEq, Obj.cells.injEq, and_true] at hg'
        subst hg'
        rw [← ht, ← ht']
  subst exs
  have cur' : Long H B W1 i (k + 1) y' := by
    refine ⟨xs0 ++ zc (cA i), by rw [← Nat.add_assoc]; exact ho, fun q hq => ?_, fun q h1 h2 => ?_⟩
    · rw [List.getElem?_append_left (by omega)]; exact hx1 q hq
    · by_cases e : q < H.ns i + k
      · rw [List.getElem?_append_left (by omega)]; exact hx2 q h1 e
      · have : q * 6 = xs0.length := by omega
        rw [this, List.getElem?_append_right (Nat.le_refl _), Nat.sub_self]
        rfl
  have nb : ∀ g, y'.ownBlock = some g → y.ownBlock = some g ∨ g = wr.heap.size + 1 := fun g hg => by
    rcases hm with ⟨e, _⟩ | ⟨e, _, _⟩
    · left; rw [← e]; exact hg
    · right; rw [e] at hg; simpa using hg.symm
  refine ⟨hm.block (block_alloc h.blk o) yb, fun j hj q hq => ?_, fun j h1 h2 => ?_, cur', fun j hj g hg => ?_, h.len, fun j u hu => ?_, ?_, fun j hj hne => ?_, fun j u hu => ?_, h.sep, ?_, h.low⟩
  · obtain ⟨g, hg, hc⟩ := h.rd j hj q hq
    refine ⟨g, hg, ?_⟩
    by_cases e : y.ownBlock = some g
    · have eji : j = i := by
        by_cases e2 : j = i
        · exact e2
        · rcases h.sepv j hj e2 with hs | hs
          · rw [hs] at e; cases e
          · exact absurd (by rw [e, Held.v, hg]; rfl) hs
      subst eji
      rcases hm with ⟨e3, hgr⟩ | ⟨e3, hgr, _⟩
      · obtain ⟨g2, cap, e4, _⟩ := ownsRow_open ho (by omega)
        rw [e4] at e3 ho
        rw [e] at e3
        simp only [Value.ownBlock, Option.some.injEq] at e3
        subst e3
        rw [ho.cellAt (q * 6) (by omega), List.getElem?_append_left (by omega)]
        exact hx1 q hq
      · exact hgr.cell (cell_alloc hc o) (by simp)
    · exact hm.cell (cell_alloc hc o) e
  · obtain ⟨zs, z1, z2, z3⟩ := h.own j h1 h2
    refine ⟨zs, keptM hm (z1.alloc o) ?_, z2, z3⟩
    rcases h.sepv j h2 (by omega) with hs | hs
    · rw [hs]; cases (H.v j).ownBlock <;> simp
    · exact .inr (Ne.symm hs)
  · obtain ⟨c, hc⟩ := h.typ j hj g hg
    by_cases e : y.ownBlock = some g
    · rcases hm with ⟨e3, hgr⟩ | ⟨e3, hgr, _⟩
      · exact ownsRow_block ho g (by rw [e3]; exact e)
      · exact ⟨c, by rw [hgr.block g (by have := lt_of_block hc; simp; omega) (by simp)]; exact block_alloc hc o⟩
    · exact ⟨c, hm.block (block_alloc hc o) e⟩
  · obtain ⟨zs, z1, z2, z3⟩ := h.old j u hu
    refine ⟨zs, keptM hm (z1.alloc o) ?_, z2, z3⟩
    rcases h.sepu j u hu with hs | hs
    · rw [hs]; cases u.ownBlock <;> simp
    · exact .inr (Ne.symm hs)
  · exact keptM hm (h.row.alloc o) (rows_apart (h.row.alloc o) (hx.alloc o) (by decide))
  · cases hy : y'.ownBlock with
    | none => exact .inl rfl
    | some g =>
      right
      intro e
      rcases nb g hy with h1 | h1
      · rcases h.sepv j hj hne with hs | hs
        · rw [hs] at h1; cases h1
        · exact hs (by rw [h1]; exact e)
      · obtain ⟨c, hc⟩ := h.typ j hj g e.symm
        have := lt_of_block hc
        omega
  · cases hy : y'.ownBlock with
    | none => exact .inl rfl
    | some g =>
      right
      intro e
      rcases nb g hy with h1 | h1
      · rcases h.sepu j u hu with hs | hs
        · rw [hs] at h1; cases h1
        · exact hs (by rw [h1]; exact e)
      · obtain ⟨zs, z1, _⟩ := h.old j u hu
        have := (z1.lt g e.symm).2
        omega
  · exact hm.below (h.bel.alloc (by have := h.bel.size; have := lt_of_block h.blk; have := h.low; omega) o) (by have := lt_of_block h.blk; have := h.low; simp; omega) (fun g hg => (hx.lt g hg).1)

theorem A2y.leave {i : Nat} {y lv : Value} {ys : List Value} (h : A2y H w0 B b wr i 40 y lv ys) (hi : i < H.m) (o : Obj) {W1 : World} {lv' : Value} (hm : Moved (wr.alloc o) W1 lv lv') (ho : W1.ownsRow (b + 1) 48 1 lv' (i + 1) (ys ++ [y])) :
    A2 H w0 B b W1 (i + 1) lv' (ys ++ [y]) := by
  have hsz := hm.size
  simp only [World.size_alloc] at hsz
  have hb : lv.ownBlock ≠ some b := fun e => by have := (h.row.lt b e).1; omega
  have keep : ∀ j k u, Long H B wr j k u → Long H B W1 j k u := fun j k u ⟨xs, h1, h2, h3⟩ =>
    ⟨xs, keptM hm (h1.alloc o) (rows_apart (h1.alloc o) (h.row.alloc o) (by decide)), h2, h3⟩
  have ge : ∀ (j : Nat) (u : Value), (ys ++ [y])[j]? = some u → (ys[j]? = some u) ∨ (j = i ∧ u = y) := fun j u hu => by
    by_cases e : j < ys.length
    · rw [List.getElem?_append_left e] at hu; exact .inl hu
    · rw [List.getElem?_append_right (by omega)] at hu
      have hl := h.len
      match hj : j - ys.length, hu with
      | 0, hu => right; simp at hu; exact ⟨by omega, hu.symm⟩
      | q + 1, hu => simp at hu
  refine ⟨hm.block (block_alloc h.blk o) hb, fun j hj q hq => ?_, fun j h1 h2 => keep j 0 _ (h.own j (by omega) h2), fun j hj g hg => ?_, by simp [h.len], fun j u hu => ?_, ho, fun j u hu q hq hiq => ?_, ?_, h.low⟩
  · obtain ⟨g, hg, hc⟩ := h.rd j hj q hq
    refine ⟨g, hg, hm.cell (cell_alloc hc o) (fun e => ?_)⟩
    obtain ⟨c, h1⟩ := ownsRow_block h.row g e
    obtain ⟨c', h2⟩ := h.typ j hj g (by rw [Held.v, hg]; rfl)
    rw [h1] at h2
    simp at h2
  · obtain ⟨c, hc⟩ := h.typ j hj g hg
    refine ⟨c, hm.block (block_alloc hc o) (fun e => ?_)⟩
    obtain ⟨c', h1⟩ := ownsRow_block h.row g e
    rw [hc] at h1
    simp at h1
  · rcases ge j u hu with h1 | ⟨rfl, rfl⟩
    · exact keep j 40 u (h.old j u h1)
    · exact keep _ 40 _ h.cur
  · rcases ge j u hu with h1 | ⟨rfl, rfl⟩
    · exact h.sep j u h1 q hq (by omega)
    · rcases h.sepv q hq (by omega) with hs | hs
      · obtain ⟨xs, z1, _⟩ := h.cur
        obtain ⟨g, cap, e, _⟩ := ownsRow_open z1 (by omega)
        rw [e] at hs
        simp [Value.ownBlock] at hs
      · exact hs
  · exact hm.below (h.bel.alloc (by have := h.bel.size; have := lt_of_block h.blk; have := h.low; omega) o) (by have := lt_of_block h.blk; have := h.low; simp; omega) (fun g hg => by have := (h.row.lt g hg).1; have := h.low; omega)
end

theorem Long.cells {H : Held} {B : Nat} {w : World} {j : Nat} {u : Value} (h : Long H B w j 40 u) : ∃ g cap, u = .slice (some ⟨g, 0, none⟩) (H.ns j + 40) cap ∧ H.ns j + 40 ≤ cap ∧ cap ≤ maxLen ∧ (∀ q, q < H.ns j → w.cell? ⟨g, q * 6, none⟩ = some (.int .i64 (mkA j q))) ∧ ∀ q, H.ns j ≤ q → q < H.ns j + 40 → w.cell? ⟨g, q * 6, none⟩ = some (.int .i64 (cA j)) := by
  obtain ⟨xs, h1, h2, h3⟩ := h
  obtain ⟨g, cap, rfl, _, _, hc, hm⟩ := ownsRow_open h1 (by omega)
  exact ⟨g, cap, rfl, hc, hm, fun q hq => by rw [h1.cellAt (q * 6) (by omega)]; exact h2 q hq, fun q hq hq2 => by rw [h1.cellAt (q * 6) (by omega)]; exact h3 q hq hq2⟩

end Go.Proofs.Ytdmjejfnohhpiaa.Pl

namespace Go.Proofs.Ytdmjejfnohhpiaa.Pl
open Go.RowKit Go.Proofs.Ytdmjejfnohhpiaa
set_option maxRecDepth 100000
set_option linter.unusedVariables false
set_option maxHeartbeats 2000000

theorem Try.infoL : (Try.prog.info? 48).map (fun i => (i.zero, i.size, i.bytes)) = some (some (.slice none 0 0), 1, 24) := by kernel_rfl

theorem app6 {w : World} {B n : Nat} {y : Value} {xs : List Value} (hx : w.ownsRow B 24 6 y n xs) (x : Int) (few : n ≤ 10000000) (hB : B ≤ w.heap.size) :
    ∃ y' W1, (Builtin.append_ #[48, 48] 48 #[y, .slice (some ⟨w.heap.size, 0, none⟩) 1 1]).run Try.prog (w.alloc (.cells #[.int .i64 x, nilV, nilV, .int .i64 0, .int .i64 0, nilV] 24)) = .ok y' W1
      ∧ W1.ownsRow B 24 6 y' (n + 1) (xs ++ zc x) ∧ Moved (w.alloc (.cells #[.int .i64 x, nilV, nilV, .int .i64 0, .int .i64 0, nilV] 24)) W1 y y' := by
  obtain ⟨inf, hi0, hz0, hz1, hz2⟩ := info_parts Try.infoP
  have hsz := alloc_size w (.cells #[.int .i64 x, nilV, nilV, .int .i64 0, .int .i64 0, nilV] 24)
  have hnews : ∀ (i : Nat) u, (zc x)[i]? = some u → (w.alloc (.cells #[.int .i64 x, nilV, nilV, .int .i64 0, .int .i64 0, nilV] 24)).cell? ((⟨w.heap.size, 0, none⟩ : Addr).add i) = some u := fun i u hu => by
    rw [show (⟨w.heap.size, 0, none⟩ : Addr).add i = ⟨w.heap.size, i, none⟩ by simp [Addr.add]; exact fun e => e.symm]
    simp only [World.cell?, heap_alloc_new]
    rw [← hu]
    simp [zc]
  obtain ⟨y', W1, hr, ho, hm, -⟩ := app_keepN (P := Try.prog) (w.alloc (.cells #[.int .i64 x, nilV, nilV, .int .i64 0, .int .i64 0, nilV] 24)) B 48 48 24 inf (.agg (pcs 0 nilV nilV 0 0 nilV)) 6 96 Try.underlying48 hi0 hz0 hz1 (by decide) hz2 rfl y n xs (hx.alloc _) ⟨w.heap.size, 0, none⟩ 1 1 (zc x) rfl hnews
    (fun u hu => by simp only [zc, List.mem_cons, List.not_mem_nil, or_false] at hu; rcases hu with rfl | rfl | rfl | rfl | rfl | rfl <;> rfl) (by decide) (by unfold maxLen; omega) (by omega) (by omega)
  exact ⟨y', W1, hr, ho, hm⟩

theorem appL {w : World} {B n : Nat} {y : Value} {xs : List Value} (hx : w.ownsRow B 48 1 y n xs) (v : Value) (h1 : v.oneCell' = true) (few : n ≤ 10000000) (hB : B ≤ w.heap.size) :
    ∃ y' W1, (Builtin.append_ #[58, 58] 58 #[y, .slice (some ⟨w.heap.size, 0, none⟩) 1 1]).run Try.prog (w.alloc (.cells #[v] 48)) = .ok y' W1
      ∧ W1.ownsRow B 48 1 y' (n + 1) (xs ++ [v]) ∧ Moved (w.alloc (.cells #[v] 48)) W1 y y' := by
  obtain ⟨inf, hi0, hz0, hz1, hz2⟩ := info_parts Try.infoL
  have hsz := alloc_size w (.cells #[v] 48)
  have hnews : ∀ (i : Nat) u, ([v] : List Value)[i]? = some u → (w.alloc (.cells #[v] 48)).cell? ((⟨w.heap.size, 0, none⟩ : Addr).add i) = some u := fun i u hu => by
    rw [show (⟨w.heap.size, 0, none⟩ : Addr).add i = ⟨w.heap.size, i, none⟩ by simp [Addr.add]; exact fun e => e.symm]
    simp only [World.cell?, heap_alloc_new]
    rw [← hu]
    simp
  obtain ⟨y', W1, hr, ho, hm, -⟩ := app_keepN (P := Try.prog) (w.alloc (.cells #[v] 48)) B 58 58 48 inf (.slice none 0 0) 1 24 Try.underlying58 hi0 hz0 hz1 (by decide) hz2 rfl y n xs (hx.alloc _) ⟨w.heap.size, 0, none⟩ 1 1 [v] rfl hnews
    (fun u hu => by simp at hu; subst hu; exact h1) (by decide) (by unfold maxLen; omega) (by omega) (by omega)
  exact ⟨y', W1, hr, ho, hm⟩

theorem apartLists_any (H : Held) (w0 wr : World) (B b c : Nat) (hf : H.Fit) (ha : A1 H w0 B b wr 0 0) :
    Calls Try.prog 32 #[.slice (some ⟨b, 0, none⟩) H.m c] wr fun e w' => e = .returned (.bool true) ∧ Below B w0 w' := by
  have few := hf.few
  have HF := hide hf; have HA := hide ha
  clear hf ha
  go_enter Try.func32, Try.ntmps32
  go_wp2
  go_loopw [3] (fun i w => ∃ j : Nat, j ≤ H.m ∧ i = .int .i64 j ∧ A1 H w0 B b w j 0) (fun i _ => H.m - (intOf i).toNat)
  case atStart => exact ⟨0, Nat.zero_le _, rfl, unhide HA⟩
  case round =>
    clear HA
    obtain ⟨i, hi, rfl, h1⟩ := hrel
    by_cases hlt : i < H.m
    · have small := (unhide HF).small i hlt
      have A0 := hide h1
      clear h1
      go_wp2
      go_loopw [4] (fun q w => ∃ k : Nat, k ≤ H.ns i ∧ q = .int .i64 k ∧ A1 H w0 B b w i k) (fun q _ => H.ns i - (intOf q).toNat)
      case atStart => exact ⟨0, Nat.zero_le _, rfl, unhide A0⟩
      case round =>
        clear A0
        obtain ⟨k, hk, rfl, h1⟩ := hrel
        have cb := cellB h1.blk (unhide HF) i hlt
        by_cases hlk : k < H.ns i
        · obtain ⟨g, e1, e2, e3, ⟨y0, y1, y2, y3, y4, y5, c0, c1, c2, c3, c4, c5⟩, fz, h2⟩ := h1.step (unhide HF) hlt hlk
          unfold maxLen at e3
          have w1 : IntKind.i64.wrap (1000 * (i : Int)) = 1000 * (i : Int) := by rw [IntKind.wrap_i64]; omega
          have w2 : IntKind.i64.wrap (1000 * (i : Int) + (k : Int)) = 1000 * (i : Int) + (k : Int) := by rw [IntKind.wrap_i64]; omega
          have A2 := hide h2
          unfold mkA at A2
          clear h1 h2
          go_wp2
          go_roundw
          case rel => exact ⟨k + 1, by omega, by go_num, unhide A2⟩
          case measure => simp [intOf]; omega
        · have ek : k = H.ns i := by omega
          subst ek
          have A2 := hide h1.next
          clear h1
          go_wp2
          go_roundw
          case rel => exact ⟨i + 1, by omega, by go_num, unhide A2⟩
          case measure => simp [intOf]; omega
    · have ei : i = H.m := by omega
      subst ei
      have A0 := hide h1.turn
      clear h1 hlt
      go_wp2
      go_loopw [5, 6] (fun lv i w => ∃ (j : Nat) (ys : List Value), j ≤ H.m ∧ i = .int .i64 j ∧ A2 H w0 B b w j lv ys) (fun _ i _ => H.m - (intOf i).toNat)
      case atStart => exact ⟨0, [], Nat.zero_le _, rfl, unhide A0⟩
      case round =>
        clear A0
        obtain ⟨i, ys, hi, rfl, h1⟩ := hrel
        by_cases hlt : i < H.m
        · have small := (unhide HF).small i hlt
          have cb := cellB h1.blk (unhide HF) i hlt
          have A0 := hide (h1.enter (unhide HF) hlt)
          unfold Held.v at A0
          clear h1
          go_wp2
          go_loopw [7, 8] (fun y q w => ∃ k : Nat, k ≤ 40 ∧ q = .int .i64 k ∧ A2y H w0 B b w i k y u5 ys) (fun _ q _ => 40 - (intOf q).toNat)
          case atStart => exact ⟨0, by omega, rfl, unhide A0⟩
          case round =>
            clear A0 cb
            obtain ⟨k, hk, rfl, h1⟩ := hrel
            have hB : B ≤ wr.heap.size := by have := lt_of_block h1.blk; have := h1.low; omega
            have hb1 : b + 1 ≤ wr.heap.size := lt_of_block h1.blk
            have w3 : IntKind.i64.wrap (-1 - (i : Int)) = -1 - (i : Int) := by rw [IntKind.wrap_i64]; omega
            by_cases hlk : k < 40
            · obtain ⟨xs, hx, -⟩ := h1.cur
              obtain ⟨y', W1, hrun, ho, hmv⟩ := app6 hx (cA i) (by omega) hB
              have HN := hide (h1.app hlt _ hx hmv ho)
              have HRUN := hide hrun
              unfold cA at HRUN
              clear hx h1 ho hmv hrun
              go_wp2_with (at_builtin; refine wpList_append_runQ _ rfl _ _ 48 48 rfl _ _ rfl rfl (unhide HRUN) ?_)
              go_roundw
              case rel => exact ⟨k + 1, by omega, by go_num, unhide HN⟩
              case measure => simp [intOf]; omega
            · have ek : k = 40 := by omega
              subst ek
              obtain ⟨xs, hx, -⟩ := h1.cur
              obtain ⟨g, cap, rfl, -⟩ := ownsRow_open hx (by omega)
              obtain ⟨lv', W1, hrun, ho, hmv⟩ := appL h1.row (.slice (some ⟨g, 0, none⟩) (H.ns i + 40) cap) rfl (by omega) hb1
              have HN := hide (h1.leave hlt _ hmv ho)
              have HRUN := hide hrun
              clear hx h1 ho hmv hrun
              go_wp2_with (at_builtin; refine wpList_append_runQ _ rfl _ _ 58 58 rfl _ _ rfl rfl (unhide HRUN) ?_)
              go_roundw
              case rel => exact ⟨i + 1, _, by omega, by go_num, unhide HN⟩
              case measure => simp [intOf]; omega
        · have ei : i = H.m := by omega
          subst ei
          have A0 := hide h1
          clear h1 hlt hi
          go_wp2
          go_loop [9] (fun i => ∃ j : Nat, j ≤ H.m ∧ i = .int .i64 j) (fun i => H.m - (intOf i).toNat)
          case atStart => exact ⟨0, Nat.zero_le _, rfl⟩
          case round =>
            obtain ⟨i, hi, rfl⟩ := hrel
            by_cases hlt : i < H.m
            · have small := (unhide HF).small i hlt
              have cb := cellB (unhide A0).blk (unhide HF) i hlt
              have hlen := (unhide A0).len
              obtain ⟨gl, cl, el, -, -, ncl, mcl⟩ := ownsRow_open (unhide A0).row (by omega)
              subst el
              have hu := (unhide A0).row.cellAt i (by omega)
              rw [List.getElem?_eq_getElem (by omega)] at hu
              have lg := (unhide A0).old i _ (List.getElem?_eq_getElem (by omega))
              generalize ys[i] = u at hu lg
              obtain ⟨gu, cu, rfl, ncu, mcu, cu1, cu2⟩ := lg.cells
              have RD := hide ((unhide A0).rd i hlt); have CU1 := hide cu1; have CU2 := hide cu2
              unfold maxLen at mcl mcu
              have w3 : IntKind.i64.wrap (-1 - (i : Int)) = -1 - (i : Int) := by rw [IntKind.wrap_i64]; omega
              have w1 : IntKind.i64.wrap (1000 * (i : Int)) = 1000 * (i : Int) := by rw [IntKind.wrap_i64]; omega
              clear lg cu1 cu2 hlen
              go_wp2
              go_loop [10] (fun q => ∃ k : Nat, k ≤ H.ns i + 40 ∧ q = .int .i64 k) (fun q => H.ns i + 40 - (intOf q).toNat)
              case atStart => exact ⟨0, Nat.zero_le _, rfl⟩
              case round =>
                obtain ⟨k, hk, rfl⟩ := hrel
                have w2 : IntKind.i64.wrap (1000 * (i : Int) + (k : Int)) = 1000 * (i : Int) + (k : Int) := by rw [IntKind.wrap_i64]; omega
                by_cases hlk : k < H.ns i
                · obtain ⟨g, eg, cg⟩ := (unhide RD) k hlk
                  have cu := (unhide CU1) k hlk
                  unfold mkA at cg cu
                  have rr : ((1000 * (i : Int) + (k : Int)) != (1000 * (i : Int) + (k : Int))) = false := by simp
                  go_wp2
                  go_round
                  case rel => exact ⟨k + 1, by omega, by go_num⟩
                  case measure => simp [intOf]; omega
                · by_cases hl2 : k < H.ns i + 40
                  · have cu := (unhide CU2) k (by omega) hl2
                    unfold cA at cu
                    have rr : ((-1 - (i : Int)) != (-1 - (i : Int))) = false := by simp
                    go_wp2
                    go_round
                    case rel => exact ⟨k + 1, by omega, by go_num⟩
                    case measure => simp [intOf]; omega
                  · go_wp2
                    go_round
                    case rel => exact ⟨i + 1, by omega, by go_num⟩
                    case measure => simp [intOf]; omega
            · go_wp2
              go_ret
              exact ⟨rfl, (unhide A0).bel⟩

end Go.Proofs.Ytdmjejfnohhpiaa.Pl

namespace Go.Proofs.Ytdmjejfnohhpiaa.Bg
open Go.RowKit
open Sp (sepV Sep3 sep_nil sep_nil_r)
set_option maxRecDepth 100000
set_option linter.unusedVariables false

/-- Blocks that hold neither bytes nor lists of bytes are as they were. -/
def Kp (w0 w : World) : Prop := ∀ (g : Nat) (c : Array Value) (t : TypeId) (fr : Nat × Nat), w0.heap[g]? = some (.cells c t fr) → t ≠ 5 → t ≠ 22 → w.heap[g]? = w0.heap[g]?
theorem Kp.grown {w W : World} (gr : w.grownBy W none) : Kp w W := fun g c t fr h _ _ => gr.block g (lt_of_block h) (by simp)
theorem Kp.set {w0 w W : World} {g : Nat} {c : Array Value} {fr : Nat × Nat} (h : Kp w0 w) (hg : w.heap[g]? = some (.cells c 5 fr)) (hW : ∀ k, k ≠ g → W.heap[k]? = w.heap[k]?) : Kp w0 W := fun k c' t fr' h1 h2 h3 => by
  have e := h k c' t fr' h1 h2 h3
  rw [hW k (fun e2 => ?_)]
  · exact e
  · subst e2
    rw [hg, h1] at e
    simp only [Option.some.injEq, Obj.cells.injEq] at e
    exact h2 e.2.1.symm
theorem Kp.moved {w0 w W : World} {y y' : Value} {T : TypeId} (h : Kp w0 w) (o : Obj) (hm : Moved (w.alloc o) W y y') (ht : ∀ g, y.ownBlock = some g → ∃ c, w.heap[g]? = some (.cells c T (0, 0))) (hT : T = 5 ∨ T = 22) : Kp w0 W := fun k c' t fr' h1 h2 h3 => by
  have e := h k c' t fr' h1 h2 h3
  rw [h1] at e ⊢
  refine hm.block (block_alloc e o) (fun e2 => ?_)
  obtain ⟨c, hc⟩ := ht k e2
  rw [hc] at e
  simp only [Option.some.injEq, Obj.cells.injEq] at e
  rcases hT with rfl | rfl
  · exact h2 e.2.1.symm
  · exact h3 e.2.1.symm

def mkA (i k : Nat) : Int := (3 + 7 * (i : Int) + 5 * (k : Int)) % 256
def cA (i : Nat) : Int := (131 + 11 * (i : Int)) % 256

/-- The lists that are held against one another: where each lies, how long it is, its room. -/
structure Held where
  m : Nat
  ad : Nat → Option Addr
  ns : Nat → Nat
  cp : Nat → Nat
  cb : Array Value
def Held.v (h : Held) (j : Nat) : Value := .slice (h.ad j) (h.ns j) (h.cp j)

structure Held.Fit (h : Held) : Prop where
  cell : ∀ j, j < h.m → h.cb[j]? = some (h.v j)
  sep : ∀ i j, i < h.m → j < h.m → i ≠ j → (h.v i).ownBlock = none ∨ (h.v i).ownBlock ≠ (h.v j).ownBlock
  small : ∀ j, j < h.m → h.ns j ≤ 140737488355000
  few : h.m ≤ 100000000

section
variable {H : Held} {w0 wr : World} {B b : Nat}

/-- The first phase: the first i lists are written full, of the next one k places. -/
structure A1 (H : Held) (w0 : World) (B b : Nat) (wr : World) (i k : Nat) : Prop where
  blk : wr.heap[b]? = some (.cells H.cb 22 (0, 0))
  own : ∀ j, j < H.m → ∃ xs, wr.ownsRow B 5 1 (H.v j) (H.ns j) xs ∧ ∀ q, q < H.ns j → (j < i ∨ (j = i ∧ q < k)) → xs[q]? = some (.int .u8 (mkA j q))
  bel : Below B w0 wr
  low : B ≤ b
  keep : Kp w0 wr

theorem A1.next {i : Nat} (h : A1 H w0 B b wr i (H.ns i)) : A1 H w0 B b wr (i + 1) 0 :=
  ⟨h.blk, fun j hj => by
    obtain ⟨xs, h1, h2⟩ := h.own j hj
    refine ⟨xs, h1, fun q hq hd => h2 q hq ?_⟩
    by_cases e : j = i
    · subst e; exact .inr ⟨rfl, hq⟩
    · left; omega, h.bel, h.low, h.keep⟩

theorem cellB (hb : wr.heap[b]? = some (.cells H.cb 22 (0, 0))) (hf : H.Fit) (j : Nat) (hj : j < H.m) : wr.cell? ⟨b, j, none⟩ = some (.slice (H.ad j) (H.ns j) (H.cp j)) := by
  simp only [World.cell?, hb]
  simpa [Held.v] using hf.cell j hj

theorem neB (hb : wr.heap[b]? = some (.cells H.cb 22 (0, 0))) {g : Nat} {c : Array Value} (hg : wr.heap[g]? = some (.cells c 5 (0, 0))) : b ≠ g := by
  intro e
  subst e
  rw [hb] at hg
  simp at hg

theorem A1.step {i k : Nat} (h : A1 H w0 B b wr i k) (hf : H.Fit) (hi : i < H.m) (hk : k < H.ns i) :
    ∃ g y, H.ad i = some ⟨g, 0, none⟩ ∧ H.ns i ≤ H.cp i ∧ H.cp i ≤ maxLen ∧ wr.cell? ⟨g, k, none⟩ = some y ∧ wr.frozen? ⟨g, k, none⟩ = false ∧ A1 H w0 B b (wr.setCell ⟨g, k, none⟩ (.int .u8 (mkA i k))) i (k + 1) := by
  obtain ⟨xs, ho, hx⟩ := h.own i hi
  obtain ⟨g, cap, e, hg, hgl, hnc, hcm⟩ := ownsRow_open ho (by omega)
  have e' := e
  simp only [Held.v, Value.slice.injEq] at e'
  obtain ⟨ea, -, ec⟩ := e'
  rw [e] at ho
  have hc := ho.cellAt k (by omega)
  have hl := ho.1
  have st := ho.stored k (.int .u8 (mkA i k))
  obtain ⟨c, hcb⟩ := ownsRow_block ho g rfl
  refine ⟨g, xs[k]'(by omega), ea, by omega, by rw [ec]; exact hcm, by rw [hc, List.getElem?_eq_getElem], ho.frozenAt k, ⟨?_, fun j hj => ?_, h.bel.setCell hg _, h.low, h.keep.set hcb (fun q hq => heap_setCell_other _ _ _ _ hq)⟩⟩
  · rw [heap_setCell_other _ _ _ _ (by show b ≠ g; exact neB h.blk hcb)]; exact h.blk
  · by_cases eij : j = i
    · subst eij
      refine ⟨xs.set k (.int .u8 (mkA j k)), by rw [e]; exact st.1, fun q hq hd => ?_⟩
      by_cases eq : k = q
      · subst eq; rw [List.getElem?_set_self (by omega)]
      · rw [List.getElem?_set_ne eq]; exact hx q hq (by omega)
    · obtain ⟨ys, h1, h2⟩ := h.own j hj
      refine ⟨ys, h1.kept st.2 ?_, fun q hq hd => h2 q hq (by omega)⟩
      rcases hf.sep j i hj hi eij with hs | hs
      · exact .inl hs
      · right; rw [e] at hs; exact hs

/-- What holds of a list that was made longer. -/
def Long (H : Held) (B : Nat) (w : World) (j k : Nat) (u : Value) : Prop :=
  ∃ xs, w.ownsRow B 5 1 u (H.ns j + k) xs ∧ (∀ q, q < H.ns j → xs[q]? = some (.int .u8 (mkA j q))) ∧ ∀ q, H.ns j ≤ q → q < H.ns j + k → xs[q]? = some (.int .u8 (cA j))

/-- The second phase, between two lists. -/
structure A2 (H : Held) (w0 : World) (B b : Nat) (wr : World) (i : Nat) (lv : Value) (ys : List Value) : Prop where
  blk : wr.heap[b]? = some (.cells H.cb 22 (0, 0))
  rd : ∀ j, j < H.m → ∀ q, q < H.ns j → ∃ g, H.ad j = some ⟨g, 0, none⟩ ∧ wr.cell? ⟨g, q, none⟩ = some (.int .u8 (mkA j q))
  own : ∀ j, i ≤ j → j < H.m → Long H B wr j 0 (H.v j)
  typ : ∀ j, j < H.m → ∀ g, (H.v j).ownBlock = some g → ∃ c, wr.heap[g]? = some (.cells c 5 (0, 0))
  len : ys.length = i
  old : ∀ (j : Nat) (u : Value), ys[j]? = some u → Long H B wr j 80 u
  row : wr.ownsRow (b + 1) 22 1 lv i ys
  sep : ∀ (j : Nat) (u : Value), ys[j]? = some u → ∀ q, q < H.m → i ≤ q → u.ownBlock ≠ (H.v q).ownBlock
  bel : Below B w0 wr
  low : B ≤ b
  keep : Kp w0 wr

/-- The second phase, within a list: y is made longer. -/
structure A2y (H : Held) (w0 : World) (B b : Nat) (wr : World) (i k : Nat) (y lv : Value) (ys : List Value) : Prop where
  blk : wr.heap[b]? = some (.cells H.cb 22 (0, 0))
  rd : ∀ j, j < H.m → ∀ q, q < H.ns j → ∃ g, H.ad j = some ⟨g, 0, none⟩ ∧ wr.cell? ⟨g, q, none⟩ = some (.int .u8 (mkA j q))
  own : ∀ j, i < j → j < H.m → Long H B wr j 0 (H.v j)
  cur : Long H B wr i k y
  typ : ∀ j, j < H.m → ∀ g, (H.v j).ownBlock = some g → ∃ c, wr.heap[g]? = some (.cells c 5 (0, 0))
  len : ys.length = i
  old : ∀ (j : Nat) (u : Value), ys[j]? = some u → Long H B wr j 80 u
  row : wr.ownsRow (b + 1) 22 1 lv i ys
  sepv : ∀ j, j < H.m → j ≠ i → y.ownBlock = none ∨ y.ownBlock ≠ (H.v j).ownBlock
  sepu : ∀ (j : Nat) (u : Value), ys[j]? = some u → y.ownBlock = none ∨ y.ownBlock ≠ u.ownBlock
  sep : ∀ (j : Nat) (u : Value), ys[j]? = some u → ∀ q, q < H.m → i < q → u.ownBlock ≠ (H.v q).ownBlock
  bel : Below B w0 wr
  low : B ≤ b
  keep : Kp w0 wr

theorem A1.turn (h : A1 H w0 B b wr H.m 0) : A2 H w0 B b wr 0 (.slice none 0 0) [] := by
  have ow : ∀ j, j < H.m → Long H B wr j 0 (H.v j) := fun j hj => by
    obtain ⟨xs, h1, h2⟩ := h.own j hj
    exact ⟨xs, h1, fun q hq => h2 q hq (.inl hj), fun q h1 h2 => by omega⟩
  refine ⟨h.blk, fun j hj q hq => ?_, fun j _ hj => ow j hj, fun j hj g hg => ?_, rfl, fun j u hu => by simp at hu, World.ownsRow_nil _ _ _ _, fun j u hu => by simp at hu, h.bel, h.low, h.keep⟩
  · obtain ⟨xs, h1, h2, _⟩ := ow j hj
    obtain ⟨g, cap, e, _⟩ := ownsRow_open h1 (by omega)
    have e' := e
    simp only [Held.v, Value.slice.injEq] at e'
    rw [e] at h1
    exact ⟨g, e'.1, by rw [h1.cellAt q (by omega)]; exact h2 q hq⟩
  · obtain ⟨xs, h1, h2, _⟩ := ow j hj
    exact ownsRow_block h1 g hg

theorem A2.enter {i : Nat} {lv : Value} {ys : List Value} (h : A2 H w0 B b wr i lv ys) (hf : H.Fit) (hi : i < H.m) : A2y H w0 B b wr i 0 (H.v i) lv ys :=
  ⟨h.blk, h.rd, fun j h1 h2 => h.own j (by omega) h2, h.own i (Nat.le_refl _) hi, h.typ, h.len, h.old, h.row, fun j hj hne => hf.sep i j hi hj (Ne.symm hne),
    fun j u hu => .inr (Ne.symm (h.sep j u hu i hi (Nat.le_refl _))), fun j u hu q hq hiq => h.sep j u hu q hq (by omega), h.bel, h.low, h.keep⟩

theorem A2y.app {i k : Nat} {y lv : Value} {ys : List Value} (h : A2y H w0 B b wr i k y lv ys) (hi : i < H.m) (o : Obj) {W1 : World} {y' : Value} {xs : List Value} (hx : wr.ownsRow B 5 1 y (H.ns i + k) xs) (hm : Moved (wr.alloc o) W1 y y') (ho : W1.ownsRow B 5 1 y' (H.ns i + k + 1) (xs ++ [.int .u8 (cA i)])) :
    A2y H w0 B b W1 i (k + 1) y' lv ys := by
  have hsz := hm.size
  simp only [World.size_alloc] at hsz
  have yb : y.ownBlock ≠ some b := fun e => by
    obtain ⟨c, hc⟩ := ownsRow_block hx b e
    exact neB h.blk hc rfl
  have hl := hx.1
  obtain ⟨xs0, hx0, hx1, hx2⟩ := h.cur
  have exs : xs0 = xs := by
    rcases hx.2 with ⟨rfl, h0⟩ | ⟨g, cap, c, rfl, _, hg, _, _, _, ht⟩
    · have := hx0.1
      simp only [h0, Nat.zero_mul] at this hl
      rw [List.eq_nil_of_length_eq_zero this, List.eq_nil_of_length_eq_zero hl]
    · rcases hx0.2 with ⟨h', _⟩ | ⟨g', cap', c', h', _, hg', _, _, _, ht'⟩
      · simp at h'
      · simp only [Value.slice.injEq, Option.some.injEq, Addr.mk.injEq, and_true, true_and] at h'
        obtain ⟨rfl, rfl⟩ := h'
        rw [hg] at hg'
        simp only [Option.some.injEq, Obj.cells.injEq, and_true] at hg'
        subst hg'
        rw [← ht, ← ht']
  subst exs
  have cur' : Long H B W1 i (k + 1) y' := by
    refine ⟨xs0 ++ [.int .u8 (cA i)], by rw [← Nat.add_assoc]; exact ho, fun q hq => ?_, fun q h1 h2 => ?_⟩
    · rw [List.getElem?_append_left (by omega)]; exact hx1 q hq
    · by_cases e : q < H.ns i + k
      · rw [List.getElem?_append_left (by omega)]; exact hx2 q h1 e
      · have : q = xs0.length := by omega
        subst this
        simp
  have nb : ∀ g, y'.ownBlock = some g → y.ownBlock = some g ∨ g = wr.heap.size + 1 := fun g hg => by
    rcases hm with ⟨e, _⟩ | ⟨e, _, _⟩
    · left; rw [← e]; exact hg
    · right; rw [e] at hg; simpa using hg.symm
  refine ⟨hm.block (block_alloc h.blk o) yb, fun j hj q hq => ?_, fun j h1 h2 => ?_, cur', fun j hj g hg => ?_, h.len, fun j u hu => ?_, ?_, fun j hj hne => ?_, fun j u hu => ?_, h.sep, ?_, h.low, h.keep.moved o hm (fun g hg => ownsRow_block hx g hg) (.inl rfl)⟩
  · obtain ⟨g, hg, hc⟩ := h.rd j hj q hq
    refine ⟨g, hg, ?_⟩
    by_cases e : y.ownBlock = some g
    · have eji : j = i := by
        by_cases e2 : j = i
        · exact e2
        · rcases h.sepv j hj e2 with hs | hs
          · rw [hs] at e; cases e
          · exact absurd (by rw [e, Held.v, hg]; rfl) hs
      subst eji
      rcases hm with ⟨e3, hgr⟩ | ⟨e3, hgr, _⟩
      · obtain ⟨g2, cap, e4, _⟩ := ownsRow_open ho (by omega)
        rw [e4] at e3 ho
        rw [e] at e3
        simp only [Value.ownBlock, Option.some.injEq] at e3
        subst e3
        rw [ho.cellAt q (by omega), List.getElem?_append_left (by omega)]
        exact hx1 q hq
      · exact hgr.cell (cell_alloc hc o) (by simp)
    · exact hm.cell (cell_alloc hc o) e
  · obtain ⟨zs, z1, z2, z3⟩ := h.own j h1 h2
    refine ⟨zs, hm.kept (z1.alloc o) ?_, z2, z3⟩
    rcases h.sepv j h2 (by omega) with hs | hs
    · rw [hs]; cases (H.v j).ownBlock <;> simp
    · exact .inr (Ne.symm hs)
  · obtain ⟨c, hc⟩ := h.typ j hj g hg
    by_cases e : y.ownBlock = some g
    · rcases hm with ⟨e3, hgr⟩ | ⟨e3, hgr, _⟩
      · exact ownsRow_block ho g (by rw [e3]; exact e)
      · exact ⟨c, by rw [hgr.block g (by have := lt_of_block hc; simp; omega) (by simp)]; exact block_alloc hc o⟩
    · exact ⟨c, hm.block (block_alloc hc o) e⟩
  · obtain ⟨zs, z1, z2, z3⟩ := h.old j u hu
    refine ⟨zs, hm.kept (z1.alloc o) ?_, z2, z3⟩
    rcases h.sepu j u hu with hs | hs
    · rw [hs]; cases u.ownBlock <;> simp
    · exact .inr (Ne.symm hs)
  · exact hm.kept (h.row.alloc o) (rows_apart (h.row.alloc o) (hx.alloc o) (by decide))
  · cases hy : y'.ownBlock with
    | none => exact .inl rfl
    | some g =>
      right
      intro e
      rcases nb g hy with h1 | h1
      · rcases h.sepv j hj hne with hs | hs
        · rw [hs] at h1; cases h1
        · exact hs (by rw [h1]; exact e)
      · obtain ⟨c, hc⟩ := h.typ j hj g e.symm
        have := lt_of_block hc
        omega
  · cases hy : y'.ownBlock with
    | none => exact .inl rfl
    | some g =>
      right
      intro e
      rcases nb g hy with h1 | h1
      · rcases h.sepu j u hu with hs | hs
        · rw [hs] at h1; cases h1
        · exact hs (by rw [h1]; exact e)
      · obtain ⟨zs, z1, _⟩ := h.old j u hu
        have := (z1.lt g e.symm).2
        omega
  · exact hm.below (h.bel.alloc (by have := h.bel.size; have := lt_of_block h.blk; have := h.low; omega) o) (by have := lt_of_block h.blk; have := h.low; simp; omega) (fun g hg => (hx.lt g hg).1)

theorem A2y.leave {i : Nat} {y lv : Value} {ys : List Value} (h : A2y H w0 B b wr i 80 y lv ys) (hi : i < H.m) (o : Obj) {W1 : World} {lv' : Value} (hm : Moved (wr.alloc o) W1 lv lv') (ho : W1.ownsRow (b + 1) 22 1 lv' (i + 1) (ys ++ [y])) :
    A2 H w0 B b W1 (i + 1) lv' (ys ++ [y]) := by
  have hsz := hm.size
  simp only [World.size_alloc] at hsz
  have hb : lv.ownBlock ≠ some b := fun e => by have := (h.row.lt b e).1; omega
  have keep : ∀ j k u, Long H B wr j k u → Long H B W1 j k u := fun j k u ⟨xs, h1, h2, h3⟩ =>
    ⟨xs, hm.kept (h1.alloc o) (rows_apart (h1.alloc o) (h.row.alloc o) (by decide)), h2, h3⟩
  have ge : ∀ (j : Nat) (u : Value), (ys ++ [y])[j]? = some u → (ys[j]? = some u) ∨ (j = i ∧ u = y) := fun j u hu => by
    by_cases e : j < ys.length
    · rw [List.getElem?_append_left e] at hu; exact .inl hu
    · rw [List.getElem?_append_right (by omega)] at hu
      have hl := h.len
      match hj : j - ys.length, hu with
      | 0, hu => right; simp at hu; exact ⟨by omega, hu.symm⟩
      | q + 1, hu => simp at hu
  refine ⟨hm.block (block_alloc h.blk o) hb, fun j hj q hq => ?_, fun j h1 h2 => keep j 0 _ (h.own j (by omega) h2), fun j hj g hg => ?_, by simp [h.len], fun j u hu => ?_, ho, fun j u hu q hq hiq => ?_, ?_, h.low, h.keep.moved o hm (fun g hg => ownsRow_block h.row g hg) (.inr rfl)⟩
  · obtain ⟨g, hg, hc⟩ := h.rd j hj q hq
    refine ⟨g, hg, hm.cell (cell_alloc hc o) (fun e => ?_)⟩
    obtain ⟨c, h1⟩ := ownsRow_block h.row g e
    obtain ⟨c', h2⟩ := h.typ j hj g (by rw [Held.v, hg]; rfl)
    rw [h1] at h2
    simp at h2
  · obtain ⟨c, hc⟩ := h.typ j hj g hg
    refine ⟨c, hm.block (block_alloc hc o) (fun e => ?_)⟩
    obtain ⟨c', h1⟩ := ownsRow_block h.row g e
    rw [hc] at h1
    simp at h1
  · rcases ge j u hu with h1 | ⟨rfl, rfl⟩
    · exact keep j 80 u (h.old j u h1)
    · exact keep _ 80 _ h.cur
  · rcases ge j u hu with h1 | ⟨rfl, rfl⟩
    · exact h.sep j u h1 q hq (by omega)
    · rcases h.sepv q hq (by omega) with hs | hs
      · obtain ⟨xs, z1, _⟩ := h.cur
        obtain ⟨g, cap, e, _⟩ := ownsRow_open z1 (by omega)
        rw [e] at hs
        simp [Value.ownBlock] at hs
      · exact hs
  · exact hm.below (h.bel.alloc (by have := h.bel.size; have := lt_of_block h.blk; have := h.low; omega) o) (by have := lt_of_block h.blk; have := h.low; simp; omega) (fun g hg => by have := (h.row.lt g hg).1; have := h.low; omega)
end

theorem Long.cells {H : Held} {B : Nat} {w : World} {j : Nat} {u : Value} (h : Long H B w j 80 u) : ∃ g cap, u = .slice (some ⟨g, 0, none⟩) (H.ns j + 80) cap ∧ H.ns j + 80 ≤ cap ∧ cap ≤ maxLen ∧ (∀ q, q < H.ns j → w.cell? ⟨g, q, none⟩ = some (.int .u8 (mkA j q))) ∧ ∀ q, H.ns j ≤ q → q < H.ns j + 80 → w.cell? ⟨g, q, none⟩ = some (.int .u8 (cA j)) := by
  obtain ⟨xs, h1, h2, h3⟩ := h
  obtain ⟨g, cap, rfl, _, _, hc, hm⟩ := ownsRow_open h1 (by omega)
  exact ⟨g, cap, rfl, hc, hm, fun q hq => by rw [h1.cellAt q (by omega)]; exact h2 q hq, fun q hq hq2 => by rw [h1.cellAt q (by omega)]; exact h3 q hq hq2⟩

set_option maxHeartbeats 6400000 in
theorem apart_any (H : Held) (w0 wr : World) (B b c : Nat) (hf : H.Fit) (ha : A1 H w0 B b wr 0 0) :
    Calls Try.prog 20 #[.slice (some ⟨b, 0, none⟩) H.m c] wr fun e w' => e = .returned (.bool true) ∧ Below B w0 w' ∧ Kp w0 w' := by
  have few := hf.few
  have HF := hide hf; have HA := hide ha
  clear hf ha
  go_enter Try.func20, Try.ntmps20
  go_wp2
  go_loopw [3] (fun i w => ∃ j : Nat, j ≤ H.m ∧ i = .int .i64 j ∧ A1 H w0 B b w j 0) (fun i _ => H.m - (intOf i).toNat)
  case atStart => exact ⟨0, Nat.zero_le _, rfl, unhide HA⟩
  case round =>
    clear HA
    obtain ⟨i, hi, rfl, h1⟩ := hrel
    by_cases hlt : i < H.m
    · have small := (unhide HF).small i hlt
      have A0 := hide h1
      clear h1
      go_wp2
      go_loopw [4] (fun q w => ∃ k : Nat, k ≤ H.ns i ∧ q = .int .i64 k ∧ A1 H w0 B b w i k) (fun q _ => H.ns i - (intOf q).toNat)
      case atStart => exact ⟨0, Nat.zero_le _, rfl, unhide A0⟩
      case round =>
        clear A0
        obtain ⟨k, hk, rfl, h1⟩ := hrel
        have cb := cellB h1.blk (unhide HF) i hlt
        by_cases hlk : k < H.ns i
        · obtain ⟨g, y, e1, e2, e3, e4, e5, h2⟩ := h1.step (unhide HF) hlt hlk
          unfold maxLen at e3
          have A2 := hide h2
          unfold mkA at A2
          clear h1 h2
          go_wp2
          go_roundw
          case rel => exact ⟨k + 1, by omega, by go_num, unhide A2⟩
          case measure => simp [intOf]; omega
        · have ek : k = H.ns i := by omega
          subst ek
          have A2 := hide h1.next
          clear h1
          go_wp2
          go_roundw
          case rel => exact ⟨i + 1, by omega, by go_num, unhide A2⟩
          case measure => simp [intOf]; omega
    · have ei : i = H.m := by omega
      subst ei
      have A0 := hide h1.turn
      clear h1 hlt
      go_wp2
      go_loopw [5, 6] (fun lv i w => ∃ (j : Nat) (ys : List Value), j ≤ H.m ∧ i = .int .i64 j ∧ A2 H w0 B b w j lv ys) (fun _ i _ => H.m - (intOf i).toNat)
      case atStart => exact ⟨0, [], Nat.zero_le _, rfl, unhide A0⟩
      case round =>
        clear A0
        obtain ⟨i, ys, hi, rfl, h1⟩ := hrel
        by_cases hlt : i < H.m
        · have small := (unhide HF).small i hlt
          have cb := cellB h1.blk (unhide HF) i hlt
          have A0 := hide (h1.enter (unhide HF) hlt)
          unfold Held.v at A0
          clear h1
          go_wp2
          go_loopw [7, 8] (fun y q w => ∃ k : Nat, k ≤ 80 ∧ q = .int .i64 k ∧ A2y H w0 B b w i k y u5 ys) (fun _ q _ => 80 - (intOf q).toNat)
          case atStart => exact ⟨0, by omega, rfl, unhide A0⟩
          case round =>
            clear A0 cb
            obtain ⟨k, hk, rfl, h1⟩ := hrel
            have hB : B ≤ wr.heap.size := by have := lt_of_block h1.blk; have := h1.low; omega
            have hb1 : b + 1 ≤ wr.heap.size := lt_of_block h1.blk
            by_cases hlk : k < 80
            · obtain ⟨xs, hx, -⟩ := h1.cur
              have HX := hide hx; have HY := hide h1
              clear hx h1
              go_wp2_with (first
                | (at_builtin; refine wpList_app1g _ rfl (.tmp 54) (.tmp 59) rfl B _ (H.ns i + k) xs (unhide HX) rfl (.int .u8 ((131 + 11 * (i : Int)) % 256)) rfl _ rfl (by simp) (by omega) hB ?_; intro y' W1 ho hmv _; have HN := hide ((unhide HY).app hlt _ (unhide HX) hmv ho); clear ho hmv)
                | go_in)
              go_roundw
              case rel => exact ⟨k + 1, by omega, by go_num, unhide HN⟩
              case measure => simp [intOf]; omega
            · have ek : k = 80 := by omega
              subst ek
              obtain ⟨xs, hx, -⟩ := h1.cur
              obtain ⟨g, cap, rfl, -⟩ := ownsRow_open hx (by omega)
              have HY := hide h1
              clear hx h1
              go_wp2_with (first
                | (at_builtin; refine wpList_appS _ rfl (.tmp 61) (.tmp 63) rfl (b + 1) _ i ys (unhide HY).row rfl (.slice (some ⟨g, 0, none⟩) (H.ns i + 80) cap) rfl _ rfl (by simp) (by omega) hb1 ?_; intro lv' W1 ho hmv _; have HN := hide ((unhide HY).leave hlt _ hmv ho); clear ho hmv)
                | go_in)
              go_roundw
              case rel => exact ⟨i + 1, _, by omega, by go_num, unhide HN⟩
              case measure => simp [intOf]; omega
        · have ei : i = H.m := by omega
          subst ei
          have A0 := hide h1
          clear h1 hlt hi
          go_wp2
          go_loop [9] (fun i => ∃ j : Nat, j ≤ H.m ∧ i = .int .i64 j) (fun i => H.m - (intOf i).toNat)
          case atStart => exact ⟨0, Nat.zero_le _, rfl⟩
          case round =>
            obtain ⟨i, hi, rfl⟩ := hrel
            by_cases hlt : i < H.m
            · have small := (unhide HF).small i hlt
              have cb := cellB (unhide A0).blk (unhide HF) i hlt
              have hlen := (unhide A0).len
              obtain ⟨gl, cl, el, -, -, ncl, mcl⟩ := ownsRow_open (unhide A0).row (by omega)
              subst el
              have hu := (unhide A0).row.cellAt i (by omega)
              rw [List.getElem?_eq_getElem (by omega)] at hu
              have lg := (unhide A0).old i _ (List.getElem?_eq_getElem (by omega))
              generalize ys[i] = u at hu lg
              obtain ⟨gu, cu, rfl, ncu, mcu, cu1, cu2⟩ := lg.cells
              have RD := hide ((unhide A0).rd i hlt); have CU1 := hide cu1; have CU2 := hide cu2
              unfold maxLen at mcl mcu
              clear lg cu1 cu2 hlen
              go_wp2
              go_loop [10] (fun q => ∃ k : Nat, k ≤ H.ns i + 80 ∧ q = .int .i64 k) (fun q => H.ns i + 80 - (intOf q).toNat)
              case atStart => exact ⟨0, Nat.zero_le _, rfl⟩
              case round =>
                obtain ⟨k, hk, rfl⟩ := hrel
                by_cases hlk : k < H.ns i
                · obtain ⟨g, eg, cg⟩ := (unhide RD) k hlk
                  have cu := (unhide CU1) k hlk
                  unfold mkA at cg cu
                  go_wp2
                  go_round
                  case rel => exact ⟨k + 1, by omega, by go_num⟩
                  case measure => simp [intOf]; omega
                · by_cases hl2 : k < H.ns i + 80
                  · have cu := (unhide CU2) k (by omega) hl2
                    unfold cA at cu
                    go_wp2
                    go_round
                    case rel => exact ⟨k + 1, by omega, by go_num⟩
                    case measure => simp [intOf]; omega
                  · go_wp2
                    go_round
                    case rel => exact ⟨i + 1, by omega, by go_num⟩
                    case measure => simp [intOf]; omega
            · go_wp2
              go_ret
              exact ⟨rfl, (unhide A0).bel, (unhide A0).keep⟩
def heldIn (vs : List Value) (cur : Array Value) : Held := ⟨vs.length, fun j => vad (vs.getD j (.slice none 0 0)), fun j => vns (vs.getD j (.slice none 0 0)), fun j => vcp (vs.getD j (.slice none 0 0)), cur⟩
theorem apart_row (vs : List Value) (cur : Array Value) (w0 wr : World) (B b c : Nat) (hB : B ≤ b) (hb : wr.heap[b]? = some (.cells cur 22 (0, 0))) (hcur : cur.toList.take vs.length = vs) (hown : ∀ v ∈ vs, ∃ n xs, wr.ownsRow B 5 1 v n xs ∧ n ≤ 140737488355000)
    (hsep : vs.Pairwise sepV) (few : vs.length ≤ 100000000) (bel : Below B w0 wr) (kp : Kp w0 wr) :
    Calls Try.prog 20 #[.slice (some ⟨b, 0, none⟩) vs.length c] wr fun e w' => e = .returned (.bool true) ∧ Below B w0 w' ∧ Kp w0 w' := by
  have get : ∀ j, j < vs.length → vs[j]? = some (vs.getD j (.slice none 0 0)) := fun j hj => by simp [List.getD, hj]
  have mem : ∀ j, j < vs.length → vs.getD j (.slice none 0 0) ∈ vs := fun j hj => List.mem_of_getElem? (get j hj)
  have hv : ∀ j, j < vs.length → (heldIn vs cur).v j = vs.getD j (.slice none 0 0) := fun j hj => by
    obtain ⟨n, xs, ho, _⟩ := hown _ (mem j hj)
    exact (ownsRow_shape ho).1.symm
  have fit : (heldIn vs cur).Fit := by
    refine ⟨fun j hj => ?_, fun i j hi hj hne => ?_, fun j hj => ?_, few⟩
    · rw [hv j hj]
      show cur[j]? = _
      have hj' : j < vs.length := hj
      have e : (cur.toList.take vs.length)[j]? = vs[j]? := by rw [hcur]
      rw [List.getElem?_take, if_pos hj', Array.getElem?_toList] at e
      rw [e]; exact get j hj'
    · rw [hv i hi, hv j hj]
      rw [List.pairwise_iff_getElem] at hsep
      have hi' : i < vs.length := hi
      have hj' : j < vs.length := hj
      have e1 : vs.getD i (.slice none 0 0) = vs[i] := by simp [List.getD, hi']
      have e2 : vs.getD j (.slice none 0 0) = vs[j] := by simp [List.getD, hj']
      rw [e1, e2]
      rcases Nat.lt_or_gt_of_ne hne with h | h
      · exact hsep i j hi' hj' h
      · rcases hsep j i hj' hi' h with h1 | h1
        · rw [h1]; cases vs[i].ownBlock <;> simp
        · exact .inr (Ne.symm h1)
    · obtain ⟨n, xs, ho, hn⟩ := hown _ (mem j hj)
      show vns _ ≤ _
      rw [(ownsRow_shape ho).2]; exact hn
  exact apart_any (heldIn vs cur) w0 wr B b c fit ⟨hb, fun j hj => by
    obtain ⟨n, xs, ho, _⟩ := hown _ (mem j hj)
    refine ⟨xs, ?_, fun q _ h => by omega⟩
    rw [hv j hj]
    show wr.ownsRow B 5 1 _ (vns _) xs
    rw [(ownsRow_shape ho).2]; exact ho, bel, hB, kp⟩

set_option maxHeartbeats 1000000
/-- Three lists more. -/
theorem app3 {base n : Nat} {w : World} {v : Value} {xs : List Value} (h : w.ownsRow base 22 1 v n xs) (u1 u2 u3 : Value) (h1 : u1.oneCell' = true) (h2 : u2.oneCell' = true) (h3 : u3.oneCell' = true) (few : n ≤ 100000000) (hB : base ≤ w.heap.size) :
    ∃ g c w', (Builtin.append_ #[44, 44] 44 #[v, .slice (some ⟨w.heap.size, 0, none⟩) 3 3]).run Try.prog (w.alloc (.cells #[u1, u2, u3] 22)) = .ok (.slice (some ⟨g, 0, none⟩) (n + 3) c) w'
      ∧ w'.ownsRow base 22 1 (.slice (some ⟨g, 0, none⟩) (n + 3) c) (n + 3) (xs ++ [u1, u2, u3]) ∧ (w.alloc (.cells #[u1, u2, u3] 22)).grownBy w' v.ownBlock := by
  obtain ⟨inf, hi0, hz0, hz1, hz2⟩ := info_parts Try.infoS
  have hsz := alloc_size w (.cells #[u1, u2, u3] 22)
  have hnews : ∀ (i : Nat) u, ([u1, u2, u3] : List Value)[i]? = some u → (w.alloc (.cells #[u1, u2, u3] 22)).cell? ((⟨w.heap.size, 0, none⟩ : Addr).add i) = some u := fun i u hu => by
    rw [show (⟨w.heap.size, 0, none⟩ : Addr).add i = ⟨w.heap.size, i, none⟩ by simp [Addr.add]; exact fun e => e.symm]
    simp only [World.cell?, heap_alloc_new]
    rw [← hu]
    simp
  obtain ⟨v5, W5, hrun, o5, g5, -⟩ := run_append_own (P := Try.prog) (w.alloc (.cells #[u1, u2, u3] 22)) base 44 44 22 inf (.slice none 0 0) 1 24 Try.underlying44 hi0 hz0 hz1 hz2 rfl (by decide) v n xs (h.alloc _) ⟨w.heap.size, 0, none⟩ 3 3 [u1, u2, u3] rfl hnews (fun u hu => by simp at hu; rcases hu with rfl | rfl | rfl <;> assumption) (by unfold maxLen; omega) (by omega) (by omega)
  obtain ⟨h5, c5, rfl⟩ : ∃ h5 c5, v5 = .slice (some ⟨h5, 0, none⟩) (n + 3) c5 := by
    rcases o5.2 with ⟨-, e⟩ | ⟨g6, cap, cur, e, -⟩
    · omega
    · exact ⟨g6, cap, e⟩
  exact ⟨h5, c5, W5, hrun, o5, g5⟩

theorem apart05 (B : Nat) (w : World) (gl n cl : Nat) (ps : List PV) (hn : ps.length = n) (h : PRow B w (.slice (some ⟨gl, 0, none⟩) n cl) ps) (hB : B ≤ w.heap.size) (few : n ≤ 10000000) (h0 : 0 < n) :
    Calls Try.prog 28 #[.slice (some ⟨gl, 0, none⟩) n cl] w fun e w' => e = .returned (.bool true) ∧ Below B w w' ∧ Kp w w' := by
  have hcap : n ≤ cl ∧ cl ≤ 9223372036854775807 := by
    rcases h.row.2 with ⟨e, -⟩ | ⟨g, cap, cur, e, q1, q2, q3, q4, q5, q6⟩
    · cases e
    · simp only [Value.slice.injEq, Option.some.injEq, Addr.mk.injEq, and_true] at e
      obtain ⟨rfl, e2, rfl⟩ := e
      unfold maxLen at q4
      omega
  have HH := hide h; have HNN := hide hn
  have hgl := hide (cell_ltb ((h.cell 0 (ps[0]'(by omega)) (by simp) 0 (by omega)).trans rfl))
  clear h hn
  go_enter Try.func28, Try.ntmps28
  go_wp2_with fail
  go_loopw [3, 4] (fun all i wr => ∃ (k : Nat) (a : Option Addr) (c : Nat), k ≤ n ∧ i = .int .i64 k ∧ all = .slice a (k * 3) c ∧ wr.ownsRow w.heap.size 22 1 (.slice a (k * 3) c) (k * 3) ((ps.take k).flatMap PV.vl) ∧ w.grownBy wr none) (fun _ i _ => n - (intOf i).toNat)
  case atStart => exact ⟨0, none, 0, Nat.zero_le _, rfl, rfl, World.ownsRow_nil _ _ _ _, World.grownBy.refl w none⟩
  case round =>
    obtain ⟨k, a, c, hk, rfl, rfl, ho, gr⟩ := hrel
    have hml : ¬ (9223372036854775807 : Int) < (n : Int) := by omega
    by_cases hlt : k < n
    · have kN : (k : Int) < (n : Int) := by omega
      obtain ⟨x, hx⟩ : ∃ x, ps[k]? = some x := ⟨ps[k]'(by have := unhide HNN; omega), by simp⟩
      have PR := (unhide HH).grown gr
      have xin := PR.own x (List.mem_of_getElem? hx)
      have y1 : wr.cell? ⟨gl, k * 6 + 1, none⟩ = some x.d := PR.cell k x hx 1 (by omega)
      have y2 : wr.cell? ⟨gl, k * 6 + 2, none⟩ = some x.s := PR.cell k x hx 2 (by omega)
      have y5 : wr.cell? ⟨gl, k * 6 + 5, none⟩ = some x.y := PR.cell k x hx 5 (by omega)
      have ho' : wr.drew.ownsRow w.heap.size 22 1 (.slice a (k * 3) c) (k * 3) ((ps.take k).flatMap PV.vl) := ho
      have gr' : w.grownBy wr.drew none := grown_drew' gr
      obtain ⟨g', c', W', hrun, o', g5⟩ := app3 ho' x.d x.s x.y xin.d.one xin.s.one xin.y.one (by omega) gr'.size
      have gA := gr'.trans (World.grownBy_alloc wr.drew (.cells #[x.d, x.s, x.y] 22) none)
      have lb := (ho'.alloc (.cells #[x.d, x.s, x.y] 22)).lt
      have gW : w.grownBy W' none := ⟨g5.os.trans gA.os, g5.tape.trans gA.tape, g5.output.trans gA.output, Nat.le_trans gA.size g5.size, fun i hi _ => (g5.block i (Nat.lt_of_lt_of_le hi gA.size) (fun e => by have := (lb i e.symm).1; omega)).trans (gA.block i hi (by simp))⟩
      have e3 : (ps.take (k + 1)).flatMap PV.vl = (ps.take k).flatMap PV.vl ++ [x.d, x.s, x.y] := by
        rw [List.take_add_one, hx]; simp [PV.vl]
      have PW := (unhide HH).grown gW
      have E := hide (show ∃ (k' : Nat) (a : Option Addr) (c : Nat), k' ≤ n ∧ Value.int .i64 ((k : Int) + 1) = .int .i64 k' ∧ Value.slice (some ⟨g', 0, none⟩) (k * 3 + 3) c' = .slice a (k' * 3) c ∧ W'.ownsRow w.heap.size 22 1 (.slice a (k' * 3) c) (k' * 3) ((ps.take k').flatMap PV.vl) ∧ w.grownBy W' none from
        ⟨k + 1, some ⟨g', 0, none⟩, c', hlt, by simp, by rw [Nat.succ_mul], by rw [e3, Nat.succ_mul]; exact o', gW⟩)
      have z1 : W'.cell? ⟨gl, k * 6 + 1, none⟩ = some x.d := PW.cell k x hx 1 (by omega)
      have z2 : W'.cell? ⟨gl, k * 6 + 2, none⟩ = some x.s := PW.cell k x hx 2 (by omega)
      have z5 : W'.cell? ⟨gl, k * 6 + 5, none⟩ = some x.y := PW.cell k x hx 5 (by omega)
      obtain ⟨a1, c1, e1⟩ := xin.d.shape
      obtain ⟨a2, c2, e2⟩ := xin.s.shape
      obtain ⟨a4, c4, e4⟩ := xin.y.shape
      rw [e1] at y1 z1 hrun
      rw [e2] at y2 z2 hrun
      rw [e4] at y5 z5 hrun
      have lw : gl < wr.heap.size := cell_ltb y1
      have nw := Nat.ne_of_lt lw
      have nw' := Ne.symm nw
      clear e1 e2 e4 PW e3 gW lb gA o' g5 gr' ho' xin PR ho gr hx few h0 hgl
      generalize x.p.dst.length = n1 at *
      generalize x.p.src.length = n2 at *
      generalize x.p.payload.length = n3 at *
      go_upto_region 5 with fail
      go_region_held_law (fun w' => w'.cell? ⟨gl, k * 6 + 1, none⟩ = some (.slice a1 n1 c1) ∧ w'.cell? ⟨gl, k * 6 + 2, none⟩ = some (.slice a2 n2 c2) ∧ w'.cell? ⟨gl, k * 6 + 5, none⟩ = some (.slice a4 n3 c4)) (go_keep) (refine step_append_run rfl _ _ 44 44 rfl _ _ (by simp [Act.eval]) (by simp [Act.eval] <;> omega) hrun ?_)
      simp only [List.getElem_toArray, List.getElem_cons_succ, List.getElem_cons_zero]
      go_wp2_with fail
      exact ⟨unhide E, by simp [intOf]; omega⟩
    · obtain rfl : k = n := by omega
      have kN : ¬ (k : Int) < (k : Int) := by omega
      have hps : ps.take k = ps := List.take_of_length_le (Nat.le_of_eq (unhide HNN))
      rw [hps] at ho
      have hvl : (ps.flatMap PV.vl).length = k * 3 := by rw [flat_len PV.vl 3 (fun _ => rfl), unhide HNN]
      have PR := (unhide HH).grown gr
      obtain ⟨b, cap, cur, e, q1, q2, q3, q4, q5, q6⟩ : ∃ g cap cur, Value.slice a (k * 3) c = .slice (some ⟨g, 0, none⟩) (k * 3) cap ∧ w.heap.size ≤ g ∧ wr.heap[g]? = some (.cells cur 22 (0, 0)) ∧ k * 3 ≤ cap ∧ cap ≤ maxLen ∧ cur.size = cap * 1 ∧ cur.toList.take (k * 3 * 1) = ps.flatMap PV.vl := by
        rcases ho.2 with ⟨e, e2⟩ | hh
        · omega
        · exact hh
      have ap := apart_row (ps.flatMap PV.vl) cur w wr B b cap (Nat.le_trans hB q1) q2 (by rw [hvl]; rw [Nat.mul_one] at q6; exact q6) (fun v hv => by
        rw [List.mem_flatMap] at hv
        obtain ⟨x, hx, hv⟩ := hv
        have xin := PR.own x hx
        simp only [PV.vl, List.mem_cons, List.not_mem_nil, or_false] at hv
        rcases hv with rfl | rfl | rfl
        · exact ⟨_, _, xin.d, xin.ld⟩
        · exact ⟨_, _, xin.s, xin.ls⟩
        · exact ⟨_, _, xin.y, xin.ly⟩) PR.sep (by rw [hvl]; omega) ((grown_bel gr).mono hB) (Kp.grown gr)
      rw [hvl, ← e] at ap
      clear e q1 q2 q3 q4 q5 q6 PR hvl ho gr hps
      go_wp2_with fail
      refine ap.mono ?_
      rintro e W2 ⟨rfl, b2⟩
      clear ap
      go_wp2_with fail
      go_ret
      exact ⟨rfl, b2⟩

end Go.Proofs.Ytdmjejfnohhpiaa.Bg

namespace Go.Proofs.Ytdmjejfnohhpiaa
open Go.RowKit
open Sp (sepV Sep3 sep_nil sep_nil_r)
set_option linter.unusedVariables false
set_option maxRecDepth 100000
set_option maxHeartbeats 1000000

structure SI (B : Nat) (w : World) (lv lw : Value) (ps : List PV) (qs : List (Value × List PV)) : Prop where
  all : PRow B w lv ps
  few : ps.length ≤ qs.length * 1048576
  row : w.ownsRow B 48 1 lw qs.length (qs.map (·.1))
  each : ∀ q ∈ qs, w.ownsRow B 24 6 q.1 q.2.length (q.2.flatMap PV.cl) ∧ q.2.length ≤ 1048576
  sep : qs.Pairwise fun a b => sepV a.1 b.1
  sepl : ∀ q ∈ qs, sepV q.1 lv
theorem SI.kpt {B : Nat} {w w' : World} {lv lw : Value} {ps : List PV} {qs : List (Value × List PV)} (h : SI B w lv lw ps qs) (hk : ∀ g, B ≤ g → g < w.heap.size → w'.heap[g]? = w.heap[g]?) : SI B w' lv lw ps qs :=
  ⟨h.all.kpt hk, h.few, row_kpt h.row (fun g h1 h2 _ => hk g h1 h2), fun q hq => ⟨row_kpt (h.each q hq).1 (fun g h1 h2 _ => hk g h1 h2), (h.each q hq).2⟩, h.sep, h.sepl⟩
theorem SI.grown {B : Nat} {w w' : World} {lv lw : Value} {ps : List PV} {qs : List (Value × List PV)} (h : SI B w lv lw ps qs) (g : w.grownBy w' none) : SI B w' lv lw ps qs := h.kpt (fun i _ hi => g.block i hi (by simp))
theorem SI.only {B a b : Nat} {w w' : World} {lv lw : Value} {ps : List PV} {qs : List (Value × List PV)} (h : SI B w lv lw ps qs) (o : Only w w' a b) (ha : a < B) (hb : b < B) : SI B w' lv lw ps qs := h.kpt (fun i hi _ => o.2 i (by omega) (by omega))
theorem SI.nil (B : Nat) (w : World) : SI B w nilV nilV [] [] := ⟨PRow.nil _ _, by simp, World.ownsRow_nil _ _ _ _, by simp, by simp, by simp⟩

theorem app_zero (w : World) (a a' : Option Addr) (n c c' : Nat) (hn : n ≤ c) : (Builtin.append_ #[48, 48] 48 #[.slice a n c, .slice a' 0 c']).run Try.prog w = .ok (.slice a n c) w := by
  obtain ⟨inf, hi0, hz0, hz1, hz2⟩ := info_parts Try.infoP
  cases a <;> cases a' <;> simp [Builtin.append_, run_underlying Try.underlying48, sizeOf, typeInfo, hi0, Builtin.lenOf, Builtin.firstCells, loadCells, loadCellsFrom, storeCells, hn]

theorem vl_own {B : Nat} {w : World} {ps : List PV} (h : ∀ x ∈ ps, x.In B w) : ∀ v ∈ ps.flatMap PV.vl, ∃ d, OwnB B w v d := fun v hv => by
  rw [List.mem_flatMap] at hv
  obtain ⟨x, hx, hv⟩ := hv
  simp only [PV.vl, List.mem_cons, List.not_mem_nil, or_false] at hv
  rcases hv with rfl | rfl | rfl
  · exact ⟨_, (h x hx).d⟩
  · exact ⟨_, (h x hx).s⟩
  · exact ⟨_, (h x hx).y⟩

/-- The packets of one Split, laid behind those of the others. -/
theorem SI.push {B : Nat} {w wb : World} {lv lw : Value} {ps : List PV} {qs : List (Value × List PV)} {a : Option Addr} {m c : Nat} {rs : List PV} (h : SI B w lv lw ps qs) (hwb : SI B wb lv lw ps qs) (hm : rs.length = m) (hm2 : m ≤ 1048576) (hq : qs.length ≤ 1000)
    (hr : PRow0 wb.heap.size w (.slice a m c) rs) (hs : (rs.flatMap PV.vl).Pairwise sepV) (hB : B ≤ wb.heap.size) (hwr : wb.grownBy w none) :
    ∃ a1 n1 c1 W1 a2 c2 W2, (Builtin.append_ #[48, 48] 48 #[lv, .slice a m c]).run Try.prog w = .ok (.slice a1 n1 c1) W1
      ∧ (Builtin.append_ #[58, 58] 58 #[lw, .slice (some ⟨W1.heap.size, 0, none⟩) 1 1]).run Try.prog (W1.alloc (.cells #[.slice a m c] 48)) = .ok (.slice a2 (qs.length + 1) c2) W2
      ∧ n1 = (ps ++ rs).length ∧ SI B W2 (.slice a1 n1 c1) (.slice a2 (qs.length + 1) c2) (ps ++ rs) (qs ++ [(.slice a m c, rs)]) ∧ Below B w W2 := by
  have hsz := hwr.size
  have hBw : B ≤ w.heap.size := Nat.le_trans hB hsz
  have hrB : PRow0 B w (.slice a m c) rs := hr.mono hB
  have hfew := h.few
  -- the first append
  have first : ∃ a1 n1 c1 W1, (Builtin.append_ #[48, 48] 48 #[lv, .slice a m c]).run Try.prog w = .ok (.slice a1 n1 c1) W1 ∧ n1 = (ps ++ rs).length
      ∧ W1.ownsRow B 24 6 (.slice a1 n1 c1) (ps ++ rs).length ((ps ++ rs).flatMap PV.cl) ∧ w.grownBy W1 lv.ownBlock ∧ ((Value.slice a1 n1 c1).ownBlock = lv.ownBlock ∨ (Value.slice a1 n1 c1).ownBlock = some w.heap.size) := by
    by_cases h0 : m = 0
    · subst h0
      have e0 : rs = [] := List.eq_nil_of_length_eq_zero hm
      subst e0
      rcases h.all.row.2 with ⟨e, e2⟩ | ⟨g, cap, cur, e, q1, q2, q3, q4, q5, q6⟩
      · refine ⟨none, 0, 0, w, by rw [e]; exact app_zero w none a 0 0 c (Nat.le_refl _), by simp [e2], ?_, World.grownBy.refl w _, .inl (by rw [e])⟩
        have := h.all.row; rw [e] at this; simpa using this
      · refine ⟨some ⟨g, 0, none⟩, ps.length, cap, w, by rw [e]; exact app_zero w _ a _ _ c q3, by simp, ?_, World.grownBy.refl w _, .inl (by rw [e])⟩
        have := h.all.row; rw [e] at this; simpa using this
    · obtain ⟨inf, hi0, hz0, hz1, hz2⟩ := info_parts Try.infoP
      obtain ⟨g, rfl, k1, k2, k3, k4⟩ := hr.some_ hm (by omega)
      have ones : ∀ u ∈ rs.flatMap PV.cl, u.oneCell' = true := fun u hu => by
        rw [List.mem_flatMap] at hu
        obtain ⟨x, hx, hu⟩ := hu
        have xo := hr.own x hx
        simp only [PV.cl, List.mem_cons, List.not_mem_nil, or_false] at hu
        rcases hu with rfl | rfl | rfl | rfl | rfl | rfl
        · rfl
        · exact xo.d.one
        · exact xo.s.one
        · rfl
        · rfl
        · exact xo.y.one
      obtain ⟨y', W1, hrun, ho, hmv, -⟩ := Pl.app_keepN (P := Try.prog) w B 48 48 24 inf (.agg (pcs 0 nilV nilV 0 0 nilV)) 6 96 Try.underlying48 hi0 hz0 hz1 (by decide) hz2 rfl lv ps.length (ps.flatMap PV.cl) h.all.row ⟨g, 0, none⟩ m c (rs.flatMap PV.cl) (by rw [flat_len PV.cl 6 (fun _ => rfl), hm]) (fun j u hu => hr.row.cells rfl j u hu) ones (by omega) (by unfold maxLen; omega) (by omega) hBw
      obtain ⟨g5, c5, rfl⟩ : ∃ h5 c5, y' = .slice (some ⟨h5, 0, none⟩) (ps.length + m) c5 := by
        rcases ho.2 with ⟨-, e⟩ | ⟨g6, cap, cur, e, -⟩
        · omega
        · exact ⟨g6, cap, e⟩
      have e1 : (ps ++ rs).length = ps.length + m := by simp [hm]
      refine ⟨some ⟨g5, 0, none⟩, ps.length + m, c5, W1, hrun, e1.symm, by rw [e1, List.flatMap_append]; exact ho, ?_, ?_⟩
      · rcases hmv with ⟨_, hg⟩ | ⟨_, hg, _⟩
        · exact hg
        · exact ⟨hg.os, hg.tape, hg.output, hg.size, fun i hi _ => hg.block i hi (by simp)⟩
      · rcases hmv with ⟨e, _⟩ | ⟨e, _⟩
        · exact .inl e
        · exact .inr e
  obtain ⟨a1, n1, c1, W1, run1, en1, row1, g1, blk1⟩ := first
  have lvlt := hwb.all.row.lt
  have kl : ∀ g v n xs, w.ownsRow B 5 1 v n xs → v.ownBlock = some g → W1.heap[g]? = w.heap[g]? := fun g v n xs ho e => g1.block g (ho.lt g e).2 (row_ne ho h.all.row (by decide) e)
  have kw : ∀ g v n xs, w.ownsRow B 48 1 v n xs → v.ownBlock = some g → W1.heap[g]? = w.heap[g]? := fun g v n xs ho e => g1.block g (ho.lt g e).2 (row_ne ho h.all.row (by decide) e)
  have rlv : sepV (.slice a m c) lv := by
    show _ ∨ _
    cases e : (Value.slice a m c).ownBlock with
    | none => exact .inl rfl
    | some g =>
      right
      intro e2
      have := (hr.row.lt g e).1
      have := (lvlt g e2.symm).2
      omega
  have kr : ∀ v n xs, w.ownsRow B 24 6 v n xs → sepV v lv → W1.ownsRow B 24 6 v n xs := fun v n xs ho hse => row_kpt ho (fun g _ h2 e => g1.block g h2 (fun e2 => by
    rcases hse with hs1 | hs1
    · rw [hs1] at e; cases e
    · exact hs1 (by rw [e]; exact e2)))
  have gotW : W1.ownsRow B 24 6 (.slice a m c) rs.length (rs.flatMap PV.cl) := kr _ _ _ hrB.row rlv
  have lwW : W1.ownsRow B 48 1 lw qs.length (qs.map (·.1)) := row_kpt h.row (fun g _ _ e => kw g _ _ _ h.row e)
  have bl1 : Below B w W1 := (Below.refl B w).grown g1 hBw (fun k e => (h.all.row.lt k e).1)
  obtain ⟨y', W2, run2, row2, mv2⟩ := Pl.appL lwW (.slice a m c) rfl (by omega) (Nat.le_trans hBw bl1.size)
  obtain ⟨g5, c5, rfl⟩ : ∃ h5 c5, y' = .slice (some ⟨h5, 0, none⟩) (qs.length + 1) c5 := by
    rcases row2.2 with ⟨-, e⟩ | ⟨g6, cap, cur, e, -⟩
    · omega
    · exact ⟨g6, cap, e⟩
  have ga := World.grownBy_alloc W1 (.cells #[.slice a m c] 48) none
  have k2 : ∀ {e : TypeId} {size : Nat} {v : Value} {n : Nat} {xs : List Value}, W1.ownsRow B e size v n xs → e ≠ 48 → W2.ownsRow B e size v n xs := fun {e size v n xs} ho he => by
    have h1 := ho.alloc (.cells #[.slice a m c] 48)
    rcases mv2 with ⟨_, hg⟩ | ⟨_, hg, _⟩
    · exact row_kpt h1 (fun g _ h2 e2 => hg.block g h2 (row_ne h1 (lwW.alloc _) he e2))
    · exact row_kpt h1 (fun g _ h2 e2 => hg.block g h2 (by simp))
  have hin : ∀ x ∈ ps ++ rs, x.In B W2 := fun x hx => by
    have x1 : x.In B w := by
      rcases List.mem_append.1 hx with hx | hx
      · exact h.all.own x hx
      · exact hrB.own x hx
    have x2 := x1.kpt kl
    exact ⟨k2 x2.d (by decide), k2 x2.s (by decide), k2 x2.y (by decide), x2.ld, x2.ls, x2.ly⟩
  refine ⟨a1, n1, c1, W1, some ⟨g5, 0, none⟩, c5, W2, run1, run2, en1, ⟨⟨?_, hin, ?_⟩, ?_, ?_, ?_, ?_, ?_⟩, ?_⟩
  · exact k2 row1 (by decide)
  · rw [List.flatMap_append, List.pairwise_append]
    refine ⟨h.all.sep, hs, fun v hv u hu => ?_⟩
    obtain ⟨d, hd⟩ := vl_own hwb.all.own v hv
    obtain ⟨d', hd'⟩ := vl_own hr.own u hu
    exact Sp.own_sep hd hd' (Nat.le_refl _)
  · simp [hm]; omega
  · rw [List.length_append, List.map_append]; exact row2
  · intro q hq'
    rcases List.mem_append.1 hq' with hq' | hq'
    · exact ⟨k2 (kr _ _ _ (h.each q hq').1 (h.sepl q hq')) (by decide), (h.each q hq').2⟩
    · simp only [List.mem_singleton] at hq'; subst hq'
      exact ⟨k2 gotW (by decide), by show rs.length ≤ _; omega⟩
  · rw [List.pairwise_append]
    refine ⟨h.sep, by simp, fun p hp q hq' => ?_⟩
    simp only [List.mem_singleton] at hq'; subst hq'
    show _ ∨ _
    cases e : p.1.ownBlock with
    | none => exact .inl rfl
    | some g =>
      right
      intro e2
      have := ((hwb.each p hp).1.lt g e).2
      have := (hr.row.lt g e2.symm).1
      omega
  · intro q hq'
    have old : q.1.ownBlock = none ∨ (q.1.ownBlock ≠ lv.ownBlock ∧ ∀ g, q.1.ownBlock = some g → g < w.heap.size) := by
      rcases List.mem_append.1 hq' with hq' | hq'
      · rcases h.sepl q hq' with h1 | h1
        · exact .inl h1
        · exact .inr ⟨h1, fun g e => ((h.each q hq').1.lt g e).2⟩
      · simp only [List.mem_singleton] at hq'; subst hq'
        rcases rlv with h1 | h1
        · exact .inl h1
        · exact .inr ⟨h1, fun g e => (hrB.row.lt g e).2⟩
    rcases old with h1 | ⟨h1, h2⟩
    · exact .inl h1
    · right
      rcases blk1 with e | e
      · rw [e]; exact h1
      · rw [e]
        intro e2
        have := h2 _ e2
        omega
  · exact bl1.trans (mv2.below ((Below.refl B W1).alloc (Nat.le_trans hBw bl1.size) _) (by rw [alloc_size]; have := bl1.size; omega) (fun k e => (lwW.lt k e).1))

end Go.Proofs.Ytdmjejfnohhpiaa

namespace Go.Proofs.Ytdmjejfnohhpiaa.Pl
open Go.RowKit
open Sp (sepV Sep3 sep_nil sep_nil_r)
set_option linter.unusedVariables false
set_option maxRecDepth 100000
set_option maxHeartbeats 1000000

def heldIn (vs : List Value) (cur : Array Value) : Held := ⟨vs.length, fun j => vad (vs.getD j (.slice none 0 0)), fun j => vns (vs.getD j (.slice none 0 0)), fun j => vcp (vs.getD j (.slice none 0 0)), cur⟩
theorem shape6 {w : World} {base size : Nat} {e : TypeId} {v : Value} {n : Nat} {xs : List Value} (h : w.ownsRow base e size v n xs) : v = .slice (vad v) (vns v) (vcp v) ∧ vns v = n := by
  rcases h.2 with ⟨rfl, rfl⟩ | ⟨g, cap, cur, rfl, _⟩ <;> exact ⟨rfl, rfl⟩
theorem lists_row (vs : List Value) (cur : Array Value) (w0 wr : World) (B b c : Nat) (hB : B ≤ b) (hb : wr.heap[b]? = some (.cells cur 48 (0, 0))) (hcur : cur.toList.take vs.length = vs) (hown : ∀ v ∈ vs, ∃ n xs, wr.ownsRow B 24 6 v n xs ∧ n ≤ 2000000)
    (hsep : vs.Pairwise sepV) (few : vs.length ≤ 1000) (bel : Below B w0 wr) :
    Calls Try.prog 32 #[.slice (some ⟨b, 0, none⟩) vs.length c] wr fun e w' => e = .returned (.bool true) ∧ Below B w0 w' := by
  have get : ∀ j, j < vs.length → vs[j]? = some (vs.getD j (.slice none 0 0)) := fun j hj => by simp [List.getD, hj]
  have mem : ∀ j, j < vs.length → vs.getD j (.slice none 0 0) ∈ vs := fun j hj => List.mem_of_getElem? (get j hj)
  have hv : ∀ j, j < vs.length → (heldIn vs cur).v j = vs.getD j (.slice none 0 0) := fun j hj => by
    obtain ⟨n, xs, ho, _⟩ := hown _ (mem j hj)
    exact (shape6 ho).1.symm
  have fit : (heldIn vs cur).Fit := by
    refine ⟨fun j hj => ?_, fun i j hi hj hne => ?_, fun j hj => ?_, few⟩
    · rw [hv j hj]
      show cur[j]? = _
      have hj' : j < vs.length := hj
      have e : (cur.toList.take vs.length)[j]? = vs[j]? := by rw [hcur]
      rw [List.getElem?_take, if_pos hj', Array.getElem?_toList] at e
      rw [e]; exact get j hj'
    · rw [hv i hi, hv j hj]
      rw [List.pairwise_iff_getElem] at hsep
      have hi' : i < vs.length := hi
      have hj' : j < vs.length := hj
      have e1 : vs.getD i (.slice none 0 0) = vs[i] := by simp [List.getD, hi']
      have e2 : vs.getD j (.slice none 0 0) = vs[j] := by simp [List.getD, hj']
      rw [e1, e2]
      rcases Nat.lt_or_gt_of_ne hne with h | h
      · exact hsep i j hi' hj' h
      · rcases hsep j i hj' hi' h with h1 | h1
        · rw [h1]; cases vs[i].ownBlock <;> simp
        · exact .inr (Ne.symm h1)
    · obtain ⟨n, xs, ho, hn⟩ := hown _ (mem j hj)
      show vns _ ≤ _
      rw [(shape6 ho).2]; exact hn
  exact apartLists_any (heldIn vs cur) w0 wr B b c fit ⟨hb, fun j hj => by
    obtain ⟨n, xs, ho, _⟩ := hown _ (mem j hj)
    refine ⟨xs, ?_, fun q _ h => by omega⟩
    rw [hv j hj]
    show wr.ownsRow B 24 6 _ (vns _) xs
    rw [(shape6 ho).2]; exact ho, bel, hB⟩


end Go.Proofs.Ytdmjejfnohhpiaa.Pl

namespace Go.Proofs.Ytdmjejfnohhpiaa
open Go.RowKit
open Sp (sepV Sep3 sep_nil sep_nil_r)

theorem apart_nil (w : World) : Calls Try.prog 20 #[.slice none 0 0] w fun e w' => e = .returned (.bool true) ∧ w.grownBy w' none := by
  go_enter Try.func20, Try.ntmps20
  go_wp2_with fail
  go_loopw [3] (fun i wr => i = .int .i64 0 ∧ w.grownBy wr none) (fun _ _ => 0)
  case atStart => exact ⟨rfl, World.grownBy.refl w none⟩
  case round =>
    obtain ⟨rfl, gw⟩ := hrel
    go_wp2_with fail
    go_loopw [6] (fun i wr => i = .int .i64 0 ∧ w.grownBy wr none) (fun _ _ => 0)
    case atStart => exact ⟨rfl, gw⟩
    case round =>
      clear gw
      obtain ⟨rfl, gw⟩ := hrel
      go_wp2_with fail
      go_loopw [9] (fun i wr => i = .int .i64 0 ∧ w.grownBy wr none) (fun _ _ => 0)
      case atStart => exact ⟨rfl, gw⟩
      case round =>
        clear gw
        obtain ⟨rfl, gw⟩ := hrel
        go_wp2_with fail
        go_ret
        exact ⟨rfl, gw⟩

theorem apart05_nil (w : World) (a : Option Addr) (c : Nat) : Calls Try.prog 28 #[.slice a 0 c] w fun e w' => e = .returned (.bool true) ∧ w.grownBy w' none := by
  go_enter Try.func28, Try.ntmps28
  go_wp2_with fail
  go_loopw [3, 4] (fun v i wr => v = .slice none 0 0 ∧ i = .int .i64 0 ∧ w.grownBy wr none) (fun _ _ _ => 0)
  case atStart => exact ⟨rfl, rfl, World.grownBy.refl w none⟩
  case round =>
    obtain ⟨rfl, rfl, gw⟩ := hrel
    have an := apart_nil wr
    go_wp2_with fail
    refine an.mono ?_
    rintro e W1 ⟨rfl, g1⟩
    go_wp2_with fail
    go_ret
    exact ⟨rfl, gw.trans g1⟩

/-- What Split told, as the walk takes it. -/
theorem Spl0.open {w : World} {l : List Int} {A : List Pk × Nat} {e : Ending} {w' : World} (h : Spl0 w l A e w') : ∃ (a : Option Addr) (m c : Nat) (ps : List PV), w.grownBy w' none ∧ e = .returned (.tuple #[.slice a m c, .int .i64 (A.2 : Int)]) ∧ Hid (ps.length = m ∧ m ≤ l.length ∧ PRow0 w.heap.size w' (.slice a m c) ps ∧ ps.map PV.p = A.1 ∧ (∀ x ∈ ps, Good1 x.p)) := by
  obtain ⟨a, m, c, ps, h1, h2, h3, h4, h5, h6, h7⟩ := h
  exact ⟨a, m, c, ps, h7, h1, h2, h3, h4, h5, h6⟩
theorem SplS.open {w : World} {l : List Int} {A : List Pk × Nat} {e : Ending} {w' : World} (h : SplS w l A e w') : ∃ (a : Option Addr) (m c : Nat) (ps : List PV), w.grownBy w' none ∧ e = .returned (.tuple #[.slice a m c, .int .i64 (A.2 : Int)]) ∧ Hid (ps.length = m ∧ m ≤ l.length ∧ PRow0 w.heap.size w' (.slice a m c) ps ∧ (ps.flatMap PV.vl).Pairwise sepV ∧ ps.map PV.p = A.1 ∧ (∀ x ∈ ps, Good1 x.p)) := by
  obtain ⟨a, m, c, ps, h1, h2, h3, h4, h5, h6, h7, h8⟩ := h
  exact ⟨a, m, c, ps, h8, h1, h2, h3, h4, h5, h6, h7⟩

theorem LT.ok.inL2 {t : LT} {w0 wr : World} {B : Nat} (h : t.ok w0 B wr) : InL wr t.gf t.cf t.l := by
  have hl := h.len
  obtain ⟨-, -, -, h1, h2, -, -⟩ := h.lent.ne
  refine ⟨h.bytes, fun i hi => ?_, by rw [hl]; omega, h2, (h.lent.full.lt t.gf rfl).2⟩
  obtain ⟨g, o, e, hc⟩ := (h.lent.rd h.byte).2 (fun e => by have e' : t.l = [] := e; rw [e'] at hi; simp at hi)
  cases e
  have := hc i hi
  rw [Nat.zero_add] at this
  exact this

theorem splits_walk (v : Value) (l : List Int) (n : Int) (G : Lg) (w : World) (hv : InB w v l) (hl : l.length ≤ 1048576) :
    Calls Try.prog 5 #[v, .int .i64 n, G.v] w fun e w' => e = .returned (.bool true) ∧ w.grownBy w' none := by
  obtain ⟨a0, c0, rfl, -⟩ := id hv
  have b0 := Blk.new w #[.int .i64 G.1, .int .i64 G.2.1, .int .i64 G.2.2] 46
  have g0 := World.grownBy_alloc w (.cells #[.int .i64 G.1, .int .i64 G.2.1, .int .i64 G.2.2] 46) none
  go_enter Try.func5, Try.ntmps5
  go_wp2_with fail
  refine (awake_any _).mono ?_
  rintro e W1 ⟨rfl, g1⟩
  have gA := g0.trans g1
  have b1 := b0.grown g1
  have h01 : w.heap.size < W1.heap.size := b1.lt
  have ld := lend_lt w w.heap.size _ l W1 (hv.grown gA) (by omega) (grown_bel gA) gA.size
  clear b0 g0 g1 hv
  go_wp2_with fail
  refine ld.mono ?_
  intro e W2 hld
  obtain ⟨⟨tg, tn, tgf, tcf, tgw, tcw, tF⟩, he, ok, hTl, hTn, hTg, g2⟩ := hld
  obtain rfl : e = .returned (.pointer (some ⟨tg, 0, none⟩)) := he
  replace hTn : tn = l.length := hTn
  replace hTg : W1.heap.size ≤ tg := hTg
  replace ok : LT.ok ⟨tg, tn, tgf, tcf, tgw, tcw, tF⟩ w w.heap.size W2 := ok
  have b2 := b1.grown g2
  obtain ⟨k0, k1, k2, k3, k4, k5⟩ := ok.lts
  replace k1 : tg < tgf := k1
  replace k2 : tg < tgw := k2
  replace k4 : tgf < W2.heap.size := k4
  replace k5 : tgw < W2.heap.size := k5
  have hlt : tn ≤ 1048576 := by omega
  have hk := hide (show w.heap.size < tg ∧ tg < tgf ∧ tg < tgw ∧ tgf < W2.heap.size ∧ tgw < W2.heap.size from ⟨by omega, k1, k2, k4, k5⟩)
  have START := hide (show LT.ok ⟨tg, tn, tgf, tcf, tgw, tcw, tF⟩ w w.heap.size W2 ∧ Blk W2 w.heap.size #[.int .i64 G.1, .int .i64 G.2.1, .int .i64 G.2.2] 46 from ⟨ok, b2⟩)
  clear ld b1 gA g2 ok hTl hTn hTg b2 k0 k1 k2 k3 k4 k5 h01 hl
  generalize hB1 : W2.heap.size = B1 at *
  have HB1 := hide hB1
  generalize hgG : w.heap.size = gG at *
  have HgG := hide hgG
  clear hB1 hgG
  go_wp2_with fail
  go_loopw [9, 10, 11] (fun lv lw j wr => ∃ (k : Nat) (a : Option Addr) (m c : Nat) (a' : Option Addr) (c' : Nat) (F : List Int) (ps : List PV) (qs : List (Value × List PV)), k ≤ 3 ∧ j = .int .i64 k ∧ lv = .slice a m c ∧ lw = .slice a' k c' ∧ Hid (ps.length = m ∧ qs.length = k ∧ LT.ok ⟨tg, tn, tgf, tcf, tgw, tcw, F⟩ w gG wr ∧ Blk wr gG #[.int .i64 G.1, .int .i64 G.2.1, .int .i64 G.2.2] 46 ∧ SI B1 wr (.slice a m c) (.slice a' k c') ps qs ∧ B1 ≤ wr.heap.size)) (fun _ _ j _ => 3 - (intOf j).toNat)
  case atStart => exact ⟨0, none, 0, 0, none, 0, tF, [], [], by omega, rfl, rfl, rfl, rfl, rfl, (unhide START).1, (unhide START).2, SI.nil _ _, Nat.le_of_eq (unhide HB1).symm⟩
  case round =>
    clear START
    obtain ⟨k, a, m, c, a', c', F, ps, qs, hk3, rfl, rfl, rfl, H⟩ := hrel
    by_cases hlt3 : k = 3
    · subst hlt3
      obtain ⟨hps, hqs, ok, bG, si, hB⟩ := unhide H
      have ap : Calls Try.prog 28 #[.slice a m c] wr fun e w' => e = .returned (.bool true) ∧ Below B1 wr w' ∧ Bg.Kp wr w' := by
        by_cases h0 : m = 0
        · subst h0
          exact (apart05_nil wr a c).mono fun e w' ⟨he, g⟩ => ⟨he, (grown_bel g).mono hB, Bg.Kp.grown g⟩
        · obtain ⟨gl, rfl, -⟩ := si.all.zero.some_ hps (by omega)
          have := si.few
          exact Bg.apart05 B1 wr gl m c ps hps si.all hB (by omega) (by omega)
      clear H
      have HOK := hide ok; have HSI := hide si
      clear ok si bG
      go_wp2_with fail
      refine ap.mono ?_
      rintro e W3 ⟨rfl, bl, kp3⟩
      obtain ⟨j1, j2, j3, j4, j5⟩ := unhide hk
      have ok3 := (unhide HOK).bel bl (by omega) (show tg < B1 by omega) (show tgf < B1 from j4) (show tgw < B1 from j5)
      have kr : ∀ {t : TypeId} {size n : Nat} {v : Value} {xs : List Value}, wr.ownsRow B1 t size v n xs → t ≠ 5 → t ≠ 22 → W3.ownsRow B1 t size v n xs := fun {t size n v xs} ho h1 h2 => by
        refine ⟨ho.1, ?_⟩
        rcases ho.2 with h3 | ⟨g, cap, cur, e1, q1, q2, q3⟩
        · exact .inl h3
        · exact .inr ⟨g, cap, cur, e1, q1, by rw [kp3 g cur t (0, 0) q2 h1 h2]; exact q2, q3⟩
      have lrow := kr (unhide HSI).row (by decide) (by decide)
      obtain ⟨b, cap, cur, e, q1, q2, q3, q4, q5, q6⟩ : ∃ g cap cur, Value.slice a' 3 c' = .slice (some ⟨g, 0, none⟩) 3 cap ∧ B1 ≤ g ∧ W3.heap[g]? = some (.cells cur 48 (0, 0)) ∧ 3 ≤ cap ∧ cap ≤ maxLen ∧ cur.size = cap * 1 ∧ cur.toList.take (3 * 1) = qs.map (·.1) := by
        rcases lrow.2 with ⟨e, e2⟩ | hh
        · omega
        · rw [hqs] at hh; exact hh
      have hvl : (qs.map (·.1)).length = 3 := by rw [List.length_map, hqs]
      have al := Pl.lists_row (qs.map (·.1)) cur W3 W3 B1 b cap q1 q2 (by rw [hvl]; exact q6) (fun v hv => by
        rw [List.mem_map] at hv
        obtain ⟨q, hq, rfl⟩ := hv
        have hh := (unhide HSI).each q hq
        exact ⟨_, _, kr hh.1 (by decide) (by decide), by omega⟩) (by rw [List.pairwise_map]; exact (unhide HSI).sep) (by rw [hvl]; decide) (Below.refl B1 W3)
      rw [hvl, ← e] at al
      clear e q1 q2 q3 q4 q5 q6 lrow kr
      have HOK3 := hide ok3
      clear ap ok3 bl kp3
      go_wp2_with fail
      refine al.mono ?_
      rintro e W4 ⟨rfl, bl4⟩
      have ok4 : LT.ok ⟨tg, tn, tgf, tcf, tgw, tcw, F⟩ w gG W4 := (unhide HOK3).bel bl4 (by omega) (show tg < B1 by omega) (show tgf < B1 from j4) (show tgw < B1 from j5)
      have kp := kept_lt _ w W4 gG ok4
      have E := hide (fun q => show w.grownBy (W4.drewN q) none from grown_drewS (below_grown (by rw [unhide HgG]; exact ok4.lent.bel)) q)
      clear al ok4 bl4
      go_wp2_with fail
      refine kp.mono ?_
      rintro e W5 ⟨rfl, q, rfl⟩
      clear kp
      go_wp2_with fail
      go_ret
      exact ⟨rfl, unhide E q⟩
    · have hk2 : (k : Int) < 3 := by omega
      obtain ⟨hps, hqs, ok, bG, si, hB⟩ := unhide H
      have hL : (LT.l ⟨tg, tn, tgf, tcf, tgw, tcw, F⟩).length = tn := ok.len
      have cp1 : ∀ W, wr.grownBy W none → Calls Try.prog 23 #[.pointer (some ⟨tg, 0, none⟩)] W fun e w' => e = .returned (.slice (some ⟨tgf, 0, none⟩) tn tcf) ∧ W.grownBy w' none := fun W gW => (bytes_lt _ w W gG (ok.grown gW)).mono fun e w' ⟨he, q, hw⟩ => ⟨he, by rw [hw]; exact grown_drewS (World.grownBy.refl _ none) q⟩
      generalize hA : splF (LT.l ⟨tg, tn, tgf, tcf, tgw, tcw, F⟩) n G ((LT.l ⟨tg, tn, tgf, tcf, tgw, tcw, F⟩).length + 1) 0 = A
      have de1 : ∀ W, wr.grownBy W none → Calls Try.prog 29 #[.slice (some ⟨tgf, 0, none⟩) tn tcf, .int .i64 n, G.v] W fun e w' => ∃ (a : Option Addr) (m c : Nat) (ps : List PV), W.grownBy w' none ∧ e = .returned (.tuple #[.slice a m c, .int .i64 (A.2 : Int)]) ∧ Hid (ps.length = m ∧ m ≤ tn ∧ PRow0 W.heap.size w' (.slice a m c) ps ∧ ps.map PV.p = A.1 ∧ (∀ x ∈ ps, Good1 x.p)) := fun W gW => by
        have h := rsplit_any tgf tcf (LT.l ⟨tg, tn, tgf, tcf, tgw, tcw, F⟩) n G W (ok.inL2.grown gW) (by rw [hL]; exact hlt)
        rw [hA] at h
        have h2 := h.mono (fun e w' q => q.open)
        rw [hL] at h2
        exact h2
      have de2 : ∀ W, wr.grownBy W none → Calls Try.prog 30 #[.slice (some ⟨tgf, 0, none⟩) tn tcf, .int .i64 n, G.v] W fun e w' => ∃ (a : Option Addr) (m c : Nat) (ps : List PV), W.grownBy w' none ∧ e = .returned (.tuple #[.slice a m c, .int .i64 (A.2 : Int)]) ∧ Hid (ps.length = m ∧ m ≤ tn ∧ PRow0 W.heap.size w' (.slice a m c) ps ∧ (ps.flatMap PV.vl).Pairwise sepV ∧ ps.map PV.p = A.1 ∧ (∀ x ∈ ps, Good1 x.p)) := fun W gW => by
        have h := split_any (LT.v ⟨tg, tn, tgf, tcf, tgw, tcw, F⟩) (LT.l ⟨tg, tn, tgf, tcf, tgw, tcw, F⟩) n G W (ok.grown gW).inB (by rw [hL]; exact hlt)
        rw [hA] at h
        have h2 := h.mono (fun e w' q => q.open)
        rw [hL] at h2
        exact h2
      have kp : ∀ W, wr.grownBy W none → Calls Try.prog 25 #[.pointer (some ⟨tg, 0, none⟩)] W fun e w' => e = .returned (.bool true) ∧ W.grownBy w' none := fun W gW => (kept_lt _ w W gG (ok.grown gW)).mono fun e w' ⟨he, q, hw⟩ => ⟨he, by rw [hw]; exact grown_drewS (World.grownBy.refl _ none) q⟩
      have n0 := bG.cell 0 (.int .i64 G.1) rfl
      have n1 := bG.cell 1 (.int .i64 G.2.1) rfl
      have n2 := bG.cell 2 (.int .i64 G.2.2) rfl
      have CP1 := hide cp1; have DE1 := hide de1; have DE2 := hide de2; have KP := hide kp
      clear cp1 de1 de2 kp hL hps hqs ok bG si hB hA
      go_upto_region 8 with fail
      go_region_held3 (fun W => W.cell? ⟨gG, 0, none⟩ = some (.int .i64 G.1) ∧ W.cell? ⟨gG, 1, none⟩ = some (.int .i64 G.2.1) ∧ W.cell? ⟨gG, 2, none⟩ = some (.int .i64 G.2.2)) (go_keep) (first
        | (go_at_call 23; refine (unhide CP1 _ (by (first | with_reducible exact World.grownBy.refl _ none | with_reducible exact grown_drew' (World.grownBy.refl _ none) | with_reducible exact grown_drewN (World.grownBy.refl _ none) | with_reducible exact World.grownBy_alloc _ _ none | with_reducible exact grown_drew' (World.grownBy_alloc _ _ none) | with_reducible exact (grown_drew' (World.grownBy.refl _ none)).trans (World.grownBy_alloc _ _ none) | with_reducible exact (grown_drewN (World.grownBy.refl _ none)).trans (World.grownBy_alloc _ _ none)))).mono ?_; rintro e Wc1 ⟨rfl, gc1⟩; have gC1 : World.grownBy wr Wc1 none := World.grownBy.trans (by (first | with_reducible exact World.grownBy.refl _ none | with_reducible exact grown_drew' (World.grownBy.refl _ none) | with_reducible exact grown_drewN (World.grownBy.refl _ none) | with_reducible exact World.grownBy_alloc _ _ none | with_reducible exact grown_drew' (World.grownBy_alloc _ _ none) | with_reducible exact (grown_drew' (World.grownBy.refl _ none)).trans (World.grownBy_alloc _ _ none) | with_reducible exact (grown_drewN (World.grownBy.refl _ none)).trans (World.grownBy_alloc _ _ none))) gc1; have n0c1 := cell_grown n0 gC1; have n1c1 := cell_grown n1 gC1; have n2c1 := cell_grown n2 gC1)
        | (go_at_call 29; refine (unhide DE1 Wc1 gC1).mono ?_; rintro e Wd1 ⟨av1, mv1, cv1, rv1, gd1, rfl, PD1⟩; have gD1 := gC1.trans gd1; have n0d1 := cell_grown n0 gD1; have n1d1 := cell_grown n1 gD1; have n2d1 := cell_grown n2 gD1))
      have CP2 := hide (fun W (gW : Wd1.grownBy W none) => unhide CP1 W (gD1.trans gW))
      have DE3 := hide (fun W (gW : Wd1.grownBy W none) => unhide DE2 W (gD1.trans gW))
      have GD1 := hide gD1
      clear CP1 DE1 DE2 n0 n1 n2 n0c1 n1c1 n2c1 gc1 gC1 gd1 gD1
      go_upto_region 9 with fail
      go_region_held3 (fun W => W.cell? ⟨gG, 0, none⟩ = some (.int .i64 G.1) ∧ W.cell? ⟨gG, 1, none⟩ = some (.int .i64 G.2.1) ∧ W.cell? ⟨gG, 2, none⟩ = some (.int .i64 G.2.2)) (go_keep) (first
        | (go_at_call 23; refine (unhide CP2 _ (by (first | with_reducible exact World.grownBy.refl _ none | with_reducible exact grown_drew' (World.grownBy.refl _ none) | with_reducible exact grown_drewN (World.grownBy.refl _ none) | with_reducible exact World.grownBy_alloc _ _ none | with_reducible exact grown_drew' (World.grownBy_alloc _ _ none) | with_reducible exact (grown_drew' (World.grownBy.refl _ none)).trans (World.grownBy_alloc _ _ none) | with_reducible exact (grown_drewN (World.grownBy.refl _ none)).trans (World.grownBy_alloc _ _ none)))).mono ?_; rintro e Wc2 ⟨rfl, gc2⟩; have gC2 : World.grownBy Wd1 Wc2 none := World.grownBy.trans (by (first | with_reducible exact World.grownBy.refl _ none | with_reducible exact grown_drew' (World.grownBy.refl _ none) | with_reducible exact grown_drewN (World.grownBy.refl _ none) | with_reducible exact World.grownBy_alloc _ _ none | with_reducible exact grown_drew' (World.grownBy_alloc _ _ none) | with_reducible exact (grown_drew' (World.grownBy.refl _ none)).trans (World.grownBy_alloc _ _ none) | with_reducible exact (grown_drewN (World.grownBy.refl _ none)).trans (World.grownBy_alloc _ _ none))) gc2; have n0c2 := cell_grown n0d1 gC2; have n1c2 := cell_grown n1d1 gC2; have n2c2 := cell_grown n2d1 gC2)
        | (go_at_call 30; refine (unhide DE3 Wc2 gC2).mono ?_; rintro e Wd2 ⟨av2, mv2, cv2, rv2, gd2, rfl, PD2⟩; have gD2 := gC2.trans gd2; have n0d2 := cell_grown n0d1 gD2; have n1d2 := cell_grown n1d1 gD2; have n2d2 := cell_grown n2d1 gD2))
      have GC2 := hide gC2; have GD2 := hide gd2
      have kp := unhide KP Wd2 ((unhide GD1).trans gD2)
      clear CP2 DE3 KP n0d1 n1d1 n2d1 n0c2 n1c2 n2c2 n0d2 n1d2 n2d2 gc2 gC2 gd2 gD2
      go_wp2_with fail
      refine kp.mono ?_
      rintro e Wk ⟨rfl, gk⟩
      obtain ⟨p1len, p1le, p1row, p1map, p1good⟩ := unhide PD1
      obtain ⟨p2len, p2le, p2row, p2sep, p2map, p2good⟩ := unhide PD2
      have mm : mv2 = mv1 := by
        have e := congrArg List.length (p1map.trans p2map.symm)
        rw [List.length_map, List.length_map] at e
        omega
      subst mm
      have sm := samePk_any Wc2.heap.size Wc1.heap.size av2 av1 mv2 cv2 cv1 rv2 rv1 Wk (p2row.grown gk) (p1row.grown (((unhide GC2).trans (unhide GD2)).trans gk)) p2len (p2map.trans p1map.symm) p2good (by omega)
      have GK := hide gk
      have rr : ((A.2 : Int) != (A.2 : Int)) = false := by simp
      have rr2 : (A.2 != A.2) = false := by simp
      clear kp p1len p1le p1row p1map p1good p2len p2le p2row p2sep p2map p2good gk
      go_wp2_with fail
      refine sm.mono ?_
      rintro e Ws ⟨rfl, gs⟩
      clear sm
      obtain ⟨p2len, p2le, p2row, p2sep, p2map, p2good⟩ := unhide PD2
      obtain ⟨hps, hqs, ok, bG, si, hB⟩ := unhide H
      have g2s := (unhide GK).trans gs
      have gall := (((unhide GD1).trans (unhide GC2)).trans (unhide GD2)).trans g2s
      have gC := (unhide GD1).trans (unhide GC2)
      obtain ⟨a1, n1, c1, Wa, a2, c2, Wb, run1, run2, en1, si', bl⟩ := (si.grown gall).push (si.grown gC) p2len (by omega) (by omega) (p2row.grown g2s) p2sep (Nat.le_trans hB gC.size) ((unhide GD2).trans g2s)
      obtain ⟨j1, j2, j3, j4, j5⟩ := unhide hk
      have ok' := (ok.grown gall).bel bl (by omega) (show tg < B1 by omega) (show tgf < B1 from j4) (show tgw < B1 from j5)
      have bG' : Blk Wb gG #[.int .i64 G.1, .int .i64 G.2.1, .int .i64 G.2.2] 46 := (bl.block gG (by omega)).trans (bG.grown gall)
      have hB' : B1 ≤ Wb.heap.size := Nat.le_trans (Nat.le_trans hB gall.size) bl.size
      have hqs' : (qs ++ [(Value.slice av2 mv2 cv2, rv2)]).length = k + 1 := by simp [hqs]
      rw [hqs] at run2 si'
      generalize qs ++ [(Value.slice av2 mv2 cv2, rv2)] = qs' at *
      generalize ps ++ rv2 = ps' at *
      have RUN1 := hide run1; have RUN2 := hide run2
      have NX := hide (And.intro en1.symm (And.intro hqs' (And.intro ok' (And.intro bG' (And.intro si' hB')))))
      have J := hide (And.intro j1 (And.intro j2 (And.intro j3 (And.intro j4 j5))))
      clear p2len p2le p2row p2sep p2map p2good hps hqs ok bG si hB g2s gall gC run1 run2 en1 si' bl j1 j2 j3 j4 j5 ok' bG' hB' hqs' gs GK GD1 GD2 GC2 PD1 PD2 H
      by_cases hk1 : k = 1
      · subst hk1
        obtain ⟨en1, hqs', ok', bG', si', hB'⟩ := unhide NX
        have tu := turn_lt _ w Wb gG 7 ok' (by decide) (by decide)
        clear en1 hqs' ok' bG' si' hB'
        go_upto_region 15 with (at_builtin; refine wpList_append_runQ _ rfl _ _ 48 48 rfl _ _ rfl rfl (unhide RUN1) ?_)
        go_wp2_with (at_builtin; refine wpList_append_runQ _ rfl _ _ 58 58 rfl _ _ rfl rfl (unhide RUN2) ?_)
        refine tu.mono ?_
        rintro e W5 ⟨rfl, F', ok5, on⟩
        obtain ⟨en1, hqs', ok', bG', si', hB'⟩ := unhide NX
        obtain ⟨j1, j2, j3, j4, j5⟩ := unhide J
        have NX5 : Hid (ps'.length = n1 ∧ qs'.length = 1 + 1 ∧ LT.ok ⟨tg, tn, tgf, tcf, tgw, tcw, F'⟩ w gG W5 ∧ Blk W5 gG #[.int .i64 G.1, .int .i64 G.2.1, .int .i64 G.2.2] 46 ∧ SI B1 W5 (.slice a1 n1 c1) (.slice a2 (1 + 1) c2) ps' qs' ∧ B1 ≤ W5.heap.size) :=
          ⟨en1, hqs', ok5, (on.2 gG (by show gG ≠ tgf; omega) (by show gG ≠ tgw; omega)).trans bG', si'.only on j4 j5, by rw [on.1]; exact hB'⟩
        clear tu on ok5 en1 hqs' ok' bG' si' hB' j1 j2 j3 j4 j5 NX RUN1 RUN2
        go_wp2_with fail
        exact ⟨⟨2, a1, n1, c1, a2, c2, F', ps', qs', by omega, rfl, rfl, rfl, NX5⟩, by simp [intOf]⟩
      · have hk1b : ((k : Int) == 1) = false := by simp; omega
        have hk1c : (k == 1) = false := by simp; omega
        clear hk1
        go_upto_region 15 with (at_builtin; refine wpList_append_runQ _ rfl _ _ 48 48 rfl _ _ rfl rfl (unhide RUN1) ?_)
        go_wp2_with (at_builtin; refine wpList_append_runQ _ rfl _ _ 58 58 rfl _ _ rfl rfl (unhide RUN2) ?_)
        exact ⟨⟨k + 1, a1, n1, c1, a2, c2, F, ps', qs', by omega, by go_num, rfl, rfl, NX⟩, by simp [intOf]; omega⟩

end Go.Proofs.Ytdmjejfnohhpiaa
