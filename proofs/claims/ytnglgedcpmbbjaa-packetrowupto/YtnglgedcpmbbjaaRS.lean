/- KI1, KI2, KI3, KJ1, KJ2, KWB, KJ3, KJ4, one text. -/
import Derived.Test.YtnglgedcpmbbjaaRF
import Derived.Test.YtnglgedcpmbbjaaK8
import Derived.Deep.DeepCutAuto
import Derived.WalkMore
import Derived.Deep.RegionHeld3
import Derived.Deep.RegionHeldLaw
namespace Go.Proofs.Ytnglgedcpmbbjaa
open Go.RowKit
open Sp (sepV Sep3 sep_nil sep_nil_r)
theorem grown_bel {w W : World} (h : w.grownBy W none) : Below w.heap.size w W := ⟨h.os, h.tape, h.output, h.size, fun i hi => h.block i hi (by simp)⟩

set_option linter.unusedVariables false
set_option maxRecDepth 100000
set_option maxRecDepth 100000
set_option maxHeartbeats 1000000

structure PRow0 (B : Nat) (w : World) (lv : Value) (ps : List PV) : Prop where
  row : w.ownsRow B 30 6 lv ps.length (ps.flatMap PV.cl)
  own : ∀ x ∈ ps, x.In B w
theorem PRow0.kpt {B : Nat} {w w' : World} {lv : Value} {ps : List PV} (h : PRow0 B w lv ps) (hk : ∀ g, B ≤ g → g < w.heap.size → w'.heap[g]? = w.heap[g]?) : PRow0 B w' lv ps :=
  ⟨row_kpt h.row (fun g h1 h2 _ => hk g h1 h2), fun x hx => (h.own x hx).kpt (fun g v n xs ho e => hk g (ho.lt g e).1 (ho.lt g e).2)⟩
theorem PRow0.grown {B : Nat} {w w' : World} {lv : Value} {ps : List PV} (h : PRow0 B w lv ps) (g : w.grownBy w' none) : PRow0 B w' lv ps := h.kpt (fun i _ hi => g.block i hi (by simp))
theorem PRow0.nil (B : Nat) (w : World) : PRow0 B w nilV [] := ⟨World.ownsRow_nil _ _ _ _, by simp⟩
theorem PRow.zero {B : Nat} {w : World} {lv : Value} {ps : List PV} (h : PRow B w lv ps) : PRow0 B w lv ps := ⟨h.row, h.own⟩
theorem row_mono {base base' size n : Nat} {e : TypeId} {w : World} {v : Value} {xs : List Value} (h : w.ownsRow base e size v n xs) (hb : base' ≤ base) : w.ownsRow base' e size v n xs := by
  refine ⟨h.1, ?_⟩
  rcases h.2 with h2 | ⟨g, cap, cur, e1, q1, q2⟩
  · exact .inl h2
  · exact .inr ⟨g, cap, cur, e1, Nat.le_trans hb q1, q2⟩
theorem PRow0.mono {B B' : Nat} {w : World} {lv : Value} {ps : List PV} (h : PRow0 B w lv ps) (hb : B' ≤ B) : PRow0 B' w lv ps :=
  ⟨row_mono h.row hb, fun x hx => ⟨(h.own x hx).d.mono hb, (h.own x hx).s.mono hb, (h.own x hx).y.mono hb, (h.own x hx).ld, (h.own x hx).ls, (h.own x hx).ly⟩⟩
/-- One packet more. -/
theorem PRow0.push {B : Nat} {w : World} {lv : Value} {ps : List PV} (h : PRow0 B w lv ps) (x : PV) (hx : x.In B w) (few : ps.length ≤ 1000000000) (hB : B ≤ w.heap.size) :
    ∃ g c w', (Builtin.append_ #[22, 22] 22 #[lv, .slice (some ⟨w.heap.size, 0, none⟩) 1 1]).run Try.prog (w.alloc (.cells (x.p.cs x.d x.s x.y) 30)) = .ok (.slice (some ⟨g, 0, none⟩) (ps.length + 1) c) w'
      ∧ PRow0 B w' (.slice (some ⟨g, 0, none⟩) (ps.length + 1) c) (ps ++ [x]) ∧ Below B w w' := by
  obtain ⟨inf, hi0, hz0, hz1, hz2⟩ := info_parts Try.infoP
  have h1 := h.grown (World.grownBy_alloc w (.cells (x.p.cs x.d x.s x.y) 30) none)
  have hx1 : x.In B (w.alloc (.cells (x.p.cs x.d x.s x.y) 30)) := hx.kpt (fun g v n xs ho e => (World.grownBy_alloc w _ none).block g (ho.lt g e).2 (by simp))
  have hsz := alloc_size w (.cells (x.p.cs x.d x.s x.y) 30)
  have hnews : ∀ (i : Nat) u, x.cl[i]? = some u → (w.alloc (.cells (x.p.cs x.d x.s x.y) 30)).cell? ((⟨w.heap.size, 0, none⟩ : Addr).add i) = some u := fun i u hu => by
    rw [show (⟨w.heap.size, 0, none⟩ : Addr).add i = ⟨w.heap.size, i, none⟩ by simp [Addr.add]; exact fun e => e.symm]
    simp only [World.cell?, heap_alloc_new]
    rw [← hu]
    simp [PV.cl]
  have one : ∀ u ∈ x.cl, u.oneCell' = true := fun u hu => by
    simp only [PV.cl, List.mem_cons, List.not_mem_nil, or_false] at hu
    rcases hu with rfl | rfl | rfl | rfl | rfl | rfl
    · rfl
    · exact hx.d.one
    · exact hx.s.one
    · rfl
    · rfl
    · exact hx.y.one
  obtain ⟨v5, W5, hrun, o5, g5, -⟩ := run_append_own (P := Try.prog) (w.alloc (.cells (x.p.cs x.d x.s x.y) 30)) B 22 22 30 inf (.agg (pcs 0 nilV nilV 0 0 nilV)) 6 96 Try.underlying22 hi0 hz0 hz1 hz2 rfl (by decide) lv ps.length (ps.flatMap PV.cl) h1.row ⟨w.heap.size, 0, none⟩ 1 1 x.cl rfl hnews one (by unfold maxLen; omega) (by omega) (by omega)
  obtain ⟨h5, c5, rfl⟩ : ∃ h5 c5, v5 = .slice (some ⟨h5, 0, none⟩) (ps.length + 1) c5 := by
    rcases o5.2 with ⟨-, e⟩ | ⟨g6, cap, cur, e, -⟩
    · omega
    · exact ⟨g6, cap, e⟩
  have keep : ∀ g v n xs, (w.alloc (.cells (x.p.cs x.d x.s x.y) 30)).ownsRow B 5 1 v n xs → v.ownBlock = some g → W5.heap[g]? = (w.alloc (.cells (x.p.cs x.d x.s x.y) 30)).heap[g]? := fun g v n xs ho e =>
    g5.block g (ho.lt g e).2 (row_ne ho h1.row (by decide) e)
  refine ⟨h5, c5, W5, hrun, ⟨?_, ?_⟩, ?_⟩
  · have e1 : (ps ++ [x]).length = ps.length + 1 := by simp
    have e2 : (ps ++ [x]).flatMap PV.cl = ps.flatMap PV.cl ++ x.cl := by simp
    rw [e1, e2]; exact o5
  · intro q hq
    rcases List.mem_append.1 hq with hq | hq
    · exact (h1.own q hq).kpt keep
    · simp only [List.mem_singleton] at hq; subst hq
      exact hx1.kpt keep
  · exact ((Below.refl B w).alloc hB _).grown g5 (by omega) (fun k e => (h1.row.lt k e).1)


theorem sep_push {ps : List PV} (x : PV) (h : (ps.flatMap PV.vl).Pairwise sepV) (hs : Sep3 x.d x.s x.y) (hn : ∀ v ∈ ps.flatMap PV.vl, ∀ u ∈ x.vl, sepV v u) : ((ps ++ [x]).flatMap PV.vl).Pairwise sepV := by
  rw [show (ps ++ [x]).flatMap PV.vl = ps.flatMap PV.vl ++ x.vl by simp, List.pairwise_append]
  refine ⟨h, ?_, fun v hv u hu => hn v hv u hu⟩
  show List.Pairwise sepV [x.d, x.s, x.y]
  simp only [List.pairwise_cons, List.mem_cons, List.not_mem_nil, or_false, forall_eq_or_imp, forall_eq, List.Pairwise.nil, and_true, false_implies, implies_true]
  exact ⟨⟨hs.1, hs.2.1⟩, hs.2.2⟩

/-- A datagram, read from 'at' on. -/
def splF (l : List Int) (n : Int) (G : Lg) : Nat → Nat → List Pk × Nat
  | 0, at_ => ([], at_)
  | f + 1, at_ => if at_ < l.length ∧ (decP l at_ n G).2.2 = 0 then
      ((decP l at_ n G).1 :: (splF l n G f (decP l at_ n G).2.1.toNat).1, (splF l n G f (decP l at_ n G).2.1.toNat).2)
    else ([], at_)
theorem splF_end {l : List Int} {n : Int} {G : Lg} {f k : Nat} (h : ¬ (k < l.length ∧ (decP l k n G).2.2 = 0)) : splF l n G f k = ([], k) := by
  cases f with
  | zero => rfl
  | succ f => show (if _ then _ else _) = _; rw [if_neg h]
theorem splF_step {l : List Int} {n : Int} {G : Lg} {f k e : Nat} {p : Pk} (hk : k < l.length) (h : decP l k n G = (p, (e : Int), 0)) : splF l n G (f + 1) k = (p :: (splF l n G f e).1, (splF l n G f e).2) := by
  show (if _ then _ else _) = _
  rw [if_pos ⟨hk, by rw [h]⟩, h]
  simp

structure Good1 (p : Pk) : Prop where
  bd : ∀ x ∈ p.dst, IsB x
  bs : ∀ x ∈ p.src, IsB x
  by_ : ∀ x ∈ p.payload, IsB x
  ld : p.dst.length ≤ 140737488355000
  ls : p.src.length ≤ 140737488355000
  ly : p.payload.length ≤ 140737488355000
theorem dec_on (l : List Int) (k : Nat) (n : Int) (G : Lg) (hb : ∀ x ∈ l, IsB x) (hl : l.length ≤ 100000000) : (∃ y, y ≠ 0 ∧ decP l k n G = (noP, 0, y)) ∨ ∃ e p, decP l k n G = (p, ((e : Nat) : Int), 0) ∧ k < e ∧ e ≤ l.length ∧ Good1 p := by
  rcases dec_cases l k n G hb with h | ⟨k', m, p, e0, -, -, -, e, g⟩
  · exact .inl h
  · obtain rfl : k = k' := by omega
    exact .inr ⟨m, p, e, g.lt, g.le, ⟨g.bd, g.bs, g.by_, by have := g.d; omega, by have := g.s; omega, by have := g.yl; omega⟩⟩

end Go.Proofs.Ytnglgedcpmbbjaa

namespace Go.Proofs.Ytnglgedcpmbbjaa
open Go.RowKit
open Sp (sepV Sep3 sep_nil sep_nil_r)
set_option linter.unusedVariables false
set_option maxRecDepth 100000
set_option maxHeartbeats 1000000

theorem wpList_append_runQ {P : Program} (w : World) {ops : Array Oper} {rest : List Oper} {o : Oper} {a : Act} {Q : Exit → Act → World → Prop} (hgd : o.guard = none) (d s : Operand) (t t' : TypeId)
    (ho : o.op = .call { callee := .builtin .append, args := #[d, s], argTypes := #[t, t'] }) (v u : Value) (hv : a.eval d = v) (hu : a.eval s = u) {v' : Value} {w' : World}
    (hr : (Builtin.append_ #[t, t'] o.type #[v, u]).run P w = .ok v' w') (h : wpList P ops Q rest (a.put o.dst v') w') : wpList P ops Q (o :: rest) a w := by
  refine wpList_plain hgd fun K hK => ?_
  unfold Oper.wp execOp
  simp only [ho, resolve, invoke, builtin, Sem.run_bind, Sem.run_pure, Result.andThen_ok, List.map_toArray, List.map_cons, List.map_nil, hv, hu, hr]
  exact hK _ _ h

/-- What Split leaves (the document's; the code's: the lists apart). -/
def Spl0 (w : World) (l : List Int) (A : List Pk × Nat) (e : Ending) (w' : World) : Prop :=
  ∃ (a : Option Addr) (m c : Nat) (ps : List PV), e = .returned (.tuple #[.slice a m c, .int .i64 (A.2 : Int)]) ∧ ps.length = m ∧ m ≤ l.length ∧ PRow0 w.heap.size w' (.slice a m c) ps ∧ ps.map PV.p = A.1 ∧ (∀ x ∈ ps, Good1 x.p) ∧ w.grownBy w' none
def SplS (w : World) (l : List Int) (A : List Pk × Nat) (e : Ending) (w' : World) : Prop :=
  ∃ (a : Option Addr) (m c : Nat) (ps : List PV), e = .returned (.tuple #[.slice a m c, .int .i64 (A.2 : Int)]) ∧ ps.length = m ∧ m ≤ l.length ∧ PRow0 w.heap.size w' (.slice a m c) ps ∧ (ps.flatMap PV.vl).Pairwise sepV ∧ ps.map PV.p = A.1 ∧ (∀ x ∈ ps, Good1 x.p) ∧ w.grownBy w' none

theorem split_any (v : Value) (l : List Int) (n : Int) (G : Lg) (w : World) (hv : InB w v l) (hl : l.length ≤ 100000000) :
    Calls Try.prog 7 #[v, .int .i64 n, G.v] w (SplS w l (splF l n G (l.length + 1) 0)) := by
  obtain ⟨a0, c0, rfl, -⟩ := id hv
  have HV := hide hv
  have HBY := hide hv.bytes
  clear hv
  have b0 := Blk.new w #[.int .i64 G.1, .int .i64 G.2.1, .int .i64 G.2.2] 23
  have g0 := World.grownBy_alloc w (.cells #[.int .i64 G.1, .int .i64 G.2.1, .int .i64 G.2.2] 23) none
  have sz0 := alloc_size w (.cells #[.int .i64 G.1, .int .i64 G.2.1, .int .i64 G.2.2] 23)
  have hml : ¬ (9223372036854775807 : Int) < (l.length : Int) := by omega
  generalize hA : splF l n G (l.length + 1) 0 = A at *
  have HA := hide hA
  clear hA
  go_enter Try.func7, Try.ntmps7
  go_wp2_with fail
  have START : Hid (Blk (w.alloc (.cells #[.int .i64 G.1, .int .i64 G.2.1, .int .i64 G.2.2] 23)) w.heap.size #[.int .i64 G.1, .int .i64 G.2.1, .int .i64 G.2.2] 23 ∧ w.grownBy (w.alloc (.cells #[.int .i64 G.1, .int .i64 G.2.1, .int .i64 G.2.2] 23)) none ∧ w.heap.size + 1 ≤ (w.alloc (.cells #[.int .i64 G.1, .int .i64 G.2.1, .int .i64 G.2.2] 23)).heap.size) := ⟨b0, g0, by omega⟩
  clear b0 g0 sz0
  generalize w.alloc (.cells #[.int .i64 G.1, .int .i64 G.2.1, .int .i64 G.2.2] 23) = W0 at *
  go_step3
  go_wp2_with fail
  go_step3
  go_wp2_with fail
  generalize hgG : w.heap.size = gG at *
  have HgG := hide hgG
  clear hgG
  go_loopw [8, 9] (fun lv at_ wr => ∃ (k : Nat) (a : Option Addr) (m c f : Nat) (ps : List PV), k ≤ l.length ∧ at_ = .int .i64 k ∧ lv = .slice a m c ∧ Hid (ps.length = m ∧ m ≤ k ∧ l.length < k + f ∧ A = (ps.map PV.p ++ (splF l n G f k).1, (splF l n G f k).2) ∧ PRow0 (gG + 1) wr (.slice a m c) ps ∧ (ps.flatMap PV.vl).Pairwise sepV ∧ (∀ x ∈ ps, Good1 x.p) ∧ Blk wr gG #[.int .i64 G.1, .int .i64 G.2.1, .int .i64 G.2.2] 23 ∧ w.grownBy wr none ∧ gG + 1 ≤ wr.heap.size)) (fun _ at_ _ => l.length - (intOf at_).toNat)
  case atStart => exact ⟨0, none, 0, 0, l.length + 1, [], Nat.zero_le _, rfl, rfl, rfl, Nat.le_refl _, by omega, by rw [unhide HA]; simp, PRow0.nil _ _, by simp, by simp, (unhide START).1, (unhide START).2.1, (unhide START).2.2⟩
  case round =>
    clear START
    obtain ⟨k, a, m, c, f, ps, hk, rfl, rfl, H⟩ := hrel
    by_cases hlt : k < l.length
    · have kN : (k : Int) < (l.length : Int) := by omega
      obtain ⟨h1, h2, h3, h4, pr, sp, gd1, bG, gr, hB⟩ := unhide H
      have n0 := bG.cell 0 (.int .i64 G.1) rfl
      have n1 := bG.cell 1 (.int .i64 G.2.1) rfl
      have n2 := bG.cell 2 (.int .i64 G.2.2) rfl
      have de : Calls Try.prog 9 #[.slice a0 l.length c0, .int .i64 k, .int .i64 n, G.v] wr (Sp.DecPost wr (decP l k n G)) := Sp.decode_in _ l k n G wr ((unhide HV).grown gr) (by omega)
      have on := dec_on l k n G (unhide HBY) hl
      have HON := hide on
      have DE := hide de
      clear on de h1 h2 h3 h4 pr sp gd1 bG gr hB
      rcases unhide HON with ⟨y, hy, er⟩ | ⟨e1, p, er, lt1, le1, gp⟩
      · rw [er] at DE
        have yb : (y == 0) = false := by simpa using hy
        have yn : (y != 0) = true := by simpa using hy
        have FIN : Hid (∀ W, wr.grownBy W none → SplS w l A (.returned (.tuple #[.slice a m c, .int .i64 (k : Int)])) W) := by
          intro W gW
          obtain ⟨h1, h2, h3, h4, pr, sp, gd1, bG, gr, hB⟩ := unhide H
          rw [splF_end (fun h => by rw [er] at h; exact hy h.2)] at h4
          show ∃ (a' : Option Addr) (m' c' : Nat) (ps : List PV), _
          refine ⟨a, m, c, ps, by rw [h4], h1, by omega, (pr.grown gW).mono (by rw [unhide HgG]; exact Nat.le_succ _), sp, by rw [h4]; simp, gd1, gr.trans gW⟩
        clear H HON er hy
        go_wp2_with fail
        refine (unhide DE).mono ?_
        intro e W3 hd
        obtain ⟨b1, m1, f1, b2, m2, f2, b3, m3, f3, rfl, o1, o2, o3, gd, q1, q2, q3, s3⟩ := hd.parts
        have E := hide (unhide FIN _ (gd.trans (World.grownBy_alloc W3 (.cells (noP.cs (.slice b1 m1 f1) (.slice b2 m2 f2) (.slice b3 m3 f3)) 30) none)))
        clear DE FIN o1 o2 o3 gd q1 q2 q3 hd s3
        go_wp2_with fail
        try rw [Exit.noGoto_ret]
        go_ret2
        exact unhide E
      · rw [er] at DE
        have STEP : Hid (∀ W3 (b1 b2 b3 : Option Addr) (m1 m2 m3 f1 f2 f3 : Nat), wr.grownBy W3 none → OwnB wr.heap.size W3 (.slice b1 m1 f1) p.dst → OwnB wr.heap.size W3 (.slice b2 m2 f2) p.src → OwnB wr.heap.size W3 (.slice b3 m3 f3) p.payload → Sep3 (.slice b1 m1 f1) (.slice b2 m2 f2) (.slice b3 m3 f3) → 
            ∃ g' c' w', (Builtin.append_ #[22, 22] 22 #[.slice a m c, .slice (some ⟨W3.heap.size + 1, 0, none⟩) 1 1]).run Try.prog ((W3.alloc (.cells (p.cs (.slice b1 m1 f1) (.slice b2 m2 f2) (.slice b3 m3 f3)) 30)).alloc (.cells (p.cs (.slice b1 m1 f1) (.slice b2 m2 f2) (.slice b3 m3 f3)) 30)) = .ok (.slice (some ⟨g', 0, none⟩) (m + 1) c') w'
              ∧ ∃ (k' : Nat) (a : Option Addr) (m' c f : Nat) (ps : List PV), k' ≤ l.length ∧ Value.int .i64 (e1 : Int) = .int .i64 k' ∧ Value.slice (some ⟨g', 0, none⟩) (m + 1) c' = .slice a m' c ∧ Hid (ps.length = m' ∧ m' ≤ k' ∧ l.length < k' + f ∧ A = (ps.map PV.p ++ (splF l n G f k').1, (splF l n G f k').2) ∧ PRow0 (gG + 1) w' (.slice a m' c) ps ∧ (ps.flatMap PV.vl).Pairwise sepV ∧ (∀ x ∈ ps, Good1 x.p) ∧ Blk w' gG #[.int .i64 G.1, .int .i64 G.2.1, .int .i64 G.2.2] 23 ∧ w.grownBy w' none ∧ gG + 1 ≤ w'.heap.size)) := by
          intro W3 b1 b2 b3 m1 m2 m3 f1 f2 f3 gd o1 o2 o3 s3
          obtain ⟨h1, h2, h3, h4, pr, sp, gd1, bG, gr, hB⟩ := unhide H
          have gN := World.grownBy_alloc W3 (.cells (p.cs (.slice b1 m1 f1) (.slice b2 m2 f2) (.slice b3 m3 f3)) 30) none
          have sN := alloc_size W3 (.cells (p.cs (.slice b1 m1 f1) (.slice b2 m2 f2) (.slice b3 m3 f3)) 30)
          have gall := gd.trans gN
          have xin : PV.In ⟨p, .slice b1 m1 f1, .slice b2 m2 f2, .slice b3 m3 f3⟩ (gG + 1) (W3.alloc (.cells (p.cs (.slice b1 m1 f1) (.slice b2 m2 f2) (.slice b3 m3 f3)) 30)) :=
            ⟨(o1.far gN (fun q e => by cases e)).mono hB, (o2.far gN (fun q e => by cases e)).mono hB, (o3.far gN (fun q e => by cases e)).mono hB, gp.ld, gp.ls, gp.ly⟩
          obtain ⟨g', c', w', hrun, pr', bl⟩ := (pr.grown gall).push ⟨p, .slice b1 m1 f1, .slice b2 m2 f2, .slice b3 m3 f3⟩ xin (by omega) (Nat.le_trans hB gall.size)
          rw [sN] at hrun
          rw [h1] at hrun pr'
          obtain ⟨f, rfl⟩ : ∃ f', f = f' + 1 := ⟨f - 1, by omega⟩
          rw [splF_step hlt er] at h4
          refine ⟨g', c', w', hrun, e1, some ⟨g', 0, none⟩, m + 1, c', f, ps ++ [⟨p, .slice b1 m1 f1, .slice b2 m2 f2, .slice b3 m3 f3⟩], le1, rfl, rfl, by simp [h1], by omega, by omega, by rw [h4]; simp, pr', ?_, ?_, (bl.block gG (Nat.lt_succ_self _)).trans (bG.grown gall), ?_, Nat.le_trans (Nat.le_trans hB gall.size) bl.size⟩
          · refine sep_push _ sp s3 (fun v hv u hu => ?_)
            rw [List.mem_flatMap] at hv
            obtain ⟨x, hx, hv⟩ := hv
            have xo := pr.own x hx
            have key : ∀ d, OwnB (gG + 1) wr v d → sepV v u := fun d hd => by
              simp only [PV.vl, List.mem_cons, List.not_mem_nil, or_false] at hu
              rcases hu with rfl | rfl | rfl
              · exact Sp.own_sep hd o1 (Nat.le_refl _)
              · exact Sp.own_sep hd o2 (Nat.le_refl _)
              · exact Sp.own_sep hd o3 (Nat.le_refl _)
            simp only [PV.vl, List.mem_cons, List.not_mem_nil, or_false] at hv
            rcases hv with rfl | rfl | rfl
            · exact key _ xo.d
            · exact key _ xo.s
            · exact key _ xo.y
          · intro x hx
            rcases List.mem_append.1 hx with hx | hx
            · exact gd1 x hx
            · simp only [List.mem_singleton] at hx; subst hx; exact gp
          · have bl' : Below w.heap.size w w' := (grown_bel (gr.trans gall)).trans (bl.mono (by rw [unhide HgG]; omega))
            exact below_grown bl'
        clear H HON er gp
        go_wp2_with fail
        refine (unhide DE).mono ?_
        intro e W3 hd
        obtain ⟨b1, m1, f1, b2, m2, f2, b3, m3, f3, rfl, o1, o2, o3, gd, q1, q2, q3, s3⟩ := hd.parts
        have bN := Blk.new W3 (p.cs (.slice b1 m1 f1) (.slice b2 m2 f2) (.slice b3 m3 f3)) 30
        have z0 := bN.cell 0 (.int .i64 p.space) rfl
        have z1 := bN.cell 1 (.slice b1 m1 f1) rfl
        have z2 := bN.cell 2 (.slice b2 m2 f2) rfl
        have z3 := bN.cell 3 (.int .i64 p.number) rfl
        have z4 := bN.cell 4 (.int .i64 p.width) rfl
        have z5 := bN.cell 5 (.slice b3 m3 f3) rfl
        obtain ⟨g', c', w', hrun, NXT⟩ := unhide STEP W3 b1 b2 b3 m1 m2 m3 f1 f2 f3 gd o1 o2 o3 s3
        have HRUN := hide hrun
        have HNX := hide NXT
        clear DE STEP o1 o2 o3 gd q1 q2 q3 hd bN hrun NXT s3
        go_wp2_with (at_builtin; refine wpList_append_runQ _ rfl _ _ 22 22 rfl _ _ rfl rfl (unhide HRUN) ?_)
        exact ⟨unhide HNX, by simp [intOf]; omega⟩
    · obtain rfl : k = l.length := by omega
      have kN : ¬ (l.length : Int) < (l.length : Int) := by omega
      have E : Hid (SplS w l A (.returned (.tuple #[.slice a m c, .int .i64 (l.length : Int)])) wr) := by
        obtain ⟨h1, h2, h3, h4, pr, sp, gd1, bG, gr, hB⟩ := unhide H
        rw [splF_end (fun h => by omega)] at h4
        show ∃ (a' : Option Addr) (m' c' : Nat) (ps : List PV), _
        refine ⟨a, m, c, ps, by rw [h4], h1, h2, pr.mono (by rw [unhide HgG]; exact Nat.le_succ _), sp, by rw [h4]; simp, gd1, gr⟩
      clear H
      go_wp2_with fail
      try rw [Exit.noGoto_ret]
      go_ret2
      exact unhide E

end Go.Proofs.Ytnglgedcpmbbjaa

namespace Go.Proofs.Ytnglgedcpmbbjaa
open Go.RowKit
open Sp (sepV Sep3 sep_nil sep_nil_r)
set_option linter.unusedVariables false
set_option maxRecDepth 100000
set_option maxHeartbeats 1000000


theorem PRow0.cell {B : Nat} {w : World} {gl n cl : Nat} {ps : List PV} (h : PRow0 B w (.slice (some ⟨gl, 0, none⟩) n cl) ps) (k : Nat) (x : PV) (hk : ps[k]? = some x) (j : Nat) (hj : j < 6) : w.cell? ⟨gl, k * 6 + j, none⟩ = x.cl[j]? := by
  rcases h.row.2 with ⟨e, -⟩ | ⟨g, cap, cur, e, q1, q2, q3, q4, q5, q6⟩
  · cases e
  · simp only [Value.slice.injEq, Option.some.injEq, Addr.mk.injEq, and_true] at e
    obtain ⟨rfl, rfl, rfl⟩ := e
    have hlt : k < ps.length := by
      by_cases c : k < ps.length
      · exact c
      · rw [List.getElem?_eq_none (by omega)] at hk; cases hk
    simp only [World.cell?, q2]
    have e : (cur.toList.take (ps.length * 6))[k * 6 + j]? = (ps.flatMap PV.cl)[k * 6 + j]? := by rw [q6]
    rw [List.getElem?_take, if_pos (by omega), Array.getElem?_toList] at e
    rw [e]
    exact flat_six PV.cl 6 (fun _ => rfl) ps k x hk j hj
theorem PRow0.some_ {B : Nat} {w : World} {a : Option Addr} {n c : Nat} {ps : List PV} (h : PRow0 B w (.slice a n c) ps) (hn : ps.length = n) (h0 : 0 < n) : ∃ g, a = some ⟨g, 0, none⟩ ∧ n ≤ c ∧ c ≤ 9223372036854775807 ∧ B ≤ g ∧ g < w.heap.size := by
  have lt := h.row.lt
  rcases h.row.2 with ⟨e, e2⟩ | ⟨g, cap, cur, e, q1, q2, q3, q4, q5, q6⟩
  · omega
  · simp only [Value.slice.injEq] at e
    obtain ⟨rfl, e2, rfl⟩ := e
    unfold maxLen at q4
    exact ⟨g, rfl, by omega, by omega, q1, (lt g rfl).2⟩

theorem samePk_any (B1 B2 : Nat) (a1 a2 : Option Addr) (m c1 c2 : Nat) (ps qs : List PV) (w : World) (h1 : PRow0 B1 w (.slice a1 m c1) ps) (h2 : PRow0 B2 w (.slice a2 m c2) qs) (l1 : ps.length = m) (he : ps.map PV.p = qs.map PV.p) (hg : ∀ x ∈ ps, Good1 x.p) (few : m ≤ 100000000) :
    Calls Try.prog 8 #[.slice a1 m c1, .slice a2 m c2] w fun e w' => e = .returned (.bool true) ∧ w.grownBy w' none := by
  have l2 : qs.length = m := by rw [← l1, ← List.length_map (f := PV.p), ← he, List.length_map]
  have hml : ¬ (9223372036854775807 : Int) < (m : Int) := by omega
  by_cases h0 : m = 0
  · subst h0
    have E := hide (World.grownBy.refl w none)
    clear h1 h2 he hg l1 l2
    go_enter Try.func8, Try.ntmps8
    go_wp2_with fail
    go_loopw [5] (fun i wr => i = .int .i64 0 ∧ wr = w) (fun i _ => 0)
    case atStart => exact ⟨rfl, rfl⟩
    case round =>
      obtain ⟨rfl, rfl⟩ := hrel
      go_wp2_with fail
      go_ret
      exact ⟨rfl, unhide E⟩
  obtain ⟨g1, rfl, k1, k2, -, -⟩ := h1.some_ l1 (by omega)
  obtain ⟨g2, rfl, k3, k4, -, -⟩ := h2.some_ l2 (by omega)
  have mm : ((m : Int) != (m : Int)) = false := by simp
  have P1 := hide h1; have P2 := hide h2; have HE := hide he; have HG := hide hg; have L1 := hide l1; have L2 := hide l2
  clear h1 h2 he hg l1 l2
  go_enter Try.func8, Try.ntmps8
  go_wp2_with fail
  go_loopw [5] (fun i wr => ∃ k : Nat, k ≤ m ∧ i = .int .i64 k ∧ w.grownBy wr none) (fun i _ => m - (intOf i).toNat)
  case atStart => exact ⟨0, Nat.zero_le _, rfl, World.grownBy.refl w none⟩
  case round =>
    obtain ⟨k, hk, rfl, gr⟩ := hrel
    by_cases hlt : k < m
    · have kN : (k : Int) < (m : Int) := by omega
      have q1 := (unhide P1).grown gr
      have q2 := (unhide P2).grown gr
      obtain ⟨x, hx⟩ : ∃ x, ps[k]? = some x := ⟨ps[k]'(by have := unhide L1; omega), by simp⟩
      obtain ⟨y, hy⟩ : ∃ y, qs[k]? = some y := ⟨qs[k]'(by have := unhide L2; omega), by simp⟩
      have hp : x.p = y.p := by
        have e : (ps.map PV.p)[k]? = (qs.map PV.p)[k]? := by rw [unhide HE]
        rw [List.getElem?_map, List.getElem?_map, hx, hy] at e
        simpa using e
      have xi := q1.own x (List.mem_of_getElem? hx)
      have yi := q2.own y (List.mem_of_getElem? hy)
      have gx := unhide HG x (List.mem_of_getElem? hx)
      have x0 : wr.cell? ⟨g1, k * 6, none⟩ = some (.int .i64 x.p.space) := q1.cell k x hx 0 (by omega)
      have x1 : wr.cell? ⟨g1, k * 6 + 1, none⟩ = some x.d := q1.cell k x hx 1 (by omega)
      have x2 : wr.cell? ⟨g1, k * 6 + 2, none⟩ = some x.s := q1.cell k x hx 2 (by omega)
      have x3 : wr.cell? ⟨g1, k * 6 + 3, none⟩ = some (.int .i64 x.p.number) := q1.cell k x hx 3 (by omega)
      have x4 : wr.cell? ⟨g1, k * 6 + 4, none⟩ = some (.int .i64 x.p.width) := q1.cell k x hx 4 (by omega)
      have x5 : wr.cell? ⟨g1, k * 6 + 5, none⟩ = some x.y := q1.cell k x hx 5 (by omega)
      have y0 : wr.cell? ⟨g2, k * 6, none⟩ = some (.int .i64 y.p.space) := q2.cell k y hy 0 (by omega)
      have y1 : wr.cell? ⟨g2, k * 6 + 1, none⟩ = some y.d := q2.cell k y hy 1 (by omega)
      have y2 : wr.cell? ⟨g2, k * 6 + 2, none⟩ = some y.s := q2.cell k y hy 2 (by omega)
      have y3 : wr.cell? ⟨g2, k * 6 + 3, none⟩ = some (.int .i64 y.p.number) := q2.cell k y hy 3 (by omega)
      have y4 : wr.cell? ⟨g2, k * 6 + 4, none⟩ = some (.int .i64 y.p.width) := q2.cell k y hy 4 (by omega)
      have y5 : wr.cell? ⟨g2, k * 6 + 5, none⟩ = some y.y := q2.cell k y hy 5 (by omega)
      obtain ⟨xp, xd, xs, xy⟩ := x
      obtain ⟨yp, yd, ys, yy⟩ := y
      obtain rfl : xp = yp := hp
      have sm := fun W (gW : wr.grownBy W none) => same05 xp xd xs xy yd ys yy W ((xi.d.inB gx.bd).grown gW) ((xi.s.inB gx.bs).grown gW) ((xi.y.inB gx.by_).grown gW) ((yi.d.inB gx.bd).grown gW) ((yi.s.inB gx.bs).grown gW) ((yi.y.inB gx.by_).grown gW)
      obtain ⟨u1, v1, rfl⟩ : ∃ u v, xd = .slice u xp.dst.length v := xi.d.shape
      obtain ⟨u2, v2, rfl⟩ : ∃ u v, xs = .slice u xp.src.length v := xi.s.shape
      obtain ⟨u3, v3, rfl⟩ : ∃ u v, xy = .slice u xp.payload.length v := xi.y.shape
      obtain ⟨u4, v4, rfl⟩ : ∃ u v, yd = .slice u xp.dst.length v := yi.d.shape
      obtain ⟨u5, v5, rfl⟩ : ∃ u v, ys = .slice u xp.src.length v := yi.s.shape
      obtain ⟨u6, v6, rfl⟩ : ∃ u v, yy = .slice u xp.payload.length v := yi.y.shape
      have SM := hide sm; have GR := hide gr
      clear sm gr xi yi gx hx hy q1 q2 HE HG P1 P2
      dsimp only at x0 x1 x2 x3 x4 x5 y0 y1 y2 y3 y4 y5
      generalize xp.dst.length = n1 at *
      generalize xp.src.length = n2 at *
      generalize xp.payload.length = n3 at *
      go_upto_region 6 with fail
      go_region_held3 (fun W => W.cell? ⟨g1, k * 6, none⟩ = some (.int .i64 xp.space) ∧ W.cell? ⟨g1, k * 6 + 1, none⟩ = some (.slice u1 n1 v1) ∧ W.cell? ⟨g1, k * 6 + 2, none⟩ = some (.slice u2 n2 v2) ∧ W.cell? ⟨g1, k * 6 + 3, none⟩ = some (.int .i64 xp.number) ∧ W.cell? ⟨g1, k * 6 + 4, none⟩ = some (.int .i64 xp.width) ∧ W.cell? ⟨g1, k * 6 + 5, none⟩ = some (.slice u3 n3 v3) ∧ W.cell? ⟨g2, k * 6, none⟩ = some (.int .i64 xp.space) ∧ W.cell? ⟨g2, k * 6 + 1, none⟩ = some (.slice u4 n1 v4) ∧ W.cell? ⟨g2, k * 6 + 2, none⟩ = some (.slice u5 n2 v5) ∧ W.cell? ⟨g2, k * 6 + 3, none⟩ = some (.int .i64 xp.number) ∧ W.cell? ⟨g2, k * 6 + 4, none⟩ = some (.int .i64 xp.width) ∧ W.cell? ⟨g2, k * 6 + 5, none⟩ = some (.slice u6 n3 v6)) (go_keep) (first
        | (go_at_call 16; refine (unhide SM _ (by (first | with_reducible exact World.grownBy.refl _ none | with_reducible exact grown_drew' (World.grownBy.refl _ none) | with_reducible exact grown_drewN (World.grownBy.refl _ none) | with_reducible exact World.grownBy_alloc _ _ none | with_reducible exact grown_drew' (World.grownBy_alloc _ _ none) | with_reducible exact (grown_drew' (World.grownBy.refl _ none)).trans (World.grownBy_alloc _ _ none) | with_reducible exact (grown_drewN (World.grownBy.refl _ none)).trans (World.grownBy_alloc _ _ none)))).mono ?_; rintro e Ws ⟨rfl, gs⟩; have gs' : World.grownBy wr Ws none := World.grownBy.trans (by (first | with_reducible exact World.grownBy.refl _ none | with_reducible exact grown_drew' (World.grownBy.refl _ none) | with_reducible exact grown_drewN (World.grownBy.refl _ none) | with_reducible exact World.grownBy_alloc _ _ none | with_reducible exact grown_drew' (World.grownBy_alloc _ _ none) | with_reducible exact (grown_drew' (World.grownBy.refl _ none)).trans (World.grownBy_alloc _ _ none) | with_reducible exact (grown_drewN (World.grownBy.refl _ none)).trans (World.grownBy_alloc _ _ none))) gs; have z0 := cell_grown x0 gs'; have z1 := cell_grown x1 gs'; have z2 := cell_grown x2 gs'; have z3 := cell_grown x3 gs'; have z4 := cell_grown x4 gs'; have z5 := cell_grown x5 gs'; have s0 := cell_grown y0 gs'; have s1 := cell_grown y1 gs'; have s2 := cell_grown y2 gs'; have s3 := cell_grown y3 gs'; have s4 := cell_grown y4 gs'; have s5 := cell_grown y5 gs'))
      have E := hide ((unhide GR).trans gs')
      clear SM gs gs' z0 z1 z2 z3 z4 z5 s0 s1 s2 s3 s4 s5
      go_wp2_with fail
      exact ⟨⟨k + 1, hlt, by go_num, unhide E⟩, by simp [intOf]; omega⟩
    · obtain rfl : k = m := by omega
      have kN : ¬ (k : Int) < (k : Int) := by omega
      have E := hide gr
      clear gr P1 P2 HE HG
      go_wp2_with fail
      go_ret
      exact ⟨rfl, unhide E⟩

end Go.Proofs.Ytnglgedcpmbbjaa
