/- What Decode told, kept in a variable. -/
import Derived.Test.YtdmjejfnohhpiaaKG
import Derived.Test.YtdmjejfnohhpiaaKC2
namespace Go.Proofs.Ytdmjejfnohhpiaa
open Go.RowKit
set_option linter.unusedVariables false
set_option maxRecDepth 100000

theorem cell_ltb {w : World} {b o : Nat} {v : Value} (h : w.cell? ⟨b, o, none⟩ = some v) : b < w.heap.size := by
  by_cases c : b < w.heap.size
  · exact c
  · have e : w.heap[b]? = none := by simp; omega
    simp [World.cell?, e] at h

/-- Behind 'q, end, f := packet.Decode(..)'. -/
def QPost (w0 : World) (r : Pk × Int × Int) (v12 v13 v14 : Value) (w' : World) : Prop :=
  ∃ gq a1 n1 c1 a2 n2 c2 a3 n3 c3, v12 = .pointer (some ⟨gq, 0, none⟩) ∧ v13 = .int .i64 r.2.1 ∧ v14 = .int .i64 r.2.2 ∧ Blk w' gq (r.1.cs (.slice a1 n1 c1) (.slice a2 n2 c2) (.slice a3 n3 c3)) 24 ∧ w0.heap.size ≤ gq
    ∧ OwnB w0.heap.size w' (.slice a1 n1 c1) r.1.dst ∧ OwnB w0.heap.size w' (.slice a2 n2 c2) r.1.src ∧ OwnB w0.heap.size w' (.slice a3 n3 c3) r.1.payload ∧ w0.grownBy w' none ∧ n1 = r.1.dst.length ∧ n2 = r.1.src.length ∧ n3 = r.1.payload.length

theorem QPost.a {w0 W1 Wd : World} {r : Pk × Int × Int} {a1 a2 a3 : Option Addr} {n1 n2 n3 c1 c2 c3 : Nat} (o1 : OwnB W1.heap.size Wd (.slice a1 n1 c1) r.1.dst) (o2 : OwnB W1.heap.size Wd (.slice a2 n2 c2) r.1.src) (o3 : OwnB W1.heap.size Wd (.slice a3 n3 c3) r.1.payload)
    (g1 : w0.grownBy W1 none) (gd : W1.grownBy Wd none) (q1 : n1 = r.1.dst.length) (q2 : n2 = r.1.src.length) (q3 : n3 = r.1.payload.length) :
    QPost w0 r (.pointer (some ⟨Wd.heap.size, 0, none⟩)) (.int .i64 r.2.1) (.int .i64 r.2.2) (Wd.alloc (.cells (r.1.cs (.slice a1 n1 c1) (.slice a2 n2 c2) (.slice a3 n3 c3)) 24)) := by
  have ga := World.grownBy_alloc Wd (.cells (r.1.cs (.slice a1 n1 c1) (.slice a2 n2 c2) (.slice a3 n3 c3)) 24) none
  have g := (g1.trans gd)
  exact ⟨_, _, _, _, _, _, _, _, _, _, rfl, rfl, rfl, Blk.new _ _ _, g.size, (o1.far ga (fun q e => by cases e)).mono g1.size, (o2.far ga (fun q e => by cases e)).mono g1.size, (o3.far ga (fun q e => by cases e)).mono g1.size, g.trans ga, q1, q2, q3⟩

theorem QPost.b {w0 W1 Wd : World} {r : Pk × Int × Int} {a1 a2 a3 : Option Addr} {n1 n2 n3 c1 c2 c3 gq : Nat} {u0 u1 u2 u3 u4 u5 : Value} (o1 : OwnB W1.heap.size Wd (.slice a1 n1 c1) r.1.dst) (o2 : OwnB W1.heap.size Wd (.slice a2 n2 c2) r.1.src) (o3 : OwnB W1.heap.size Wd (.slice a3 n3 c3) r.1.payload)
    (g1 : w0.grownBy W1 none) (gd : W1.grownBy Wd none) (q1 : n1 = r.1.dst.length) (q2 : n2 = r.1.src.length) (q3 : n3 = r.1.payload.length) (bq : Blk Wd gq #[u0, u1, u2, u3, u4, u5] 24) (hq : w0.heap.size ≤ gq) (hq2 : gq < W1.heap.size) :
    QPost w0 r (.pointer (some ⟨gq, 0, none⟩)) (.int .i64 r.2.1) (.int .i64 r.2.2) ((((((Wd.setCell ⟨gq, 0, none⟩ (.int .i64 r.1.space)).setCell ⟨gq, 1, none⟩ (.slice a1 n1 c1)).setCell ⟨gq, 2, none⟩ (.slice a2 n2 c2)).setCell ⟨gq, 3, none⟩ (.int .i64 r.1.number)).setCell ⟨gq, 4, none⟩ (.int .i64 r.1.width)).setCell ⟨gq, 5, none⟩ (.slice a3 n3 c3)) := by
  have gg : Wd.grownBy ((((((Wd.setCell ⟨gq, 0, none⟩ (.int .i64 r.1.space)).setCell ⟨gq, 1, none⟩ (.slice a1 n1 c1)).setCell ⟨gq, 2, none⟩ (.slice a2 n2 c2)).setCell ⟨gq, 3, none⟩ (.int .i64 r.1.number)).setCell ⟨gq, 4, none⟩ (.int .i64 r.1.width)).setCell ⟨gq, 5, none⟩ (.slice a3 n3 c3)) (some gq) :=
    grown_at (grown_at (grown_at (grown_at (grown_at (grown_at (World.grownBy.refl Wd (some gq)) 0 _) 1 _) 2 _) 3 _) 4 _) 5 _
  have ho : ∀ q, some gq = some q → q < W1.heap.size := fun q e => by cases e; exact hq2
  exact ⟨_, _, _, _, _, _, _, _, _, _, rfl, rfl, rfl, bq.set6, hq, (o1.far gg ho).mono g1.size, (o2.far gg ho).mono g1.size, (o3.far gg ho).mono g1.size, grown_over (g1.trans gd) gg hq, q1, q2, q3⟩

end Go.Proofs.Ytdmjejfnohhpiaa
