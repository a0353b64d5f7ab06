/- ParamsOrder: one parameter alone. -/
import Derived.Test.YtmfbbamaleagiaaDoorYI
import Derived.Test.YtmfbbamaleagiaaDoorYB
namespace Go.Proofs.YtmfbbamaleagiaaDoor
open Go.RowKit
set_option linter.unusedVariables false
set_option maxRecDepth 100000
set_option maxHeartbeats 1000000

/-- What alone leaves. -/
def AlPost (p : Ps) (k : Nat) (w : World) (e : Ending) (w' : World) : Prop :=
  ∃ a c, e = .returned (.tuple #[.slice a (partK k (p.l.getD k 0)).length c, .bool true]) ∧ Rd w' a (partK k (p.l.getD k 0)) ∧ OwnB w.heap.size w' (.slice a (partK k (p.l.getD k 0)).length c) (partK k (p.l.getD k 0)) ∧ w.grownBy w' none

theorem alone_any (p : Ps) (hp : ∀ j, j < 9 → okV j (p.l.getD j 0)) (k : Nat) (hk : k < 9) (w : World) (h : Tb w) : Calls Tryd.prog 25 #[.agg p.cs, .int .i64 k] w (AlPost p k w) := by
  have B0 := Blk.new w p.cs 23
  have G0 := World.grownBy_alloc w (.cells p.cs 23) none
  have df := default_any _ (h.grown G0)
  rw [dflt_cs] at df
  have en := fun W (hW : Tb W) => encode_ok (dflt.set k (p.l.getD k 0)) W hW (only_check k _ hk (hp k hk))
  rw [only_enc k _ hk] at en
  have FIN : Hid (∀ W a c W', w.grownBy W none → Rd W' a (partK k (p.l.getD k 0)) → OwnB W.heap.size W' (.slice a (partK k (p.l.getD k 0)).length c) (partK k (p.l.getD k 0)) → W.grownBy W' none → AlPost p k w (.returned (.tuple #[.slice a (partK k (p.l.getD k 0)).length c, .bool true])) W') :=
    fun W a c W' g1 r o g2 => ⟨a, c, rfl, r, OwnB.mono o g1.size, g1.trans g2⟩
  generalize hL : partK k (p.l.getD k 0) = L at *
  clear hL
  have K : Hid (∀ W1, (w.alloc (.cells p.cs 23)).grownBy W1 none → ∀ x y, Blk ((W1.alloc x).alloc y) w.heap.size p.cs 23 ∧ Tb ((W1.alloc x).alloc y) ∧ w.grownBy ((W1.alloc x).alloc y) none) := by
    intro W1 g1 x y
    have g2 := g1.trans (grown2 W1 x y)
    exact ⟨B0.grown g2, h.grown (G0.trans g2), G0.trans g2⟩
  clear B0 G0 hp
  obtain rfl | rfl | rfl | rfl | rfl | rfl | rfl | rfl | rfl : k = 0 ∨ k = 1 ∨ k = 2 ∨ k = 3 ∨ k = 4 ∨ k = 5 ∨ k = 6 ∨ k = 7 ∨ k = 8 := by omega
  all_goals
    go_enter Tryd.func25, Tryd.ntmps25
    go_wp2_with (go_at_call 10; refine df.mono ?_; rintro e W1 ⟨rfl, g1⟩; have nn := (unhide K W1 g1 (.cells #[.int .i64 0, .int .i64 0, .int .i64 0, .int .i64 0, .int .i64 0, .int .i64 0, .int .i64 0, .int .i64 3, .int .i64 25000] 23) (.cells #[.int .i64 0, .int .i64 0, .int .i64 0, .int .i64 0, .int .i64 0, .int .i64 0, .int .i64 0, .int .i64 3, .int .i64 25000] 23)).1.nine; obtain ⟨n0, n1, n2, n3, n4, n5, n6, n7, n8⟩ := nn; have KK := hide (unhide K W1 g1); clear df g1 K)
  all_goals
    refine (en _ (unhide KK _ _).2.1).mono ?_
    rintro e W2 ⟨a, c, rfl, r, o, g⟩
    have F := hide (unhide FIN _ a c W2 (unhide KK _ _).2.2 r o g)
    clear en FIN KK r o g n0 n1 n2 n3 n4 n5 n6 n7 n8
    go_wp2
    go_ret2
    exact unhide F
end Go.Proofs.YtmfbbamaleagiaaDoor
