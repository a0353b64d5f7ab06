/- Ledger: a ledger in memory; Told. -/
import Derived.Test.YtnflbefbgcbdfaaL3G
namespace Go.Proofs.Ytnflbefbgcbdfaa
open Go.RowKit
set_option linter.unusedVariables false
set_option maxRecDepth 100000
set_option maxHeartbeats 4000000

/-- What Told answers. -/
def Lg.told (l : Lg) (lo hi : Int) : Bool := !(if hi < lo then [] else withinF lo hi l.ac).isEmpty
/-- A ledger in memory: its cells at b, its set at q, what it keeps at kv; the frames' blocks are of R. -/
structure LgAt (R : Nat → Prop) (W : World) (b q : Nat) (kv va : Value) (l : Lg) : Prop where
  blk : Blk W b (l.cs kv q) 63
  set : SetAt W q 256 va l.ac
  row : KvAt R W kv l.ks
  low : ∀ g, R g → g < W.heap.size
  nb : ¬ R b
  nq : ¬ R q
  nk : ∀ g, kv.ownBlock = some g → ¬ R g
  na : ∀ g, va.ownBlock = some g → ¬ R g
theorem LgAt.grown {R : Nat → Prop} {W W' : World} {b q : Nat} {kv va : Value} {l : Lg} (h : LgAt R W b q kv va l) (g : W.grownBy W' none) : LgAt R W' b q kv va l :=
  ⟨h.blk.grown g, h.set.keep g, h.row.grown g, fun k hk => Nat.lt_of_lt_of_le (h.low k hk) g.size, h.nb, h.nq, h.nk, h.na⟩
theorem LgAt.new {W : World} {b q : Nat} {first : Int} (h1 : Blk W b ((Lg.fresh first).cs (.slice none 0 0) q) 63) (h2 : SetAt W q 256 (.slice none 0 0) []) : LgAt (fun _ => False) W b q (.slice none 0 0) (.slice none 0 0) (Lg.fresh first) :=
  ⟨h1, h2, KvAt.nil _ _, fun _ h => h.elim, id, id, fun _ _ => id, fun _ _ => id⟩

theorem told_any (b q : Nat) (kv va : Value) (l : Lg) (lo hi : Int) (w : World) (hb : Blk w b (l.cs kv q) 63) (hs : SetAt w q 256 va l.ac) (hL : Ok l.ac) :
    Calls Try.prog 15 #[.pointer (some ⟨b, 0, none⟩), .int .i64 lo, .int .i64 hi] w fun e w' => e = .returned (.bool (l.told lo hi)) ∧ w.grownBy w' none := by
  have hw : Calls Try.prog 30 #[.pointer (some ⟨q, 0, none⟩), .int .i64 lo, .int .i64 hi] w fun e w' => ∃ a n c, e = .returned (.slice a n c) ∧ n ≤ 1000000000000000 ∧ l.told lo hi = decide (0 < (n : Int)) ∧ w.grownBy w' none := by
    by_cases hlh : hi < lo
    · refine (within_gt q lo hi w hlh).mono ?_
      rintro e w' ⟨rfl, rfl⟩
      exact ⟨none, 0, 0, rfl, by omega, by simp [Lg.told, hlh], grown_self _ _⟩
    · refine (within_any q 256 lo hi va l.ac w hs hL (by omega)).mono ?_
      rintro e w' ⟨v', rfl, hr, -, gw⟩
      obtain ⟨a, n, c, rfl, hn⟩ : ∃ a n c, v' = .slice a n c ∧ n = (withinF lo hi l.ac).length := by
        rcases hr.2 with ⟨e1, e2⟩ | ⟨g, c, cur, e1, -⟩
        · exact ⟨none, 0, 0, e1, e2.symm⟩
        · exact ⟨_, _, c, e1, rfl⟩
      refine ⟨a, n, c, rfl, ?_, ?_, gw⟩
      · have h1 := hL.size
        have h2 : (withinF lo hi l.ac).length ≤ 1000000000000000 := Nat.le_trans (withinF_length lo hi l.ac) (by omega)
        omega
      · rw [hn]
        simp only [Lg.told, if_neg hlh]
        cases withinF lo hi l.ac <;> simp
  have c7 : w.cell? ⟨b, 7, none⟩ = some (.pointer (some ⟨q, 0, none⟩)) := hb.cell 7 _ rfl
  clear hb hs hL
  generalize l.told lo hi = m at hw ⊢
  go_enter Try.func15, Try.ntmps15
  go_wp2_with fail
  refine hw.mono ?_
  rintro e Y ⟨a, n, c, rfl, hn, rfl, gY⟩
  have hn8 : ¬ (9223372036854775807 : Int) < (n : Int) := by omega
  have GY := hide gY
  clear hw gY
  by_cases h0 : (0 : Int) < (n : Int)
  · go_wp2_with fail
    all_goals go_ret
    all_goals exact ⟨by simp, unhide GY⟩
  · go_wp2_with fail
    all_goals go_ret
    all_goals exact ⟨by simp, unhide GY⟩
end Go.Proofs.Ytnflbefbgcbdfaa
