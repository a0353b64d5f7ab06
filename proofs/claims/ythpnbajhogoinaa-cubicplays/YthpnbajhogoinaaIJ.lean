/- newCurve, goOn, target, win. -/
import Derived.Test.YthpnbajhogoinaaII
namespace Go.Proofs.Ythpnbajhogoinaa
open Go.RowKit Fl
set_option linter.unusedVariables false
set_option maxRecDepth 100000
set_option maxHeartbeats 4000000
attribute [local go_sem] run_store_float

def curV (now : Int) (x y m : Nat) : Array Value := if x < y then #[.int .i64 now, fv y, .int .i64 (kOf (subW y x) m : Int), fv x] else #[.int .i64 now, fv x, .int .i64 0, fv x]
theorem newcurve_any (now : Int) (x y m : Nat) (hx : x < inf) (hy : y ≤ I 1099511627776) (hm : 1200 ≤ m ∧ m ≤ 9000) (w : World) : Calls Try.prog 49 #[.int .i64 now, fv x, fv y, .int .i64 (m : Int)] w fun e w' => e = .returned (.agg (curV now x y m)) ∧ w.grownBy w' none := by
  have hyi : y < inf := Nat.lt_of_le_of_lt hy (I_lt (by decide))
  have l := olt hx hyi
  have F : Hid (∀ cs, cs = curV now x y m → Blk (w.alloc (.cells cs 59)) w.heap.size (curV now x y m) 59 ∧ w.grownBy (w.alloc (.cells cs 59)) none) := fun cs e => by
    rw [← e]
    exact ⟨Blk.new w cs 59, World.grownBy_alloc w _ none⟩
  by_cases c : x < y
  · have s := fsub hyi hx (Nat.le_of_lt c)
    have R := reach_any (subW y x) m hm (Nat.le_trans (subW_le hyi) hy)
    have E : Hid (#[.int .i64 now, fv y, .int .i64 (kOf (subW y x) m : Int), fv x] = curV now x y m) := by show _ = _; unfold curV; rw [if_pos c]
    have Z : Hid ((curV now x y m).size = 4) := by rw [← unhide E]; exact (rfl : 4 = 4)
    rw [decide_eq_true c] at l
    clear hx hy hm hyi c
    generalize curV now x y m = V0 at *
    generalize kOf (subW y x) m = k at *
    generalize subW y x = z at *
    generalize (k : Int) = ki at *
    generalize (m : Int) = mi at *
    go_enter Try.func49, Try.ntmps49
    go_wp2_with fail
    refine (R _).mono ?_
    rintro e W ⟨rfl, hW⟩
    subst hW
    go_wp2_with fail
    refine bodyPost_ret (results_cell_row rfl _ _ w.heap.size 59 _ (0, 0) _ rfl (unhide F _ (unhide E)).1 Try.underlying59 rfl (by rw [unhide Z]; exact Try.sizeV)) rfl ?_
    exact ⟨rfl, (unhide F _ (unhide E)).2⟩
  · have E : Hid (#[.int .i64 now, fv x, .int .i64 0, fv x] = curV now x y m) := by show _ = _; unfold curV; rw [if_neg c]
    have Z : Hid ((curV now x y m).size = 4) := by rw [← unhide E]; exact (rfl : 4 = 4)
    rw [decide_eq_false c] at l
    clear hx hy hm hyi c
    generalize curV now x y m = V0 at *
    generalize (m : Int) = mi at *
    go_enter Try.func49, Try.ntmps49
    go_wp2_with fail
    refine bodyPost_ret (results_cell_row rfl _ _ w.heap.size 59 _ (0, 0) _ rfl (unhide F _ (unhide E)).1 Try.underlying59 rfl (by rw [unhide Z]; exact Try.sizeV)) rfl ?_
    exact ⟨rfl, (unhide F _ (unhide E)).2⟩

abbrev cur (b : Nat) : Value := .pointer (some ⟨b, 7, none⟩)
theorem grown_drewS' {w W : World} {b : Nat} (g : w.grownBy W (some b)) (q : Nat) : w.grownBy (W.drewN q) (some b) := ⟨g.os, g.tape, g.output, g.size, g.block⟩
theorem goOn_any (b : Nat) (s : Cs) (g : Nat) (w : World) (h : CB w b s) (hg : g < inf) (hp : s.pl < inf) (ho : s.og < inf) : Calls Try.prog 50 #[cur b, fv g] w fun e w' => e = .returned (.tuple #[]) ∧ CB w' b (goF g s) ∧ w.grownBy w' (some b) := by
  have l := olt hp ho
  have g2 := gain2_le (e := s.pl) (o := s.og) hg
  have a := fadd hp (Nat.lt_of_le_of_lt g2 hg)
  have m := fmul hg (show c917 < inf by decide)
  obtain ⟨t, -⟩ := h.full
  obtain ⟨-, -, c8, -, c10, -⟩ := h.more
  have F := hide (And.intro (show ∀ q, CB ((w.drewN q).setCell ⟨b, 10, none⟩ (fv (addW s.pl (gain2 s.pl s.og g)))) b (goF g s) from fun q => Blk.setC (w := w.drewN q) h 10 _) (fun q => grown_at (grown_drewS' (World.grownBy.refl w (some b)) q) 10 (fv (addW s.pl (gain2 s.pl s.og g)))))
  clear h hg hp ho g2
  generalize goF g s = s' at *
  unfold gain2 at a F
  by_cases c : s.pl < s.og
  · rw [if_pos c] at a F
    rw [decide_eq_true c] at l
    generalize mulW g c917 = z at *
    generalize addW s.pl z = z2 at *
    generalize s.pl = x at *
    generalize s.og = y at *
    clear c
    go_enter Try.func50, Try.ntmps50
    go_wp2_with fail
    go_quiet (fail)
    go_wp2_with fail
    refine bodyPost_end (results_none rfl _ _ _) rfl ?_
    exact ⟨rfl, (unhide F).1 _, (unhide F).2 _⟩
  · rw [if_neg c] at a F
    rw [decide_eq_false c] at l
    clear m
    generalize addW s.pl g = z2 at *
    generalize s.pl = x at *
    generalize s.og = y at *
    clear c
    go_enter Try.func50, Try.ntmps50
    go_wp2_with fail
    go_quiet (fail)
    go_wp2_with fail
    refine bodyPost_end (results_none rfl _ _ _) rfl ?_
    exact ⟨rfl, (unhide F).1 _, (unhide F).2 _⟩

theorem fmax2 {x y : Nat} (hx : x < inf) (hy : y < inf) (w : World) : (Builtin.max2 (fv x) (fv y)).run Try.prog w = .ok (fv (max x y)) w := by
  unfold Builtin.max2
  dsimp only
  rw [show FloatKind.f64.format.order x y = some (compare x y) from order_eq hx hy]
  rcases Nat.lt_trichotomy x y with c | c | c
  · rw [Nat.compare_eq_lt.2 c, Nat.max_eq_right (Nat.le_of_lt c)]; rfl
  · subst c
    rw [Nat.compare_eq_eq.2 rfl, Nat.max_self]
    dsimp only
    split <;> rfl
  · rw [Nat.compare_eq_gt.2 c, Nat.max_eq_left (Nat.le_of_lt c)]; rfl
theorem fmin2 {x y : Nat} (hx : x < inf) (hy : y < inf) (w : World) : (Builtin.min2 (fv x) (fv y)).run Try.prog w = .ok (fv (min x y)) w := by
  unfold Builtin.min2
  dsimp only
  rw [show FloatKind.f64.format.order x y = some (compare x y) from order_eq hx hy]
  rcases Nat.lt_trichotomy x y with c | c | c
  · rw [Nat.compare_eq_lt.2 c, Nat.min_eq_left (Nat.le_of_lt c)]; rfl
  · subst c
    rw [Nat.compare_eq_eq.2 rfl, Nat.min_self]
    dsimp only
    split <;> rfl
  · rw [Nat.compare_eq_gt.2 c, Nat.min_eq_right (Nat.le_of_lt c)]; rfl
theorem fmaxn {x y : Nat} (hx : x < inf) (hy : y < inf) (h : 0 < y) (w : World) : (Builtin.max2 (fv (neg x)) (fv y)).run Try.prog w = .ok (fv y) w := by
  unfold Builtin.max2
  dsimp only
  rw [show FloatKind.f64.format.order (neg x) y = some .lt from order_neg hx hy h]
  rfl
theorem max3 {a b c d e : Nat} (w : World) (h1 : ∀ w, (Builtin.max2 (fv a) (fv b)).run Try.prog w = .ok (fv d) w) (h2 : ∀ w, (Builtin.max2 (fv d) (fv c)).run Try.prog w = .ok (fv e) w) (ts : Array TypeId) (t : TypeId) : (Builtin.max_ ts t #[fv a, fv b, fv c]).run Try.prog w = .ok (fv e) w := by
  simp [Builtin.max_, h1, h2]
theorem min2' {a b : Nat} (ha : a < inf) (hb : b < inf) (w : World) (ts : Array TypeId) (t : TypeId) : (Builtin.min_ ts t #[fv a, fv b]).run Try.prog w = .ok (fv (min a b)) w := by
  simp [Builtin.min_, fmin2 ha hb]
end Go.Proofs.Ythpnbajhogoinaa
