/- target, win. -/
import Derived.Test.YthpnbajhogoinaaIJ
namespace Go.Proofs.Ythpnbajhogoinaa
open Go.RowKit Fl
set_option linter.unusedVariables false
set_option maxRecDepth 100000
set_option maxHeartbeats 4000000
attribute [local go_sem] run_store_float

/-- The curve's height with its sign. -/
def hraw (o : Nat) (d : Int) (m : Nat) : Nat := if 0 ≤ d then addW o (cubeW d.natAbs m) else if cubeW d.natAbs m ≤ o then subW o (cubeW d.natAbs m) else neg (subW (cubeW d.natAbs m) o)
theorem h_add {o m : Nat} {d : Int} (ho : o < inf) (hd : d.natAbs ≤ D51) (hm : m ≤ 9000) (w : World) : (binOp .add 31 (.float .f64 o) (.float .f64 (sg d (cubeW d.natAbs m)))).run Try.prog w = .ok (.float .f64 (hraw o d m)) w := by
  have hc := cube_lt hd hm
  unfold hraw
  by_cases c : 0 ≤ d
  · rw [if_pos c, show sg d (cubeW d.natAbs m) = cubeW d.natAbs m by unfold sg; rw [decide_eq_false (by omega), word_f]]
    exact fadd ho hc w
  · rw [if_neg c, show sg d (cubeW d.natAbs m) = neg (cubeW d.natAbs m) by unfold sg; rw [decide_eq_true (by omega)]]
    exact fbin (op := .add) (x := o) (y := neg (cubeW d.natAbs m)) (add_neg ho hc) w
theorem h_max {o m p x : Nat} {d : Int} (ho : o ≤ I 1099511627776) (hd : d.natAbs ≤ D51) (hm : m ≤ 9000) (hp : p < inf) (hp0 : 0 < p) (hx : x < inf) (w : World) (ts : Array TypeId) (t : TypeId) : (Builtin.max_ ts t #[fv (hraw o d m), fv p, fv x]).run Try.prog w = .ok (fv (max (max (hiW o d m) p) x)) w := by
  have hc := cube_lt hd hm
  have hi := hi_lt (o := o) (d := d) (m := m) ho hd hm
  have hmx : max (hiW o d m) p < inf := by omega
  refine max3 (d := max (hiW o d m) p) w ?_ (fun w => fmax2 hmx hx w) ts t
  intro w
  unfold hraw
  by_cases c : 0 ≤ d
  · have e : hiW o d m = addW o (cubeW d.natAbs m) := by unfold hiW; rw [if_pos c]
    rw [if_pos c, ← e]
    exact fmax2 hi hp w
  · rw [if_neg c]
    by_cases c2 : cubeW d.natAbs m ≤ o
    · have e : hiW o d m = subW o (cubeW d.natAbs m) := by unfold hiW; rw [if_neg c, if_pos c2]
      rw [if_pos c2, ← e]
      exact fmax2 hi hp w
    · have e : hiW o d m = 0 := by unfold hiW; rw [if_neg c, if_neg c2]
      rw [if_neg c2, e, Nat.max_eq_right (Nat.zero_le _)]
      exact fmaxn (Nat.lt_of_le_of_lt (subW_le hc) hc) hp hp0 w

abbrev inD (s : Cs) : Prop := inT s.clock ∧ (-1 ≤ s.ep ∧ s.ep ≤ s.clock) ∧ (0 ≤ s.wt ∧ s.wt ≤ 68719476736)
theorem target_any (b : Nat) (s : Cs) (w : World) (h : CB w b s) (hd : inD s) (hm : 1200 ≤ s.mtu ∧ s.mtu ≤ 9000) (ho : s.og ≤ I 1099511627776) (hp : s.pl < inf) (hp0 : 0 < s.pl) (hz : 1 ≤ s.size.toNat ∧ s.size.toNat < 2 ^ 40) :
    Calls Try.prog 51 #[cur b, .int .i64 s.clock, fv (sI s), .int .i64 s.mtu] w fun e w' => e = .returned (fv (tgF s)) ∧ ∃ m, w' = w.drewN m := by
  obtain ⟨⟨d1, d2⟩, ⟨d3, d4⟩, d5, d6⟩ := hd
  have hx : sI s < inf := I_lt (by omega)
  have hoi : s.og < inf := Nat.lt_of_le_of_lt ho (I_lt (by decide))
  have hdn : (s.clock - s.ep - s.wt).natAbs ≤ D51 := by unfold D51; omega
  have hmn : s.mtu.toNat ≤ 9000 := by omega
  have e : ((s.mtu.toNat : Nat) : Int) = s.mtu := by omega
  have C := fun q => cube_any (s.clock - s.ep - s.wt) hdn s.mtu.toNat hmn (w.drewN q)
  rw [e] at C
  have a := h_add hoi hdn hmn
  have m3 := fun W => h_max (x := sI s) ho hdn hmn hp hp0 hx W
  have ml := fmul (show c15 < inf by decide) hx
  have hi := hi_lt (o := s.og) (d := s.clock - s.ep - s.wt) (m := s.mtu.toNat) ho hdn hmn
  have hmx : max (max (hiW s.og (s.clock - s.ep - s.wt) s.mtu.toNat) s.pl) (sI s) < inf := by omega
  have mi := fun W => min2' hmx (half_rep (n := s.size.toNat) (by omega)).1 W
  have ET : Hid (tgF s = min (max (max (hiW s.og (s.clock - s.ep - s.wt) s.mtu.toNat) s.pl) (sI s)) (mulW c15 (I s.size.toNat))) := rfl
  rw [show I s.size.toNat = sI s from rfl] at mi ET
  obtain ⟨t, -⟩ := h.full
  obtain ⟨-, c7, c8, c9, c10, -⟩ := h.more
  have w1 : IntKind.i64.wrap (s.clock - s.ep) = s.clock - s.ep := by rw [IntKind.wrap_i64]; omega
  have w2 : IntKind.i64.wrap (s.clock - s.ep - s.wt) = s.clock - s.ep - s.wt := by rw [IntKind.wrap_i64]; omega
  rw [unhide ET]
  clear h hm ho hp hp0 hz hx hoi hdn hmn e hi hmx ET
  generalize sI s = x at *
  generalize min (max (max (hiW s.og (s.clock - s.ep - s.wt) s.mtu.toNat) s.pl) x) (mulW c15 x) = z6 at *
  generalize max (max (hiW s.og (s.clock - s.ep - s.wt) s.mtu.toNat) s.pl) x = z5 at *
  generalize mulW c15 x = z4 at *
  generalize hraw s.og (s.clock - s.ep - s.wt) s.mtu.toNat = z3 at *
  generalize sg (s.clock - s.ep - s.wt) (cubeW (s.clock - s.ep - s.wt).natAbs s.mtu.toNat) = z2 at *
  generalize s.og = og at *
  generalize s.pl = pl at *
  generalize s.mtu = mt at *
  clear d1 d2 d3 d4 d5 d6
  generalize s.clock = cl at *
  generalize s.ep = ep at *
  generalize s.wt = wt at *
  go_enter Try.func51, Try.ntmps51
  go_wp2_with fail
  go_quiet (exact Calls.quiet_of_same (C _))
  go_wp2_with fail
  go_ret
  exact ⟨rfl, _, rfl⟩

theorem win_any (b : Nat) (s : Cs) (g : Nat) (w : World) (h : CB w b s) (hp : s.pt < inf) (hg : g < inf) (ha : addW s.pt g < inf) (hw : whole (addW s.pt g) ≤ 65536) (hr : I (whole (addW s.pt g)) ≤ addW s.pt g) (hz : 0 ≤ s.size ∧ s.size ≤ 1099511627776) :
    Calls Try.prog 52 #[ptr b, fv g] w fun e w' => e = .returned (.tuple #[]) ∧ CB w' b (winF g s) ∧ w.grownBy w' (some b) := by
  have a := fadd hp hg
  have si := fsub ha (I_lt (show whole (addW s.pt g) < 2 ^ 53 by omega)) hr
  have ei : floatOfInt .f64 ((whole (addW s.pt g) : Nat) : Int) = I (whole (addW s.pt g)) := ofNat_eq _
  have cv : ∀ W : World, (convert 31 2 (.float .f64 (addW s.pt g))).run Try.prog W = .ok (.int .i64 ((whole (addW s.pt g) : Nat) : Int)) W := fun W => by
    refine run_convert_float_int W _ _ .f64 .i64 _ _ (by kernel_rfl) (by kernel_rfl) ?_
    unfold floatToIntVal
    rw [show (FloatKind.f64.decode (addW s.pt g)).toInt .zero = some ((whole (addW s.pt g) : Nat) : Int) from toInt_eq ha]
    dsimp only
    rw [if_pos]
    generalize whole (addW s.pt g) = q at *
    exact ⟨by show (-9223372036854775808 : Int) ≤ (q : Int); omega, by show (q : Int) ≤ 9223372036854775807; omega⟩
  obtain ⟨t, -, -, c2, -⟩ := h.full
  obtain ⟨-, -, -, -, -, c11⟩ := h.more
  have F := hide (And.intro (show CB (((w.setCell ⟨b, 11, none⟩ (fv (addW s.pt g))).setCell ⟨b, 2, none⟩ (.int .i64 (s.size + (whole (addW s.pt g) : Int)))).setCell ⟨b, 11, none⟩ (fv (subW (addW s.pt g) (I (whole (addW s.pt g)))))) b (winF g s) from ((Blk.setC h 11 _).setC 2 _).setC 11 _) (grown_at (grown_at (grown_at (World.grownBy.refl w (some b)) 11 (fv (addW s.pt g))) 2 (.int .i64 (s.size + (whole (addW s.pt g) : Int)))) 11 (fv (subW (addW s.pt g) (I (whole (addW s.pt g)))))))
  have w1 : IntKind.i64.wrap (s.size + (whole (addW s.pt g) : Int)) = s.size + (whole (addW s.pt g) : Int) := by
    generalize whole (addW s.pt g) = q at *
    rw [IntKind.wrap_i64]; omega
  clear h hp hg ha hw hr hz
  generalize winF g s = s' at *
  rw [← ei] at si F
  clear ei
  generalize subW (addW s.pt g) (floatOfInt .f64 ((whole (addW s.pt g) : Nat) : Int)) = z3 at *
  generalize ((whole (addW s.pt g) : Nat) : Int) = z2 at *
  generalize addW s.pt g = z1 at *
  generalize s.pt = pt at *
  generalize s.size = sz at *
  go_enter Try.func52, Try.ntmps52
  go_wp2_with fail
  refine bodyPost_end (results_none rfl _ _ _) rfl ?_
  exact ⟨rfl, (unhide F).1, (unhide F).2⟩
end Go.Proofs.Ythpnbajhogoinaa
