/- Controllers that a call has made; does. -/
import Derived.Test.YthpnbajhogoinaaIP
import Derived.Test.YthpnbajhogoinaaIN
namespace Go.Proofs.Ythpnbajhogoinaa
open Go.RowKit Fl
set_option linter.unusedVariables false
set_option maxRecDepth 100000
set_option maxHeartbeats 4000000

/-- A step of a script. -/
structure OpE where
  kind : Int
  h : Int
  now : Int
  sent : Int
  size : Int
  lim : Bool
structure OpE.Ok (x : OpE) : Prop where
  k : i64B x.kind
  h : i64B x.h
  w : i64B x.now
  n : i64B x.sent
  m : i64B x.size
def OpE.cs (x : OpE) : List Value := [.int .i64 x.kind, .int .i64 x.h, .int .i64 x.now, .int .i64 x.sent, .int .i64 x.size, .bool x.lim]
def opc (y : OpE) : Array Value := #[.int .i64 y.kind, .int .i64 y.h, .int .i64 y.now, .int .i64 y.sent, .int .i64 y.size, .bool y.lim]

def doesF (y : OpE) (s : Cs) : Cs :=
  if y.kind = 1 then sentF y.size s
  else if y.kind = 2 then ackF y.now y.sent y.size y.lim s
  else if y.kind = 3 then landF y.size s
  else if y.kind = 4 then landF y.size s
  else if y.kind = 5 then eventF y.now y.sent s
  else if y.kind = 6 then collF s
  else s
def didF (y : OpE) (s : Cs) : Bool := if y.kind = 5 then !aheadB y.sent s else false

theorem does_ok {n : Nat} {s : Cs} (h : s.Ok n) (hn : n ≤ 9999) (y : OpE) : (doesF y s).Ok (n + 1) := by
  unfold doesF
  have u := Nat.le_succ n
  split
  · exact sent_ok h _
  split
  · exact ack_ok h hn _ _ _ _
  split
  · exact (land_ok h _).up u
  split
  · exact (land_ok h _).up u
  split
  · exact (event_ok h (by omega) _ _).up u
  split
  · exact (coll_ok h).up u
  · exact h.up u

theorem ret_beqq {x y : Bool} (h : Hid (x = y)) : Ending.returned (.bool y) = Ending.returned (.bool x) := by rw [unhide h]
theorem grown_new {w wr wr' : World} {b : Nat} (h : w.grownBy wr none) (g : wr.grownBy wr' (some b)) (hb : w.heap.size ≤ b) : w.grownBy wr' none :=
  ⟨g.os.trans h.os, g.tape.trans h.tape, g.output.trans h.output, Nat.le_trans h.size g.size, fun i hi _ => (g.block i (Nat.lt_of_lt_of_le hi h.size) (by intro e; cases e; omega)).trans (h.block i hi (by simp))⟩

theorem does_any (b : Nat) (s : Cs) (y : OpE) (w : World) (h : CB w b s) (n : Nat) (ok : s.Ok n) (hn : n ≤ 9999) :
    Calls Try.prog 15 #[ptr b, .agg (opc y)] w fun e w' => e = .returned (.bool (didF y s)) ∧ CB w' b (doesF y s) ∧ w.grownBy w' (some b) := by
  have ga := World.grownBy_alloc w (.cells (opc y) 40) (some b)
  have h0 : CB (w.alloc (.cells (opc y) 40)) b s := h.alloc _
  have hf : 0 ≤ s.flight ∧ s.flight ≤ 1000000000000 := ⟨ok.f.1, by have := ok.f.2; omega⟩
  have X1 := sent_any b s y.size _ h0 hf
  have X2 := acked_any b s y.now y.sent y.size y.lim _ h0 n ok hn
  have X3 := lost_any b s y.size _ h0 hf
  have X4 := dropped_any b s y.size _ h0 hf
  have X5 := event_any b s y.now y.sent _ h0 n ok hn
  have X6 := collapse_any b s _ h0 ok.m
  have H0 := hide h0
  have GA := hide ga
  have GT := hide (fun W (g : (w.alloc (.cells (opc y) 40)).grownBy W (some b)) => gtrans ga g)
  clear h ok hf hn h0 ga
  obtain ⟨kd, hh, nw, st, sx, lm⟩ := y
  unfold opc at *
  dsimp only at *
  by_cases k1 : kd = 1
  · subst k1
    have E : Hid (didF ⟨1, hh, nw, st, sx, lm⟩ s = false) := by show _ = _; simp [didF]
    have D : Hid (doesF ⟨1, hh, nw, st, sx, lm⟩ s = sentF sx s) := by show _ = _; simp [doesF]
    clear X2 X3 X4 X5 X6
    go_enter Try.func15, Try.ntmps15
    go_wp2_with fail
    refine X1.mono ?_
    rintro e W ⟨rfl, h1, g1⟩
    have FF := hide (And.intro h1 (unhide GT _ g1))
    clear X1 h1 g1
    go_wp2_with fail
    go_ret
    exact ⟨ret_beqq E, by rw [unhide D]; exact (unhide FF).1, (unhide FF).2⟩
  by_cases k2 : kd = 2
  · subst k2
    have E : Hid (didF ⟨2, hh, nw, st, sx, lm⟩ s = false) := by show _ = _; simp [didF]
    have D : Hid (doesF ⟨2, hh, nw, st, sx, lm⟩ s = ackF nw st sx lm s) := by show _ = _; simp [doesF]
    clear X1 X3 X4 X5 X6
    go_enter Try.func15, Try.ntmps15
    go_wp2_with fail
    refine X2.mono ?_
    rintro e W ⟨rfl, h1, g1⟩
    have FF := hide (And.intro h1 (unhide GT _ g1))
    clear X2 h1 g1
    go_wp2_with fail
    go_ret
    exact ⟨ret_beqq E, by rw [unhide D]; exact (unhide FF).1, (unhide FF).2⟩
  by_cases k3 : kd = 3
  · subst k3
    have E : Hid (didF ⟨3, hh, nw, st, sx, lm⟩ s = false) := by show _ = _; simp [didF]
    have D : Hid (doesF ⟨3, hh, nw, st, sx, lm⟩ s = landF sx s) := by show _ = _; simp [doesF]
    clear X1 X2 X4 X5 X6
    go_enter Try.func15, Try.ntmps15
    go_wp2_with fail
    refine X3.mono ?_
    rintro e W ⟨rfl, h1, g1⟩
    have FF := hide (And.intro h1 (unhide GT _ g1))
    clear X3 h1 g1
    go_wp2_with fail
    go_ret
    exact ⟨ret_beqq E, by rw [unhide D]; exact (unhide FF).1, (unhide FF).2⟩
  by_cases k4 : kd = 4
  · subst k4
    have E : Hid (didF ⟨4, hh, nw, st, sx, lm⟩ s = false) := by show _ = _; simp [didF]
    have D : Hid (doesF ⟨4, hh, nw, st, sx, lm⟩ s = landF sx s) := by show _ = _; simp [doesF]
    clear X1 X2 X3 X5 X6
    go_enter Try.func15, Try.ntmps15
    go_wp2_with fail
    refine X4.mono ?_
    rintro e W ⟨rfl, h1, g1⟩
    have FF := hide (And.intro h1 (unhide GT _ g1))
    clear X4 h1 g1
    go_wp2_with fail
    go_ret
    exact ⟨ret_beqq E, by rw [unhide D]; exact (unhide FF).1, (unhide FF).2⟩
  by_cases k5 : kd = 5
  · subst k5
    have E : Hid (didF ⟨5, hh, nw, st, sx, lm⟩ s = !aheadB st s) := by show _ = _; simp [didF]
    have D : Hid (doesF ⟨5, hh, nw, st, sx, lm⟩ s = eventF nw st s) := by show _ = _; simp [doesF]
    clear X1 X2 X3 X4 X6
    go_enter Try.func15, Try.ntmps15
    go_wp2_with fail
    refine X5.mono ?_
    rintro e W ⟨rfl, h1, g1⟩
    have FF := hide (And.intro h1 (unhide GT _ g1))
    clear X5 h1 g1
    go_wp2_with fail
    go_ret
    exact ⟨ret_beqq E, by rw [unhide D]; exact (unhide FF).1, (unhide FF).2⟩
  by_cases k6 : kd = 6
  · subst k6
    have E : Hid (didF ⟨6, hh, nw, st, sx, lm⟩ s = false) := by show _ = _; simp [didF]
    have D : Hid (doesF ⟨6, hh, nw, st, sx, lm⟩ s = collF s) := by show _ = _; simp [doesF]
    clear X1 X2 X3 X4 X5
    go_enter Try.func15, Try.ntmps15
    go_wp2_with fail
    refine X6.mono ?_
    rintro e W ⟨rfl, h1, g1⟩
    have FF := hide (And.intro h1 (unhide GT _ g1))
    clear X6 h1 g1
    go_wp2_with fail
    go_ret
    exact ⟨ret_beqq E, by rw [unhide D]; exact (unhide FF).1, (unhide FF).2⟩
  have E : Hid (didF ⟨kd, hh, nw, st, sx, lm⟩ s = false) := by show _ = _; simp [didF, k5]
  have D : Hid (doesF ⟨kd, hh, nw, st, sx, lm⟩ s = s) := by show _ = _; simp [doesF, k1, k2, k3, k4, k5, k6]
  clear X1 X2 X3 X4 X5 X6
  go_enter Try.func15, Try.ntmps15
  go_wp2_with fail
  go_ret
  exact ⟨ret_beqq E, by rw [unhide D]; exact unhide H0, unhide GA⟩
end Go.Proofs.Ythpnbajhogoinaa
