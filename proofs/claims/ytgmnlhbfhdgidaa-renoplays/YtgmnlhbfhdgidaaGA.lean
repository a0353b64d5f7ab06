/- Sizes and times; a controller in memory. -/
import Derived.Test.YtgmnlhbfhdgidaaHA
import Derived.Deep.RegionHeld3
import Derived.Deep.RegionHeldLaw
import Derived.BigRegion
import Derived.BigQuiet
import Derived.WalkKit
namespace Go.Proofs.Ytgmnlhbfhdgidaa
open Go.RowKit
set_option linter.unusedVariables false
set_option maxRecDepth 100000
set_option maxHeartbeats 1000000

abbrev ptr (b : Nat) : Value := .pointer (some ⟨b, 0, none⟩)
/-- A time, taken into 0 to MaxTime. -/
def sp (x : Int) : Int := min (max x 0) 1125899906842624
theorem sp_b (x : Int) : 0 ≤ sp x ∧ sp x ≤ 1125899906842624 := by unfold sp; omega
theorem sp_sp (x : Int) : sp (sp x) = sp x := by unfold sp; omega
/-- A size, taken into 0 to 65535. -/
def szz (x : Int) : Int := min (max x 0) 65535
theorem szb (x : Int) : 0 ≤ szz x ∧ szz x ≤ 65535 := by unfold szz; omega
theorem szsz (x : Int) : szz (szz x) = szz x := by unfold szz; omega
theorem szid {x : Int} (h : 0 ≤ x ∧ x ≤ 65535) : szz x = x := by unfold szz; omega
theorem sp_id {x : Int} (h : 0 ≤ x ∧ x ≤ 1125899906842624) : sp x = x := by unfold sp; omega

theorem ret_eq {x y : Int} (h : Hid (x = y)) : Ending.returned (.int .i64 y) = Ending.returned (.int .i64 x) := by rw [unhide h]
theorem ret_beq' {x y : Bool} (h : Hid (x = y)) : Ending.returned (.bool y) = Ending.returned (.bool x) := by rw [unhide h]
abbrev inT (x : Int) : Prop := 0 ≤ x ∧ x ≤ 1125899906842624

theorem moment_any (x : Int) (w : World) : Calls Try.prog 39 #[.int .i64 x] w fun e w' => e = .returned (.int .i64 (sp x)) ∧ w' = w := by
  by_cases h1 : 0 ≤ x
  · by_cases h2 : x ≤ 1125899906842624
    · have E : Hid (sp x = x) := by show sp x = _; unfold sp; omega
      go_enter Try.func39, Try.ntmps39
      go_wp2
      go_ret
      exact ⟨ret_eq E, rfl⟩
    · have E : Hid (sp x = 1125899906842624) := by show sp x = _; unfold sp; omega
      go_enter Try.func39, Try.ntmps39
      go_wp2
      go_ret
      exact ⟨ret_eq E, rfl⟩
  · have E : Hid (sp x = 0) := by show sp x = _; unfold sp; omega
    go_enter Try.func39, Try.ntmps39
    go_wp2
    go_ret
    exact ⟨ret_eq E, rfl⟩
theorem amount_any (x : Int) (w : World) : Calls Try.prog 34 #[.int .i64 x] w fun e w' => e = .returned (.int .i64 (szz x)) ∧ w' = w := by
  by_cases h1 : 0 ≤ x
  · by_cases h2 : x ≤ 65535
    · have E : Hid (szz x = x) := by show szz x = _; unfold szz; omega
      go_enter Try.func34, Try.ntmps34
      go_wp2
      go_ret
      exact ⟨ret_eq E, rfl⟩
    · have E : Hid (szz x = 65535) := by show szz x = _; unfold szz; omega
      go_enter Try.func34, Try.ntmps34
      go_wp2
      go_ret
      exact ⟨ret_eq E, rfl⟩
  · have E : Hid (szz x = 0) := by show szz x = _; unfold szz; omega
    go_enter Try.func34, Try.ntmps34
    go_wp2
    go_ret
    exact ⟨ret_eq E, rfl⟩
theorem time_any (x : Int) (w : World) : Calls Try.prog 24 #[.int .i64 x] w fun e w' => e = .returned (.int .i64 (sp x)) ∧ w' = w := by
  by_cases h1 : x < 0
  · have E : Hid (sp x = 0) := by show sp x = _; unfold sp; omega
    go_enter Try.func24, Try.ntmps24
    go_wp2
    go_ret
    exact ⟨ret_eq E, rfl⟩
  · by_cases h2 : (1125899906842624 : Int) < x
    · have E : Hid (sp x = 1125899906842624) := by show sp x = _; unfold sp; omega
      go_enter Try.func24, Try.ntmps24
      go_wp2
      go_ret
      exact ⟨ret_eq E, rfl⟩
    · have E : Hid (sp x = x) := by show sp x = _; unfold sp; omega
      go_enter Try.func24, Try.ntmps24
      go_wp2
      go_ret
      exact ⟨ret_eq E, rfl⟩
theorem size_any (x : Int) (w : World) : Calls Try.prog 22 #[.int .i64 x] w fun e w' => e = .returned (.int .i64 (szz x)) ∧ w' = w := by
  by_cases h1 : x < 0
  · have E : Hid (szz x = 0) := by show szz x = _; unfold szz; omega
    go_enter Try.func22, Try.ntmps22
    go_wp2
    go_ret
    exact ⟨ret_eq E, rfl⟩
  · by_cases h2 : (65535 : Int) < x
    · have E : Hid (szz x = 65535) := by show szz x = _; unfold szz; omega
      go_enter Try.func22, Try.ntmps22
      go_wp2
      go_ret
      exact ⟨ret_eq E, rfl⟩
    · have E : Hid (szz x = x) := by show szz x = _; unfold szz; omega
      go_enter Try.func22, Try.ntmps22
      go_wp2
      go_ret
      exact ⟨ret_eq E, rfl⟩

/-- What a controller knows. -/
structure Cs where
  mtu : Int
  clock : Int
  size : Int
  thr : Int
  flight : Int
  began : Int
  rest : Int
def csc (s : Cs) : Array Value := #[.int .i64 s.mtu, .int .i64 s.clock, .int .i64 s.size, .int .i64 s.thr, .int .i64 s.flight, .int .i64 s.began, .int .i64 s.rest]
def rcc (s : Cs) : Array Value := #[.int .i64 s.mtu, .int .i64 s.clock, .int .i64 s.rest, .int .i64 s.size, .int .i64 s.thr, .int .i64 s.flight, .int .i64 s.began]
def vwc (s : Cs) : Array Value := #[.int .i64 s.size, .int .i64 s.thr, .int .i64 s.flight, .int .i64 s.began]
/-- The program's, in memory. -/
def CB (w : World) (b : Nat) (s : Cs) : Prop := Blk w b (csc s) 56

/-- What a controller keeps, behind n steps at most. -/
structure Cs.Ok (n : Nat) (s : Cs) : Prop where
  m : 1200 ≤ s.mtu ∧ s.mtu ≤ 9000
  c : inT s.clock
  z : 2 * s.mtu ≤ s.size ∧ s.size + s.rest ≤ 20000 + 65535 * n
  f : 0 ≤ s.flight ∧ s.flight ≤ 65535 * n
  b : -1 ≤ s.began ∧ s.began ≤ s.clock
  r : 0 ≤ s.rest ∧ s.rest < s.size

theorem CB.full {w : World} {b : Nat} {s : Cs} (h : CB w b s) : (∀ j, w.frozen? ⟨b, j, none⟩ = false) ∧ w.cell? ⟨b, 0, none⟩ = some (.int .i64 s.mtu) ∧ w.cell? ⟨b, 1, none⟩ = some (.int .i64 s.clock) ∧ w.cell? ⟨b, 2, none⟩ = some (.int .i64 s.size) ∧ w.cell? ⟨b, 3, none⟩ = some (.int .i64 s.thr) ∧ w.cell? ⟨b, 4, none⟩ = some (.int .i64 s.flight) ∧ w.cell? ⟨b, 5, none⟩ = some (.int .i64 s.began) ∧ w.cell? ⟨b, 6, none⟩ = some (.int .i64 s.rest) :=
  ⟨fun j => h.thaw j, h.cell 0 _ rfl, h.cell 1 _ rfl, h.cell 2 _ rfl, h.cell 3 _ rfl, h.cell 4 _ rfl, h.cell 5 _ rfl, h.cell 6 _ rfl⟩
theorem CB.grown {w W : World} {b : Nat} {s : Cs} (h : CB w b s) (g : w.grownBy W none) : CB W b s := Blk.grown h g
theorem Try.sizeW : (Try.prog.info? 32).map (·.size) = some 4 := by kernel_rfl
theorem Try.sizeC : (Try.prog.info? 56).map (·.size) = some 7 := by kernel_rfl

/-- How a window rises by whole windows. -/
def upF (m : Int) : Nat → Int × Int → Int × Int
  | 0, p => p
  | n + 1, p => if p.2 ≤ p.1 then upF m n (p.1 - p.2, p.2 + m) else p
theorem upF_end (m : Int) (n : Nat) (p : Int × Int) (h : p.1 < p.2) : upF m n p = p := by
  cases n with
  | zero => rfl
  | succ n => show (if p.2 ≤ p.1 then _ else p) = p; rw [if_neg (by omega)]
theorem upF_step (m : Int) (n : Nat) (p : Int × Int) (h : p.2 ≤ p.1) : upF m (n + 1) p = upF m n (p.1 - p.2, p.2 + m) := by
  show (if p.2 ≤ p.1 then _ else p) = _; rw [if_pos h]
theorem upF_ok (m : Int) (hm : 0 < m) : ∀ (n : Nat) (p : Int × Int), p.1 < n → 2 * m ≤ p.2 → 0 ≤ p.1 → 0 ≤ (upF m n p).1 ∧ (upF m n p).1 < (upF m n p).2 ∧ p.2 ≤ (upF m n p).2 ∧ (upF m n p).1 + (upF m n p).2 ≤ p.1 + p.2
  | 0, p, h, _, h0 => by omega
  | n + 1, p, h, h2, h0 => by
    by_cases c : p.2 ≤ p.1
    · rw [upF_step m n p c]
      obtain ⟨i1, i2, i3, i4⟩ := upF_ok m hm n (p.1 - p.2, p.2 + m) (by show p.1 - p.2 < (n : Int); omega) (by show 2 * m ≤ p.2 + m; omega) (by show 0 ≤ p.1 - p.2; omega)
      refine ⟨i1, i2, ?_, ?_⟩
      · have : p.2 + m ≤ (upF m n (p.1 - p.2, p.2 + m)).2 := i3
        omega
      · have : _ ≤ (p.1 - p.2) + (p.2 + m) := i4
        omega
    · rw [upF_end m (n + 1) p (by omega)]
      omega
/-- By so many bytes. -/
def riseF (m r s : Int) : Int × Int := upF m (r.toNat + 1) (r, s)

def tickF (t : Int) (s : Cs) : Cs := { s with clock := max s.clock (sp t) }
def landF (z : Int) (s : Cs) : Cs := { s with flight := max (s.flight - szz z) 0 }
def sentF (z : Int) (s : Cs) : Cs := { s with flight := s.flight + szz z }
def aheadF (t : Int) (s : Cs) : Prop := 0 ≤ s.began ∧ sp t ≤ s.began
instance (t : Int) (s : Cs) : Decidable (aheadF t s) := by unfold aheadF; exact inferInstance
def aheadB (t : Int) (s : Cs) : Bool := decide (aheadF t s)
def raiseF (z : Int) (s : Cs) : Cs := if s.size < s.thr then { s with size := s.size + z } else { s with size := (riseF s.mtu (s.rest + z) s.size).2, rest := (riseF s.mtu (s.rest + z) s.size).1 }
def ackF (now sent z : Int) (l : Bool) (s : Cs) : Cs := if l = true ∨ aheadF sent s then landF z (tickF now s) else raiseF (szz z) (landF z (tickF now s))
def eventF (now sent : Int) (s : Cs) : Cs := if aheadF sent s then tickF now s else { s with clock := max s.clock (sp now), began := max s.clock (sp now), thr := s.size / 2, size := max (s.size / 2) (2 * s.mtu), rest := 0 }
def collF (s : Cs) : Cs := { s with size := 2 * s.mtu, began := -1, rest := 0 }

theorem Cs.Ok.up {n k : Nat} {s : Cs} (h : s.Ok n) (hk : n ≤ k) : s.Ok k := ⟨h.m, h.c, ⟨h.z.1, by have := h.z.2; omega⟩, ⟨h.f.1, by have := h.f.2; omega⟩, h.b, h.r⟩
theorem tick_ok {n : Nat} {s : Cs} (h : s.Ok n) (t : Int) : (tickF t s).Ok n := by
  have := sp_b t
  have hc := h.c
  have hb := h.b
  exact ⟨h.m, by show 0 ≤ max s.clock (sp t) ∧ max s.clock (sp t) ≤ _; omega, h.z, h.f, by show -1 ≤ s.began ∧ s.began ≤ max s.clock (sp t); omega, h.r⟩
theorem land_ok {n : Nat} {s : Cs} (h : s.Ok n) (z : Int) : (landF z s).Ok n := by
  have := szb z
  have hf := h.f
  exact ⟨h.m, h.c, h.z, by show 0 ≤ max (s.flight - szz z) 0 ∧ max (s.flight - szz z) 0 ≤ _; omega, h.b, h.r⟩
theorem sent_ok {n : Nat} {s : Cs} (h : s.Ok n) (z : Int) : (sentF z s).Ok (n + 1) := by
  have := szb z
  have hf := h.f
  have h' := h.up (Nat.le_succ n)
  exact ⟨h.m, h.c, h'.z, by show 0 ≤ s.flight + szz z ∧ s.flight + szz z ≤ _; omega, h.b, h.r⟩
theorem rise_ok {m r s : Int} (hm : 0 < m) (h2 : 2 * m ≤ s) (h0 : 0 ≤ r) : 0 ≤ (riseF m r s).1 ∧ (riseF m r s).1 < (riseF m r s).2 ∧ s ≤ (riseF m r s).2 ∧ (riseF m r s).1 + (riseF m r s).2 ≤ r + s :=
  upF_ok m hm (r.toNat + 1) (r, s) (by show r < ((r.toNat + 1 : Nat) : Int); omega) h2 h0
theorem raise_ok {n : Nat} {s : Cs} (h : s.Ok n) (z : Int) (hz : 0 ≤ z ∧ z ≤ 65535) : (raiseF z s).Ok (n + 1) := by
  have h' := h.up (Nat.le_succ n)
  have hs := h.z
  have hr := h.r
  have hm := h.m
  unfold raiseF
  split
  · exact ⟨h.m, h.c, by show 2 * s.mtu ≤ s.size + z ∧ s.size + z + s.rest ≤ _; omega, h'.f, h.b, by show 0 ≤ s.rest ∧ s.rest < s.size + z; omega⟩
  · obtain ⟨i1, i2, i3, i4⟩ := rise_ok (m := s.mtu) (r := s.rest + z) (s := s.size) (by omega) hs.1 (by omega)
    exact ⟨h.m, h.c, by show 2 * s.mtu ≤ (riseF s.mtu (s.rest + z) s.size).2 ∧ (riseF s.mtu (s.rest + z) s.size).2 + (riseF s.mtu (s.rest + z) s.size).1 ≤ _; omega, h'.f, h.b, ⟨i1, i2⟩⟩
theorem ack_ok {n : Nat} {s : Cs} (h : s.Ok n) (now sent z : Int) (l : Bool) : (ackF now sent z l s).Ok (n + 1) := by
  unfold ackF
  split
  · exact (land_ok (tick_ok h now) z).up (Nat.le_succ n)
  · exact raise_ok (land_ok (tick_ok h now) z) _ (szb z)
theorem event_ok {n : Nat} {s : Cs} (h : s.Ok n) (now sent : Int) : (eventF now sent s).Ok n := by
  have := sp_b now
  have hc := h.c
  have hs := h.z
  have hr := h.r
  have hm := h.m
  have hb := h.b
  unfold eventF
  split
  · exact tick_ok h now
  · exact ⟨h.m, by show 0 ≤ max s.clock (sp now) ∧ max s.clock (sp now) ≤ _; omega, by show 2 * s.mtu ≤ max (s.size / 2) (2 * s.mtu) ∧ max (s.size / 2) (2 * s.mtu) + 0 ≤ _; omega, h.f, by show -1 ≤ max s.clock (sp now) ∧ max s.clock (sp now) ≤ max s.clock (sp now); omega, by show 0 ≤ (0 : Int) ∧ 0 < max (s.size / 2) (2 * s.mtu); omega⟩
theorem coll_ok {n : Nat} {s : Cs} (h : s.Ok n) : (collF s).Ok n := by
  have hs := h.z
  have hr := h.r
  have hm := h.m
  have hc := h.c
  exact ⟨h.m, h.c, by show 2 * s.mtu ≤ 2 * s.mtu ∧ 2 * s.mtu + 0 ≤ _; omega, h.f, by show -1 ≤ (-1 : Int) ∧ (-1 : Int) ≤ s.clock; omega, by show 0 ≤ (0 : Int) ∧ 0 < 2 * s.mtu; omega⟩
end Go.Proofs.Ytgmnlhbfhdgidaa
