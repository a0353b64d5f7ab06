/- Sizes and times; a controller in memory. -/
import Derived.Test.YthpnbajhogoinaaHA
import Derived.Test.YthpnbajhogoinaaID
import Derived.WalkLawsBesides
import Derived.Deep.RegionHeld3
import Derived.Deep.RegionHeldLaw
import Derived.BigRegion
import Derived.BigQuiet
import Derived.WalkKit
namespace Go.Proofs.Ythpnbajhogoinaa
open Go.RowKit Fl
set_option linter.unusedVariables false
set_option maxRecDepth 100000
set_option maxHeartbeats 1000000

abbrev ptr (b : Nat) : Value := .pointer (some ⟨b, 0, none⟩)
/-- A time, taken into 0 to MaxTime. -/
def sp (x : Int) : Int := min (max x 0) 1125899906842624
theorem sp_b (x : Int) : 0 ≤ sp x ∧ sp x ≤ 1125899906842624 := by unfold sp; omega
theorem sp_sp (x : Int) : sp (sp x) = sp x := by unfold sp; omega
/-- A size, taken into 0 to 65535. -/
def szz (x : Int) : Int := min (max x 0) 65535
theorem szb (x : Int) : 0 ≤ szz x ∧ szz x ≤ 65535 := by unfold szz; omega
theorem szsz (x : Int) : szz (szz x) = szz x := by unfold szz; omega
theorem szid {x : Int} (h : 0 ≤ x ∧ x ≤ 65535) : szz x = x := by unfold szz; omega
theorem sp_id {x : Int} (h : 0 ≤ x ∧ x ≤ 1125899906842624) : sp x = x := by unfold sp; omega

theorem ret_eq {x y : Int} (h : Hid (x = y)) : Ending.returned (.int .i64 y) = Ending.returned (.int .i64 x) := by rw [unhide h]
theorem ret_beq' {x y : Bool} (h : Hid (x = y)) : Ending.returned (.bool y) = Ending.returned (.bool x) := by rw [unhide h]
abbrev inT (x : Int) : Prop := 0 ≤ x ∧ x ≤ 1125899906842624

theorem moment_any (x : Int) (w : World) : Calls Try.prog 46 #[.int .i64 x] w fun e w' => e = .returned (.int .i64 (sp x)) ∧ w' = w := by
  by_cases h1 : 0 ≤ x
  · by_cases h2 : x ≤ 1125899906842624
    · have E : Hid (sp x = x) := by show sp x = _; unfold sp; omega
      go_enter Try.func46, Try.ntmps46
      go_wp2
      go_ret
      exact ⟨ret_eq E, rfl⟩
    · have E : Hid (sp x = 1125899906842624) := by show sp x = _; unfold sp; omega
      go_enter Try.func46, Try.ntmps46
      go_wp2
      go_ret
      exact ⟨ret_eq E, rfl⟩
  · have E : Hid (sp x = 0) := by show sp x = _; unfold sp; omega
    go_enter Try.func46, Try.ntmps46
    go_wp2
    go_ret
    exact ⟨ret_eq E, rfl⟩
theorem amount_any (x : Int) (w : World) : Calls Try.prog 37 #[.int .i64 x] w fun e w' => e = .returned (.int .i64 (szz x)) ∧ w' = w := by
  by_cases h1 : 0 ≤ x
  · by_cases h2 : x ≤ 65535
    · have E : Hid (szz x = x) := by show szz x = _; unfold szz; omega
      go_enter Try.func37, Try.ntmps37
      go_wp2
      go_ret
      exact ⟨ret_eq E, rfl⟩
    · have E : Hid (szz x = 65535) := by show szz x = _; unfold szz; omega
      go_enter Try.func37, Try.ntmps37
      go_wp2
      go_ret
      exact ⟨ret_eq E, rfl⟩
  · have E : Hid (szz x = 0) := by show szz x = _; unfold szz; omega
    go_enter Try.func37, Try.ntmps37
    go_wp2
    go_ret
    exact ⟨ret_eq E, rfl⟩
theorem time_any (x : Int) (w : World) : Calls Try.prog 24 #[.int .i64 x] w fun e w' => e = .returned (.int .i64 (sp x)) ∧ w' = w := by
  by_cases h1 : x < 0
  · have E : Hid (sp x = 0) := by show sp x = _; unfold sp; omega
    go_enter Try.func24, Try.ntmps24
    go_wp2
    go_ret
    exact ⟨ret_eq E, rfl⟩
  · by_cases h2 : (1125899906842624 : Int) < x
    · have E : Hid (sp x = 1125899906842624) := by show sp x = _; unfold sp; omega
      go_enter Try.func24, Try.ntmps24
      go_wp2
      go_ret
      exact ⟨ret_eq E, rfl⟩
    · have E : Hid (sp x = x) := by show sp x = _; unfold sp; omega
      go_enter Try.func24, Try.ntmps24
      go_wp2
      go_ret
      exact ⟨ret_eq E, rfl⟩
theorem size_any (x : Int) (w : World) : Calls Try.prog 20 #[.int .i64 x] w fun e w' => e = .returned (.int .i64 (szz x)) ∧ w' = w := by
  by_cases h1 : x < 0
  · have E : Hid (szz x = 0) := by show szz x = _; unfold szz; omega
    go_enter Try.func20, Try.ntmps20
    go_wp2
    go_ret
    exact ⟨ret_eq E, rfl⟩
  · by_cases h2 : (65535 : Int) < x
    · have E : Hid (szz x = 65535) := by show szz x = _; unfold szz; omega
      go_enter Try.func20, Try.ntmps20
      go_wp2
      go_ret
      exact ⟨ret_eq E, rfl⟩
    · have E : Hid (szz x = x) := by show szz x = _; unfold szz; omega
      go_enter Try.func20, Try.ntmps20
      go_wp2
      go_ret
      exact ⟨ret_eq E, rfl⟩

/-- What a controller knows. -/
structure Cs where
  mtu : Int
  clock : Int
  size : Int
  thr : Int
  flight : Int
  began : Int
  pk : Nat
  ep : Int
  og : Nat
  wt : Int
  pl : Nat
  pt : Nat
abbrev fv (x : Nat) : Value := .float .f64 x
def csc (s : Cs) : Array Value := #[.int .i64 s.mtu, .int .i64 s.clock, .int .i64 s.size, .int .i64 s.thr, .int .i64 s.flight, .int .i64 s.began, fv s.pk, .int .i64 s.ep, fv s.og, .int .i64 s.wt, fv s.pl, fv s.pt]
def rcc (s : Cs) : Array Value := #[.int .i64 s.mtu, .int .i64 s.clock, .int .i64 s.ep, .int .i64 s.wt, fv s.pk, fv s.og, fv s.pl, fv s.pt, .int .i64 s.size, .int .i64 s.thr, .int .i64 s.flight, .int .i64 s.began]
def vwc (s : Cs) : Array Value := #[.int .i64 s.size, .int .i64 s.thr, .int .i64 s.flight, .int .i64 s.began]
/-- The program's, in memory. -/
def CB (w : World) (b : Nat) (s : Cs) : Prop := Blk w b (csc s) 62

/-- What a controller keeps, behind n steps at most. -/
structure Cs.Ok (n : Nat) (s : Cs) : Prop where
  m : 1200 ≤ s.mtu ∧ s.mtu ≤ 9000
  c : inT s.clock
  z : 2 * s.mtu ≤ s.size ∧ s.size ≤ 20000 + 65535 * n
  f : 0 ≤ s.flight ∧ s.flight ≤ 65535 * n
  b : -1 ≤ s.began ∧ s.began ≤ s.clock
  e : -1 ≤ s.ep ∧ s.ep ≤ s.clock
  p : s.pk ≤ I (20000 + 65535 * n)
  o : s.og ≤ I (20000 + 65535 * n)
  w : 0 ≤ s.wt ∧ s.wt ≤ 68719476736
  l : s.pl ≤ I (20000 + 75000 * n)
  l0 : 0 ≤ s.ep → 0 < s.pl
  t : s.pt ≤ I 1

theorem CB.full {w : World} {b : Nat} {s : Cs} (h : CB w b s) : (∀ j, w.frozen? ⟨b, j, none⟩ = false) ∧ w.cell? ⟨b, 0, none⟩ = some (.int .i64 s.mtu) ∧ w.cell? ⟨b, 1, none⟩ = some (.int .i64 s.clock) ∧ w.cell? ⟨b, 2, none⟩ = some (.int .i64 s.size) ∧ w.cell? ⟨b, 3, none⟩ = some (.int .i64 s.thr) ∧ w.cell? ⟨b, 4, none⟩ = some (.int .i64 s.flight) ∧ w.cell? ⟨b, 5, none⟩ = some (.int .i64 s.began) :=
  ⟨fun j => h.thaw j, h.cell 0 _ rfl, h.cell 1 _ rfl, h.cell 2 _ rfl, h.cell 3 _ rfl, h.cell 4 _ rfl, h.cell 5 _ rfl⟩
theorem CB.more {w : World} {b : Nat} {s : Cs} (h : CB w b s) : w.cell? ⟨b, 6, none⟩ = some (fv s.pk) ∧ w.cell? ⟨b, 7, none⟩ = some (.int .i64 s.ep) ∧ w.cell? ⟨b, 8, none⟩ = some (fv s.og) ∧ w.cell? ⟨b, 9, none⟩ = some (.int .i64 s.wt) ∧ w.cell? ⟨b, 10, none⟩ = some (fv s.pl) ∧ w.cell? ⟨b, 11, none⟩ = some (fv s.pt) :=
  ⟨h.cell 6 _ rfl, h.cell 7 _ rfl, h.cell 8 _ rfl, h.cell 9 _ rfl, h.cell 10 _ rfl, h.cell 11 _ rfl⟩
theorem CB.grown {w W : World} {b : Nat} {s : Cs} (h : CB w b s) (g : w.grownBy W none) : CB W b s := Blk.grown h g
theorem Try.sizeW : (Try.prog.info? 33).map (·.size) = some 4 := by kernel_rfl
theorem Try.sizeC : (Try.prog.info? 62).map (·.size) = some 12 := by kernel_rfl
theorem Try.sizeV : (Try.prog.info? 59).map (·.size) = some 4 := by kernel_rfl

def tickF (t : Int) (s : Cs) : Cs := { s with clock := max s.clock (sp t) }
def landF (z : Int) (s : Cs) : Cs := { s with flight := max (s.flight - szz z) 0 }
def sentF (z : Int) (s : Cs) : Cs := { s with flight := s.flight + szz z }
abbrev aheadF (t : Int) (s : Cs) : Prop := 0 ≤ s.began ∧ sp t ≤ s.began
def aheadB (t : Int) (s : Cs) : Bool := decide (aheadF t s)
/-- The window as a word. -/
def sI (s : Cs) : Nat := I s.size.toNat
def leaveF (s : Cs) : Cs := { s with ep := -1, og := 0, wt := 0, pl := 0, pt := 0 }
def beginF (s : Cs) : Cs := if sI s < s.pk then { s with ep := s.clock, og := s.pk, wt := (kOf (subW s.pk (sI s)) s.mtu.toNat : Int), pl := sI s } else { s with ep := s.clock, og := sI s, wt := 0, pl := sI s }
def startF (s : Cs) : Cs := if s.ep < 0 then beginF s else s
def goF (g : Nat) (s : Cs) : Cs := { s with pl := addW s.pl (gain2 s.pl s.og g) }
def tgF (s : Cs) : Nat := tgtW s.og s.pl (s.clock - s.ep - s.wt) (sI s) s.mtu.toNat
def winF (g : Nat) (s : Cs) : Cs := { s with size := s.size + (whole (addW s.pt g) : Int), pt := subW (addW s.pt g) (I (whole (addW s.pt g))) }
def gnF (z : Int) (s : Cs) : Nat := gainW z.toNat s.mtu.toNat (sI s)
def climbG (z : Int) (s : Cs) : Cs := winF (moreW (tgF (goF (gnF z s) s)) (sI s) z.toNat) (goF (gnF z s) s)
def climbF (z : Int) (s : Cs) : Cs := climbG z (startF s)
def raiseF (z : Int) (s : Cs) : Cs := if s.size < s.thr then { s with size := s.size + z } else climbF (min z s.size) s
def ackF (now sent z : Int) (l : Bool) (s : Cs) : Cs := if l = true ∨ aheadF sent s then landF z (tickF now s) else raiseF (szz z) (landF z (tickF now s))
def peakF (s : Cs) : Nat := if sI s < s.pk then mulW (sI s) c85 else sI s
def cutF (s : Cs) : Cs := { s with began := s.clock, pk := peakF s, thr := 7 * s.size / 10, size := max (7 * s.size / 10) (2 * s.mtu) }
def eventF (now sent : Int) (s : Cs) : Cs := if aheadF sent s then tickF now s else leaveF (cutF (tickF now s))
def collF (s : Cs) : Cs := leaveF { s with size := 2 * s.mtu, began := -1 }

theorem Cs.Ok.up {n k : Nat} {s : Cs} (h : s.Ok n) (hk : n ≤ k) : s.Ok k :=
  ⟨h.m, h.c, ⟨h.z.1, by have := h.z.2; omega⟩, ⟨h.f.1, by have := h.f.2; omega⟩, h.b, h.e, Nat.le_trans h.p (I_mono (by omega)), Nat.le_trans h.o (I_mono (by omega)), h.w, Nat.le_trans h.l (I_mono (by omega)), h.l0, h.t⟩
theorem tick_ok {n : Nat} {s : Cs} (h : s.Ok n) (t : Int) : (tickF t s).Ok n := by
  have := sp_b t
  have hc := h.c
  have hb := h.b
  have he := h.e
  exact ⟨h.m, by show 0 ≤ max s.clock (sp t) ∧ max s.clock (sp t) ≤ _; omega, h.z, h.f, by show -1 ≤ s.began ∧ s.began ≤ max s.clock (sp t); omega, by show -1 ≤ s.ep ∧ s.ep ≤ max s.clock (sp t); omega, h.p, h.o, h.w, h.l, h.l0, h.t⟩
theorem land_ok {n : Nat} {s : Cs} (h : s.Ok n) (z : Int) : (landF z s).Ok n := by
  have := szb z
  have hf := h.f
  exact ⟨h.m, h.c, h.z, by show 0 ≤ max (s.flight - szz z) 0 ∧ max (s.flight - szz z) 0 ≤ _; omega, h.b, h.e, h.p, h.o, h.w, h.l, h.l0, h.t⟩
theorem sent_ok {n : Nat} {s : Cs} (h : s.Ok n) (z : Int) : (sentF z s).Ok (n + 1) := by
  have := szb z
  have hf := h.f
  have h' := h.up (Nat.le_succ n)
  exact ⟨h.m, h.c, h'.z, by show 0 ≤ s.flight + szz z ∧ s.flight + szz z ≤ _; omega, h.b, h.e, h'.p, h'.o, h.w, h'.l, h.l0, h.t⟩
theorem leave_ok {n : Nat} {s : Cs} (h : s.Ok n) : (leaveF s).Ok n :=
  ⟨h.m, h.c, h.z, h.f, h.b, by have := h.c.1; exact ⟨Int.le_refl _, by show -1 ≤ s.clock; omega⟩, h.p, Nat.zero_le _, ⟨Int.le_refl _, by show (0 : Int) ≤ 68719476736; decide⟩, Nat.zero_le _, fun h => by simp [leaveF] at h, Nat.zero_le _⟩
theorem sI_le {n : Nat} {s : Cs} (h : s.Ok n) : sI s ≤ I (20000 + 65535 * n) := I_mono (by have := h.z; omega)
theorem big_I {n : Nat} (hn : n ≤ 10000) : I (20000 + 65535 * n) ≤ I 1099511627776 := I_mono (by omega)
theorem big_lt {n k : Nat} (hn : n ≤ 10000) (hk : k ≤ 80000) : I (20000 + k * n) < inf := I_lt (by have := Nat.mul_le_mul hk hn; omega)
theorem pk_lt {n : Nat} {s : Cs} (h : s.Ok n) (hn : n ≤ 10000) : s.pk < inf := Nat.lt_of_le_of_lt h.p (big_lt hn (by decide))
theorem og_lt {n : Nat} {s : Cs} (h : s.Ok n) (hn : n ≤ 10000) : s.og < inf := Nat.lt_of_le_of_lt h.o (big_lt hn (by decide))
theorem pl_lt {n : Nat} {s : Cs} (h : s.Ok n) (hn : n ≤ 10000) : s.pl < inf := Nat.lt_of_le_of_lt h.l (big_lt hn (by decide))
theorem pt_lt {n : Nat} {s : Cs} (h : s.Ok n) : s.pt < inf := Nat.lt_of_le_of_lt h.t (I_lt (by decide))
theorem sI_lt {n : Nat} {s : Cs} (h : s.Ok n) (hn : n ≤ 10000) : sI s < inf := I_lt (by have := h.z; omega)
theorem sI_nm {n : Nat} {s : Cs} (h : s.Ok n) : 2 ^ 52 ≤ sI s := I_normal (by have := h.z; have := h.m; omega)
theorem mN {n : Nat} {s : Cs} (h : s.Ok n) : 1200 ≤ s.mtu.toNat ∧ s.mtu.toNat ≤ 9000 := by have := h.m; omega
theorem need_le {n : Nat} {s : Cs} (h : s.Ok n) (hn : n ≤ 10000) : subW s.pk (sI s) ≤ I 1099511627776 := Nat.le_trans (subW_le (pk_lt h hn)) (Nat.le_trans h.p (big_I hn))
theorem begin_ok {n : Nat} {s : Cs} (h : s.Ok n) (hn : n ≤ 10000) : (beginF s).Ok n := by
  have hs := sI_le h
  have hl : sI s ≤ I (20000 + 75000 * n) := Nat.le_trans hs (I_mono (by omega))
  have hc := h.c
  have hpos : 0 < sI s := Nat.lt_of_lt_of_le (p2 52) (I_normal (by have := h.z; have := h.m; omega))
  unfold beginF
  split
  · have hk := (kOf_spec (mN h) (need_le h hn)).2.1
    generalize kOf (subW s.pk (sI s)) s.mtu.toNat = q at *
    have hq : (q : Int) ≤ 68719476736 := by omega
    exact ⟨h.m, h.c, h.z, h.f, h.b, ⟨by show -1 ≤ s.clock; omega, Int.le_refl _⟩, h.p, h.p, ⟨Int.natCast_nonneg q, hq⟩, hl, fun _ => hpos, h.t⟩
  · exact ⟨h.m, h.c, h.z, h.f, h.b, ⟨by show -1 ≤ s.clock; omega, Int.le_refl _⟩, h.p, hs, ⟨Int.le_refl _, by show (0 : Int) ≤ 68719476736; decide⟩, hl, fun _ => hpos, h.t⟩
theorem start_ok {n : Nat} {s : Cs} (h : s.Ok n) (hn : n ≤ 10000) : (startF s).Ok n := by
  unfold startF
  split
  · exact begin_ok h hn
  · exact h
theorem start_sz (s : Cs) : (startF s).size = s.size ∧ (startF s).mtu = s.mtu ∧ (startF s).clock = s.clock ∧ (startF s).pt = s.pt := by
  unfold startF beginF
  split
  · split <;> exact ⟨rfl, rfl, rfl, rfl⟩
  · exact ⟨rfl, rfl, rfl, rfl⟩
theorem gn_le {n : Nat} {s : Cs} (h : s.Ok n) (hn : n ≤ 10000) {z : Int} (hz : 0 ≤ z ∧ z ≤ 65535 ∧ z ≤ s.size) : gnF z s ≤ I 9000 := by
  have := h.z
  have := mN h
  exact Nat.le_trans (gain_le (by omega) ⟨by omega, by omega⟩ ⟨by omega, by omega⟩ (by omega)) (I_mono (by omega))
theorem go_ok {n : Nat} {s : Cs} (h : s.Ok n) (hn : n ≤ 9999) {g : Nat} (hg : g ≤ I 9000) : (goF g s).Ok (n + 1) := by
  have h' := h.up (Nat.le_succ n)
  have hgi : g < inf := Nat.lt_of_le_of_lt hg (I_lt (by decide))
  have h2 := gain2_le (e := s.pl) (o := s.og) hgi
  have h3 : addW s.pl (gain2 s.pl s.og g) ≤ I (20000 + 75000 * n + 9000) := addW_le (pl_lt h (by omega)) (Nat.lt_of_le_of_lt h2 hgi) (by omega) h.l (Nat.le_trans h2 hg)
  exact ⟨h.m, h.c, h'.z, h'.f, h.b, h.e, h'.p, h'.o, h.w, Nat.le_trans h3 (I_mono (by omega)), fun he => Nat.lt_of_lt_of_le (h.l0 he) (addW_ge (pl_lt h (by omega))), h.t⟩
theorem win_b {n : Nat} {s : Cs} (h : s.Ok n) {g z : Nat} (hz : z ≤ 65535) (hg : g ≤ Rn (z * 2 ^ uH)) : addW s.pt g < inf ∧ 2 * whole (addW s.pt g) ≤ z + 2 ∧ I (whole (addW s.pt g)) ≤ addW s.pt g ∧ subW (addW s.pt g) (I (whole (addW s.pt g))) ≤ I 1 := by
  obtain ⟨p1, p2⟩ := part_le h.t hz hg
  obtain ⟨r1, r2⟩ := rest_le p1 (by omega)
  exact ⟨p1, p2, r1, r2⟩
theorem win_ok {n : Nat} {s : Cs} (h : s.Ok n) {g z : Nat} (hz : z ≤ 65535) (hg : g ≤ Rn (z * 2 ^ uH)) (k : Nat) (hk : s.size + (whole (addW s.pt g) : Int) ≤ 20000 + 65535 * k) (hnk : n ≤ k) : (winF g s).Ok k := by
  obtain ⟨p1, p2, r1, r2⟩ := win_b h hz hg
  have h' := h.up hnk
  have hz2 : 2 * s.mtu ≤ s.size + (whole (addW s.pt g) : Int) := by
    have := h.z
    generalize whole (addW s.pt g) = q
    omega
  unfold winF
  generalize whole (addW s.pt g) = q at *
  generalize subW (addW s.pt g) (I q) = q2 at *
  exact ⟨h.m, h.c, ⟨hz2, hk⟩, h'.f, h.b, h.e, h'.p, h'.o, h.w, h'.l, h.l0, r2⟩
theorem go_tg {n : Nat} {s : Cs} (h : s.Ok n) (hn : n ≤ 9999) (g : Nat) : sI s ≤ tgF (goF g s) ∧ tgF (goF g s) ≤ mulW c15 (sI s) := tgt_b ⟨by have := h.z; have := h.m; omega, by have := h.z; omega⟩
theorem more_b {n : Nat} {s : Cs} (h : s.Ok n) (hn : n ≤ 9999) (g : Nat) {z : Int} (hz : 0 ≤ z ∧ z ≤ 65535) : moreW (tgF (goF g s)) (sI s) z.toNat ≤ Rn (z.toNat * 2 ^ uH) := by
  have h1 := go_tg h hn g
  exact more_le ⟨by have := h.z; have := h.m; omega, by have := h.z; omega⟩ (by omega) h1.1 h1.2
theorem climbG_ok {n : Nat} {s : Cs} (h : s.Ok n) (hn : n ≤ 9999) {z : Int} (hz : 0 ≤ z ∧ z ≤ 65535 ∧ z ≤ s.size) : (climbG z s).Ok (n + 1) := by
  have hg := go_ok h hn (gn_le h (by omega) hz)
  have hm := more_b h hn (gnF z s) ⟨hz.1, hz.2.1⟩
  have hb := win_b hg (by omega) hm
  refine win_ok hg (by omega) hm (n + 1) ?_ (Nat.le_refl _)
  have hz3 := h.z
  have h2 := hb.2.1
  have e : (goF (gnF z s) s).size = s.size := rfl
  rw [e]
  clear hb hm hg
  generalize whole _ = q at *
  omega
theorem climb_ok {n : Nat} {s : Cs} (h : s.Ok n) (hn : n ≤ 9999) {z : Int} (hz : 0 ≤ z ∧ z ≤ 65535 ∧ z ≤ s.size) : (climbF z s).Ok (n + 1) := climbG_ok (start_ok h (by omega)) hn (by rw [(start_sz s).1]; exact hz)
theorem raise_ok {n : Nat} {s : Cs} (h : s.Ok n) (hn : n ≤ 9999) (z : Int) (hz : 0 ≤ z ∧ z ≤ 65535) : (raiseF z s).Ok (n + 1) := by
  have h' := h.up (Nat.le_succ n)
  have hs := h.z
  have hm := h.m
  unfold raiseF
  split
  · exact ⟨h.m, h.c, by show 2 * s.mtu ≤ s.size + z ∧ s.size + z ≤ _; omega, h'.f, h.b, h.e, h'.p, h'.o, h.w, h'.l, h.l0, h.t⟩
  · exact climb_ok h hn (by omega)
theorem ack_ok {n : Nat} {s : Cs} (h : s.Ok n) (hn : n ≤ 9999) (now sent z : Int) (l : Bool) : (ackF now sent z l s).Ok (n + 1) := by
  unfold ackF
  split
  · exact (land_ok (tick_ok h now) z).up (Nat.le_succ n)
  · exact raise_ok (land_ok (tick_ok h now) z) hn _ (szb z)
theorem peak_le {n : Nat} {s : Cs} (h : s.Ok n) (hn : n ≤ 10000) : peakF s ≤ I (20000 + 65535 * n) := by
  have hs := sI_le h
  unfold peakF
  split
  · exact Nat.le_trans (mul_small (sI_lt h hn) c85_V) hs
  · exact hs
theorem cut_ok {n : Nat} {s : Cs} (h : s.Ok n) (hn : n ≤ 10000) : (cutF s).Ok n := by
  have hc := h.c
  have hs := h.z
  have hm := h.m
  exact ⟨h.m, h.c, by show 2 * s.mtu ≤ max (7 * s.size / 10) (2 * s.mtu) ∧ max (7 * s.size / 10) (2 * s.mtu) ≤ _; omega, h.f, ⟨by show -1 ≤ s.clock; omega, Int.le_refl _⟩, h.e, peak_le h hn, h.o, h.w, h.l, h.l0, h.t⟩
theorem event_ok {n : Nat} {s : Cs} (h : s.Ok n) (hn : n ≤ 10000) (now sent : Int) : (eventF now sent s).Ok n := by
  unfold eventF
  split
  · exact tick_ok h now
  · exact leave_ok (cut_ok (tick_ok h now) hn)
theorem coll_ok {n : Nat} {s : Cs} (h : s.Ok n) : (collF s).Ok n := by
  have hs := h.z
  have hm := h.m
  have hc := h.c
  refine leave_ok (s := { s with size := 2 * s.mtu, began := -1 }) ?_
  exact ⟨h.m, h.c, by show 2 * s.mtu ≤ 2 * s.mtu ∧ 2 * s.mtu ≤ _; omega, h.f, by show -1 ≤ (-1 : Int) ∧ (-1 : Int) ≤ s.clock; omega, h.e, h.p, h.o, h.w, h.l, h.l0, h.t⟩
end Go.Proofs.Ythpnbajhogoinaa
