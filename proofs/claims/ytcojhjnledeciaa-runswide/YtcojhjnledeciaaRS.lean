/- The document's sets (portageref02): Add, Cut. -/
import Derived.Test.YtcojhjnledeciaaRT
namespace Go.Proofs.Ytcojhjnledeciaa.Kr
open Go.RowKit
set_option linter.unusedVariables false
set_option maxHeartbeats 800000
set_option maxRecDepth 100000

/-- 'with', as RZ proves it. -/
def WithOk : Prop := ∀ (a : Option Addr) (n c : Nat) (L : List Sp) (lo hi : Int) (w : World), L.length = n → RdR w a L → Good 0 18446744073709551615 L → (n ≤ c ∧ c ≤ 9223372036854775807) → n ≤ 2000000000000 → 0 ≤ lo → lo ≤ hi → hi ≤ 18446744073709551615 →
    Calls Try.prog 59 #[.slice a n c, .int .u64 lo, .int .u64 hi] w fun e w' => ∃ v', e = .returned v' ∧ Row w' v' (Ku.addF lo hi L) ∧ Fresh w v' ∧ w.grownBy w' none

theorem RefPost.trans {w w1 w2 : World} {b : Nat} {most : Int} {v v1 : Value} {L2 : List Sp} (h1 : v1 = v ∨ Fresh w v1) (hg : w.grownBy w1 (some b)) (h : RefPost b most v1 w1 L2 w2) : RefPost b most v w L2 w2 := by
  obtain ⟨v2, r, o, g⟩ := h
  refine ⟨v2, r, ?_, ⟨g.os.trans hg.os, g.tape.trans hg.tape, g.output.trans hg.output, Nat.le_trans hg.size g.size, fun k hk hne => by rw [g.block k (Nat.lt_of_lt_of_le hk hg.size) hne]; exact hg.block k hk hne⟩⟩
  rcases o with rfl | o
  · exact h1
  · exact .inr fun k hk => Nat.le_trans hg.size (o k hk)

theorem bound_ref (b : Nat) (most : Int) (v : Value) (L : List Sp) (w : World) (h : RefAt w b most v L) (hm : 0 ≤ most) (hb : L.length ≤ 8000000000000) :
    Calls Try.prog 54 #[.pointer (some ⟨b, 0, none⟩)] w fun e w' => e = .returned (.tuple #[]) ∧ RefPost b most v w (Ku.boundF most L) w' := by
  unfold Ku.boundF
  by_cases hc : 0 < most ∧ most < L.length
  · rw [if_pos hc]
    obtain ⟨M, rfl⟩ := Int.eq_ofNat_of_zero_le hm
    rw [Int.toNat_natCast]
    exact bound_yes b M v L w h (by omega) (by omega) hb
  · rw [if_neg hc]
    exact (bound_no b most v L w h hc).mono fun e w' ⟨he, hg⟩ => ⟨he, v, h.keep hg, .inl rfl, ⟨hg.os, hg.tape, hg.output, hg.size, fun k hk _ => hg.block k hk (by simp)⟩⟩

theorem RefAt.froz {w : World} {b : Nat} {most : Int} {v : Value} {L : List Sp} (h : RefAt w b most v L) : w.frozen? ⟨b, 0, none⟩ = false := by
  unfold World.frozen?
  rw [h.blk]
  simp

theorem addRef (hW : WithOk) (b : Nat) (most lo hi : Int) (v : Value) (L : List Sp) (w : World) (h : RefAt w b most v L) (hm : 0 ≤ most) (hL : Good 0 18446744073709551615 L) (hb : L.length ≤ 2000000000000) (hlo : 0 ≤ lo ∧ lo ≤ 18446744073709551615) (hhi : 0 ≤ hi ∧ hi ≤ 18446744073709551615) :
    Calls Try.prog 18 #[.pointer (some ⟨b, 0, none⟩), .int .u64 lo, .int .u64 hi] w fun e w' => e = .returned (.int .u64 (Ku.addN lo hi L)) ∧ RefPost b most v w (Ku.addS most lo hi L) w' := by
  obtain ⟨a, c, rfl, rd, k1, k2⟩ := h.row.rd
  unfold Ku.addN Ku.addS
  by_cases hlh : hi < lo
  · rw [if_pos hlh, if_pos hlh]
    have hd : decide (hi < lo) = true := decide_eq_true hlh
    have F := hide (show RefPost b most (.slice a L.length c) w L w from ⟨_, h, .inl rfl, grown_self _ _⟩)
    clear h rd hL
    go_enter Try.func18, Try.ntmps18
    go_wp2
    go_ret
    exact ⟨rfl, unhide F⟩
  rw [if_neg hlh, if_neg hlh]
  have hle : lo ≤ hi := by omega
  have c0 := (box2 h.blk).1
  have hho := holes_ref a L.length c L lo hi w rfl rd hL ⟨k1, k2⟩ (by omega) hlo hhi
  rw [if_neg hlh] at hho
  have hHg := (holes_good hL hle).1
  have hwi := fun W (g : w.grownBy W none) => hW a L.length c L lo hi W rfl (rd.grown g) hL ⟨k1, k2⟩ hb hlo.1 hle hhi.2
  have hal : (Ku.addF lo hi L).length ≤ 8000000000000 := by have := (Ku.addF_good hL hle hlo.1 hhi.2).2.2; omega
  have HH := hide h; have HHG := hide hHg
  clear rd hL hHg h
  generalize holesF lo hi L = R at *
  generalize hnn : L.length = n at *
  clear hnn
  go_enter Try.func18, Try.ntmps18
  go_wp2_with fail
  refine hho.mono ?_
  rintro e W1 ⟨v1, rfl, r1, f1, g1⟩
  obtain ⟨a1, d1, rfl, rd1, j1, j2⟩ := r1.rd
  have hma := many_any a1 R.length d1 R W1 rfl rd1 (fun s hs => by have := (unhide HHG).mem hs; omega) ⟨j1, j2⟩
  clear hho r1 f1 rd1
  generalize R.length = rl at *
  go_wp2_with fail
  refine hma.mono ?_
  rintro e W2 ⟨rfl, g2⟩
  clear hma
  have G2 := grown_trans g1 g2
  have y0 := cell_grown_none G2 c0
  have hwi2 := hwi W2 G2
  clear hwi g1 g2
  go_wp2_with fail
  refine hwi2.mono ?_
  rintro e W3 ⟨v3, rfl, r3, f3, g3⟩
  have G3 := grown_trans G2 g3
  have h3 := (unhide HH).keep G3
  have z0 := cell_grown_none g3 y0
  have zf := h3.froz
  have P4 := h3.store r3 (fun k hk => Nat.le_trans G2.size (f3 k hk)) G3
  obtain ⟨a3, d3, rfl, -, -, -⟩ := r3.rd
  have hat4 : RefAt (W3.setCell ⟨b, 0, none⟩ (.slice a3 (Ku.addF lo hi L).length d3)) b most (.slice a3 (Ku.addF lo hi L).length d3) (Ku.addF lo hi L) := ⟨by rw [heap_setCell_at h3.blk]; rfl, World.ownsRow.kept r3 (grownBy_setCell' W3 b _) (.inr (ref_norow h3 r3))⟩
  have hbo := bound_ref b most _ _ _ hat4 hm hal
  have hg4 : w.grownBy (W3.setCell ⟨b, 0, none⟩ (.slice a3 (Ku.addF lo hi L).length d3)) (some b) := by obtain ⟨_, _, _, q⟩ := P4; exact q
  have hf4 : Fresh w (.slice a3 (Ku.addF lo hi L).length d3) := fun k hk => Nat.le_trans G2.size (f3 k hk)
  have F := hide (fun W5 (q : RefPost b most (.slice a3 (Ku.addF lo hi L).length d3) (W3.setCell ⟨b, 0, none⟩ (.slice a3 (Ku.addF lo hi L).length d3)) (Ku.boundF most (Ku.addF lo hi L)) W5) => RefPost.trans (v := .slice a n c) (.inr hf4) hg4 q)
  clear hwi2 r3 f3 P4 hat4 hg4 hf4 h3 G3 g3 G2
  generalize (Ku.addF lo hi L).length = n3 at *
  go_wp2_with fail
  refine hbo.mono ?_
  rintro e W5 ⟨rfl, q5⟩
  have F5 := hide (unhide F _ q5)
  clear hbo F q5
  go_wp2_with fail
  go_ret
  exact ⟨rfl, unhide F5⟩
theorem cutRef (b : Nat) (most lo hi : Int) (v : Value) (L : List Sp) (w : World) (h : RefAt w b most v L) (hm : 0 ≤ most) (hL : Good 0 18446744073709551615 L) (hb : L.length ≤ 2000000000000) (hlo : 0 ≤ lo ∧ lo ≤ 18446744073709551615) (hhi : 0 ≤ hi ∧ hi ≤ 18446744073709551615) :
    Calls Try.prog 16 #[.pointer (some ⟨b, 0, none⟩), .int .u64 lo, .int .u64 hi] w fun e w' => e = .returned (.int .u64 (Ku.cutN lo hi L)) ∧ RefPost b most v w (Ku.cutS most lo hi L) w' := by
  obtain ⟨a, c, rfl, rd, k1, k2⟩ := h.row.rd
  unfold Ku.cutN Ku.cutS
  by_cases hlh : hi < lo
  · rw [if_pos hlh, if_pos hlh]
    have hd : decide (hi < lo) = true := decide_eq_true hlh
    have F := hide (show RefPost b most (.slice a L.length c) w L w from ⟨_, h, .inl rfl, grown_self _ _⟩)
    clear h rd hL
    go_enter Try.func16, Try.ntmps16
    go_wp2
    go_ret
    exact ⟨rfl, unhide F⟩
  rw [if_neg hlh, if_neg hlh]
  have hle : lo ≤ hi := by omega
  have c0 := (box2 h.blk).1
  have hho := within_ref a L.length c L lo hi w rfl rd (good_vb hL) ⟨k1, k2⟩ (by omega) hlo hhi
  rw [withinR_eq (fun s hs => (hL.mem hs).2.1) hle] at hho
  have hHg := within_good hL hle
  have hwi := fun W (g : w.grownBy W none) => without_ref a L.length c L lo hi W rfl (rd.grown g) (good_vb hL) ⟨k1, k2⟩ hb hlo hhi
  rw [without_cut hL hle hlo.1 hhi.2] at hwi
  have hal : (Ku.cutF lo hi L).length ≤ 8000000000000 := by have := (Ku.cutF_good hL hle).2.2; omega
  have HH := hide h; have HHG := hide hHg
  clear rd hL hHg h
  generalize withinF lo hi L = R at *
  generalize hnn : L.length = n at *
  clear hnn
  go_enter Try.func16, Try.ntmps16
  go_wp2_with fail
  refine hho.mono ?_
  rintro e W1 ⟨v1, rfl, r1, f1, g1⟩
  obtain ⟨a1, d1, rfl, rd1, j1, j2⟩ := r1.rd
  have hma := many_any a1 R.length d1 R W1 rfl rd1 (fun s hs => by have := (unhide HHG).mem hs; omega) ⟨j1, j2⟩
  clear hho r1 f1 rd1
  generalize R.length = rl at *
  go_wp2_with fail
  refine hma.mono ?_
  rintro e W2 ⟨rfl, g2⟩
  clear hma
  have G2 := grown_trans g1 g2
  have y0 := cell_grown_none G2 c0
  have hwi2 := hwi W2 G2
  clear hwi g1 g2
  go_wp2_with fail
  refine hwi2.mono ?_
  rintro e W3 ⟨v3, rfl, r3, f3, g3⟩
  have G3 := grown_trans G2 g3
  have h3 := (unhide HH).keep G3
  have z0 := cell_grown_none g3 y0
  have zf := h3.froz
  have P4 := h3.store r3 (fun k hk => Nat.le_trans G2.size (f3 k hk)) G3
  obtain ⟨a3, d3, rfl, -, -, -⟩ := r3.rd
  have hat4 : RefAt (W3.setCell ⟨b, 0, none⟩ (.slice a3 (Ku.cutF lo hi L).length d3)) b most (.slice a3 (Ku.cutF lo hi L).length d3) (Ku.cutF lo hi L) := ⟨by rw [heap_setCell_at h3.blk]; rfl, World.ownsRow.kept r3 (grownBy_setCell' W3 b _) (.inr (ref_norow h3 r3))⟩
  have hbo := bound_ref b most _ _ _ hat4 hm hal
  have hg4 : w.grownBy (W3.setCell ⟨b, 0, none⟩ (.slice a3 (Ku.cutF lo hi L).length d3)) (some b) := by obtain ⟨_, _, _, q⟩ := P4; exact q
  have hf4 : Fresh w (.slice a3 (Ku.cutF lo hi L).length d3) := fun k hk => Nat.le_trans G2.size (f3 k hk)
  have F := hide (fun W5 (q : RefPost b most (.slice a3 (Ku.cutF lo hi L).length d3) (W3.setCell ⟨b, 0, none⟩ (.slice a3 (Ku.cutF lo hi L).length d3)) (Ku.boundF most (Ku.cutF lo hi L)) W5) => RefPost.trans (v := .slice a n c) (.inr hf4) hg4 q)
  clear hwi2 r3 f3 P4 hat4 hg4 hf4 h3 G3 g3 G2
  generalize (Ku.cutF lo hi L).length = n3 at *
  go_wp2_with fail
  refine hbo.mono ?_
  rintro e W5 ⟨rfl, q5⟩
  have F5 := hide (unhide F _ q5)
  clear hbo F q5
  go_wp2_with fail
  go_ret
  exact ⟨rfl, unhide F5⟩
end Go.Proofs.Ytcojhjnledeciaa.Kr
