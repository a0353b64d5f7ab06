/- RunsWide. -/
import Derived.Test.YtcojhjnledeciaaRP
import Derived.Test.YtcojhjnledeciaaRZ
import Derived.Test.YtcojhjnledeciaaOP
import Derived.Deep.RegionHeld3
import Derived.Deep.DeepCutAuto
namespace Go.Proofs.Ytcojhjnledeciaa.Kr
open Go.RowKit
set_option linter.unusedVariables false
set_option maxRecDepth 100000
set_option maxHeartbeats 3200000

theorem wrap_bounds (x : Int) : 0 ≤ IntKind.u64.wrap x ∧ IntKind.u64.wrap x ≤ 18446744073709551615 := by
  rw [IntKind.wrap_u64]; omega

theorem with_ok : WithOk := fun a n c L lo hi w hn hrd hL hc hb hlo hle hhi => with_ref a n c L lo hi w hn hrd hL hc hb hlo hle hhi

set_option maxRecDepth 100000 in
theorem wide_walk (m : Int) (a : Option Addr) (len cap : Nat) (w : World) (hm : -9223372036854775808 ≤ m ∧ m ≤ 9223372036854775807) (hops : IsOps w a len cap) :
    Calls Try.prog 4 #[.int .i64 m, .slice a len cap] w fun e w' => e = .returned (.bool true) ∧ w.grownBy w' none := by
  have hsh := shown_ok w
  obtain ⟨h1, h2, hcells⟩ := hops
  unfold maxLen at h2
  have HC := hide hcells
  clear hcells
  go_enter Try.func4, Try.ntmps4
  go_upto_if 21 with (first | (go_at_call 9; refine hsh.mono ?_; rintro e W0 ⟨rfl, g0⟩; clear hsh))
  go_cut [0] (fun v wc => ∃ u : Int, v = .int .i64 u ∧ 0 ≤ u ∧ u ≤ 9223372036854775807 ∧ wc = W0)
  case first =>
    by_cases h : m < 0
    · go_wp2
      go_meet
      case rel => exact ⟨_, rfl, by omega, by omega, rfl⟩
    · go_wp2
      go_meet
      case rel => exact ⟨_, rfl, by omega, by omega, rfl⟩
  case rest =>
  obtain ⟨u, rfl, hu0, hu1, rfl⟩ := hcut
  clear hm
  have hnew := Ku.new_ls w wc u hu0 g0
  go_wp2_with fail
  refine hnew.mono ?_
  rintro e W1 ⟨rfl, l0⟩
  have P0 := hide (PW.make l0)
  clear l0 g0 hnew
  generalize wc.heap.size = bs at *
  go_wp2_with fail
  generalize W1.heap.size = br at *
  generalize W1.alloc (.cells #[.slice none 0 0, .int .i64 u] 28) = W2 at *
  go_loopw [9] (fun i wr => ∃ (k : Nat) (L : List Sp), k ≤ len ∧ k ≤ 2000 ∧ i = .int .i64 k ∧ PW w wr bs br u L L ∧ Good 0 18446744073709551615 L ∧ L.length ≤ k) (fun i _ => len - (intOf i).toNat)
  case atStart => exact ⟨0, [], Nat.zero_le _, by omega, rfl, unhide P0, trivial, Nat.zero_le _⟩
  case round =>
    clear P0
    obtain ⟨k, L, hk, hk2, rfl, hP, hgd, hll⟩ := hrel
    by_cases hlt : k < len
    · by_cases hlt2 : k < 2000
      · obtain ⟨bo, off, rfl, hcs⟩ := (unhide HC).resolve_left (by omega)
        obtain ⟨kd, hh, lo0, hi0, c0, -, c2, c3, r1, r2, r3, r4⟩ := hcs k hlt
        have hkn : (k : Int) < (len : Int) := by omega
        have hkd : decide ((k : Int) < (len : Int)) = true := decide_eq_true hkn
        have hk3 : (k : Int) < 2000 := by omega
        have hkd3 : decide ((k : Int) < 2000) = true := decide_eq_true hk3
        have y0 := cell_grown_none hP.grown c0
        have y2 := cell_grown_none hP.grown c2
        have y3 := cell_grown_none hP.grown c3
        have HLT := hide hlt
        have HP := hide hP
        have b1 := wrap_bounds lo0
        have b2 := wrap_bounds hi0
        clear hcs c0 c2 c3 HC hlt r1 r2 r3 r4
        go_upto_if 65 with fail
        generalize IntKind.u64.wrap lo0 = lo at *
        generalize IntKind.u64.wrap hi0 = hi at *
        go_cut [12, 13] (fun n m wc => ∃ (N : Int) (L' : List Sp), n = .int .u64 N ∧ m = .int .u64 N ∧ PW w wc bs br u L' L' ∧ Good 0 18446744073709551615 L' ∧ L'.length ≤ k + 1)
        case first =>
          obtain ⟨sA, sC⟩ := wide_sizes (most := u) (lo := lo) (hi := hi) hgd (by omega) (by omega)
          obtain ⟨v, r, hv, hr, fv, fr⟩ := (unhide HP).ex
          have hok : Ku.Ok L := ⟨hgd, by omega⟩
          by_cases hq : kd = 2
          · subst hq
            have hA := Ku.cut_post hv hok lo hi (by omega) (by omega)
            have hB := fun (W : World) (v' r' : Value) (hr' : RefAt W br u r' L) => cutRef br u lo hi r' L W hr' hu0 hgd (by omega) (by omega) (by omega)
            have S := hide sC
            clear sA sC
            go_wp2_with fail
            refine hA.mono ?_
            intro e W3 hp
            obtain ⟨rfl, P3⟩ := (unhide HP).set hv hr fv fr hp
            obtain ⟨v3, r3, hv3, hr3, fv3, fr3⟩ := P3.ex
            clear hp hA
            go_wp2_with fail
            refine (hB W3 v3 r3 hr3).mono ?_
            rintro e W4 ⟨rfl, hp4⟩
            have P4 := P3.ref hv3 hr3 fv3 fr3 hp4
            clear hp4 hB hv3 hr3 fv3 fr3 P3
            go_wp2_with fail
            go_meet
            case rel => exact ⟨_, _, rfl, rfl, P4, (unhide S).1, by have := (unhide S).2; omega⟩
          · have hA := Ku.add_post hv hok lo hi (by omega) (by omega)
            have hB := fun (W : World) (v' r' : Value) (hr' : RefAt W br u r' L) => addRef with_ok br u lo hi r' L W hr' hu0 hgd (by omega) (by omega) (by omega)
            have S := hide sA
            clear sA sC
            go_wp2_with fail
            refine hA.mono ?_
            intro e W3 hp
            obtain ⟨rfl, P3⟩ := (unhide HP).set hv hr fv fr hp
            obtain ⟨v3, r3, hv3, hr3, fv3, fr3⟩ := P3.ex
            clear hp hA
            go_wp2_with fail
            refine (hB W3 v3 r3 hr3).mono ?_
            rintro e W4 ⟨rfl, hp4⟩
            have P4 := P3.ref hv3 hr3 fv3 fr3 hp4
            clear hp4 hB hv3 hr3 fv3 fr3 P3
            go_wp2_with fail
            go_meet
            case rel => exact ⟨_, _, rfl, rfl, P4, (unhide S).1, by have := (unhide S).2; omega⟩
        case rest =>
        obtain ⟨N, L', rfl, rfl, P, gd', ll'⟩ := hcut
        clear HP hP hgd hll y0 y2 y3
        have hok : Ku.Ok L' := ⟨gd', by omega⟩
        have hR := fun (W : World) (p : PW w W bs br u L' L') => p.runs hok
        have hI := fun (W : World) (p : PW w W bs br u L' L') => p.within hok lo hi
        have hO := fun (W : World) (p : PW w W bs br u L' L') => p.holes hok lo hi (by omega) (by omega)
        obtain ⟨ar, cr, cell, rdr, hcr⟩ := P.rd
        have hMany := fun (W : World) (g : wc.grownBy W none) => many_any ar L'.length cr L' W rfl (rdr.grown g) (good_vb gd') hcr
        have hWi : ∀ W : World, wc.grownBy W none → Calls Try.prog 22 #[.slice ar L'.length cr, .int .u64 lo, .int .u64 hi] W fun e w' => ∃ a c, e = .returned (.slice a (withinR lo hi L').length c) ∧ RdR w' a (withinR lo hi L') ∧ ((withinR lo hi L').length ≤ c ∧ c ≤ 9223372036854775807) ∧ W.grownBy w' none := fun W g => (within_ref ar L'.length cr L' lo hi W rfl (rdr.grown g) (good_vb gd') hcr (by omega) b1 b2).mono fun e w' ⟨v', he, hr, _, hg⟩ => by
          obtain ⟨a, c, rfl, rd, k1, k2⟩ := hr.rd
          exact ⟨a, c, he, rd, ⟨k1, k2⟩, hg⟩
        have hHo : ∀ W : World, wc.grownBy W none → Calls Try.prog 24 #[.slice ar L'.length cr, .int .u64 lo, .int .u64 hi] W fun e w' => ∃ a c, e = .returned (.slice a (if hi < lo then [] else holesF lo hi L').length c) ∧ RdR w' a (if hi < lo then [] else holesF lo hi L') ∧ ((if hi < lo then [] else holesF lo hi L').length ≤ c ∧ c ≤ 9223372036854775807) ∧ W.grownBy w' none := fun W g => (holes_ref ar L'.length cr L' lo hi W rfl (rdr.grown g) gd' hcr (by omega) b1 b2).mono fun e w' ⟨v', he, hr, _, hg⟩ => by
          obtain ⟨a, c, rfl, rd, k1, k2⟩ := hr.rd
          exact ⟨a, c, he, rd, ⟨k1, k2⟩, hg⟩
        have hS0 := fun (W : World) (g : wc.grownBy W none) (a5 : Option Addr) (c5 : Nat) (rd5 : RdR W a5 L') (h5 : L'.length ≤ c5 ∧ c5 ≤ 9223372036854775807) => sameWide_true a5 ar L'.length c5 cr L' W rfl rd5 (rdr.grown g) (by omega) h5 hcr
        have hwl := withinR_length lo hi L'
        have hhl : (if hi < lo then [] else holesF lo hi L').length ≤ 8000000000000 := by
          split
          · simp
          · have e := withinR_eq (lo := lo) (hi := hi) (L := L') (fun s hs => (gd'.mem hs).2.1) (by omega)
            unfold holesF
            rw [← e]
            have h1 := Ku.holesGo_length hi lo (withinR lo hi L')
            omega
        have hCt := fun (W : World) (p : PW w W bs br u L' L') => p.count hok
        have hLe := fun (W : World) (p : PW w W bs br u L' L') => p.len
        have hHa := fun (W : World) (p : PW w W bs br u L' L') => p.has hok lo
        have hRh := fun (W : World) (r : Value) (h : RefAt W br u r L') => refHas_any br u lo r L' W h gd' (by omega) b1
        have Y := fun (W : World) (g : wc.grownBy W none) => cell_grown_none g cell
        have hfin : Hid (∀ W, wc.grownBy W none → PW w W bs br u L' L' ∧ Good 0 18446744073709551615 L' ∧ (∀ l : List Sp, l = L' → l.length ≤ k + 1)) := fun W g => ⟨P.keep g, gd', fun l e => by rw [e]; exact ll'⟩
        have hwl2 : (withinR lo hi L').length ≤ 8000000000000 := by omega
        have hSw1 := fun (W : World) (a5 a6 : Option Addr) (c5 c6 : Nat) (rd5 : RdR W a5 (withinR lo hi L')) (rd6 : RdR W a6 (withinR lo hi L')) (h5 : (withinR lo hi L').length ≤ c5 ∧ c5 ≤ 9223372036854775807) (h6 : (withinR lo hi L').length ≤ c6 ∧ c6 ≤ 9223372036854775807) => sameWide_true a5 a6 (withinR lo hi L').length c5 c6 (withinR lo hi L') W rfl rd5 rd6 hwl2 h5 h6
        have hSw2 := fun (W : World) (a5 a6 : Option Addr) (c5 c6 : Nat) (rd5 : RdR W a5 (if hi < lo then [] else holesF lo hi L')) (rd6 : RdR W a6 (if hi < lo then [] else holesF lo hi L')) (h5 : (if hi < lo then [] else holesF lo hi L').length ≤ c5 ∧ c5 ≤ 9223372036854775807) (h6 : (if hi < lo then [] else holesF lo hi L').length ≤ c6 ∧ c6 ≤ 9223372036854775807) => sameWide_true a5 a6 (if hi < lo then [] else holesF lo hi L').length c5 c6 (if hi < lo then [] else holesF lo hi L') W rfl rd5 rd6 hhl h5 h6
        clear rdr hok gd' ll' hcr b1 b2 hwl hwl2 hhl
        generalize Ku.toldF L' = T at *
        generalize memB lo L' = mb at *
        generalize withinR lo hi L' = lw at *
        generalize (if hi < lo then [] else holesF lo hi L') = lh at *
        generalize L'.length = n at *
        generalize lw.length = nw at *
        generalize lh.length = nh at *
        go_wp2_with fail
        go_region_held3 (fun W => W.cell? ⟨br, 0, none⟩ = some (.slice ar n cr)) (go_keep) (first | (go_at_call 20; refine (hR _ (P.keep (grown_drewN _ 1))).mono ?_; rintro e W5 ⟨a5, c5, rfl, rd5, h5, g5⟩; have G5 := grown_trans (grown_drewN wc 1) g5; have yy := Y W5 G5) | (go_at_call 19; refine (hS0 W5 G5 a5 c5 rd5 h5).mono ?_; rintro e W6 ⟨rfl, g6⟩; have G6 := grown_trans G5 g6; have yy := Y W6 G6))
        clear g5 rd5 h5 G5 hR hS0
        go_wp2_with fail
        go_region_held3 (fun W => W.cell? ⟨br, 0, none⟩ = some (.slice ar n cr)) (go_keep) (first | (go_at_call 21; refine (hI _ (P.keep (grown_trans G6 (grown_drewN _ 1)))).mono ?_; rintro e W7 ⟨a7, c7, rfl, rd7, h7, g7⟩; have G7 := grown_trans (grown_trans G6 (grown_drewN _ 1)) g7; have yy7 := Y W7 G7) | (go_at_call 22; refine (hWi W7 G7).mono ?_; rintro e W8 ⟨a8, c8, rfl, rd8, k8, g8⟩; have G8 := grown_trans G7 g8; have yy8 := Y W8 G8) | (go_at_call 19; refine (hSw1 W8 a7 a8 c7 c8 (rd7.grown g8) rd8 h7 k8).mono ?_; rintro e W9 ⟨rfl, g9⟩; have G9 := grown_trans G8 g9; have yy9 := Y W9 G9))
        clear g7 rd7 h7 rd8 k8 g8 g9 G7 G8 hI hWi hSw1
        go_wp2_with fail
        go_region_held3 (fun W => W.cell? ⟨br, 0, none⟩ = some (.slice ar n cr)) (go_keep) (first | (go_at_call 23; refine (hO _ (P.keep (grown_trans G9 (grown_drewN _ 1)))).mono ?_; rintro e V7 ⟨a7, c7, rfl, rd7, h7, g7⟩; have H7 := grown_trans (grown_trans G9 (grown_drewN _ 1)) g7; have zz7 := Y V7 H7) | (go_at_call 24; refine (hHo V7 H7).mono ?_; rintro e V8 ⟨a8, c8, rfl, rd8, k8, g8⟩; have H8 := grown_trans H7 g8; have zz8 := Y V8 H8) | (go_at_call 19; refine (hSw2 V8 a7 a8 c7 c8 (rd7.grown g8) rd8 h7 k8).mono ?_; rintro e V9 ⟨rfl, g9⟩; have H9 := grown_trans H8 g9; have zz9 := Y V9 H9))
        clear g7 rd7 h7 rd8 k8 g8 g9 H7 H8 hO hHo hSw2
        go_wp2_with fail
        refine (hHa _ (P.keep H9)).mono ?_
        rintro e V10 ⟨rfl, g10⟩
        have H10 := grown_trans H9 g10
        obtain ⟨v10, r10, hv10, hr10, -, -⟩ := (P.keep H10).ex
        go_wp2_with fail
        refine (hRh V10 r10 hr10).mono ?_
        rintro e V11 ⟨rfl, g11⟩
        have H11 := grown_trans H10 g11
        have zz11 := Y V11 H11
        clear hHa hRh hv10 hr10 g10 g11 zz7 zz8 zz9 yy yy7 yy8 yy9
        have q1 : (N != N) = false := by simp
        have q2 : (mb != mb) = false := by simp
        have q3 : (T != T) = false := by simp
        have q4 : ((n : Int) != (n : Int)) = false := by simp
        go_wp2_with fail
        go_region_held3 (fun W => W.cell? ⟨br, 0, none⟩ = some (.slice ar n cr)) (go_keep) (first | (go_at_call 27; refine (hCt _ (P.keep (grown_trans H11 (grown_drewN _ 1)))).mono ?_; rintro e V12 ⟨rfl, g12⟩; have H12 := grown_trans (grown_trans H11 (grown_drewN _ 1)) g12; have zz12 := Y V12 H12) | (go_at_call 28; refine (hMany V12 H12).mono ?_; rintro e V13 ⟨rfl, g13⟩; have H13 := grown_trans H12 g13; have zz13 := Y V13 H13) | (go_at_call 29; refine (hLe V13 (P.keep H13)).mono ?_; rintro e V14 ⟨rfl, g14⟩; have H14 := grown_trans H13 g14; have zz14 := Y V14 H14))
        have F := hide (unhide hfin V14 H14)
        clear H12 H13 H14 g12 g13 g14 zz12 zz13 zz14 hCt hMany hLe H11 zz11 H9 H10 G6 G9 P Y hfin
        go_wp2_with fail
        exact ⟨⟨k + 1, L', unhide HLT, by omega, by go_num, (unhide F).1, (unhide F).2.1, (unhide F).2.2 L' rfl⟩, by simp [intOf]; have := unhide HLT; omega⟩
      · have hkd : decide ((k : Int) < (len : Int)) = true := decide_eq_true (by omega)
        have hkd2 : decide ((k : Int) < 2000) = false := decide_eq_false (by omega)
        have hkn : (k : Int) < (len : Int) := by omega
        have hkn2 : ¬ (k : Int) < 2000 := by omega
        have F := hide hP
        clear hP
        go_wp2_with fail
        go_ret
        exact ⟨rfl, (unhide F).grown⟩
    · have hkd : decide ((k : Int) < (len : Int)) = false := decide_eq_false (by omega)
      have hkn : ¬ (k : Int) < (len : Int) := by omega
      have F := hide hP
      clear hP
      go_wp2_with fail
      go_ret
      exact ⟨rfl, (unhide F).grown⟩
end Go.Proofs.Ytcojhjnledeciaa.Kr
