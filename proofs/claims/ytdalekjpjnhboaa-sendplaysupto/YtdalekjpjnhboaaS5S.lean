/- shown: the document's first examples. -/
import Derived.Test.YtdalekjpjnhboaaS5N
import Derived.Laws.BytesArg
import Derived.Lib.SlBytesConst
namespace Go.Proofs.Ytdalekjpjnhboaa
open Go.RowKit
set_option linter.unusedVariables false
set_option maxHeartbeats 1000000
set_option maxRecDepth 100000

theorem conv_rd (w : World) (a : Option Addr) (l : List Int) (n cap : Nat) (hn : l.length = n) (hr : Rd w a l) :
    (convert 33 9 (.slice a n cap)).run Try.prog w = .ok (.string (strOfNums l)) w := by
  subst hn
  by_cases h : l = []
  · subst h
    rw [run_convert_bytes_string w 33 9 5 _ _ cap Try.underlying33 Try.underlying5 Try.underlying9]
    cases a <;> simp [Conv.bytesToString, loadCells]
    all_goals rfl
  · obtain ⟨b, off, rfl, hc⟩ := hr.2 h
    exact run_convert_bytes_arg w 33 5 Try.underlying33 Try.underlying5 b off _ cap l rfl hc 9 Try.underlying9
theorem str_toList (l : List Int) : (strOfNums l).toList = l.map fun n => UInt8.ofNat n.toNat := by
  rw [ByteArray.toList_eq]
  rfl

/-- Write of bytes that the caller has just made. -/
theorem write_new {w W : World} {M : Nat → Prop} {b ba bl : Nat} {vh : Value} {S : Sd} (h : At w M b ba bl vh W S) (hok : SdOk S) (p : List Int) (f : Nat × Nat) (hb : ∀ x ∈ p, IsB x) (hp : p.length ≤ 4611686018427387904) (hbig : wr S ≤ 1152921504606846976) :
    Calls Try.prog 19 #[ptr b, .slice (some ⟨W.heap.size, 0, none⟩) p.length p.length] (W.alloc (.cells (by8 p) 5 f)) fun e W' => e = .returned (.int .i64 (writeE S p.length)) ∧ ∃ vh', At w M b ba bl vh' W' (writeS S p) := by
  have g : W.grownBy (W.alloc (.cells (by8 p) 5 f)) none := grown_alloc _ _
  have hrd : Rd (W.alloc (.cells (by8 p) 5 f)) (some ⟨W.heap.size, 0, none⟩) p := ⟨hb, fun _ => ⟨_, 0, rfl, fun i hi => by
    unfold World.cell?
    simp only [heap_alloc_new, Nat.zero_add]
    exact by8_get p i _ (by simp [List.getD, hi])⟩⟩
  refine (write_at (h.rebase g) hok _ p.length p.length p hrd (fun _ pb off e => ?_) rfl ⟨Nat.le_refl _, by omega⟩ hp hbig).mono ?_
  · cases e
    exact ⟨fun q => by omega, by rw [alloc_size]; omega⟩
  · rintro e W' ⟨rfl, vh', q⟩
    exact ⟨rfl, vh', q.unbase (h.kp.nothing g)⟩

theorem rd_kp {W W' : World} {S : Nat → Prop} {a : Option Addr} {l : List Int} (h : Rd W a l) (k : Kp S W W') (hn : ∀ b off, a = some ⟨b, off, none⟩ → ¬ S b) : Rd W' a l := ⟨h.1, fun hne => by
  obtain ⟨b, off, e, hc⟩ := h.2 hne
  refine ⟨b, off, e, fun i hi => ?_⟩
  rw [World.cell?_of_block (w := W) (w' := W') (k.block b (World.block_lt_of_cell? _ _ (hc i hi)) (hn b off e))]
  exact hc i hi⟩
theorem kp_none {w W : World} (k : Kp (fun _ => False) w W) : w.grownBy W none := ⟨k.os, k.tape, k.output, k.size, fun g hg _ => k.block g hg (fun h => h)⟩

abbrev T8 : List Int := [97, 98, 99, 100, 101, 102, 103, 104]
abbrev sh1 : Sd := ⟨10, T8, 0, 0, [], [], false, 0, false⟩
abbrev sh2 : Sd := ⟨10, T8, 3, 0, [], [], false, 0, false⟩
abbrev sh3 : Sd := ⟨10, T8, 5, 0, [], [], false, 0, false⟩

theorem shown_ok (w : World) : Calls Try.prog 6 #[] w fun e w' => e = .returned (.bool true) ∧ w.grownBy w' none := by
  have k0 : SdOk (new0 10) := sdok_new ⟨by omega, by omega⟩
  have k1 : SdOk sh1 := sdok_write (p := T8) k0 (by decide)
  have du1 : dueS sh1 3 5 = (0, 3, true) := by decide
  have k2 : SdOk sh2 := sdok_next k1 (by decide) (due_ok k1 du1)
  have du2 : dueS sh2 9 5 = (3, 5, true) := by decide
  have k3 : SdOk sh3 := sdok_next k2 (by decide) (due_ok k2 du2)
  have hnew := new_at 10 w ⟨by omega, by omega⟩
  go_enter Try.func6, Try.ntmps6
  go_wp2_with fail
  refine hnew.mono ?_
  rintro e W1 ⟨b, ba, bl, rfl, h1⟩
  have hbad := new_bad 0 W1 (by omega)
  have H1 := hide h1
  clear hnew h1
  go_wp2_with fail
  refine hbad.mono ?_
  rintro e W1' ⟨rfl, rfl⟩
  clear hbad
  have hw1 := write_new (unhide H1) k0 T8 (8, 9) (by simp [IsB]) (by simp) (by simp [wr, new0])
  rw [show writeE (new0 10) T8.length = 0 by decide, show writeS (new0 10) T8 = sh1 by rfl] at hw1
  simp only [T8, List.length_cons, List.length_nil, by8, List.map_cons, List.map_nil, Nat.reduceAdd, Nat.zero_add] at hw1
  have hcv1 := Lib.run_convert_bytes_const (P := Try.prog) W1' 33 5 #[.int .u8 97, .int .u8 98, .int .u8 99, .int .u8 100, .int .u8 101, .int .u8 102, .int .u8 103, .int .u8 104] 8 8 Try.underlying33 Try.underlying5
  simp only [List.size_toArray, List.length_cons, List.length_nil, Nat.reduceAdd, Nat.zero_add] at hcv1
  clear H1
  go_wp2_with fail
  refine hw1.mono ?_
  rintro e W2 ⟨rfl, vh2, h2⟩
  have hw2 := write_new h2 k1 [120, 121, 122] (3, 4) (by simp [IsB]) (by simp) (by decide)
  rw [show writeE sh1 ([120, 121, 122] : List Int).length = 3 by decide, show writeS sh1 [120, 121, 122] = sh1 by unfold writeS; rw [if_neg (by decide)]] at hw2
  simp only [List.length_cons, List.length_nil, by8, List.map_cons, List.map_nil, Nat.reduceAdd, Nat.zero_add] at hw2
  have hcv2 := Lib.run_convert_bytes_const (P := Try.prog) W2 33 5 #[.int .u8 120, .int .u8 121, .int .u8 122] 3 3 Try.underlying33 Try.underlying5
  simp only [List.size_toArray, List.length_cons, List.length_nil, Nat.reduceAdd, Nat.zero_add] at hcv2
  clear hw1 hcv1 h2
  go_wp2_with fail
  refine hw2.mono ?_
  rintro e W3 ⟨rfl, vh3, h3⟩
  have hn1 := next_any h3 k1 (by decide) 3 5 (by decide)
  unfold NextPost at hn1
  rw [show nextS sh1 3 5 = sh2 by rfl] at hn1
  simp only [du1, if_true, Bool.true_and] at hn1
  rw [show endB sh1 3 = false by decide, show pieceT sh1.T 0 3 = [97, 98, 99] by rfl] at hn1
  clear hw2 hcv2
  have K3 := hide h3.kp
  clear h3
  go_wp2_with fail
  refine hn1.mono ?_
  rintro e W4 ⟨v1, rfl, h4, hb1, -, n1, hm1, hr1⟩
  obtain ⟨a1, c1, rfl, rd1, -⟩ := hb1.ex
  have hn2 := next_any hr1 k2 (by decide) 9 5 (by decide)
  unfold NextPost at hn2
  rw [show nextS sh2 9 5 = sh3 by rfl] at hn2
  simp only [du2, if_true, Bool.true_and] at hn2
  rw [show endB sh2 5 = false by decide, show pieceT sh2.T 3 5 = [100, 101] by rfl] at hn2
  have R1 := hide rd1
  have M1 := hide hm1
  have K4 := hide h4.kp
  clear hn1 hb1 hr1 rd1 hm1 h4
  simp only [List.length_cons, List.length_nil, Nat.reduceAdd, Nat.zero_add] at *
  go_wp2_with fail
  refine hn2.mono ?_
  rintro e W5 ⟨v2, rfl, h5, hb2, -⟩
  obtain ⟨a2, c2, rfl, rd2, -⟩ := hb2.ex
  have rd1 : Rd W5 a1 [97, 98, 99] := rd_kp (unhide R1) h5.kp (fun g off e q => by
    have := unhide M1 g (by rw [e]; rfl)
    omega)
  have G5 := hide (kp_none (h5.unbase (unhide K4)).kp)
  have hwt := waits_at h5 k3 (by decide) 5 (by decide)
  have hwt2 := fun X (g : W5.grownBy X none) => waits_at (h5.grown g) k3 (by decide) 6 (by decide)
  rw [show (dueS sh3 1 5).2.2 = false by decide] at hwt
  rw [show (dueS sh3 1 6).2.2 = true by decide] at hwt2
  have R1' := hide rd1
  have R2 := hide rd2
  clear hn2 hb2 rd2 rd1 R1 M1 h5 K3 K4
  simp only [List.length_cons, List.length_nil, Nat.reduceAdd, Nat.zero_add] at *
  go_wp2_with fail
  refine hwt.mono ?_
  rintro e W6 ⟨rfl, g6⟩
  have hwt3 := hwt2 W6 g6
  have G6 := hide g6
  clear hwt hwt2 g6
  go_wp2_with fail
  refine hwt3.mono ?_
  rintro e W7 ⟨rfl, g7⟩
  have g57 := grown_trans (unhide G6) g7
  have hcv1 := conv_rd W7 a1 [97, 98, 99] 3 c1 rfl ((unhide R1').grow g57)
  have hcv2 := conv_rd W7 a2 [100, 101] 2 c2 rfl ((unhide R2).grow g57)
  have hs1 : ((strOfNums [97, 98, 99]).toList == [97, 98, 99]) = true := by rw [str_toList]; decide
  have hs2 : ((strOfNums [100, 101]).toList == [100, 101]) = true := by rw [str_toList]; decide
  have GG := hide (grown_trans (unhide G5) g57)
  clear hwt3 g7 g57 G5 G6 R1' R2
  go_wp2
  go_ret
  exact ⟨rfl, unhide GG⟩
end Go.Proofs.Ytdalekjpjnhboaa
