/- shown: the document's first examples. -/
import Derived.Test.YthihabjegpacaaaT7B
import Derived.Laws.BytesArg
import Derived.Lib.SlBytesConst
namespace Go.Proofs.Ythihabjegpacaaa
open Go.RowKit
set_option linter.unusedVariables false
set_option maxHeartbeats 1000000
set_option maxRecDepth 100000

theorem conv_rd (w : World) (a : Option Addr) (l : List Int) (n cap : Nat) (hn : l.length = n) (hr : Rd w a l) :
    (convert 22 9 (.slice a n cap)).run Try.prog w = .ok (.string (strOfNums l)) w := by
  subst hn
  by_cases h : l = []
  · subst h
    rw [run_convert_bytes_string w 22 9 5 _ _ cap Try.underlying22 Try.underlying5 Try.underlying9]
    cases a <;> simp [Conv.bytesToString, loadCells]
    all_goals rfl
  · obtain ⟨b, off, rfl, hc⟩ := hr.2 h
    exact run_convert_bytes_arg w 22 5 Try.underlying22 Try.underlying5 b off _ cap l rfl hc 9 Try.underlying9
theorem str_toList (l : List Int) : (strOfNums l).toList = l.map fun n => UInt8.ofNat n.toNat := by
  rw [ByteArray.toList_eq]
  rfl
theorem kp_none {w W : World} (k : Kp (fun _ => False) w W) : w.grownBy W none := ⟨k.os, k.tape, k.output, k.size, fun g hg _ => k.block g hg (fun h => h)⟩
theorem rd_blk {W : World} {g : Nat} {p : List Int} {t : TypeId} (h : Blk W g (by8 p) t) (hb : ∀ x ∈ p, IsB x) : Rd W (some ⟨g, 0, none⟩) p := ⟨hb, fun _ => ⟨_, 0, rfl, fun i hi => by
  rw [Nat.zero_add]
  exact h.cell i _ (by8_get p i _ (by simp [List.getD, hi]))⟩⟩

/-- Take of bytes that the caller has just made. -/
theorem take_new {w W : World} {M : Nat → Prop} {b bk : Nat} {vh : Value} {E : List He} {S : Rv} (h : RA w M b bk vh E W S) (hok : RvOk S) (hE : HeOk S E) (nE : E.length ≤ 100000000) (nK : S.K.length ≤ 100000000) (off : Int) (p : List Int) (fin : Bool) (f : Nat × Nat) (hb : ∀ x ∈ p, IsB x) (hp : p.length ≤ 100000000) :
    Calls Try.prog 9 #[ptr b, .int .i64 off, .slice (some ⟨W.heap.size, 0, none⟩) p.length p.length, .bool fin] (W.alloc (.cells (by8 p) 5 f)) fun e W' => e = .returned (.tuple #[.int .i64 (takeN S off p.length fin), .int .i64 (takeE S off p.length fin)]) ∧ TakeP w M b bk E (takeS S off p fin) p.length W' ∧ Kp (fun k => (M k ∨ w.heap.size ≤ k) ∧ k < W.heap.size) W W' := by
  have g : W.grownBy (W.alloc (.cells (by8 p) 5 f)) none := grown_alloc _ _
  have hrd : Rd (W.alloc (.cells (by8 p) 5 f)) (some ⟨W.heap.size, 0, none⟩) p := ⟨hb, fun _ => ⟨_, 0, rfl, fun i hi => by
    unfold World.cell?
    simp only [heap_alloc_new, Nat.zero_add]
    exact by8_get p i _ (by simp [List.getD, hi])⟩⟩
  refine (take_at (h.rebase g) hok hE nE nK off _ p.length p.length fin p hrd (fun _ pb off e => ?_) rfl ⟨Nat.le_refl _, by omega⟩ hp).mono ?_
  · cases e
    exact ⟨fun q => by omega, by rw [alloc_size]; omega⟩
  · rintro e W' ⟨rfl, vh', E', q, q2, q3⟩
    exact ⟨rfl, ⟨vh', E', q.unbase (h.kp.nothing g), q2, q3⟩, ⟨q.kp.os.trans g.os, q.kp.tape.trans g.tape, q.kp.output.trans g.output, Nat.le_trans g.size q.kp.size, fun k hk hn => (q.kp.block k (Nat.lt_of_lt_of_le hk g.size) hn).trans (g.block k hk (by simp))⟩⟩

abbrev sh1 : Rv := takeG (newRv 10) 4 [101, 102] false
abbrev sh2 : Rv := takeG sh1 2 [88, 89, 90] false
abbrev sh3 : Rv := takeG sh2 0 [97, 98] false
abbrev sh4 : Rv := readS sh3 3

theorem sh_row {n : Nat} (h : RowN sh3 3 n) : n = 3 := by
  have h1 := h.le
  have h2 := h.end_
  have h3 : (n : Int) ≤ 3 := by omega
  have : n = 0 ∨ n = 1 ∨ n = 2 ∨ n = 3 := by omega
  rcases this with rfl | rfl | rfl | rfl
  · rcases h2 with q | q
    · exact absurd q (by decide)
    · exact absurd q (by decide)
  · rcases h2 with q | q
    · exact absurd q (by decide)
    · exact absurd q (by decide)
  · rcases h2 with q | q
    · exact absurd q (by decide)
    · exact absurd q (by decide)
  · rfl

theorem shown_ok (w : World) : Calls Try.prog 6 #[] w fun e w' => e = .returned (.bool true) ∧ w.grownBy w' none := by
  have k0 : RvOk (newRv 10) := rvok_new ⟨by omega, by omega⟩
  have k1 : RvOk sh1 := rvok_take k0 (by simp [IsB]) (by decide)
  have k2 : RvOk sh2 := rvok_take k1 (by simp [IsB]) (by decide)
  have k3 : RvOk sh3 := rvok_take k2 (by simp [IsB]) (by decide)
  have hnew := new_at 10 w ⟨by omega, by omega⟩
  go_enter Try.func6, Try.ntmps6
  go_wp2_with fail
  refine hnew.mono ?_
  rintro e W1 ⟨b, bk, rfl, h1⟩
  have hbad := new_bad (-1) W1 (by omega)
  have H1 := hide h1
  clear hnew h1
  go_wp2_with fail
  refine hbad.mono ?_
  rintro e W1' ⟨rfl, rfl⟩
  clear hbad
  have hw1 := take_new (unhide H1) k0 (heok_new 10) (by simp) (by decide) 4 [101, 102] false (2, 3) (by simp [IsB]) (by simp)
  rw [show takeN (newRv 10) 4 ([101, 102] : List Int).length false = 6 by decide, show takeE (newRv 10) 4 ([101, 102] : List Int).length false = 0 by decide, show takeS (newRv 10) 4 [101, 102] false = sh1 by unfold takeS; rw [if_pos (by decide)]] at hw1
  simp only [List.length_cons, List.length_nil, by8, List.map_cons, List.map_nil, Nat.reduceAdd, Nat.zero_add] at hw1
  have hcv1 := Lib.run_convert_bytes_const (P := Try.prog) W1' 22 5 #[.int .u8 101, .int .u8 102] 2 2 Try.underlying22 Try.underlying5
  simp only [List.size_toArray, List.length_cons, List.length_nil, Nat.reduceAdd, Nat.zero_add] at hcv1
  clear H1
  go_wp2_with fail
  refine hw1.mono ?_
  rintro e W2 ⟨rfl, ⟨vh2, E2, h2, e2, l2⟩, -⟩
  have hw2 := take_new h2 k1 e2 (by simp at l2; omega) (by decide) 2 [88, 89, 90] false (3, 4) (by simp [IsB]) (by simp)
  rw [show takeN sh1 2 ([88, 89, 90] : List Int).length false = 0 by decide, show takeE sh1 2 ([88, 89, 90] : List Int).length false = 0 by decide, show takeS sh1 2 [88, 89, 90] false = sh2 by unfold takeS; rw [if_pos (by decide)]] at hw2
  simp only [List.length_cons, List.length_nil, by8, List.map_cons, List.map_nil, Nat.reduceAdd, Nat.zero_add] at hw2
  have hcv2 := Lib.run_convert_bytes_const (P := Try.prog) W2 22 5 #[.int .u8 88, .int .u8 89, .int .u8 90] 3 3 Try.underlying22 Try.underlying5
  simp only [List.size_toArray, List.length_cons, List.length_nil, Nat.reduceAdd, Nat.zero_add] at hcv2
  have L2 := hide l2
  clear hw1 hcv1 h2 e2 l2
  go_wp2_with fail
  refine hw2.mono ?_
  rintro e W3 ⟨rfl, ⟨vh3, E3, h3, e3, l3⟩, -⟩
  have l2 := unhide L2
  have hw3 := take_new h3 k2 e3 (by simp at l2 l3; omega) (by decide) 0 [97, 98] false (2, 3) (by simp [IsB]) (by simp)
  rw [show takeN sh2 0 ([97, 98] : List Int).length false = 0 by decide, show takeE sh2 0 ([97, 98] : List Int).length false = 0 by decide, show takeS sh2 0 [97, 98] false = sh3 by unfold takeS; rw [if_pos (by decide)]] at hw3
  simp only [List.length_cons, List.length_nil, by8, List.map_cons, List.map_nil, Nat.reduceAdd, Nat.zero_add] at hw3
  have hcv3 := Lib.run_convert_bytes_const (P := Try.prog) W3 22 5 #[.int .u8 97, .int .u8 98] 2 2 Try.underlying22 Try.underlying5
  simp only [List.size_toArray, List.length_cons, List.length_nil, Nat.reduceAdd, Nat.zero_add] at hcv3
  have L3 := hide l3
  clear hw2 hcv2 h3 e3 l3 l2
  go_wp2_with fail
  refine hw3.mono ?_
  rintro e W4 ⟨rfl, ⟨vh4, E4, h4, e4, l4⟩, -⟩
  have l2 := unhide L2
  have l3 := unhide L3
  have nE4 : E4.length ≤ 7 := by simp at l2 l3; omega
  have hrd := read_at h4 k3 e4 (by omega) 3 (by omega) (fun n q => by have := sh_row q; omega)
  have K4 := hide h4.kp
  have NE := hide nE4
  clear hw3 hcv3 h4 e4 l4 l2 l3 L2 L3 nE4
  go_wp2_with fail
  refine hrd.mono ?_
  rintro e W5 ⟨n, g, rfl, q⟩
  obtain rfl := sh_row q.row
  have q1 := q.blk
  obtain ⟨V, vh5, E5, v1, v2, v3, h5, e5, l5⟩ := q.ra
  rw [show (readS sh3 3).ended = false by decide]
  have hw5 := take_new h5 (rvok_read k3 q.row) e5 (by have := unhide NE; omega) (by decide) 8 [105, 106, 107] false (3, 4) (by simp [IsB]) (by simp)
  rw [show takeN (readS sh3 3) 8 ([105, 106, 107] : List Int).length false = 0 by decide, show takeE (readS sh3 3) 8 ([105, 106, 107] : List Int).length false = 160 by decide] at hw5
  simp only [List.length_cons, List.length_nil, by8, List.map_cons, List.map_nil, Nat.reduceAdd, Nat.zero_add] at hw5
  have hcv5 := Lib.run_convert_bytes_const (P := Try.prog) W5 22 5 #[.int .u8 105, .int .u8 106, .int .u8 107] 3 3 Try.underlying22 Try.underlying5
  simp only [List.size_toArray, List.length_cons, List.length_nil, Nat.reduceAdd, Nat.zero_add] at hcv5
  have V1 := hide v1; have V2 := hide v2; have V3 := hide v3; have Q1 := hide q1
  clear hrd h5 e5 l5 q v1 v2 v3 q1
  go_wp2_with fail
  refine hw5.mono ?_
  rintro e W6 ⟨rfl, ⟨vh6, E6, h6, e6, l6⟩, k6⟩
  have b6 : Blk W6 g (by8 [97, 98, 88]) 5 := by
    have q1 := unhide Q1
    have : bytesT sh3 3 = [97, 98, 88] := by decide
    rw [this] at q1
    exact (k6.block g q1.lt (fun z => by have := unhide V2; have := unhide V3; omega)).trans q1
  have G6 := hide (kp_none (h6.unbase ((unhide K4).nothing (unhide V1))).kp)
  have hcv := conv_rd W6 (some ⟨g, 0, none⟩) [97, 98, 88] 3 3 rfl (rd_blk b6 (by simp [IsB]))
  have hs : ((strOfNums [97, 98, 88]).toList == [97, 98, 88]) = true := by rw [str_toList]; decide
  clear hw5 hcv5 h6 e6 l6 k6 b6 V1 V2 V3 Q1 K4 NE
  go_wp2
  go_ret
  exact ⟨rfl, unhide G6⟩
end Go.Proofs.Ythihabjegpacaaa
