/- F1E, F1K, G4D, F1C, one text. -/
import Derived.Test.YtggjeamondampaaM4D
import Derived.Test.YtggjeamondampaaF1A
import Derived.Test.YtggjeamondampaaM4A
import Derived.Lib.SlBytesConst
import Derived.Laws.IdiomStrings
import Derived.Laws.BytesArg
import Derived.Deep.RegionHeld3
import Derived.Test.YtggjeamondampaaFM
import Derived.Test.YtggjeamondampaaFY5
namespace Go.Proofs.Ytggjeamondampaa
open Go.RowKit
set_option linter.unusedVariables false
set_option maxRecDepth 100000
set_option maxHeartbeats 2000000

def fA : Fr := ⟨6, 0, 300, [97, 98, 99], 0, false, false, 0, false, 0, false, 0, [], false, 0, 0, 0⟩
def bA : List Int := [6, 65, 44, 3, 97, 98, 99]
theorem enc_A : encF fA = (bA, 0) := by kernel_rfl
def fB : Fr := ⟨2, 0, 0, [], 0, false, false, 0, false, 0, false, 0, [(5, 5), (0, 0)], false, 0, 0, 0⟩
theorem dec_B : decF [2, 5, 0, 1, 0, 3, 0] = .inl (fB, []) := by kernel_rfl

theorem conv_rd (w : World) (a : Option Addr) (l : List Int) (n cap : Nat) (hn : l.length = n) (hr : Rd w a l) :
    (convert 22 9 (.slice a n cap)).run Try.prog w = .ok (.string (strOfNums l)) w := by
  subst hn
  by_cases h : l = []
  · subst h
    rw [run_convert_bytes_string w 22 9 5 _ _ cap Try.underlying22 Try.underlying5 Try.underlying9]
    cases a <;> simp [Conv.bytesToString, loadCells]
    all_goals rfl
  · obtain ⟨b, off, rfl, hc⟩ := hr.2 h
    exact run_convert_bytes_arg w 22 5 Try.underlying22 Try.underlying5 b off _ cap l rfl hc 9 Try.underlying9
theorem str_toList (l : List Int) : (strOfNums l).toList = l.map fun n => UInt8.ofNat n.toNat := by
  rw [ByteArray.toList_eq]
  rfl
theorem InS.mark (w : World) (l : List Int) (n : Nat) (fr : Nat × Nat) (hn : l.length = n) (hm : n ≤ maxLen) (hb : ∀ x ∈ l, IsB x) : InS (w.alloc (.cells (l.map (Value.int .u8)).toArray 5 fr)) (.slice (some ⟨w.heap.size, 0, none⟩) n n) l := by
  subst hn
  refine ⟨_, _, rfl, ⟨hb, fun _ => ⟨_, _, rfl, fun i hi => ?_⟩⟩, Nat.le_refl _, hm, fun x e _ => ?_⟩
  · rw [Nat.zero_add, World.cell?_alloc_mark]
    simp [List.getD, hi]
  · cases e
    exact ⟨by show _ < (w.heap.push _).size; simp, _, _, rfl⟩
theorem InS.keep {w W : World} {v : Value} {l : List Int} (h : InS w v l) (g : w.grownBy W none) : InS W v l := by
  obtain ⟨a, c, e, h1, h2, h3, h4⟩ := h.ex
  exact ⟨a, c, e, h1.grow g, h2, h3, fun x hx hc => ⟨Nat.lt_of_lt_of_le (h4 x hx hc).1 g.size, (h4 x hx hc).2⟩⟩
theorem OwnB.inS {base : Nat} {w : World} {v : Value} {T : List Int} (h : OwnB base w v T) (hb : ∀ x ∈ T, IsB x) : InS w v T := by
  obtain ⟨a, c, e, h1, h2, h3⟩ := h.rd hb
  rcases h.2 with ⟨e1, e2⟩ | ⟨g, c', cur, e1, q1, q2, q3, q4, q5, q6⟩
  · rw [e1] at e
    injection e with ea eb ec
    exact ⟨none, 0, by rw [e1, e2], by rw [ea]; exact h1, by omega, by unfold maxLen; omega, fun x hx => by cases hx⟩
  · rw [e1] at e
    injection e with ea eb ec
    subst ea ec
    exact ⟨_, c', e1, h1, q3, q4, fun x hx _ => by cases hx; exact ⟨(Array.getElem?_eq_some_iff.1 q2).1, _, _, rfl⟩⟩

theorem awake_any (w : World) : Calls Try.prog 9 #[] w fun e w' => e = .returned (.bool true) ∧ w.grownBy w' none := by
  have cA := Lib.run_convert_bytes_const (P := Try.prog) w 22 5 #[.int .u8 97, .int .u8 98, .int .u8 99] 3 3 Try.underlying22 Try.underlying5
  have i1 : InS (w.alloc (.cells #[.int .u8 97, .int .u8 98, .int .u8 99] 5 (3, 4))) (.slice (some ⟨w.heap.size, 0, none⟩) 3 3) [97, 98, 99] := InS.mark w [97, 98, 99] 3 (3, 4) rfl (by unfold maxLen; omega) (by simp [IsB])
  have g1 := (World.grownBy_alloc w (.cells #[.int .u8 97, .int .u8 98, .int .u8 99] 5 (3, 4)) none).trans (World.grownBy_alloc _ (.cells (fA.cs (.slice (some ⟨w.heap.size, 0, none⟩) 3 3) nilS) 26) none)
  have i2 := i1.keep (World.grownBy_alloc _ (.cells (fA.cs (.slice (some ⟨w.heap.size, 0, none⟩) 3 3) nilS) 26) none)
  have t1 : TS ((w.alloc (.cells #[.int .u8 97, .int .u8 98, .int .u8 99] 5 (3, 4))).alloc (.cells (fA.cs (.slice (some ⟨w.heap.size, 0, none⟩) 3 3) nilS) 26)) (.slice (some ⟨w.heap.size, 0, none⟩) 3 3) fA.data := by
    obtain ⟨a, c, e, h1, h2, h3, -⟩ := i2.ex
    exact ⟨a, c, e, h1, h2, by unfold maxLen at h3; omega⟩
  have f1 : FrIn ((w.alloc (.cells #[.int .u8 97, .int .u8 98, .int .u8 99] 5 (3, 4))).alloc (.cells (fA.cs (.slice (some ⟨w.heap.size, 0, none⟩) 3 3) nilS) 26)) fA (.slice (some ⟨w.heap.size, 0, none⟩) 3 3) nilS :=
    ⟨⟨_, _, rfl, by decide, by decide⟩, ⟨_, _, rfl, fun h => absurd rfl h, by decide, by decide⟩, fun s hs => by cases hs⟩
  have en := encode_any fA _ _ _ f1 t1 (by decide) (by decide) (by decide)
  rw [enc_A] at en
  have G1 := hide g1
  clear g1 i1 i2 t1 f1
  go_enter Try.func9, Try.ntmps9
  have bF0 := Blk.new (w.alloc (.cells #[.int .u8 97, .int .u8 98, .int .u8 99] 5 (3, 4))) (fA.cs (.slice (some ⟨w.heap.size, 0, none⟩) 3 3) nilS) 26
  have es1 : (w.alloc (.cells #[.int .u8 97, .int .u8 98, .int .u8 99] 5 (3, 4))).heap.size = w.heap.size + 1 := by show (w.heap.push _).size = _; simp
  rw [es1] at bF0
  go_upto_region 2 with (refine wpList_store_new _ Z17 (fA.cs (.slice (some ⟨w.heap.size, 0, none⟩) 3 3) nilS) (w.heap.size + 1) rfl _ _ _ rfl es1 rfl rfl Try.size26 rfl (one17 fA _ _ rfl rfl) ?_)
  go_wp2_with (refine wpList_load_row rfl _ _ rfl (w.heap.size + 1) rfl 26 (fA.cs (.slice (some ⟨w.heap.size, 0, none⟩) 3 3) nilS) (0, 0) _ bF0 Try.underlying26 rfl Try.size26 ?_)
  refine en.mono ?_
  rintro e W3 ⟨v, rfl, o3, g3⟩
  have bb : ∀ x ∈ bA, IsB x := by simp [bA, IsB]
  obtain ⟨a, c, rfl, rd3, -, -⟩ := o3.rd bb
  have hlA : bA.length = 7 := rfl
  rw [hlA]
  have cB := Lib.run_convert_bytes_const (P := Try.prog) W3 22 5 #[.int .u8 2, .int .u8 5, .int .u8 0, .int .u8 1, .int .u8 0, .int .u8 3, .int .u8 0] 7 7 Try.underlying22 Try.underlying5
  have j1 : InS (W3.alloc (.cells #[.int .u8 2, .int .u8 5, .int .u8 0, .int .u8 1, .int .u8 0, .int .u8 3, .int .u8 0] 5 (7, 8))) (.slice (some ⟨W3.heap.size, 0, none⟩) 7 7) [2, 5, 0, 1, 0, 3, 0] := InS.mark W3 [2, 5, 0, 1, 0, 3, 0] 7 (7, 8) rfl (by unfold maxLen; omega) (by simp [IsB])
  have de := decode_in (k := 0) j1 (by simp) (by simp)
  have g4 := World.grownBy_alloc W3 (.cells #[.int .u8 2, .int .u8 5, .int .u8 0, .int .u8 1, .int .u8 0, .int .u8 3, .int .u8 0] 5 (7, 8)) none
  have G4 := hide (((unhide G1).trans g3).trans g4)
  have R4 := hide (rd3.grow g4)
  clear en cA o3 g3 rd3 j1 g4 G1
  go_wp2_with fail
  refine de.mono ?_
  rintro e W5 (⟨f', l1, d', r', h1, rfl, o1, o2, g5⟩ | ⟨e', h1, -⟩)
  case inr => rw [List.drop_zero, dec_B] at h1; cases h1
  rw [List.drop_zero, dec_B] at h1
  cases h1
  obtain ⟨pa, pc, rfl, rr, rl1, rl2⟩ := o2.rd
  obtain ⟨qa, qc, rfl⟩ := o1.shape
  have g6 := World.grownBy_alloc W5 (.cells (fB.cs (.slice qa fB.data.length qc) (.slice pa fB.runs.length pc)) 26) none
  have g7 := World.grownBy_alloc (W5.alloc (.cells (fB.cs (.slice qa fB.data.length qc) (.slice pa fB.runs.length pc)) 26)) (.cells #[.int .i64 5, .int .i64 5, .int .i64 0, .int .i64 0] 81) none
  have r2 : RdR ((W5.alloc (.cells (fB.cs (.slice qa fB.data.length qc) (.slice pa fB.runs.length pc)) 26)).alloc (.cells #[.int .i64 5, .int .i64 5, .int .i64 0, .int .i64 0] 81)) (some ⟨(W5.alloc (.cells (fB.cs (.slice qa fB.data.length qc) (.slice pa fB.runs.length pc)) 26)).heap.size, 0, none⟩) fB.runs := fun _ => ⟨_, 0, rfl, fun i hi => by
    have B := Blk.new (W5.alloc (.cells (fB.cs (.slice qa fB.data.length qc) (.slice pa fB.runs.length pc)) 26)) #[.int .i64 5, .int .i64 5, .int .i64 0, .int .i64 0] 81
    match i, hi with
    | 0, _ => exact ⟨B.cell 0 _ rfl, B.cell 1 _ rfl⟩
    | 1, _ => exact ⟨B.cell 2 _ rfl, B.cell 3 _ rfl⟩⟩
  have sr := sameRuns_any pa _ 2 pc 2 fB.runs fB.runs _ rfl rfl (rr.grow (g6.trans g7)) r2 ⟨rl1, rl2⟩ (by omega)
  have esz : (W5.alloc (.cells (fB.cs (.slice qa fB.data.length qc) (.slice pa fB.runs.length pc)) 26)).heap.size = W5.heap.size + 1 := by show (W5.heap.push _).size = _; simp
  rw [esz] at sr
  simp only [decide_true] at sr
  have bF := (Blk.new W5 (fB.cs (.slice qa fB.data.length qc) (.slice pa fB.runs.length pc)) 26).grown g7
  have HF := hide (And.intro bF (And.intro ((unhide G4).trans (g5.trans (g6.trans g7))) ((unhide R4).grow (g5.trans (g6.trans g7)))))
  clear de cB o1 o2 rr g6 g7 r2 esz bF G4 R4 g5 rl1 rl2
  have hl2 : fB.runs.length = 2 := rfl
  have hl0 : fB.data.length = 0 := rfl
  rw [hl2, hl0] at sr HF ⊢
  go_upto_region 4 with (refine wpList_store_new _ Z17 (fB.cs (.slice qa 0 qc) (.slice pa 2 pc)) W5.heap.size rfl _ _ _ rfl rfl rfl rfl Try.size26 rfl (one17 fB _ _ rfl rfl) ?_)
  have c12 := (Blk.new W5 (fB.cs (.slice qa 0 qc) (.slice pa 2 pc)) 26).cell 12 (.slice pa 2 pc) rfl
  go_wp2_with fail
  refine sr.mono ?_
  rintro e W8 ⟨rfl, g8⟩
  obtain ⟨bF, gF, rF⟩ := unhide HF
  have k0 := (bF.grown g8).cell 0 (.int .i64 2) rfl
  have cv := conv_rd W8 a bA 7 c rfl (rF.grow g8)
  have hs1 : ((strOfNums bA).toList == [6, 65, 44, 3, 97, 98, 99]) = true := by rw [str_toList]; decide
  have G := hide (gF.trans g8)
  clear sr HF bF gF rF g8
  go_wp2
  go_ret
  exact ⟨rfl, unhide G⟩
end Go.Proofs.Ytggjeamondampaa

namespace Go.Proofs.Ytggjeamondampaa
open Go.RowKit
set_option linter.unusedVariables false
set_option maxRecDepth 100000
set_option maxHeartbeats 1000000

def Er (e : Int) : Prop := e = 40 ∨ e = 42
theorem runF_err {hi : Int} {l : List Int} {e : Int} (h : runF hi l = .inr e) : Er e := by
  unfold runF at h
  split at h
  · cases h; exact .inr rfl
  · split at h
    · cases h; exact .inl rfl
    · split at h
      · cases h; exact .inr rfl
      · cases h
theorem moreF_err : ∀ (n : Nat) {lo : Int} {l : List Int} {e : Int}, moreF n lo l = .inr e → Er e := by
  intro n
  induction n with
  | zero => intro lo l e h; cases h
  | succ n ih =>
    intro lo l e h
    simp only [moreF] at h
    split at h
    · cases h; exact .inl rfl
    · split at h
      · rename_i hr; cases h; exact runF_err hr
      · split at h
        · rename_i hr; cases h; exact ih hr
        · cases h
theorem runsF_err {hi : Int} {l : List Int} {e : Int} (h : runsF hi l = .inr e) : Er e := by
  unfold runsF at h
  split at h
  · cases h; exact .inl rfl
  · split at h
    · rename_i hr; cases h; exact runF_err hr
    · split at h
      · rename_i hr; cases h; exact moreF_err _ hr
      · cases h
theorem bytesF_err {off n : Int} {l : List Int} {e : Int} (h : bytesF off n l = .inr e) : Er e := by
  unfold bytesF at h
  split at h
  · cases h; exact .inr rfl
  · split at h
    · cases h; exact .inl rfl
    · cases h
theorem readP_err {p : Nat} {g : Fr} {l : List Int} {e : Int} (h : readP p g l = .inr e) : Er e := by
  unfold readP at h
  split at h
  · cases h
  split at h
  · cases h
  split at h
  · split at h
    · cases h; exact .inl rfl
    · cases h
  split at h
  · split at h
    · rename_i hr; cases h; exact runsF_err hr
    · cases h
  split at h
  · split at h
    · cases h; exact .inl rfl
    · split at h
      · cases h; exact .inl rfl
      · split at h
        · cases h; exact .inl rfl
        · cases h
  split at h
  · split at h
    · cases h; exact .inl rfl
    · split at h
      · rename_i hr; cases h; exact bytesF_err hr
      · cases h
  split at h
  · split at h
    · rename_i hr; cases h; exact bytesF_err hr
    · cases h
  split at h
  · split at h
    · rename_i hr; cases h; exact bytesF_err hr
    · cases h
  · split at h
    · cases h; exact .inl rfl
    · split at h
      · cases h; exact .inr rfl
      · cases h
theorem bind_err {x : (Fr × List Int) ⊕ Int} {k : Fr → List Int → (Fr × List Int) ⊕ Int} {e : Int} (hx : ∀ e, x = .inr e → Er e) (hk : ∀ f l e, k f l = .inr e → Er e) (h : bind' x k = .inr e) : Er e := by
  unfold bind' at h
  split at h
  · cases h; exact hx _ rfl
  · exact hk _ _ _ h
theorem decF_err {l : List Int} {e : Int} (h : decF l = .inr e) : e = 40 ∨ e = 41 ∨ e = 42 := by
  unfold decF at h
  split at h
  · cases h; exact .inl rfl
  · split at h
    · cases h; exact .inr (.inl rfl)
    · split at h
      · cases h; exact .inr (.inl rfl)
      · have : Er e := by
          unfold readPs at h
          exact bind_err (fun e he => readP_err he) (fun f l e he => bind_err (fun e he => readP_err he) (fun f l e he => bind_err (fun e he => readP_err he) (fun f l e he => readP_err he) he) he) h
        unfold Er at this
        omega

theorem tell_runs {f : Fr} {n rs : List Int} (h : tellF f = .inl (n, rs)) : (∀ s ∈ f.runs, -9223372036854775808 ≤ s.1 ∧ s.1 ≤ 9223372036854775807) ∧ (-9223372036854775808 ≤ f.kind ∧ f.kind ≤ 9223372036854775807) := by
  unfold tellF at h
  by_cases hk : isKindF f.kind = true
  · obtain ⟨bare, l, hs⟩ := type_some hk
    rw [if_pos hk, hs] at h
    simp only at h
    by_cases hm : mayF f bare l = true
    · refine ⟨fun s hs' => ?_, by have := kind_dom hk; omega⟩
      by_cases h9 : l.1 ≠ 9 ∧ l.2.1 ≠ 9 ∧ l.2.2.1 ≠ 9 ∧ l.2.2.2 ≠ 9
      · rw [may_runs hm h9] at hs'; cases hs'
      · have e9 : l.2.2.1 = 9 := by
          rcases shape_parts hs with e | e | e | e | e | e | e | e | e | e | e | e | e | e | e | e | e <;> (rw [e] at h9 ⊢ <;> (revert h9; decide))
        obtain ⟨⟨-, -, q3, -⟩, -⟩ := may_fields hm
        rw [e9] at q3
        have := (are_mem q3).2 s hs'
        unfold MAXN at this
        omega
    · rw [if_neg hm] at h; cases h
  · rw [if_neg hk] at h; cases h

/-- A frame that Decode made, as Encode takes it. -/
theorem own_in {base : Nat} {W : World} {f : Fr} {d r : Value} (h : OwnB base W d f.data) (hr : OwnR base W r f.runs) (hb : ∀ x ∈ f.data, IsB x) (h64 : ∀ s ∈ f.runs, -9223372036854775808 ≤ s.1 ∧ s.1 ≤ 9223372036854775807) : FrIn W f d r ∧ TS W d f.data := by
  obtain ⟨a, c, e, h1, h2, h3⟩ := h.rd hb
  exact ⟨⟨⟨a, c, e, h2, h3⟩, hr.rd, h64⟩, ⟨a, c, e, h1, h2, h3⟩⟩
theorem OwnR.keepN {base : Nat} {w w' : World} {v : Value} {T : List (Int × Int)} (h : OwnR base w v T) (g : w.grownBy w' none) : OwnR base w' v T := World.ownsRow.kept h g (by cases v.ownBlock <;> simp)

/-- Decode, its frame folded. -/
def DecFold (w : World) (l : List Int) (k : Nat) (e : Ending) (w' : World) : Prop :=
  (∃ (C : Array Value) (m : Nat), e = .returned (.tuple #[.agg C, .int .i64 (m : Int), .int .i64 0]) ∧ C.size = 17 ∧ C.all (·.oneCell') = true ∧ w.grownBy w' none ∧ Hid (∃ f' l1 d' r', decF (l.drop k) = .inl (f', l1) ∧ m = l.length - l1.length ∧ C = f'.cs d' r' ∧ OwnB w.heap.size w' d' f'.data ∧ OwnR w.heap.size w' r' f'.runs)) ∨
  (∃ e', decF (l.drop k) = .inr e' ∧ e = .returned (.tuple #[Fr.zero.val nilS nilS, .int .i64 0, .int .i64 e']) ∧ w.grownBy w' none)
theorem decode_folded {w : World} {v : Value} {l : List Int} {k : Nat} (h : InS w v l) (hk : k ≤ l.length) (hl : l.length ≤ 4000000000000) :
    Calls Try.prog 23 #[v, .int .i64 (k : Int)] w (DecFold w l k) := by
  refine (decode_in h hk hl).mono ?_
  rintro e w' (⟨f', l1, d', r', h1, rfl, o1, o2, g⟩ | ⟨e', h1, rfl, g⟩)
  · refine .inl ⟨_, _, rfl, rfl, ?_, g, f', l1, d', r', h1, rfl, rfl, o1, o2⟩
    apply one17
    · obtain ⟨a, c, e⟩ := o1.shape; rw [e]; rfl
    · obtain ⟨a, c, e, -⟩ := o2.rd; rw [e]; rfl
  · exact .inr ⟨e', h1, rfl, g⟩
end Go.Proofs.Ytggjeamondampaa

namespace Go.Proofs.Ytggjeamondampaa
open Go.RowKit
set_option linter.unusedVariables false
set_option linter.unusedSimpArgs false
set_option maxRecDepth 100000
set_option maxHeartbeats 4000000

/-- A copy of bytes. -/
theorem copied_any (a : Option Addr) (c n : Nat) (l : List Int) (w : World) (hn : l.length = n) (h : Rd w a l) (hl : l.length ≤ 100000000) (hc : n ≤ c ∧ c ≤ 9223372036854775807) :
    Calls Try.prog 53 #[.slice a n c] w fun e w' => ∃ v, e = .returned v ∧ OwnB w.heap.size w' v l ∧ w.grownBy w' none := by
  have HR := hide h
  have HN := hide hn
  have HL := hide hl
  clear h hn hl
  go_enter Try.func53, Try.ntmps53
  go_wp2
  go_loopw [3, 4] (fun v i wr => ∃ k : Nat, k ≤ n ∧ i = .int .i64 k ∧ Hid (OwnB w.heap.size wr v (l.take k) ∧ w.grownBy wr none)) (fun _ i _ => n - (intOf i).toNat)
  case atStart => exact ⟨0, Nat.zero_le _, rfl, World.ownsRow_nil _ _ _ _, World.grownBy.refl w none⟩
  case round =>
    obtain ⟨k, hk, rfl, H⟩ := hrel
    by_cases hlt : k < n
    · have hkL : k < l.length := by rw [unhide HN]; exact hlt
      have kI : (k : Int) < (n : Int) := by omega
      obtain ⟨b, off, rfl, hcs⟩ := (unhide HR).2 (fun e => by rw [e] at hkL; simp at hkL)
      have cv := cell_grown (hcs k hkL) (unhide H).2
      have tk := take_snoc l k hkL
      obtain ⟨va, vc, rfl⟩ := (unhide H).1.shape
      have lk : (l.take k).length = k := by simp; omega
      generalize l.getD k 0 = x at *
      have gA := World.grownBy_alloc wr (.cells #[.int .u8 x] 5) none
      obtain ⟨a4, c4', W4, hap, o4, g4⟩ := app_u8 (w0 := w) (xs := [x]) ⟨wr.heap.size, 0, none⟩ 1 1 ((unhide H).1.keepN gA) ((unhide H).2.trans gA) rfl (by omega) (fun j y hj => by
        match j, hj with
        | 0, hj =>
          cases hj
          rw [addr_add]
          unfold World.cell?
          rw [heap_alloc_new]
          rfl) (by have := unhide HL; rw [lk]; omega)
      rw [lk] at hap o4
      have E : Hid (OwnB w.heap.size W4 (.slice a4 (k + 1) c4') (l.take (k + 1)) ∧ w.grownBy W4 none) := ⟨by rw [tk]; exact o4, g4⟩
      rw [lk]
      have HLT := hide hlt
      clear H hcs tk lk gA o4 g4 hkL hlt hk
      go_wp2_with (at_builtin; refine wpList_append_run _ rfl (Operand.tmp 11) (Operand.tmp 16) 22 22 rfl (.slice va k vc) (.slice (some ⟨wr.heap.size, 0, none⟩) 1 1) rfl rfl (hap 22) ?_)
      exact ⟨⟨k + 1, unhide HLT, by go_num, unhide E⟩, by simp [intOf]; have := unhide HLT; omega⟩
    · obtain rfl : k = n := by omega
      have kI : ¬ (k : Int) < (k : Int) := by omega
      have eT : l.take k = l := by rw [← unhide HN]; simp
      rw [eT] at H
      go_wp2
      go_ret
      exact ⟨_, rfl, (unhide H).1, (unhide H).2⟩

/-- One run more, from a block of its own. -/
theorem app_span1 {base : Nat} {W : World} {v : Value} {T : List (Int × Int)} (x y : Int) (h : OwnR base W v T) (hbs : base ≤ W.heap.size) (hb : (T.length + 1) * 16 ≤ 140737488355328) :
    ∃ a' c' W', (∀ ty, (Builtin.append_ #[23, 23] ty #[v, .slice (some ⟨W.heap.size, 0, none⟩) 1 1]).run Try.prog (W.alloc (.cells #[.int .i64 x, .int .i64 y] 81)) = .ok (.slice a' (T.length + 1) c') W') ∧ OwnR base W' (.slice a' (T.length + 1) c') (T ++ [(x, y)]) ∧ (W.alloc (.cells #[.int .i64 x, .int .i64 y] 81)).grownBy W' v.ownBlock := by
  obtain ⟨inf, hi0, hz0, hz1, hz2⟩ := info_parts Try.info57
  have gA := World.grownBy_alloc W (.cells #[.int .i64 x, .int .i64 y] 81) none
  obtain ⟨v', W', hrn, ho, hgr, hnil⟩ := run_append_own (P := Try.prog) (W.alloc (.cells #[.int .i64 x, .int .i64 y] 81)) base 23 23 81 inf (.agg #[.int .i64 0, .int .i64 0]) 2 16 Try.underlying23 hi0 hz0 hz1 hz2 rfl (by decide) v T.length (clR T) (h.keepN gA) ⟨W.heap.size, 0, none⟩ 1 1 [.int .i64 x, .int .i64 y] rfl (fun j u hj => by
    rw [addr_add, cell_of_row _ _ j #[.int .i64 x, .int .i64 y] 81 (0, 0) (heap_alloc_new W _)]
    simpa using hj) (fun u hu => by
    rcases List.mem_cons.1 hu with rfl | hu
    · rfl
    · obtain rfl := List.mem_singleton.1 hu; rfl) (by unfold maxLen; omega) (by omega) (Nat.le_trans hbs gA.size)
  have e2 : (T ++ [(x, y)]).length = T.length + 1 := by simp
  have e3 : clR (T ++ [(x, y)]) = clR T ++ [.int .i64 x, .int .i64 y] := by simp [clR]
  obtain ⟨a', c', rfl⟩ : ∃ a' c', v' = .slice a' (T.length + 1) c' := by
    rcases ho.2 with ⟨e1, e2⟩ | ⟨g', c', cur, e1, -⟩
    · omega
    · exact ⟨_, _, e1⟩
  refine ⟨a', c', W', fun _ => hrn, ?_, hgr⟩
  unfold OwnR
  rw [e2, e3]
  exact ho
end Go.Proofs.Ytggjeamondampaa

namespace Go.Proofs.Ytggjeamondampaa
open Go.RowKit
set_option linter.unusedVariables false
set_option maxRecDepth 100000
set_option maxHeartbeats 4000000

def keepS (k : Int) : Nat := if k = 6 ∨ k = 8 then 2 else if k = 4 ∨ k = 5 ∨ k = 16 ∨ k = 17 ∨ k = 18 ∨ k = 20 ∨ k = 21 ∨ k = 22 ∨ k = 30 then 1 else 0
/-- What is kept of a frame. -/
def keepF (f : Fr) : Fr := if keepS f.kind = 2 then { f with size := (f.data.length : Int), data := [], tail := false } else if keepS f.kind = 1 then f else Fr.zero

def KeepPost (f : Fr) (w : World) (e : Ending) (w' : World) : Prop :=
  ∃ d' r', e = .returned (.tuple #[(keepF f).val d' r', .bool (decide (0 < keepS f.kind))]) ∧ OwnB w.heap.size w' d' (keepF f).data ∧ OwnR w.heap.size w' r' (keepF f).runs ∧ w.grownBy w' none

theorem keep_zero (f : Fr) (d r : Value) (w : World) (h : keepS f.kind = 0) : Calls Try.prog 39 #[f.val d r] w (KeepPost f w) := by
  have hk : f.kind ≠ 6 ∧ f.kind ≠ 8 ∧ f.kind ≠ 4 ∧ f.kind ≠ 5 ∧ f.kind ≠ 16 ∧ f.kind ≠ 17 ∧ f.kind ≠ 18 ∧ f.kind ≠ 20 ∧ f.kind ≠ 21 ∧ f.kind ≠ 22 ∧ f.kind ≠ 30 := by
    unfold keepS at h
    split at h
    · cases h
    · split at h
      · cases h
      · omega
  have e : keepF f = Fr.zero := by unfold keepF; rw [h]; rfl
  have FIN : Hid (∀ W, w.grownBy W none → KeepPost f w (.returned (.tuple #[Fr.zero.val nilS nilS, .bool false])) W) := fun W g => ⟨nilS, nilS, by rw [e, h]; rfl, by rw [e]; exact World.ownsRow_nil _ _ _ _, by rw [e]; exact World.ownsRow_nil _ _ _ _, g⟩
  obtain ⟨q0, q1, q2, q3, q4, q5, q6, q7, q8, q9, q10⟩ := hk
  have t0 := beq_no q0; have t1 := beq_no q1; have t2 := beq_no q2; have t3 := beq_no q3; have t4 := beq_no q4; have t5 := beq_no q5
  have t6 := beq_no q6; have t7 := beq_no q7; have t8 := beq_no q8; have t9 := beq_no q9; have t10 := beq_no q10
  clear e h q0 q1 q2 q3 q4 q5 q6 q7 q8 q9 q10
  obtain ⟨B1, B2, g2⟩ := Blk.two w (f.cs d r) (Fr.zero.cs nilS nilS) 26 26
  have HB := hide (And.intro B2 g2)
  clear B1 B2 g2
  go_enter Try.func39, Try.ntmps39
  go_wp2
  refine bodyPost_ret (results_ct (p := 2) (u := 3) (tp := 26) Try.results39 _ _ (w.heap.size + 1) (Fr.zero.cs nilS nilS) _ rfl (unhide HB).1 Try.underlying26 rfl Try.size26) rfl ?_
  exact unhide FIN _ (unhide HB).2

theorem own_nilB (b : Nat) (W : World) : OwnB b W nilS [] := World.ownsRow_nil _ _ _ _
theorem own_nilR (b : Nat) (W : World) : OwnR b W nilS [] := World.ownsRow_nil _ _ _ _

/-- A row that a call made is kept where a cell of another block is written. -/
theorem OwnB.cell {base b j : Nat} {W : World} {v u : Value} {T : List Int} {cs : Array Value} (h : OwnB base W v T) (hb : Blk W b cs 26) : OwnB base (W.setCell ⟨b, j, none⟩ u) v T :=
  World.ownsRow.kept h (grown_at (World.grownBy.refl W _) j u) (.inr (h.neBlk hb (by decide)))
theorem OwnR.cell {base b j : Nat} {W : World} {v u : Value} {T : List (Int × Int)} {cs : Array Value} (h : OwnR base W v T) (hb : Blk W b cs 26) : OwnR base (W.setCell ⟨b, j, none⟩ u) v T :=
  World.ownsRow.kept h (grown_at (World.grownBy.refl W _) j u) (.inr (h.neBlk hb (by decide)))
theorem OwnB.row {base b : Nat} {W : World} {v : Value} {T : List Int} {cs C : Array Value} (h : OwnB base W v T) (hb : Blk W b cs 26) : OwnB base (W.setRow b C) v T :=
  World.ownsRow.kept h (grown_rowS W b C) (.inr (h.neBlk hb (by decide)))
theorem OwnR.row {base b : Nat} {W : World} {v : Value} {T : List (Int × Int)} {cs C : Array Value} (h : OwnR base W v T) (hb : Blk W b cs 26) : OwnR base (W.setRow b C) v T :=
  World.ownsRow.kept h (grown_rowS W b C) (.inr (h.neBlk hb (by decide)))

/-- Behind the switch: the runs are made anew, and all is told. -/
theorem keep_end (f : Fr) (w W : World) (b0 b1 : Nat) (p : Option Addr) (q : Nat) (v3 r0 : Value) (C0 : Array Value) (hb0 : w.heap.size ≤ b0) (hb1 : w.heap.size ≤ b1) (hne : b0 ≠ b1) (g : w.grownBy W none)
    (B1 : Blk W b0 (f.cs v3 r0) 26) (B2 : Blk W b1 C0 26) (oB : OwnB w.heap.size W v3 f.data) (hr : RdR w p f.runs) (hrl : f.runs.length * 16 ≤ 140737488351232) :
    ∃ ra rc W5, (∀ ty, (Builtin.append_ #[23, 23] ty #[.slice none 0 0, .slice p f.runs.length q]).run Try.prog W = .ok (.slice ra f.runs.length rc) W5) ∧ W.grownBy W5 none ∧ Blk W5 b0 (f.cs v3 r0) 26 ∧
      Blk (W5.setCell ⟨b0, 12, none⟩ (.slice ra f.runs.length rc)) b0 (f.cs v3 (.slice ra f.runs.length rc)) 26 ∧ Blk (W5.setCell ⟨b0, 12, none⟩ (.slice ra f.runs.length rc)) b1 C0 26 ∧
      Blk ((W5.setCell ⟨b0, 12, none⟩ (.slice ra f.runs.length rc)).setRow b1 (f.cs v3 (.slice ra f.runs.length rc))) b1 (f.cs v3 (.slice ra f.runs.length rc)) 26 ∧
      OwnB w.heap.size ((W5.setCell ⟨b0, 12, none⟩ (.slice ra f.runs.length rc)).setRow b1 (f.cs v3 (.slice ra f.runs.length rc))) v3 f.data ∧
      OwnR w.heap.size ((W5.setCell ⟨b0, 12, none⟩ (.slice ra f.runs.length rc)).setRow b1 (f.cs v3 (.slice ra f.runs.length rc))) (.slice ra f.runs.length rc) f.runs ∧
      w.grownBy ((W5.setCell ⟨b0, 12, none⟩ (.slice ra f.runs.length rc)).setRow b1 (f.cs v3 (.slice ra f.runs.length rc))) none := by
  obtain ⟨ra, rc, W5, hap, oR, g5⟩ := app_rdR (w0 := W) q (own_nilR W.heap.size W) (World.grownBy.refl W none) (hr.grow g) (by simp; omega)
  simp only [List.length_nil, Nat.zero_add, List.nil_append] at hap oR
  have B5 := B1.grown g5
  have B6 : Blk (W5.setCell ⟨b0, 12, none⟩ (.slice ra f.runs.length rc)) b0 (f.cs v3 (.slice ra f.runs.length rc)) 26 := B5.setC 12 _
  have B7 := (B2.grown g5).setO b0 12 (.slice ra f.runs.length rc) hne
  have oR' : OwnR w.heap.size W5 (.slice ra f.runs.length rc) f.runs := oR.mono g.size
  exact ⟨ra, rc, W5, hap, g5, B5, B6, B7, B7.row _, ((oB.keepN g5).cell B5).row B7, (oR'.cell B5).row B7, grown_row (grown_set (g.trans g5) b0 12 _ hb0) b1 _ hb1⟩
end Go.Proofs.Ytggjeamondampaa
