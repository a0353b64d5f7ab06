/- F1W, F1X, F1Z, P4Cut, one text. -/
import Derived.Test.YtggjeamondampabF1K
import Derived.Test.YtggjeamondampabF1D
import Derived.Test.YtggjeamondampabF1I
import Derived.Test.YtggjeamondampabF1U
import Derived.Test.YtggjeamondampabF1F
import Derived.ProofKit
import Derived.OpenShut
import Derived.ShutString
import Derived.ChangeOld
import Derived.SizedLaws
import Derived.Test.YtggjeamondampabBK
import Derived.JoinedCond
import Derived.Deep.CondSized
namespace Go.Proofs.Ytggjeamondampab
open Go.RowKit
set_option linter.unusedVariables false
set_option linter.unusedSimpArgs false
set_option maxRecDepth 100000
set_option maxHeartbeats 4000000

theorem around_any (a1 a2 a3 : Option Addr) (c1 c2 c3 : Nat) (la lb lc : List Int) (w : World) (h1 : Rd w a1 la) (h2 : Rd w a2 lb) (h3 : Rd w a3 lc) (h48 : la.length + lb.length + lc.length ≤ 140737488355328) :
    Calls Try.prog 12 #[.slice a1 la.length c1, .slice a2 lb.length c2, .slice a3 lc.length c3] w fun e w' => ∃ s, e = .returned s ∧ OwnB w.heap.size w' s (la ++ lb ++ lc) ∧ w.grownBy w' none := by
  obtain ⟨x1, y1, W1, r1, o1, g1⟩ := app_rd (w0 := w) (T := []) c1 (World.ownsRow_nil _ _ _ _) (World.grownBy.refl w none) h1 (by simp; omega)
  simp only [List.length_nil, Nat.zero_add, List.nil_append] at r1 o1
  obtain ⟨x2, y2, W2, r2, o2, g2⟩ := app_rd c2 o1 g1 (h2.grow g1) (by omega)
  obtain ⟨x3, y3, W3, r3, o3, g3⟩ := app_rd c3 (by rw [List.length_append]; exact o2 : OwnB w.heap.size W2 (.slice x2 (la ++ lb).length y2) (la ++ lb)) g2 (h3.grow g2) (by rw [List.length_append]; omega)
  simp only [List.length_append] at r3
  have F := hide (And.intro o3 g3)
  simp only [List.length_append] at F
  clear o1 o2 o3 g1 g2 g3 h1 h2 h3 h48
  generalize la.length = n1 at *
  generalize lb.length = n2 at *
  generalize lc.length = n3 at *
  go_enter Try.func12, Try.ntmps12
  go_upto_region 3 with (at_builtin; refine wpList_append_run _ rfl (Operand.tmp 8) (Operand.tmp 9) 22 22 rfl (.slice none 0 0) (.slice a1 n1 c1) rfl rfl (r1 22) ?_)
  go_upto_region 4 with (at_builtin; refine wpList_append_run _ rfl (Operand.tmp 11) (Operand.tmp 12) 22 22 rfl (.slice x1 n1 y1) (.slice a2 n2 c2) rfl rfl (r2 22) ?_)
  go_wp2_with (at_builtin; refine wpList_append_run _ rfl (Operand.tmp 14) (Operand.tmp 15) 22 22 rfl (.slice x2 (n1 + n2) y2) (.slice a3 n3 c3) rfl rfl (r3 22) ?_)
  go_ret
  exact ⟨_, rfl, (unhide F).1, (unhide F).2⟩

theorem encode_folded (f : Fr) (d r : Value) (w : World) (hF : FrIn w f d r) (hD : TS w d f.data) (hk : -9223372036854775808 ≤ f.kind ∧ f.kind ≤ 9223372036854775807) (hrl : f.runs.length * 16 ≤ 140737488351232) (hdl : f.data.length ≤ 140737488351232) :
    Calls Try.prog 9 #[f.val d r] w fun e w' => ∃ a c, e = .returned (.tuple #[.slice a (encF f).1.length c, .int .i64 (encF f).2]) ∧ OwnB w.heap.size w' (.slice a (encF f).1.length c) (encF f).1 ∧ w.grownBy w' none := by
  refine (encode_any f d r w hF hD hk hrl hdl).mono ?_
  rintro e w' ⟨v, rfl, o, g⟩
  obtain ⟨a, c, rfl⟩ := o.shape
  exact ⟨a, c, rfl, o, g⟩

/-- The bytes that are written are bytes. -/
theorem tell_bytes {f : Fr} {n rs : List Int} (ht : tellF f = .inl (n, rs)) (hrl : (f.runs.length : Int) ≤ MAXN) (hb : Bs f.data) : Bs (encL n ++ rs) := by
  obtain ⟨t1, t2, t3, t4⟩ := tell_ok ht hrl
  refine (encL_bytes t1).app ?_
  unfold tellF at ht
  by_cases hkk : isKindF f.kind = true
  · obtain ⟨bare, p, hs⟩ := type_some hkk
    rw [if_pos hkk, hs] at ht
    simp only at ht
    split at ht
    · simp only [Sum.inl.injEq, Prod.mk.injEq] at ht
      rw [← ht.2]
      unfold restF
      split
      · intro x hx; rw [List.mem_replicate] at hx; rw [hx.2]; exact ⟨by omega, by omega⟩
      · exact hb
    · cases ht
  · rw [if_neg hkk] at ht; cases ht
theorem tell_len {f : Fr} {n rs : List Int} (ht : tellF f = .inl (n, rs)) (hr : f.runs.length ≤ 1048576) (hd : f.data.length ≤ 1048576) : (encL n ++ rs).length ≤ 100000000 := by
  obtain ⟨t1, t2, t3, t4⟩ := tell_ok ht (by unfold MAXN; omega)
  have := encL_le n
  rw [List.length_append]
  rcases t3 with e | ⟨e, -⟩
  · rw [e]; omega
  · omega
end Go.Proofs.Ytggjeamondampab

namespace Go.Proofs.Ytggjeamondampab
open Go.RowKit
set_option linter.unusedVariables false
set_option linter.unusedSimpArgs false
set_option maxRecDepth 100000
set_option maxHeartbeats 4000000

/-- A copy of bytes. -/
theorem copied_any (a : Option Addr) (c n : Nat) (l : List Int) (w : World) (hn : l.length = n) (h : Rd w a l) (hl : l.length ≤ 100000000) (hc : n ≤ c ∧ c ≤ 9223372036854775807) :
    Calls Try.prog 14 #[.slice a n c] w fun e w' => ∃ v, e = .returned v ∧ OwnB w.heap.size w' v l ∧ w.grownBy w' none := by
  have HR := hide h
  have HN := hide hn
  have HL := hide hl
  clear h hn hl
  go_enter Try.func14, Try.ntmps14
  go_wp2
  go_loopw [3, 4] (fun v i wr => ∃ k : Nat, k ≤ n ∧ i = .int .i64 k ∧ Hid (OwnB w.heap.size wr v (l.take k) ∧ w.grownBy wr none)) (fun _ i _ => n - (intOf i).toNat)
  case atStart => exact ⟨0, Nat.zero_le _, rfl, World.ownsRow_nil _ _ _ _, World.grownBy.refl w none⟩
  case round =>
    obtain ⟨k, hk, rfl, H⟩ := hrel
    by_cases hlt : k < n
    · have hkL : k < l.length := by rw [unhide HN]; exact hlt
      have kI : (k : Int) < (n : Int) := by omega
      obtain ⟨b, off, rfl, hcs⟩ := (unhide HR).2 (fun e => by rw [e] at hkL; simp at hkL)
      have cv := cell_grown (hcs k hkL) (unhide H).2
      have tk := take_snoc l k hkL
      obtain ⟨va, vc, rfl⟩ := (unhide H).1.shape
      have lk : (l.take k).length = k := by simp; omega
      generalize l.getD k 0 = x at *
      have gA := World.grownBy_alloc wr (.cells #[.int .u8 x] 5) none
      obtain ⟨a4, c4', W4, hap, o4, g4⟩ := app_u8 (w0 := w) (xs := [x]) ⟨wr.heap.size, 0, none⟩ 1 1 ((unhide H).1.keepN gA) ((unhide H).2.trans gA) rfl (by omega) (fun j y hj => by
        match j, hj with
        | 0, hj =>
          cases hj
          rw [addr_add]
          unfold World.cell?
          rw [heap_alloc_new]
          rfl) (by have := unhide HL; rw [lk]; omega)
      rw [lk] at hap o4
      have E : Hid (OwnB w.heap.size W4 (.slice a4 (k + 1) c4') (l.take (k + 1)) ∧ w.grownBy W4 none) := ⟨by rw [tk]; exact o4, g4⟩
      rw [lk]
      have HLT := hide hlt
      clear H hcs tk lk gA o4 g4 hkL hlt hk
      go_wp2_with (at_builtin; refine wpList_append_run _ rfl (Operand.tmp 11) (Operand.tmp 16) 22 22 rfl (.slice va k vc) (.slice (some ⟨wr.heap.size, 0, none⟩) 1 1) rfl rfl (hap 22) ?_)
      exact ⟨⟨k + 1, unhide HLT, by go_num, unhide E⟩, by simp [intOf]; have := unhide HLT; omega⟩
    · obtain rfl : k = n := by omega
      have kI : ¬ (k : Int) < (k : Int) := by omega
      have eT : l.take k = l := by rw [← unhide HN]; simp
      rw [eT] at H
      go_wp2
      go_ret
      exact ⟨_, rfl, (unhide H).1, (unhide H).2⟩
end Go.Proofs.Ytggjeamondampab

namespace Go.Proofs.Ytggjeamondampab
open Go.RowKit
set_option linter.unusedVariables false
set_option linter.unusedSimpArgs false
set_option maxRecDepth 100000
set_option maxHeartbeats 4000000

theorem rd_take {w : World} {a : Option Addr} {l : List Int} (h : Rd w a l) (k : Nat) : Rd w a (l.take k) := by
  refine ⟨fun x hx => h.1 x (List.mem_of_mem_take hx), fun hne => ?_⟩
  obtain ⟨b, off, e, hc⟩ := h.2 (fun e => hne (by rw [e]; simp))
  refine ⟨b, off, e, fun i hi => ?_⟩
  rw [List.length_take] at hi
  rw [hc i (by omega)]
  have : (l.take k).getD i 0 = l.getD i 0 := by simp [List.getD, List.getElem?_take, show i < k by omega]
  rw [this]
theorem decode_40 {w : World} {v : Value} {l : List Int} (h : InS w v l) (hl : l.length ≤ 100000000) (hd : decF l = .inr 40) :
    Calls Try.prog 11 #[v, .int .i64 0] w fun e w' => e = .returned (.tuple #[.agg Z17, .int .i64 0, .int .i64 40]) ∧ w.grownBy w' none := by
  refine (decode_in (k := 0) h (Nat.zero_le _) (by omega)).mono ?_
  rintro e w' (⟨f', l1, d', r', h1, -⟩ | ⟨e', h1, rfl, g⟩)
  · rw [List.drop_zero, hd] at h1; cases h1
  · rw [List.drop_zero, hd] at h1; cases h1; exact ⟨rfl, g⟩

theorem cut_walk (f : Fr) (d r : Value) (mo : Int) (w : World) (hF : FrIn w f d r) (hD : TS w d f.data) (hk : -9223372036854775808 ≤ f.kind ∧ f.kind ≤ 9223372036854775807) (hdl : f.data.length ≤ 1048576) (hrl : f.runs.length ≤ 1048576) :
    Calls Try.prog 5 #[f.val d r, .int .i64 mo] w fun e w' => e = .returned (.bool true) ∧ w.grownBy w' none := by
  have hml : (f.runs.length : Int) ≤ MAXN := by unfold MAXN; omega
  have hR := FrR.of hF hD
  have bd : Bs f.data := by obtain ⟨_, _, _, h, -⟩ := hR.data; exact h.1
  obtain ⟨C, hC⟩ : ∃ C, C = f.cs d r := ⟨_, rfl⟩
  have C17 : C.size = 17 := by rw [hC]; rfl
  have iC : (Try.prog.info? 26).map (·.size) = some C.size := by rw [C17]; exact Try.size26
  have eV : f.val d r = .agg C := by rw [hC]
  have B0 := Blk.new w C 26
  have g0 := World.grownBy_alloc w (.cells C 26) none
  have AW := awake_any (w.alloc (.cells C 26))
  have EN := hide (fun W (g : w.grownBy W none) => encode_folded f d r W (hF.keep g) (hD.keep g) hk (by omega) (by omega))
  rw [eV] at EN
  rw [eV]
  have HT : Hid ((∃ x, tellF f = .inr x ∧ encF f = ([], x) ∧ (x != 0) = true) ∨ (∃ n rs, tellF f = .inl (n, rs) ∧ encF f = (encL n ++ rs, 0) ∧ Bs (encL n ++ rs) ∧ (encL n ++ rs).length ≤ 100000000 ∧ (f.tail = false → f.kind ≠ 0 → ∀ j, j < (encL n ++ rs).length → decF ((encL n ++ rs).take j) = .inr 40))) := by
    show _ ∨ _
    cases ht : tellF f with
    | inr x => exact .inl ⟨x, rfl, by unfold encF; rw [ht], by rcases tell_err ht with rfl | rfl <;> rfl⟩
    | inl nr =>
      obtain ⟨n, rs⟩ := nr
      exact .inr ⟨n, rs, rfl, by unfold encF; rw [ht], tell_bytes ht hml bd, tell_len ht hrl hdl, fun h1 h2 j hj => cut_pure ht hml h1 h2 j hj⟩
  have HB := hide B0
  have HC := hide hC
  clear B0 hF hD hk hdl hrl eV hC hml hR bd
  go_enter Try.func5, Try.ntmps5
  go_upto_region 2 with (go_at_call 8; refine AW.mono ?_; rintro e W1 ⟨rfl, g1⟩)
  have b1 := (unhide HB).grown g1
  have en := unhide EN W1 (g0.trans g1)
  clear AW EN HB
  rcases unhide HT with ⟨x, ht, hE, nx⟩ | ⟨n, rs, ht, hE, bs, bl, hcut⟩
  · rw [hE] at en
    clear HT ht hE
    go_upto_region 3 with (first | (refine wpList_load_row rfl _ _ rfl w.heap.size rfl 26 C (0, 0) _ b1 Try.underlying26 rfl iC ?_) | (go_at_call 9; refine en.mono ?_; rintro e W2 ⟨a2, c2, rfl, o2, g2⟩))
    have G := hide ((g0.trans g1).trans g2)
    clear en o2 g0 g1 g2
    go_wp2
    go_ret
    exact ⟨rfl, unhide G⟩
  · rw [hE] at en
    generalize encL n ++ rs = E at *
    clear HT ht hE
    obtain ⟨ne, hne⟩ : ∃ ne, ne = E.length := ⟨_, rfl⟩
    simp only at en
    rw [← hne] at en
    replace hne := hide hne
    go_upto_region 3 with (first | (refine wpList_load_row rfl _ _ rfl w.heap.size rfl 26 C (0, 0) _ b1 Try.underlying26 rfl iC ?_) | (go_at_call 9; refine en.mono ?_; rintro e W2 ⟨ax, cx, rfl, o2, g2⟩))
    have b2 := b1.grown g2
    have x0 := b2.cell 0 (.int .i64 f.kind) (by rw [unhide HC]; rfl)
    have x6 := b2.cell 6 (.bool f.tail) (by rw [unhide HC]; rfl)
    have G2 := hide ((g0.trans g1).trans g2)
    have R2 : Hid (Rd W2 ax E ∧ ne ≤ cx ∧ cx ≤ 9223372036854775807) := by
      obtain ⟨a', c', e', h', q1, q2⟩ := o2.rd bs
      injection e' with e1 e2 e3
      rw [e1, e3, unhide hne]
      exact ⟨h', q1, q2⟩
    have HCUT := hide hcut
    have HBL := hide bl
    clear en o2 g0 g1 g2 b1 b2 HC hcut bs bl
    have arms : Hid ((f.tail = true) ∨ (f.tail = false ∧ f.kind = 0) ∨ (f.tail = false ∧ ¬ f.kind = 0)) := by
      show _ ∨ _
      cases f.tail
      · by_cases q : f.kind = 0
        · exact .inr (.inl ⟨rfl, q⟩)
        · exact .inr (.inr ⟨rfl, q⟩)
      · exact .inl rfl
    rcases unhide arms with t | ⟨t, k⟩ | ⟨t, k⟩
    · rw [t] at x6
      clear t arms
      go_wp2
      go_ret
      exact ⟨rfl, unhide G2⟩
    · rw [t] at x6
      have u0 : (f.kind == 0) = true := by simpa using k
      clear t arms k
      go_wp2
      go_ret
      exact ⟨rfl, unhide G2⟩
    · have CUT : Hid (∀ j, j < ne → decF (E.take j) = .inr 40) := fun j hj => unhide HCUT t k j (by rw [← unhide hne]; exact hj)
      rw [t] at x6
      have u0 : (f.kind == 0) = false := by simpa using k
      clear t arms k HCUT
      have nl : ne ≤ 100000000 := by rw [unhide hne]; exact unhide HBL
      have wr3 : IntKind.i64.wrap ((ne : Int) - 3) = (ne : Int) - 3 := by rw [IntKind.wrap_i64]; omega
      go_upto_region 7 with fail
      clear x0 x6
      go_wp2
      go_loopw [8] (fun i wr => ∃ k : Nat, k ≤ ne ∧ i = .int .i64 k ∧ Hid (W2.grownBy wr none)) (fun i _ => ne - (intOf i).toNat)
      case atStart => exact ⟨0, Nat.zero_le _, rfl, World.grownBy.refl W2 none⟩
      case round =>
        obtain ⟨k, hk, rfl, H⟩ := hrel
        by_cases hlt : k < ne
        · have kI : (k : Int) < (ne : Int) := by omega
          have kd := unhide CUT k hlt
          have r0 := rd_take ((unhide R2).1.grow (unhide H)) k
          have lk : (E.take k).length = k := by rw [List.length_take, ← unhide hne]; omega
          have cp := copied_any ax cx k (E.take k) wr lk r0 (by rw [lk]; omega) ⟨by have := (unhide R2).2.1; omega, (unhide R2).2.2⟩
          have kc : k ≤ cx := by have := (unhide R2).2.1; omega
          have kcI : (k : Int) ≤ (cx : Int) := by omega
          have BS : Hid (∀ x ∈ E.take k, IsB x) := r0.1
          have KD := hide (And.intro kd (show (E.take k).length ≤ 100000000 by rw [lk]; omega))
          have HLT := hide hlt
          clear kd r0 lk hlt hk
          rcases (by omega : ¬ (100 : Int) < (k : Int) ∨ ((100 : Int) < (k : Int) ∧ (k : Int) = mo) ∨ ((100 : Int) < (k : Int) ∧ ¬ (k : Int) = mo ∧ ¬ (k : Int) < (ne : Int) - 3) ∨ ((100 : Int) < (k : Int) ∧ ¬ (k : Int) = mo ∧ (k : Int) < (ne : Int) - 3)) with q | ⟨q, q2⟩ | ⟨q, q2, q3⟩ | ⟨q, q2, q3⟩
          case inr.inr.inr =>
            have d1 : decide ((100 : Int) < (k : Int)) = true := decide_eq_true q
            have d2 : ((k : Int) != mo) = true := by simpa using q2
            have d3 : decide ((k : Int) < (ne : Int) - 3) = true := decide_eq_true q3
            go_wp2
            exact ⟨⟨k + 1, unhide HLT, by go_num, unhide H⟩, by simp [intOf]; have := unhide HLT; omega⟩
          case inl =>
            have d1 : decide ((100 : Int) < (k : Int)) = false := decide_eq_false q
            clear q
            go_upto_region 11 with fail
            go_upto_region 12 with (first | (go_at_call 14; refine cp.mono ?_; rintro e W3 ⟨v3, rfl, o3, g3⟩; have de := decode_40 (o3.inS (unhide BS)) (unhide KD).2 (unhide KD).1) | (go_at_call 11; refine de.mono ?_; rintro e W4 ⟨rfl, g4⟩) | (refine wpList_store_new _ Z17 Z17 W4.heap.size rfl _ _ _ rfl rfl rfl rfl Try.size26 rfl (one17 Fr.zero nilS nilS rfl rfl) ?_))
            have B := Blk.new W4 Z17 26
            have g5 := World.grownBy_alloc W4 (.cells Z17 26) none
            have G5 := hide ((((unhide H).trans g3).trans g4).trans g5)
            generalize W4.alloc (.cells Z17 26) = W5 at *
            generalize W4.heap.size = b5 at *
            have sm : Calls Try.prog 13 #[.agg Z17, .agg Z17] W5 fun e w' => e = .returned (.bool true) ∧ W5.grownBy w' none := same_fr Fr.zero nilS nilS nilS nilS W5 (FrR.zero W5) (FrR.zero W5)
            clear cp de o3 g3 g4 g5 H
            go_upto_region 13 with (first | (refine wpList_load_row rfl _ _ rfl b5 rfl 26 Z17 (0, 0) _ B Try.underlying26 rfl Try.size26 ?_) | (go_at_call 13; refine sm.mono ?_; rintro e W6 ⟨rfl, g6⟩))
            go_wp2
            exact ⟨⟨k + 1, unhide HLT, by go_num, (unhide G5).trans g6⟩, by simp [intOf]; have := unhide HLT; omega⟩
          case inr.inl =>
            have d1 : decide ((100 : Int) < (k : Int)) = true := decide_eq_true q
            have d2 : ((k : Int) != mo) = false := by simpa using q2
            clear q q2
            go_upto_region 11 with fail
            go_upto_region 12 with (first | (go_at_call 14; refine cp.mono ?_; rintro e W3 ⟨v3, rfl, o3, g3⟩; have de := decode_40 (o3.inS (unhide BS)) (unhide KD).2 (unhide KD).1) | (go_at_call 11; refine de.mono ?_; rintro e W4 ⟨rfl, g4⟩) | (refine wpList_store_new _ Z17 Z17 W4.heap.size rfl _ _ _ rfl rfl rfl rfl Try.size26 rfl (one17 Fr.zero nilS nilS rfl rfl) ?_))
            have B := Blk.new W4 Z17 26
            have g5 := World.grownBy_alloc W4 (.cells Z17 26) none
            have G5 := hide ((((unhide H).trans g3).trans g4).trans g5)
            generalize W4.alloc (.cells Z17 26) = W5 at *
            generalize W4.heap.size = b5 at *
            have sm : Calls Try.prog 13 #[.agg Z17, .agg Z17] W5 fun e w' => e = .returned (.bool true) ∧ W5.grownBy w' none := same_fr Fr.zero nilS nilS nilS nilS W5 (FrR.zero W5) (FrR.zero W5)
            clear cp de o3 g3 g4 g5 H
            go_upto_region 13 with (first | (refine wpList_load_row rfl _ _ rfl b5 rfl 26 Z17 (0, 0) _ B Try.underlying26 rfl Try.size26 ?_) | (go_at_call 13; refine sm.mono ?_; rintro e W6 ⟨rfl, g6⟩))
            go_wp2
            exact ⟨⟨k + 1, unhide HLT, by go_num, (unhide G5).trans g6⟩, by simp [intOf]; have := unhide HLT; omega⟩
          case inr.inr.inl =>
            have d1 : decide ((100 : Int) < (k : Int)) = true := decide_eq_true q
            have d2 : ((k : Int) != mo) = true := by simpa using q2
            have d3 : decide ((k : Int) < (ne : Int) - 3) = false := decide_eq_false q3
            clear q2
            go_upto_region 11 with fail
            go_upto_region 12 with (first | (go_at_call 14; refine cp.mono ?_; rintro e W3 ⟨v3, rfl, o3, g3⟩; have de := decode_40 (o3.inS (unhide BS)) (unhide KD).2 (unhide KD).1) | (go_at_call 11; refine de.mono ?_; rintro e W4 ⟨rfl, g4⟩) | (refine wpList_store_new _ Z17 Z17 W4.heap.size rfl _ _ _ rfl rfl rfl rfl Try.size26 rfl (one17 Fr.zero nilS nilS rfl rfl) ?_))
            have B := Blk.new W4 Z17 26
            have g5 := World.grownBy_alloc W4 (.cells Z17 26) none
            have G5 := hide ((((unhide H).trans g3).trans g4).trans g5)
            generalize W4.alloc (.cells Z17 26) = W5 at *
            generalize W4.heap.size = b5 at *
            have sm : Calls Try.prog 13 #[.agg Z17, .agg Z17] W5 fun e w' => e = .returned (.bool true) ∧ W5.grownBy w' none := same_fr Fr.zero nilS nilS nilS nilS W5 (FrR.zero W5) (FrR.zero W5)
            clear cp de o3 g3 g4 g5 H
            go_upto_region 13 with (first | (refine wpList_load_row rfl _ _ rfl b5 rfl 26 Z17 (0, 0) _ B Try.underlying26 rfl Try.size26 ?_) | (go_at_call 13; refine sm.mono ?_; rintro e W6 ⟨rfl, g6⟩))
            go_wp2
            exact ⟨⟨k + 1, unhide HLT, by go_num, (unhide G5).trans g6⟩, by simp [intOf]; have := unhide HLT; omega⟩
        · obtain rfl : k = ne := by omega
          have kI : ¬ (k : Int) < (k : Int) := by omega
          go_wp2
          go_ret
          exact ⟨rfl, (unhide G2).trans (unhide H)⟩
end Go.Proofs.Ytggjeamondampab

namespace Go.Proofs.Ytggjeamondampab
open Go.ChangeShapes Go.WideShapes Go.ChangeAt Go.RowKit
set_option linter.unusedVariables false
set_option maxRecDepth 100000
namespace frameCutFrame

theorem own : ownKnob Try.prog.godebug = none := by kernel_rfl
theorem laidOut : laidOutB Try.prog = true := by kernel_rfl

set_option maxRecDepth 100000 in
theorem lifted (os : Os) (started : os.Started) (H : Type) (enc : TypeId × Value → H) (F : Stop.Interp) :
    ReturnsInHanded {} Try.checked os 5 .any ((Rows.OpenSpec.upto Rows.frameCutSpec).pre6 enc Try.prog Try.f5 Rows.frameCutUptoRow.domain false) (((Rows.OpenSpec.upto Rows.frameCutSpec).at F).post enc Try.prog Try.f5 false true false false) := by
  refine returnsInHanded_of_cond_sized (C := Try.checked) (s := Rows.OpenSpec.upto Rows.frameCutSpec) (k := Rows.uptoSmall) rfl own started (by kernel_rfl) Try.func5
    (OpenSpec.witness (enc := enc) (C := Try.checked) (s := Rows.OpenSpec.upto Rows.frameCutSpec) (k := Rows.uptoSmall) rfl false ⟨#[], #[.agg #[.int .i64 0, .int .i64 0, .int .i64 0, .slice none 0 0, .int .i64 0, .bool false, .bool false, .int .i64 0, .bool false, .int .i64 0, .bool false, .int .i64 0, .slice none 0 0, .bool false, .int .i64 0, .int .i64 0, .int .i64 0], .int .i64 0], []⟩ 8 (by kernel_rfl) (by kernel_rfl) (by kernel_rfl)
      (x := ([.agg [.lit (.int .i64 0), .lit (.int .i64 0), .lit (.int .i64 0), .nil, .lit (.int .i64 0), .lit (.bool false), .lit (.bool false), .lit (.int .i64 0), .lit (.bool false), .lit (.int .i64 0), .lit (.bool false), .lit (.int .i64 0), .nil, .lit (.bool false), .agg [.lit (.int .i64 0), .lit (.int .i64 0), .lit (.int .i64 0)]], .lit (.int .i64 0)], [], [])) (by kernel_rfl) rfl (by kernel_rfl)) ?_
  intro W base args ds gs before hval0 hW hcnd hk hsz0 _
  have hsz : (DataW.weightsEach Try.prog (Try.f5.params.toList ++ (Rows.OpenSpec.upto Rows.frameCutSpec).bare.plain.varTypes Try.prog) (ds ++ gs)).all (· ≤ reachBytes) = true := hsz0
  have hval : ∀ (j : Nat) t v, Try.f5.params[j]? = some t → args[j]? = some v → Value.okWide Try.prog W .any base t v := hval0
  have hW' := hW
  obtain ⟨p, q, hA0, hV, rfl, hfz, hnd⟩ := hW
  have hA : DataW.TrodAll enc Try.prog W 0 (fun _ => true) true Try.f5.params.toList args.toList ds p := hA0
  rw [Try.params5] at hA hval hsz
  obtain ⟨v0, vs0, d0, ds0, p0, q0, hargs, rfl, rfl, h0, r0⟩ := trodAll_cons hA
  obtain ⟨v1, vs1, d1, ds1, p1, q1, rfl, rfl, rfl, h1, r1⟩ := trodAll_cons r0
  obtain ⟨rfl, rfl, rfl⟩ := trodAll_nil r1
  obtain rfl : args = #[v0, v1] := by cases args; simp_all
  obtain ⟨rfl, rfl⟩ := trodVars_none hV
  have k0 := h0
  have lt0 : ∀ x ∈ p0, x.block < W.heap.size := by obtain ⟨m, hm⟩ := k0; exact DataW.trod_lt m _ _ _ hm
  obtain ⟨P0, x0, y0, rfl, i0, j0, l0, m0, n0, b0, c0⟩ := open_frame (hval 0 26 v0 rfl rfl) h0 (fun n hn => List.all_eq_true.1 hsz n (DataW.weights_mem_each (j := 0) rfl rfl n hn))
  have bk0 : P0.data.length ≤ 1048576 := Nat.le_trans b0 (bulk_mem hk (d := d0) (by simp))
  have ck0 : P0.runs.length ≤ 1048576 := Nat.le_trans c0 (bulk_mem hk (d := d0) (by simp))
  have k1 := h1
  have lt1 : ∀ x ∈ p1, x.block < W.heap.size := by obtain ⟨m, hm⟩ := k1; exact DataW.trod_lt m _ _ _ hm
  obtain ⟨a1, rfl, rfl, rfl, w1⟩ := open_int Try.underlying3 (hval 1 3 v1 rfl rfl) h1
  clear hA0 hval0
  refine (cut_walk P0 x0 y0 a1 W i0 j0 l0 bk0 ck0).mono fun e W' ⟨he, gr⟩ => ?_
  have bel := grown_bel gr
  subst he
  exact ⟨_, rfl, _, _, _, [], _, [], hW', trodAll_mk1 (shut_bool Try.underlying4 _), (trodAll_cons_mk (Below.trod laidOut (by kernel_rfl) (of_decide_eq_true (by kernel_rfl)) k0 bel lt0) (trodAll_cons_mk (shut_int Try.underlying3 w1) trodAll_mk0)), rfl, bel.frame _, fun h => by cases h⟩

theorem over : Rows.frameCutUptoRow.holds Try.pinned (Rows.OpenSpec.upto Rows.frameCutSpec) :=
  OpenClaim.holds_of_cond 5 Try.f5 rfl rfl rfl rfl rfl rfl rfl ⟨rfl, rfl, rfl, rfl, rfl⟩ rfl rfl rfl rfl rfl (by kernel_rfl) Try.func5 (by kernel_rfl)
    (of_decide_eq_true (by kernel_rfl)) (by unfold Func.isWrapper; first | (rw [if_pos (by decide +kernel)]; kernel_rfl) | (rw [if_neg (by decide +kernel)]; exact ⟨rfl, rfl⟩))
    (fun os started H enc _ F => lifted os started H enc F)
end frameCutFrame

/-- THE STATEMENT -/
theorem frameCut_holds : Rows.FrameCutUptoSaid := frameCutFrame.over
end Go.Proofs.Ytggjeamondampab
