/- F1W, F1Y, P4Back, one text. -/
import Derived.Test.YtggjeamondampabF1K
import Derived.Test.YtggjeamondampabF1D
import Derived.Test.YtggjeamondampabF1I
import Derived.Test.YtggjeamondampabF1F
import Derived.ProofKit
import Derived.OpenShut
import Derived.ShutString
import Derived.ChangeOld
import Derived.SizedLaws
import Derived.Test.YtggjeamondampabBK
import Derived.JoinedCond
import Derived.Deep.CondSized
namespace Go.Proofs.Ytggjeamondampab
open Go.RowKit
set_option linter.unusedVariables false
set_option linter.unusedSimpArgs false
set_option maxRecDepth 100000
set_option maxHeartbeats 4000000

theorem around_any (a1 a2 a3 : Option Addr) (c1 c2 c3 : Nat) (la lb lc : List Int) (w : World) (h1 : Rd w a1 la) (h2 : Rd w a2 lb) (h3 : Rd w a3 lc) (h48 : la.length + lb.length + lc.length ≤ 140737488355328) :
    Calls Try.prog 12 #[.slice a1 la.length c1, .slice a2 lb.length c2, .slice a3 lc.length c3] w fun e w' => ∃ s, e = .returned s ∧ OwnB w.heap.size w' s (la ++ lb ++ lc) ∧ w.grownBy w' none := by
  obtain ⟨x1, y1, W1, r1, o1, g1⟩ := app_rd (w0 := w) (T := []) c1 (World.ownsRow_nil _ _ _ _) (World.grownBy.refl w none) h1 (by simp; omega)
  simp only [List.length_nil, Nat.zero_add, List.nil_append] at r1 o1
  obtain ⟨x2, y2, W2, r2, o2, g2⟩ := app_rd c2 o1 g1 (h2.grow g1) (by omega)
  obtain ⟨x3, y3, W3, r3, o3, g3⟩ := app_rd c3 (by rw [List.length_append]; exact o2 : OwnB w.heap.size W2 (.slice x2 (la ++ lb).length y2) (la ++ lb)) g2 (h3.grow g2) (by rw [List.length_append]; omega)
  simp only [List.length_append] at r3
  have F := hide (And.intro o3 g3)
  simp only [List.length_append] at F
  clear o1 o2 o3 g1 g2 g3 h1 h2 h3 h48
  generalize la.length = n1 at *
  generalize lb.length = n2 at *
  generalize lc.length = n3 at *
  go_enter Try.func12, Try.ntmps12
  go_upto_region 3 with (at_builtin; refine wpList_append_run _ rfl (Operand.tmp 8) (Operand.tmp 9) 22 22 rfl (.slice none 0 0) (.slice a1 n1 c1) rfl rfl (r1 22) ?_)
  go_upto_region 4 with (at_builtin; refine wpList_append_run _ rfl (Operand.tmp 11) (Operand.tmp 12) 22 22 rfl (.slice x1 n1 y1) (.slice a2 n2 c2) rfl rfl (r2 22) ?_)
  go_wp2_with (at_builtin; refine wpList_append_run _ rfl (Operand.tmp 14) (Operand.tmp 15) 22 22 rfl (.slice x2 (n1 + n2) y2) (.slice a3 n3 c3) rfl rfl (r3 22) ?_)
  go_ret
  exact ⟨_, rfl, (unhide F).1, (unhide F).2⟩

theorem encode_folded (f : Fr) (d r : Value) (w : World) (hF : FrIn w f d r) (hD : TS w d f.data) (hk : -9223372036854775808 ≤ f.kind ∧ f.kind ≤ 9223372036854775807) (hrl : f.runs.length * 16 ≤ 140737488351232) (hdl : f.data.length ≤ 140737488351232) :
    Calls Try.prog 9 #[f.val d r] w fun e w' => ∃ a c, e = .returned (.tuple #[.slice a (encF f).1.length c, .int .i64 (encF f).2]) ∧ OwnB w.heap.size w' (.slice a (encF f).1.length c) (encF f).1 ∧ w.grownBy w' none := by
  refine (encode_any f d r w hF hD hk hrl hdl).mono ?_
  rintro e w' ⟨v, rfl, o, g⟩
  obtain ⟨a, c, rfl⟩ := o.shape
  exact ⟨a, c, rfl, o, g⟩

/-- The bytes that are written are bytes. -/
theorem tell_bytes {f : Fr} {n rs : List Int} (ht : tellF f = .inl (n, rs)) (hrl : (f.runs.length : Int) ≤ MAXN) (hb : Bs f.data) : Bs (encL n ++ rs) := by
  obtain ⟨t1, t2, t3, t4⟩ := tell_ok ht hrl
  refine (encL_bytes t1).app ?_
  unfold tellF at ht
  by_cases hkk : isKindF f.kind = true
  · obtain ⟨bare, p, hs⟩ := type_some hkk
    rw [if_pos hkk, hs] at ht
    simp only at ht
    split at ht
    · simp only [Sum.inl.injEq, Prod.mk.injEq] at ht
      rw [← ht.2]
      unfold restF
      split
      · intro x hx; rw [List.mem_replicate] at hx; rw [hx.2]; exact ⟨by omega, by omega⟩
      · exact hb
    · cases ht
  · rw [if_neg hkk] at ht; cases ht
theorem tell_len {f : Fr} {n rs : List Int} (ht : tellF f = .inl (n, rs)) (hr : f.runs.length ≤ 1048576) (hd : f.data.length ≤ 1048576) : (encL n ++ rs).length ≤ 100000000 := by
  obtain ⟨t1, t2, t3, t4⟩ := tell_ok ht (by unfold MAXN; omega)
  have := encL_le n
  rw [List.length_append]
  rcases t3 with e | ⟨e, -⟩
  · rw [e]; omega
  · omega
end Go.Proofs.Ytggjeamondampab

namespace Go.Proofs.Ytggjeamondampab
open Go.RowKit
set_option linter.unusedVariables false
set_option linter.unusedSimpArgs false
set_option maxRecDepth 100000
set_option maxHeartbeats 4000000

theorem beq_nk {k c : Int} (h : ¬ k = c) : (k == c) = false := by simpa using h
theorem beq_yk {k c : Int} (h : k = c) : (k == c) = true := by simpa using h
/-- Where the frame may not be. -/
theorem back_no (f : Fr) (d r v1 v2 : Value) (w : World) (x : Int) (ht : tellF f = .inr x) (hF : FrIn w f d r) (hD : TS w d f.data) (hk : -9223372036854775808 ≤ f.kind ∧ f.kind ≤ 9223372036854775807) (hdl : f.data.length ≤ 1048576) (hrl : f.runs.length ≤ 1048576) :
    Calls Try.prog 3 #[f.val d r, v1, v2] w fun e w' => e = .returned (.bool true) ∧ w.grownBy w' none := by
  have eE : encF f = ([], x) := by unfold encF; rw [ht]
  obtain ⟨C, hC⟩ : ∃ C, C = f.cs d r := ⟨_, rfl⟩
  have C17 : C.size = 17 := by rw [hC]; rfl
  have iC : (Try.prog.info? 26).map (·.size) = some C.size := by rw [C17]; exact Try.size26
  have eV : f.val d r = .agg C := by rw [hC]
  have B0 := Blk.new w C 26
  have g0 := World.grownBy_alloc w (.cells C 26) none
  have AW := awake_any (w.alloc (.cells C 26))
  have EN := hide (fun W (g : w.grownBy W none) => encode_folded f d r W (hF.keep g) (hD.keep g) hk (by omega) (by omega))
  have SZ := hide (fun W (g : w.grownBy W none) => sizeFr_any f d r W (hF.keep g) (hD.keep g) hk (by omega) (by omega))
  rw [eV, eE] at EN SZ
  rw [eV]
  simp only [List.length_nil] at EN SZ
  have hx := tell_err ht
  have nx : (x != 0) = true := by rcases hx with rfl | rfl <;> rfl
  have HB := hide B0
  clear B0 hF hD hk hdl hrl ht eE eV hC hx
  go_enter Try.func3, Try.ntmps3
  go_upto_region 2 with (go_at_call 8; refine AW.mono ?_; rintro e W1 ⟨rfl, g1⟩)
  have b1 := (unhide HB).grown g1
  have en := unhide EN W1 (g0.trans g1)
  clear AW EN HB
  go_upto_region 3 with (first | (refine wpList_load_row rfl _ _ rfl w.heap.size rfl 26 C (0, 0) _ b1 Try.underlying26 rfl iC ?_) | (go_at_call 9; refine en.mono ?_; rintro e W2 ⟨a2, c2, rfl, o2, g2⟩))
  have b2 := b1.grown g2
  have sz := unhide SZ W2 ((g0.trans g1).trans g2)
  have G2 := hide ((g0.trans g1).trans g2)
  clear SZ en b1 g0 g1 g2 o2
  go_upto_region 4 with (first | (refine wpList_load_row rfl _ _ rfl w.heap.size rfl 26 C (0, 0) _ b2 Try.underlying26 rfl iC ?_) | (go_at_call 10; refine sz.mono ?_; rintro e W3 ⟨rfl, g3⟩))
  have xx : (x != x) = false := by simp
  have xy : ((0 : Nat) : Int) = 0 := rfl
  clear xy
  go_wp2
  go_ret
  exact ⟨rfl, (unhide G2).trans g3⟩

theorem back_yes (f : Fr) (d r : Value) (a1 a2 : Option Addr) (c1 c2 : Nat) (la lb : List Int) (n rs : List Int) (w : World) (ht : tellF f = .inl (n, rs)) (hF : FrIn w f d r) (hD : TS w d f.data) (hk : -9223372036854775808 ≤ f.kind ∧ f.kind ≤ 9223372036854775807) (h1 : Rd w a1 la) (h2 : Rd w a2 lb)
    (hdl : f.data.length ≤ 1048576) (hrl : f.runs.length ≤ 1048576) (hla : la.length ≤ 1048576) (hlb : lb.length ≤ 1048576) (hc2 : lb.length ≤ c2 ∧ c2 ≤ 9223372036854775807) :
    Calls Try.prog 3 #[f.val d r, .slice a1 la.length c1, .slice a2 lb.length c2] w fun e w' => e = .returned (.bool true) ∧ w.grownBy w' none := by
  have eE : encF f = (encL n ++ rs, 0) := by unfold encF; rw [ht]
  have hml : (f.runs.length : Int) ≤ MAXN := by unfold MAXN; omega
  have hR := FrR.of hF hD
  have bd : Bs f.data := by obtain ⟨_, _, _, h, -⟩ := hR.data; exact h.1
  have bs := tell_bytes ht hml bd
  have bl := tell_len ht hrl hdl
  have BK := hide (fun x ht' hp => back_pure ht hml x ht' hp)
  generalize encL n ++ rs = E at *
  obtain ⟨C, hC⟩ : ∃ C, C = f.cs d r := ⟨_, rfl⟩
  have C17 : C.size = 17 := by rw [hC]; rfl
  have iC : (Try.prog.info? 26).map (·.size) = some C.size := by rw [C17]; exact Try.size26
  have eV : f.val d r = .agg C := by rw [hC]
  have B0 := Blk.new w C 26
  have g0 := World.grownBy_alloc w (.cells C 26) none
  have AW := awake_any (w.alloc (.cells C 26))
  have EN := hide (fun W (g : w.grownBy W none) => encode_folded f d r W (hF.keep g) (hD.keep g) hk (by omega) (by omega))
  have SZ := hide (fun W (g : w.grownBy W none) => sizeFr_any f d r W (hF.keep g) (hD.keep g) hk (by omega) (by omega))
  rw [eV, eE] at EN SZ
  rw [eV]
  have HB := hide B0
  have HC := hide hC
  have HR := hide hR
  have H1 := hide h1
  have H2 := hide h2
  have HL := hide (And.intro hla (And.intro hlb (And.intro bl (And.intro bs bd))))
  have HCC := hide hc2
  obtain ⟨ne, hne⟩ : ∃ ne, ne = E.length := ⟨_, rfl⟩
  have HN := hide hne
  obtain ⟨nb, hnb⟩ : ∃ nb, nb = lb.length := ⟨_, rfl⟩
  have HNB := hide hnb
  obtain ⟨na, hna⟩ : ∃ na, na = la.length := ⟨_, rfl⟩
  have HNA := hide hna
  simp only at EN SZ
  rw [← hne] at EN SZ
  rw [← hnb, ← hna]
  clear B0 hF hD hk hdl hrl ht eE eV hC hml hR bd bs bl h1 h2 hla hlb hne hnb hna hc2
  go_enter Try.func3, Try.ntmps3
  go_upto_region 2 with (go_at_call 8; refine AW.mono ?_; rintro e W1 ⟨rfl, g1⟩)
  have b1 := (unhide HB).grown g1
  have en := unhide EN W1 (g0.trans g1)
  clear AW EN HB
  go_upto_region 3 with (first | (refine wpList_load_row rfl _ _ rfl w.heap.size rfl 26 C (0, 0) _ b1 Try.underlying26 rfl iC ?_) | (go_at_call 9; refine en.mono ?_; rintro e W2 ⟨ax, cx, rfl, o2, g2⟩))
  have b2 := b1.grown g2
  have sz := unhide SZ W2 ((g0.trans g1).trans g2)
  have G2 := hide ((g0.trans g1).trans g2)
  have O2 := hide o2
  clear SZ en b1 g0 g1 g2 o2
  go_upto_region 4 with (first | (refine wpList_load_row rfl _ _ rfl w.heap.size rfl 26 C (0, 0) _ b2 Try.underlying26 rfl iC ?_) | (go_at_call 10; refine sz.mono ?_; rintro e W3 ⟨rfl, g3⟩))
  have b3 := b2.grown g3
  have G3 := hide ((unhide G2).trans g3)
  have O3 := hide ((unhide O2).keepN g3)
  have x0 := b3.cell 0 (.int .i64 f.kind) (by rw [unhide HC]; rfl)
  have x6 := b3.cell 6 (.bool f.tail) (by rw [unhide HC]; rfl)
  clear sz b2 g3 G2 O2
  -- what stands behind
  have arms : Hid ((f.tail = true) ∨ (f.tail = false ∧ ¬ f.kind = 0) ∨ (f.tail = false ∧ f.kind = 0 ∧ lb = []) ∨ (f.tail = false ∧ f.kind = 0 ∧ lb ≠ [] ∧ lb.getD 0 0 = 0) ∨ (f.tail = false ∧ f.kind = 0 ∧ lb ≠ [] ∧ ¬ lb.getD 0 0 = 0)) := by
    show _ ∨ _
    cases f.tail
    · by_cases q : f.kind = 0
      · by_cases q2 : lb = []
        · exact .inr (.inr (.inl ⟨rfl, q, q2⟩))
        · by_cases q3 : lb.getD 0 0 = 0
          · exact .inr (.inr (.inr (.inl ⟨rfl, q, q2, q3⟩)))
          · exact .inr (.inr (.inr (.inr ⟨rfl, q, q2, q3⟩)))
      · exact .inr (.inl ⟨rfl, q⟩)
    · exact .inl rfl
  have nn : ((ne : Int) != (ne : Int)) = false := by simp
  have TAIL : Hid (∀ (R : List Int) (aR : Option Addr) (cR : Nat), Rd w aR R → R.length ≤ 1048576 → (f.tail = true → R = []) → (f.kind = 0 → R.head? ≠ some 0) → 
      Calls Try.prog 12 #[.slice a1 na c1, .slice ax ne cx, .slice aR R.length cR] W3 fun e W4 => ∃ s, e = .returned s ∧ W3.grownBy W4 none ∧ Calls Try.prog 11 #[s, .int .i64 (na : Int)] W4 fun e W5 => ∃ C5 : Array Value, e = .returned (.tuple #[.agg C5, .int .i64 ((na : Int) + (ne : Int)), .int .i64 0]) ∧ C5.size = 17 ∧ C5.all (·.oneCell') = true ∧ W4.grownBy W5 none ∧ Hid (∃ d5 r5, C5 = f.cs d5 r5 ∧ FrR W5 f d5 r5)) := by
    intro R aR cR hR hRl ht' hp'
    obtain ⟨l1, l2, l3, l4, l5⟩ := unhide HL
    have o3 := unhide O3
    have eax : ∃ q, Rd W3 ax E ∧ q = 0 := by
      obtain ⟨a', c', e', h', -⟩ := o3.rd l4
      injection e' with e1 e2 e3
      exact ⟨0, by rw [e1]; exact h', rfl⟩
    obtain ⟨-, hE, -⟩ := eax
    have ar := around_any a1 ax aR c1 cx cR la E R W3 ((unhide H1).grow (unhide G3)) hE (hR.grow (unhide G3)) (by omega)
    rw [← unhide HNA, ← unhide HN] at ar
    refine ar.mono ?_
    rintro e W4 ⟨s, rfl, os, g4⟩
    refine ⟨s, rfl, g4, ?_⟩
    have bR : Bs R := hR.1
    have bA : Bs la := (unhide H1).1
    have is := os.inS ((bA.app l4).app bR)
    have hkl : na ≤ (la ++ E ++ R).length := by rw [unhide HNA]; simp only [List.length_append]; omega
    have de := decode_folded is hkl (by simp only [List.length_append]; omega)
    have ed : decF ((la ++ E ++ R).drop na) = .inl (f, R) := by
      rw [unhide HNA, List.append_assoc, List.drop_left]
      exact unhide BK R ht' hp'
    refine de.mono ?_
    rintro e W5 (⟨C5, m5, rfl, s5, o5, g5, H5⟩ | ⟨e', hx, -⟩)
    · obtain ⟨f5, l5', d5, r5, hx, hm5, hC5, oB5, oR5⟩ := unhide H5
      rw [ed] at hx
      cases hx
      have em : (m5 : Int) = (na : Int) + (ne : Int) := by
        rw [hm5, unhide HNA, unhide HN]; simp only [List.length_append]; omega
      exact ⟨C5, by rw [em], s5, o5, g5, d5, r5, hC5, FrR.own oB5 oR5 l5⟩
    · rw [ed] at hx; cases hx
  have wr : IntKind.i64.wrap ((na : Int) + (ne : Int)) = (na : Int) + (ne : Int) := by
    have := unhide HL; rw [IntKind.wrap_i64, unhide HNA, unhide HN]; omega
  have C1 : Hid (∀ W5, W3.grownBy W5 none → ∀ C5 : Array Value, (∃ d5 r5, C5 = f.cs d5 r5 ∧ FrR W5 f d5 r5) → ∀ W6, W5.grownBy W6 none → Calls Try.prog 13 #[.agg C5, .agg C] W6 fun e w' => e = .returned (.bool true) ∧ W6.grownBy w' none) := by
    rintro W5 g5 C5 ⟨d5, r5, rfl, hf5⟩ W6 g6
    have := same_fr f d5 r5 d r W6 (hf5.keep g6) ((unhide HR).keep (((unhide G3).trans g5).trans g6))
    rw [unhide HC]
    exact this
  have HLB : Hid (lb.length ≤ 1048576) := (unhide HL).2.1
  clear HR HL HN HNA BK O3 HC
  rcases unhide arms with t | ⟨t, k⟩ | ⟨t, k, q⟩ | ⟨t, k, q, q2⟩ | ⟨t, k, q, q2⟩
  · clear arms
    have tl := unhide TAIL [] none 0 ⟨by simp, fun h => absurd rfl h⟩ (by simp) (fun _ => rfl) (fun _ => by simp)
    simp only [List.length_nil] at tl
    rw [t] at x6
    clear t TAIL
    go_upto_region 11 with fail
    go_upto_region 12 with (first | (go_at_call 12; refine tl.mono ?_; rintro e W4 ⟨s, rfl, g4, de⟩) | (go_at_call 11; refine de.mono ?_; rintro e W5 ⟨C5, rfl, s5, o5, g5, H5⟩; have iC5 : (Try.prog.info? 26).map (·.size) = some C5.size := (by rw [s5]; exact Try.size26)) | (refine wpList_store_new _ Z17 C5 W5.heap.size rfl _ _ _ rfl rfl rfl rfl iC5 (by rw [s5]; rfl) o5 ?_))
    have B5 := Blk.new W5 C5 26
    have g6 := World.grownBy_alloc W5 (.cells C5 26) none
    have sm := unhide C1 W5 (g4.trans g5) C5 (unhide H5) _ g6
    have B0' := ((b3.grown g4).grown g5).grown g6
    have G6 := hide ((unhide G3).trans ((g4.trans g5).trans g6))
    generalize W5.alloc (.cells C5 26) = W6 at *
    generalize W5.heap.size = b5 at *
    clear tl de H5 g4 g5 g6 C1
    go_upto_region 13 with (first | (refine wpList_load_row rfl _ _ rfl b5 rfl 26 C5 (0, 0) _ B5 Try.underlying26 rfl iC5 ?_) | (refine wpList_load_row rfl _ _ rfl w.heap.size rfl 26 C (0, 0) _ B0' Try.underlying26 rfl iC ?_) | (go_at_call 13; refine sm.mono ?_; rintro e W7 ⟨rfl, g7⟩))
    go_wp2
    go_ret
    exact ⟨rfl, (unhide G6).trans g7⟩
  · clear arms
    have tl := unhide TAIL lb a2 c2 (unhide H2) (by have := (unhide HLB); exact this) (fun h => by rw [t] at h; cases h) (fun h => absurd h k)
    rw [← unhide HNB] at tl
    have u0 := beq_nk k
    rw [t] at x6
    clear t TAIL k
    go_upto_region 11 with fail
    go_upto_region 12 with (first | (go_at_call 12; refine tl.mono ?_; rintro e W4 ⟨s, rfl, g4, de⟩) | (go_at_call 11; refine de.mono ?_; rintro e W5 ⟨C5, rfl, s5, o5, g5, H5⟩; have iC5 : (Try.prog.info? 26).map (·.size) = some C5.size := (by rw [s5]; exact Try.size26)) | (refine wpList_store_new _ Z17 C5 W5.heap.size rfl _ _ _ rfl rfl rfl rfl iC5 (by rw [s5]; rfl) o5 ?_))
    have B5 := Blk.new W5 C5 26
    have g6 := World.grownBy_alloc W5 (.cells C5 26) none
    have sm := unhide C1 W5 (g4.trans g5) C5 (unhide H5) _ g6
    have B0' := ((b3.grown g4).grown g5).grown g6
    have G6 := hide ((unhide G3).trans ((g4.trans g5).trans g6))
    generalize W5.alloc (.cells C5 26) = W6 at *
    generalize W5.heap.size = b5 at *
    clear tl de H5 g4 g5 g6 C1
    go_upto_region 13 with (first | (refine wpList_load_row rfl _ _ rfl b5 rfl 26 C5 (0, 0) _ B5 Try.underlying26 rfl iC5 ?_) | (refine wpList_load_row rfl _ _ rfl w.heap.size rfl 26 C (0, 0) _ B0' Try.underlying26 rfl iC ?_) | (go_at_call 13; refine sm.mono ?_; rintro e W7 ⟨rfl, g7⟩))
    go_wp2
    go_ret
    exact ⟨rfl, (unhide G6).trans g7⟩
  · clear arms
    have tl := unhide TAIL lb a2 c2 (unhide H2) (by have := (unhide HLB); exact this) (fun h => by rw [t] at h; cases h) (fun h => by rw [q]; simp)
    rw [← unhide HNB] at tl
    have z0 : nb = 0 := by rw [unhide HNB, q]; rfl
    have u0 := beq_yk k
    have z1 : ¬ (0 : Int) < (nb : Int) := by omega
    have z2 : decide ((0 : Int) < (nb : Int)) = false := decide_eq_false z1
    have z3 : ¬ 0 < nb := by omega
    have z4 : decide (0 < nb) = false := decide_eq_false z3
    rw [t] at x6
    clear t TAIL k q z0 HNB
    go_upto_region 11 with fail
    go_upto_region 12 with (first | (go_at_call 12; refine tl.mono ?_; rintro e W4 ⟨s, rfl, g4, de⟩) | (go_at_call 11; refine de.mono ?_; rintro e W5 ⟨C5, rfl, s5, o5, g5, H5⟩; have iC5 : (Try.prog.info? 26).map (·.size) = some C5.size := (by rw [s5]; exact Try.size26)) | (refine wpList_store_new _ Z17 C5 W5.heap.size rfl _ _ _ rfl rfl rfl rfl iC5 (by rw [s5]; rfl) o5 ?_))
    have B5 := Blk.new W5 C5 26
    have g6 := World.grownBy_alloc W5 (.cells C5 26) none
    have sm := unhide C1 W5 (g4.trans g5) C5 (unhide H5) _ g6
    have B0' := ((b3.grown g4).grown g5).grown g6
    have G6 := hide ((unhide G3).trans ((g4.trans g5).trans g6))
    generalize W5.alloc (.cells C5 26) = W6 at *
    generalize W5.heap.size = b5 at *
    clear tl de H5 g4 g5 g6 C1
    go_upto_region 13 with (first | (refine wpList_load_row rfl _ _ rfl b5 rfl 26 C5 (0, 0) _ B5 Try.underlying26 rfl iC5 ?_) | (refine wpList_load_row rfl _ _ rfl w.heap.size rfl 26 C (0, 0) _ B0' Try.underlying26 rfl iC ?_) | (go_at_call 13; refine sm.mono ?_; rintro e W7 ⟨rfl, g7⟩))
    go_wp2
    go_ret
    exact ⟨rfl, (unhide G6).trans g7⟩
  · clear arms
    have tl := unhide TAIL [] none 0 ⟨by simp, fun h => absurd rfl h⟩ (by simp) (fun _ => rfl) (fun _ => by simp)
    simp only [List.length_nil] at tl
    have z0 : 0 < nb := by rw [unhide HNB]; exact List.length_pos_iff.2 q
    obtain ⟨bq, oq, rfl, hcq⟩ := (unhide H2).2 q
    have cq := cell_grown (hcq 0 (by rw [← unhide HNB]; exact z0)) (unhide G3)
    rw [q2, Nat.add_zero] at cq
    have u0 := beq_yk k
    have z1 : (0 : Int) < (nb : Int) := by omega
    have z2 : decide ((0 : Int) < (nb : Int)) = true := decide_eq_true z1
    have z4 : decide (0 < nb) = true := decide_eq_true z0
    rw [t] at x6
    have hcc := unhide HCC
    rw [← unhide HNB] at hcc
    clear t TAIL k q q2 HNB hcq
    go_upto_region 11 with fail
    go_upto_region 12 with (first | (go_at_call 12; refine tl.mono ?_; rintro e W4 ⟨s, rfl, g4, de⟩) | (go_at_call 11; refine de.mono ?_; rintro e W5 ⟨C5, rfl, s5, o5, g5, H5⟩; have iC5 : (Try.prog.info? 26).map (·.size) = some C5.size := (by rw [s5]; exact Try.size26)) | (refine wpList_store_new _ Z17 C5 W5.heap.size rfl _ _ _ rfl rfl rfl rfl iC5 (by rw [s5]; rfl) o5 ?_))
    have B5 := Blk.new W5 C5 26
    have g6 := World.grownBy_alloc W5 (.cells C5 26) none
    have sm := unhide C1 W5 (g4.trans g5) C5 (unhide H5) _ g6
    have B0' := ((b3.grown g4).grown g5).grown g6
    have G6 := hide ((unhide G3).trans ((g4.trans g5).trans g6))
    generalize W5.alloc (.cells C5 26) = W6 at *
    generalize W5.heap.size = b5 at *
    clear tl de H5 g4 g5 g6 C1
    go_upto_region 13 with (first | (refine wpList_load_row rfl _ _ rfl b5 rfl 26 C5 (0, 0) _ B5 Try.underlying26 rfl iC5 ?_) | (refine wpList_load_row rfl _ _ rfl w.heap.size rfl 26 C (0, 0) _ B0' Try.underlying26 rfl iC ?_) | (go_at_call 13; refine sm.mono ?_; rintro e W7 ⟨rfl, g7⟩))
    go_wp2
    go_ret
    exact ⟨rfl, (unhide G6).trans g7⟩
  · clear arms
    have tl := unhide TAIL lb a2 c2 (unhide H2) (by have := (unhide HLB); exact this) (fun h => by rw [t] at h; cases h) (fun _ => by cases lb with | nil => exact absurd rfl q | cons y l => simpa [List.getD] using q2)
    rw [← unhide HNB] at tl
    have z0 : 0 < nb := by rw [unhide HNB]; exact List.length_pos_iff.2 q
    obtain ⟨bq, oq, rfl, hcq⟩ := (unhide H2).2 q
    have cq := cell_grown (hcq 0 (by rw [← unhide HNB]; exact z0)) (unhide G3)
    rw [Nat.add_zero] at cq
    have uq := beq_nk q2
    have u0 := beq_yk k
    have z1 : (0 : Int) < (nb : Int) := by omega
    have z2 : decide ((0 : Int) < (nb : Int)) = true := decide_eq_true z1
    have z4 : decide (0 < nb) = true := decide_eq_true z0
    rw [t] at x6
    have hcc := unhide HCC
    rw [← unhide HNB] at hcc
    clear t TAIL k q HNB hcq q2
    generalize lb.getD 0 0 = yq at *
    go_upto_region 11 with fail
    go_upto_region 12 with (first | (go_at_call 12; refine tl.mono ?_; rintro e W4 ⟨s, rfl, g4, de⟩) | (go_at_call 11; refine de.mono ?_; rintro e W5 ⟨C5, rfl, s5, o5, g5, H5⟩; have iC5 : (Try.prog.info? 26).map (·.size) = some C5.size := (by rw [s5]; exact Try.size26)) | (refine wpList_store_new _ Z17 C5 W5.heap.size rfl _ _ _ rfl rfl rfl rfl iC5 (by rw [s5]; rfl) o5 ?_))
    have B5 := Blk.new W5 C5 26
    have g6 := World.grownBy_alloc W5 (.cells C5 26) none
    have sm := unhide C1 W5 (g4.trans g5) C5 (unhide H5) _ g6
    have B0' := ((b3.grown g4).grown g5).grown g6
    have G6 := hide ((unhide G3).trans ((g4.trans g5).trans g6))
    generalize W5.alloc (.cells C5 26) = W6 at *
    generalize W5.heap.size = b5 at *
    clear tl de H5 g4 g5 g6 C1
    go_upto_region 13 with (first | (refine wpList_load_row rfl _ _ rfl b5 rfl 26 C5 (0, 0) _ B5 Try.underlying26 rfl iC5 ?_) | (refine wpList_load_row rfl _ _ rfl w.heap.size rfl 26 C (0, 0) _ B0' Try.underlying26 rfl iC ?_) | (go_at_call 13; refine sm.mono ?_; rintro e W7 ⟨rfl, g7⟩))
    go_wp2
    go_ret
    exact ⟨rfl, (unhide G6).trans g7⟩

theorem back_walk (f : Fr) (d r v1 v2 : Value) (la lb : List Int) (w : World) (hF : FrIn w f d r) (hD : TS w d f.data) (hk : -9223372036854775808 ≤ f.kind ∧ f.kind ≤ 9223372036854775807) (h1 : InS w v1 la) (h2 : InS w v2 lb)
    (hdl : f.data.length ≤ 1048576) (hrl : f.runs.length ≤ 1048576) (hla : la.length ≤ 1048576) (hlb : lb.length ≤ 1048576) :
    Calls Try.prog 3 #[f.val d r, v1, v2] w fun e w' => e = .returned (.bool true) ∧ w.grownBy w' none := by
  cases ht : tellF f with
  | inr x => exact back_no f d r v1 v2 w x ht hF hD hk hdl hrl
  | inl nr =>
    obtain ⟨n, rs⟩ := nr
    obtain ⟨a1, c1, rfl, r1, -⟩ := h1.ex
    obtain ⟨a2, c2, rfl, r2, q1, q2, -⟩ := h2.ex
    exact back_yes f d r a1 a2 c1 c2 la lb n rs w ht hF hD hk r1 r2 hdl hrl hla hlb ⟨q1, by unfold maxLen at q2; omega⟩
end Go.Proofs.Ytggjeamondampab

namespace Go.Proofs.Ytggjeamondampab
open Go.ChangeShapes Go.WideShapes Go.ChangeAt Go.RowKit
set_option linter.unusedVariables false
set_option maxRecDepth 100000
namespace frameBackFrame

theorem own : ownKnob Try.prog.godebug = none := by kernel_rfl
theorem laidOut : laidOutB Try.prog = true := by kernel_rfl

set_option maxRecDepth 100000 in
theorem lifted (os : Os) (started : os.Started) (H : Type) (enc : TypeId × Value → H) (F : Stop.Interp) :
    ReturnsInHanded {} Try.checked os 3 .any ((Rows.OpenSpec.upto Rows.frameBackSpec).pre6 enc Try.prog Try.f3 Rows.frameBackUptoRow.domain false) (((Rows.OpenSpec.upto Rows.frameBackSpec).at F).post enc Try.prog Try.f3 false true false false) := by
  refine returnsInHanded_of_cond_sized (C := Try.checked) (s := Rows.OpenSpec.upto Rows.frameBackSpec) (k := Rows.uptoSmall) rfl own started (by kernel_rfl) Try.func3
    (OpenSpec.witness (enc := enc) (C := Try.checked) (s := Rows.OpenSpec.upto Rows.frameBackSpec) (k := Rows.uptoSmall) rfl false ⟨#[], #[.agg #[.int .i64 0, .int .i64 0, .int .i64 0, .slice none 0 0, .int .i64 0, .bool false, .bool false, .int .i64 0, .bool false, .int .i64 0, .bool false, .int .i64 0, .slice none 0 0, .bool false, .int .i64 0, .int .i64 0, .int .i64 0], .slice none 0 0, .slice none 0 0], []⟩ 8 (by kernel_rfl) (by kernel_rfl) (by kernel_rfl)
      (x := ([.agg [.lit (.int .i64 0), .lit (.int .i64 0), .lit (.int .i64 0), .nil, .lit (.int .i64 0), .lit (.bool false), .lit (.bool false), .lit (.int .i64 0), .lit (.bool false), .lit (.int .i64 0), .lit (.bool false), .lit (.int .i64 0), .nil, .lit (.bool false), .agg [.lit (.int .i64 0), .lit (.int .i64 0), .lit (.int .i64 0)]], .nil, .nil], [], [])) (by kernel_rfl) rfl (by kernel_rfl)) ?_
  intro W base args ds gs before hval0 hW hcnd hk hsz0 _
  have hsz : (DataW.weightsEach Try.prog (Try.f3.params.toList ++ (Rows.OpenSpec.upto Rows.frameBackSpec).bare.plain.varTypes Try.prog) (ds ++ gs)).all (· ≤ reachBytes) = true := hsz0
  have hval : ∀ (j : Nat) t v, Try.f3.params[j]? = some t → args[j]? = some v → Value.okWide Try.prog W .any base t v := hval0
  have hW' := hW
  obtain ⟨p, q, hA0, hV, rfl, hfz, hnd⟩ := hW
  have hA : DataW.TrodAll enc Try.prog W 0 (fun _ => true) true Try.f3.params.toList args.toList ds p := hA0
  rw [Try.params3] at hA hval hsz
  obtain ⟨v0, vs0, d0, ds0, p0, q0, hargs, rfl, rfl, h0, r0⟩ := trodAll_cons hA
  obtain ⟨v1, vs1, d1, ds1, p1, q1, rfl, rfl, rfl, h1, r1⟩ := trodAll_cons r0
  obtain ⟨v2, vs2, d2, ds2, p2, q2, rfl, rfl, rfl, h2, r2⟩ := trodAll_cons r1
  obtain ⟨rfl, rfl, rfl⟩ := trodAll_nil r2
  obtain rfl : args = #[v0, v1, v2] := by cases args; simp_all
  obtain ⟨rfl, rfl⟩ := trodVars_none hV
  have k0 := h0
  have lt0 : ∀ x ∈ p0, x.block < W.heap.size := by obtain ⟨m, hm⟩ := k0; exact DataW.trod_lt m _ _ _ hm
  obtain ⟨P0, x0, y0, rfl, i0, j0, l0, m0, n0, b0, c0⟩ := open_frame (hval 0 26 v0 rfl rfl) h0 (fun n hn => List.all_eq_true.1 hsz n (DataW.weights_mem_each (j := 0) rfl rfl n hn))
  have bk0 : P0.data.length ≤ 1048576 := Nat.le_trans b0 (bulk_mem hk (d := d0) (by simp))
  have ck0 : P0.runs.length ≤ 1048576 := Nat.le_trans c0 (bulk_mem hk (d := d0) (by simp))
  have k1 := h1
  have lt1 : ∀ x ∈ p1, x.block < W.heap.size := by obtain ⟨m, hm⟩ := k1; exact DataW.trod_lt m _ _ _ hm
  obtain ⟨a1, len1, cap1, rfl⟩ := okWide_slice Try.underlying22 (hval 1 22 v1 rfl rfl)
  obtain ⟨z1, w1, e1⟩ := open_row h1
  have g1 := row_size hsz (j := 1) rfl rfl e1
  have bk1 : (z1.take len1).length ≤ 1048576 := by
    have hb := bulk_mem hk (d := d1) (by simp)
    exact Nat.le_trans (row_bulk e1) hb
  have k2 := h2
  have lt2 : ∀ x ∈ p2, x.block < W.heap.size := by obtain ⟨m, hm⟩ := k2; exact DataW.trod_lt m _ _ _ hm
  obtain ⟨a2, len2, cap2, rfl⟩ := okWide_slice Try.underlying22 (hval 2 22 v2 rfl rfl)
  obtain ⟨z2, w2, e2⟩ := open_row h2
  have g2 := row_size hsz (j := 2) rfl rfl e2
  have bk2 : (z2.take len2).length ≤ 1048576 := by
    have hb := bulk_mem hk (d := d2) (by simp)
    exact Nat.le_trans (row_bulk e2) hb
  clear hA0 hval0
  refine (back_walk P0 x0 y0 _ _ _ _ W i0 j0 l0 (isRow_in w1) (isRow_in w2) bk0 ck0 bk1 bk2).mono fun e W' ⟨he, gr⟩ => ?_
  have bel := grown_bel gr
  subst he
  exact ⟨_, rfl, _, _, _, [], _, [], hW', trodAll_mk1 (shut_bool Try.underlying4 _), (trodAll_cons_mk (Below.trod laidOut (by kernel_rfl) (of_decide_eq_true (by kernel_rfl)) k0 bel lt0) (trodAll_cons_mk (Below.trod laidOut (by kernel_rfl) (of_decide_eq_true (by kernel_rfl)) k1 bel lt1) (trodAll_cons_mk (Below.trod laidOut (by kernel_rfl) (of_decide_eq_true (by kernel_rfl)) k2 bel lt2) trodAll_mk0))), rfl, bel.frame _, fun h => by cases h⟩

theorem over : Rows.frameBackUptoRow.holds Try.pinned (Rows.OpenSpec.upto Rows.frameBackSpec) :=
  OpenClaim.holds_of_cond 3 Try.f3 rfl rfl rfl rfl rfl rfl rfl ⟨rfl, rfl, rfl, rfl, rfl⟩ rfl rfl rfl rfl rfl (by kernel_rfl) Try.func3 (by kernel_rfl)
    (of_decide_eq_true (by kernel_rfl)) (by unfold Func.isWrapper; first | (rw [if_pos (by decide +kernel)]; kernel_rfl) | (rw [if_neg (by decide +kernel)]; exact ⟨rfl, rfl⟩))
    (fun os started H enc _ F => lifted os started H enc F)
end frameBackFrame

/-- THE STATEMENT -/
theorem frameBack_holds : Rows.FrameBackUptoSaid := frameBackFrame.over
end Go.Proofs.Ytggjeamondampab
