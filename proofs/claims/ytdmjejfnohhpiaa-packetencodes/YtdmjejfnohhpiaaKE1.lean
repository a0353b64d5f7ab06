/- KE1, KE2, KE3, one text. -/
import Derived.Test.YtdmjejfnohhpiaaKB1
import Derived.Test.YtdmjejfnohhpiaaKRA
import Derived.Test.YtdmjejfnohhpiaaKWP
import Derived.Deep.DeepCutAuto
namespace Go.Proofs.Ytdmjejfnohhpiaa
open Go.RowKit
set_option linter.unusedVariables false
set_option maxRecDepth 100000
set_option maxHeartbeats 2000000

def lowF (n wd : Int) : Int := if 0 ≤ n ∧ n ≤ MAXP then n % st wd else 0
theorem lowF_in (n wd : Int) : 0 ≤ lowF n wd ∧ lowF n wd < st wd := by
  have := st_pos wd
  unfold lowF
  split
  · exact ⟨Int.emod_nonneg _ (by omega), Int.emod_lt_of_pos _ this.1⟩
  · omega
def headP (p : Pk) (n len : Int) : List Int :=
  if p.space = 2 then [63 + p.width] ++ p.dst ++ dig (lowF n p.width) p.width.toNat
  else [191 + 32 * p.space + p.width, 0, 0, 0, 1, (p.dst.length : Int)] ++ p.dst ++ [(p.src.length : Int)] ++ p.src ++ (if p.space = 0 then [0] else []) ++ (putAsF (IntKind.u64.wrap len) 2).1 ++ dig (lowF n p.width) p.width.toNat

/-- A row under way. -/
structure RowU (w0 W : World) (v : Value) (l : List Int) : Prop where
  own : OwnB w0.heap.size W v l
  gr : w0.grownBy W none
theorem RowU.none (w0 : World) : RowU w0 w0 (.slice none 0 0) [] := ⟨OwnB.nil _ _, World.grownBy.refl _ _⟩
theorem RowU.al {w0 W : World} {v : Value} {l : List Int} (h : RowU w0 W v l) (o : Obj) : RowU w0 (W.alloc o) v l := ⟨h.own.far (World.grownBy_alloc W o Option.none) (fun q e => by cases e), h.gr.trans (World.grownBy_alloc W o Option.none)⟩
theorem RowU.go {w0 W W' : World} {v : Value} {l : List Int} (h : RowU w0 W v l) (g : W.grownBy W' Option.none) : RowU w0 W' v l := ⟨h.own.far g (fun q e => by cases e), h.gr.trans g⟩

theorem wpList_app_st {ops : Array Oper} {rest : List Oper} {o : Oper} {act : Act} {Q : Exit → Act → World → Prop} {w0 W : World} (hgd : o.guard = none) (s x : Operand)
    (ho : o.op = .call { callee := .builtin .append, args := #[s, x], argTypes := #[22, 22] }) {v : Value} {l : List Int} (st : RowU w0 W v l) (hs : act.eval s = v)
    (u : Value) (m : List Int) (hu : InB W u m) (hx : act.eval x = u) (h48 : l.length + m.length ≤ 140737488355328)
    (h : ∀ v' W', RowU w0 W' v' (l ++ m) → wpList Try.prog ops Q rest (act.put o.dst v') W') : wpList Try.prog ops Q (o :: rest) act W :=
  wpList_app_rd W hgd s x ho w0.heap.size v l st.own hs u m hu hx h48 st.gr.size fun v' W' o' g' => h v' W' ⟨o', grown_own st.gr g' st.own.block⟩

theorem big_own (low wd : Int) (w : World) (h0 : 0 ≤ low ∧ low < st wd) (hw : 1 ≤ wd ∧ wd ≤ 4) :
    Calls Try.prog 48 #[.int .u64 low, .int .i64 wd] w fun e w' => ∃ a c, e = .returned (.tuple #[.slice a wd.toNat c, .int .i64 0]) ∧ OwnB w.heap.size w' (.slice a wd.toNat c) (dig low wd.toNat) ∧ w.grownBy w' none := by
  obtain ⟨m, rfl⟩ := Int.eq_ofNat_of_zero_le (show 0 ≤ wd by omega)
  have hst := st_pow m hw
  have hp := st_pos m
  rw [Int.toNat_natCast] at hst ⊢
  refine (rbig_any low m w h0.1 (by omega) (by omega)).mono fun e w' ⟨s, he, ho, hb⟩ => ?_
  have hz : low / 256 ^ m = 0 := Int.ediv_eq_zero_of_lt h0.1 (by rw [← hst]; exact h0.2)
  rw [decide_eq_true hz] at he
  have ho' : OwnB w.heap.size w' s (dig low m) := by
    unfold OwnB; rw [dig_length]; exact ho
  obtain ⟨a, c, e2⟩ := ho'.shape
  rw [dig_length] at e2
  exact ⟨a, c, by rw [he, e2]; rfl, by rw [← e2]; exact ho', below_grown hb⟩

theorem cut_low_any (n wd : Int) (w : World) (hw : 1 ≤ wd ∧ wd ≤ 4) :
    Calls Try.prog 47 #[.int .i64 n, .int .i64 wd] w fun e w' => ∃ y, e = .returned (.tuple #[.int .u32 (lowF n wd), .int .i64 y]) ∧ w' = w := by
  unfold lowF
  by_cases h : 0 ≤ n ∧ n ≤ MAXP
  · rw [if_pos h]
    exact (refCut_good n wd w h.1 h.2 hw).mono fun e w' ⟨he, hw⟩ => ⟨0, he, hw⟩
  · rw [if_neg h]
    exact (refCut_bad n wd w (by unfold MAXP at h; omega)).mono fun e w' ⟨he, hw⟩ => ⟨1, he, hw⟩

end Go.Proofs.Ytdmjejfnohhpiaa

namespace Go.Proofs.Ytdmjejfnohhpiaa
open Go.RowKit
set_option linter.unusedVariables false
set_option maxRecDepth 100000
set_option maxHeartbeats 2000000

theorem head_err (p : Pk) (d s y : Value) (w : World) (n len : Int) (a1 a2 : Option Addr) (c1 c2 : Nat) (hd : d = .slice a1 p.dst.length c1) (hs : s = .slice a2 p.src.length c2) (l1 : p.dst.length ≤ 140737488355328) (l2 : p.src.length ≤ 140737488355328) (he : badK p ∨ badF p) :
    Calls Try.prog 36 #[p.val d s y, .int .i64 n, .int .i64 len] w fun e w' => e = .returned (.tuple #[nilV, .int .i64 (if badK p then 53 else 54)]) ∧ w.grownBy w' none := by
  subst hd hs
  have gr := fun o => World.grownBy_alloc w o none
  by_cases hK : badK p
  · rw [if_pos hK]
    unfold badK at hK
    clear he
    by_cases h0 : p.space < 0
    · clear hK
      go_enter Try.func36, Try.ntmps36
      go_wp2
      go_ret2
      exact ⟨rfl, gr _⟩
    · have h2 : 2 < p.space := by omega
      clear hK
      go_enter Try.func36, Try.ntmps36
      go_wp2
      go_ret2
      exact ⟨rfl, gr _⟩
  · rw [if_neg hK]
    have hF : badF p := he.resolve_left hK
    unfold badK at hK
    unfold badF at hF
    have k0 : ¬ p.space < 0 := by omega
    have k2 : ¬ 2 < p.space := by omega
    clear he hK
    generalize p.dst.length = nd at *
    generalize p.src.length = ns at *
    by_cases f1 : (20 : Int) < (nd : Int)
    · clear hF
      go_enter Try.func36, Try.ntmps36
      go_wp2
      go_ret2
      exact ⟨rfl, gr _⟩
    by_cases f2 : (20 : Int) < (ns : Int)
    · clear hF
      go_enter Try.func36, Try.ntmps36
      go_wp2
      go_ret2
      exact ⟨rfl, gr _⟩
    by_cases f3 : p.space = 2
    · have f3' : (p.space == 2) = true := by simpa using f3
      by_cases f4 : (0 : Int) < (ns : Int)
      · clear hF f3
        go_enter Try.func36, Try.ntmps36
        go_wp2
        go_ret2
        exact ⟨rfl, gr _⟩
      · by_cases f5 : p.width < 1
        · clear hF f3
          go_enter Try.func36, Try.ntmps36
          go_wp2
          go_ret2
          exact ⟨rfl, gr _⟩
        · have f6 : 4 < p.width := by omega
          clear hF f3
          go_enter Try.func36, Try.ntmps36
          go_wp2
          go_ret2
          exact ⟨rfl, gr _⟩
    · have f3' : (p.space == 2) = false := by simpa using f3
      by_cases f5 : p.width < 1
      · clear hF f3
        go_enter Try.func36, Try.ntmps36
        go_wp2
        go_ret2
        exact ⟨rfl, gr _⟩
      · have f6 : 4 < p.width := by omega
        clear hF f3
        go_enter Try.func36, Try.ntmps36
        go_wp2
        go_ret2
        exact ⟨rfl, gr _⟩

/-- What may be written but for the number and the length. -/
structure Okh (p : Pk) : Prop where
  sp : p.space = 0 ∨ p.space = 1 ∨ p.space = 2
  d : p.dst.length ≤ 20
  s : p.src.length ≤ 20
  s2 : p.space = 2 → p.src.length = 0
  w : 1 ≤ p.width ∧ p.width ≤ 4
theorem okh_of {p : Pk} (h1 : ¬ badK p) (h2 : ¬ badF p) : Okh p := by
  unfold badK at h1; unfold badF at h2
  exact ⟨by omega, by omega, by omega, by omega, by omega⟩

theorem head_app (p : Pk) (h : Okh p) (h2 : p.space = 2) (d s y : Value) (w : World) (n len : Int) (hd : InB w d p.dst) (hs : InB w s p.src) :
    Calls Try.prog 36 #[p.val d s y, .int .i64 n, .int .i64 len] w fun e w' => ∃ v, e = .returned (.tuple #[v, .int .i64 0]) ∧ OwnB w.heap.size w' v (headP p n len) ∧ w.grownBy w' none := by
  obtain ⟨a1, c1, rfl, -⟩ := id hd
  obtain ⟨a2, c2, rfl, -⟩ := id hs
  have hP : headP p n len = [] ++ [63 + p.width] ++ p.dst ++ dig (lowF n p.width) p.width.toNat := by unfold headP; rw [if_pos h2]; simp
  generalize headP p n len = HL at *
  have HP := hide hP
  rw [h.s2 h2]
  have hw := h.w; have hdl := h.d; have hsl := h.s; have hs2 := h.s2 h2
  have hct := fun W => cut_low_any n p.width W hw
  have hlo := lowF_in n p.width
  have hst := st_pos p.width
  have hbg := fun W => big_own (lowF n p.width) p.width W hlo hw
  have hu : IntKind.u64.wrap (lowF n p.width) = lowF n p.width := by rw [IntKind.wrap_u64]; omega
  have k0 : ¬ p.space < 0 := by omega
  have k2 : ¬ 2 < p.space := by omega
  have f1 : ¬ (20 : Int) < (p.dst.length : Int) := by omega
  have f3 : (p.space == 2) = true := by simpa using h2
  have f5 : ¬ p.width < 1 := by omega
  have f6 : ¬ 4 < p.width := by omega
  have w1 : IntKind.i64.wrap (64 + p.width) = 64 + p.width := by rw [IntKind.wrap_i64]; omega
  have w2 : IntKind.i64.wrap (64 + p.width - 1) = 63 + p.width := by rw [IntKind.wrap_i64]; omega
  have w3 : IntKind.u8.wrap (63 + p.width) = 63 + p.width := by rw [IntKind.wrap_u8]; omega
  have b0 := Blk.new w (p.cs (.slice a1 p.dst.length c1) (.slice a2 0 c2) y) 24
  have g0 := World.grownBy_alloc w (.cells (p.cs (.slice a1 p.dst.length c1) (.slice a2 0 c2) y) 24) none
  have hbw : IsB (63 + p.width) := by unfold IsB; omega
  have hdg := dig_byte (lowF n p.width) p.width.toNat
  have hdgl := dig_length (lowF n p.width) p.width.toNat
  have htn : p.width.toNat ≤ 4 := by omega
  have HDG := hide hdg; have HDL := hide hdgl; have HBW := hide hbw
  clear hP h2 hs2 hst hlo hdg hdgl hbw
  generalize lowF n p.width = low at *
  go_enter Try.func36, Try.ntmps36
  go_wp2_with fail
  refine (hct _).mono ?_
  rintro e W1 ⟨yy, rfl, hw1⟩
  subst hw1
  go_wp2_with fail
  refine (hbg _).mono ?_
  rintro e W2 ⟨at', ct', rfl, ot, g2⟩
  have hX : ∀ W, W2.grownBy W none → W.cell? ⟨w.heap.size, 1, none⟩ = some (.slice a1 p.dst.length c1) := fun W g => ((b0.grown g2).grown g).cell 1 _ rfl
  have bW := b0.grown g2
  have x0 := bW.cell 0 (.int .i64 p.space) rfl
  have x4 := bW.cell 4 (.int .i64 p.width) rfl
  have iT := ot.inB (unhide HDG)
  have iD := hd.grown (g0.trans g2)
  have HX := hide hX; have HT := hide iT; have HD := hide iD; have HG := hide (g0.trans g2)
  clear hX iT iD ot hct hbg hd hs
  generalize hDD : dig low p.width.toNat = DD at *
  clear hDD
  have hsz := bW.lt
  generalize p.width.toNat = tn at *
  go_wp2_with (first
    | (at_builtin; refine wpList_app_st rfl (.tmp 72) (.tmp 78) rfl ((RowU.none W2).al _) rfl _ [63 + p.width] (InB.at rfl rfl (small_le (by simp)) (by simpa using unhide HBW)) rfl (by simp) ?_; intro v1 U1 s1; have S1 := hide s1; have xd := unhide HX _ s1.gr; clear s1)
    | (at_builtin; refine wpList_app_st rfl (.tmp 80) (.tmp 82) rfl (unhide S1) rfl _ p.dst ((unhide HD).grown (unhide S1).gr) rfl (by simp; omega) ?_; intro v2 U2 s2; have S2 := hide s2; clear s2)
    | (at_builtin; refine wpList_app_st rfl (.tmp 84) (.tmp 85) rfl (unhide S2) rfl _ DD ((unhide HT).grown (unhide S2).gr) rfl (by rw [unhide HDL]; simp; omega) ?_; intro v3 U3 s3; have S3 := hide s3; clear s3)
    | fail)
  go_ret2
  exact ⟨_, rfl, by rw [unhide HP]; exact (unhide S3).own.mono (unhide HG).size, (unhide HG).trans (unhide S3).gr⟩

end Go.Proofs.Ytdmjejfnohhpiaa

namespace Go.Proofs.Ytdmjejfnohhpiaa
open Go.RowKit
set_option linter.unusedVariables false
set_option maxRecDepth 100000
set_option maxHeartbeats 2000000

theorem head_long (p : Pk) (h : Okh p) (h2 : p.space = 0 ∨ p.space = 1) (d s y : Value) (w : World) (n len : Int) (hd : InB w d p.dst) (hs : InB w s p.src) :
    Calls Try.prog 36 #[p.val d s y, .int .i64 n, .int .i64 len] w fun e w' => ∃ v, e = .returned (.tuple #[v, .int .i64 0]) ∧ OwnB w.heap.size w' v (headP p n len) ∧ w.grownBy w' none := by
  obtain ⟨a1, c1, rfl, -⟩ := id hd
  obtain ⟨a2, c2, rfl, -⟩ := id hs
  have hP : headP p n len = [] ++ [191 + 32 * p.space + p.width, 0, 0, 0, 1, (p.dst.length : Int)] ++ p.dst ++ [(p.src.length : Int)] ++ p.src ++ (if p.space = 0 then [0] else []) ++ (putAsF (IntKind.u64.wrap len) 2).1 ++ dig (lowF n p.width) p.width.toNat := by unfold headP; rw [if_neg (by omega)]; simp
  generalize headP p n len = HL at *
  have hw := h.w; have hdl := h.d; have hsl := h.s
  have hct := fun W => cut_low_any n p.width W hw
  have hlo := lowF_in n p.width
  have hst := st_pos p.width
  have hbg := fun W => big_own (lowF n p.width) p.width W hlo hw
  have hu : IntKind.u64.wrap (lowF n p.width) = lowF n p.width := by rw [IntKind.wrap_u64]; omega
  have hpu : ∀ W, Calls Try.prog 49 #[.int .u64 (IntKind.u64.wrap len), .int .i64 2] W fun e w' => ∃ a c, e = .returned (.tuple #[.slice a (putAsF (IntKind.u64.wrap len) 2).1.length c, .int .i64 (putAsF (IntKind.u64.wrap len) 2).2]) ∧ OwnB W.heap.size w' (.slice a (putAsF (IntKind.u64.wrap len) 2).1.length c) (putAsF (IntKind.u64.wrap len) 2).1 ∧ W.grownBy w' none := fun W =>
    (rputAs_own (IntKind.u64.wrap len) 2 W (by rw [IntKind.wrap_u64]; omega) (by rw [IntKind.wrap_u64]; omega)).mono fun e w' ⟨v, he, ho⟩ => by
      have ho' : OwnB W.heap.size w' v (putAsF (IntKind.u64.wrap len) 2).1 := ho.1
      obtain ⟨a, c, e2⟩ := ho'.shape
      exact ⟨a, c, by rw [he, e2], by rw [← e2]; exact ho', below_grown ho.2⟩
  have hsz2 : (putAsF (IntKind.u64.wrap len) 2).1.length ≤ 8 ∧ ∀ x ∈ (putAsF (IntKind.u64.wrap len) 2).1, IsB x := by
    have h0 : 0 ≤ IntKind.u64.wrap len := by rw [IntKind.wrap_u64]; omega
    unfold putAsF
    split
    · split
      · rename_i hq
        have hf := fits_of (IntKind.u64.wrap len) 2 (.inr (.inl rfl)) hq.2 hq.1
        exact ⟨by rw [layF_length]; decide, layF_byte _ _ h0 hf⟩
      · simp
    · simp
  have k0 : ¬ p.space < 0 := by omega
  have k2 : ¬ 2 < p.space := by omega
  have f1 : ¬ (20 : Int) < (p.dst.length : Int) := by omega
  have f2 : ¬ (20 : Int) < (p.src.length : Int) := by omega
  have f3 : (p.space == 2) = false := by simp; omega
  have f5 : ¬ p.width < 1 := by omega
  have f6 : ¬ 4 < p.width := by omega
  have w1 : IntKind.i64.wrap (32 * p.space) = 32 * p.space := by rw [IntKind.wrap_i64]; omega
  have w2 : IntKind.i64.wrap (192 + 32 * p.space) = 192 + 32 * p.space := by rw [IntKind.wrap_i64]; omega
  have w3 : IntKind.i64.wrap (192 + 32 * p.space + p.width) = 192 + 32 * p.space + p.width := by rw [IntKind.wrap_i64]; omega
  have w4 : IntKind.i64.wrap (192 + 32 * p.space + p.width - 1) = 191 + 32 * p.space + p.width := by rw [IntKind.wrap_i64]; omega
  have w5 : IntKind.u8.wrap (191 + 32 * p.space + p.width) = 191 + 32 * p.space + p.width := by rw [IntKind.wrap_u8]; omega
  have w6 : IntKind.u8.wrap (p.dst.length : Int) = (p.dst.length : Int) := by rw [IntKind.wrap_u8]; omega
  have w7 : IntKind.u8.wrap (p.src.length : Int) = (p.src.length : Int) := by rw [IntKind.wrap_u8]; omega
  have b0 := Blk.new w (p.cs (.slice a1 p.dst.length c1) (.slice a2 p.src.length c2) y) 24
  have g0 := World.grownBy_alloc w (.cells (p.cs (.slice a1 p.dst.length c1) (.slice a2 p.src.length c2) y) 24) none
  have hb1 : ∀ x ∈ [191 + 32 * p.space + p.width, 0, 0, 0, 1, (p.dst.length : Int)], IsB x := by
    intro x hx; simp only [List.mem_cons, List.not_mem_nil, or_false] at hx; unfold IsB; omega
  have hb2 : ∀ x ∈ [(p.src.length : Int)], IsB x := by
    intro x hx; simp only [List.mem_cons, List.not_mem_nil, or_false] at hx; unfold IsB; omega
  have hdg := dig_byte (lowF n p.width) p.width.toNat
  have hdgl := dig_length (lowF n p.width) p.width.toNat
  have htn : p.width.toNat ≤ 4 := by omega
  have HDG := hide hdg; have HDL := hide hdgl; have HB1 := hide hb1; have HB2 := hide hb2; have HPU := hide hpu; have HSZ := hide hsz2; have HP := hide hP; have HSP := hide h2
  clear hP hst hlo hdg hdgl hb1 hb2 hpu hsz2 h2
  generalize lowF n p.width = low at *
  generalize putAsF (IntKind.u64.wrap len) 2 = PA at *
  go_enter Try.func36, Try.ntmps36
  go_wp2_with fail
  refine (hct _).mono ?_
  rintro e W1 ⟨yy, rfl, hw1⟩
  subst hw1
  go_wp2_with fail
  refine (hbg _).mono ?_
  rintro e W2 ⟨at', ct', rfl, ot, g2⟩
  have hX : ∀ W, W2.grownBy W none → W.cell? ⟨w.heap.size, 0, none⟩ = some (.int .i64 p.space) ∧ W.cell? ⟨w.heap.size, 1, none⟩ = some (.slice a1 p.dst.length c1) ∧ W.cell? ⟨w.heap.size, 2, none⟩ = some (.slice a2 p.src.length c2) := fun W g => ⟨((b0.grown g2).grown g).cell 0 _ rfl, ((b0.grown g2).grown g).cell 1 _ rfl, ((b0.grown g2).grown g).cell 2 _ rfl⟩
  have bW := b0.grown g2
  have x0 := bW.cell 0 (.int .i64 p.space) rfl
  have x1 := bW.cell 1 (.slice a1 p.dst.length c1) rfl
  have x4 := bW.cell 4 (.int .i64 p.width) rfl
  have iT := ot.inB (unhide HDG)
  have iD := hd.grown (g0.trans g2)
  have iS := hs.grown (g0.trans g2)
  have HX := hide hX; have HT := hide iT; have HD := hide iD; have HS := hide iS; have HG := hide (g0.trans g2)
  clear hX iT iD iS ot hct hbg hd hs
  generalize hDD : dig low p.width.toNat = DD at *
  clear hDD
  have hsz := bW.lt
  generalize p.width.toNat = tn at *
  go_upto_if 120 with (first
    | (at_builtin; refine wpList_app_st rfl (.tmp 87) (.tmp 101) rfl ((RowU.none W2).al _) rfl _ [191 + 32 * p.space + p.width, 0, 0, 0, 1, (p.dst.length : Int)] (InB.at rfl rfl (small_le (by simp)) (unhide HB1)) rfl (by simp) ?_; intro v1 U1 s1; have S1 := hide s1; obtain ⟨x10, x11, x12⟩ := unhide HX _ s1.gr; clear s1)
    | (at_builtin; refine wpList_app_st rfl (.tmp 103) (.tmp 105) rfl (unhide S1) rfl _ p.dst ((unhide HD).grown (unhide S1).gr) rfl (by simp; omega) ?_; intro v2 U2 s2; have S2 := hide s2; obtain ⟨x20, x21, x22⟩ := unhide HX _ s2.gr; clear s2)
    | (at_builtin; refine wpList_app_st rfl (.tmp 107) (.tmp 112) rfl ((unhide S2).al _) rfl _ [(p.src.length : Int)] (InB.at rfl rfl (small_le (by simp)) (unhide HB2)) rfl (by simp; omega) ?_; intro v3 U3 s3; have S3 := hide s3; obtain ⟨x30, x31, x32⟩ := unhide HX _ s3.gr; clear s3)
    | (at_builtin; refine wpList_app_st rfl (.tmp 114) (.tmp 116) rfl (unhide S3) rfl _ p.src ((unhide HS).grown (unhide S3).gr) rfl (by simp; omega) ?_; intro v4 U4 s4; have S4 := hide s4; obtain ⟨x40, x41, x42⟩ := unhide HX _ s4.gr; clear s4)
    | fail)
  go_cut [12] (fun v wc => RowU W2 wc v ([] ++ [191 + 32 * p.space + p.width, 0, 0, 0, 1, (p.dst.length : Int)] ++ p.dst ++ [(p.src.length : Int)] ++ p.src ++ (if p.space = 0 then [0] else [])))
  case first =>
    rcases unhide HSP with e0 | e1
    · have t0 : (p.space == 0) = true := by simpa using e0
      have E : Hid ((if p.space = 0 then [(0 : Int)] else []) = [0]) := if_pos e0
      clear e0
      go_wp2_with (first
        | (at_builtin; refine wpList_app_st rfl (.tmp 121) (.tmp 122) rfl ((unhide S4).al _) rfl _ [0] (InB.at rfl rfl (small_le (by simp)) (by simp [IsB])) rfl (by simp; omega) ?_; intro v5 U5 s5; have S5 := hide s5; clear s5)
        | fail)
      go_meet
      rw [unhide E]
      exact unhide S5
    · have t0 : (p.space == 0) = false := by rw [e1]; rfl
      have E : Hid ((if p.space = 0 then [(0 : Int)] else []) = []) := if_neg (show ¬ p.space = 0 by omega)
      clear e1
      go_wp2_with fail
      go_meet
      rw [unhide E, List.append_nil]
      exact unhide S4
  case rest =>
    have S5 := hide hcut
    have hgr := hide hcut.gr
    have hl5 : ([] ++ [191 + 32 * p.space + p.width, 0, 0, 0, 1, (p.dst.length : Int)] ++ p.dst ++ [(p.src.length : Int)] ++ p.src ++ (if p.space = 0 then [0] else [])).length ≤ 60 := by
      simp only [List.length_append, List.length_cons, List.length_nil]
      split <;> simp <;> omega
    have HL5 := hide hl5
    clear hcut hl5
    generalize [] ++ [191 + 32 * p.space + p.width, 0, 0, 0, 1, (p.dst.length : Int)] ++ p.dst ++ [(p.src.length : Int)] ++ p.src ++ (if p.space = 0 then [0] else []) = B5 at *
    obtain ⟨PA1, PA2⟩ := PA
    go_wp2_with fail
    refine (unhide HPU _).mono ?_
    rintro e W6 ⟨aS, cS, rfl, os, g6⟩
    have S6 := hide ((unhide S5).go g6)
    have iS6 := hide (os.inB (unhide HSZ).2)
    clear os
    have h8 : PA1.length ≤ 8 := (unhide HSZ).1
    have hq1 : B5.length + PA1.length ≤ 140737488355328 := by have := unhide HL5; omega
    have hq2 : (B5 ++ PA1).length + DD.length ≤ 140737488355328 := by have := unhide HL5; have := unhide HDL; rw [List.length_append]; omega
    have Q1 := hide hq1; have Q2 := hide hq2
    clear hq1 hq2
    go_wp2_with (first
      | (at_builtin; refine wpList_app_st rfl (.tmp 130) (.tmp 131) rfl (unhide S6) rfl _ PA1 (unhide iS6) rfl (unhide Q1) ?_; intro v7 U7 s7; have S7 := hide s7; clear s7)
      | (at_builtin; refine wpList_app_st rfl (.tmp 133) (.tmp 134) rfl (unhide S7) rfl _ DD ((unhide HT).grown (unhide S7).gr) rfl (unhide Q2) ?_; intro v8 U8 s8; have S8 := hide s8; clear s8)
      | fail)
    go_ret2
    exact ⟨_, rfl, by rw [unhide HP]; exact (unhide S8).own.mono (unhide HG).size, (unhide HG).trans (unhide S8).gr⟩

end Go.Proofs.Ytdmjejfnohhpiaa
