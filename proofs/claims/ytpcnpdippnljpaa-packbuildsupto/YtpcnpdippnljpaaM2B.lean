/- KC2, KB1, KE1, KE4, KL3, KL1, KC5, KL4, KE5, one text. -/
import Derived.Test.YtpcnpdippnljpaaM2A
import Derived.Laws.OwnMore
import Derived.Deep.RegionHeld3
import Derived.Test.YtpcnpdippnljpaaKRA
import Derived.Test.YtpcnpdippnljpaaKWP
import Derived.Deep.DeepCutAuto
import Derived.Test.YtpcnpdippnljpaaKWL
namespace Go.Proofs.Ytpcnpdippnljpaa
open Go.RowKit
set_option linter.unusedVariables false
set_option maxRecDepth 100000
set_option maxHeartbeats 1000000

theorem grown_own {w W1 W : World} {r : Option Nat} (h1 : w.grownBy W1 none) (h2 : W1.grownBy W r) (hg : ∀ g, r = some g → w.heap.size ≤ g) : w.grownBy W none :=
  ⟨h2.os.trans h1.os, h2.tape.trans h1.tape, h2.output.trans h1.output, Nat.le_trans h1.size h2.size, fun i hi _ => (h2.block i (Nat.lt_of_lt_of_le hi h1.size) (fun e => by have := hg i e.symm; omega)).trans (h1.block i hi (by simp))⟩
theorem OwnB.block {base : Nat} {w : World} {v : Value} {d : List Int} (h : OwnB base w v d) : ∀ g, v.ownBlock = some g → base ≤ g := fun g e => by
  rcases h.2 with ⟨rfl, -⟩ | ⟨b, cap, cur, rfl, hb, -⟩
  · simp [Value.ownBlock] at e
  · simp [Value.ownBlock] at e; omega
theorem moved_grown {w W1 W : World} {v v' : Value} (h1 : w.grownBy W1 none) (hm : Moved W1 W v v') (hv : ∀ g, v.ownBlock = some g → w.heap.size ≤ g) : w.grownBy W none := by
  rcases hm with ⟨-, h⟩ | ⟨-, h, -⟩
  · exact grown_own h1 h hv
  · exact h1.trans h

theorem copied_any (v : Value) (l : List Int) (w : World) (h : InB w v l) (hb : l.length ≤ 140737488355327) :
    Calls Try.prog 32 #[v] w fun e w' => ∃ v', e = .returned v' ∧ OwnB w.heap.size w' v' l ∧ w.grownBy w' none := by
  obtain ⟨a, c, rfl, hr, h1, h2, -⟩ := h
  have hml : ¬ (9223372036854775807 : Int) < (l.length : Int) := by omega
  have HR := hide hr.2
  clear hr h2
  go_enter Try.func32, Try.ntmps32
  go_wp2_with fail
  go_loopw [3, 4] (fun s i wr => ∃ k : Nat, k ≤ l.length ∧ i = .int .i64 k ∧ OwnB w.heap.size wr s (l.take k) ∧ w.grownBy wr none) (fun _ i _ => l.length - (intOf i).toNat)
  case atStart => exact ⟨0, Nat.zero_le _, rfl, World.ownsRow_nil _ _ _ _, World.grownBy.refl w none⟩
  case round =>
    rename_i s i
    obtain ⟨k, hk, rfl, ho, gw⟩ := hrel
    by_cases hlt : k < l.length
    · obtain ⟨b, off, rfl, hx⟩ := unhide HR (fun e => by rw [e] at hlt; simp at hlt)
      have x0 := cell_grown (hx k hlt) gw
      have i1 : (k : Int) < (l.length : Int) := by omega
      have i2 : decide ((k : Int) < (l.length : Int)) = true := decide_eq_true i1
      have hkl : (l.take k).length = k := by simp; omega
      have e4 : (l.take (k + 1)).length = k + 1 := by simp; omega
      have HX : Hid (∀ v' w', w'.ownsRow w.heap.size 5 1 v' ((l.take k).length + 1) ((l.take k).map (Value.int .u8) ++ [.int .u8 (l.getD k 0)]) → OwnB w.heap.size w' v' (l.take (k + 1))) := fun v' w' h => by
        unfold OwnB
        rw [take_snoc l k hlt, List.map_append, List.length_append]
        exact h
      have hv := ho.block
      have HO := hide ho
      have HG := hide gw
      have hs := gw.size
      obtain ⟨a3, c3, rfl⟩ := ho.shape
      clear hx ho gw
      generalize l.getD k 0 = x at *
      go_wp2_with (at_builtin; refine wpList_app1 _ rfl _ _ rfl w.heap.size _ (l.take k).length _ (unhide HO) rfl (.int .u8 x) rfl rfl (by omega) hs ?_; intro v' w' hown hmv hnil; have o' := unhide HX v' w' hown; have g' := moved_grown ((unhide HG).trans (World.grownBy_alloc wr _ none)) hmv hv; have sh := o'.shape; rw [e4] at sh; obtain ⟨a4, c4, rfl⟩ := sh)
      exact ⟨⟨k + 1, hlt, by go_num, o', g'⟩, by simp [intOf]; omega⟩
    · obtain rfl : k = l.length := by omega
      rw [List.take_length] at ho
      obtain ⟨a3, c3, rfl⟩ := ho.shape
      have F := hide (And.intro ho gw)
      have i1 : ¬ (l.length : Int) < (l.length : Int) := by omega
      clear ho gw
      go_wp2_with fail
      go_ret
      exact ⟨_, rfl, (unhide F).1, (unhide F).2⟩

end Go.Proofs.Ytpcnpdippnljpaa

namespace Go.Proofs.Ytpcnpdippnljpaa
open Go.RowKit
set_option linter.unusedVariables false
set_option maxRecDepth 100000
set_option maxHeartbeats 1000000

theorem app_zero (w : World) (base : Nat) (ty : TypeId) (v : Value) (n : Nat) (xs : List Value) (hown : w.ownsRow base 5 1 v n xs) (a : Option Addr) (c : Nat) :
    (Builtin.append_ #[27, 27] ty #[v, .slice a 0 c]).run Try.prog w = .ok v w := by
  obtain ⟨i, hi, hz0, hz1, hz2⟩ := info_parts Try.info5
  rcases hown.2 with ⟨rfl, rfl⟩ | ⟨g, cap, cur, rfl, _, _, hnc, _⟩
  · cases a <;> simp [Builtin.append_, run_underlying Try.underlying27, sizeOf, typeInfo, hi, Builtin.lenOf, Builtin.firstCells, loadCells, loadCellsFrom]
  · cases a <;> simp [Builtin.append_, run_underlying Try.underlying27, sizeOf, typeInfo, hi, Builtin.lenOf, Builtin.firstCells, loadCells, loadCellsFrom, hnc, storeCells]

theorem app_rd (w : World) (base : Nat) (ty : TypeId) (v : Value) (d : List Int) (hown : OwnB base w v d) (u : Value) (l : List Int) (hu : InB w u l) (h48 : d.length + l.length ≤ 140737488355328) (hbase : base ≤ w.heap.size) :
    ∃ v' w', (Builtin.append_ #[27, 27] ty #[v, u]).run Try.prog w = .ok v' w' ∧ OwnB base w' v' (d ++ l) ∧ w.grownBy w' v.ownBlock := by
  obtain ⟨a, c, rfl, hr, h1, h2, h3⟩ := hu
  by_cases hl : l = []
  · subst hl
    exact ⟨v, w, app_zero w base ty v _ _ hown a c, by rw [List.append_nil]; exact hown, World.grownBy.refl w _⟩
  · obtain ⟨i, hi, hz0, hz1, hz2⟩ := info_parts Try.info5
    obtain ⟨b, off, rfl, hcell⟩ := hr.2 hl
    obtain ⟨v', w', h1, h2, h3, _⟩ := run_append_own (P := Try.prog) w base 27 ty 5 i (.int .u8 0) 1 1 Try.underlying27 hi hz0 hz1 hz2 rfl (by decide) v d.length _ hown ⟨b, off, none⟩ l.length c (l.map (Value.int .u8)) (by simp) (fun j u hu => by
      have hj : j < l.length := by
        by_cases c : j < l.length
        · exact c
        · simp [c] at hu
      rw [show (⟨b, off, none⟩ : Addr).add j = ⟨b, off + j, none⟩ by simp [Addr.add], hcell j hj]
      simpa [List.getD, hj] using hu) (fun u hu => by
      simp only [List.mem_map] at hu
      obtain ⟨y, _, rfl⟩ := hu
      rfl) (by unfold maxLen; omega) (by omega) hbase
    refine ⟨v', w', h1, ?_, h3⟩
    unfold OwnB
    rw [List.length_append, List.map_append]
    exact h2

theorem wpList_app_rd {ops : Array Oper} {rest : List Oper} {o : Oper} {act : Act} {Q : Exit → Act → World → Prop} (w : World) (hgd : o.guard = none) (s x : Operand)
    (ho : o.op = .call { callee := .builtin .append, args := #[s, x], argTypes := #[27, 27] }) (base : Nat) (v : Value) (d : List Int) (hown : OwnB base w v d) (hs : act.eval s = v)
    (u : Value) (l : List Int) (hu : InB w u l) (hx : act.eval x = u) (h48 : d.length + l.length ≤ 140737488355328) (hbase : base ≤ w.heap.size)
    (h : ∀ v' w', OwnB base w' v' (d ++ l) → w.grownBy w' v.ownBlock → wpList Try.prog ops Q rest (act.put o.dst v') w') : wpList Try.prog ops Q (o :: rest) act w := by
  refine wpList_plain hgd fun K hK => ?_
  obtain ⟨v', w', hrun, h2, h3⟩ := app_rd w base o.type v d hown u l hu h48 hbase
  unfold Oper.wp execOp
  simp only [ho, resolve, invoke, builtin, Sem.run_bind, Sem.run_pure, Result.andThen_ok, List.map_toArray, List.map_cons, List.map_nil, hs, hx, hrun]
  exact hK _ _ (h v' w' h2 h3)

theorem OwnB.nil (base : Nat) (w : World) : OwnB base w (.slice none 0 0) [] := World.ownsRow_nil _ _ _ _

end Go.Proofs.Ytpcnpdippnljpaa

namespace Go.Proofs.Ytpcnpdippnljpaa
open Go.RowKit
set_option linter.unusedVariables false
set_option maxRecDepth 100000
set_option maxHeartbeats 2000000

def lowF (n wd : Int) : Int := if 0 ≤ n ∧ n ≤ MAXP then n % st wd else 0
theorem lowF_in (n wd : Int) : 0 ≤ lowF n wd ∧ lowF n wd < st wd := by
  have := st_pos wd
  unfold lowF
  split
  · exact ⟨Int.emod_nonneg _ (by omega), Int.emod_lt_of_pos _ this.1⟩
  · omega
def headP (p : Pk) (n len : Int) : List Int :=
  if p.space = 2 then [63 + p.width] ++ p.dst ++ dig (lowF n p.width) p.width.toNat
  else [191 + 32 * p.space + p.width, 0, 0, 0, 1, (p.dst.length : Int)] ++ p.dst ++ [(p.src.length : Int)] ++ p.src ++ (if p.space = 0 then [0] else []) ++ (putAsF (IntKind.u64.wrap len) 2).1 ++ dig (lowF n p.width) p.width.toNat

/-- A row under way. -/
structure RowU (w0 W : World) (v : Value) (l : List Int) : Prop where
  own : OwnB w0.heap.size W v l
  gr : w0.grownBy W none
theorem RowU.none (w0 : World) : RowU w0 w0 (.slice none 0 0) [] := ⟨OwnB.nil _ _, World.grownBy.refl _ _⟩
theorem RowU.al {w0 W : World} {v : Value} {l : List Int} (h : RowU w0 W v l) (o : Obj) : RowU w0 (W.alloc o) v l := ⟨h.own.far (World.grownBy_alloc W o Option.none) (fun q e => by cases e), h.gr.trans (World.grownBy_alloc W o Option.none)⟩
theorem RowU.go {w0 W W' : World} {v : Value} {l : List Int} (h : RowU w0 W v l) (g : W.grownBy W' Option.none) : RowU w0 W' v l := ⟨h.own.far g (fun q e => by cases e), h.gr.trans g⟩

theorem wpList_app_st {ops : Array Oper} {rest : List Oper} {o : Oper} {act : Act} {Q : Exit → Act → World → Prop} {w0 W : World} (hgd : o.guard = none) (s x : Operand)
    (ho : o.op = .call { callee := .builtin .append, args := #[s, x], argTypes := #[27, 27] }) {v : Value} {l : List Int} (st : RowU w0 W v l) (hs : act.eval s = v)
    (u : Value) (m : List Int) (hu : InB W u m) (hx : act.eval x = u) (h48 : l.length + m.length ≤ 140737488355328)
    (h : ∀ v' W', RowU w0 W' v' (l ++ m) → wpList Try.prog ops Q rest (act.put o.dst v') W') : wpList Try.prog ops Q (o :: rest) act W :=
  wpList_app_rd W hgd s x ho w0.heap.size v l st.own hs u m hu hx h48 st.gr.size fun v' W' o' g' => h v' W' ⟨o', grown_own st.gr g' st.own.block⟩

theorem big_own (low wd : Int) (w : World) (h0 : 0 ≤ low ∧ low < st wd) (hw : 1 ≤ wd ∧ wd ≤ 4) :
    Calls Try.prog 48 #[.int .u64 low, .int .i64 wd] w fun e w' => ∃ a c, e = .returned (.tuple #[.slice a wd.toNat c, .int .i64 0]) ∧ OwnB w.heap.size w' (.slice a wd.toNat c) (dig low wd.toNat) ∧ w.grownBy w' none := by
  obtain ⟨m, rfl⟩ := Int.eq_ofNat_of_zero_le (show 0 ≤ wd by omega)
  have hst := st_pow m hw
  have hp := st_pos m
  rw [Int.toNat_natCast] at hst ⊢
  refine (rbig_any low m w h0.1 (by omega) (by omega)).mono fun e w' ⟨s, he, ho, hb⟩ => ?_
  have hz : low / 256 ^ m = 0 := Int.ediv_eq_zero_of_lt h0.1 (by rw [← hst]; exact h0.2)
  rw [decide_eq_true hz] at he
  have ho' : OwnB w.heap.size w' s (dig low m) := by
    unfold OwnB; rw [dig_length]; exact ho
  obtain ⟨a, c, e2⟩ := ho'.shape
  rw [dig_length] at e2
  exact ⟨a, c, by rw [he, e2]; rfl, by rw [← e2]; exact ho', below_grown hb⟩

theorem cut_low_any (n wd : Int) (w : World) (hw : 1 ≤ wd ∧ wd ≤ 4) :
    Calls Try.prog 47 #[.int .i64 n, .int .i64 wd] w fun e w' => ∃ y, e = .returned (.tuple #[.int .u32 (lowF n wd), .int .i64 y]) ∧ w' = w := by
  unfold lowF
  by_cases h : 0 ≤ n ∧ n ≤ MAXP
  · rw [if_pos h]
    exact (refCut_good n wd w h.1 h.2 hw).mono fun e w' ⟨he, hw⟩ => ⟨0, he, hw⟩
  · rw [if_neg h]
    exact (refCut_bad n wd w (by unfold MAXP at h; omega)).mono fun e w' ⟨he, hw⟩ => ⟨1, he, hw⟩

end Go.Proofs.Ytpcnpdippnljpaa

namespace Go.Proofs.Ytpcnpdippnljpaa
open Go.RowKit
set_option linter.unusedVariables false
set_option maxRecDepth 100000
set_option maxHeartbeats 2000000

theorem head_err (p : Pk) (d s y : Value) (w : World) (n len : Int) (a1 a2 : Option Addr) (c1 c2 : Nat) (hd : d = .slice a1 p.dst.length c1) (hs : s = .slice a2 p.src.length c2) (l1 : p.dst.length ≤ 140737488355328) (l2 : p.src.length ≤ 140737488355328) (he : badK p ∨ badF p) :
    Calls Try.prog 39 #[p.val d s y, .int .i64 n, .int .i64 len] w fun e w' => e = .returned (.tuple #[nilV, .int .i64 (if badK p then 53 else 54)]) ∧ w.grownBy w' none := by
  subst hd hs
  have gr := fun o => World.grownBy_alloc w o none
  by_cases hK : badK p
  · rw [if_pos hK]
    unfold badK at hK
    clear he
    by_cases h0 : p.space < 0
    · clear hK
      go_enter Try.func39, Try.ntmps39
      go_wp2
      go_ret2
      exact ⟨rfl, gr _⟩
    · have h2 : 2 < p.space := by omega
      clear hK
      go_enter Try.func39, Try.ntmps39
      go_wp2
      go_ret2
      exact ⟨rfl, gr _⟩
  · rw [if_neg hK]
    have hF : badF p := he.resolve_left hK
    unfold badK at hK
    unfold badF at hF
    have k0 : ¬ p.space < 0 := by omega
    have k2 : ¬ 2 < p.space := by omega
    clear he hK
    generalize p.dst.length = nd at *
    generalize p.src.length = ns at *
    by_cases f1 : (20 : Int) < (nd : Int)
    · clear hF
      go_enter Try.func39, Try.ntmps39
      go_wp2
      go_ret2
      exact ⟨rfl, gr _⟩
    by_cases f2 : (20 : Int) < (ns : Int)
    · clear hF
      go_enter Try.func39, Try.ntmps39
      go_wp2
      go_ret2
      exact ⟨rfl, gr _⟩
    by_cases f3 : p.space = 2
    · have f3' : (p.space == 2) = true := by simpa using f3
      by_cases f4 : (0 : Int) < (ns : Int)
      · clear hF f3
        go_enter Try.func39, Try.ntmps39
        go_wp2
        go_ret2
        exact ⟨rfl, gr _⟩
      · by_cases f5 : p.width < 1
        · clear hF f3
          go_enter Try.func39, Try.ntmps39
          go_wp2
          go_ret2
          exact ⟨rfl, gr _⟩
        · have f6 : 4 < p.width := by omega
          clear hF f3
          go_enter Try.func39, Try.ntmps39
          go_wp2
          go_ret2
          exact ⟨rfl, gr _⟩
    · have f3' : (p.space == 2) = false := by simpa using f3
      by_cases f5 : p.width < 1
      · clear hF f3
        go_enter Try.func39, Try.ntmps39
        go_wp2
        go_ret2
        exact ⟨rfl, gr _⟩
      · have f6 : 4 < p.width := by omega
        clear hF f3
        go_enter Try.func39, Try.ntmps39
        go_wp2
        go_ret2
        exact ⟨rfl, gr _⟩

/-- What may be written but for the number and the length. -/
structure Okh (p : Pk) : Prop where
  sp : p.space = 0 ∨ p.space = 1 ∨ p.space = 2
  d : p.dst.length ≤ 20
  s : p.src.length ≤ 20
  s2 : p.space = 2 → p.src.length = 0
  w : 1 ≤ p.width ∧ p.width ≤ 4
theorem okh_of {p : Pk} (h1 : ¬ badK p) (h2 : ¬ badF p) : Okh p := by
  unfold badK at h1; unfold badF at h2
  exact ⟨by omega, by omega, by omega, by omega, by omega⟩

theorem head_app (p : Pk) (h : Okh p) (h2 : p.space = 2) (d s y : Value) (w : World) (n len : Int) (hd : InB w d p.dst) (hs : InB w s p.src) :
    Calls Try.prog 39 #[p.val d s y, .int .i64 n, .int .i64 len] w fun e w' => ∃ v, e = .returned (.tuple #[v, .int .i64 0]) ∧ OwnB w.heap.size w' v (headP p n len) ∧ w.grownBy w' none := by
  obtain ⟨a1, c1, rfl, -⟩ := id hd
  obtain ⟨a2, c2, rfl, -⟩ := id hs
  have hP : headP p n len = [] ++ [63 + p.width] ++ p.dst ++ dig (lowF n p.width) p.width.toNat := by unfold headP; rw [if_pos h2]; simp
  generalize headP p n len = HL at *
  have HP := hide hP
  rw [h.s2 h2]
  have hw := h.w; have hdl := h.d; have hsl := h.s; have hs2 := h.s2 h2
  have hct := fun W => cut_low_any n p.width W hw
  have hlo := lowF_in n p.width
  have hst := st_pos p.width
  have hbg := fun W => big_own (lowF n p.width) p.width W hlo hw
  have hu : IntKind.u64.wrap (lowF n p.width) = lowF n p.width := by rw [IntKind.wrap_u64]; omega
  have k0 : ¬ p.space < 0 := by omega
  have k2 : ¬ 2 < p.space := by omega
  have f1 : ¬ (20 : Int) < (p.dst.length : Int) := by omega
  have f3 : (p.space == 2) = true := by simpa using h2
  have f5 : ¬ p.width < 1 := by omega
  have f6 : ¬ 4 < p.width := by omega
  have w1 : IntKind.i64.wrap (64 + p.width) = 64 + p.width := by rw [IntKind.wrap_i64]; omega
  have w2 : IntKind.i64.wrap (64 + p.width - 1) = 63 + p.width := by rw [IntKind.wrap_i64]; omega
  have w3 : IntKind.u8.wrap (63 + p.width) = 63 + p.width := by rw [IntKind.wrap_u8]; omega
  have b0 := Blk.new w (p.cs (.slice a1 p.dst.length c1) (.slice a2 0 c2) y) 29
  have g0 := World.grownBy_alloc w (.cells (p.cs (.slice a1 p.dst.length c1) (.slice a2 0 c2) y) 29) none
  have hbw : IsB (63 + p.width) := by unfold IsB; omega
  have hdg := dig_byte (lowF n p.width) p.width.toNat
  have hdgl := dig_length (lowF n p.width) p.width.toNat
  have htn : p.width.toNat ≤ 4 := by omega
  have HDG := hide hdg; have HDL := hide hdgl; have HBW := hide hbw
  clear hP h2 hs2 hst hlo hdg hdgl hbw
  generalize lowF n p.width = low at *
  go_enter Try.func39, Try.ntmps39
  go_wp2_with fail
  refine (hct _).mono ?_
  rintro e W1 ⟨yy, rfl, hw1⟩
  subst hw1
  go_wp2_with fail
  refine (hbg _).mono ?_
  rintro e W2 ⟨at', ct', rfl, ot, g2⟩
  have hX : ∀ W, W2.grownBy W none → W.cell? ⟨w.heap.size, 1, none⟩ = some (.slice a1 p.dst.length c1) := fun W g => ((b0.grown g2).grown g).cell 1 _ rfl
  have bW := b0.grown g2
  have x0 := bW.cell 0 (.int .i64 p.space) rfl
  have x4 := bW.cell 4 (.int .i64 p.width) rfl
  have iT := ot.inB (unhide HDG)
  have iD := hd.grown (g0.trans g2)
  have HX := hide hX; have HT := hide iT; have HD := hide iD; have HG := hide (g0.trans g2)
  clear hX iT iD ot hct hbg hd hs
  generalize hDD : dig low p.width.toNat = DD at *
  clear hDD
  have hsz := bW.lt
  generalize p.width.toNat = tn at *
  go_wp2_with (first
    | (at_builtin; refine wpList_app_st rfl (.tmp 72) (.tmp 78) rfl ((RowU.none W2).al _) rfl _ [63 + p.width] (InB.at rfl rfl (small_le (by simp)) (by simpa using unhide HBW)) rfl (by simp) ?_; intro v1 U1 s1; have S1 := hide s1; have xd := unhide HX _ s1.gr; clear s1)
    | (at_builtin; refine wpList_app_st rfl (.tmp 80) (.tmp 82) rfl (unhide S1) rfl _ p.dst ((unhide HD).grown (unhide S1).gr) rfl (by simp; omega) ?_; intro v2 U2 s2; have S2 := hide s2; clear s2)
    | (at_builtin; refine wpList_app_st rfl (.tmp 84) (.tmp 85) rfl (unhide S2) rfl _ DD ((unhide HT).grown (unhide S2).gr) rfl (by rw [unhide HDL]; simp; omega) ?_; intro v3 U3 s3; have S3 := hide s3; clear s3)
    | fail)
  go_ret2
  exact ⟨_, rfl, by rw [unhide HP]; exact (unhide S3).own.mono (unhide HG).size, (unhide HG).trans (unhide S3).gr⟩

end Go.Proofs.Ytpcnpdippnljpaa

namespace Go.Proofs.Ytpcnpdippnljpaa
open Go.RowKit
set_option linter.unusedVariables false
set_option maxRecDepth 100000
set_option maxHeartbeats 2000000

theorem head_long (p : Pk) (h : Okh p) (h2 : p.space = 0 ∨ p.space = 1) (d s y : Value) (w : World) (n len : Int) (hd : InB w d p.dst) (hs : InB w s p.src) :
    Calls Try.prog 39 #[p.val d s y, .int .i64 n, .int .i64 len] w fun e w' => ∃ v, e = .returned (.tuple #[v, .int .i64 0]) ∧ OwnB w.heap.size w' v (headP p n len) ∧ w.grownBy w' none := by
  obtain ⟨a1, c1, rfl, -⟩ := id hd
  obtain ⟨a2, c2, rfl, -⟩ := id hs
  have hP : headP p n len = [] ++ [191 + 32 * p.space + p.width, 0, 0, 0, 1, (p.dst.length : Int)] ++ p.dst ++ [(p.src.length : Int)] ++ p.src ++ (if p.space = 0 then [0] else []) ++ (putAsF (IntKind.u64.wrap len) 2).1 ++ dig (lowF n p.width) p.width.toNat := by unfold headP; rw [if_neg (by omega)]; simp
  generalize headP p n len = HL at *
  have hw := h.w; have hdl := h.d; have hsl := h.s
  have hct := fun W => cut_low_any n p.width W hw
  have hlo := lowF_in n p.width
  have hst := st_pos p.width
  have hbg := fun W => big_own (lowF n p.width) p.width W hlo hw
  have hu : IntKind.u64.wrap (lowF n p.width) = lowF n p.width := by rw [IntKind.wrap_u64]; omega
  have hpu : ∀ W, Calls Try.prog 49 #[.int .u64 (IntKind.u64.wrap len), .int .i64 2] W fun e w' => ∃ a c, e = .returned (.tuple #[.slice a (putAsF (IntKind.u64.wrap len) 2).1.length c, .int .i64 (putAsF (IntKind.u64.wrap len) 2).2]) ∧ OwnB W.heap.size w' (.slice a (putAsF (IntKind.u64.wrap len) 2).1.length c) (putAsF (IntKind.u64.wrap len) 2).1 ∧ W.grownBy w' none := fun W =>
    (rputAs_own (IntKind.u64.wrap len) 2 W (by rw [IntKind.wrap_u64]; omega) (by rw [IntKind.wrap_u64]; omega)).mono fun e w' ⟨v, he, ho⟩ => by
      have ho' : OwnB W.heap.size w' v (putAsF (IntKind.u64.wrap len) 2).1 := ho.1
      obtain ⟨a, c, e2⟩ := ho'.shape
      exact ⟨a, c, by rw [he, e2], by rw [← e2]; exact ho', below_grown ho.2⟩
  have hsz2 : (putAsF (IntKind.u64.wrap len) 2).1.length ≤ 8 ∧ ∀ x ∈ (putAsF (IntKind.u64.wrap len) 2).1, IsB x := by
    have h0 : 0 ≤ IntKind.u64.wrap len := by rw [IntKind.wrap_u64]; omega
    unfold putAsF
    split
    · split
      · rename_i hq
        have hf := fits_of (IntKind.u64.wrap len) 2 (.inr (.inl rfl)) hq.2 hq.1
        exact ⟨by rw [layF_length]; decide, layF_byte _ _ h0 hf⟩
      · simp
    · simp
  have k0 : ¬ p.space < 0 := by omega
  have k2 : ¬ 2 < p.space := by omega
  have f1 : ¬ (20 : Int) < (p.dst.length : Int) := by omega
  have f2 : ¬ (20 : Int) < (p.src.length : Int) := by omega
  have f3 : (p.space == 2) = false := by simp; omega
  have f5 : ¬ p.width < 1 := by omega
  have f6 : ¬ 4 < p.width := by omega
  have w1 : IntKind.i64.wrap (32 * p.space) = 32 * p.space := by rw [IntKind.wrap_i64]; omega
  have w2 : IntKind.i64.wrap (192 + 32 * p.space) = 192 + 32 * p.space := by rw [IntKind.wrap_i64]; omega
  have w3 : IntKind.i64.wrap (192 + 32 * p.space + p.width) = 192 + 32 * p.space + p.width := by rw [IntKind.wrap_i64]; omega
  have w4 : IntKind.i64.wrap (192 + 32 * p.space + p.width - 1) = 191 + 32 * p.space + p.width := by rw [IntKind.wrap_i64]; omega
  have w5 : IntKind.u8.wrap (191 + 32 * p.space + p.width) = 191 + 32 * p.space + p.width := by rw [IntKind.wrap_u8]; omega
  have w6 : IntKind.u8.wrap (p.dst.length : Int) = (p.dst.length : Int) := by rw [IntKind.wrap_u8]; omega
  have w7 : IntKind.u8.wrap (p.src.length : Int) = (p.src.length : Int) := by rw [IntKind.wrap_u8]; omega
  have b0 := Blk.new w (p.cs (.slice a1 p.dst.length c1) (.slice a2 p.src.length c2) y) 29
  have g0 := World.grownBy_alloc w (.cells (p.cs (.slice a1 p.dst.length c1) (.slice a2 p.src.length c2) y) 29) none
  have hb1 : ∀ x ∈ [191 + 32 * p.space + p.width, 0, 0, 0, 1, (p.dst.length : Int)], IsB x := by
    intro x hx; simp only [List.mem_cons, List.not_mem_nil, or_false] at hx; unfold IsB; omega
  have hb2 : ∀ x ∈ [(p.src.length : Int)], IsB x := by
    intro x hx; simp only [List.mem_cons, List.not_mem_nil, or_false] at hx; unfold IsB; omega
  have hdg := dig_byte (lowF n p.width) p.width.toNat
  have hdgl := dig_length (lowF n p.width) p.width.toNat
  have htn : p.width.toNat ≤ 4 := by omega
  have HDG := hide hdg; have HDL := hide hdgl; have HB1 := hide hb1; have HB2 := hide hb2; have HPU := hide hpu; have HSZ := hide hsz2; have HP := hide hP; have HSP := hide h2
  clear hP hst hlo hdg hdgl hb1 hb2 hpu hsz2 h2
  generalize lowF n p.width = low at *
  generalize putAsF (IntKind.u64.wrap len) 2 = PA at *
  go_enter Try.func39, Try.ntmps39
  go_wp2_with fail
  refine (hct _).mono ?_
  rintro e W1 ⟨yy, rfl, hw1⟩
  subst hw1
  go_wp2_with fail
  refine (hbg _).mono ?_
  rintro e W2 ⟨at', ct', rfl, ot, g2⟩
  have hX : ∀ W, W2.grownBy W none → W.cell? ⟨w.heap.size, 0, none⟩ = some (.int .i64 p.space) ∧ W.cell? ⟨w.heap.size, 1, none⟩ = some (.slice a1 p.dst.length c1) ∧ W.cell? ⟨w.heap.size, 2, none⟩ = some (.slice a2 p.src.length c2) := fun W g => ⟨((b0.grown g2).grown g).cell 0 _ rfl, ((b0.grown g2).grown g).cell 1 _ rfl, ((b0.grown g2).grown g).cell 2 _ rfl⟩
  have bW := b0.grown g2
  have x0 := bW.cell 0 (.int .i64 p.space) rfl
  have x1 := bW.cell 1 (.slice a1 p.dst.length c1) rfl
  have x4 := bW.cell 4 (.int .i64 p.width) rfl
  have iT := ot.inB (unhide HDG)
  have iD := hd.grown (g0.trans g2)
  have iS := hs.grown (g0.trans g2)
  have HX := hide hX; have HT := hide iT; have HD := hide iD; have HS := hide iS; have HG := hide (g0.trans g2)
  clear hX iT iD iS ot hct hbg hd hs
  generalize hDD : dig low p.width.toNat = DD at *
  clear hDD
  have hsz := bW.lt
  generalize p.width.toNat = tn at *
  go_upto_if 120 with (first
    | (at_builtin; refine wpList_app_st rfl (.tmp 87) (.tmp 101) rfl ((RowU.none W2).al _) rfl _ [191 + 32 * p.space + p.width, 0, 0, 0, 1, (p.dst.length : Int)] (InB.at rfl rfl (small_le (by simp)) (unhide HB1)) rfl (by simp) ?_; intro v1 U1 s1; have S1 := hide s1; obtain ⟨x10, x11, x12⟩ := unhide HX _ s1.gr; clear s1)
    | (at_builtin; refine wpList_app_st rfl (.tmp 103) (.tmp 105) rfl (unhide S1) rfl _ p.dst ((unhide HD).grown (unhide S1).gr) rfl (by simp; omega) ?_; intro v2 U2 s2; have S2 := hide s2; obtain ⟨x20, x21, x22⟩ := unhide HX _ s2.gr; clear s2)
    | (at_builtin; refine wpList_app_st rfl (.tmp 107) (.tmp 112) rfl ((unhide S2).al _) rfl _ [(p.src.length : Int)] (InB.at rfl rfl (small_le (by simp)) (unhide HB2)) rfl (by simp; omega) ?_; intro v3 U3 s3; have S3 := hide s3; obtain ⟨x30, x31, x32⟩ := unhide HX _ s3.gr; clear s3)
    | (at_builtin; refine wpList_app_st rfl (.tmp 114) (.tmp 116) rfl (unhide S3) rfl _ p.src ((unhide HS).grown (unhide S3).gr) rfl (by simp; omega) ?_; intro v4 U4 s4; have S4 := hide s4; obtain ⟨x40, x41, x42⟩ := unhide HX _ s4.gr; clear s4)
    | fail)
  go_cut [12] (fun v wc => RowU W2 wc v ([] ++ [191 + 32 * p.space + p.width, 0, 0, 0, 1, (p.dst.length : Int)] ++ p.dst ++ [(p.src.length : Int)] ++ p.src ++ (if p.space = 0 then [0] else [])))
  case first =>
    rcases unhide HSP with e0 | e1
    · have t0 : (p.space == 0) = true := by simpa using e0
      have E : Hid ((if p.space = 0 then [(0 : Int)] else []) = [0]) := if_pos e0
      clear e0
      go_wp2_with (first
        | (at_builtin; refine wpList_app_st rfl (.tmp 121) (.tmp 122) rfl ((unhide S4).al _) rfl _ [0] (InB.at rfl rfl (small_le (by simp)) (by simp [IsB])) rfl (by simp; omega) ?_; intro v5 U5 s5; have S5 := hide s5; clear s5)
        | fail)
      go_meet
      rw [unhide E]
      exact unhide S5
    · have t0 : (p.space == 0) = false := by rw [e1]; rfl
      have E : Hid ((if p.space = 0 then [(0 : Int)] else []) = []) := if_neg (show ¬ p.space = 0 by omega)
      clear e1
      go_wp2_with fail
      go_meet
      rw [unhide E, List.append_nil]
      exact unhide S4
  case rest =>
    have S5 := hide hcut
    have hgr := hide hcut.gr
    have hl5 : ([] ++ [191 + 32 * p.space + p.width, 0, 0, 0, 1, (p.dst.length : Int)] ++ p.dst ++ [(p.src.length : Int)] ++ p.src ++ (if p.space = 0 then [0] else [])).length ≤ 60 := by
      simp only [List.length_append, List.length_cons, List.length_nil]
      split <;> simp <;> omega
    have HL5 := hide hl5
    clear hcut hl5
    generalize [] ++ [191 + 32 * p.space + p.width, 0, 0, 0, 1, (p.dst.length : Int)] ++ p.dst ++ [(p.src.length : Int)] ++ p.src ++ (if p.space = 0 then [0] else []) = B5 at *
    obtain ⟨PA1, PA2⟩ := PA
    go_wp2_with fail
    refine (unhide HPU _).mono ?_
    rintro e W6 ⟨aS, cS, rfl, os, g6⟩
    have S6 := hide ((unhide S5).go g6)
    have iS6 := hide (os.inB (unhide HSZ).2)
    clear os
    have h8 : PA1.length ≤ 8 := (unhide HSZ).1
    have hq1 : B5.length + PA1.length ≤ 140737488355328 := by have := unhide HL5; omega
    have hq2 : (B5 ++ PA1).length + DD.length ≤ 140737488355328 := by have := unhide HL5; have := unhide HDL; rw [List.length_append]; omega
    have Q1 := hide hq1; have Q2 := hide hq2
    clear hq1 hq2
    go_wp2_with (first
      | (at_builtin; refine wpList_app_st rfl (.tmp 130) (.tmp 131) rfl (unhide S6) rfl _ PA1 (unhide iS6) rfl (unhide Q1) ?_; intro v7 U7 s7; have S7 := hide s7; clear s7)
      | (at_builtin; refine wpList_app_st rfl (.tmp 133) (.tmp 134) rfl (unhide S7) rfl _ DD ((unhide HT).grown (unhide S7).gr) rfl (unhide Q2) ?_; intro v8 U8 s8; have S8 := hide s8; clear s8)
      | fail)
    go_ret2
    exact ⟨_, rfl, by rw [unhide HP]; exact (unhide S8).own.mono (unhide HG).size, (unhide HG).trans (unhide S8).gr⟩

end Go.Proofs.Ytpcnpdippnljpaa

namespace Go.Proofs.Ytpcnpdippnljpaa
open Go.RowKit
set_option linter.unusedVariables false
set_option maxRecDepth 100000
set_option maxHeartbeats 2000000

theorem head_ok (p : Pk) (h : Okh p) (d s y : Value) (w : World) (n len : Int) (hd : InB w d p.dst) (hs : InB w s p.src) :
    Calls Try.prog 39 #[p.val d s y, .int .i64 n, .int .i64 len] w fun e w' => ∃ v, e = .returned (.tuple #[v, .int .i64 0]) ∧ OwnB w.heap.size w' v (headP p n len) ∧ w.grownBy w' none := by
  rcases h.sp with e | e | e
  · exact head_long p h (.inl e) d s y w n len hd hs
  · exact head_long p h (.inr e) d s y w n len hd hs
  · exact head_app p h e d s y w n len hd hs

def encB (p : Pk) : List Int := if encE p = 0 then bytesP p else []

theorem head_bytes (p : Pk) (h : Good p) : headP p p.number (p.width + p.payload.length) ++ p.payload = bytesP p := by
  have hw := h.w
  have hl : lowF p.number p.width = p.number % st p.width := by unfold lowF; rw [if_pos h.n]
  unfold headP bytesP partsP cutP
  rw [hl]
  by_cases h2 : p.space = 2
  · rw [if_pos h2, if_pos h2]; simp
  · rw [if_neg h2, if_neg h2]
    have hy := h.y h2
    have hu : IntKind.u64.wrap (p.width + p.payload.length) = p.width + p.payload.length := by rw [IntKind.wrap_u64]; omega
    have hp : putAsF (p.width + p.payload.length) 2 = (layF (p.width + p.payload.length) 2, 0) := by
      unfold putAsF
      rw [if_pos (.inr (.inl rfl)), if_pos ⟨by omega, by unfold sizeF; (repeat' split) <;> omega⟩]
      rfl
    rw [hu, hp]
    simp

theorem headP_len (p : Pk) (h : Okh p) : ((headP p 0 0).length : Int) = overP p := by
  have hw := h.w
  have hp : putAsF (IntKind.u64.wrap 0) 2 = (layF 0 2, 0) := by decide
  unfold headP overP
  rw [hp]
  rcases h.sp with e | e | e
  all_goals
    simp [e, dig_length, layF_length]
    omega

theorem encE_bad {p : Pk} (h : badK p ∨ badF p) : encE p = if badK p then 53 else 54 := by
  unfold encE
  split
  · rfl
  · rename_i hK; rw [if_pos (h.resolve_left hK)]

theorem renc_any (p : Pk) (d s y : Value) (w : World) (hd : InB w d p.dst) (hs : InB w s p.src) (hy : InB w y p.payload) (l1 : p.dst.length ≤ 140737488351232) (l2 : p.src.length ≤ 140737488351232) (l3 : p.payload.length ≤ 140737488351232) :
    Calls Try.prog 27 #[p.val d s y] w fun e w' => ∃ v, e = .returned (.tuple #[v, .int .i64 (encE p)]) ∧ OwnB w.heap.size w' v (encB p) ∧ w.grownBy w' none := by
  obtain ⟨a1, c1, rfl, -⟩ := id hd
  obtain ⟨a2, c2, rfl, -⟩ := id hs
  obtain ⟨a3, c3, rfl, -⟩ := id hy
  have b0 := Blk.new w (p.cs (.slice a1 p.dst.length c1) (.slice a2 p.src.length c2) (.slice a3 p.payload.length c3)) 29
  have g0 := World.grownBy_alloc w (.cells (p.cs (.slice a1 p.dst.length c1) (.slice a2 p.src.length c2) (.slice a3 p.payload.length c3)) 29) none
  have hml : ¬ (9223372036854775807 : Int) < (p.payload.length : Int) := by omega
  by_cases hbad : badK p ∨ badF p
  · have hE := encE_bad hbad
    have hne : encE p ≠ 0 := by rw [hE]; split <;> decide
    have hB : encB p = [] := by unfold encB; rw [if_neg hne]
    have hh := fun W len => head_err p (.slice a1 p.dst.length c1) (.slice a2 p.src.length c2) (.slice a3 p.payload.length c3) W p.number len a1 a2 c1 c2 rfl rfl (by omega) (by omega) hbad
    rw [← hE] at hh
    have tE : (encE p != 0) = true := by simpa using hne
    rw [hB]
    clear hE hne hB hbad hd hs hy
    generalize encE p = E at *
    go_enter Try.func27, Try.ntmps27
    go_wp2_with fail
    all_goals
      refine (hh _ _).mono ?_
      rintro e W1 ⟨rfl, g1⟩
      go_wp2_with fail
      go_ret2
      exact ⟨_, rfl, OwnB.nil _ _, g0.trans g1⟩
  · have hok := okh_of (fun h => hbad (.inl h)) (fun h => hbad (.inr h))
    have hw := hok.w
    have hwr : IntKind.i64.wrap (p.width + (p.payload.length : Int)) = p.width + (p.payload.length : Int) := by rw [IntKind.wrap_i64]; omega
    have hh := fun W hd hs => head_ok p hok (.slice a1 p.dst.length c1) (.slice a2 p.src.length c2) (.slice a3 p.payload.length c3) W p.number (p.width + p.payload.length) hd hs
    by_cases hN : badN p
    · have hE : encE p = 54 := by unfold encE; rw [if_neg (fun h => hbad (.inl h)), if_neg (fun h => hbad (.inr h)), if_pos hN]
      have hB : encB p = [] := by unfold encB; rw [if_neg (by rw [hE]; decide)]
      rw [hE, hB]
      unfold badN MAXP at hN
      have HH := hide (hh _ (hd.grown g0) (hs.grown g0))
      clear hh hE hB hbad hok
      go_enter Try.func27, Try.ntmps27
      go_wp2_with fail
      refine (unhide HH).mono ?_
      rintro e W1 ⟨v, rfl, o1, g1⟩
      have bW := b0.grown g1
      have x0 := bW.cell 0 (.int .i64 p.space) rfl
      have x3 := bW.cell 3 (.int .i64 p.number) rfl
      have GE := hide (g0.trans g1)
      clear o1 g1 bW hd hs hy b0 g0 HH
      by_cases n1 : p.number < 0
      · clear hN
        go_wp2_with fail
        go_ret2
        exact ⟨_, rfl, OwnB.nil _ _, unhide GE⟩
      by_cases n2 : 4611686018427387903 < p.number
      · clear hN
        go_wp2_with fail
        go_ret2
        exact ⟨_, rfl, OwnB.nil _ _, unhide GE⟩
      · have n3 : (p.space != 2) = true := by simp; omega
        have n4 : 16383 < p.width + (p.payload.length : Int) := by omega
        clear hN
        go_wp2_with fail
        go_ret2
        exact ⟨_, rfl, OwnB.nil _ _, unhide GE⟩
    · have hE : encE p = 0 := by unfold encE; rw [if_neg (fun h => hbad (.inl h)), if_neg (fun h => hbad (.inr h)), if_neg hN]
      have good := enc_good hE
      have hB : encB p = headP p p.number (p.width + p.payload.length) ++ p.payload := by unfold encB; rw [if_pos hE, head_bytes p good]
      have hlen : (headP p p.number (p.width + p.payload.length)).length + p.payload.length ≤ 140737488355328 := by
        have := bytesP_lt p good
        rw [← head_bytes p good, List.length_append] at this
        omega
      rw [hE]
      have HB := hide hB
      have HLEN := hide hlen
      unfold badN MAXP at hN
      have n1 : ¬ p.number < 0 := by omega
      have n2 : ¬ 4611686018427387903 < p.number := by omega
      have hdd := hd.grown g0
      have hss := hs.grown g0
      have HH := hide (hh _ hdd hss)
      have HY := hide (hy.grown g0)
      clear hh hE hB hbad hok hlen good hdd hss hd hs hy
      generalize encB p = EB at *
      generalize headP p p.number (p.width + p.payload.length) = HP at *
      go_enter Try.func27, Try.ntmps27
      go_wp2_with fail
      refine (unhide HH).mono ?_
      rintro e W1 ⟨v, rfl, o1, g1⟩
      have bW := b0.grown g1
      have x0 := bW.cell 0 (.int .i64 p.space) rfl
      have x3 := bW.cell 3 (.int .i64 p.number) rfl
      have x5 := bW.cell 5 (.slice a3 p.payload.length c3) rfl
      have S1 : Hid (RowU (w.alloc (.cells (p.cs (.slice a1 p.dst.length c1) (.slice a2 p.src.length c2) (.slice a3 p.payload.length c3)) 29)) W1 v HP) := ⟨o1, g1⟩
      have G0 := hide g0
      clear HH o1 bW b0 g0
      by_cases n3 : p.space = 2
      · have t3 : (p.space != 2) = false := by simpa using n3
        clear hN n3
        go_wp2_with (first
          | (at_builtin; refine wpList_app_st rfl (.tmp 41) (.tmp 43) rfl (unhide S1) rfl _ p.payload ((unhide HY).grown (unhide S1).gr) rfl (unhide HLEN) ?_; intro v2 U2 s2; have S2 := hide s2; clear s2)
          | fail)
        go_ret2
        exact ⟨_, rfl, by rw [unhide HB]; exact (unhide S2).own.mono (unhide G0).size, (unhide G0).trans (unhide S2).gr⟩
      · have t3 : (p.space != 2) = true := by simpa using n3
        have t4 : ¬ 16383 < p.width + (p.payload.length : Int) := by omega
        clear hN n3
        go_wp2_with (first
          | (at_builtin; refine wpList_app_st rfl (.tmp 41) (.tmp 43) rfl (unhide S1) rfl _ p.payload ((unhide HY).grown (unhide S1).gr) rfl (unhide HLEN) ?_; intro v2 U2 s2; have S2 := hide s2; clear s2)
          | fail)
        go_ret2
        exact ⟨_, rfl, by rw [unhide HB]; exact (unhide S2).own.mono (unhide G0).size, (unhide G0).trans (unhide S2).gr⟩

theorem rover_any (p : Pk) (d s y : Value) (w : World) (hd : InB w d p.dst) (hs : InB w s p.src) (hy1 : ∃ a n c, y = .slice a n c) (l1 : p.dst.length ≤ 140737488351232) (l2 : p.src.length ≤ 140737488351232) :
    Calls Try.prog 34 #[p.val d s y] w fun e w' => e = .returned (.tuple #[.int .i64 (ovF p).1, .int .i64 (ovF p).2]) ∧ w.grownBy w' none := by
  obtain ⟨a1, c1, rfl, -⟩ := id hd
  obtain ⟨a2, c2, rfl, -⟩ := id hs
  obtain ⟨a3, n3, c3, rfl⟩ := hy1
  have b0 := Blk.new w (p.cs (.slice a1 p.dst.length c1) (.slice a2 p.src.length c2) (.slice a3 n3 c3)) 29
  have g0 := World.grownBy_alloc w (.cells (p.cs (.slice a1 p.dst.length c1) (.slice a2 p.src.length c2) (.slice a3 n3 c3)) 29) none
  by_cases hbad : badK p ∨ badF p
  · have hO : ovF p = (0, if badK p then 53 else 54) := by
      unfold ovF
      split
      · rfl
      · rename_i hK; rw [if_pos (hbad.resolve_left hK)]
    have hh := fun W => head_err p (.slice a1 p.dst.length c1) (.slice a2 p.src.length c2) (.slice a3 n3 c3) W 0 0 a1 a2 c1 c2 rfl rfl (by omega) (by omega) hbad
    rw [hO]
    clear hO hbad hd hs
    generalize (if badK p then (53 : Int) else 54) = E at *
    go_enter Try.func34, Try.ntmps34
    go_wp2_with fail
    refine (hh _).mono ?_
    rintro e W1 ⟨rfl, g1⟩
    go_wp2_with fail
    go_ret2
    exact ⟨rfl, g0.trans g1⟩
  · have hok := okh_of (fun h => hbad (.inl h)) (fun h => hbad (.inr h))
    have hO : ovF p = (overP p, 0) := by unfold ovF; rw [if_neg (fun h => hbad (.inl h)), if_neg (fun h => hbad (.inr h))]
    have hl := headP_len p hok
    have hh := head_ok p hok (.slice a1 p.dst.length c1) (.slice a2 p.src.length c2) (.slice a3 n3 c3) _ 0 0 (hd.grown g0) (hs.grown g0)
    have hsm : (headP p 0 0).length ≤ 60 := by
      have h1 := hok.w; have h2 := hok.d; have h3 := hok.s
      have : overP p ≤ 60 := by unfold overP; (repeat' split) <;> omega
      omega
    rw [hO, ← hl]
    clear hO hl hbad hok hd hs
    generalize headP p 0 0 = HP at *
    go_enter Try.func34, Try.ntmps34
    go_wp2_with fail
    refine hh.mono ?_
    rintro e W1 ⟨v, rfl, o1, g1⟩
    obtain ⟨a4, c4, rfl⟩ := o1.shape
    have hml : ¬ (9223372036854775807 : Int) < (HP.length : Int) := by omega
    go_wp2_with fail
    go_ret2
    exact ⟨rfl, g0.trans g1⟩

end Go.Proofs.Ytpcnpdippnljpaa

namespace Go.Proofs.Ytpcnpdippnljpaa
open Go.RowKit
set_option linter.unusedVariables false
set_option maxRecDepth 100000
set_option maxHeartbeats 2000000

structure LT where
  g : Nat
  n : Nat
  gf : Nat
  cf : Nat
  gw : Nat
  cw : Nat
  F : List Int
abbrev LT.v (t : LT) : Value := .slice (some ⟨t.gf, 0, none⟩) t.n t.cf
def LT.l (t : LT) : List Int := t.F.take t.n
structure LT.ok (t : LT) (w0 : World) (B : Nat) (wr : World) : Prop where
  lent : Lent w0 B wr t.g t.n t.gf t.cf t.gw t.cw t.F t.F
  byte : ∀ x ∈ t.F, IsB x

theorem grown_bel {w W : World} (h : w.grownBy W none) : Below w.heap.size w W := ⟨h.os, h.tape, h.output, h.size, fun i hi => h.block i hi (by simp)⟩

section
variable {t : LT} {w0 wr : World} {B : Nat}
theorem LT.ok.len (h : t.ok w0 B wr) : t.l.length = t.n := h.lent.tlen
theorem LT.ok.bytes (h : t.ok w0 B wr) : ∀ x ∈ t.l, IsB x := fun x hx => h.byte x (List.mem_of_mem_take hx)
theorem LT.ok.grown {w' : World} (h : t.ok w0 B wr) (g : wr.grownBy w' none) : t.ok w0 B w' := ⟨h.lent.below (grown_bel g), h.byte⟩
theorem LT.ok.drewN (h : t.ok w0 B wr) (q : Nat) : t.ok w0 B (wr.drewN q) := ⟨h.lent.drewN q, h.byte⟩
theorem LT.ok.inB (h : t.ok w0 B wr) : InB wr t.v t.l := by
  have hl := h.len
  obtain ⟨-, -, -, h1, h2, -, -⟩ := h.lent.ne
  refine ⟨some ⟨t.gf, 0, none⟩, t.cf, by rw [hl], h.lent.rd h.byte, by rw [hl]; omega, h2, fun x e _ => ?_⟩
  cases e
  have := (h.lent.full.lt t.gf rfl).2
  exact ⟨this, Nat.ne_of_lt this, _, _, rfl⟩
theorem LT.ok.lts (h : t.ok w0 B wr) : B ≤ t.g ∧ t.g < t.gf ∧ t.g < t.gw ∧ t.gf ≠ t.gw ∧ t.gf < wr.heap.size ∧ t.gw < wr.heap.size := by
  obtain ⟨h1, h2, h3, -⟩ := h.lent.ne
  exact ⟨h.lent.low, h2, h3, h1, (h.lent.full.lt t.gf rfl).2, (h.lent.was.lt t.gw rfl).2⟩
/-- Others were written. -/
theorem LT.ok.only {w' : World} {a b : Nat} (h : t.ok w0 B wr) (o : Only wr w' a b) (hb : Below B w0 w') (n1 : t.g ≠ a ∧ t.g ≠ b) (n2 : t.gf ≠ a ∧ t.gf ≠ b) (n3 : t.gw ≠ a ∧ t.gw ≠ b) : t.ok w0 B w' := by
  have e1 := o.2 t.g n1.1 n1.2
  have e2 := o.2 t.gf n2.1 n2.2
  have e3 := o.2 t.gw n3.1 n3.2
  refine ⟨⟨by rw [e1]; exact h.lent.blk, ?_, ?_, h.lent.sep, hb, h.lent.low⟩, h.byte⟩
  · refine ⟨h.lent.full.1, ?_⟩
    rcases h.lent.full.2 with ⟨e, -⟩ | ⟨g, cap, cur, e, q1, q2, q3⟩
    · cases e
    · simp only [Value.slice.injEq, Option.some.injEq, Addr.mk.injEq, and_true, true_and] at e
      obtain ⟨rfl, rfl⟩ := e
      exact .inr ⟨_, _, cur, rfl, q1, by rw [e2]; exact q2, q3⟩
  · refine ⟨h.lent.was.1, ?_⟩
    rcases h.lent.was.2 with ⟨e, -⟩ | ⟨g, cap, cur, e, q1, q2, q3⟩
    · cases e
    · simp only [Value.slice.injEq, Option.some.injEq, Addr.mk.injEq, and_true, true_and] at e
      obtain ⟨rfl, rfl⟩ := e
      exact .inr ⟨_, _, cur, rfl, q1, by rw [e3]; exact q2, q3⟩
end

theorem lend_lt (w0 : World) (B : Nat) (v : Value) (l : List Int) (W : World) (h : InB W v l) (hm : l.length ≤ 140737488351232) (hb : Below B w0 W) (hB : B ≤ W.heap.size) :
    Calls Try.prog 25 #[v] W fun e w' => ∃ t : LT, e = .returned (.pointer (some ⟨t.g, 0, none⟩)) ∧ t.ok w0 B w' ∧ t.l = l ∧ t.n = l.length ∧ W.heap.size ≤ t.g ∧ W.grownBy w' none := by
  obtain ⟨a, c, rfl, hr, -⟩ := h
  refine (lend_any a l c W hr (by omega)).mono fun e w' ⟨fv, wv, he, lp⟩ => ?_
  obtain ⟨gf, cf, rfl, -⟩ := ownsRow_open lp.full (by omega)
  obtain ⟨gw, cw, rfl, -⟩ := ownsRow_open lp.was (by omega)
  refine ⟨⟨W.heap.size, l.length, gf, cf, gw, cw, lentL l⟩, he, ⟨⟨lp.blk, lp.full, lp.was, lp.sep, hb.trans (lp.bel.mono hB), hB⟩, lentL_byte l hr.1⟩, ?_, rfl, Nat.le_refl _, below_grown lp.bel⟩
  show (lentL l).take l.length = l
  unfold lentL; rw [List.take_left]

theorem bytes_lt (t : LT) (w0 wr : World) (B : Nat) (h : t.ok w0 B wr) :
    Calls Try.prog 26 #[.pointer (some ⟨t.g, 0, none⟩)] wr fun e w' => e = .returned t.v ∧ ∃ q, w' = wr.drewN q :=
  bytes_any w0 wr B t.g t.n t.gf t.cf t.gw t.cw t.F t.F h.lent
theorem kept_lt (t : LT) (w0 wr : World) (B : Nat) (h : t.ok w0 B wr) :
    Calls Try.prog 30 #[.pointer (some ⟨t.g, 0, none⟩)] wr fun e w' => e = .returned (.bool true) ∧ ∃ q, w' = wr.drewN q :=
  kept_any w0 wr B t.g t.n t.gf t.cf t.gw t.cw t.F h.lent
theorem turn_lt (t : LT) (w0 wr : World) (B : Nat) (k : Int) (h : t.ok w0 B wr) (hk : 0 < k) (hk2 : k < 9223372036854775807) :
    Calls Try.prog 31 #[.pointer (some ⟨t.g, 0, none⟩), .int .i64 k] wr fun e w' => e = .returned (.tuple #[]) ∧ ∃ F', LT.ok { t with F := F' } w0 B w' ∧ Only wr w' t.gf t.gw :=
  (turn_only w0 wr B t.g t.n t.gf t.cf t.gw t.cw k t.F h.lent h.byte hk hk2).mono fun e w' ⟨he, F', h1, h2, h3⟩ => ⟨he, F', ⟨h1, h2⟩, h3⟩

end Go.Proofs.Ytpcnpdippnljpaa

namespace Go.Proofs.Ytpcnpdippnljpaa
open Go.RowKit
set_option linter.unusedVariables false
set_option maxRecDepth 100000
set_option maxHeartbeats 2000000

theorem copied_sh (a : Option Addr) (c : Nat) (l : List Int) (w : World) (h : InB w (.slice a l.length c) l) (hb : l.length ≤ 140737488355327) :
    Calls Try.prog 32 #[.slice a l.length c] w fun e w' => ∃ a' c', e = .returned (.slice a' l.length c') ∧ OwnB w.heap.size w' (.slice a' l.length c') l ∧ w.grownBy w' none :=
  (copied_any _ l w h hb).mono fun e w' ⟨v, he, ho, g⟩ => by
    obtain ⟨a', c', e2⟩ := ho.shape
    exact ⟨a', c', by rw [he, e2], by rw [← e2]; exact ho, g⟩

/-- What Copied leaves. -/
def CopPost (w : World) (p : Pk) (e : Ending) (w' : World) : Prop :=
  ∃ a1 c1 a2 c2 a3 c3, e = .returned (p.val (.slice a1 p.dst.length c1) (.slice a2 p.src.length c2) (.slice a3 p.payload.length c3)) ∧ OwnB w.heap.size w' (.slice a1 p.dst.length c1) p.dst ∧ OwnB w.heap.size w' (.slice a2 p.src.length c2) p.src ∧ OwnB w.heap.size w' (.slice a3 p.payload.length c3) p.payload ∧ w.grownBy w' none

/-- What Copied has under way: what came in, the result, the copy. -/
structure C3 (w W : World) (cs q : Array Value) : Prop where
  b0 : Blk W w.heap.size cs 29
  bR : Blk W (w.heap.size + 1) (pcs 0 nilV nilV 0 0 nilV) 29
  bq : Blk W (w.heap.size + 1 + 1) q 29
  gr : w.grownBy W none
theorem C3.start (w : World) (cs : Array Value) : C3 w (((w.alloc (.cells cs 29)).alloc (.cells (pcs 0 nilV nilV 0 0 nilV) 29)).alloc (.cells cs 29)) cs cs := by
  obtain ⟨b0, bR, g1⟩ := Blk.two w cs (pcs 0 nilV nilV 0 0 nilV) 29 29
  have e : ((w.alloc (.cells cs 29)).alloc (.cells (pcs 0 nilV nilV 0 0 nilV) 29)).heap.size = w.heap.size + 1 + 1 := by rw [alloc_size, alloc_size]
  refine ⟨b0.alloc _, bR.alloc _, ?_, g1.trans (World.grownBy_alloc _ _ none)⟩
  rw [← e]; exact Blk.new _ _ _
theorem C3.step {w W W' : World} {cs q : Array Value} (h : C3 w W cs q) (g : W.grownBy W' none) (j : Nat) (v : Value) : C3 w (W'.setCell ⟨w.heap.size + 1 + 1, j, none⟩ v) cs (q.setIfInBounds j v) :=
  ⟨(h.b0.grown g).setO _ j v (by omega), (h.bR.grown g).setO _ j v (by omega), (h.bq.grown g).setC j v, grown_set (h.gr.trans g) _ j v (by omega)⟩

theorem copied05 (p : Pk) (d s y : Value) (w : World) (hd : InB w d p.dst) (hs : InB w s p.src) (hy : InB w y p.payload) (l1 : p.dst.length ≤ 140737488351232) (l2 : p.src.length ≤ 140737488351232) (l3 : p.payload.length ≤ 140737488351232) :
    Calls Try.prog 17 #[p.val d s y] w (CopPost w p) := by
  obtain ⟨a1, c1, rfl, -⟩ := id hd
  obtain ⟨a2, c2, rfl, -⟩ := id hs
  obtain ⟨a3, c3, rfl, -⟩ := id hy
  have S0 := C3.start w (p.cs (.slice a1 p.dst.length c1) (.slice a2 p.src.length c2) (.slice a3 p.payload.length c3))
  go_enter Try.func17, Try.ntmps17
  go_wp2_with fail
  have hB : w.heap.size + 1 + 1 < (((w.alloc (.cells (p.cs (.slice a1 p.dst.length c1) (.slice a2 p.src.length c2) (.slice a3 p.payload.length c3)) 29)).alloc (.cells (pcs 0 nilV nilV 0 0 nilV) 29)).alloc (.cells (p.cs (.slice a1 p.dst.length c1) (.slice a2 p.src.length c2) (.slice a3 p.payload.length c3)) 29)).heap.size := S0.bq.lt
  generalize (((w.alloc (.cells (p.cs (.slice a1 p.dst.length c1) (.slice a2 p.src.length c2) (.slice a3 p.payload.length c3)) 29)).alloc (.cells (pcs 0 nilV nilV 0 0 nilV) 29)).alloc (.cells (p.cs (.slice a1 p.dst.length c1) (.slice a2 p.src.length c2) (.slice a3 p.payload.length c3)) 29)) = W0 at *
  refine (copied_sh a1 c1 p.dst W0 (hd.grown S0.gr) (by omega)).mono ?_
  rintro e W1 ⟨e1, f1, rfl, o1, g1⟩
  have S1 := S0.step g1 1 (.slice e1 p.dst.length f1)
  have gs1 := grown_at (World.grownBy.refl W1 (some (w.heap.size + 1 + 1))) 1 (.slice e1 p.dst.length f1)
  have o1 := o1.far gs1 (fun q e => by cases e; omega)
  have k1 := (S0.bq.grown g1).cell 1 _ rfl
  have t1 := (S0.bq.grown g1).thaws
  have x2 := S1.b0.cell 2 (.slice a2 p.src.length c2) rfl
  have hB1 : w.heap.size + 1 + 1 < (W1.setCell ⟨w.heap.size + 1 + 1, 1, none⟩ (.slice e1 p.dst.length f1)).heap.size := S1.bq.lt
  have HS0 := S0.gr.size
  have hB01 : W0.heap.size ≤ (W1.setCell ⟨w.heap.size + 1 + 1, 1, none⟩ (.slice e1 p.dst.length f1)).heap.size := Nat.le_trans g1.size gs1.size
  clear gs1
  go_wp2_with fail
  generalize W1.setCell ⟨w.heap.size + 1 + 1, 1, none⟩ (.slice e1 p.dst.length f1) = V1 at *
  refine (copied_sh a2 c2 p.src V1 (hs.grown S1.gr) (by omega)).mono ?_
  rintro e W2 ⟨e2, f2, rfl, o2, g2⟩
  have S2 := S1.step g2 2 (.slice e2 p.src.length f2)
  have gs2 := grown_at (World.grownBy.refl W2 (some (w.heap.size + 1 + 1))) 2 (.slice e2 p.src.length f2)
  have o2 := o2.far gs2 (fun q e => by cases e; omega)
  have o1 := (o1.far g2 (fun q e => by cases e)).far gs2 (fun q e => by cases e; omega)
  have k2 := (S1.bq.grown g2).cell 2 (.slice a2 p.src.length c2) rfl
  have t2 := (S1.bq.grown g2).thaws
  have x5 := S2.b0.cell 5 (.slice a3 p.payload.length c3) rfl
  have hB2 : w.heap.size + 1 + 1 < (W2.setCell ⟨w.heap.size + 1 + 1, 2, none⟩ (.slice e2 p.src.length f2)).heap.size := S2.bq.lt
  have hB12 : V1.heap.size ≤ (W2.setCell ⟨w.heap.size + 1 + 1, 2, none⟩ (.slice e2 p.src.length f2)).heap.size := Nat.le_trans g2.size gs2.size
  clear gs2 k1 t1 x2
  go_wp2_with fail
  generalize W2.setCell ⟨w.heap.size + 1 + 1, 2, none⟩ (.slice e2 p.src.length f2) = V2 at *
  refine (copied_sh a3 c3 p.payload V2 (hy.grown S2.gr) (by omega)).mono ?_
  rintro e W3 ⟨e3, f3, rfl, o3, g3⟩
  have S3 := S2.step g3 5 (.slice e3 p.payload.length f3)
  have gs3 := grown_at (World.grownBy.refl W3 (some (w.heap.size + 1 + 1))) 5 (.slice e3 p.payload.length f3)
  have o3 := o3.far gs3 (fun q e => by cases e; omega)
  have o2 := (o2.far g3 (fun q e => by cases e)).far gs3 (fun q e => by cases e; omega)
  have o1 := (o1.far g3 (fun q e => by cases e)).far gs3 (fun q e => by cases e; omega)
  have k5 := (S2.bq.grown g3).cell 5 (.slice a3 p.payload.length c3) rfl
  have t5 := (S2.bq.grown g3).thaws
  clear gs3 k2 t2 x5
  have GG := hide S3.gr
  have r0 := S3.bq.cell 0 (.int .i64 p.space) rfl
  have r1 := S3.bq.cell 1 (.slice e1 p.dst.length f1) rfl
  have r2 := S3.bq.cell 2 (.slice e2 p.src.length f2) rfl
  have r3 := S3.bq.cell 3 (.int .i64 p.number) rfl
  have r4 := S3.bq.cell 4 (.int .i64 p.width) rfl
  have r5 := S3.bq.cell 5 (.slice e3 p.payload.length f3) rfl
  have z0 := S3.bR.cell 0 (.int .i64 0) rfl
  have z1 := S3.bR.cell 1 nilV rfl
  have z2 := S3.bR.cell 2 nilV rfl
  have z3 := S3.bR.cell 3 (.int .i64 0) rfl
  have z4 := S3.bR.cell 4 (.int .i64 0) rfl
  have z5 := S3.bR.cell 5 nilV rfl
  have tR := S3.bR.thaws
  have BR := hide (S3.bR.set6 (v0 := .int .i64 p.space) (v1 := .slice e1 p.dst.length f1) (v2 := .slice e2 p.src.length f2) (v3 := .int .i64 p.number) (v4 := .int .i64 p.width) (v5 := .slice e3 p.payload.length f3))
  have gg := grown_at (grown_at (grown_at (grown_at (grown_at (grown_at (World.grownBy.refl (W3.setCell ⟨w.heap.size + 1 + 1, 5, none⟩ (.slice e3 p.payload.length f3)) (some (w.heap.size + 1))) 0 (.int .i64 p.space)) 1 (.slice e1 p.dst.length f1)) 2 (.slice e2 p.src.length f2)) 3 (.int .i64 p.number)) 4 (.int .i64 p.width)) 5 (.slice e3 p.payload.length f3)
  have ho : ∀ B, W0.heap.size ≤ B → ∀ q, some (w.heap.size + 1) = some q → q < B := fun B hB q e => by cases e; omega
  have F := hide (And.intro ((o1.far gg (ho _ (Nat.le_refl _))).mono (base' := w.heap.size) HS0) (And.intro ((o2.far gg (ho _ hB01)).mono (base' := w.heap.size) (by omega)) (And.intro ((o3.far gg (ho _ (by omega))).mono (base' := w.heap.size) (by omega)) (grown_over S3.gr gg (Nat.le_succ _)))))
  clear gg ho o1 o2 o3 S0 S1 S2 S3 g1 g2 g3 hd hs hy
  go_wp2_with fail
  refine bodyPost_ret (results_cell_row rfl _ _ (w.heap.size + 1) 29 _ (0, 0) _ rfl (unhide BR) Try.underlying29 rfl Try.sizeP) rfl ?_
  exact ⟨_, _, _, _, _, _, rfl, (unhide F).1, (unhide F).2.1, (unhide F).2.2.1, (unhide F).2.2.2⟩
end Go.Proofs.Ytpcnpdippnljpaa

namespace Go.Proofs.Ytpcnpdippnljpaa
open Go.RowKit
set_option linter.unusedVariables false
set_option maxRecDepth 100000

theorem cell_ltb {w : World} {b o : Nat} {v : Value} (h : w.cell? ⟨b, o, none⟩ = some v) : b < w.heap.size := by
  by_cases c : b < w.heap.size
  · exact c
  · have e : w.heap[b]? = none := by simp; omega
    simp [World.cell?, e] at h

/-- Behind 'q, end, f := packet.Decode(..)'. -/
def QPost (w0 : World) (r : Pk × Int × Int) (v12 v13 v14 : Value) (w' : World) : Prop :=
  ∃ gq a1 n1 c1 a2 n2 c2 a3 n3 c3, v12 = .pointer (some ⟨gq, 0, none⟩) ∧ v13 = .int .i64 r.2.1 ∧ v14 = .int .i64 r.2.2 ∧ Blk w' gq (r.1.cs (.slice a1 n1 c1) (.slice a2 n2 c2) (.slice a3 n3 c3)) 29 ∧ w0.heap.size ≤ gq
    ∧ OwnB w0.heap.size w' (.slice a1 n1 c1) r.1.dst ∧ OwnB w0.heap.size w' (.slice a2 n2 c2) r.1.src ∧ OwnB w0.heap.size w' (.slice a3 n3 c3) r.1.payload ∧ w0.grownBy w' none ∧ n1 = r.1.dst.length ∧ n2 = r.1.src.length ∧ n3 = r.1.payload.length

theorem QPost.a {w0 W1 Wd : World} {r : Pk × Int × Int} {a1 a2 a3 : Option Addr} {n1 n2 n3 c1 c2 c3 : Nat} (o1 : OwnB W1.heap.size Wd (.slice a1 n1 c1) r.1.dst) (o2 : OwnB W1.heap.size Wd (.slice a2 n2 c2) r.1.src) (o3 : OwnB W1.heap.size Wd (.slice a3 n3 c3) r.1.payload)
    (g1 : w0.grownBy W1 none) (gd : W1.grownBy Wd none) (q1 : n1 = r.1.dst.length) (q2 : n2 = r.1.src.length) (q3 : n3 = r.1.payload.length) :
    QPost w0 r (.pointer (some ⟨Wd.heap.size, 0, none⟩)) (.int .i64 r.2.1) (.int .i64 r.2.2) (Wd.alloc (.cells (r.1.cs (.slice a1 n1 c1) (.slice a2 n2 c2) (.slice a3 n3 c3)) 29)) := by
  have ga := World.grownBy_alloc Wd (.cells (r.1.cs (.slice a1 n1 c1) (.slice a2 n2 c2) (.slice a3 n3 c3)) 29) none
  have g := (g1.trans gd)
  exact ⟨_, _, _, _, _, _, _, _, _, _, rfl, rfl, rfl, Blk.new _ _ _, g.size, (o1.far ga (fun q e => by cases e)).mono g1.size, (o2.far ga (fun q e => by cases e)).mono g1.size, (o3.far ga (fun q e => by cases e)).mono g1.size, g.trans ga, q1, q2, q3⟩

theorem QPost.b {w0 W1 Wd : World} {r : Pk × Int × Int} {a1 a2 a3 : Option Addr} {n1 n2 n3 c1 c2 c3 gq : Nat} {u0 u1 u2 u3 u4 u5 : Value} (o1 : OwnB W1.heap.size Wd (.slice a1 n1 c1) r.1.dst) (o2 : OwnB W1.heap.size Wd (.slice a2 n2 c2) r.1.src) (o3 : OwnB W1.heap.size Wd (.slice a3 n3 c3) r.1.payload)
    (g1 : w0.grownBy W1 none) (gd : W1.grownBy Wd none) (q1 : n1 = r.1.dst.length) (q2 : n2 = r.1.src.length) (q3 : n3 = r.1.payload.length) (bq : Blk Wd gq #[u0, u1, u2, u3, u4, u5] 29) (hq : w0.heap.size ≤ gq) (hq2 : gq < W1.heap.size) :
    QPost w0 r (.pointer (some ⟨gq, 0, none⟩)) (.int .i64 r.2.1) (.int .i64 r.2.2) ((((((Wd.setCell ⟨gq, 0, none⟩ (.int .i64 r.1.space)).setCell ⟨gq, 1, none⟩ (.slice a1 n1 c1)).setCell ⟨gq, 2, none⟩ (.slice a2 n2 c2)).setCell ⟨gq, 3, none⟩ (.int .i64 r.1.number)).setCell ⟨gq, 4, none⟩ (.int .i64 r.1.width)).setCell ⟨gq, 5, none⟩ (.slice a3 n3 c3)) := by
  have gg : Wd.grownBy ((((((Wd.setCell ⟨gq, 0, none⟩ (.int .i64 r.1.space)).setCell ⟨gq, 1, none⟩ (.slice a1 n1 c1)).setCell ⟨gq, 2, none⟩ (.slice a2 n2 c2)).setCell ⟨gq, 3, none⟩ (.int .i64 r.1.number)).setCell ⟨gq, 4, none⟩ (.int .i64 r.1.width)).setCell ⟨gq, 5, none⟩ (.slice a3 n3 c3)) (some gq) :=
    grown_at (grown_at (grown_at (grown_at (grown_at (grown_at (World.grownBy.refl Wd (some gq)) 0 _) 1 _) 2 _) 3 _) 4 _) 5 _
  have ho : ∀ q, some gq = some q → q < W1.heap.size := fun q e => by cases e; exact hq2
  exact ⟨_, _, _, _, _, _, _, _, _, _, rfl, rfl, rfl, bq.set6, hq, (o1.far gg ho).mono g1.size, (o2.far gg ho).mono g1.size, (o3.far gg ho).mono g1.size, grown_over (g1.trans gd) gg hq, q1, q2, q3⟩

end Go.Proofs.Ytpcnpdippnljpaa

namespace Go.Proofs.Ytpcnpdippnljpaa
open Go.RowKit
set_option linter.unusedVariables false
set_option maxRecDepth 100000
set_option maxHeartbeats 2000000

/-- A loan's cells. -/
abbrev lcs (p : Pk) (d s y u1 u2 u3 : Value) (g1 g2 g3 : Nat) : Array Value :=
  #[.int .i64 p.space, d, s, .int .i64 p.number, .int .i64 p.width, y, .int .i64 p.space, u1, u2, .int .i64 p.number, .int .i64 p.width, u3, .pointer (some ⟨g1, 0, none⟩), .pointer (some ⟨g2, 0, none⟩), .pointer (some ⟨g3, 0, none⟩)]

structure LoanD (w0 : World) (B : Nat) (wr : World) (gl : Nat) (p : Pk) (t1 t2 t3 : LT) (d s y u1 u2 u3 : Value) : Prop where
  blk : Blk wr gl (lcs p d s y u1 u2 u3 t1.g t2.g t3.g) 32
  k1 : t1.ok w0 B wr
  k2 : t2.ok w0 B wr
  k3 : t3.ok w0 B wr
  e1 : t1.l = p.dst
  e2 : t2.l = p.src
  e3 : t3.l = p.payload
  o1 : OwnB B wr u1 p.dst
  o2 : OwnB B wr u2 p.src
  o3 : OwnB B wr u3 p.payload
  r12 : t1.gf < t2.g ∧ t1.gw < t2.g
  r23 : t2.gf < t3.g ∧ t2.gw < t3.g
  low : B ≤ gl
  bel : Below B w0 wr
abbrev Loan (w0 : World) (B : Nat) (wr : World) (gl : Nat) (p : Pk) (t1 t2 t3 : LT) (u1 u2 u3 : Value) : Prop := LoanD w0 B wr gl p t1 t2 t3 t1.v t2.v t3.v u1 u2 u3

theorem OwnB.farY {base : Nat} {w W : World} {v : Value} {d : List Int} {gq : Nat} {cs : Array Value} {t : TypeId} (h : OwnB base w v d) (hq : Blk w gq cs t) (ht : t ≠ 5) (hg : w.grownBy W (some gq)) : OwnB base W v d := by
  refine World.ownsRow.kept h hg ?_
  rcases h.2 with ⟨rfl, -⟩ | ⟨g, cap, cur, rfl, -, hh, -⟩
  · exact .inl rfl
  · right
    intro e
    have e' : g = gq := by simpa [Value.ownBlock] using e
    subst e'
    have hq' : w.heap[g]? = some (.cells cs t (0, 0)) := hq
    rw [hh] at hq'
    simp only [Option.some.injEq, Obj.cells.injEq, and_true] at hq'
    exact ht hq'.2.symm

theorem LT.ok.setG {t : LT} {w0 wr : World} {B gl : Nat} {cs : Array Value} (h : t.ok w0 B wr) (b : Blk wr gl cs 32) (hl : B ≤ gl) (j : Nat) (v : Value) : t.ok w0 B (wr.setCell ⟨gl, j, none⟩ v) := by
  have b' : wr.heap[gl]? = some (.cells cs 32 (0, 0)) := b
  have n1 : t.g ≠ gl := fun e => by
    have := h.lent.blk
    rw [e, b'] at this
    simp at this
  have row : ∀ {v : Value} {k : Nat} {xs : List Value} {g : Nat}, wr.ownsRow (t.g + 1) 5 1 v k xs → v.ownBlock = some g → g ≠ gl := fun {v k xs g} ho hv e => by
    rcases ho.2 with ⟨rfl, -⟩ | ⟨g', cap, cur, rfl, -, hh, -⟩
    · simp [Value.ownBlock] at hv
    · simp only [Value.ownBlock, Option.some.injEq] at hv
      rw [hv, e, b'] at hh
      simp at hh
  have n2 : t.gf ≠ gl := row h.lent.full rfl
  have n3 : t.gw ≠ gl := row h.lent.was rfl
  exact h.only ((Only.refl wr gl gl).setA j v) (h.lent.bel.setCell hl _) ⟨n1, n1⟩ ⟨n2, n2⟩ ⟨n3, n3⟩

section
variable {w0 wr : World} {B gl : Nat} {p : Pk} {t1 t2 t3 : LT} {d s y u1 u2 u3 : Value}
theorem LoanD.drewN (h : LoanD w0 B wr gl p t1 t2 t3 d s y u1 u2 u3) (q : Nat) : LoanD w0 B (wr.drewN q) gl p t1 t2 t3 d s y u1 u2 u3 :=
  ⟨h.blk, h.k1.drewN q, h.k2.drewN q, h.k3.drewN q, h.e1, h.e2, h.e3, h.o1, h.o2, h.o3, h.r12, h.r23, h.low, bel_drewN h.bel q⟩
theorem LoanD.grown {W : World} (h : LoanD w0 B wr gl p t1 t2 t3 d s y u1 u2 u3) (g : wr.grownBy W none) : LoanD w0 B W gl p t1 t2 t3 d s y u1 u2 u3 :=
  ⟨h.blk.grown g, h.k1.grown g, h.k2.grown g, h.k3.grown g, h.e1, h.e2, h.e3, h.o1.far g (fun q e => by cases e), h.o2.far g (fun q e => by cases e), h.o3.far g (fun q e => by cases e), h.r12, h.r23, h.low, h.bel.trans ((grown_bel g).mono (Nat.le_trans h.low (Nat.le_of_lt h.blk.lt)))⟩
theorem LoanD.set1 (h : LoanD w0 B wr gl p t1 t2 t3 d s y u1 u2 u3) (v : Value) : LoanD w0 B (wr.setCell ⟨gl, 1, none⟩ v) gl p t1 t2 t3 v s y u1 u2 u3 :=
  ⟨h.blk.setC 1 v, h.k1.setG h.blk h.low 1 v, h.k2.setG h.blk h.low 1 v, h.k3.setG h.blk h.low 1 v, h.e1, h.e2, h.e3, h.o1.farY h.blk (by decide) (grown_at (World.grownBy.refl _ _) 1 v), h.o2.farY h.blk (by decide) (grown_at (World.grownBy.refl _ _) 1 v), h.o3.farY h.blk (by decide) (grown_at (World.grownBy.refl _ _) 1 v), h.r12, h.r23, h.low, h.bel.setCell h.low _⟩
theorem LoanD.set2 (h : LoanD w0 B wr gl p t1 t2 t3 d s y u1 u2 u3) (v : Value) : LoanD w0 B (wr.setCell ⟨gl, 2, none⟩ v) gl p t1 t2 t3 d v y u1 u2 u3 :=
  ⟨h.blk.setC 2 v, h.k1.setG h.blk h.low 2 v, h.k2.setG h.blk h.low 2 v, h.k3.setG h.blk h.low 2 v, h.e1, h.e2, h.e3, h.o1.farY h.blk (by decide) (grown_at (World.grownBy.refl _ _) 2 v), h.o2.farY h.blk (by decide) (grown_at (World.grownBy.refl _ _) 2 v), h.o3.farY h.blk (by decide) (grown_at (World.grownBy.refl _ _) 2 v), h.r12, h.r23, h.low, h.bel.setCell h.low _⟩
theorem LoanD.set5 (h : LoanD w0 B wr gl p t1 t2 t3 d s y u1 u2 u3) (v : Value) : LoanD w0 B (wr.setCell ⟨gl, 5, none⟩ v) gl p t1 t2 t3 d s v u1 u2 u3 :=
  ⟨h.blk.setC 5 v, h.k1.setG h.blk h.low 5 v, h.k2.setG h.blk h.low 5 v, h.k3.setG h.blk h.low 5 v, h.e1, h.e2, h.e3, h.o1.farY h.blk (by decide) (grown_at (World.grownBy.refl _ _) 5 v), h.o2.farY h.blk (by decide) (grown_at (World.grownBy.refl _ _) 5 v), h.o3.farY h.blk (by decide) (grown_at (World.grownBy.refl _ _) 5 v), h.r12, h.r23, h.low, h.bel.setCell h.low _⟩
end

def LPost (w0 : World) (B : Nat) (l : List Int) (W : World) (e : Ending) (w' : World) : Prop :=
  ∃ t : LT, e = .returned (.pointer (some ⟨t.g, 0, none⟩)) ∧ t.ok w0 B w' ∧ t.l = l ∧ t.n = l.length ∧ W.heap.size ≤ t.g ∧ W.grownBy w' none

def LendPost (w0 : World) (B : Nat) (p : Pk) (W : World) (e : Ending) (w' : World) : Prop :=
  ∃ gl t1 t2 t3 u1 u2 u3, e = .returned (.pointer (some ⟨gl, 0, none⟩)) ∧ Loan w0 B w' gl p t1 t2 t3 u1 u2 u3 ∧ W.grownBy w' none

theorem lend05 (w0 : World) (B : Nat) (p : Pk) (d s y : Value) (w : World) (hd : InB w d p.dst) (hs : InB w s p.src) (hy : InB w y p.payload) (l1 : p.dst.length ≤ 140737488351232) (l2 : p.src.length ≤ 140737488351232) (l3 : p.payload.length ≤ 140737488351232) (hb : Below B w0 w) (hB : B ≤ w.heap.size) :
    Calls Try.prog 8 #[p.val d s y] w (LendPost w0 B p w) := by
  obtain ⟨a1, c1, rfl, -⟩ := id hd
  obtain ⟨a2, c2, rfl, -⟩ := id hs
  obtain ⟨a3, c3, rfl, -⟩ := id hy
  have b0 := Blk.new w (p.cs (.slice a1 p.dst.length c1) (.slice a2 p.src.length c2) (.slice a3 p.payload.length c3)) 29
  have g0 := World.grownBy_alloc w (.cells (p.cs (.slice a1 p.dst.length c1) (.slice a2 p.src.length c2) (.slice a3 p.payload.length c3)) 29) none
  go_enter Try.func8, Try.ntmps8
  go_wp2_with fail
  generalize w.alloc (.cells (p.cs (.slice a1 p.dst.length c1) (.slice a2 p.src.length c2) (.slice a3 p.payload.length c3)) 29) = Wb at *
  have bl : ∀ V, Wb.grownBy V none → Below B w0 V ∧ B ≤ V.heap.size := fun V g => ⟨hb.trans ((grown_bel (g0.trans g)).mono hB), Nat.le_trans hB (g0.trans g).size⟩
  have hc : ∀ V, Wb.grownBy V none → Calls Try.prog 17 #[p.val (.slice a1 p.dst.length c1) (.slice a2 p.src.length c2) (.slice a3 p.payload.length c3)] V (CopPost V p) := fun V g => copied05 p _ _ _ V (hd.grown (g0.trans g)) (hs.grown (g0.trans g)) (hy.grown (g0.trans g)) l1 l2 l3
  have h1 : ∀ V, Wb.grownBy V none → Calls Try.prog 25 #[.slice a1 p.dst.length c1] V (LPost w0 B p.dst V) := fun V g => lend_lt w0 B _ p.dst V (hd.grown (g0.trans g)) l1 (bl V g).1 (bl V g).2
  have h2 : ∀ V, Wb.grownBy V none → Calls Try.prog 25 #[.slice a2 p.src.length c2] V (LPost w0 B p.src V) := fun V g => lend_lt w0 B _ p.src V (hs.grown (g0.trans g)) l2 (bl V g).1 (bl V g).2
  have h3 : ∀ V, Wb.grownBy V none → Calls Try.prog 25 #[.slice a3 p.payload.length c3] V (LPost w0 B p.payload V) := fun V g => lend_lt w0 B _ p.payload V (hy.grown (g0.trans g)) l3 (bl V g).1 (bl V g).2
  have x0 := b0.cell 0 (.int .i64 p.space) rfl
  have x1 := b0.cell 1 (.slice a1 p.dst.length c1) rfl
  have x2 := b0.cell 2 (.slice a2 p.src.length c2) rfl
  have x3 := b0.cell 3 (.int .i64 p.number) rfl
  have x4 := b0.cell 4 (.int .i64 p.width) rfl
  have x5 := b0.cell 5 (.slice a3 p.payload.length c3) rfl
  have HC := hide hc; have H1 := hide h1; have H2 := hide h2; have H3 := hide h3; have BL := hide bl; have B0 := hide b0; have G0 := hide g0
  clear hc h1 h2 h3 bl b0 g0 hd hs hy hb hB
  generalize w.heap.size = gp at *
  go_region_held3 (fun W => W.cell? ⟨gp, 0, none⟩ = some (.int .i64 p.space) ∧ W.cell? ⟨gp, 1, none⟩ = some (.slice a1 p.dst.length c1) ∧ W.cell? ⟨gp, 2, none⟩ = some (.slice a2 p.src.length c2) ∧ W.cell? ⟨gp, 3, none⟩ = some (.int .i64 p.number) ∧ W.cell? ⟨gp, 4, none⟩ = some (.int .i64 p.width) ∧ W.cell? ⟨gp, 5, none⟩ = some (.slice a3 p.payload.length c3)) (go_keep) (first
    | (go_at_call 17; refine (unhide HC _ (grown_drewN (World.grownBy.refl _ none))).mono ?_; intro e V1 hcp; obtain ⟨e1, f1, e2, f2, e3, f3, rfl, o1, o2, o3, gc⟩ := hcp; have gr1 := (grown_drewN (World.grownBy.refl Wb none)).trans gc; have O := hide (And.intro o1 (And.intro o2 o3)); clear o1 o2 o3; have x10 := cell_grown x0 gr1; have x11 := cell_grown x1 gr1; have x12 := cell_grown x2 gr1; have x13 := cell_grown x3 gr1; have x14 := cell_grown x4 gr1; have x15 := cell_grown x5 gr1)
    | (go_at_call 25; refine (unhide H3 _ gr3).mono ?_; intro e V4 hq3; obtain ⟨t3, rfl, kt3, q31, q32, q33, gd3⟩ := hq3; have gr4 := gr3.trans gd3; have K3 := hide (And.intro kt3 (And.intro q31 (And.intro q32 (And.intro q33 gd3)))); clear kt3 q31 q32 q33 gd3; have x40 := cell_grown x0 gr4; have x41 := cell_grown x1 gr4; have x42 := cell_grown x2 gr4; have x43 := cell_grown x3 gr4; have x44 := cell_grown x4 gr4; have x45 := cell_grown x5 gr4)
    | (go_at_call 25; refine (unhide H2 _ gr2).mono ?_; intro e V3 hq2; obtain ⟨t2, rfl, kt2, q21, q22, q23, gd2⟩ := hq2; have gr3 := gr2.trans gd2; have K2 := hide (And.intro kt2 (And.intro q21 (And.intro q22 (And.intro q23 gd2)))); clear kt2 q21 q22 q23 gd2; have x30 := cell_grown x0 gr3; have x31 := cell_grown x1 gr3; have x32 := cell_grown x2 gr3; have x33 := cell_grown x3 gr3; have x34 := cell_grown x4 gr3; have x35 := cell_grown x5 gr3)
    | (go_at_call 25; refine (unhide H1 _ gr1).mono ?_; intro e V2 hq1; obtain ⟨t1, rfl, kt1, q11, q12, q13, gd1⟩ := hq1; have gr2 := gr1.trans gd1; have K1 := hide (And.intro kt1 (And.intro q11 (And.intro q12 (And.intro q13 gd1)))); clear kt1 q11 q12 q13 gd1; have x20 := cell_grown x0 gr2; have x21 := cell_grown x1 gr2; have x22 := cell_grown x2 gr2; have x23 := cell_grown x3 gr2; have x24 := cell_grown x4 gr2; have x25 := cell_grown x5 gr2))
  obtain ⟨kt1, q11, q12, q13, gd1⟩ := unhide K1
  obtain ⟨kt2, q21, q22, q23, gd2⟩ := unhide K2
  obtain ⟨kt3, q31, q32, q33, gd3⟩ := unhide K3
  obtain ⟨o1, o2, o3⟩ := unhide O
  obtain ⟨bl4, lw4⟩ := unhide BL V4 gr4
  have lo1 := (unhide BL _ (grown_drewN (q := 1) (World.grownBy.refl Wb none))).2
  have lt1 := kt1.lts
  have lt2 := kt2.lts
  have gN := World.grownBy_alloc V4 (.cells (lcs p (.slice a1 p.dst.length c1) (.slice a2 p.src.length c2) (.slice a3 p.payload.length c3) (.slice e1 p.dst.length f1) (.slice e2 p.src.length f2) (.slice e3 p.payload.length f3) t1.g t2.g t3.g) 32) none
  have g14 := (gd1.trans gd2).trans gd3
  have L0 : LoanD w0 B (V4.alloc (.cells (lcs p (.slice a1 p.dst.length c1) (.slice a2 p.src.length c2) (.slice a3 p.payload.length c3) (.slice e1 p.dst.length f1) (.slice e2 p.src.length f2) (.slice e3 p.payload.length f3) t1.g t2.g t3.g) 32)) V4.heap.size p t1 t2 t3 (.slice a1 p.dst.length c1) (.slice a2 p.src.length c2) (.slice a3 p.payload.length c3) (.slice e1 p.dst.length f1) (.slice e2 p.src.length f2) (.slice e3 p.payload.length f3) :=
    ⟨Blk.new _ _ _, ((kt1.grown gd2).grown gd3).grown gN, (kt2.grown gd3).grown gN, kt3.grown gN, q11, q21, q31, ((o1.far g14 (fun q e => by cases e)).far gN (fun q e => by cases e)).mono lo1, ((o2.far g14 (fun q e => by cases e)).far gN (fun q e => by cases e)).mono lo1, ((o3.far g14 (fun q e => by cases e)).far gN (fun q e => by cases e)).mono lo1, ⟨by omega, by omega⟩, ⟨by omega, by omega⟩, lw4, bl4.trans ((grown_bel gN).mono lw4)⟩
  have GT := hide (((unhide G0).trans gr4).trans gN)
  have hgl : gp < V4.heap.size := Nat.lt_of_lt_of_le (unhide B0).lt gr4.size
  have hwl := hide (Nat.le_trans (unhide G0).size gr4.size)
  clear kt1 q11 q12 q13 gd1 kt2 q21 q22 q23 gd2 kt3 q31 q32 q33 gd3 o1 o2 o3 bl4 lw4 lo1 lt1 lt2 gN g14 K1 K2 K3 O HC H1 H2 H3 BL gr1 gr2 gr3 gr4 gc B0 G0
  clear x0 x1 x2 x3 x4 x5 x10 x11 x12 x13 x14 x15 x20 x21 x22 x23 x24 x25 x30 x31 x32 x33 x34 x35 x40 x41 x42 x43 x44 x45
  go_wp2_with fail
  generalize V4.alloc (.cells (lcs p (.slice a1 p.dst.length c1) (.slice a2 p.src.length c2) (.slice a3 p.payload.length c3) (.slice e1 p.dst.length f1) (.slice e2 p.src.length f2) (.slice e3 p.payload.length f3) t1.g t2.g t3.g) 32) = V5 at *
  generalize hgle : V4.heap.size = gl at *
  clear hgle
  refine (bytes_lt t1 w0 V5 B L0.k1).mono ?_
  rintro e V6 ⟨rfl, q1, hq⟩
  subst hq
  have LD := L0.drewN q1
  have L1 := LD.set1 t1.v
  have y1 := LD.blk.cell 1 (.slice a1 p.dst.length c1) rfl
  have th := LD.blk.thaws
  have y13 := L1.blk.cell 13 (.pointer (some ⟨t2.g, 0, none⟩)) rfl
  have GT1 := hide (grown_set (grown_drewN (q := q1) (unhide GT)) gl 1 t1.v (unhide hwl))
  clear LD L0 GT
  generalize V5.drewN q1 = V6 at *
  go_wp2_with fail
  generalize V6.setCell ⟨gl, 1, none⟩ (.slice (some ⟨t1.gf, 0, none⟩) t1.n t1.cf) = V7 at *
  refine (bytes_lt t2 w0 V7 B L1.k2).mono ?_
  rintro e V8 ⟨rfl, q2, hq⟩
  subst hq
  have LD := L1.drewN q2
  have L2 := LD.set2 t2.v
  have y2 := LD.blk.cell 2 (.slice a2 p.src.length c2) rfl
  have th2 := LD.blk.thaws
  have y14 := L2.blk.cell 14 (.pointer (some ⟨t3.g, 0, none⟩)) rfl
  have GT2 := hide (grown_set (grown_drewN (q := q2) (unhide GT1)) gl 2 t2.v (unhide hwl))
  clear LD L1 GT1 y1 th y13
  generalize V7.drewN q2 = V8 at *
  go_wp2_with fail
  generalize V8.setCell ⟨gl, 2, none⟩ (.slice (some ⟨t2.gf, 0, none⟩) t2.n t2.cf) = V9 at *
  refine (bytes_lt t3 w0 V9 B L2.k3).mono ?_
  rintro e Va ⟨rfl, q3, hq⟩
  subst hq
  have LD := L2.drewN q3
  have L3 := LD.set5 t3.v
  have y5 := LD.blk.cell 5 (.slice a3 p.payload.length c3) rfl
  have th3 := LD.blk.thaws
  have GT3 := hide (grown_set (grown_drewN (q := q3) (unhide GT2)) gl 5 t3.v (unhide hwl))
  have H3 := hide L3
  clear LD L2 GT2 y2 th2 y14 L3
  generalize V9.drewN q3 = Va at *
  go_wp2_with fail
  go_ret
  exact ⟨_, _, _, _, _, _, _, rfl, unhide H3, unhide GT3⟩
end Go.Proofs.Ytpcnpdippnljpaa

namespace Go.Proofs.Ytpcnpdippnljpaa
open Go.RowKit
set_option linter.unusedVariables false
set_option maxRecDepth 100000
set_option maxHeartbeats 2000000

section
variable {t : LT} {w0 wr : World} {B : Nat}
theorem LT.ok.keep {w' : World} (h : t.ok w0 B wr) (e1 : w'.heap[t.g]? = wr.heap[t.g]?) (e2 : w'.heap[t.gf]? = wr.heap[t.gf]?) (e3 : w'.heap[t.gw]? = wr.heap[t.gw]?) (hb : Below B w0 w') : t.ok w0 B w' := by
  refine ⟨⟨by rw [e1]; exact h.lent.blk, ?_, ?_, h.lent.sep, hb, h.lent.low⟩, h.byte⟩
  · refine ⟨h.lent.full.1, ?_⟩
    rcases h.lent.full.2 with ⟨e, -⟩ | ⟨g, cap, cur, e, q1, q2, q3⟩
    · cases e
    · simp only [Value.slice.injEq, Option.some.injEq, Addr.mk.injEq, and_true, true_and] at e
      obtain ⟨rfl, rfl⟩ := e
      exact .inr ⟨_, _, cur, rfl, q1, by rw [e2]; exact q2, q3⟩
  · refine ⟨h.lent.was.1, ?_⟩
    rcases h.lent.was.2 with ⟨e, -⟩ | ⟨g, cap, cur, e, q1, q2, q3⟩
    · cases e
    · simp only [Value.slice.injEq, Option.some.injEq, Addr.mk.injEq, and_true, true_and] at e
      obtain ⟨rfl, rfl⟩ := e
      exact .inr ⟨_, _, cur, rfl, q1, by rw [e3]; exact q2, q3⟩
theorem LT.ok.neG {gl : Nat} {cs : Array Value} (h : t.ok w0 B wr) (b : Blk wr gl cs 32) : t.g ≠ gl ∧ t.gf ≠ gl ∧ t.gw ≠ gl := by
  have b' : wr.heap[gl]? = some (.cells cs 32 (0, 0)) := b
  have n1 : t.g ≠ gl := fun e => by
    have := h.lent.blk
    rw [e, b'] at this
    simp at this
  have row : ∀ {v : Value} {k : Nat} {xs : List Value} {g : Nat}, wr.ownsRow (t.g + 1) 5 1 v k xs → v.ownBlock = some g → g ≠ gl := fun {v k xs g} ho hv e => by
    rcases ho.2 with ⟨rfl, -⟩ | ⟨g', cap, cur, rfl, -, hh, -⟩
    · simp [Value.ownBlock] at hv
    · simp only [Value.ownBlock, Option.some.injEq] at hv
      rw [hv, e, b'] at hh
      simp at hh
  exact ⟨n1, row h.lent.full rfl, row h.lent.was rfl⟩
theorem LT.ok.farG {W : World} {gl : Nat} {cs : Array Value} (h : t.ok w0 B wr) (b : Blk wr gl cs 32) (g : wr.grownBy W (some gl)) (hl : B ≤ gl) : t.ok w0 B W := by
  obtain ⟨n1, n2, n3⟩ := h.neG b
  obtain ⟨-, l1, -, -, l4, l5⟩ := h.lts
  refine h.keep (g.block _ (by omega) (by simp; exact n1)) (g.block _ l4 (by simp; exact n2)) (g.block _ l5 (by simp; exact n3)) ?_
  exact h.lent.bel.grown g (Nat.le_trans h.lent.low (by omega)) (fun k hk => by cases hk; exact hl)
end

theorem Only.blk {w W : World} {a b g : Nat} {cs : Array Value} {t : TypeId} (h : Only w W a b) (hb : Blk w g cs t) (n1 : g ≠ a) (n2 : g ≠ b) : Blk W g cs t := (h.2 g n1 n2).trans hb

theorem kept05 (w0 : World) (B : Nat) (w : World) (gl : Nat) (p : Pk) (t1 t2 t3 : LT) (u1 u2 u3 : Value) (L : Loan w0 B w gl p t1 t2 t3 u1 u2 u3) :
    Calls Try.prog 14 #[.pointer (some ⟨gl, 0, none⟩)] w fun e w' => e = .returned (.bool true) ∧ w.grownBy w' none := by
  obtain ⟨a1, c1, rfl⟩ := L.o1.shape
  obtain ⟨a2, c2, rfl⟩ := L.o2.shape
  obtain ⟨a3, c3, rfl⟩ := L.o3.shape
  have y12 := L.blk.cell 12 (.pointer (some ⟨t1.g, 0, none⟩)) rfl
  go_enter Try.func14, Try.ntmps14
  go_wp2_with fail
  refine (kept_lt t1 w0 w B L.k1).mono ?_
  rintro e V1 ⟨rfl, q1, hq⟩
  subst hq
  have L1 := L.drewN q1
  have g1 := grown_drewN (q := q1) (World.grownBy.refl w none)
  have y13 := L1.blk.cell 13 (.pointer (some ⟨t2.g, 0, none⟩)) rfl
  clear L y12
  generalize w.drewN q1 = V1 at *
  go_wp2_with fail
  refine (kept_lt t2 w0 V1 B L1.k2).mono ?_
  rintro e V2 ⟨rfl, q2, hq⟩
  subst hq
  have L2 := L1.drewN q2
  have g2 := grown_drewN (q := q2) g1
  have y14 := L2.blk.cell 14 (.pointer (some ⟨t3.g, 0, none⟩)) rfl
  clear L1 y13 g1
  generalize V1.drewN q2 = V2 at *
  go_wp2_with fail
  refine (kept_lt t3 w0 V2 B L2.k3).mono ?_
  rintro e V3 ⟨rfl, q3, hq⟩
  subst hq
  have L3 := L2.drewN q3
  have g3 := grown_drewN (q := q3) g2
  clear L2 y14 g2
  generalize V2.drewN q3 = V3 at *
  have i1 := L3.k1.inB
  have i2 := L3.k2.inB
  have i3 := L3.k3.inB
  have hb1 := L3.k1.bytes
  have hb2 := L3.k2.bytes
  have hb3 := L3.k3.bytes
  rw [L3.e1] at i1 hb1
  rw [L3.e2] at i2 hb2
  rw [L3.e3] at i3 hb3
  have sm : ∀ V, V3.grownBy V none → Calls Try.prog 15 #[p.val t1.v t2.v t3.v, p.val (.slice a1 p.dst.length c1) (.slice a2 p.src.length c2) (.slice a3 p.payload.length c3)] V fun e w' => e = .returned (.bool true) ∧ V.grownBy w' none := fun V g => same05 p _ _ _ _ _ _ V (i1.grown g) (i2.grown g) (i3.grown g) ((L3.o1.inB hb1).grown g) ((L3.o2.inB hb2).grown g) ((L3.o3.inB hb3).grown g)
  have z0 := L3.blk.cell 0 (.int .i64 p.space) rfl
  have z1 := L3.blk.cell 1 t1.v rfl
  have z2 := L3.blk.cell 2 t2.v rfl
  have z3 := L3.blk.cell 3 (.int .i64 p.number) rfl
  have z4 := L3.blk.cell 4 (.int .i64 p.width) rfl
  have z5 := L3.blk.cell 5 t3.v rfl
  have z6 := L3.blk.cell 6 (.int .i64 p.space) rfl
  have z7 := L3.blk.cell 7 (.slice a1 p.dst.length c1) rfl
  have z8 := L3.blk.cell 8 (.slice a2 p.src.length c2) rfl
  have z9 := L3.blk.cell 9 (.int .i64 p.number) rfl
  have za := L3.blk.cell 10 (.int .i64 p.width) rfl
  have zb := L3.blk.cell 11 (.slice a3 p.payload.length c3) rfl
  have SM := hide sm
  have G3 := hide g3
  clear sm i1 i2 i3 hb1 hb2 hb3 L3 g3
  go_wp2_with fail
  go_region_held3 (fun W => (W.cell? ⟨gl, 0, none⟩ = some (.int .i64 p.space) ∧ W.cell? ⟨gl, 1, none⟩ = some (.slice (some ⟨t1.gf, 0, none⟩) t1.n t1.cf) ∧ W.cell? ⟨gl, 2, none⟩ = some (.slice (some ⟨t2.gf, 0, none⟩) t2.n t2.cf) ∧ W.cell? ⟨gl, 3, none⟩ = some (.int .i64 p.number) ∧ W.cell? ⟨gl, 4, none⟩ = some (.int .i64 p.width) ∧ W.cell? ⟨gl, 5, none⟩ = some (.slice (some ⟨t3.gf, 0, none⟩) t3.n t3.cf)) ∧ W.cell? ⟨gl, 6, none⟩ = some (.int .i64 p.space) ∧ W.cell? ⟨gl, 7, none⟩ = some (.slice a1 p.dst.length c1) ∧ W.cell? ⟨gl, 8, none⟩ = some (.slice a2 p.src.length c2) ∧ W.cell? ⟨gl, 9, none⟩ = some (.int .i64 p.number) ∧ W.cell? ⟨gl, 10, none⟩ = some (.int .i64 p.width) ∧ W.cell? ⟨gl, 11, none⟩ = some (.slice a3 p.payload.length c3)) (go_keep) (first
    | (go_at_call 15; refine (unhide SM _ (grown_drewN (World.grownBy.refl _ none))).mono ?_; rintro e V4 ⟨rfl, g4⟩; have g5 := (grown_drewN (World.grownBy.refl V3 none)).trans g4; have w0' := cell_grown z0 g5; have w1' := cell_grown z1 g5; have w2' := cell_grown z2 g5; have w3' := cell_grown z3 g5; have w4' := cell_grown z4 g5; have w5' := cell_grown z5 g5; have w6' := cell_grown z6 g5; have w7' := cell_grown z7 g5; have w8' := cell_grown z8 g5; have w9' := cell_grown z9 g5; have wa' := cell_grown za g5; have wb' := cell_grown zb g5))
  go_wp2_with fail
  go_ret
  exact ⟨rfl, (unhide G3).trans g5⟩

/-- What a loan's Turn may write. -/
def LoanD.mine (gl : Nat) (t1 t2 t3 : LT) (i : Nat) : Prop := i = gl ∨ i = t1.gf ∨ i = t1.gw ∨ i = t2.gf ∨ i = t2.gw ∨ i = t3.gf ∨ i = t3.gw
def TurnPost (w0 : World) (B : Nat) (wr : World) (gl : Nat) (p : Pk) (t1 t2 t3 : LT) (e : Ending) (w' : World) : Prop :=
  ∃ (p' : Pk) (F1 F2 F3 : List Int) (u1 u2 u3 : Value), e = .returned (.tuple #[]) ∧ Loan w0 B w' gl p' { t1 with F := F1 } { t2 with F := F2 } { t3 with F := F3 } u1 u2 u3 ∧ (p'.space = p.space ∧ p'.number = p.number ∧ p'.width = p.width ∧ p'.dst.length = p.dst.length ∧ p'.src.length = p.src.length ∧ p'.payload.length = p.payload.length)
    ∧ wr.heap.size ≤ w'.heap.size ∧ ∀ i, i < wr.heap.size → ¬ LoanD.mine gl t1 t2 t3 i → w'.heap[i]? = wr.heap[i]?

end Go.Proofs.Ytpcnpdippnljpaa

namespace Go.Proofs.Ytpcnpdippnljpaa
open Go.RowKit
set_option linter.unusedVariables false
set_option maxRecDepth 100000
set_option maxHeartbeats 2000000

theorem turn05 (w0 : World) (B : Nat) (w : World) (gl : Nat) (p : Pk) (t1 t2 t3 : LT) (u1 u2 u3 : Value) (L : Loan w0 B w gl p t1 t2 t3 u1 u2 u3) (l1 : p.dst.length ≤ 140737488351232) (l2 : p.src.length ≤ 140737488351232) (l3 : p.payload.length ≤ 140737488351232) :
    Calls Try.prog 16 #[.pointer (some ⟨gl, 0, none⟩)] w (TurnPost w0 B w gl p t1 t2 t3) := by
  have y12 := L.blk.cell 12 (.pointer (some ⟨t1.g, 0, none⟩)) rfl
  obtain ⟨lo1, s1, s2, s3, s4, s5⟩ := L.k1.lts
  obtain ⟨lo2, s6, s7, s8, s9, s10⟩ := L.k2.lts
  obtain ⟨lo3, s11, s12, s13, s14, s15⟩ := L.k3.lts
  obtain ⟨n1, n2, n3⟩ := L.k1.neG L.blk
  obtain ⟨n4, n5, n6⟩ := L.k2.neG L.blk
  obtain ⟨n7, n8, n9⟩ := L.k3.neG L.blk
  obtain ⟨r1, r2⟩ := L.r12
  obtain ⟨r3, r4⟩ := L.r23
  have hn1 : t1.n = p.dst.length := by rw [← L.e1]; exact L.k1.len.symm
  have hn2 : t2.n = p.src.length := by rw [← L.e2]; exact L.k2.len.symm
  have hn3 : t3.n = p.payload.length := by rw [← L.e3]; exact L.k3.len.symm
  have hlow := L.low
  have LL := hide L
  have HN := hide (And.intro hn1 (And.intro hn2 hn3))
  have HS := hide (And.intro (And.intro n1 (And.intro n2 n3)) (And.intro (And.intro n4 (And.intro n5 n6)) (And.intro n7 (And.intro n8 n9))))
  have HR := hide (And.intro (And.intro s1 (And.intro s2 s3)) (And.intro (And.intro s6 (And.intro s7 s8)) (And.intro (And.intro s11 (And.intro s12 s13)) (And.intro (And.intro r1 r2) (And.intro r3 r4)))))
  clear L hn1 hn2 hn3 n1 n2 n3 n4 n5 n6 n7 n8 n9 s1 s2 s3 s4 s5 s6 s7 s8 s9 s10 s11 s12 s13 s14 s15 r1 r2 r3 r4
  go_enter Try.func16, Try.ntmps16
  go_wp2_with fail
  refine (turn_lt t1 w0 w B 1 (unhide LL).k1 (by decide) (by decide)).mono ?_
  rintro e V1 ⟨rfl, F1, k1, O1⟩
  obtain ⟨⟨n1, n2, n3⟩, ⟨n4, n5, n6⟩, n7, n8, n9⟩ := unhide HS
  obtain ⟨⟨s1, s2, s3⟩, ⟨s6, s7, s8⟩, ⟨s11, s12, s13⟩, ⟨r1, r2⟩, r3, r4⟩ := unhide HR
  have b1 := O1.blk (unhide LL).blk (Ne.symm n2) (Ne.symm n3)
  have k2 := (unhide LL).k2.only O1 k1.lent.bel ⟨by omega, by omega⟩ ⟨by omega, by omega⟩ ⟨by omega, by omega⟩
  have k3 := (unhide LL).k3.only O1 k1.lent.bel ⟨by omega, by omega⟩ ⟨by omega, by omega⟩ ⟨by omega, by omega⟩
  have y13 := b1.cell 13 (.pointer (some ⟨t2.g, 0, none⟩)) rfl
  have B1 := hide b1; have K1 := hide k1; have K2 := hide k2; have K3 := hide k3; have HO1 := hide O1
  clear b1 k1 k2 k3 O1 n1 n2 n3 n4 n5 n6 n7 n8 n9 s1 s2 s3 s6 s7 s8 s11 s12 s13 r1 r2 r3 r4 y12
  go_wp2_with fail
  refine (turn_lt t2 w0 V1 B 2 (unhide K2) (by decide) (by decide)).mono ?_
  rintro e V2 ⟨rfl, F2, k2, O2⟩
  obtain ⟨⟨n1, n2, n3⟩, ⟨n4, n5, n6⟩, n7, n8, n9⟩ := unhide HS
  obtain ⟨⟨s1, s2, s3⟩, ⟨s6, s7, s8⟩, ⟨s11, s12, s13⟩, ⟨r1, r2⟩, r3, r4⟩ := unhide HR
  have b2 := O2.blk (unhide B1) (Ne.symm n5) (Ne.symm n6)
  have k1 := (unhide K1).only O2 k2.lent.bel ⟨by simp only; omega, by simp only; omega⟩ ⟨by simp only; omega, by simp only; omega⟩ ⟨by simp only; omega, by simp only; omega⟩
  have k3 := (unhide K3).only O2 k2.lent.bel ⟨by omega, by omega⟩ ⟨by omega, by omega⟩ ⟨by omega, by omega⟩
  have y14 := b2.cell 14 (.pointer (some ⟨t3.g, 0, none⟩)) rfl
  have B2 := hide b2
  clear K1 K2 K3 B1
  have K1 := hide k1; have K2 := hide k2; have K3 := hide k3; have HO2 := hide O2
  clear b2 k1 k2 k3 O2 n1 n2 n3 n4 n5 n6 n7 n8 n9 s1 s2 s3 s6 s7 s8 s11 s12 s13 r1 r2 r3 r4 y13
  go_wp2_with fail
  refine (turn_lt t3 w0 V2 B 3 (unhide K3) (by decide) (by decide)).mono ?_
  rintro e V3 ⟨rfl, F3, k3, O3⟩
  obtain ⟨⟨n1, n2, n3⟩, ⟨n4, n5, n6⟩, n7, n8, n9⟩ := unhide HS
  obtain ⟨⟨s1, s2, s3⟩, ⟨s6, s7, s8⟩, ⟨s11, s12, s13⟩, ⟨r1, r2⟩, r3, r4⟩ := unhide HR
  have b3 := O3.blk (unhide B2) (Ne.symm n8) (Ne.symm n9)
  have k1 := (unhide K1).only O3 k3.lent.bel ⟨by simp only; omega, by simp only; omega⟩ ⟨by simp only; omega, by simp only; omega⟩ ⟨by simp only; omega, by simp only; omega⟩
  have k2 := (unhide K2).only O3 k3.lent.bel ⟨by simp only; omega, by simp only; omega⟩ ⟨by simp only; omega, by simp only; omega⟩ ⟨by simp only; omega, by simp only; omega⟩
  obtain ⟨hn1, hn2, hn3⟩ := unhide HN
  obtain ⟨P', hP'⟩ : ∃ P' : Pk, P' = ⟨p.space, (LT.l { t1 with F := F1 }), (LT.l { t2 with F := F2 }), p.number, p.width, (LT.l { t3 with F := F3 })⟩ := ⟨_, rfl⟩
  have m1 : P'.dst = LT.l { t1 with F := F1 } := by rw [hP']
  have m2 : P'.src = LT.l { t2 with F := F2 } := by rw [hP']
  have m3 : P'.payload = LT.l { t3 with F := F3 } := by rw [hP']
  have m4 : P'.space = p.space := by rw [hP']
  have m5 : P'.number = p.number := by rw [hP']
  have m6 : P'.width = p.width := by rw [hP']
  have ln1 : P'.dst.length = p.dst.length := by rw [m1, k1.len]; exact hn1
  have ln2 : P'.src.length = p.src.length := by rw [m2, k2.len]; exact hn2
  have ln3 : P'.payload.length = p.payload.length := by rw [m3, k3.len]; exact hn3
  have i1 := k1.inB
  have i2 := k2.inB
  have i3 := k3.inB
  rw [← m1] at i1
  rw [← m2] at i2
  rw [← m3] at i3
  have cp := copied05 P' t1.v t2.v t3.v V3 i1 i2 i3 (by omega) (by omega) (by omega)
  have ev : P'.val t1.v t2.v t3.v = .agg #[.int .i64 p.space, t1.v, t2.v, .int .i64 p.number, .int .i64 p.width, t3.v] := by
    show Value.agg #[.int .i64 P'.space, t1.v, t2.v, .int .i64 P'.number, .int .i64 P'.width, t3.v] = _
    rw [m4, m5, m6]
  rw [ev] at cp
  have CPY := hide cp
  have M := hide (And.intro (And.intro m1 (And.intro m2 m3)) (And.intro (And.intro m4 (And.intro m5 m6)) (And.intro ln1 (And.intro ln2 ln3))))
  have z0 := b3.cell 0 (.int .i64 p.space) rfl
  have z1 := b3.cell 1 t1.v rfl
  have z2 := b3.cell 2 t2.v rfl
  have z3 := b3.cell 3 (.int .i64 p.number) rfl
  have z4 := b3.cell 4 (.int .i64 p.width) rfl
  have z5 := b3.cell 5 t3.v rfl
  have B3 := hide b3
  clear K1 K2 K3 B2
  have K1 := hide k1; have K2 := hide k2; have K3 := hide k3; have HO3 := hide O3
  clear b3 k1 k2 k3 O3 n1 n2 n3 n4 n5 n6 n7 n8 n9 s1 s2 s3 s6 s7 s8 s11 s12 s13 r1 r2 r3 r4 y14 hn1 hn2 hn3 hP' m1 m2 m3 m4 m5 m6 ln1 ln2 ln3 i1 i2 i3 cp ev HN
  go_wp2_with fail
  refine (unhide CPY).mono ?_
  intro e V4 hc
  obtain ⟨a1, c1, a2, c2, a3, c3, rfl, o1, o2, o3, gc⟩ := hc
  obtain ⟨⟨m1, m2, m3⟩, ⟨m4, m5, m6⟩, ln1, ln2, ln3⟩ := unhide M
  have b4 := (unhide B3).grown gc
  have th := b4.thaws
  have y6 := b4.cell 6 (.int .i64 p.space) rfl
  have y7 := b4.cell 7 u1 rfl
  have y8 := b4.cell 8 u2 rfl
  have y9 := b4.cell 9 (.int .i64 p.number) rfl
  have ya := b4.cell 10 (.int .i64 p.width) rfl
  have yb := b4.cell 11 u3 rfl
  have gg := grown_at (grown_at (grown_at (grown_at (grown_at (grown_at (World.grownBy.refl V4 (some gl)) 6 (.int .i64 P'.space)) 7 (.slice a1 P'.dst.length c1)) 8 (.slice a2 P'.src.length c2)) 9 (.int .i64 P'.number)) 10 (.int .i64 P'.width)) 11 (.slice a3 P'.payload.length c3)
  have k1 := ((unhide K1).grown gc).farG b4 gg hlow
  have k2 := ((unhide K2).grown gc).farG b4 gg hlow
  have k3 := ((unhide K3).grown gc).farG b4 gg hlow
  have bB : B ≤ V3.heap.size := Nat.le_trans hlow (Nat.le_of_lt (unhide B3).lt)
  have bF := (((((b4.setC 6 (.int .i64 P'.space)).setC 7 (.slice a1 P'.dst.length c1)).setC 8 (.slice a2 P'.src.length c2)).setC 9 (.int .i64 P'.number)).setC 10 (.int .i64 P'.width)).setC 11 (.slice a3 P'.payload.length c3)
  have bF' : Blk ((((((V4.setCell ⟨gl, 6, none⟩ (.int .i64 P'.space)).setCell ⟨gl, 7, none⟩ (.slice a1 P'.dst.length c1)).setCell ⟨gl, 8, none⟩ (.slice a2 P'.src.length c2)).setCell ⟨gl, 9, none⟩ (.int .i64 P'.number)).setCell ⟨gl, 10, none⟩ (.int .i64 P'.width)).setCell ⟨gl, 11, none⟩ (.slice a3 P'.payload.length c3)) gl (lcs P' t1.v t2.v t3.v (.slice a1 P'.dst.length c1) (.slice a2 P'.src.length c2) (.slice a3 P'.payload.length c3) t1.g t2.g t3.g) 32 := by
    have e : (lcs P' t1.v t2.v t3.v (.slice a1 P'.dst.length c1) (.slice a2 P'.src.length c2) (.slice a3 P'.payload.length c3) t1.g t2.g t3.g) = #[.int .i64 p.space, t1.v, t2.v, .int .i64 p.number, .int .i64 p.width, t3.v, .int .i64 P'.space, .slice a1 P'.dst.length c1, .slice a2 P'.src.length c2, .int .i64 P'.number, .int .i64 P'.width, .slice a3 P'.payload.length c3, .pointer (some ⟨t1.g, 0, none⟩), .pointer (some ⟨t2.g, 0, none⟩), .pointer (some ⟨t3.g, 0, none⟩)] := by
      unfold lcs; rw [m4, m5, m6]
    rw [e]
    exact bF
  have keep : ∀ i, i < w.heap.size → ¬ LoanD.mine gl t1 t2 t3 i → ((((((V4.setCell ⟨gl, 6, none⟩ (.int .i64 P'.space)).setCell ⟨gl, 7, none⟩ (.slice a1 P'.dst.length c1)).setCell ⟨gl, 8, none⟩ (.slice a2 P'.src.length c2)).setCell ⟨gl, 9, none⟩ (.int .i64 P'.number)).setCell ⟨gl, 10, none⟩ (.int .i64 P'.width)).setCell ⟨gl, 11, none⟩ (.slice a3 P'.payload.length c3)).heap[i]? = w.heap[i]? := fun i hi hm => by
    unfold LoanD.mine at hm
    have z1 := (unhide HO1).1
    have z2 := (unhide HO2).1
    have z3 := (unhide HO3).1
    have z4 := gc.size
    rw [gg.block i (by omega) (by simp; omega), gc.block i (by omega) (by simp), (unhide HO3).2 i (by omega) (by omega), (unhide HO2).2 i (by omega) (by omega), (unhide HO1).2 i (by omega) (by omega)]
  have hsz : w.heap.size ≤ ((((((V4.setCell ⟨gl, 6, none⟩ (.int .i64 P'.space)).setCell ⟨gl, 7, none⟩ (.slice a1 P'.dst.length c1)).setCell ⟨gl, 8, none⟩ (.slice a2 P'.src.length c2)).setCell ⟨gl, 9, none⟩ (.int .i64 P'.number)).setCell ⟨gl, 10, none⟩ (.int .i64 P'.width)).setCell ⟨gl, 11, none⟩ (.slice a3 P'.payload.length c3)).heap.size := by
    have z1 := (unhide HO1).1
    have z2 := (unhide HO2).1
    have z3 := (unhide HO3).1
    have z4 := gc.size
    have z5 := gg.size
    omega
  have F := hide (show TurnPost w0 B w gl p t1 t2 t3 (.returned (.tuple #[])) _ from ⟨P', F1, F2, F3, _, _, _, rfl, ⟨bF', k1, k2, k3, m1.symm, m2.symm, m3.symm, (o1.farY b4 (by decide) gg).mono bB, (o2.farY b4 (by decide) gg).mono bB, (o3.farY b4 (by decide) gg).mono bB, (unhide LL).r12, (unhide LL).r23, hlow, k1.lent.bel⟩, ⟨m4, m5, m6, ln1, ln2, ln3⟩, hsz, keep⟩)
  clear keep hsz bF bF' k1 k2 k3 gg b4 o1 o2 o3 gc bB m1 m2 m3 m4 m5 m6 ln1 ln2 ln3 K1 K2 K3 B3 HO1 HO2 HO3 M CPY LL HS HR
  go_wp2_with fail
  go_end0
  exact unhide F
end Go.Proofs.Ytpcnpdippnljpaa

namespace Go.Proofs.Ytpcnpdippnljpaa
open Go.RowKit
set_option linter.unusedVariables false
set_option maxRecDepth 100000
set_option maxHeartbeats 4000000

/-- Bytes that came out, told with their error. -/
def EncOwn (w : World) (E : Int) (l : List Int) (e : Ending) (w' : World) : Prop :=
  ∃ a c, e = .returned (.tuple #[.slice a l.length c, .int .i64 E]) ∧ OwnB w.heap.size w' (.slice a l.length c) l ∧ w.grownBy w' none

theorem encB_len (p : Pk) : (encB p).length ≤ p.payload.length + 60 := by
  unfold encB
  split
  · rename_i h; exact bytesP_lt p (enc_good h)
  · simp
theorem encB_byte (p : Pk) (hd : ∀ x ∈ p.dst, IsB x) (hs : ∀ x ∈ p.src, IsB x) (hy : ∀ x ∈ p.payload, IsB x) : ∀ x ∈ encB p, IsB x := by
  unfold encB
  split
  · rename_i h; exact bytesP_byte (enc_good h) hd hs hy
  · simp

theorem EncPost.own {w : World} {p : Pk} {e : Ending} {w' : World} (h : EncPost w p e w') (hm : p.payload.length ≤ 140737488351232) : EncOwn w (encE p) (encB p) e w' := by
  obtain ⟨⟨h1, rfl⟩ | ⟨h0, good, g, h2, rfl, h3⟩, gr⟩ := h
  · have : encB p = [] := by unfold encB; rw [if_neg h1]
    rw [this]
    exact ⟨none, 0, rfl, OwnB.nil _ _, gr⟩
  · have : encB p = bytesP p := by unfold encB; rw [if_pos h0]
    rw [this, h0]
    have hl := bytesP_lt p good
    exact ⟨_, _, rfl, bts_own _ h3 h2 (by unfold maxLen; omega), gr⟩

theorem enc_own (p : Pk) (d s y : Value) (w : World) (hd : InB w d p.dst) (hs : InB w s p.src) (hy : InB w y p.payload) (l1 : p.dst.length ≤ 140737488351232) (l2 : p.src.length ≤ 140737488351232) (l3 : p.payload.length ≤ 140737488351232) :
    Calls Try.prog 23 #[p.val d s y] w (EncOwn w (encE p) (encB p)) :=
  (encode_any p d s y w hd hs hy (by omega) (by omega) (by omega)).mono fun e w' h => h.own l3
theorem renc_own (p : Pk) (d s y : Value) (w : World) (hd : InB w d p.dst) (hs : InB w s p.src) (hy : InB w y p.payload) (l1 : p.dst.length ≤ 140737488351232) (l2 : p.src.length ≤ 140737488351232) (l3 : p.payload.length ≤ 140737488351232) :
    Calls Try.prog 27 #[p.val d s y] w (EncOwn w (encE p) (encB p)) :=
  (renc_any p d s y w hd hs hy l1 l2 l3).mono fun e w' ⟨v, he, ho, g⟩ => by
    obtain ⟨a, c, e2⟩ := ho.shape
    exact ⟨a, c, by rw [he, e2], by rw [← e2]; exact ho, g⟩

theorem OwnB.kpt {base : Nat} {w w' : World} {v : Value} {d : List Int} (h : OwnB base w v d) (hk : ∀ g, v.ownBlock = some g → w'.heap[g]? = w.heap[g]?) : OwnB base w' v d := by
  refine ⟨h.1, ?_⟩
  rcases h.2 with h2 | ⟨g, cap, cur, rfl, q1, q2, q3⟩
  · exact .inl h2
  · exact .inr ⟨g, cap, cur, rfl, q1, by rw [hk g rfl]; exact q2, q3⟩
theorem OwnB.ltb {base : Nat} {w : World} {v : Value} {d : List Int} (h : OwnB base w v d) : ∀ g, v.ownBlock = some g → base ≤ g ∧ g < w.heap.size := World.ownsRow.lt h
theorem own_sep {b1 b2 : Nat} {w1 w2 : World} {v1 v2 : Value} {d1 d2 : List Int} (h1 : OwnB b1 w1 v1 d1) (h2 : OwnB b2 w2 v2 d2) (h : w1.heap.size ≤ b2) : v1.ownBlock = none ∨ v1.ownBlock ≠ v2.ownBlock := by
  cases e : v1.ownBlock with
  | none => exact .inl rfl
  | some g =>
    right
    intro e2
    have := (h1.ltb g e).2
    have := (h2.ltb g e2.symm).1
    omega

theorem encE_same {p q : Pk} (h1 : q.space = p.space) (h2 : q.number = p.number) (h3 : q.width = p.width) (h4 : q.dst.length = p.dst.length) (h5 : q.src.length = p.src.length) (h6 : q.payload.length = p.payload.length) : encE q = encE p := by
  have k1 : badK q ↔ badK p := by unfold badK; rw [h1]
  have k2 : badF q ↔ badF p := by unfold badF; rw [h1, h3, h4, h5]
  have k3 : badN q ↔ badN p := by unfold badN; rw [h1, h2, h3, h6]
  unfold encE
  simp only [k1, k2, k3]

end Go.Proofs.Ytpcnpdippnljpaa
