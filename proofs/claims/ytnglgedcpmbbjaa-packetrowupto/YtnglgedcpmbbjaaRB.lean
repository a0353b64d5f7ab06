/- around, found. -/
import Derived.Test.YtnglgedcpmbbjaaRG
import Derived.Laws.OwnMore
import Derived.Deep.RegionHeld3
namespace Go.Proofs.Ytnglgedcpmbbjaa
open Go.RowKit
set_option linter.unusedVariables false
set_option maxRecDepth 100000
set_option maxHeartbeats 1000000

theorem app_zero (w : World) (base : Nat) (ty : TypeId) (v : Value) (n : Nat) (xs : List Value) (hown : w.ownsRow base 5 1 v n xs) (a : Option Addr) (c : Nat) :
    (Builtin.append_ #[24, 24] ty #[v, .slice a 0 c]).run Try.prog w = .ok v w := by
  obtain ⟨i, hi, hz0, hz1, hz2⟩ := info_parts Try.info5
  rcases hown.2 with ⟨rfl, rfl⟩ | ⟨g, cap, cur, rfl, _, _, hnc, _⟩
  · cases a <;> simp [Builtin.append_, run_underlying Try.underlying24, sizeOf, typeInfo, hi, Builtin.lenOf, Builtin.firstCells, loadCells, loadCellsFrom]
  · cases a <;> simp [Builtin.append_, run_underlying Try.underlying24, sizeOf, typeInfo, hi, Builtin.lenOf, Builtin.firstCells, loadCells, loadCellsFrom, hnc, storeCells]

theorem app_rd (w : World) (base : Nat) (ty : TypeId) (v : Value) (d : List Int) (hown : OwnB base w v d) (u : Value) (l : List Int) (hu : InB w u l) (h48 : d.length + l.length ≤ 140737488355328) (hbase : base ≤ w.heap.size) :
    ∃ v' w', (Builtin.append_ #[24, 24] ty #[v, u]).run Try.prog w = .ok v' w' ∧ OwnB base w' v' (d ++ l) ∧ w.grownBy w' v.ownBlock := by
  obtain ⟨a, c, rfl, hr, h1, h2, h3⟩ := hu
  by_cases hl : l = []
  · subst hl
    exact ⟨v, w, app_zero w base ty v _ _ hown a c, by rw [List.append_nil]; exact hown, World.grownBy.refl w _⟩
  · obtain ⟨i, hi, hz0, hz1, hz2⟩ := info_parts Try.info5
    obtain ⟨b, off, rfl, hcell⟩ := hr.2 hl
    obtain ⟨v', w', h1, h2, h3, _⟩ := run_append_own (P := Try.prog) w base 24 ty 5 i (.int .u8 0) 1 1 Try.underlying24 hi hz0 hz1 hz2 rfl (by decide) v d.length _ hown ⟨b, off, none⟩ l.length c (l.map (Value.int .u8)) (by simp) (fun j u hu => by
      have hj : j < l.length := by
        by_cases c : j < l.length
        · exact c
        · simp [c] at hu
      rw [show (⟨b, off, none⟩ : Addr).add j = ⟨b, off + j, none⟩ by simp [Addr.add], hcell j hj]
      simpa [List.getD, hj] using hu) (fun u hu => by
      simp only [List.mem_map] at hu
      obtain ⟨y, _, rfl⟩ := hu
      rfl) (by unfold maxLen; omega) (by omega) hbase
    refine ⟨v', w', h1, ?_, h3⟩
    unfold OwnB
    rw [List.length_append, List.map_append]
    exact h2

theorem wpList_app_rd {ops : Array Oper} {rest : List Oper} {o : Oper} {act : Act} {Q : Exit → Act → World → Prop} (w : World) (hgd : o.guard = none) (s x : Operand)
    (ho : o.op = .call { callee := .builtin .append, args := #[s, x], argTypes := #[24, 24] }) (base : Nat) (v : Value) (d : List Int) (hown : OwnB base w v d) (hs : act.eval s = v)
    (u : Value) (l : List Int) (hu : InB w u l) (hx : act.eval x = u) (h48 : d.length + l.length ≤ 140737488355328) (hbase : base ≤ w.heap.size)
    (h : ∀ v' w', OwnB base w' v' (d ++ l) → w.grownBy w' v.ownBlock → wpList Try.prog ops Q rest (act.put o.dst v') w') : wpList Try.prog ops Q (o :: rest) act w := by
  refine wpList_plain hgd fun K hK => ?_
  obtain ⟨v', w', hrun, h2, h3⟩ := app_rd w base o.type v d hown u l hu h48 hbase
  unfold Oper.wp execOp
  simp only [ho, resolve, invoke, builtin, Sem.run_bind, Sem.run_pure, Result.andThen_ok, List.map_toArray, List.map_cons, List.map_nil, hs, hx, hrun]
  exact hK _ _ (h v' w' h2 h3)

theorem OwnB.nil (base : Nat) (w : World) : OwnB base w (.slice none 0 0) [] := World.ownsRow_nil _ _ _ _

theorem found_any (p : Pk) (h : Good p) (G : Lg) (hG : okG G) (d s y : Value) (w : World) :
    Calls Try.prog 6 #[p.val d s y, G.v] w fun e w' => e = .returned (.bool (decide (wholeV (G.at p.space) (p.number % st p.width) p.width = p.number))) ∧ w.grownBy w' none := by
  obtain ⟨sp, dst, src, num, wd, pay⟩ := p
  have hw := h.w; have hn := h.n; have hsp := h.sp
  simp only at hw hn hsp
  have hc := fun W => cut_good num wd W hn.1 hn.2 hw
  have hst := st_pos wd
  have q0 : 0 ≤ num % st wd ∧ num % st wd < st wd := ⟨Int.emod_nonneg _ (by omega), Int.emod_lt_of_pos _ hst.1⟩
  have hok := okG_at hG sp
  have hwh := fun W => whole_good (G.at sp) (num % st wd) wd W hok.1 hok.2 hw q0 _ rfl
  obtain ⟨bP, bG, gA⟩ := Blk.two w (pcs sp d s num wd y) #[.int .i64 G.1, .int .i64 G.2.1, .int .i64 G.2.2] 30 23
  have x0 := bP.cell 0 (.int .i64 sp) rfl
  have x3 := bP.cell 3 (.int .i64 num) rfl
  have x4 := bP.cell 4 (.int .i64 wd) rfl
  have y0 := bG.cell 0 (.int .i64 G.1) rfl
  have y1 := bG.cell 1 (.int .i64 G.2.1) rfl
  have y2 := bG.cell 2 (.int .i64 G.2.2) rfl
  simp only
  clear h hG hok hn
  generalize wholeV (G.at sp) (num % st wd) wd = V at *
  generalize num % st wd = low at *
  rcases hsp with rfl | rfl | rfl
  · have eG : G.at 0 = G.1 := by unfold Lg.at; rw [if_pos rfl]
    rw [eG] at hwh
    by_cases hv : V = num
    · have tv : (V == num) = true := by simpa using hv
      have F := hide (decide_eq_true hv)
      clear hv
      go_enter Try.func6, Try.ntmps6
      go_wp2_with fail
      refine (hc _).mono ?_
      rintro e W1 ⟨rfl, hw1⟩
      subst hw1
      go_wp2_with fail
      go_region_held3 (fun W => W.cell? ⟨w.heap.size, 0, none⟩ = some (.int .i64 0) ∧ W.cell? ⟨w.heap.size, 4, none⟩ = some (.int .i64 wd) ∧ W.cell? ⟨w.heap.size + 1, 0, none⟩ = some (.int .i64 G.1)) (go_keep) (first | (go_at_call 15; refine (hwh _).mono ?_; rintro e W2 ⟨rfl, bel⟩; have g2 := (grown_drewN (World.grownBy.refl _ none)).trans (below_grown bel); have z0 := cell_grown x0 g2; have z3 := cell_grown x3 g2; have z4 := cell_grown x4 g2; have zG := cell_grown y0 g2))
      go_wp2_with fail
      go_ret
      exact ⟨by rw [unhide F]; rfl, gA.trans g2⟩
    · have tv : (V == num) = false := by simpa using hv
      have F := hide (decide_eq_false hv)
      clear hv
      go_enter Try.func6, Try.ntmps6
      go_wp2_with fail
      refine (hc _).mono ?_
      rintro e W1 ⟨rfl, hw1⟩
      subst hw1
      go_wp2_with fail
      go_region_held3 (fun W => W.cell? ⟨w.heap.size, 0, none⟩ = some (.int .i64 0) ∧ W.cell? ⟨w.heap.size, 4, none⟩ = some (.int .i64 wd) ∧ W.cell? ⟨w.heap.size + 1, 0, none⟩ = some (.int .i64 G.1)) (go_keep) (first | (go_at_call 15; refine (hwh _).mono ?_; rintro e W2 ⟨rfl, bel⟩; have g2 := (grown_drewN (World.grownBy.refl _ none)).trans (below_grown bel); have z0 := cell_grown x0 g2; have z3 := cell_grown x3 g2; have z4 := cell_grown x4 g2; have zG := cell_grown y0 g2))
      go_wp2_with fail
      go_ret
      exact ⟨by rw [unhide F]; rfl, gA.trans g2⟩
  · have eG : G.at 1 = G.2.1 := by unfold Lg.at; rw [if_neg (by decide), if_pos rfl]
    rw [eG] at hwh
    by_cases hv : V = num
    · have tv : (V == num) = true := by simpa using hv
      have F := hide (decide_eq_true hv)
      clear hv
      go_enter Try.func6, Try.ntmps6
      go_wp2_with fail
      refine (hc _).mono ?_
      rintro e W1 ⟨rfl, hw1⟩
      subst hw1
      go_wp2_with fail
      go_region_held3 (fun W => W.cell? ⟨w.heap.size, 0, none⟩ = some (.int .i64 1) ∧ W.cell? ⟨w.heap.size, 4, none⟩ = some (.int .i64 wd) ∧ W.cell? ⟨w.heap.size + 1, 1, none⟩ = some (.int .i64 G.2.1)) (go_keep) (first | (go_at_call 15; refine (hwh _).mono ?_; rintro e W2 ⟨rfl, bel⟩; have g2 := (grown_drewN (World.grownBy.refl _ none)).trans (below_grown bel); have z0 := cell_grown x0 g2; have z3 := cell_grown x3 g2; have z4 := cell_grown x4 g2; have zG := cell_grown y1 g2))
      go_wp2_with fail
      go_ret
      exact ⟨by rw [unhide F]; rfl, gA.trans g2⟩
    · have tv : (V == num) = false := by simpa using hv
      have F := hide (decide_eq_false hv)
      clear hv
      go_enter Try.func6, Try.ntmps6
      go_wp2_with fail
      refine (hc _).mono ?_
      rintro e W1 ⟨rfl, hw1⟩
      subst hw1
      go_wp2_with fail
      go_region_held3 (fun W => W.cell? ⟨w.heap.size, 0, none⟩ = some (.int .i64 1) ∧ W.cell? ⟨w.heap.size, 4, none⟩ = some (.int .i64 wd) ∧ W.cell? ⟨w.heap.size + 1, 1, none⟩ = some (.int .i64 G.2.1)) (go_keep) (first | (go_at_call 15; refine (hwh _).mono ?_; rintro e W2 ⟨rfl, bel⟩; have g2 := (grown_drewN (World.grownBy.refl _ none)).trans (below_grown bel); have z0 := cell_grown x0 g2; have z3 := cell_grown x3 g2; have z4 := cell_grown x4 g2; have zG := cell_grown y1 g2))
      go_wp2_with fail
      go_ret
      exact ⟨by rw [unhide F]; rfl, gA.trans g2⟩
  · have eG : G.at 2 = G.2.2 := by unfold Lg.at; rw [if_neg (by decide), if_neg (by decide)]
    rw [eG] at hwh
    by_cases hv : V = num
    · have tv : (V == num) = true := by simpa using hv
      have F := hide (decide_eq_true hv)
      clear hv
      go_enter Try.func6, Try.ntmps6
      go_wp2_with fail
      refine (hc _).mono ?_
      rintro e W1 ⟨rfl, hw1⟩
      subst hw1
      go_wp2_with fail
      go_region_held3 (fun W => W.cell? ⟨w.heap.size, 0, none⟩ = some (.int .i64 2) ∧ W.cell? ⟨w.heap.size, 4, none⟩ = some (.int .i64 wd) ∧ W.cell? ⟨w.heap.size + 1, 2, none⟩ = some (.int .i64 G.2.2)) (go_keep) (first | (go_at_call 15; refine (hwh _).mono ?_; rintro e W2 ⟨rfl, bel⟩; have g2 := (grown_drewN (World.grownBy.refl _ none)).trans (below_grown bel); have z0 := cell_grown x0 g2; have z3 := cell_grown x3 g2; have z4 := cell_grown x4 g2; have zG := cell_grown y2 g2))
      go_wp2_with fail
      go_ret
      exact ⟨by rw [unhide F]; rfl, gA.trans g2⟩
    · have tv : (V == num) = false := by simpa using hv
      have F := hide (decide_eq_false hv)
      clear hv
      go_enter Try.func6, Try.ntmps6
      go_wp2_with fail
      refine (hc _).mono ?_
      rintro e W1 ⟨rfl, hw1⟩
      subst hw1
      go_wp2_with fail
      go_region_held3 (fun W => W.cell? ⟨w.heap.size, 0, none⟩ = some (.int .i64 2) ∧ W.cell? ⟨w.heap.size, 4, none⟩ = some (.int .i64 wd) ∧ W.cell? ⟨w.heap.size + 1, 2, none⟩ = some (.int .i64 G.2.2)) (go_keep) (first | (go_at_call 15; refine (hwh _).mono ?_; rintro e W2 ⟨rfl, bel⟩; have g2 := (grown_drewN (World.grownBy.refl _ none)).trans (below_grown bel); have z0 := cell_grown x0 g2; have z3 := cell_grown x3 g2; have z4 := cell_grown x4 g2; have zG := cell_grown y2 g2))
      go_wp2_with fail
      go_ret
      exact ⟨by rw [unhide F]; rfl, gA.trans g2⟩

end Go.Proofs.Ytnglgedcpmbbjaa
