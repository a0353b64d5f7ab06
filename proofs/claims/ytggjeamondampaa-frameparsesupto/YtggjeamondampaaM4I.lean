/- G4L, G4P, one text. -/
import Derived.Test.YtggjeamondampaaM4B
import Derived.Deep.DeepCutAuto
import Derived.WalkMore
import Derived.Test.YtggjeamondampaaM4G
namespace Go.Proofs.Ytggjeamondampaa.Rl
open Go.RowKit Go.Proofs.Ytggjeamondampaa
set_option maxRecDepth 100000
set_option linter.unusedVariables false
set_option maxHeartbeats 2000000

theorem Try.infoL : (Try.prog.info? 23).map (fun i => (i.zero, i.size, i.bytes)) = some (some (.slice none 0 0), 1, 24) := by kernel_rfl
theorem wpList_append_runQ {P : Program} (w : World) {ops : Array Oper} {rest : List Oper} {o : Oper} {a : Act} {Q : Exit → Act → World → Prop} (hgd : o.guard = none) (d s : Operand) (t t' : TypeId)
    (ho : o.op = .call { callee := .builtin .append, args := #[d, s], argTypes := #[t, t'] }) (v u : Value) (hv : a.eval d = v) (hu : a.eval s = u) {v' : Value} {w' : World}
    (hr : (Builtin.append_ #[t, t'] o.type #[v, u]).run P w = .ok v' w') (h : wpList P ops Q rest (a.put o.dst v') w') : wpList P ops Q (o :: rest) a w := by
  refine wpList_plain hgd fun K hK => ?_
  unfold Oper.wp execOp
  simp only [ho, resolve, invoke, builtin, Sem.run_bind, Sem.run_pure, Result.andThen_ok, List.map_toArray, List.map_cons, List.map_nil, hv, hu, hr]
  exact hK _ _ h
theorem grown_below {w W : World} (h : w.grownBy W none) : Below w.heap.size w W := ⟨h.os, h.tape, h.output, h.size, fun i hi => h.block i hi (by simp)⟩
theorem grown_drewN {w W : World} (g : w.grownBy W none) (q : Nat) : w.grownBy (W.drewN q) none := ⟨g.os, g.tape, g.output, g.size, g.block⟩
theorem Kp.on {w0 w W : World} (h : Kp w0 w) (g : w.grownBy W none) : Kp w0 W := fun k c t fr h1 h2 h3 => by
  have e := h k c t fr h1 h2 h3
  rw [g.block k (lt_of_block (by rw [e]; exact h1)) (by simp)]
  exact e

theorem app2 {w : World} {B n : Nat} {y : Value} {xs : List Value} (hx : w.ownsRow B 81 2 y n xs) (i : Nat) (few : n ≤ 1000000000) (hB : B ≤ w.heap.size) :
    ∃ y' W1, (Builtin.append_ #[23, 23] 23 #[y, .slice (some ⟨w.heap.size, 0, none⟩) 1 1]).run Try.prog (w.alloc (.cells #[.int .i64 (-5000), .int .i64 (i : Int)] 81)) = .ok y' W1
      ∧ W1.ownsRow B 81 2 y' (n + 1) (xs ++ zc i) ∧ Moved (w.alloc (.cells #[.int .i64 (-5000), .int .i64 (i : Int)] 81)) W1 y y' := by
  obtain ⟨inf, hi0, hz0, hz1, hz2⟩ := info_parts Try.info57
  have hsz := World.size_alloc w (.cells #[.int .i64 (-5000), .int .i64 (i : Int)] 81)
  have hnews : ∀ (j : Nat) u, (zc i)[j]? = some u → (w.alloc (.cells #[.int .i64 (-5000), .int .i64 (i : Int)] 81)).cell? ((⟨w.heap.size, 0, none⟩ : Addr).add j) = some u := fun j u hu => by
    rw [show (⟨w.heap.size, 0, none⟩ : Addr).add j = ⟨w.heap.size, j, none⟩ by simp [Addr.add]; exact fun e => e.symm]
    simp only [World.cell?, heap_alloc_new]
    rw [← hu]
    simp [zc]
  obtain ⟨y', W1, hr, ho, hm, -⟩ := app_keepN (P := Try.prog) (w.alloc (.cells #[.int .i64 (-5000), .int .i64 (i : Int)] 81)) B 23 23 81 inf (.agg #[.int .i64 0, .int .i64 0]) 2 16 Try.underlying23 hi0 hz0 hz1 (by decide) hz2 rfl y n xs (hx.alloc _) ⟨w.heap.size, 0, none⟩ 1 1 (zc i) rfl hnews
    (fun u hu => by simp only [zc, List.mem_cons, List.not_mem_nil, or_false] at hu; rcases hu with rfl | rfl <;> rfl) (by decide) (by unfold maxLen; omega) (by omega) (by omega)
  exact ⟨y', W1, hr, ho, hm⟩

theorem appL {w : World} {B n : Nat} {y : Value} {xs : List Value} (hx : w.ownsRow B 23 1 y n xs) (v : Value) (h1 : v.oneCell' = true) (few : n ≤ 1000000000) (hB : B ≤ w.heap.size) :
    ∃ y' W1, (Builtin.append_ #[107, 107] 107 #[y, .slice (some ⟨w.heap.size, 0, none⟩) 1 1]).run Try.prog (w.alloc (.cells #[v] 23)) = .ok y' W1
      ∧ W1.ownsRow B 23 1 y' (n + 1) (xs ++ [v]) ∧ Moved (w.alloc (.cells #[v] 23)) W1 y y' := by
  obtain ⟨inf, hi0, hz0, hz1, hz2⟩ := info_parts Try.infoL
  have hsz := World.size_alloc w (.cells #[v] 23)
  have hnews : ∀ (i : Nat) u, ([v] : List Value)[i]? = some u → (w.alloc (.cells #[v] 23)).cell? ((⟨w.heap.size, 0, none⟩ : Addr).add i) = some u := fun i u hu => by
    rw [show (⟨w.heap.size, 0, none⟩ : Addr).add i = ⟨w.heap.size, i, none⟩ by simp [Addr.add]; exact fun e => e.symm]
    simp only [World.cell?, heap_alloc_new]
    rw [← hu]
    simp
  obtain ⟨y', W1, hr, ho, hm, -⟩ := app_keepN (P := Try.prog) (w.alloc (.cells #[v] 23)) B 107 107 23 inf (.slice none 0 0) 1 24 Try.underlying107 hi0 hz0 hz1 (by decide) hz2 rfl y n xs (hx.alloc _) ⟨w.heap.size, 0, none⟩ 1 1 [v] rfl hnews
    (fun u hu => by simp at hu; subst hu; exact h1) (by decide) (by unfold maxLen; omega) (by omega) (by omega)
  exact ⟨y', W1, hr, ho, hm⟩

theorem apartRuns_any (H : Held) (w0 wr : World) (B b c : Nat) (hf : H.Fit) (ha : A1 H w0 B b wr 0 0) :
    Calls Try.prog 59 #[.slice (some ⟨b, 0, none⟩) H.m c] wr fun e w' => e = .returned (.bool true) ∧ Below B w0 w' ∧ Kp w0 w' := by
  have few := hf.few
  have HF := hide hf; have HA := hide ha
  clear hf ha
  go_enter Try.func59, Try.ntmps59
  go_wp2
  go_loopw [3] (fun i w => ∃ j : Nat, j ≤ H.m ∧ i = .int .i64 j ∧ A1 H w0 B b w j 0) (fun i _ => H.m - (intOf i).toNat)
  case atStart => exact ⟨0, Nat.zero_le _, rfl, unhide HA⟩
  case round =>
    clear HA
    obtain ⟨i, hi, rfl, h1⟩ := hrel
    by_cases hlt : i < H.m
    · have small := (unhide HF).small i hlt
      have A0 := hide h1
      clear h1
      go_wp2
      go_loopw [4] (fun q w => ∃ k : Nat, k ≤ H.ns i ∧ q = .int .i64 k ∧ A1 H w0 B b w i k) (fun q _ => H.ns i - (intOf q).toNat)
      case atStart => exact ⟨0, Nat.zero_le _, rfl, unhide A0⟩
      case round =>
        clear A0
        obtain ⟨k, hk, rfl, h1⟩ := hrel
        have cb := cellB h1.blk (unhide HF) i hlt
        by_cases hlk : k < H.ns i
        · obtain ⟨g, e1, e2, e3, ⟨y0, y1, c0, c1⟩, fz, h2⟩ := h1.step (unhide HF) hlt hlk
          unfold maxLen at e3
          have w1 : IntKind.i64.wrap (1000 * (i : Int)) = 1000 * (i : Int) := by rw [IntKind.wrap_i64]; omega
          have w2 : IntKind.i64.wrap (1000 * (i : Int) + (k : Int)) = 1000 * (i : Int) + (k : Int) := by rw [IntKind.wrap_i64]; omega
          have A2 := hide h2
          have w4 : IntKind.i64.wrap (-(i : Int)) = -(i : Int) := by rw [IntKind.wrap_i64]; omega
          clear h1 h2
          go_wp2
          go_roundw
          case rel => exact ⟨k + 1, by omega, by go_num, unhide A2⟩
          case measure => simp [intOf]; omega
        · have ek : k = H.ns i := by omega
          subst ek
          have A2 := hide h1.next
          clear h1
          go_wp2
          go_roundw
          case rel => exact ⟨i + 1, by omega, by go_num, unhide A2⟩
          case measure => simp [intOf]; omega
    · have ei : i = H.m := by omega
      subst ei
      have A0 := hide h1.turn
      clear h1 hlt
      go_wp2
      go_loopw [5, 6] (fun lv i w => ∃ (j : Nat) (ys : List Value), j ≤ H.m ∧ i = .int .i64 j ∧ A2 H w0 B b w j lv ys) (fun _ i _ => H.m - (intOf i).toNat)
      case atStart => exact ⟨0, [], Nat.zero_le _, rfl, unhide A0⟩
      case round =>
        clear A0
        obtain ⟨i, ys, hi, rfl, h1⟩ := hrel
        by_cases hlt : i < H.m
        · have small := (unhide HF).small i hlt
          have cb := cellB h1.blk (unhide HF) i hlt
          have A0 := hide (h1.enter (unhide HF) hlt)
          unfold Held.v at A0
          clear h1
          go_wp2
          go_loopw [7, 8] (fun y q w => ∃ k : Nat, k ≤ 40 ∧ q = .int .i64 k ∧ A2y H w0 B b w i k y u5 ys) (fun _ q _ => 40 - (intOf q).toNat)
          case atStart => exact ⟨0, by omega, rfl, unhide A0⟩
          case round =>
            clear A0 cb
            obtain ⟨k, hk, rfl, h1⟩ := hrel
            have hB : B ≤ wr.heap.size := by have := lt_of_block h1.blk; have := h1.low; omega
            have hb1 : b + 1 ≤ wr.heap.size := lt_of_block h1.blk
            by_cases hlk : k < 40
            · obtain ⟨xs, hx, -⟩ := h1.cur
              obtain ⟨y', W1, hrun, ho, hmv⟩ := app2 hx i (by omega) hB
              have HN := hide (h1.app hlt _ hx hmv ho)
              have HRUN := hide hrun
              clear hx h1 ho hmv hrun
              go_wp2_with (at_builtin; refine wpList_append_runQ _ rfl _ _ 23 23 rfl _ _ rfl rfl (unhide HRUN) ?_)
              go_roundw
              case rel => exact ⟨k + 1, by omega, by go_num, unhide HN⟩
              case measure => simp [intOf]; omega
            · have ek : k = 40 := by omega
              subst ek
              obtain ⟨xs, hx, -⟩ := h1.cur
              obtain ⟨g, cap, rfl, -⟩ := ownsRow_open hx (by omega)
              obtain ⟨lv', W1, hrun, ho, hmv⟩ := appL h1.row (.slice (some ⟨g, 0, none⟩) (H.ns i + 40) cap) rfl (by omega) hb1
              have HN := hide (h1.leave hlt _ hmv ho)
              have HRUN := hide hrun
              clear hx h1 ho hmv hrun
              go_wp2_with (at_builtin; refine wpList_append_runQ _ rfl _ _ 107 107 rfl _ _ rfl rfl (unhide HRUN) ?_)
              go_roundw
              case rel => exact ⟨i + 1, _, by omega, by go_num, unhide HN⟩
              case measure => simp [intOf]; omega
        · have ei : i = H.m := by omega
          subst ei
          have A0 := hide h1
          clear h1 hlt hi
          obtain ⟨W0, eW⟩ : ∃ W0, W0 = wr := ⟨_, rfl⟩
          rw [← eW] at A0
          have HG : Hid (W0.grownBy wr none) := by rw [eW]; exact World.grownBy.refl _ _
          clear eW
          go_wp2
          go_loopw [9] (fun i w => ∃ j : Nat, j ≤ H.m ∧ i = .int .i64 j ∧ Hid (W0.grownBy w none)) (fun i _ => H.m - (intOf i).toNat)
          case atStart => exact ⟨0, Nat.zero_le _, rfl, unhide HG⟩
          case round =>
            clear HG
            obtain ⟨i, hi, rfl, HG⟩ := hrel
            by_cases hlt : i < H.m
            · have small := (unhide HF).small i hlt
              have CB : Hid (∀ W, W0.grownBy W none → W.cell? ⟨b, i, none⟩ = some (.slice (H.ad i) (H.ns i) (H.cp i))) := fun W g => cell_grown (cellB (unhide A0).blk (unhide HF) i hlt) g
              have hlen := (unhide A0).len
              obtain ⟨gl, cl, el, -, -, ncl, mcl⟩ := ownsRow_open (unhide A0).row (by omega)
              subst el
              have hu := (unhide A0).row.cellAt i (by omega)
              rw [List.getElem?_eq_getElem (by omega)] at hu
              have lg := (unhide A0).old i _ (List.getElem?_eq_getElem (by omega))
              generalize ys[i] = u at hu lg
              obtain ⟨gu, cu, rfl, ncu, mcu, cu1, cu2⟩ := lg.cells
              have HU : Hid (∀ W, W0.grownBy W none → W.cell? ⟨gl, i, none⟩ = some (.slice (some ⟨gu, 0, none⟩) (H.ns i + 40) cu)) := fun W g => cell_grown hu g
              have RD := hide ((unhide A0).rd i hlt); have CU1 := hide cu1; have CU2 := hide cu2
              unfold maxLen at mcl mcu
              have w1 : IntKind.i64.wrap (1000 * (i : Int)) = 1000 * (i : Int) := by rw [IntKind.wrap_i64]; omega
              have w4 : IntKind.i64.wrap (-(i : Int)) = -(i : Int) := by rw [IntKind.wrap_i64]; omega
              clear lg cu1 cu2 hlen hu
              go_wp2
              go_loopw [10] (fun q w => ∃ k : Nat, k ≤ H.ns i + 40 ∧ q = .int .i64 k ∧ Hid (W0.grownBy w none)) (fun q _ => H.ns i + 40 - (intOf q).toNat)
              case atStart => exact ⟨0, Nat.zero_le _, rfl, unhide HG⟩
              case round =>
                clear HG
                obtain ⟨k, hk, rfl, HG⟩ := hrel
                have hu := unhide HU wr (unhide HG)
                by_cases hl2 : k < H.ns i + 40
                · have w2 : IntKind.i64.wrap (1000 * (i : Int) + (k : Int)) = 1000 * (i : Int) + (k : Int) := by rw [IntKind.wrap_i64]; omega
                  go_upto_region 25 with (refine wpList_store_new wr #[.int .i64 0, .int .i64 0] #[.int .i64 (-5000), .int .i64 (i : Int)] wr.heap.size rfl _ _ _ rfl rfl rfl rfl rfl rfl rfl ?_)
                  have NB := Blk.new wr #[.int .i64 (-5000), .int .i64 (i : Int)] 81
                  have gA := World.grownBy_alloc wr (.cells #[.int .i64 (-5000), .int .i64 (i : Int)] 81) none
                  have GA := hide ((unhide HG).trans gA)
                  have hnb := (unhide HG).size
                  clear hu gA HG
                  generalize wr.alloc (.cells #[.int .i64 (-5000), .int .i64 (i : Int)] 81) = W1 at *
                  generalize wr.heap.size = nb at *
                  have hu := unhide HU W1 (unhide GA)
                  have cb := unhide CB W1 (unhide GA)
                  by_cases hlk : k < H.ns i
                  · obtain ⟨g, eg, cg⟩ := (unhide RD) k hlk
                    have cu := (unhide CU1) k hlk
                    rw [eg] at cb
                    have kI : (k : Int) < (H.ns i : Int) := by omega
                    have kJ : (k : Int) < ((H.ns i + 40 : Nat) : Int) := by omega
                    have n0 := NB.cell 0 (.int .i64 (-5000)) rfl
                    have n1 := NB.cell 1 (.int .i64 (i : Int)) rfl
                    have tw := NB.thaws
                    go_wp2_with fail
                    have NB2 := (NB.setC 0 (.int .i64 (1000 * (i : Int) + (k : Int)))).setC 1 (.int .i64 (-(i : Int)))
                    have GB := hide (grown_set (grown_set (unhide GA) nb 0 (.int .i64 (1000 * (i : Int) + (k : Int))) hnb) nb 1 (.int .i64 (-(i : Int))) hnb)
                    clear NB n0 n1 tw
                    generalize (W1.setCell ⟨nb, 0, none⟩ (.int .i64 (1000 * (i : Int) + (k : Int)))).setCell ⟨nb, 1, none⟩ (.int .i64 (-(i : Int))) = W2 at *
                    have hu2 := unhide HU W2 (unhide GB)
                    have cb2 := unhide CB W2 (unhide GB)
                    rw [eg] at cb2
                    have x0 := cell_grown cg.1 (unhide GB)
                    have x1 := cell_grown cg.2 (unhide GB)
                    have y0 := cell_grown cu.1 (unhide GB)
                    have y1 := cell_grown cu.2 (unhide GB)
                    have z0 := NB2.cell 0 (.int .i64 (1000 * (i : Int) + (k : Int))) rfl
                    have z1 := NB2.cell 1 (.int .i64 (-(i : Int))) rfl
                    have rr : ((1000 * (i : Int) + (k : Int)) != (1000 * (i : Int) + (k : Int))) = false := by simp
                    have rs : ((-(i : Int)) != (-(i : Int))) = false := by simp
                    clear hu cb cg cu NB2 eg
                    go_wp2
                    go_quiet (fail)
                    all_goals go_wp2
                    go_quiet (fail)
                    all_goals go_wp2
                    go_roundw
                    case rel => exact ⟨k + 1, by omega, by go_num, grown_drewN (unhide GB) _⟩
                    case measure => simp [intOf]; omega
                  · have cu := (unhide CU2) k (by omega) hl2
                    have kI : ¬ (k : Int) < (H.ns i : Int) := by omega
                    have kJ : (k : Int) < ((H.ns i + 40 : Nat) : Int) := by omega
                    have y0 := cell_grown cu.1 (unhide GA)
                    have y1 := cell_grown cu.2 (unhide GA)
                    have z0 := NB.cell 0 (.int .i64 (-5000)) rfl
                    have z1 := NB.cell 1 (.int .i64 (i : Int)) rfl
                    have rs : ((i : Int) != (i : Int)) = false := by simp
                    clear cu NB
                    go_wp2
                    go_quiet (fail)
                    all_goals go_wp2
                    go_roundw
                    case rel => exact ⟨k + 1, by omega, by go_num, grown_drewN (unhide GA) _⟩
                    case measure => simp [intOf]; omega
                · go_wp2
                  go_roundw
                  case rel => exact ⟨i + 1, by omega, by go_num, unhide HG⟩
                  case measure => simp [intOf]; omega
            · go_wp2
              go_ret
              exact ⟨rfl, (unhide A0).bel.trans ((grown_below (unhide HG)).mono (by have := lt_of_block (unhide A0).blk; have := (unhide A0).low; omega)), (unhide A0).keep.on (unhide HG)⟩
end Go.Proofs.Ytggjeamondampaa.Rl

namespace Go.Proofs.Ytggjeamondampaa.Rl
open Go.RowKit Go.Proofs.Ytggjeamondampaa
set_option maxRecDepth 100000
set_option linter.unusedVariables false
theorem shape2 {w : World} {base size : Nat} {e : TypeId} {v : Value} {n : Nat} {xs : List Value} (h : w.ownsRow base e size v n xs) : v = .slice (vad v) (vns v) (vcp v) ∧ vns v = n := by
  rcases h.2 with ⟨rfl, rfl⟩ | ⟨g, cap, cur, rfl, _⟩ <;> exact ⟨rfl, rfl⟩
def heldIn (vs : List Value) (cur : Array Value) : Held := ⟨vs.length, fun j => vad (vs.getD j (.slice none 0 0)), fun j => vns (vs.getD j (.slice none 0 0)), fun j => vcp (vs.getD j (.slice none 0 0)), cur⟩
theorem runs_row (vs : List Value) (cur : Array Value) (w0 wr : World) (B b c : Nat) (hB : B ≤ b) (hb : wr.heap[b]? = some (.cells cur 23 (0, 0))) (hcur : cur.toList.take vs.length = vs) (hown : ∀ v ∈ vs, ∃ n xs, wr.ownsRow B 81 2 v n xs ∧ n ≤ 200000000)
    (hsep : vs.Pairwise Bg.sepV) (few : vs.length ≤ 500000000) (bel : Below B w0 wr) (kp : Kp w0 wr) :
    Calls Try.prog 59 #[.slice (some ⟨b, 0, none⟩) vs.length c] wr fun e w' => e = .returned (.bool true) ∧ Below B w0 w' ∧ Kp w0 w' := by
  have get : ∀ j, j < vs.length → vs[j]? = some (vs.getD j (.slice none 0 0)) := fun j hj => by simp [List.getD, hj]
  have mem : ∀ j, j < vs.length → vs.getD j (.slice none 0 0) ∈ vs := fun j hj => List.mem_of_getElem? (get j hj)
  have hv : ∀ j, j < vs.length → (heldIn vs cur).v j = vs.getD j (.slice none 0 0) := fun j hj => by
    obtain ⟨n, xs, ho, _⟩ := hown _ (mem j hj)
    exact (shape2 ho).1.symm
  have fit : (heldIn vs cur).Fit := by
    refine ⟨fun j hj => ?_, fun i j hi hj hne => ?_, fun j hj => ?_, few⟩
    · rw [hv j hj]
      show cur[j]? = _
      have hj' : j < vs.length := hj
      have e : (cur.toList.take vs.length)[j]? = vs[j]? := by rw [hcur]
      rw [List.getElem?_take, if_pos hj', Array.getElem?_toList] at e
      rw [e]; exact get j hj'
    · rw [hv i hi, hv j hj]
      rw [List.pairwise_iff_getElem] at hsep
      have hi' : i < vs.length := hi
      have hj' : j < vs.length := hj
      have e1 : vs.getD i (.slice none 0 0) = vs[i] := by simp [List.getD, hi']
      have e2 : vs.getD j (.slice none 0 0) = vs[j] := by simp [List.getD, hj']
      rw [e1, e2]
      rcases Nat.lt_or_gt_of_ne hne with h | h
      · exact hsep i j hi' hj' h
      · rcases hsep j i hj' hi' h with h1 | h1
        · rw [h1]; cases vs[i].ownBlock <;> simp
        · exact .inr (Ne.symm h1)
    · obtain ⟨n, xs, ho, hn⟩ := hown _ (mem j hj)
      show vns _ ≤ _
      rw [(shape2 ho).2]; exact hn
  exact apartRuns_any (heldIn vs cur) w0 wr B b c fit ⟨hb, fun j hj => by
    obtain ⟨n, xs, ho, _⟩ := hown _ (mem j hj)
    refine ⟨xs, ?_, fun q _ h => by omega⟩
    rw [hv j hj]
    show wr.ownsRow B 81 2 _ (vns _) xs
    rw [(shape2 ho).2]; exact ho, bel, hB, kp⟩

/-- One list of bytes more. -/
theorem appB {w : World} {B n : Nat} {y : Value} {xs : List Value} (hx : w.ownsRow B 22 1 y n xs) (v : Value) (h1 : v.oneCell' = true) (few : n ≤ 1000000000) (hB : B ≤ w.heap.size) :
    ∃ y' W1, (Builtin.append_ #[44, 44] 44 #[y, .slice (some ⟨w.heap.size, 0, none⟩) 1 1]).run Try.prog (w.alloc (.cells #[v] 22)) = .ok y' W1
      ∧ W1.ownsRow B 22 1 y' (n + 1) (xs ++ [v]) ∧ Moved (w.alloc (.cells #[v] 22)) W1 y y' := by
  obtain ⟨inf, hi0, hz0, hz1, hz2⟩ := info_parts Try.infoS
  have hsz := World.size_alloc w (.cells #[v] 22)
  have hnews : ∀ (i : Nat) u, ([v] : List Value)[i]? = some u → (w.alloc (.cells #[v] 22)).cell? ((⟨w.heap.size, 0, none⟩ : Addr).add i) = some u := fun i u hu => by
    rw [show (⟨w.heap.size, 0, none⟩ : Addr).add i = ⟨w.heap.size, i, none⟩ by simp [Addr.add]; exact fun e => e.symm]
    simp only [World.cell?, heap_alloc_new]
    rw [← hu]
    simp
  obtain ⟨y', W1, hr, ho, hm, -⟩ := app_keepN (P := Try.prog) (w.alloc (.cells #[v] 22)) B 44 44 22 inf (.slice none 0 0) 1 24 Try.underlying44 hi0 hz0 hz1 (by decide) hz2 rfl y n xs (hx.alloc _) ⟨w.heap.size, 0, none⟩ 1 1 [v] rfl hnews
    (fun u hu => by simp at hu; subst hu; exact h1) (by decide) (by unfold maxLen; omega) (by omega) (by omega)
  exact ⟨y', W1, hr, ho, hm⟩
end Go.Proofs.Ytggjeamondampaa.Rl

namespace Go.Proofs.Ytggjeamondampaa
open Go.RowKit
set_option maxRecDepth 100000
set_option linter.unusedVariables false
set_option maxHeartbeats 2000000

theorem row_shapeF {W : World} {base size n : Nat} {e : TypeId} {v : Value} {xs : List Value} (h : W.ownsRow base e size v n xs) : ∃ a c, v = .slice a n c ∧ n ≤ c ∧ c ≤ 9223372036854775807 := by
  rcases h.2 with ⟨rfl, e0⟩ | ⟨g, cap, cur, rfl, q1, q2, q3, q4, -⟩
  · exact ⟨none, 0, by rw [e0], by omega, by omega⟩
  · unfold maxLen at q4; exact ⟨_, _, rfl, q3, by omega⟩
theorem row_kpF {W W' : World} {base size n : Nat} {e : TypeId} {v : Value} {xs : List Value} (h : W.ownsRow base e size v n xs) (hk : ∀ (g : Nat) (cs : Array Value), W.heap[g]? = some (.cells cs e (0, 0)) → W'.heap[g]? = some (.cells cs e (0, 0))) : W'.ownsRow base e size v n xs := by
  refine ⟨h.1, ?_⟩
  rcases h.2 with h2 | ⟨g, cap, cur, e1, q1, q2, q3⟩
  · exact .inl h2
  · exact .inr ⟨g, cap, cur, e1, q1, hk g cur q2, q3⟩
theorem bel_ofF {w W : World} (h : w.grownBy W none) : Below w.heap.size w W := ⟨h.os, h.tape, h.output, h.size, fun i hi => h.block i hi (by simp)⟩
theorem Moved.grown_since {w0 W W' : World} {v v' : Value} (h : Moved W W' v v') (g : w0.grownBy W none) (hv : ∀ k, v.ownBlock = some k → w0.heap.size ≤ k) : w0.grownBy W' none := by
  rcases h with ⟨-, h⟩ | ⟨-, h, -⟩
  · exact ⟨h.os.trans g.os, h.tape.trans g.tape, h.output.trans g.output, Nat.le_trans g.size h.size, fun i hi _ => (h.block i (Nat.lt_of_lt_of_le hi g.size) (fun e => by have := hv i e.symm; omega)).trans (g.block i hi (by simp))⟩
  · exact g.trans h

/-- Blocks that hold neither bytes nor runs nor lists of these are as they were. -/
def KF (w0 w : World) : Prop := ∀ (g : Nat) (c : Array Value) (t : TypeId) (fr : Nat × Nat), w0.heap[g]? = some (.cells c t fr) → t ≠ 5 → t ≠ 22 → t ≠ 81 → t ≠ 23 → w.heap[g]? = w0.heap[g]?

/-- Frames whose lists are each its owner's. -/
structure ApF (B : Nat) (w : World) (L : List FV) : Prop where
  dat : ∀ x ∈ L, OwnB B w x.d x.f.data ∧ x.f.data.length ≤ 140737488355000
  run : ∀ x ∈ L, OwnR B w x.r x.f.runs ∧ x.f.runs.length ≤ 200000000
  sepd : (L.map FV.d).Pairwise Bg.sepV
  sepr : (L.map FV.r).Pairwise Bg.sepV

/-- What is held while the lists are laid side by side. -/
structure ApI (w wr : World) (L : List FV) (dv rv : Value) (k : Nat) : Prop where
  d : wr.ownsRow w.heap.size 22 1 dv k ((L.take k).map FV.d)
  r : wr.ownsRow w.heap.size 23 1 rv k ((L.take k).map FV.r)
  gr : w.grownBy wr none

theorem apartFr_any (B n cl : Nat) (a : Option Addr) (L : List FV) (w : World) (hn : L.length = n) (h0 : 0 < n) (few : n ≤ 100000000) (hB : B ≤ w.heap.size) (hR : Hid (RdF w a L)) (hA : Hid (ApF B w L)) (hc : n ≤ cl ∧ cl ≤ 9223372036854775807) :
    Calls Try.prog 27 #[.slice a n cl] w fun e w' => e = .returned (.bool true) ∧ Below B w w' ∧ KF w w' := by
  obtain ⟨gl, off, rfl, hcs⟩ := (unhide hR).cells (by intro e; rw [e] at hn; simp at hn; omega)
  have HCS := hide hcs
  have HNN := hide hn
  clear hcs hn hR
  go_enter Try.func27, Try.ntmps27
  go_wp2_with fail
  go_loopw [3, 4, 5] (fun dv rv i wr => ∃ (k : Nat) (da ra : Option Addr) (dc rc : Nat), k ≤ n ∧ i = .int .i64 k ∧ dv = .slice da k dc ∧ rv = .slice ra k rc ∧ Hid (ApI w wr L (.slice da k dc) (.slice ra k rc) k)) (fun _ _ i _ => n - (intOf i).toNat)
  case atStart => exact ⟨0, none, none, 0, 0, Nat.zero_le _, rfl, rfl, rfl, World.ownsRow_nil _ _ _ _, World.ownsRow_nil _ _ _ _, World.grownBy.refl w none⟩
  case round =>
    obtain ⟨k, da, ra, dc, rc, hk, rfl, rfl, rfl, H⟩ := hrel
    by_cases hlt : k < n
    · have kN : (k : Int) < (n : Int) := by omega
      have kL : k < L.length := by rw [unhide HNN]; exact hlt
      obtain ⟨x, hx⟩ : ∃ x, x = L.getD k fv0 := ⟨_, rfl⟩
      have xin : x ∈ L := by rw [hx]; simp [List.getD, kL]
      have tk : L.take (k + 1) = L.take k ++ [x] := by rw [hx, List.take_add_one, List.getElem?_eq_getElem kL]; simp [List.getD, kL]
      have c3 : w.cell? ⟨gl, off + k * 17 + 3, none⟩ = some x.d := (unhide HCS) k kL 3 x.d (by rw [hx]; rfl)
      have c12 : w.cell? ⟨gl, off + k * 17 + 12, none⟩ = some x.r := (unhide HCS) k kL 12 x.r (by rw [hx]; rfl)
      obtain ⟨xa, xc, exd, -, -⟩ := row_shapeF ((unhide hA).dat x xin).1
      obtain ⟨ya, yc, exr, -, -⟩ := row_shapeF ((unhide hA).run x xin).1
      obtain ⟨y1, W1, hr1, o1, m1⟩ := Rl.appB (unhide H).d x.d (by rw [exd]; rfl) (by omega) (unhide H).gr.size
      have gA1 := World.grownBy_alloc wr (.cells #[x.d] 22) none
      have g1 : w.grownBy W1 none := m1.grown_since ((unhide H).gr.trans gA1) (fun g hg => ((unhide H).d.lt g hg).1)
      have r1 : W1.ownsRow w.heap.size 23 1 (.slice ra k rc) k ((L.take k).map FV.r) := Rl.keptM m1 ((unhide H).r.alloc _) (Rl.rows_apart (unhide H).r (unhide H).d (by decide))
      obtain ⟨y2, W2, hr2, o2, m2⟩ := Rl.appL r1 x.r (by rw [exr]; rfl) (by omega) g1.size
      have gA2 := World.grownBy_alloc W1 (.cells #[x.r] 23) none
      have g2 : w.grownBy W2 none := m2.grown_since (g1.trans gA2) (fun g hg => (r1.lt g hg).1)
      have d2 : W2.ownsRow w.heap.size 22 1 y1 (k + 1) ((L.take k).map FV.d ++ [x.d]) := Rl.keptM m2 (o1.alloc _) (Rl.rows_apart o1 r1 (by decide))
      obtain ⟨da', dc', rfl, -, -⟩ := row_shapeF o1
      obtain ⟨ra', rc', rfl, -, -⟩ := row_shapeF o2
      have FIN : Hid (ApI w W2 L (.slice da' (k + 1) dc') (.slice ra' (k + 1) rc') (k + 1)) := ⟨by rw [tk, List.map_append]; exact d2, by rw [tk, List.map_append]; exact o2, g2⟩
      have z3 := cell_grown c3 (unhide H).gr
      have z12 := cell_grown c12 g1
      rw [exd] at z3 hr1
      rw [exr] at z12 hr2
      have HR1 := hide hr1
      have HR2 := hide hr2
      clear hr1 hr2 o1 o2 m1 m2 d2 r1 gA1 gA2 g1 g2 c3 c12 exd exr tk xin H hx
      generalize x.f.data.length = n1 at *
      generalize x.f.runs.length = n2 at *
      go_wp2_with (first | (at_builtin; refine Rl.wpList_append_runQ _ rfl _ _ 44 44 rfl _ _ rfl rfl (unhide HR1) ?_) | (at_builtin; refine Rl.wpList_append_runQ _ rfl _ _ 107 107 rfl _ _ rfl rfl (unhide HR2) ?_))
      go_roundw
      case rel => exact ⟨k + 1, da', ra', dc', rc', by omega, by go_num, rfl, rfl, unhide FIN⟩
      case measure => simp [intOf]; omega
    · obtain rfl : k = n := by omega
      have kN : ¬ (k : Int) < (k : Int) := by omega
      have eT : L.take k = L := List.take_of_length_le (Nat.le_of_eq (unhide HNN))
      obtain ⟨hd, hr, gr⟩ := unhide H
      rw [eT] at hd hr
      obtain ⟨bd, cd, curd, e1, q1, q2, q3, q4, q5, q6⟩ : ∃ g cap cur, Value.slice da k dc = .slice (some ⟨g, 0, none⟩) k cap ∧ w.heap.size ≤ g ∧ wr.heap[g]? = some (.cells cur 22 (0, 0)) ∧ k ≤ cap ∧ cap ≤ maxLen ∧ cur.size = cap * 1 ∧ cur.toList.take (k * 1) = L.map FV.d := by
        rcases hd.2 with ⟨_, e2⟩ | hh
        · omega
        · exact hh
      obtain ⟨br, cr, curr, e2, p1, p2, p3, p4, p5, p6⟩ : ∃ g cap cur, Value.slice ra k rc = .slice (some ⟨g, 0, none⟩) k cap ∧ w.heap.size ≤ g ∧ wr.heap[g]? = some (.cells cur 23 (0, 0)) ∧ k ≤ cap ∧ cap ≤ maxLen ∧ cur.size = cap * 1 ∧ cur.toList.take (k * 1) = L.map FV.r := by
        rcases hr.2 with ⟨_, e2⟩ | hh
        · omega
        · exact hh
      have hl1 : (L.map FV.d).length = k := by rw [List.length_map, unhide HNN]
      have hl2 : (L.map FV.r).length = k := by rw [List.length_map, unhide HNN]
      have ap := Bg.apart_row (L.map FV.d) curd wr wr B bd cd (Nat.le_trans hB q1) q2 (by rw [hl1]; rw [Nat.mul_one] at q6; exact q6) (fun v hv => by
        rw [List.mem_map] at hv
        obtain ⟨x, hx, rfl⟩ := hv
        exact ⟨_, _, World.ownsRow.kept ((unhide hA).dat x hx).1 gr (by cases x.d.ownBlock <;> simp), ((unhide hA).dat x hx).2⟩) (unhide hA).sepd (by rw [hl1]; exact few) (Below.refl _ _) (Bg.Kp.grown (World.grownBy.refl wr none))
      rw [hl1, ← e1] at ap
      have ar : Hid (∀ W, Below B wr W → Bg.Kp wr W → Calls Try.prog 59 #[.slice ra k rc] W fun e w' => e = .returned (.bool true) ∧ Below B W w' ∧ Rl.Kp W w') := fun W hb hkp => by
        have p2' : W.heap[br]? = some (.cells curr 23 (0, 0)) := (hkp br _ _ _ p2 (by decide) (by decide)).trans p2
        have := Rl.runs_row (L.map FV.r) curr W W B br cr (Nat.le_trans hB p1) p2' (by rw [hl2]; rw [Nat.mul_one] at p6; exact p6) (fun v hv => by
          rw [List.mem_map] at hv
          obtain ⟨x, hx, rfl⟩ := hv
          refine ⟨_, _, row_kpF (World.ownsRow.kept ((unhide hA).run x hx).1 gr (by cases x.r.ownBlock <;> simp)) (fun g cs hg => (hkp g cs _ _ hg (by decide) (by decide)).trans hg), ((unhide hA).run x hx).2⟩) (unhide hA).sepr (by rw [hl2]; omega) (Below.refl _ _) (Rl.Kp.grown (World.grownBy.refl W none))
        rw [hl2, ← e2] at this
        exact this
      have FIN : Hid (∀ W W', Below B wr W → Bg.Kp wr W → Below B W W' → Rl.Kp W W' → Below B w W' ∧ KF w W') := fun W W' h1 h2 h3 h4 =>
        ⟨(((bel_ofF gr).mono hB).trans h1).trans h3, fun g c t fr hg t1 t2 t3 t4 => by
          have x1 : wr.heap[g]? = some (.cells c t fr) := (gr.block g (lt_of_block hg) (by simp)).trans hg
          have x2 := (h2 g c t fr x1 t1 t2).trans x1
          rw [h4 g c t fr x2 t3 t4, x2, hg]⟩
      clear e1 e2 q1 q2 q3 q4 q5 q6 p1 p2 p3 p4 p5 p6 hl1 hl2 hd hr gr eT H
      go_wp2_with fail
      refine ap.mono ?_
      rintro e W2 ⟨rfl, b2, k2⟩
      clear ap
      have ar2 := unhide ar W2 b2 k2
      clear ar
      go_wp2_with fail
      refine ar2.mono ?_
      rintro e W3 ⟨rfl, b3, k3⟩
      clear ar2
      have F := unhide FIN W2 W3 b2 k2 b3 k3
      clear FIN
      go_wp2_with fail
      go_ret
      exact ⟨rfl, F⟩
end Go.Proofs.Ytggjeamondampaa
