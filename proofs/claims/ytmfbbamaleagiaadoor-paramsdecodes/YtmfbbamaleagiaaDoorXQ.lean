import Derived.Test.YtmfbbamaleagiaaDoorXP
namespace Go.Proofs.YtmfbbamaleagiaaDoor
open Go.RowKit
set_option linter.unusedVariables false
set_option maxRecDepth 100000

theorem Tryd.infoS : (Tryd.prog.info? 31).map (fun i => (i.zero, i.size, i.bytes)) = some (some (.slice none 0 0), 1, 24) := by kernel_rfl

/-- One list more. -/
theorem wpList_appS {ops : Array Oper} {rest : List Oper} {o : Oper} {a : Act} {Q : Exit → Act → World → Prop} (w : World) (hgd : o.guard = none) (s x : Operand)
    (ho : o.op = .call { callee := .builtin .append, args := #[s, x], argTypes := #[38, 38] }) (base : Nat) (v : Value) (n : Nat) (xs : List Value) (hown : w.ownsRow base 31 1 v n xs) (hs : a.eval s = v) (b : Value) (hb : b.oneCell' = true)
    (gs : Nat) (hx : a.eval x = .slice (some ⟨gs, 0, none⟩) 1 1) (hgs : w.heap.size = gs) (hn : n + 1 ≤ 1000000000) (hbase : base ≤ w.heap.size)
    (h : ∀ v' w', w'.ownsRow base 31 1 v' (n + 1) (xs ++ [b]) → Moved (w.alloc (.cells #[b] 31)) w' v v' → v' ≠ .slice none 0 0 → wpList Tryd.prog ops Q rest (a.put o.dst v') w') : wpList Tryd.prog ops Q (o :: rest) a (w.alloc (.cells #[b] 31)) := by
  subst hgs
  obtain ⟨i, hi, hz0, hz1, hz2⟩ := info_parts Tryd.infoS
  refine wpList_app _ hgd s x 38 ho base 31 i (.slice none 0 0) 24 Tryd.underlying38 hi hz0 hz1 hz2 rfl v n xs hs (hown.alloc _) ⟨w.heap.size, 0, none⟩ 1 1 [b] hx rfl ?_ ?_ (by decide) (by unfold maxLen; omega) (by omega) (by simp; omega) h
  · intro j u hj
    match j, hj with
    | 0, hj =>
      simp at hj; subst hj
      rw [show (⟨w.heap.size, 0, none⟩ : Addr).add 0 = ⟨w.heap.size, 0, none⟩ by simp [Addr.add]]
      unfold World.cell?
      simp only [heap_alloc_new]
      rfl
  · intro u hu
    simp at hu; subst hu; exact hb

theorem Long.cells {H : Held} {B : Nat} {w : World} {j : Nat} {u : Value} (h : Long H B w j 80 u) : ∃ g cap, u = .slice (some ⟨g, 0, none⟩) (H.ns j + 80) cap ∧ H.ns j + 80 ≤ cap ∧ cap ≤ maxLen ∧ (∀ q, q < H.ns j → w.cell? ⟨g, q, none⟩ = some (.int .u8 (mkA j q))) ∧ ∀ q, H.ns j ≤ q → q < H.ns j + 80 → w.cell? ⟨g, q, none⟩ = some (.int .u8 (cA j)) := by
  obtain ⟨xs, h1, h2, h3⟩ := h
  obtain ⟨g, cap, rfl, _, _, hc, hm⟩ := ownsRow_open h1 (by omega)
  exact ⟨g, cap, rfl, hc, hm, fun q hq => by rw [h1.cellAt q (by omega)]; exact h2 q hq, fun q hq hq2 => by rw [h1.cellAt q (by omega)]; exact h3 q hq hq2⟩

set_option maxHeartbeats 6400000 in
theorem apart_any (H : Held) (w0 wr : World) (B b c : Nat) (hf : H.Fit) (ha : A1 H w0 B b wr 0 0) :
    Calls Tryd.prog 18 #[.slice (some ⟨b, 0, none⟩) H.m c] wr fun e w' => e = .returned (.bool true) ∧ Below B w0 w' := by
  have few := hf.few
  have HF := hide hf; have HA := hide ha
  clear hf ha
  go_enter Tryd.func18, Tryd.ntmps18
  go_wp2
  go_loopw [3] (fun i w => ∃ j : Nat, j ≤ H.m ∧ i = .int .i64 j ∧ A1 H w0 B b w j 0) (fun i _ => H.m - (intOf i).toNat)
  case atStart => exact ⟨0, Nat.zero_le _, rfl, unhide HA⟩
  case round =>
    clear HA
    obtain ⟨i, hi, rfl, h1⟩ := hrel
    by_cases hlt : i < H.m
    · have small := (unhide HF).small i hlt
      have A0 := hide h1
      clear h1
      go_wp2
      go_loopw [4] (fun q w => ∃ k : Nat, k ≤ H.ns i ∧ q = .int .i64 k ∧ A1 H w0 B b w i k) (fun q _ => H.ns i - (intOf q).toNat)
      case atStart => exact ⟨0, Nat.zero_le _, rfl, unhide A0⟩
      case round =>
        clear A0
        obtain ⟨k, hk, rfl, h1⟩ := hrel
        have cb := cellB h1.blk (unhide HF) i hlt
        by_cases hlk : k < H.ns i
        · obtain ⟨g, y, e1, e2, e3, e4, e5, h2⟩ := h1.step (unhide HF) hlt hlk
          unfold maxLen at e3
          have A2 := hide h2
          unfold mkA at A2
          clear h1 h2
          go_wp2
          go_roundw
          case rel => exact ⟨k + 1, by omega, by go_num, unhide A2⟩
          case measure => simp [intOf]; omega
        · have ek : k = H.ns i := by omega
          subst ek
          have A2 := hide h1.next
          clear h1
          go_wp2
          go_roundw
          case rel => exact ⟨i + 1, by omega, by go_num, unhide A2⟩
          case measure => simp [intOf]; omega
    · have ei : i = H.m := by omega
      subst ei
      have A0 := hide h1.turn
      clear h1 hlt
      go_wp2
      go_loopw [5, 6] (fun lv i w => ∃ (j : Nat) (ys : List Value), j ≤ H.m ∧ i = .int .i64 j ∧ A2 H w0 B b w j lv ys) (fun _ i _ => H.m - (intOf i).toNat)
      case atStart => exact ⟨0, [], Nat.zero_le _, rfl, unhide A0⟩
      case round =>
        clear A0
        obtain ⟨i, ys, hi, rfl, h1⟩ := hrel
        by_cases hlt : i < H.m
        · have small := (unhide HF).small i hlt
          have cb := cellB h1.blk (unhide HF) i hlt
          have A0 := hide (h1.enter (unhide HF) hlt)
          unfold Held.v at A0
          clear h1
          go_wp2
          go_loopw [7, 8] (fun y q w => ∃ k : Nat, k ≤ 80 ∧ q = .int .i64 k ∧ A2y H w0 B b w i k y u5 ys) (fun _ q _ => 80 - (intOf q).toNat)
          case atStart => exact ⟨0, by omega, rfl, unhide A0⟩
          case round =>
            clear A0 cb
            obtain ⟨k, hk, rfl, h1⟩ := hrel
            have hB : B ≤ wr.heap.size := by have := lt_of_block h1.blk; have := h1.low; omega
            have hb1 : b + 1 ≤ wr.heap.size := lt_of_block h1.blk
            by_cases hlk : k < 80
            · obtain ⟨xs, hx, -⟩ := h1.cur
              have HX := hide hx; have HY := hide h1
              clear hx h1
              go_wp2_with (first
                | (at_builtin; refine wpList_app1g _ rfl (.tmp 54) (.tmp 59) rfl B _ (H.ns i + k) xs (unhide HX) rfl (.int .u8 ((131 + 11 * (i : Int)) % 256)) rfl _ rfl (by simp) (by omega) hB ?_; intro y' W1 ho hmv _; have HN := hide ((unhide HY).app hlt _ (unhide HX) hmv ho); clear ho hmv)
                | go_in)
              go_roundw
              case rel => exact ⟨k + 1, by omega, by go_num, unhide HN⟩
              case measure => simp [intOf]; omega
            · have ek : k = 80 := by omega
              subst ek
              obtain ⟨xs, hx, -⟩ := h1.cur
              obtain ⟨g, cap, rfl, -⟩ := ownsRow_open hx (by omega)
              have HY := hide h1
              clear hx h1
              go_wp2_with (first
                | (at_builtin; refine wpList_appS _ rfl (.tmp 61) (.tmp 63) rfl (b + 1) _ i ys (unhide HY).row rfl (.slice (some ⟨g, 0, none⟩) (H.ns i + 80) cap) rfl _ rfl (by simp) (by omega) hb1 ?_; intro lv' W1 ho hmv _; have HN := hide ((unhide HY).leave hlt _ hmv ho); clear ho hmv)
                | go_in)
              go_roundw
              case rel => exact ⟨i + 1, _, by omega, by go_num, unhide HN⟩
              case measure => simp [intOf]; omega
        · have ei : i = H.m := by omega
          subst ei
          have A0 := hide h1
          clear h1 hlt hi
          go_wp2
          go_loop [9] (fun i => ∃ j : Nat, j ≤ H.m ∧ i = .int .i64 j) (fun i => H.m - (intOf i).toNat)
          case atStart => exact ⟨0, Nat.zero_le _, rfl⟩
          case round =>
            obtain ⟨i, hi, rfl⟩ := hrel
            by_cases hlt : i < H.m
            · have small := (unhide HF).small i hlt
              have cb := cellB (unhide A0).blk (unhide HF) i hlt
              have hlen := (unhide A0).len
              obtain ⟨gl, cl, el, -, -, ncl, mcl⟩ := ownsRow_open (unhide A0).row (by omega)
              subst el
              have hu := (unhide A0).row.cellAt i (by omega)
              rw [List.getElem?_eq_getElem (by omega)] at hu
              have lg := (unhide A0).old i _ (List.getElem?_eq_getElem (by omega))
              generalize ys[i] = u at hu lg
              obtain ⟨gu, cu, rfl, ncu, mcu, cu1, cu2⟩ := lg.cells
              have RD := hide ((unhide A0).rd i hlt); have CU1 := hide cu1; have CU2 := hide cu2
              unfold maxLen at mcl mcu
              clear lg cu1 cu2 hlen
              go_wp2
              go_loop [10] (fun q => ∃ k : Nat, k ≤ H.ns i + 80 ∧ q = .int .i64 k) (fun q => H.ns i + 80 - (intOf q).toNat)
              case atStart => exact ⟨0, Nat.zero_le _, rfl⟩
              case round =>
                obtain ⟨k, hk, rfl⟩ := hrel
                by_cases hlk : k < H.ns i
                · obtain ⟨g, eg, cg⟩ := (unhide RD) k hlk
                  have cu := (unhide CU1) k hlk
                  unfold mkA at cg cu
                  go_wp2
                  go_round
                  case rel => exact ⟨k + 1, by omega, by go_num⟩
                  case measure => simp [intOf]; omega
                · by_cases hl2 : k < H.ns i + 80
                  · have cu := (unhide CU2) k (by omega) hl2
                    unfold cA at cu
                    go_wp2
                    go_round
                    case rel => exact ⟨k + 1, by omega, by go_num⟩
                    case measure => simp [intOf]; omega
                  · go_wp2
                    go_round
                    case rel => exact ⟨i + 1, by omega, by go_num⟩
                    case measure => simp [intOf]; omega
            · go_wp2
              go_ret
              exact ⟨rfl, (unhide A0).bel⟩
end Go.Proofs.YtmfbbamaleagiaaDoor
