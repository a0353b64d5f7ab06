/- Rows of integers that are the call's own; the law of append inside a fence; same. -/
import Derived.Test.YtihhgminbmngcaaNWV
import Derived.Test.YtihhgminbmngcaaNP
import Derived.Maps.AppendAt
import Derived.Deep.QuietTactic
import Derived.BigQuiet
namespace Go.Proofs.Ytihhgminbmngcaa
open Go.RowKit Go.Shelf
set_option linter.unusedVariables false
set_option maxRecDepth 100000

def ivals (k : IntKind) (l : List Int) : List Value := l.map (Value.int k)
theorem ivals_length (k : IntKind) (l : List Int) : (ivals k l).length = l.length := by simp [ivals]
theorem ivals_snoc (k : IntKind) (l : List Int) (x : Int) : ivals k (l ++ [x]) = ivals k l ++ [.int k x] := by simp [ivals]
theorem ivals_append (k : IntKind) (l m : List Int) : ivals k (l ++ m) = ivals k l ++ ivals k m := by simp [ivals]
theorem ivals_get (k : IntKind) (l : List Int) (j : Nat) (h : j < l.length) : (ivals k l)[j]? = some (.int k (l.getD j 0)) := by simp [ivals, List.getD, h]

/-- A row of the call's own that holds these integers. -/
def IRow (w : World) (B : Nat) (e : TypeId) (k : IntKind) (v : Value) (l : List Int) : Prop := w.ownsRow B e 1 v l.length (ivals k l)

theorem IRow.shape {w : World} {B : Nat} {e : TypeId} {k : IntKind} {v : Value} {l : List Int} (h : IRow w B e k v l) :
    ∃ a c, v = .slice a l.length c ∧ l.length ≤ c ∧ c ≤ maxLen ∧ (l ≠ [] → ∃ g, a = some ⟨g, 0, none⟩ ∧ B ≤ g ∧ g < w.heap.size ∧ ∀ j, j < l.length → w.cell? ⟨g, j, none⟩ = some (.int k (l.getD j 0))) := by
  have hlt := World.ownsRow.lt h
  rcases h.2 with ⟨rfl, h0⟩ | ⟨g, cap, cur, rfl, hb, hg, h1, h2, _⟩
  · exact ⟨none, 0, by rw [h0], by omega, by decide, fun hne => absurd (List.eq_nil_of_length_eq_zero h0) hne⟩
  · refine ⟨_, cap, rfl, h1, h2, fun hne => ⟨g, rfl, hb, (hlt g rfl).2, fun j hj => ?_⟩⟩
    rw [World.ownsRow.cellAt h j (by omega), ivals_get k l j hj]

theorem IRow.rdB {w : World} {B : Nat} {v : Value} {l : List Int} (h : IRow w B 5 .u8 v l) (hl : ∀ x ∈ l, IsB x) : ∃ a c, v = .slice a l.length c ∧ l.length ≤ c ∧ c ≤ maxLen ∧ RdB w.heap.size w a l := by
  obtain ⟨a, c, e, h1, h2, h3⟩ := h.shape
  refine ⟨a, c, e, h1, h2, hl, fun hne => ?_⟩
  obtain ⟨g, hg, _, hlt, hc⟩ := h3 hne
  exact ⟨g, 0, hg, hlt, fun i hi => by rw [Nat.zero_add]; exact hc i hi⟩

/-- One integer more, inside a fence. -/
theorem wpListIn_appI {F : Fence} {n : Nat} {ops : Array Oper} {rest : List Oper} {o : Oper} {a : Act} {Q : Exit → Act → World → Prop} (w : World) (hg : o.guard = none) (s x : Operand) (t e : TypeId) (k : IntKind) (bytes : Nat)
    (hop : o.op = Op.call { callee := Callee.builtin Builtin.append, args := #[s, x], argTypes := #[t, t] }) (ht : Try.prog.underlying t = some (.slice e)) (hinfo : (Try.prog.info? e).map (fun i => (i.zero, i.size, i.bytes)) = some (some (.int k 0), 1, bytes))
    (base : Nat) (v : Value) (l : List Int) (hown : IRow w base e k v l) (hs : a.eval s = v) (y : Int) (gs : Nat) (hx : a.eval x = .slice (some ⟨gs, 0, none⟩) 1 1) (hgs : w.heap.size = gs) (hn : (l.length + 1) * bytes ≤ 140737488355328) (hn2 : l.length + 1 ≤ maxLen) (hbase : base ≤ w.heap.size)
    (h : ∀ v' w', IRow w' base e k v' (l ++ [y]) → Moved (w.alloc (.cells #[.int k y] e)) w' v v' → wpListIn F n Try.prog ops Q rest (a.put o.dst v') w') : wpListIn F n Try.prog ops Q (o :: rest) a (w.alloc (.cells #[.int k y] e)) := by
  subst hgs
  obtain ⟨i, hi, hz0, hz1, hz2⟩ := info_parts hinfo
  refine wpListIn_plain hg fun K hK => ?_
  obtain ⟨v', w', hrun, r1, r2, _⟩ := app_keep (P := Try.prog) (w.alloc (.cells #[.int k y] e)) base t o.type e i (.int k 0) bytes ht hi hz0 hz1 hz2 rfl v l.length (ivals k l) (World.ownsRow.alloc hown _) ⟨w.heap.size, 0, none⟩ 1 1 [.int k y] rfl (cell_one_new _ _ _) (by intro u hu; simp at hu; subst hu; rfl) (by decide) hn2 hn (by simp; omega)
  unfold Oper.wpIn
  refine ⟨?_, ?_⟩
  · simp [Oper.about, hop, resolve, Target.leads, Sem.run_pure]
  · rw [Oper.semAt_plain F _ _ (by rw [hop]; intro c hc'; cases hc')]
    simp [execOp, hop, resolve, invoke, builtin, hs, hx, hrun, Result.andThen]
    refine hK _ _ (h v' w' ?_ r2)
    unfold IRow
    rw [ivals_snoc, List.length_append]
    exact r1

/-- A slice of bytes behind a row of one's own, inside a fence. -/
theorem wpListIn_appB {F : Fence} {n : Nat} {ops : Array Oper} {rest : List Oper} {o : Oper} {act : Act} {Q : Exit → Act → World → Prop} (w : World) (hgd : o.guard = none) (s x : Operand)
    (ho : o.op = .call { callee := .builtin .append, args := #[s, x], argTypes := #[22, 22] }) (base : Nat) (v : Value) (l : List Int) (hown : IRow w base 5 .u8 v l) (hs : act.eval s = v)
    (g : Nat) (m : List Int) (mn c : Nat) (hmn : m.length = mn) (hm : 0 < m.length) (hr : ∀ j, j < m.length → w.cell? ⟨g, j, none⟩ = some (.int .u8 (m.getD j 0))) (hx : act.eval x = .slice (some ⟨g, 0, none⟩) mn c) (h48 : l.length + m.length ≤ 140737488355328) (hbase : base ≤ w.heap.size)
    (h : ∀ v' w', IRow w' base 5 .u8 v' (l ++ m) → Moved w w' v v' → wpListIn F n Try.prog ops Q rest (act.put o.dst v') w') : wpListIn F n Try.prog ops Q (o :: rest) act w := by
  subst hmn
  obtain ⟨i, hi, hz0, hz1, hz2⟩ := info_parts Try.info5
  refine wpListIn_plain hgd fun K hK => ?_
  obtain ⟨v', w', hrun, r1, r2, _⟩ := app_keep (P := Try.prog) w base 22 o.type 5 i (.int .u8 0) 1 Try.underlying22 hi hz0 hz1 hz2 rfl v l.length (ivals .u8 l) hown ⟨g, 0, none⟩ m.length c (ivals .u8 m) (ivals_length _ _) (fun j u hu => by
      have hj : j < m.length := by
        rcases Nat.lt_or_ge j m.length with h | h
        · exact h
        · rw [List.getElem?_eq_none (by rw [ivals_length]; exact h)] at hu; cases hu
      rw [show (⟨g, 0, none⟩ : Addr).add j = ⟨g, j, none⟩ by unfold Addr.add; split <;> simp_all, hr j hj, ← ivals_get .u8 m j hj]
      exact hu) (fun u hu => by
      simp only [ivals, List.mem_map] at hu
      obtain ⟨y, _, rfl⟩ := hu
      rfl) hm (by unfold maxLen; omega) (by omega) hbase
  unfold Oper.wpIn
  refine ⟨?_, ?_⟩
  · simp [Oper.about, ho, resolve, Target.leads, Sem.run_pure]
  · rw [Oper.semAt_plain F _ _ (by rw [ho]; intro c hc'; cases hc')]
    simp [execOp, ho, resolve, invoke, builtin, hs, hx, hrun, Result.andThen]
    refine hK _ _ (h v' w' ?_ r2)
    unfold IRow
    rw [ivals_append, List.length_append]
    exact r1

theorem getD_take (l : List Int) (n j : Nat) (h : j < n) : (l.take n).getD j 0 = l.getD j 0 := by simp [List.getD, h]

set_option maxRecDepth 100000 in
set_option maxHeartbeats 1600000 in
theorem same_true (w : World) (B1 B2 B3 B4 : Nat) (v1 v2 v3 v4 : Value) (P M : List Int) (n : Nat) (most : Int) (hPM : P.length = M.length) (hn : n ≤ P.length) (hmost : most = n ∨ (n = P.length ∧ (n : Int) ≤ most)) (hsm : P.length ≤ 140737488355328)
    (h1 : IRow w B1 3 .i64 v1 (P.take n)) (h2 : IRow w B2 35 .u64 v2 (M.take n)) (h3 : IRow w B3 3 .i64 v3 P) (h4 : IRow w B4 35 .u64 v4 M) :
    Calls Try.prog 10 #[v1, v2, v3, v4, .int .i64 most] w fun e w' => e = .returned (.bool true) ∧ ∃ q, w' = w.drewN q := by
  obtain ⟨a1, c1, rfl, i1, j1, k1⟩ := h1.shape
  obtain ⟨a2, c2, rfl, i2, j2, k2⟩ := h2.shape
  obtain ⟨a3, c3, rfl, i3, j3, k3⟩ := h3.shape
  obtain ⟨a4, c4, rfl, i4, j4, k4⟩ := h4.shape
  have l1 : (P.take n).length = n := by simp; omega
  have l2 : (M.take n).length = n := by simp; omega
  have hML : M.length = P.length := hPM.symm
  rw [l1] at k1 i1
  rw [l2] at k2 i2
  rw [hML] at k4 i4
  rw [l1, l2, hML]
  have K1 := hide k1; have K2 := hide k2; have K3 := hide k3; have K4 := hide k4; have HML := hide hML; have L1 := hide l1; have L2 := hide l2
  clear h1 h2 h3 h4 k1 k2 k3 k4 l1 l2 hML hPM
  unfold maxLen at j1 j2 j3 j4
  generalize hPl : P.length = N at hn hmost hsm i3 i4 ⊢
  have HPL := hide hPl
  clear hPl
  have hcase : (most < N ∧ most = n) ∨ (¬ most < N ∧ n = N) := by omega
  rcases hcase with ⟨hc1, hc2⟩ | ⟨hc1, hc2⟩
  · have HC := hide hc2
    subst hc2
    clear hmost HC
    go_enter Try.func10, Try.ntmps10
    go_wp2
    go_loopw [12] (fun i wr => ∃ (k q : Nat), k ≤ n ∧ i = .int .i64 k ∧ wr = w.drewN q) (fun i _ => n - (intOf i).toNat)
    case atStart => exact ⟨0, 0, Nat.zero_le _, rfl, rfl⟩
    case round =>
      obtain ⟨k, q, hk, rfl, rfl⟩ := hrel
      by_cases hlt : k < n
      · obtain ⟨g1, rfl, -, -, m1⟩ := (unhide K1) (by intro e; have := unhide L1; rw [e] at this; simp at this; omega)
        obtain ⟨g2, rfl, -, -, m2⟩ := (unhide K2) (by intro e; have := unhide L2; rw [e] at this; simp at this; omega)
        obtain ⟨g3, rfl, -, -, m3⟩ := (unhide K3) (by intro e; have := unhide HPL; rw [e] at this; simp at this; omega)
        obtain ⟨g4, rfl, -, -, m4⟩ := (unhide K4) (by intro e; have := unhide HML; have := unhide HPL; rw [e] at *; simp at *; omega)
        have z1 := m1 k hlt; have z2 := m2 k hlt; have z3 := m3 k (by have := unhide HPL; omega); have z4 := m4 k (by have := unhide HPL; omega)
        rw [getD_take P n k hlt] at z1
        rw [getD_take M n k hlt] at z2
        generalize P.getD k 0 = x at z1 z3
        generalize M.getD k 0 = y at z2 z4
        have hkn : (k : Int) < N := by omega
        clear m1 m2 m3 m4
        go_wp2
        go_quiet (fail)
        all_goals go_wp2
        go_roundw
        case rel => exact ⟨k + 1, _, by omega, by go_num, rfl⟩
        case measure => simp [intOf]; omega
      · go_wp2
        go_ret
        exact ⟨rfl, _, rfl⟩
  · subst hc2
    clear hmost
    go_enter Try.func10, Try.ntmps10
    go_wp2
    go_loopw [12] (fun i wr => ∃ (k q : Nat), k ≤ n ∧ i = .int .i64 k ∧ wr = w.drewN q) (fun i _ => n - (intOf i).toNat)
    case atStart => exact ⟨0, 0, Nat.zero_le _, rfl, rfl⟩
    case round =>
      obtain ⟨k, q, hk, rfl, rfl⟩ := hrel
      by_cases hlt : k < n
      · obtain ⟨g1, rfl, -, -, m1⟩ := (unhide K1) (by intro e; have := unhide L1; rw [e] at this; simp at this; omega)
        obtain ⟨g2, rfl, -, -, m2⟩ := (unhide K2) (by intro e; have := unhide L2; rw [e] at this; simp at this; omega)
        obtain ⟨g3, rfl, -, -, m3⟩ := (unhide K3) (by intro e; have := unhide HPL; rw [e] at this; simp at this; omega)
        obtain ⟨g4, rfl, -, -, m4⟩ := (unhide K4) (by intro e; have := unhide HML; have := unhide HPL; rw [e] at *; simp at *; omega)
        have z1 := m1 k hlt; have z2 := m2 k hlt; have z3 := m3 k (by have := unhide HPL; omega); have z4 := m4 k (by have := unhide HPL; omega)
        rw [getD_take P n k hlt] at z1
        rw [getD_take M n k hlt] at z2
        generalize P.getD k 0 = x at z1 z3
        generalize M.getD k 0 = y at z2 z4
        have hkn : (k : Int) < n := by omega
        clear m1 m2 m3 m4
        go_wp2
        go_quiet (fail)
        all_goals go_wp2
        go_roundw
        case rel => exact ⟨k + 1, _, by omega, by go_num, rfl⟩
        case measure => simp [intOf]; omega
      · go_wp2
        go_ret
        exact ⟨rfl, _, rfl⟩
end Go.Proofs.Ytihhgminbmngcaa
