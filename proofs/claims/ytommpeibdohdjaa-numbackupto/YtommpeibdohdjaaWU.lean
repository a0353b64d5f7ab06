import Derived.Test.YtommpeibdohdjaaWT
import Derived.Test.YtommpeibdohdjaaPC
namespace Go.Proofs.Ytommpeibdohdjaa
open Go.RowKit
set_option linter.unusedVariables false

theorem app_rd (w : World) (base : Nat) (ty : TypeId) (v : Value) (n : Nat) (xs : List Value) (hown : w.ownsRow base 5 1 v n xs) (a : Option Addr) (l : List Int) (c : Nat) (hr : Rd w a l) (hc : a = none → c = 0) (h48 : n + l.length ≤ 140737488355328) (hbase : base ≤ w.heap.size) :
    ∃ v' w', (Builtin.append_ #[25, 25] ty #[v, .slice a l.length c]).run Try.prog w = .ok v' w' ∧ w'.ownsRow base 5 1 v' (n + l.length) (xs ++ vals l) ∧ w.grownBy w' v.ownBlock := by
  obtain ⟨i, hi, hz0, hz1, hz2⟩ := info_parts Try.info5
  match a with
  | none =>
    have hl : l = [] := by
      by_cases h : l = []
      · exact h
      · obtain ⟨b, off, e, _⟩ := hr.2 h
        cases e
    subst hl
    rw [hc rfl]
    refine ⟨v, w, run_append_owned_none w base 25 ty 5 i 1 Try.underlying25 hi v n xs hown, by simpa [vals] using hown, ⟨rfl, rfl, rfl, Nat.le_refl _, fun _ _ _ => rfl⟩⟩
  | some x =>
    obtain ⟨v', w', h1, h2, h3, _⟩ := run_append_own (P := Try.prog) w base 25 ty 5 i (.int .u8 0) 1 1 Try.underlying25 hi hz0 hz1 hz2 rfl (by decide) v n xs hown x l.length c (vals l) (by simp [vals]) (fun j u hu => by
      have hj : j < l.length := by
        rcases Nat.lt_or_ge j l.length with h | h
        · exact h
        · rw [List.getElem?_eq_none (by rw [vals_length]; exact h)] at hu; cases hu
      obtain ⟨b, off, e, hcell⟩ := hr.2 (by intro e; simp [e] at hj)
      cases e
      rw [show (⟨b, off, none⟩ : Addr).add j = ⟨b, off + j, none⟩ by simp [Addr.add], hcell j hj, ← vals_get l j hj]
      exact hu) (fun u hu => by
      simp only [vals, List.mem_map] at hu
      obtain ⟨y, _, rfl⟩ := hu
      rfl) (by unfold maxLen; omega) (by omega) hbase
    exact ⟨v', w', h1, h2, h3⟩

theorem wpList_app_rd {ops : Array Oper} {rest : List Oper} {o : Oper} {act : Act} {Q : Exit → Act → World → Prop} (w : World) (hgd : o.guard = none) (s x : Operand)
    (ho : o.op = .call { callee := .builtin .append, args := #[s, x], argTypes := #[25, 25] }) (base : Nat) (v : Value) (n : Nat) (xs : List Value) (hown : w.ownsRow base 5 1 v n xs) (hs : act.eval s = v)
    (a : Option Addr) (l : List Int) (c : Nat) (hr : Rd w a l) (hx : act.eval x = .slice a l.length c) (hc : a = none → c = 0) (h48 : n + l.length ≤ 140737488355328) (hbase : base ≤ w.heap.size)
    (h : ∀ v' w', w'.ownsRow base 5 1 v' (n + l.length) (xs ++ vals l) → w.grownBy w' v.ownBlock → wpList Try.prog ops Q rest (act.put o.dst v') w') : wpList Try.prog ops Q (o :: rest) act w := by
  refine wpList_plain hgd fun K hK => ?_
  obtain ⟨v', w', hrun, h2, h3⟩ := app_rd w base o.type v n xs hown a l c hr hc h48 hbase
  unfold Oper.wp execOp
  simp only [ho, resolve, invoke, builtin, Sem.run_bind, Sem.run_pure, Result.andThen_ok, List.map_toArray, List.map_cons, List.map_nil, hs, hx, hrun]
  exact hK _ _ (h v' w' h2 h3)

set_option maxHeartbeats 1600000 in
theorem whole_any (a b c : Option Addr) (la lb lc : List Int) (ca cb cc : Nat) (w : World) (ra : Rd w a la) (rb : Rd w b lb) (rc : Rd w c lc) (na : a = none → ca = 0) (nb : b = none → cb = 0) (nc : c = none → cc = 0) (h48 : la.length + lb.length + lc.length ≤ 140737488355328) :
    Calls Try.prog 32 #[.slice a la.length ca, .slice b lb.length cb, .slice c lc.length cc] w fun e w' => ∃ s, e = .returned s ∧ Own w w' s (la ++ lb ++ lc) := by
  have RA := hide ra; have RB := hide rb; have RC := hide rc; have NA := hide na; have NB := hide nb; have NC := hide nc
  clear ra rb rc na nb nc
  go_enter Try.func32, Try.ntmps32
  go_wp2_with (first
    | (at_builtin; refine wpList_app_rd w rfl (.tmp 8) (.tmp 9) rfl w.heap.size (.slice none 0 0) 0 [] (World.ownsRow_nil _ _ _ _) rfl a la ca (unhide RA) rfl (unhide NA) (by omega) (Nat.le_refl _) ?_; intro v1 W1 o1 g1; have B1 := hide ((Below.refl w.heap.size w).grown g1 (Nat.le_refl _) (fun k hk => by cases hk)); have O1 := hide o1; clear o1 g1)
    | (at_builtin; refine wpList_app_rd _ rfl (.tmp 11) (.tmp 12) rfl w.heap.size _ _ _ (unhide O1) rfl b lb cb (rd_below (unhide RB) (unhide B1)) rfl (unhide NB) (by omega) (unhide B1).size ?_; intro v2 W2 o2 g2; have B2 := hide ((unhide B1).grown g2 (unhide B1).size (fun k hk => ((unhide O1).lt k hk).1)); have O2 := hide o2; clear o2 g2)
    | (at_builtin; refine wpList_app_rd _ rfl (.tmp 14) (.tmp 15) rfl w.heap.size _ _ _ (unhide O2) rfl c lc cc (rd_below (unhide RC) (unhide B2)) rfl (unhide NC) (by omega) (unhide B2).size ?_; intro v3 W3 o3 g3; have B3 := hide ((unhide B2).grown g3 (unhide B2).size (fun k hk => ((unhide O2).lt k hk).1)); have O3 := hide o3; clear o3 g3)
    | go_in)
  go_ret
  refine ⟨_, rfl, ?_, unhide B3⟩
  have := unhide O3
  rw [show (la ++ lb ++ lc).length = 0 + la.length + lb.length + lc.length by simp; omega, show vals (la ++ lb ++ lc) = [] ++ vals la ++ vals lb ++ vals lc by simp [vals]]
  exact this

theorem own_slice {w : World} {base : Nat} {s : Value} {n : Nat} {l : List Int} (h : w.ownsRow base 5 1 s n (vals l)) (hl : ∀ x ∈ l, IsB x) : ∃ a c, s = .slice a n c ∧ Rd w a l ∧ n ≤ c ∧ c ≤ maxLen ∧ (a = none → c = 0) := by
  obtain ⟨hn, a, c, rfl, hr⟩ := own_rd h hl
  refine ⟨a, c, rfl, hr, ?_⟩
  rcases h.2 with ⟨e, _⟩ | ⟨g, cap, cur, e, _, _, h1, h2, _⟩
  · simp at e
    obtain ⟨rfl, rfl, rfl⟩ := e
    exact ⟨Nat.le_refl _, by decide, fun _ => rfl⟩
  · simp at e
    obtain ⟨rfl, rfl⟩ := e
    exact ⟨h1, h2, fun h => by cases h⟩
end Go.Proofs.Ytommpeibdohdjaa
