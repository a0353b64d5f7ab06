/- pick, same, a script that came in, laid. -/
import Derived.Test.YtpkkgmcfificiaaDoorHY
namespace Go.Proofs.YtpkkgmcfificiaaDoor
open Go.RowKit Go.Shelf Go.Maps
set_option linter.unusedVariables false
set_option maxRecDepth 100000
set_option maxHeartbeats 1000000

/-- Which of n things a raw number speaks of. -/
def pk (c n : Int) : Int := (if c < 0 then -(c + 1) else c) % n

theorem pick_any (c n : Int) (hc : -9223372036854775808 ≤ c ∧ c ≤ 9223372036854775807) (hn : 0 < n ∧ n ≤ 9223372036854775807) (w : World) :
    Calls Tryd.prog 24 #[.int .i64 c, .int .i64 n] w fun e w' => e = .returned (.int .i64 (pk c n)) ∧ w' = w := by
  have n0 : (n == 0) = false := by simp; omega
  have n1 : ¬ n = 0 := by omega
  by_cases h : c < 0
  · have E : Hid (pk c n = -((c + 1).tmod n)) := by
      unfold pk; rw [if_pos h]; show _ = _; rw [← Int.neg_tmod, Int.tmod_eq_emod_of_nonneg (by omega)]
    go_enter Tryd.func24, Tryd.ntmps24
    go_wp2_with fail
    go_ret
    exact ⟨by rw [unhide E]; rfl, rfl⟩
  · have E : Hid (pk c n = c % n) := by unfold pk; rw [if_neg h]; rfl
    go_enter Tryd.func24, Tryd.ntmps24
    go_wp2_with fail
    go_ret
    exact ⟨by rw [unhide E]; rfl, rfl⟩

/-- A slice of ints, read. -/
def RdI (w : World) (a : Option Addr) (l : List Int) : Prop := l = [] ∨ ∃ g, a = some ⟨g, 0, none⟩ ∧ ∀ k x, l[k]? = some x → w.cell? ⟨g, k, none⟩ = some (.int .i64 x)
theorem RdI.grown {w w' : World} {a : Option Addr} {l : List Int} (h : RdI w a l) (g : w.grownBy w' none) : RdI w' a l := by
  rcases h with h | ⟨b, rfl, h⟩
  · exact .inl h
  · exact .inr ⟨b, rfl, fun k x hx => cell_grown (h k x hx) g⟩
theorem rdI_row {w : World} {base m c : Nat} {a : Option Addr} {l : List Int} (h : w.ownsRow base 3 1 (.slice a m c) m (l.map (Value.int .i64))) : RdI w a l ∧ l.length = m ∧ (0 < m → m ≤ c ∧ c ≤ 9223372036854775807) := by
  have hl : l.length = m := by have := h.1; simpa using this
  rcases h.2 with ⟨e1, e2⟩ | ⟨g, cap, cur, e1, q1, q2, q3, q4, q5, q6⟩
  · refine ⟨.inl ?_, hl, by omega⟩
    cases l with
    | nil => rfl
    | cons x t => simp at hl; omega
  · simp only [Value.slice.injEq, true_and] at e1
    obtain ⟨rfl, rfl⟩ := e1
    refine ⟨.inr ⟨g, rfl, fun k x hx => ?_⟩, hl, fun _ => ⟨q3, by unfold maxLen at q4; omega⟩⟩
    have hk : k < m := by
      by_cases c : k < m
      · exact c
      · rw [List.getElem?_eq_none (by omega)] at hx; cases hx
    simp only [World.cell?, q2]
    have h1 : (cur.toList.take (m * 1))[k]? = (l.map (Value.int .i64))[k]? := by rw [q6]
    rw [List.getElem?_take, if_pos (by omega), Array.getElem?_toList, List.getElem?_map, hx] at h1
    rw [h1]; rfl

theorem same_any (a b : Option Addr) (la lb : List Int) (m n ca cb : Nat) (ha : la.length = m) (hb : lb.length = n) (w : World) (ra : RdI w a la) (rb : RdI w b lb) (hm : m ≤ ca ∧ ca ≤ 9223372036854775807) (hn : n ≤ cb ∧ cb ≤ 9223372036854775807) :
    Calls Tryd.prog 15 #[.slice a m ca, .slice b n cb] w fun e w' => e = .returned (.bool (decide (la = lb))) ∧ w.grownBy w' none := by
  have ml : ¬ (9223372036854775807 : Int) < (m : Int) := by omega
  have nl : ¬ (9223372036854775807 : Int) < (n : Int) := by omega
  by_cases hmn : m = n
  · subst hmn
    have mm : ((m : Int) != (m : Int)) = false := by simp
    have RA := hide ra; have RB := hide rb; have HA := hide ha; have HB := hide hb
    obtain ⟨r, hr⟩ : ∃ r, r = decide (la = lb) := ⟨_, rfl⟩
    rw [← hr]
    have HR := hide hr
    clear ra rb ha hb hr
    go_enter Tryd.func15, Tryd.ntmps15
    go_wp2_with fail
    go_loopw [5] (fun i wr => ∃ k : Nat, k ≤ m ∧ i = .int .i64 k ∧ Hid (la.take k = lb.take k ∧ w.grownBy wr none)) (fun i _ => m - (intOf i).toNat)
    case atStart => exact ⟨0, Nat.zero_le _, rfl, by simp, World.grownBy.refl w none⟩
    case round =>
      obtain ⟨k, hk, rfl, H⟩ := hrel
      by_cases hlt : k < m
      · have kI : (k : Int) < (m : Int) := by omega
        obtain ⟨e1, gr⟩ := unhide H
        obtain ⟨x, hx⟩ : ∃ x, la[k]? = some x := ⟨la[k]'(by have := unhide HA; omega), by simp⟩
        obtain ⟨y, hy⟩ : ∃ y, lb[k]? = some y := ⟨lb[k]'(by have := unhide HB; omega), by simp⟩
        rcases (unhide RA).grown gr with h | ⟨g1, rfl, c1⟩
        · rw [h] at hx; simp at hx
        rcases (unhide RB).grown gr with h | ⟨g2, rfl, c2⟩
        · rw [h] at hy; simp at hy
        have d1 := c1 k x hx
        have d2 := c2 k y hy
        have t1 : la.take (k + 1) = la.take k ++ [x] := by rw [List.take_add_one, hx]; rfl
        have t2 : lb.take (k + 1) = lb.take k ++ [y] := by rw [List.take_add_one, hy]; rfl
        by_cases hxy : x = y
        · have xy : (x != y) = false := by simp [hxy]
          have E := hide (And.intro (show la.take (k + 1) = lb.take (k + 1) by rw [t1, t2, e1, hxy]) gr)
          clear H e1 gr c1 c2 t1 t2 hx hy
          go_wp2_with fail
          go_quiet (fail)
          go_wp2_with fail
          exact ⟨⟨k + 1, hlt, by go_num, (unhide E).1, grown_drewN (unhide E).2⟩, by simp [intOf]; omega⟩
        · have xy : (x != y) = true := by simp [hxy]
          have E := hide (And.intro (show r = false by
            rw [unhide HR]
            apply decide_eq_false
            intro e
            rw [e, hy] at hx
            exact hxy (Option.some.inj hx).symm) gr)
          clear H e1 gr c1 c2 t1 t2 hx hy
          go_wp2_with fail
          go_quiet (fail)
          go_wp2_with fail
          go_ret
          exact ⟨by rw [(unhide E).1]; rfl, grown_drewN (unhide E).2⟩
      · obtain rfl : k = m := by omega
        have kI : ¬ (k : Int) < (k : Int) := by omega
        have E := hide (And.intro (show r = true by
          have h := (unhide H).1
          rw [unhide HR]
          apply decide_eq_true
          rw [List.take_of_length_le (by have := unhide HA; omega), List.take_of_length_le (by have := unhide HB; omega)] at h
          exact h) (unhide H).2)
        clear H
        go_wp2_with fail
        go_ret
        exact ⟨by rw [(unhide E).1]; rfl, (unhide E).2⟩
  · have mm : ((m : Int) != (n : Int)) = true := by simp; omega
    have E : Hid (decide (la = lb) = false) := decide_eq_false (fun e => hmn (by rw [← ha, ← hb, e]))
    clear ra rb
    generalize decide (la = lb) = r at *
    go_enter Tryd.func15, Tryd.ntmps15
    go_wp2_with fail
    go_ret
    exact ⟨by rw [unhide E]; rfl, World.grownBy.refl w none⟩

/-- A step of a script: kind, the other one, number, time. -/
structure OpD where
  kind : Int
  other : Bool
  id : Int
  at_ : Int
structure OpD.Ok (x : OpD) : Prop where
  k : -9223372036854775808 ≤ x.kind ∧ x.kind ≤ 9223372036854775807
  i : wfI x.id
  a : -9223372036854775808 ≤ x.at_ ∧ x.at_ ≤ 9223372036854775807
/-- A script that came in. -/
structure IsOps (w : World) (a : Option Addr) (len cap : Nat) (ol : List OpD) : Prop where
  hlen : ol.length = len
  hcap : len ≤ cap ∧ cap ≤ 9223372036854775807
  ok : ∀ x ∈ ol, x.Ok
  cell : len = 0 ∨ ∃ b off, a = some ⟨b, off, none⟩ ∧ ∀ i x, ol[i]? = some x → w.cell? ⟨b, off + i * 4, none⟩ = some (.int .i64 x.kind) ∧ w.cell? ⟨b, off + i * 4 + 1, none⟩ = some (.bool x.other) ∧ w.cell? ⟨b, off + i * 4 + 2, none⟩ = some (.int .i64 x.id) ∧ w.cell? ⟨b, off + i * 4 + 3, none⟩ = some (.int .i64 x.at_)

theorem IsOps.bel {B : Nat} {w w' : World} {a : Option Addr} {len cap : Nat} {ol : List OpD} (h : IsOps w a len cap ol) (hb : Below B w w') (hB : w.heap.size ≤ B) : IsOps w' a len cap ol := by
  refine ⟨h.hlen, h.hcap, h.ok, ?_⟩
  rcases h.cell with h1 | ⟨b, off, rfl, h1⟩
  · exact .inl h1
  · refine .inr ⟨b, off, rfl, fun i x hx => ?_⟩
    obtain ⟨c0, c1, c2, c3⟩ := h1 i x hx
    have k : ∀ {o : Nat} {v : Value}, w.cell? ⟨b, o, none⟩ = some v → w'.cell? ⟨b, o, none⟩ = some v := fun {o v} hc => (hb.cell (p := ⟨b, o, none⟩) (by have := World.block_lt_of_cell? w _ hc; simp only at this ⊢; omega)).trans hc
    exact ⟨k c0, k c1, k c2, k c3⟩

/-- A wheel's clock and deadlines behind a step. -/
def stepF (s : Nat × List Tm) (x : OpD) : Nat × List Tm :=
  if pk x.kind 6 = 0 ∨ pk x.kind 6 = 2 ∨ pk x.kind 6 = 3 then (s.1, armT s.2 x.id x.at_)
  else if pk x.kind 6 = 1 then (s.1, delT s.2 x.id)
  else (adv s.1 x.at_, lateT s.2 (adv s.1 x.at_))
def laidF (now : Int) (ol : List OpD) : Nat × List Tm := ol.foldl stepF (clk now, [])

structure LI (B : Nat) (w : World) (now : Int) (ol : List OpD) (W k : Nat) (wr : World) : Prop where
  wl : ∃ S, Wl B wr S W (laidF now (ol.take k)).1 (laidF now (ol.take k)).2 ∧ ∀ g, S g → w.heap.size ≤ g
  bel : Below w.heap.size w wr
end Go.Proofs.YtpkkgmcfificiaaDoor
