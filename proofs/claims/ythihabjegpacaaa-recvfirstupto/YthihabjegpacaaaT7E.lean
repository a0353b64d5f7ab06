/- What came in: a script, with its bulk. -/
import Derived.Test.YthihabjegpacaaaT7C
import Derived.Test.YthihabjegpacaaaBK
import Derived.ProofKit
import Derived.OpenShut
import Derived.ShutString
import Derived.ChangeOld
import Derived.SizedLaws
import Derived.Deep.Slices
namespace Go.Proofs.Ythihabjegpacaaa
open Go.ChangeShapes Go.WideShapes Go.ChangeAt Go.RowKit
set_option linter.unusedVariables false
set_option maxRecDepth 100000
set_option maxHeartbeats 1000000

abbrev i64B (x : Int) : Prop := -9223372036854775808 ≤ x ∧ x ≤ 9223372036854775807
structure OpE where
  kind : Int
  other : Bool
  off : Int
  da : Option Addr
  dn : Nat
  dc : Nat
  fin : Bool
  most : Int
  p : List Int
structure OpE.Ok (w : World) (x : OpE) : Prop where
  k : i64B x.kind
  o : i64B x.off
  m : i64B x.most
  len : x.p.length = x.dn
  cap : x.dn ≤ x.dc ∧ x.dc ≤ 9223372036854775807
  big : x.dn ≤ 140737488355328
  rd : Rd w x.da x.p
def OpE.cs (x : OpE) : List Value := [.int .i64 x.kind, .bool x.other, .int .i64 x.off, .slice x.da x.dn x.dc, .bool x.fin, .int .i64 x.most]
/-- A script that came in. -/
structure IsOps (w : World) (a : Option Addr) (len cap : Nat) (ol : List OpE) : Prop where
  hlen : ol.length = len
  hcap : len ≤ cap ∧ cap ≤ 9223372036854775807
  ok : ∀ x ∈ ol, x.Ok w
  cell : len = 0 ∨ ∃ b off, a = some ⟨b, off, none⟩ ∧ ∀ i x, ol[i]? = some x → ∀ j v, x.cs[j]? = some v → w.cell? ⟨b, off + i * 6 + j, none⟩ = some v

theorem wf_i64 {z : Int} (h : (Lit.int .i64 z).wf = true) : -9223372036854775808 ≤ z ∧ z ≤ 9223372036854775807 := by
  simp [Lit.wf, IntKind.min, IntKind.max] at h
  exact ⟨of_decide_eq_true h.1, of_decide_eq_true h.2⟩
theorem wf_u8 {z : Int} (h : (Lit.int .u8 z).wf = true) : 0 ≤ z ∧ z ≤ 255 := by
  simp [Lit.wf, IntKind.min, IntKind.max] at h
  exact ⟨of_decide_eq_true h.1, of_decide_eq_true h.2⟩

theorem list_gen {α : Type} {P : Nat → α → Prop} : ∀ n : Nat, (∀ i, i < n → ∃ x, P i x) → ∃ l : List α, l.length = n ∧ ∀ i x, l[i]? = some x → P i x
  | 0, _ => ⟨[], rfl, fun i x h => by simp at h⟩
  | n + 1, h => by
    obtain ⟨l, hl, hP⟩ := list_gen n (fun i hi => h i (by omega))
    obtain ⟨x, hx⟩ := h n (by omega)
    refine ⟨l ++ [x], by simp [hl], fun i y hy => ?_⟩
    by_cases c : i < n
    · rw [List.getElem?_append_left (by omega)] at hy
      exact hP i y hy
    · have hi : i < (l ++ [x]).length := (List.getElem?_eq_some_iff.1 hy).1
      simp [hl] at hi
      obtain rfl : i = n := by omega
      rw [List.getElem?_append_right (by omega), hl] at hy
      simp at hy
      subst hy
      exact hx

theorem add_0 (ad : Addr) : ad.add 0 = ad := by simp [Addr.add]
theorem spot_none {w : World} {ad : Addr} {v : Value} (h : w.cell? ad = some v) : ad.spot = none := by
  unfold World.cell? at h
  split at h
  · split at h
    · cases h
    · rename_i hsp
      simpa using hsp
  · cases h

def tot (ol : List OpE) : Nat → Int
  | 0 => 0
  | k + 1 => tot ol k + ((ol[k]?.map fun x => x.dn).getD 0 : Nat)
theorem tot_at {ol : List OpE} {k : Nat} {x : OpE} (h : ol[k]? = some x) : tot ol (k + 1) = tot ol k + (x.dn : Int) := by simp [tot, h]
theorem tot_nn (ol : List OpE) : ∀ k, 0 ≤ tot ol k
  | 0 => Int.le_refl _
  | k + 1 => by have := tot_nn ol k; simp only [tot]; omega
theorem tot_mono (ol : List OpE) {k n : Nat} (h : k < n) : tot ol (k + 1) ≤ tot ol n := by
  induction n with
  | zero => omega
  | succ n ih =>
    by_cases c : k = n
    · subst c; exact Int.le_refl _
    · have := ih (by omega)
      simp only [tot] at this ⊢
      omega
theorem tot_all {H : Type} : ∀ (ol : List OpE) (ds : List (DataW H)), ol.length = ds.length → (∀ (i : Nat) (x : OpE) (d : DataW H), ol[i]? = some x → ds[i]? = some d → x.dn ≤ Rows.uptoBulk d) → (ol.map fun x => x.dn).sum ≤ Rows.uptoBulkAll ds
  | [], _, _, _ => Nat.zero_le _
  | x :: xs, [], hl, _ => by simp at hl
  | x :: xs, d :: ds, hl, h => by
    have h1 := h 0 x d rfl rfl
    have h3 := tot_all xs ds (by simpa using hl) (fun i y e hy he => h (i + 1) y e (by simpa using hy) (by simpa using he))
    simp only [Rows.uptoBulkAll, List.map_cons, List.sum_cons]
    omega
theorem tot_take (ol : List OpE) : ∀ k, tot ol k ≤ (((ol.map fun x => x.dn).take k).sum : Nat)
  | 0 => by simp [tot]
  | k + 1 => by
    have := tot_take ol k
    simp only [tot]
    rw [List.take_add_one, List.sum_append, List.getElem?_map]
    cases ol[k]? with
    | none => simp; omega
    | some x => simp; omega
theorem sum_take : ∀ (l : List Nat) (k : Nat), (l.take k).sum ≤ l.sum
  | [], k => by simp
  | x :: l, 0 => by simp
  | x :: l, k + 1 => by have := sum_take l k; simp only [List.take_succ_cons, List.sum_cons]; omega
theorem tot_bulk16 {H : Type} (ol : List OpE) (ds : List (DataW H)) (hl : ol.length = ds.length) (h : ∀ (i : Nat) (x : OpE) (d : DataW H), ol[i]? = some x → ds[i]? = some d → x.dn ≤ Rows.uptoBulk d) (k : Nat) : tot ol k ≤ (Rows.uptoBulkAll ds : Nat) := by
  have h1 := tot_take ol k
  have h2 := tot_all ol ds hl h
  have h3 := sum_take (ol.map fun x => x.dn) k
  omega

section
variable {H : Type} {enc : TypeId × Value → H} {w : World} {base : Nat} {spare : Nat → Bool} {held : Bool}

theorem data_bulk {n : Nat} {v : Value} {y : DataW H × List MemPlace} (h : DataW.trod enc Try.prog w base spare held n 22 [v] = some y) (hw : ∀ k ∈ y.1.weights Try.prog 22, k ≤ reachBytes) :
    ∃ a l c p, v = .slice a l c ∧ p.length = l ∧ Rd w a p ∧ (l ≤ c ∧ c ≤ 9223372036854775807) ∧ l ≤ 140737488355328 ∧ l ≤ Rows.uptoBulk y.1 := by
  have c5 : Try.prog.cellsOf 5 = 1 := by kernel_rfl
  rcases Go.Deep.open_slice Try.underlying22 h with ⟨hcs, _⟩ | ⟨ad, l, c, m, nn, D, Pl, hcs, _, hl, hm, hmm, hxe, hx⟩
  · simp at hcs
    subst hcs
    exact ⟨none, 0, 0, [], rfl, rfl, ⟨fun x hx => (by cases hx), fun hne => absurd rfl hne⟩, by omega, by omega, by omega⟩
  · simp at hcs
    subst hcs
    have hlm : l ≤ m := by rw [hmm]; split <;> omega
    have each : ∀ i, i < l → ∃ x : Int, IsB x ∧ w.cell? (ad.add i) = some (.int .u8 x) := fun i hi => by
      obtain ⟨cs', h1, h2⟩ := hx i (by omega)
      rw [c5] at h1
      obtain ⟨_, hlen, hcell⟩ := World.cells?_some h1
      obtain ⟨z, e, _, r⟩ := DataW.trod_int Try.underlying5 h2
      subst e
      refine ⟨z, wf_u8 r, ?_⟩
      have := hcell 0 (by omega)
      rw [Nat.mul_one] at this
      rw [add_0] at this
      exact this
    obtain ⟨p, hp, hP⟩ := list_gen l each
    refine ⟨_, _, _, p, rfl, hp, ⟨fun x hx => ?_, fun hne => ?_⟩, ⟨hl, by unfold maxLen at hm; omega⟩, ?_, ?_⟩
    · obtain ⟨i, hi⟩ := List.getElem?_of_mem hx
      exact (hP i x hi).1
    · have h0 : 0 < l := by rw [← hp]; exact List.length_pos_iff.2 hne
      obtain ⟨x, _, hc⟩ := each 0 h0
      rw [add_0] at hc
      have hs := spot_none hc
      obtain ⟨bb, off, sp⟩ := ad
      simp only at hs
      subst hs
      refine ⟨bb, off, rfl, fun i hi => ?_⟩
      have hv : p[i]? = some (p[i]'hi) := List.getElem?_eq_getElem _
      have := (hP i _ hv).2
      rw [Addr.add_lit] at this
      rw [this]
      simp [List.getD, hv]
    · have hb : Try.prog.bytesOf 5 = 1 := by kernel_rfl
      have := hw ((m : Nat) * 1) (by
        rw [hxe]
        simp only [DataW.weights, Try.underlying22, List.mem_cons]
        left
        rw [hb]
        simp only [List.length_map, List.length_range]
        omega)
      unfold reachBytes at this
      omega
    · rw [hxe]
      have := bulk_slice (H := H) ((List.range l).map D) ((List.range (m - l)).map fun j => D (l + j))
      simp only [List.length_map, List.length_range] at this
      exact Nat.le_of_lt (Nat.lt_of_le_of_lt (Nat.le_add_right _ _) this)

theorem weights_all {P : Program} {e : TypeId} : ∀ {l : List (DataW H)} {d : DataW H}, d ∈ l → ∀ k ∈ d.weights P e, k ∈ DataW.weightsAll P e l
  | d0 :: l, d, h, k, hk => by
    simp only [DataW.weightsAll, List.mem_append]
    rcases List.mem_cons.1 h with rfl | h
    · exact .inl hk
    · exact .inr (weights_all h k hk)

theorem op_bulk {n : Nat} {cs : List Value} {y : DataW H × List MemPlace} (h2 : DataW.trod enc Try.prog w base spare held n 43 cs = some y) (hl : cs.length = 6) (hw : ∀ k ∈ y.1.weights Try.prog 43, k ≤ reachBytes) : ∃ x : OpE, x.Ok w ∧ cs = x.cs ∧ x.dn ≤ Rows.uptoBulk y.1 := by
  obtain ⟨xs, m, hk, hxy, hcl, hxl, hf⟩ := DataW.trod_struct Try.underlying43 h2
  have c3 : Try.prog.cellsOf 3 = 1 := by kernel_rfl
  have c2 : Try.prog.cellsOf 2 = 1 := by kernel_rfl
  have c4 : Try.prog.cellsOf 4 = 1 := by kernel_rfl
  have cB : Try.prog.cellsOf 22 = 1 := by kernel_rfl
  match xs, hxl, cs, hl with
  | [y0, y1, y2, y3, y4, y5], _, [v0, v1, v2, v3, v4, v5], _ =>
    have f0 := hf 0 _ rfl
    have f1 := hf 1 _ rfl
    have f2 := hf 2 _ rfl
    have f3 := hf 3 _ rfl
    have f4 := hf 4 _ rfl
    have f5 := hf 5 _ rfl
    simp [c2, c3, c4, cB] at f0 f1 f2 f3 f4 f5
    obtain ⟨k, e0, _, r0⟩ := DataW.trod_int Try.underlying3 f0
    obtain ⟨o, e1, _⟩ := DataW.trod_bool Try.underlying4 f1
    obtain ⟨i, e2, _, r3⟩ := DataW.trod_int Try.underlying2 f2
    obtain ⟨l, e4, _⟩ := DataW.trod_bool Try.underlying4 f4
    obtain ⟨mo, e5, _, r6⟩ := DataW.trod_int Try.underlying3 f5
    have hy : y.1 = .agg [y0.1, y1.1, y2.1, y3.1, y4.1, y5.1] := by rw [hxy]; rfl
    obtain ⟨a, dn, dc, p, e3, hp, hrd, hcp, hbig, hbk⟩ := data_bulk f3 (fun k hk => hw k (by
      rw [hy]
      simp only [DataW.weights, Try.underlying43]
      exact DataW.weights_mem_each (j := 3) (t := 22) (d := y3.1) rfl rfl k hk))
    simp only [List.cons.injEq, and_true] at e0 e1 e2 e4 e5
    subst e0 e1 e2 e3 e4 e5
    refine ⟨⟨k, o, i, a, dn, dc, l, mo, p⟩, ⟨wf_i64 r0, wf_i64 r3, wf_i64 r6, hp, hcp, hbig, hrd⟩, rfl, ?_⟩
    show dn ≤ Rows.uptoBulk y.1
    have h3 : Rows.uptoBulk y.1 = Rows.uptoBulkAll [y0.1, y1.1, y2.1, y3.1, y4.1, y5.1] + 1 := by rw [hy, Rows.uptoBulk]
    have b1 := Nat.le_trans hbk (bulk_among (d := y3.1) (l := [y0.1, y1.1, y2.1, y3.1, y4.1, y5.1]) (by simp))
    omega

theorem open_ops_bulk {a : Option Addr} {len cap fuel : Nat} {x : DataW H × List MemPlace} (hf : DataW.trod enc Try.prog w base spare held fuel 41 [.slice a len cap] = some x) (hw : ∀ k ∈ x.1.weights Try.prog 41, k ≤ reachBytes) (hb : Rows.uptoBulk x.1 ≤ 1048576) : ∃ ol, IsOps w a len cap ol ∧ len ≤ 1048576 ∧ tot ol len ≤ 1048576 ∧ ∀ x ∈ ol, x.dn ≤ 1048576 := by
  have c7 : Try.prog.cellsOf 43 = 6 := by kernel_rfl
  rcases Go.Deep.open_slice Try.underlying41 hf with ⟨hcs, _⟩ | ⟨ad, l, c, m, n, D, Pl, hcs, _, hl, hm, hmm, hxe, hx⟩
  · simp at hcs
    obtain ⟨rfl, rfl, rfl⟩ := hcs
    exact ⟨[], ⟨rfl, by omega, by simp, .inl rfl⟩, by omega, by simp [tot], by simp⟩
  · simp at hcs
    obtain ⟨rfl, rfl, rfl⟩ := hcs
    have hlm : len ≤ m := by rw [hmm]; split <;> omega
    have hx1 : x.1 = .slice ((List.range len).map D) ((List.range (m - len)).map fun j => D (len + j)) := by rw [hxe]
    rw [hx1] at hb
    simp only [Rows.uptoBulk] at hb
    have bk : Rows.uptoBulkAll ((List.range len).map D) ≤ 1048575 := by omega
    have hD : ∀ i, i < len → ∀ k ∈ (D i).weights Try.prog 43, k ≤ reachBytes := fun i hi k hk => hw k (by
      rw [hx1]
      simp only [DataW.weights, Try.underlying41, List.mem_cons, List.mem_append]
      exact .inr (.inl (weights_all (d := D i) (List.mem_map.2 ⟨i, by simpa using hi, rfl⟩) k hk)))
    have each : ∀ i, i < len → ∃ x : OpE, (x.Ok w ∧ x.dn ≤ Rows.uptoBulk (D i)) ∧ ∀ j v, x.cs[j]? = some v → w.cell? (ad.add (i * 6) |>.add j) = some v := fun i hi => by
      obtain ⟨cs', h1, h2⟩ := hx i (by omega)
      rw [c7] at h1
      obtain ⟨_, hlen, hcell⟩ := World.cells?_some h1
      obtain ⟨x, ok, rfl, bx⟩ := op_bulk h2 hlen (hD i hi)
      exact ⟨x, ⟨ok, bx⟩, fun j v hj => by rw [hcell j (by have := (List.getElem?_eq_some_iff.1 hj).1; simpa [OpE.cs] using this)]; exact hj⟩
    obtain ⟨ol, hol, hP⟩ := list_gen len each
    have tl : len ≤ 1048576 := by
      have := bulk_count ((List.range len).map D)
      simp only [List.length_map, List.length_range] at this
      omega
    have db : ∀ (i : Nat) (x : OpE) (d : DataW H), ol[i]? = some x → ((List.range len).map D)[i]? = some d → x.dn ≤ Rows.uptoBulk d := fun i x d hxi hd => by
      have hi : i < len := by rw [← hol]; exact (List.getElem?_eq_some_iff.1 hxi).1
      rw [List.getElem?_map, List.getElem?_range hi] at hd
      simp only [Option.map_some, Option.some.injEq] at hd
      subst hd
      exact (hP i x hxi).1.2
    have tt := tot_bulk16 ol ((List.range len).map D) (by simp [hol]) db len
    refine ⟨ol, ⟨hol, ⟨hl, by unfold maxLen at hm; omega⟩, fun x hx => ?_, ?_⟩, tl, by omega, fun x hx => ?_⟩
    · obtain ⟨i, hi⟩ := List.getElem?_of_mem hx
      exact (hP i x hi).1.1
    · by_cases h0 : len = 0
      · exact .inl h0
      · right
        obtain ⟨x, ok, hc⟩ := each 0 (by omega)
        have hs : ad.spot = none := by
          have := hc 0 _ rfl
          rw [Nat.zero_mul, add_0, add_0] at this
          exact spot_none this
        obtain ⟨bb, off, sp⟩ := ad
        simp only at hs
        subst hs
        refine ⟨bb, off, rfl, fun i x hi => ?_⟩
        intro j v hj
        have := (hP i x hi).2 j v hj
        simpa only [Addr.add_lit] using this
    · obtain ⟨i, hi⟩ := List.getElem?_of_mem hx
      have hil : i < len := by rw [← hol]; exact (List.getElem?_eq_some_iff.1 hi).1
      have := db i x (D i) hi (by rw [List.getElem?_map, List.getElem?_range hil]; rfl)
      have := bulk_among (d := D i) (l := (List.range len).map D) (List.mem_map.2 ⟨i, by simpa using hil, rfl⟩)
      omega
end

def PickP (w : World) (e : Ending) (w' : World) : Prop := ∃ k : Nat, e = .returned (.int .i64 (k : Int)) ∧ k < 5 ∧ w' = w
theorem pick5 (c : Int) (w : World) (hc : -9223372036854775808 ≤ c ∧ c ≤ 9223372036854775807) : Calls Try.prog 8 #[.int .i64 c, .int .i64 5] w (PickP w) := by
  by_cases h : c < 0
  · have d : decide (c < 0) = true := decide_eq_true h
    have w1 : IntKind.i64.wrap (c + 1) = c + 1 := by rw [IntKind.wrap_i64]; omega
    have w2 : IntKind.i64.wrap (-(c + 1)) = -(c + 1) := by rw [IntKind.wrap_i64]; omega
    obtain ⟨m, hm⟩ : ∃ m : Nat, -(c + 1) = (m : Int) := ⟨(-(c + 1)).toNat, by omega⟩
    have ht : Int.tmod (-(c + 1)) 5 = ((m % 5 : Nat) : Int) := by rw [hm, show (5 : Int) = ((5 : Nat) : Int) from rfl, ← Int.ofNat_tmod]
    have HM := hide hm
    clear hm
    have hk : m % 5 < 5 := Nat.mod_lt _ (by omega)
    generalize m % 5 = k at *
    go_enter Try.func8, Try.ntmps8
    go_wp2
    all_goals go_ret
    all_goals exact ⟨k, by simp [*], hk, rfl⟩
  · have d : decide (c < 0) = false := decide_eq_false h
    obtain ⟨m, hm⟩ : ∃ m : Nat, c = (m : Int) := ⟨c.toNat, by omega⟩
    have ht : Int.tmod c 5 = ((m % 5 : Nat) : Int) := by rw [hm, show (5 : Int) = ((5 : Nat) : Int) from rfl, ← Int.ofNat_tmod]
    have HM := hide hm
    clear hm
    have hk : m % 5 < 5 := Nat.mod_lt _ (by omega)
    generalize m % 5 = k at *
    go_enter Try.func8, Try.ntmps8
    go_wp2
    all_goals go_ret
    all_goals exact ⟨k, by simp [*], hk, rfl⟩
end Go.Proofs.Ythihabjegpacaaa
