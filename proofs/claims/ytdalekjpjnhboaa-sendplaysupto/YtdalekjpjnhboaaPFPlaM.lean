/- BK, S9I, PFPla, one text. -/
import Derived.Test.YtdalekjpjnhboaaRows
import Derived.Test.YtdalekjpjnhboaaM9D
import Derived.ProofKit
import Derived.OpenShut
import Derived.ShutString
import Derived.ChangeOld
import Derived.SizedLaws
import Derived.Deep.Slices
import Derived.JoinedCond
import Derived.Deep.CondSized
namespace Go.Proofs.Ytdalekjpjnhboaa
set_option maxRecDepth 100000

theorem bulk_pos {H : Type} (d : DataW H) : 0 < Rows.uptoBulk d := by
  cases d with
  | lit l => cases l <;> simp [Rows.uptoBulk]
  | _ => simp [Rows.uptoBulk]

theorem bulk_count {H : Type} : ∀ l : List (DataW H), l.length ≤ Rows.uptoBulkAll l
  | [] => Nat.zero_le _
  | d :: r => by
    have h1 := bulk_pos d
    have h2 := bulk_count r
    simp only [Rows.uptoBulkAll, List.length_cons]
    omega

theorem bulk_slice {H : Type} (e s : List (DataW H)) : e.length + s.length < Rows.uptoBulk (.slice e s) := by
  have h1 := bulk_count e
  have h2 := bulk_count s
  simp only [Rows.uptoBulk]
  omega

theorem bulk_among {H : Type} {d : DataW H} : ∀ {l : List (DataW H)}, d ∈ l → Rows.uptoBulk d ≤ Rows.uptoBulkAll l
  | x :: r, h => by
    simp only [Rows.uptoBulkAll]
    rcases List.mem_cons.1 h with e | e
    · subst e; omega
    · have := bulk_among e; omega

theorem bulk_mem {H : Type} {d : DataW H} {l : List (DataW H)} (hk : Rows.uptoSmall H l = true) (h : d ∈ l) : Rows.uptoBulk d ≤ 1048576 := by
  have h1 : Rows.uptoBulkAll l ≤ 1048576 := of_decide_eq_true hk
  have h2 := bulk_among h
  omega
end Go.Proofs.Ytdalekjpjnhboaa

namespace Go.Proofs.Ytdalekjpjnhboaa
open Go.ChangeShapes Go.WideShapes Go.ChangeAt Go.RowKit
set_option linter.unusedVariables false
set_option maxRecDepth 100000
set_option maxHeartbeats 1000000

theorem tot_all {H : Type} : ∀ (ol : List OpE) (ds : List (DataW H)), ol.length = ds.length → (∀ (i : Nat) (x : OpE) (d : DataW H), ol[i]? = some x → ds[i]? = some d → x.dn ≤ Rows.uptoBulk d) → (ol.map fun x => x.dn).sum ≤ Rows.uptoBulkAll ds
  | [], _, _, _ => Nat.zero_le _
  | x :: xs, [], hl, _ => by simp at hl
  | x :: xs, d :: ds, hl, h => by
    have h1 := h 0 x d rfl rfl
    have h3 := tot_all xs ds (by simpa using hl) (fun i y e hy he => h (i + 1) y e (by simpa using hy) (by simpa using he))
    simp only [Rows.uptoBulkAll, List.map_cons, List.sum_cons]
    omega
theorem tot_take (ol : List OpE) : ∀ k, tot ol k ≤ (((ol.map fun x => x.dn).take k).sum : Nat)
  | 0 => by simp [tot]
  | k + 1 => by
    have := tot_take ol k
    simp only [tot]
    rw [List.take_add_one, List.sum_append, List.getElem?_map]
    cases ol[k]? with
    | none => simp; omega
    | some x => simp; omega
theorem sum_take : ∀ (l : List Nat) (k : Nat), (l.take k).sum ≤ l.sum
  | [], k => by simp
  | x :: l, 0 => by simp
  | x :: l, k + 1 => by have := sum_take l k; simp only [List.take_succ_cons, List.sum_cons]; omega
theorem tot_bulk15 {H : Type} (ol : List OpE) (ds : List (DataW H)) (hl : ol.length = ds.length) (h : ∀ (i : Nat) (x : OpE) (d : DataW H), ol[i]? = some x → ds[i]? = some d → x.dn ≤ Rows.uptoBulk d) (k : Nat) : tot ol k ≤ (Rows.uptoBulkAll ds : Nat) := by
  have h1 := tot_take ol k
  have h2 := tot_all ol ds hl h
  have h3 := sum_take (ol.map fun x => x.dn) k
  omega

section
variable {H : Type} {enc : TypeId × Value → H} {w : World} {base : Nat} {spare : Nat → Bool} {held : Bool}

theorem data_bulk {n : Nat} {v : Value} {y : DataW H × List MemPlace} (h : DataW.trod enc Try.prog w base spare held n 33 [v] = some y) (hw : ∀ k ∈ y.1.weights Try.prog 33, k ≤ reachBytes) :
    ∃ a l c p, v = .slice a l c ∧ p.length = l ∧ Rd w a p ∧ (l ≤ c ∧ c ≤ 9223372036854775807) ∧ l ≤ 140737488355328 ∧ l ≤ Rows.uptoBulk y.1 := by
  have c5 : Try.prog.cellsOf 5 = 1 := by kernel_rfl
  rcases Go.Deep.open_slice Try.underlying33 h with ⟨hcs, _⟩ | ⟨ad, l, c, m, nn, D, Pl, hcs, _, hl, hm, hmm, hxe, hx⟩
  · simp at hcs
    subst hcs
    exact ⟨none, 0, 0, [], rfl, rfl, ⟨fun x hx => (by cases hx), fun hne => absurd rfl hne⟩, by omega, by omega, by omega⟩
  · simp at hcs
    subst hcs
    have hlm : l ≤ m := by rw [hmm]; split <;> omega
    have each : ∀ i, i < l → ∃ x : Int, IsB x ∧ w.cell? (ad.add i) = some (.int .u8 x) := fun i hi => by
      obtain ⟨cs', h1, h2⟩ := hx i (by omega)
      rw [c5] at h1
      obtain ⟨_, hlen, hcell⟩ := World.cells?_some h1
      obtain ⟨z, e, _, r⟩ := DataW.trod_int Try.underlying5 h2
      subst e
      refine ⟨z, wf_u8 r, ?_⟩
      have := hcell 0 (by omega)
      rw [Nat.mul_one] at this
      rw [add_0] at this
      exact this
    obtain ⟨p, hp, hP⟩ := list_gen l each
    refine ⟨_, _, _, p, rfl, hp, ⟨fun x hx => ?_, fun hne => ?_⟩, ⟨hl, by unfold maxLen at hm; omega⟩, ?_, ?_⟩
    · obtain ⟨i, hi⟩ := List.getElem?_of_mem hx
      exact (hP i x hi).1
    · have h0 : 0 < l := by rw [← hp]; exact List.length_pos_iff.2 hne
      obtain ⟨x, _, hc⟩ := each 0 h0
      rw [add_0] at hc
      have hs := spot_none hc
      obtain ⟨bb, off, sp⟩ := ad
      simp only at hs
      subst hs
      refine ⟨bb, off, rfl, fun i hi => ?_⟩
      have hv : p[i]? = some (p[i]'hi) := List.getElem?_eq_getElem _
      have := (hP i _ hv).2
      rw [Addr.add_lit] at this
      rw [this]
      simp [List.getD, hv]
    · have hb : Try.prog.bytesOf 5 = 1 := by kernel_rfl
      have := hw ((m : Nat) * 1) (by
        rw [hxe]
        simp only [DataW.weights, Try.underlying33, List.mem_cons]
        left
        rw [hb]
        simp only [List.length_map, List.length_range]
        omega)
      unfold reachBytes at this
      omega
    · rw [hxe]
      have := bulk_slice (H := H) ((List.range l).map D) ((List.range (m - l)).map fun j => D (l + j))
      simp only [List.length_map, List.length_range] at this
      exact Nat.le_of_lt (Nat.lt_of_le_of_lt (Nat.le_add_right _ _) this)

theorem op_bulk {n : Nat} {cs : List Value} {y : DataW H × List MemPlace} (h2 : DataW.trod enc Try.prog w base spare held n 40 cs = some y) (hl : cs.length = 7) (hw : ∀ k ∈ y.1.weights Try.prog 40, k ≤ reachBytes) : ∃ x : OpE, x.Ok w ∧ cs = x.cs ∧ x.dn ≤ Rows.uptoBulk y.1 := by
  obtain ⟨xs, m, hk, hxy, hcl, hxl, hf⟩ := DataW.trod_struct Try.underlying40 h2
  have c3 : Try.prog.cellsOf 3 = 1 := by kernel_rfl
  have c2 : Try.prog.cellsOf 2 = 1 := by kernel_rfl
  have c4 : Try.prog.cellsOf 4 = 1 := by kernel_rfl
  have cB : Try.prog.cellsOf 33 = 1 := by kernel_rfl
  match xs, hxl, cs, hl with
  | [y0, y1, y2, y3, y4, y5, y6], _, [v0, v1, v2, v3, v4, v5, v6], _ =>
    have f0 := hf 0 _ rfl
    have f1 := hf 1 _ rfl
    have f2 := hf 2 _ rfl
    have f3 := hf 3 _ rfl
    have f4 := hf 4 _ rfl
    have f5 := hf 5 _ rfl
    have f6 := hf 6 _ rfl
    simp [c2, c3, c4, cB] at f0 f1 f2 f3 f4 f5 f6
    obtain ⟨k, e0, _, r0⟩ := DataW.trod_int Try.underlying3 f0
    obtain ⟨o, e1, _⟩ := DataW.trod_bool Try.underlying4 f1
    obtain ⟨i, e3, _, r3⟩ := DataW.trod_int Try.underlying2 f3
    obtain ⟨s, e4, _, r4⟩ := DataW.trod_int Try.underlying2 f4
    obtain ⟨l, e5, _⟩ := DataW.trod_bool Try.underlying4 f5
    obtain ⟨mo, e6, _, r6⟩ := DataW.trod_int Try.underlying3 f6
    have hy : y.1 = .agg [y0.1, y1.1, y2.1, y3.1, y4.1, y5.1, y6.1] := by rw [hxy]; rfl
    obtain ⟨a, dn, dc, p, e2, hp, hrd, hcp, hbig, hbk⟩ := data_bulk f2 (fun k hk => hw k (by
      rw [hy]
      simp only [DataW.weights, Try.underlying40]
      exact DataW.weights_mem_each (j := 2) (t := 33) (d := y2.1) rfl rfl k hk))
    simp only [List.cons.injEq, and_true] at e0 e1 e3 e4 e5 e6
    subst e0 e1 e2 e3 e4 e5 e6
    refine ⟨⟨k, o, a, dn, dc, i, s, l, mo, p⟩, ⟨wf_i64 r0, wf_i64 r3, wf_i64 r4, wf_i64 r6, hp, hcp, hbig, hrd⟩, rfl, ?_⟩
    show dn ≤ Rows.uptoBulk y.1
    have h3 : Rows.uptoBulk y.1 = Rows.uptoBulkAll [y0.1, y1.1, y2.1, y3.1, y4.1, y5.1, y6.1] + 1 := by rw [hy, Rows.uptoBulk]
    have b1 := Nat.le_trans hbk (bulk_among (d := y2.1) (l := [y0.1, y1.1, y2.1, y3.1, y4.1, y5.1, y6.1]) (by simp))
    omega

theorem open_ops_bulk {a : Option Addr} {len cap fuel : Nat} {x : DataW H × List MemPlace} (hf : DataW.trod enc Try.prog w base spare held fuel 22 [.slice a len cap] = some x) (hw : ∀ k ∈ x.1.weights Try.prog 22, k ≤ reachBytes) (hb : Rows.uptoBulk x.1 ≤ 1048576) : ∃ ol, IsOps w a len cap ol ∧ len ≤ 1048576 ∧ tot ol len ≤ 1048576 ∧ ∀ x ∈ ol, x.dn ≤ 1048576 := by
  have c7 : Try.prog.cellsOf 40 = 7 := by kernel_rfl
  rcases Go.Deep.open_slice Try.underlying22 hf with ⟨hcs, _⟩ | ⟨ad, l, c, m, n, D, Pl, hcs, _, hl, hm, hmm, hxe, hx⟩
  · simp at hcs
    obtain ⟨rfl, rfl, rfl⟩ := hcs
    exact ⟨[], ⟨rfl, by omega, by simp, .inl rfl⟩, by omega, by simp [tot], by simp⟩
  · simp at hcs
    obtain ⟨rfl, rfl, rfl⟩ := hcs
    have hlm : len ≤ m := by rw [hmm]; split <;> omega
    have hx1 : x.1 = .slice ((List.range len).map D) ((List.range (m - len)).map fun j => D (len + j)) := by rw [hxe]
    rw [hx1] at hb
    simp only [Rows.uptoBulk] at hb
    have bk : Rows.uptoBulkAll ((List.range len).map D) ≤ 1048575 := by omega
    have hD : ∀ i, i < len → ∀ k ∈ (D i).weights Try.prog 40, k ≤ reachBytes := fun i hi k hk => hw k (by
      rw [hx1]
      simp only [DataW.weights, Try.underlying22, List.mem_cons, List.mem_append]
      exact .inr (.inl (weights_all (d := D i) (List.mem_map.2 ⟨i, by simpa using hi, rfl⟩) k hk)))
    have each : ∀ i, i < len → ∃ x : OpE, (x.Ok w ∧ x.dn ≤ Rows.uptoBulk (D i)) ∧ ∀ j v, x.cs[j]? = some v → w.cell? (ad.add (i * 7) |>.add j) = some v := fun i hi => by
      obtain ⟨cs', h1, h2⟩ := hx i (by omega)
      rw [c7] at h1
      obtain ⟨_, hlen, hcell⟩ := World.cells?_some h1
      obtain ⟨x, ok, rfl, bx⟩ := op_bulk h2 hlen (hD i hi)
      exact ⟨x, ⟨ok, bx⟩, fun j v hj => by rw [hcell j (by have := (List.getElem?_eq_some_iff.1 hj).1; simpa [OpE.cs] using this)]; exact hj⟩
    obtain ⟨ol, hol, hP⟩ := list_gen len each
    have tl : len ≤ 1048576 := by
      have := bulk_count ((List.range len).map D)
      simp only [List.length_map, List.length_range] at this
      omega
    have db : ∀ (i : Nat) (x : OpE) (d : DataW H), ol[i]? = some x → ((List.range len).map D)[i]? = some d → x.dn ≤ Rows.uptoBulk d := fun i x d hxi hd => by
      have hi : i < len := by rw [← hol]; exact (List.getElem?_eq_some_iff.1 hxi).1
      rw [List.getElem?_map, List.getElem?_range hi] at hd
      simp only [Option.map_some, Option.some.injEq] at hd
      subst hd
      exact (hP i x hxi).1.2
    have tt := tot_bulk15 ol ((List.range len).map D) (by simp [hol]) db len
    refine ⟨ol, ⟨hol, ⟨hl, by unfold maxLen at hm; omega⟩, fun x hx => ?_, ?_⟩, tl, by omega, fun x hx => ?_⟩
    · obtain ⟨i, hi⟩ := List.getElem?_of_mem hx
      exact (hP i x hi).1.1
    · by_cases h0 : len = 0
      · exact .inl h0
      · right
        obtain ⟨x, ok, hc⟩ := each 0 (by omega)
        have hs : ad.spot = none := by
          have := hc 0 _ rfl
          rw [Nat.zero_mul, add_0, add_0] at this
          exact spot_none this
        obtain ⟨bb, off, sp⟩ := ad
        simp only at hs
        subst hs
        refine ⟨bb, off, rfl, fun i x hi => ?_⟩
        intro j v hj
        have := (hP i x hi).2 j v hj
        simpa only [Addr.add_lit] using this
    · obtain ⟨i, hi⟩ := List.getElem?_of_mem hx
      have hil : i < len := by rw [← hol]; exact (List.getElem?_eq_some_iff.1 hi).1
      have := db i x (D i) hi (by rw [List.getElem?_map, List.getElem?_range hil]; rfl)
      have := bulk_among (d := D i) (l := (List.range len).map D) (List.mem_map.2 ⟨i, by simpa using hil, rfl⟩)
      omega
end
end Go.Proofs.Ytdalekjpjnhboaa

namespace Go.Proofs.Ytdalekjpjnhboaa
open Go.ChangeShapes Go.WideShapes Go.ChangeAt Go.RowKit
set_option linter.unusedVariables false
set_option maxRecDepth 100000

theorem plays_walk (cap oth : Int) (oa : Option Addr) (len ocap : Nat) (ol : List OpE) (w : World) (hops : IsOps w oa len ocap ol) (hlen : len ≤ 1048576) (htot : tot ol len ≤ 1048576) (hb : ∀ x ∈ ol, x.dn ≤ 1048576) :
    Calls Try.prog 3 #[.int .i64 cap, .int .i64 oth, .slice oa len ocap] w fun e w' => e = .returned (.bool true) ∧ w.grownBy w' none := by
  by_cases hc : 1 ≤ cap ∧ cap ≤ 65536
  · by_cases hd : 1 ≤ oth ∧ oth ≤ 65536
    · exact plays_11 cap oth oa len ocap ol w hops hlen htot hb hc hd
    · exact plays_10 cap oth oa len ocap ol w hops hlen htot hb hc hd
  · by_cases hd : 1 ≤ oth ∧ oth ≤ 65536
    · exact plays_01 cap oth oa len ocap ol w hops hlen htot hb hc hd
    · exact plays_00 cap oth oa len ocap ol w hops hlen htot hb hc hd

namespace sendPlaysFrame

theorem own : ownKnob Try.prog.godebug = none := by kernel_rfl
theorem laidOut : laidOutB Try.prog = true := by kernel_rfl

set_option maxRecDepth 100000 in
theorem lifted (os : Os) (started : os.Started) (H : Type) (enc : TypeId × Value → H) (F : Stop.Interp) :
    ReturnsInHanded {} Try.checked os 3 .any ((Rows.OpenSpec.upto Rows.sendPlaysSpec).pre6 enc Try.prog Try.f3 Rows.sendPlaysUptoRow.domain false) (((Rows.OpenSpec.upto Rows.sendPlaysSpec).at F).post enc Try.prog Try.f3 false true false false) := by
  refine returnsInHanded_of_cond_sized (C := Try.checked) (s := Rows.OpenSpec.upto Rows.sendPlaysSpec) (k := Rows.uptoSmall) rfl own started (by kernel_rfl) Try.func3
    (OpenSpec.witness (enc := enc) (C := Try.checked) (s := Rows.OpenSpec.upto Rows.sendPlaysSpec) (k := Rows.uptoSmall) rfl false ⟨#[], #[.int .i64 0, .int .i64 0, .slice none 0 0], []⟩ 8 (by kernel_rfl) (by kernel_rfl) (by kernel_rfl)
      (x := ([.lit (.int .i64 0), .lit (.int .i64 0), .nil], [], [])) (by kernel_rfl) rfl (by kernel_rfl)) ?_
  intro W base args ds gs before hval0 hW hcnd hk hsz0 _
  have hsz : (DataW.weightsEach Try.prog (Try.f3.params.toList ++ (Rows.OpenSpec.upto Rows.sendPlaysSpec).bare.plain.varTypes Try.prog) (ds ++ gs)).all (· ≤ reachBytes) = true := hsz0
  have hval : ∀ (j : Nat) t v, Try.f3.params[j]? = some t → args[j]? = some v → Value.okWide Try.prog W .any base t v := hval0
  have hW' := hW
  obtain ⟨p, q, hA0, hV, rfl, hfz, hnd⟩ := hW
  have hA : DataW.TrodAll enc Try.prog W 0 (fun _ => true) true Try.f3.params.toList args.toList ds p := hA0
  rw [Try.params3] at hA hval hsz
  obtain ⟨v0, vs0, d0, ds0, p0, q0, hargs, rfl, rfl, h0, r0⟩ := trodAll_cons hA
  obtain ⟨v1, vs1, d1, ds1, p1, q1, rfl, rfl, rfl, h1, r1⟩ := trodAll_cons r0
  obtain ⟨v2, vs2, d2, ds2, p2, q2, rfl, rfl, rfl, h2, r2⟩ := trodAll_cons r1
  obtain ⟨rfl, rfl, rfl⟩ := trodAll_nil r2
  obtain rfl : args = #[v0, v1, v2] := by cases args; simp_all
  obtain ⟨rfl, rfl⟩ := trodVars_none hV
  have k0 := h0
  have lt0 : ∀ x ∈ p0, x.block < W.heap.size := by obtain ⟨m, hm⟩ := k0; exact DataW.trod_lt m _ _ _ hm
  obtain ⟨a0, rfl, rfl, rfl, w0⟩ := open_int Try.underlying3 (hval 0 3 v0 rfl rfl) h0
  have k1 := h1
  have lt1 : ∀ x ∈ p1, x.block < W.heap.size := by obtain ⟨m, hm⟩ := k1; exact DataW.trod_lt m _ _ _ hm
  obtain ⟨a1, rfl, rfl, rfl, w1⟩ := open_int Try.underlying3 (hval 1 3 v1 rfl rfl) h1
  have k2 := h2
  have lt2 : ∀ x ∈ p2, x.block < W.heap.size := by obtain ⟨m, hm⟩ := k2; exact DataW.trod_lt m _ _ _ hm
  obtain ⟨a2, len2, cap2, rfl⟩ := okWide_slice Try.underlying22 (hval 2 22 v2 rfl rfl)
  obtain ⟨ol2, w2, b2, t2, m2⟩ : ∃ ol, IsOps W a2 len2 cap2 ol ∧ len2 ≤ 1048576 ∧ tot ol len2 ≤ 1048576 ∧ ∀ x ∈ ol, x.dn ≤ 1048576 := by
    obtain ⟨fuel, hf⟩ := h2
    exact open_ops_bulk (x := (d2, p2)) (by simpa [Value.cells] using hf) (fun k hk => by
      have := List.all_eq_true.1 hsz k (DataW.weights_mem_each (j := 2) (t := 22) (d := d2) rfl rfl k hk)
      simpa using this) (bulk_mem hk (d := d2) (by simp))
  clear hA0 hval0
  refine (plays_walk a0 a1 a2 len2 cap2 ol2 W w2 b2 t2 m2).mono fun e W' ⟨he, gr⟩ => ?_
  have bel : Below W.heap.size W W' := (Below.refl _ W).grown gr (Nat.le_refl _) (fun k hk => by cases hk)
  subst he
  exact ⟨_, rfl, _, _, _, [], _, [], hW', trodAll_mk1 (shut_bool Try.underlying4 _), (trodAll_cons_mk (shut_int Try.underlying3 w0) (trodAll_cons_mk (shut_int Try.underlying3 w1) (trodAll_cons_mk (Below.trod laidOut (by kernel_rfl) (of_decide_eq_true (by kernel_rfl)) k2 bel lt2) trodAll_mk0))), rfl, bel.frame _, fun h => by cases h⟩

theorem over : Rows.sendPlaysUptoRow.holds Try.pinned (Rows.OpenSpec.upto Rows.sendPlaysSpec) :=
  OpenClaim.holds_of_cond 3 Try.f3 rfl rfl rfl rfl rfl rfl rfl ⟨rfl, rfl, rfl, rfl, rfl⟩ rfl rfl rfl rfl rfl (by kernel_rfl) Try.func3 (by kernel_rfl)
    (of_decide_eq_true (by kernel_rfl)) (by unfold Func.isWrapper; first | (rw [if_pos (by decide +kernel)]; kernel_rfl) | (rw [if_neg (by decide +kernel)]; exact ⟨rfl, rfl⟩))
    (fun os started H enc _ F => lifted os started H enc F)
end sendPlaysFrame

/-- THE STATEMENT -/
theorem sendPlays_holds : Rows.SendPlaysUptoSaid := sendPlaysFrame.over
end Go.Proofs.Ytdalekjpjnhboaa
