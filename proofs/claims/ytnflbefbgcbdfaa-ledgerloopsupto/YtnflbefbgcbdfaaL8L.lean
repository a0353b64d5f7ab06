/- BK, L7C, L7E, L9A, L9B, L9C, PDLoo, one text. -/
import Derived.Test.YtnflbefbgcbdfaaRows
import Derived.Test.YtnflbefbgcbdfaaL8E
import Derived.ProofKit
import Derived.OpenShut
import Derived.ShutString
import Derived.ChangeOld
import Derived.SizedLaws
import Derived.Deep.Slices
import Derived.Test.YtnflbefbgcbdfaaL8D
import Derived.Deep.RegionHeld3
import Derived.Deep.CutRange
import Derived.Laws.EntriesVeiled
import Derived.JoinedCond
import Derived.Deep.CondSized
namespace Go.Proofs.Ytnflbefbgcbdfaa
set_option maxRecDepth 100000

theorem bulk_pos {H : Type} (d : DataW H) : 0 < Rows.uptoBulk d := by
  cases d with
  | lit l => cases l <;> simp [Rows.uptoBulk]
  | _ => simp [Rows.uptoBulk]

theorem bulk_count {H : Type} : ∀ l : List (DataW H), l.length ≤ Rows.uptoBulkAll l
  | [] => Nat.zero_le _
  | d :: r => by
    have h1 := bulk_pos d
    have h2 := bulk_count r
    simp only [Rows.uptoBulkAll, List.length_cons]
    omega

theorem bulk_slice {H : Type} (e s : List (DataW H)) : e.length + s.length < Rows.uptoBulk (.slice e s) := by
  have h1 := bulk_count e
  have h2 := bulk_count s
  simp only [Rows.uptoBulk]
  omega

theorem bulk_among {H : Type} {d : DataW H} : ∀ {l : List (DataW H)}, d ∈ l → Rows.uptoBulk d ≤ Rows.uptoBulkAll l
  | x :: r, h => by
    simp only [Rows.uptoBulkAll]
    rcases List.mem_cons.1 h with e | e
    · subst e; omega
    · have := bulk_among e; omega

theorem bulk_mem {H : Type} {d : DataW H} {l : List (DataW H)} (hk : Rows.uptoSmall H l = true) (h : d ∈ l) : Rows.uptoBulk d ≤ 1048576 := by
  have h1 : Rows.uptoBulkAll l ≤ 1048576 := of_decide_eq_true hk
  have h2 := bulk_among h
  omega
end Go.Proofs.Ytnflbefbgcbdfaa

namespace Go.Proofs.Ytnflbefbgcbdfaa
open Go.ChangeShapes Go.WideShapes Go.ChangeAt Go.RowKit
set_option linter.unusedVariables false
set_option maxRecDepth 100000
set_option maxHeartbeats 1000000

theorem list_gen {α : Type} {P : Nat → α → Prop} : ∀ n : Nat, (∀ i, i < n → ∃ x, P i x) → ∃ l : List α, l.length = n ∧ ∀ i x, l[i]? = some x → P i x
  | 0, _ => ⟨[], rfl, fun i x h => by simp at h⟩
  | n + 1, h => by
    obtain ⟨l, hl, hP⟩ := list_gen n (fun i hi => h i (by omega))
    obtain ⟨x, hx⟩ := h n (by omega)
    refine ⟨l ++ [x], by simp [hl], fun i y hy => ?_⟩
    by_cases c : i < n
    · rw [List.getElem?_append_left (by omega)] at hy
      exact hP i y hy
    · have hi : i < (l ++ [x]).length := (List.getElem?_eq_some_iff.1 hy).1
      simp [hl] at hi
      obtain rfl : i = n := by omega
      rw [List.getElem?_append_right (by omega), hl] at hy
      simp at hy
      subst hy
      exact hx
theorem add_0 (ad : Addr) : ad.add 0 = ad := by simp [Addr.add]
theorem spot_none {w : World} {ad : Addr} {v : Value} (h : w.cell? ad = some v) : ad.spot = none := by
  unfold World.cell? at h
  split at h
  · split at h
    · cases h
    · rename_i hsp
      simpa using hsp
  · cases h

section
variable {H : Type} {enc : TypeId × Value → H} {w : World} {base : Nat} {spare : Nat → Bool} {held : Bool}

/-- A list that came in, whatever its elements are. -/
theorem row_open {t e : TypeId} {sz M : Nat} (ht : Try.prog.underlying t = some (.slice e)) (hc : Try.prog.cellsOf e = sz) (hsz : 0 < sz) {α : Type} (cl : α → List Value) (Ok : α → Prop)
    (hone : ∀ (n : Nat) (cs : List Value) (d : DataW H × List MemPlace), cs.length = sz → DataW.trod enc Try.prog w base spare held n e cs = some d → Rows.uptoBulk d.1 ≤ M → ∃ x, cl x = cs ∧ Ok x)
    {n : Nat} {v : Value} {y : DataW H × List MemPlace} (h : DataW.trod enc Try.prog w base spare held n t [v] = some y) (hM : Rows.uptoBulk y.1 ≤ M) :
    ∃ (a : Option Addr) (l c : Nat) (xs : List α), v = .slice a l c ∧ xs.length = l ∧ (l ≤ c ∧ c ≤ 9223372036854775807) ∧ RdV w a (xs.map cl).flatten ∧ (∀ x ∈ xs, Ok x ∧ (cl x).length = sz) ∧ l ≤ M := by
  rcases Go.Deep.open_slice ht h with ⟨hcs, _⟩ | ⟨ad, l, c, m, nn, D, Pl, hcs, _, hl, hm, hmm, hxe, hx⟩
  · simp at hcs
    subst hcs
    exact ⟨none, 0, 0, [], rfl, rfl, by omega, rdv_nil _ _, fun x hx => by (cases hx), Nat.zero_le _⟩
  · simp at hcs
    subst hcs
    have hlm : l ≤ m := by rw [hmm]; split <;> omega
    have hx1 : y.1 = .slice ((List.range l).map D) ((List.range (m - l)).map fun j => D (l + j)) := by rw [hxe]
    have hy : Rows.uptoBulkAll ((List.range l).map D) ≤ M := by
      rw [hx1] at hM
      simp only [Rows.uptoBulk] at hM
      omega
    have hlM : l ≤ M := by
      have := bulk_count ((List.range l).map D)
      simp only [List.length_map, List.length_range] at this
      omega
    have each : ∀ i, i < l → ∃ x : α, (Ok x ∧ (cl x).length = sz) ∧ ∀ j v, (cl x)[j]? = some v → w.cell? (ad.add (i * sz) |>.add j) = some v := fun i hi => by
      obtain ⟨cs', h1, h2⟩ := hx i (by omega)
      rw [hc] at h1
      obtain ⟨_, hlen, hcell⟩ := World.cells?_some h1
      obtain ⟨x, rfl, ok⟩ := hone nn _ _ hlen h2 (Nat.le_trans (bulk_among (List.mem_map.2 ⟨i, by simpa using hi, rfl⟩)) hy)
      exact ⟨x, ⟨ok, hlen⟩, fun j v hj => by rw [hcell j (by have := (List.getElem?_eq_some_iff.1 hj).1; rw [hlen] at this; exact this)]; exact hj⟩
    obtain ⟨xs, hxs, hP⟩ := list_gen l each
    refine ⟨_, l, c, xs, rfl, hxs, ⟨hl, by unfold maxLen at hm; omega⟩, ?_, fun x hx => ?_, hlM⟩
    · by_cases h0 : l = 0
      · have : xs = [] := List.length_eq_zero_iff.1 (by omega)
        subst this
        exact rdv_nil _ _
      · right
        obtain ⟨x, ⟨ok, hlx⟩, hcx⟩ := each 0 (by omega)
        have hs : ad.spot = none := by
          have := hcx 0 _ (List.getElem?_eq_getElem (by rw [hlx]; exact hsz))
          rw [Nat.zero_mul, add_0, add_0] at this
          exact spot_none this
        obtain ⟨bb, off, sp⟩ := ad
        simp only at hs
        subst hs
        refine ⟨bb, off, rfl, fun j v hj => ?_⟩
        have hall : ∀ c ∈ xs.map cl, c.length = sz := fun c hc => by
          obtain ⟨x, hx, rfl⟩ := List.mem_map.1 hc
          obtain ⟨i, hi⟩ := List.getElem?_of_mem hx
          exact (hP i x hi).1.2
        have ej : j = (j / sz) * sz + j % sz := by rw [Nat.mul_comm]; exact (Nat.div_add_mod j sz).symm
        rw [ej, flat_get sz _ _ _ hall (Nat.mod_lt _ hsz), List.getElem?_map] at hj
        cases hxj : xs[j / sz]? with
        | none => rw [hxj] at hj; simp at hj
        | some x =>
          rw [hxj] at hj
          have := (hP (j / sz) x hxj).2 (j % sz) v (by simpa using hj)
          simp only [Addr.add_lit] at this
          rw [ej, ← Nat.add_assoc]
          exact this
    · obtain ⟨i, hi⟩ := List.getElem?_of_mem hx
      exact (hP i x hi).1

theorem flat_one {α : Type} (f : α → Value) (xs : List α) : (xs.map (fun x => [f x])).flatten = xs.map f := by
  induction xs with
  | nil => rfl
  | cons x xs ih => simp only [List.map_cons, List.flatten_cons, ih]; rfl
theorem ints_open {n M : Nat} {v : Value} {y : DataW H × List MemPlace} (h : DataW.trod enc Try.prog w base spare held n 29 [v] = some y) (hM : Rows.uptoBulk y.1 ≤ M) :
    ∃ a l c, ∃ ms : List Int, v = .slice a l c ∧ ms.length = l ∧ (l ≤ c ∧ c ≤ 9223372036854775807) ∧ RdV w a (ints ms) ∧ l ≤ M := by
  have c1 : Try.prog.cellsOf 2 = 1 := by kernel_rfl
  obtain ⟨a, l, c, xs, e1, e2, e3, e4, -, e6⟩ := row_open Try.underlying29 c1 (by omega) (fun x : Int => [Value.int .i64 x]) (fun _ => True) (fun n cs d hcs h2 _ => by
    obtain ⟨z, e, -⟩ := DataW.trod_int Try.underlying2 h2
    exact ⟨z, e.symm, trivial⟩) h hM
  rw [flat_one] at e4
  exact ⟨a, l, c, xs, e1, e2, e3, e4, e6⟩
theorem bytes_open {n M : Nat} {v : Value} {y : DataW H × List MemPlace} (h : DataW.trod enc Try.prog w base spare held n 80 [v] = some y) (hM : Rows.uptoBulk y.1 ≤ M) :
    ∃ a l c, ∃ ms : List Int, v = .slice a l c ∧ ms.length = l ∧ RdV w a (ms.map (Value.int .u8)) ∧ l ≤ M := by
  have c1 : Try.prog.cellsOf 5 = 1 := by kernel_rfl
  obtain ⟨a, l, c, xs, e1, e2, e3, e4, -, e6⟩ := row_open Try.underlying80 c1 (by omega) (fun x : Int => [Value.int .u8 x]) (fun _ => True) (fun n cs d hcs h2 _ => by
    obtain ⟨z, e, -⟩ := DataW.trod_int Try.underlying5 h2
    exact ⟨z, e.symm, trivial⟩) h hM
  rw [flat_one] at e4
  exact ⟨a, l, c, xs, e1, e2, e4, e6⟩
abbrev spc (r : Sp) : List Value := [.int .i64 r.1, .int .i64 r.2]
theorem spans_open {n M : Nat} {v : Value} {y : DataW H × List MemPlace} (h : DataW.trod enc Try.prog w base spare held n 37 [v] = some y) (hM : Rows.uptoBulk y.1 ≤ M) :
    ∃ a l c, ∃ rs : List Sp, v = .slice a l c ∧ rs.length = l ∧ (l ≤ c ∧ c ≤ 9223372036854775807) ∧ RdV w a (rs.map spc).flatten ∧ l ≤ M := by
  have c1 : Try.prog.cellsOf 48 = 2 := by kernel_rfl
  have c2 : Try.prog.cellsOf 2 = 1 := by kernel_rfl
  obtain ⟨a, l, c, xs, e1, e2, e3, e4, -, e6⟩ := row_open Try.underlying37 c1 (by omega) spc (fun _ => True) (fun n cs d hcs h2 _ => by
    obtain ⟨xs, m, -, hxy, -, hxl, hf⟩ := DataW.trod_struct Try.underlying48 h2
    match xs, hxl, cs, hcs with
    | [y0, y1], _, [v0, v1], _ =>
      have f0 := hf 0 _ rfl
      have f1 := hf 1 _ rfl
      simp [c2] at f0 f1
      obtain ⟨z0, e0, -⟩ := DataW.trod_int Try.underlying2 f0
      obtain ⟨z1, e1, -⟩ := DataW.trod_int Try.underlying2 f1
      simp only [List.cons.injEq, and_true] at e0 e1
      subst e0 e1
      exact ⟨(z0, z1), rfl, trivial⟩) h hM
  exact ⟨a, l, c, xs, e1, e2, e3, e4, e6⟩
theorem rds_of {W : World} {a : Option Addr} {rs : List Sp} (h : RdV W a (rs.map spc).flatten) : RdS W a rs := by
  rcases h with h | ⟨b, off, e, hc⟩
  · left
    cases rs with
    | nil => rfl
    | cons r rs => simp at h
  · right
    have hl : ∀ c ∈ rs.map spc, c.length = 2 := fun c hc => by
      obtain ⟨r, -, rfl⟩ := List.mem_map.1 hc
      rfl
    refine ⟨b, off, e, fun i r hi => ⟨?_, ?_⟩⟩
    · have := hc (i * 2 + 0) (.int .i64 r.1) (by rw [flat_get 2 _ _ _ hl (by omega), List.getElem?_map, hi]; rfl)
      simpa using this
    · have := hc (i * 2 + 1) (.int .i64 r.2) (by rw [flat_get 2 _ _ _ hl (by omega), List.getElem?_map, hi]; rfl)
      rw [← Nat.add_assoc] at this
      exact this
theorem arr_open {n : Nat} {cs : List Value} {d : DataW H × List MemPlace} (h : DataW.trod enc Try.prog w base spare held n 81 cs = some d) (hl : cs.length = 3) : ∀ v ∈ cs, v.oneCell' = true := by
  have c2 : Try.prog.cellsOf 2 = 1 := by kernel_rfl
  match cs, hl with
  | [v0, v1, v2], _ =>
    obtain ⟨u0, u1, u2, n, -, g0, g1, g2⟩ := trod_array3 Try.underlying81 c2 h
    obtain ⟨b0, e0, -⟩ := DataW.trod_int Try.underlying2 g0
    obtain ⟨b1, e1, -⟩ := DataW.trod_int Try.underlying2 g1
    obtain ⟨b2, e2, -⟩ := DataW.trod_int Try.underlying2 g2
    simp only [List.cons.injEq, and_true] at e0 e1 e2
    subst e0 e1 e2
    intro v hv
    simp only [List.mem_cons, List.not_mem_nil, or_false] at hv
    rcases hv with rfl | rfl | rfl <;> rfl
theorem li_own {sz : Nat} {a : Option Addr} {n c : Nat} {xs : List Value} (hl : xs.length = n * sz) (h : RdV w a xs) : Li (fun b => b < w.heap.size) w sz (.slice a n c) xs := ⟨a, n, c, rfl, hl, h, fun hx b off e => h.lt hx b off e⟩

theorem frame_open {n M : Nat} {cs : List Value} {y : DataW H × List MemPlace} (hM8 : M ≤ 100000000) (hcs : cs.length = 17) (h2 : DataW.trod enc Try.prog w base spare held n 83 cs = some y) (hM : Rows.uptoBulk y.1 ≤ M) : ∃ f : Fr, FrAt (fun b => b < w.heap.size) w cs f := by
  have c3 : Try.prog.cellsOf 3 = 1 := by kernel_rfl
  have c2 : Try.prog.cellsOf 2 = 1 := by kernel_rfl
  have c4 : Try.prog.cellsOf 4 = 1 := by kernel_rfl
  have cB : Try.prog.cellsOf 80 = 1 := by kernel_rfl
  have cS : Try.prog.cellsOf 37 = 1 := by kernel_rfl
  have cA : Try.prog.cellsOf 81 = 3 := by kernel_rfl
  obtain ⟨xs, m, -, hx, -, hxl, hff⟩ := DataW.trod_struct Try.underlying83 h2
  match cs, hcs, xs, hxl with
  | [v0, v1, v2, v3, v4, v5, v6, v7, v8, v9, v10, v11, v12, v13, v14, v15, v16], _, [y0, y1, y2, y3, y4, y5, y6, y7, y8, y9, y10, y11, y12, y13, y14], _ =>
    have f0 := hff 0 _ rfl
    have f1 := hff 1 _ rfl
    have f2 := hff 2 _ rfl
    have f3 := hff 3 _ rfl
    have f4 := hff 4 _ rfl
    have f5 := hff 5 _ rfl
    have f6 := hff 6 _ rfl
    have f7 := hff 7 _ rfl
    have f8 := hff 8 _ rfl
    have f9 := hff 9 _ rfl
    have f10 := hff 10 _ rfl
    have f11 := hff 11 _ rfl
    have f12 := hff 12 _ rfl
    have f13 := hff 13 _ rfl
    have f14 := hff 14 _ rfl
    simp [c2, c3, c4, cB, cS, cA] at f0 f1 f2 f3 f4 f5 f6 f7 f8 f9 f10 f11 f12 f13 f14
    obtain ⟨a0, e0, -⟩ := DataW.trod_int Try.underlying3 f0
    obtain ⟨a1, e1, -⟩ := DataW.trod_int Try.underlying2 f1
    obtain ⟨a2, e2, -⟩ := DataW.trod_int Try.underlying2 f2
    obtain ⟨a4, e4, -⟩ := DataW.trod_int Try.underlying2 f4
    obtain ⟨a5, e5, -⟩ := DataW.trod_bool Try.underlying4 f5
    obtain ⟨a6, e6, -⟩ := DataW.trod_bool Try.underlying4 f6
    obtain ⟨a7, e7, -⟩ := DataW.trod_int Try.underlying2 f7
    obtain ⟨a8, e8, -⟩ := DataW.trod_bool Try.underlying4 f8
    obtain ⟨a9, e9, -⟩ := DataW.trod_int Try.underlying2 f9
    obtain ⟨a10, e10, -⟩ := DataW.trod_bool Try.underlying4 f10
    obtain ⟨a11, e11, -⟩ := DataW.trod_int Try.underlying2 f11
    obtain ⟨a13, e13, -⟩ := DataW.trod_bool Try.underlying4 f13
    have o14 := arr_open f14 rfl
    have hy : Rows.uptoBulk y.1 = Rows.uptoBulkAll [y0.1, y1.1, y2.1, y3.1, y4.1, y5.1, y6.1, y7.1, y8.1, y9.1, y10.1, y11.1, y12.1, y13.1, y14.1] + 1 := by
      rw [hx]
      show Rows.uptoBulk (.agg [y0.1, y1.1, y2.1, y3.1, y4.1, y5.1, y6.1, y7.1, y8.1, y9.1, y10.1, y11.1, y12.1, y13.1, y14.1]) = _
      rw [Rows.uptoBulk]
    have m3 : Rows.uptoBulk y3.1 ≤ M := by
      have := bulk_among (d := y3.1) (l := [y0.1, y1.1, y2.1, y3.1, y4.1, y5.1, y6.1, y7.1, y8.1, y9.1, y10.1, y11.1, y12.1, y13.1, y14.1]) (by simp)
      omega
    have m12 : Rows.uptoBulk y12.1 ≤ M := by
      have := bulk_among (d := y12.1) (l := [y0.1, y1.1, y2.1, y3.1, y4.1, y5.1, y6.1, y7.1, y8.1, y9.1, y10.1, y11.1, y12.1, y13.1, y14.1]) (by simp)
      omega
    obtain ⟨p3, l3, k3, z3, e3, r3, q3, t3⟩ := bytes_open f3 m3
    obtain ⟨p12, l12, k12, z12, e12, r12, -, q12, t12⟩ := spans_open f12 m12
    simp only [List.cons.injEq, and_true] at e0 e1 e2 e3 e4 e5 e6 e7 e8 e9 e10 e11 e12 e13
    subst e0 e1 e2 e3 e4 e5 e6 e7 e8 e9 e10 e11 e12 e13
    have l12' : (z12.map spc).flatten.length = l12 * 2 := by
      rw [flat_len 2 _ (fun c hc => by
        obtain ⟨r, -, rfl⟩ := List.mem_map.1 hc
        rfl), List.length_map, r12]
    refine ⟨⟨[.int .i64 a0, .int .i64 a1, .int .i64 a2], [.int .i64 a4, .bool a5, .bool a6, .int .i64 a7, .bool a8, .int .i64 a9, .bool a10, .int .i64 a11], [.bool a13, v14, v15, v16], z3.map (Value.int .u8), (z12.map spc).flatten⟩, ⟨rfl, rfl, rfl, ?_, by rw [List.length_map, r3]; omega, l12, l12', by omega⟩, _, _, rfl, li_own (by rw [List.length_map, r3, Nat.mul_one]) q3, li_own l12' q12⟩
    intro v hv
    simp only [List.mem_append] at hv
    rcases hv with (((hv | hv) | hv) | hv) | hv
    · simp only [List.mem_cons, List.not_mem_nil, or_false] at hv
      rcases hv with rfl | rfl | rfl <;> rfl
    · simp only [List.mem_cons, List.not_mem_nil, or_false] at hv
      rcases hv with rfl | rfl | rfl | rfl | rfl | rfl | rfl | rfl <;> rfl
    · rcases List.mem_cons.1 hv with rfl | hv
      · rfl
      · exact o14 v hv
    · obtain ⟨x, -, rfl⟩ := List.mem_map.1 hv
      rfl
    · obtain ⟨c, hc, hvc⟩ := List.mem_flatten.1 hv
      obtain ⟨r, -, rfl⟩ := List.mem_map.1 hc
      simp only [spc, List.mem_cons, List.not_mem_nil, or_false] at hvc
      rcases hvc with rfl | rfl <;> rfl

theorem frames_open {n M : Nat} {v : Value} {y : DataW H × List MemPlace} (hM8 : M ≤ 100000000) (h : DataW.trod enc Try.prog w base spare held n 34 [v] = some y) (hM : Rows.uptoBulk y.1 ≤ M) :
    ∃ (a : Option Addr) (c : Nat) (fs : List Fr), v = .slice a fs.length c ∧ FvAt (fun b => b < w.heap.size) w (.slice a fs.length c) fs := by
  have c17 : Try.prog.cellsOf 83 = 17 := by kernel_rfl
  obtain ⟨a, l, c, xs, e1, e2, e3, e4, e5, e6⟩ := row_open Try.underlying34 c17 (by omega) (Prod.fst : List Value × Fr → List Value) (fun x => FrAt (fun b => b < w.heap.size) w x.1 x.2) (fun n cs d hcs h2 hd => by
    obtain ⟨f, hf⟩ := frame_open hM8 hcs h2 hd
    exact ⟨(cs, f), rfl, hf⟩) h hM
  refine ⟨a, c, xs.map Prod.snd, by rw [List.length_map, e2]; exact e1, by rw [List.length_map]; omega, a, c, xs.map Prod.fst, rfl, ⟨by simp, fun i c f hc hf => ?_⟩, e4, fun hne b off e => ?_⟩
  · rw [List.getElem?_map] at hc hf
    cases hx : xs[i]? with
    | none => rw [hx] at hc; cases hc
    | some x =>
      rw [hx] at hc hf
      cases hc
      cases hf
      exact (e5 x (List.mem_of_getElem? hx)).1
  · refine e4.lt (fun e0 => ?_) b off e
    have hx : xs ≠ [] := fun e => hne (by rw [e]; rfl)
    obtain ⟨x, xs', rfl⟩ := List.exists_cons_of_ne_nil hx
    have h17 := (e5 x (by simp)).2
    rw [List.map_cons, List.flatten_cons] at e0
    have hz := congrArg List.length e0
    rw [List.length_append, h17] at hz
    simp only [List.length_nil] at hz
    omega

theorem sent_open {n M : Nat} {cs : List Value} {y : DataW H × List MemPlace} (hM8 : M ≤ 100000000) (hcs : cs.length = 8) (h2 : DataW.trod enc Try.prog w base spare held n 36 cs = some y) (hM : Rows.uptoBulk y.1 ≤ M) :
    ∃ (s : St) (fa : Option Addr) (fc : Nat), cs = (s.cs (.slice fa s.fs.length fc)).toList ∧ FvAt (fun b => b < w.heap.size) w (.slice fa s.fs.length fc) s.fs := by
  have c2 : Try.prog.cellsOf 2 = 1 := by kernel_rfl
  have c4 : Try.prog.cellsOf 4 = 1 := by kernel_rfl
  have cF : Try.prog.cellsOf 34 = 1 := by kernel_rfl
  obtain ⟨xs, m, -, hx, -, hxl, hff⟩ := DataW.trod_struct Try.underlying36 h2
  match cs, hcs, xs, hxl with
  | [v0, v1, v2, v3, v4, v5, v6, v7], _, [y0, y1, y2, y3, y4, y5, y6, y7], _ =>
    have f0 := hff 0 _ rfl
    have f1 := hff 1 _ rfl
    have f2 := hff 2 _ rfl
    have f3 := hff 3 _ rfl
    have f4 := hff 4 _ rfl
    have f5 := hff 5 _ rfl
    have f6 := hff 6 _ rfl
    have f7 := hff 7 _ rfl
    simp [c2, c4, cF] at f0 f1 f2 f3 f4 f5 f6 f7
    obtain ⟨a0, e0, -⟩ := DataW.trod_int Try.underlying2 f0
    obtain ⟨a1, e1, -⟩ := DataW.trod_int Try.underlying2 f1
    obtain ⟨a2, e2, -⟩ := DataW.trod_int Try.underlying2 f2
    obtain ⟨a3, e3, -⟩ := DataW.trod_bool Try.underlying4 f3
    obtain ⟨a4, e4, -⟩ := DataW.trod_bool Try.underlying4 f4
    obtain ⟨a5, e5, -⟩ := DataW.trod_bool Try.underlying4 f5
    obtain ⟨a6, e6, -⟩ := DataW.trod_int Try.underlying2 f6
    have hy : Rows.uptoBulk y.1 = Rows.uptoBulkAll [y0.1, y1.1, y2.1, y3.1, y4.1, y5.1, y6.1, y7.1] + 1 := by
      rw [hx]
      show Rows.uptoBulk (.agg [y0.1, y1.1, y2.1, y3.1, y4.1, y5.1, y6.1, y7.1]) = _
      rw [Rows.uptoBulk]
    have m7 : Rows.uptoBulk y7.1 ≤ M := by
      have := bulk_among (d := y7.1) (l := [y0.1, y1.1, y2.1, y3.1, y4.1, y5.1, y6.1, y7.1]) (by simp)
      omega
    obtain ⟨fa, fc, fs, e7, hv⟩ := frames_open hM8 f7 m7
    simp only [List.cons.injEq, and_true] at e0 e1 e2 e3 e4 e5 e6
    subst e0 e1 e2 e3 e4 e5 e6 e7
    exact ⟨⟨a0, a1, a2, a3, a4, a5, a6, fs⟩, fa, fc, rfl, hv⟩

/-- A step of a script. -/
structure OpL where
  kd : Int
  hh : Int
  s : St
  fa : Option Addr
  fc : Nat
  rs : List Sp
  ra : Option Addr
  rc : Nat
  ms : List Int
  ma : Option Addr
  mc : Nat
  n : Int
def OpL.cs (x : OpL) : Array Value := opc x.kd x.hh x.s (.slice x.fa x.s.fs.length x.fc) (.slice x.ra x.rs.length x.rc) (.slice x.ma x.ms.length x.mc) x.n
structure OpL.Ok (w : World) (x : OpL) : Prop where
  f_ : FvAt (fun b => b < w.heap.size) w (.slice x.fa x.s.fs.length x.fc) x.s.fs
  r_ : RdV w x.ra (x.rs.map spc).flatten
  rl : x.rs.length ≤ 1048576
  m_ : RdV w x.ma (ints x.ms)
  ml : x.ms.length ≤ 1048576
theorem opl_open {n : Nat} {cs : List Value} {y : DataW H × List MemPlace} (hcs : cs.length = 13) (h2 : DataW.trod enc Try.prog w base spare held n 39 cs = some y) (hM : Rows.uptoBulk y.1 ≤ 1048576) : ∃ x : OpL, x.cs.toList = cs ∧ x.Ok w := by
  have c3 : Try.prog.cellsOf 3 = 1 := by kernel_rfl
  have cS : Try.prog.cellsOf 36 = 8 := by kernel_rfl
  have cR : Try.prog.cellsOf 37 = 1 := by kernel_rfl
  have cI : Try.prog.cellsOf 29 = 1 := by kernel_rfl
  obtain ⟨xs, m, -, hx, -, hxl, hff⟩ := DataW.trod_struct Try.underlying39 h2
  match cs, hcs, xs, hxl with
  | [v0, v1, v2, v3, v4, v5, v6, v7, v8, v9, v10, v11, v12], _, [y0, y1, y2, y3, y4, y5], _ =>
    have f0 := hff 0 _ rfl
    have f1 := hff 1 _ rfl
    have f2 := hff 2 _ rfl
    have f3 := hff 3 _ rfl
    have f4 := hff 4 _ rfl
    have f5 := hff 5 _ rfl
    simp [c3, cS, cR, cI] at f0 f1 f2 f3 f4 f5
    obtain ⟨a0, e0, -⟩ := DataW.trod_int Try.underlying3 f0
    obtain ⟨a1, e1, -⟩ := DataW.trod_int Try.underlying3 f1
    obtain ⟨a5, e5, -⟩ := DataW.trod_int Try.underlying3 f5
    have hy : Rows.uptoBulk y.1 = Rows.uptoBulkAll [y0.1, y1.1, y2.1, y3.1, y4.1, y5.1] + 1 := by
      rw [hx]
      show Rows.uptoBulk (.agg [y0.1, y1.1, y2.1, y3.1, y4.1, y5.1]) = _
      rw [Rows.uptoBulk]
    have m2 : Rows.uptoBulk y2.1 ≤ 1048576 := by
      have := bulk_among (d := y2.1) (l := [y0.1, y1.1, y2.1, y3.1, y4.1, y5.1]) (by simp)
      omega
    have m3 : Rows.uptoBulk y3.1 ≤ 1048576 := by
      have := bulk_among (d := y3.1) (l := [y0.1, y1.1, y2.1, y3.1, y4.1, y5.1]) (by simp)
      omega
    have m4 : Rows.uptoBulk y4.1 ≤ 1048576 := by
      have := bulk_among (d := y4.1) (l := [y0.1, y1.1, y2.1, y3.1, y4.1, y5.1]) (by simp)
      omega
    obtain ⟨s, fa, fc, e2, hs⟩ := sent_open (by omega) rfl f2 m2
    obtain ⟨ra, rl, rc, rs, e3, r3, -, q3, t3⟩ := spans_open f3 m3
    obtain ⟨ma, ml, mc, ms, e4, r4, -, q4, t4⟩ := ints_open f4 m4
    simp only [St.cs, List.cons.injEq, and_true] at e0 e1 e2 e5
    obtain ⟨rfl, rfl, rfl, rfl, rfl, rfl, rfl, rfl⟩ := e2
    subst e0 e1 e5 e3 e4 r3 r4
    exact ⟨⟨a0, a1, s, fa, fc, rs, ra, rc, ms, ma, mc, a5⟩, rfl, ⟨hs, q3, t3, q4, t4⟩⟩

/-- A script that came in. -/
structure IsOpL (w : World) (a : Option Addr) (len : Nat) (ol : List OpL) : Prop where
  hlen : ol.length = len
  ok : ∀ x ∈ ol, x.Ok w
  cell : len = 0 ∨ ∃ b off, a = some ⟨b, off, none⟩ ∧ ∀ i x, ol[i]? = some x → ∀ j v, x.cs[j]? = some v → w.cell? ⟨b, off + i * 13 + j, none⟩ = some v
theorem opls_open {n : Nat} {a : Option Addr} {len cap : Nat} {y : DataW H × List MemPlace} (h : DataW.trod enc Try.prog w base spare held n 22 [.slice a len cap] = some y) (hM : Rows.uptoBulk y.1 ≤ 1048576) : ∃ ol, IsOpL w a len ol ∧ len ≤ 1048576 ∧ (len ≤ cap ∧ cap ≤ 9223372036854775807) := by
  have c13 : Try.prog.cellsOf 39 = 13 := by kernel_rfl
  obtain ⟨a', l', c', xs, e1, e2, e3, e4, e5, e6⟩ := row_open Try.underlying22 c13 (by omega) (fun x : OpL => x.cs.toList) (fun x => x.Ok w) (fun n cs d hcs h2 hd => opl_open hcs h2 hd) h hM
  cases e1
  refine ⟨xs, ⟨e2, fun x hx => (e5 x hx).1, ?_⟩, e6, e3⟩
  rcases e4 with e4 | ⟨b, off, e, hc⟩
  · left
    cases xs with
    | nil => simpa using e2.symm
    | cons x xs =>
      have hz := congrArg List.length e4
      rw [List.map_cons, List.flatten_cons, List.length_append] at hz
      have h13 : x.cs.toList.length = 13 := rfl
      rw [h13] at hz
      simp only [List.length_nil] at hz
      omega
  · right
    refine ⟨b, off, e, fun i x hi j v hj => ?_⟩
    have hj13 : j < 13 := by
      have := (Array.getElem?_eq_some_iff.1 hj).1
      simpa [OpL.cs, opc] using this
    have := hc (i * 13 + j) v (by
      rw [flat_get 13 _ _ _ (fun c hc => by
        obtain ⟨x, hx, rfl⟩ := List.mem_map.1 hc
        exact (e5 x hx).2) hj13, List.getElem?_map, hi]
      simpa using hj)
    rw [← Nat.add_assoc] at this
    exact this
end
end Go.Proofs.Ytnflbefbgcbdfaa

namespace Go.Proofs.Ytnflbefbgcbdfaa
open Go.RowKit
set_option linter.unusedVariables false
set_option linter.unusedSimpArgs false
set_option maxRecDepth 100000
set_option maxHeartbeats 4000000

theorem and_61 (n : Int) : bits .and .i64 n 2305843009213693951 = n % 2305843009213693952 := by
  have h1 : (BitVec.ofInt 64 2305843009213693951).toNat = 2 ^ 61 - 1 := by decide
  have key : (BitVec.ofInt 64 n &&& BitVec.ofInt 64 2305843009213693951).toNat = (n % ((2 ^ 64 : Nat) : Int)).toNat % 2 ^ 61 := by
    rw [BitVec.toNat_and, BitVec.toNat_ofInt, h1, Nat.and_two_pow_sub_one_eq_mod]
  show IntKind.i64.wrap ((BitVec.ofInt 64 n &&& BitVec.ofInt 64 2305843009213693951).toNat : Nat) = n % 2305843009213693952
  rw [key, IntKind.wrap_i64]
  omega
theorem LM.start {w w2 : World} {b q : Nat} {f : Int} (g1 : w.grownBy w2 none) (h : ∃ w1 : World, w.grownBy w1 none ∧ SH w1 w2 b q (.slice none 0 0) (.slice none 0 0) (Lg.fresh f) (fun _ => False)) (h0 : 0 ≤ f) :
    LM w f (fun _ => False) (w2.alloc (.cells (ldc b (.slice none 0 0) (.slice none 0 0) (.slice none 0 0) f true) 32)) w2.heap.size b q (.slice none 0 0) (.slice none 0 0) (.slice none 0 0) (.slice none 0 0) (.slice none 0 0) (Lg.fresh f) [] 0 := by
  obtain ⟨w1, g0, hs⟩ := h
  have gA := grown_alloc w2 (.cells (ldc b (.slice none 0 0) (.slice none 0 0) (.slice none 0 0) f true) 32)
  have z1 := g0.size
  have z2 := g1.size
  have lb := hs.lb
  have lq := hs.lq
  refine ⟨LW.new (hs.grown gA) h0 (Blk.new _ _ _), Kp.grown (grown_trans g1 gA) _, fun x hx => ?_, Nat.le_refl _, by show f ≤ _; omega⟩
  rcases hx with e | e | e | e | e | e | e | e
  · omega
  · omega
  · omega
  all_goals cases e

theorem once_walk (first : Int) (oa : Option Addr) (len cap : Nat) (ol : List OpL) (w : World) (h : IsOpL w oa len ol) (hl : len ≤ 1048576) :
    Calls Try.prog 3 #[.int .i64 first, .slice oa len cap] w fun e w' => e = .returned (.bool true) ∧ w.grownBy w' none := by
  obtain ⟨f, hf⟩ : ∃ f, f = first % 2305843009213693952 := ⟨_, rfl⟩
  have hand : bits .and .i64 first 2305843009213693951 = f := by rw [and_61, hf]
  have f0 : 0 ≤ f ∧ f ≤ 2305843009213693951 := by omega
  clear hf
  have lenI : ¬ (9223372036854775807 : Int) < (len : Int) := by omega
  have sh := shown_any w
  have HO := hide h
  have HL := hide hl
  clear h hl
  go_enter Try.func3, Try.ntmps3
  go_wp2_with fail
  refine sh.mono ?_
  rintro e w1 ⟨rfl, g1⟩
  have nw := sh_new f w1 (by omega)
  clear sh
  go_wp2_with fail
  refine nw.mono ?_
  rintro e w2 ⟨b, q, rfl, hs⟩
  have L0 := hide (LM.start (grown_trans g1 hs.end) ⟨w1, g1, hs⟩ f0.1)
  have HF := hide f0
  clear nw hs g1 f0
  unfold ldc at L0
  go_upto_region 6 with fail
  generalize w2.alloc _ = w3 at *
  generalize w2.heap.size = lw at *
  go_wp2_with fail
  go_loopw [9] (fun iv wr => ∃ k : Nat, k ≤ len ∧ k ≤ 1500 ∧ iv = .int .i64 k ∧ Hid (∃ R nv zv fv kv va l T, LM w f R wr lw b q nv zv fv kv va l T k)) (fun iv _ => len - (intOf iv).toNat)
  case atStart => exact ⟨0, Nat.zero_le _, Nat.zero_le _, rfl, _, _, _, _, _, _, _, _, unhide L0⟩
  case round =>
    clear L0
    obtain ⟨k, hk, hk2, rfl, I⟩ := hrel
    by_cases hlt : k < len
    · have hkI : (k : Int) < (len : Int) := by omega
      by_cases h15 : k < 1500
      · have hk15 : (k : Int) < 1500 := by omega
        have hk0 : (0 : Int) ≤ (k : Int) := by omega
        obtain ⟨R, nv, zv, fv, kv, va, l, T, lm⟩ := unhide I
        obtain ⟨bo, off, rfl, hc⟩ := (unhide HO).cell.resolve_left (by omega)
        obtain ⟨x, hx⟩ : ∃ x, ol[k]? = some x := ⟨_, List.getElem?_eq_getElem (by rw [(unhide HO).hlen]; exact hlt)⟩
        have ok := (unhide HO).ok x (List.mem_of_getElem? hx)
        have kpO : ∀ j, j < w.heap.size → wr.heap[j]? = w.heap[j]? := fun j hj => lm.kp.block j hj (by omega)
        have cell : ∀ j v, x.cs[j]? = some v → wr.cell? ⟨bo, off + k * 13 + j, none⟩ = some v := fun j v hj => by
          have := hc k x hx j v hj
          rw [← this]
          exact World.cell?_of_block (kpO bo (World.block_lt_of_cell? w _ this))
        have y0 : wr.cell? ⟨bo, off + k * 13, none⟩ = some (.int .i64 x.kd) := cell 0 _ rfl
        have y1 : wr.cell? ⟨bo, off + k * 13 + 1, none⟩ = some (.int .i64 x.hh) := cell 1 _ rfl
        have y2 : wr.cell? ⟨bo, off + k * 13 + 2, none⟩ = some (.int .i64 x.s.nu) := cell 2 _ rfl
        have y3 : wr.cell? ⟨bo, off + k * 13 + 3, none⟩ = some (.int .i64 x.s.ti) := cell 3 _ rfl
        have y4 : wr.cell? ⟨bo, off + k * 13 + 4, none⟩ = some (.int .i64 x.s.si) := cell 4 _ rfl
        have y5 : wr.cell? ⟨bo, off + k * 13 + 5, none⟩ = some (.bool x.s.el) := cell 5 _ rfl
        have y6 : wr.cell? ⟨bo, off + k * 13 + 6, none⟩ = some (.bool x.s.co) := cell 6 _ rfl
        have y7 : wr.cell? ⟨bo, off + k * 13 + 7, none⟩ = some (.bool x.s.pr) := cell 7 _ rfl
        have y8 : wr.cell? ⟨bo, off + k * 13 + 8, none⟩ = some (.int .i64 x.s.tl) := cell 8 _ rfl
        have y9 : wr.cell? ⟨bo, off + k * 13 + 9, none⟩ = some (.slice x.fa x.s.fs.length x.fc) := cell 9 _ rfl
        have y10 : wr.cell? ⟨bo, off + k * 13 + 10, none⟩ = some (.slice x.ra x.rs.length x.rc) := cell 10 _ rfl
        have y11 : wr.cell? ⟨bo, off + k * 13 + 11, none⟩ = some (.slice x.ma x.ms.length x.mc) := cell 11 _ rfl
        have y12 : wr.cell? ⟨bo, off + k * 13 + 12, none⟩ = some (.int .i64 x.n) := cell 12 _ rfl
        have tl := lm.tl
        have ne := lm.ne
        have hfI := unhide HF
        have dn := does_any wr lm.lw_ (by omega) (by omega) x.kd x.hh x.s (fun j => j < w.heap.size) x.fa x.fc (ok.f_.kept kpO) x.rs x.ra x.rc (by have := ok.rl; omega) (rds_of (ok.r_.kept fun hx b off e => kpO b (ok.r_.lt hx b off e))) x.ms x.ma x.mc (by have := ok.ml; omega) (ok.m_.kept fun hx b off e => kpO b (ok.m_.lt hx b off e)) x.n
        unfold opc at dn
        have LMh := hide lm
        clear cell hc ok kpO hx tl ne hfI lm
        obtain ⟨xkd, xhh, ⟨snu, sti, ssi, sel, sco, spr, stl, sfs⟩, xfa, xfc, xrs, xra, xrc, xms, xma, xmc, xn⟩ := x
        simp only at y0 y1 y2 y3 y4 y5 y6 y7 y8 y9 y10 y11 y12 dn
        generalize sfs.length = n1 at *
        generalize xrs.length = n2 at *
        generalize xms.length = n3 at *
        go_wp2_with fail
        refine dn.mono ?_
        rintro e w5 hd
        obtain ⟨rfl, R', nv', zv', fv', kv', va', l', T', lm', -, -⟩ := (unhide LMh).step hd
        have hd2 := holds_any w5 lm'.lw_ (by have := lm'.tl; omega)
        have LM2 := hide lm'
        clear dn hd lm' y0 y1 y2 y3 y4 y5 y6 y7 y8 y9 y10 y11 y12 LMh
        go_wp2_with fail
        refine hd2.mono ?_
        rintro e w6 ⟨rfl, g6⟩
        have LM3 := hide ((unhide LM2).grown g6)
        clear hd2 g6
        go_wp2_with fail
        exact ⟨⟨k + 1, by omega, by omega, by go_num, _, _, _, _, _, _, _, _, unhide LM3⟩, by simp [intOf]; omega⟩
      · have hk15 : ¬ (k : Int) < 1500 := by omega
        obtain ⟨R, nv, zv, fv, kv, va, l, T, lm⟩ := unhide I
        have F := hide lm.kp
        clear lm I
        go_wp2_with fail
        go_ret
        exact ⟨rfl, (unhide F).os, (unhide F).tape, (unhide F).output, (unhide F).size, fun x hx _ => (unhide F).block x hx (fun e => by omega)⟩
    · obtain rfl : k = len := by omega
      have hkI : ¬ (k : Int) < (k : Int) := by omega
      obtain ⟨R, nv, zv, fv, kv, va, l, T, lm⟩ := unhide I
      have F := hide lm.kp
      clear lm I
      go_wp2_with fail
      go_ret
      exact ⟨rfl, (unhide F).os, (unhide F).tape, (unhide F).output, (unhide F).size, fun x hx _ => (unhide F).block x hx (fun e => by omega)⟩
end Go.Proofs.Ytnflbefbgcbdfaa

namespace Go.Proofs.Ytnflbefbgcbdfaa
open Go.RowKit Go.Shelf
set_option linter.unusedVariables false
set_option maxHeartbeats 1000000
set_option maxRecDepth 100000
attribute [local go_sem] Oper.semAt_some

/-- What a round's body may write: the blocks of S, and the rows that the cells of C name. -/
def OnO (S : Nat → Prop) (C : List Addr) (W : World) (x : Nat) : Prop := S x ∨ ∃ c ∈ C, ∃ v, W.cell? c = some v ∧ v.ownBlock = some x
/-- A block that lies there and is none of them. -/
def PrO (S : Nat → Prop) (C : List Addr) (W : World) (x : Nat) : Prop := x < W.heap.size ∧ ¬ OnO S C W x
structure KO (R S : Nat → Prop) (C : List Addr) (W W' : World) : Prop where
  size : W.heap.size ≤ W'.heap.size
  same : ∀ (j : Nat) (o : Obj), W.heap[j]? = some o → (R j ∨ o.isCells = true) → ¬ OnO S C W j → W'.heap[j]? = some o
  own : ∀ j, OnO S C W' j → j < W.heap.size → OnO S C W j
section
variable {R S : Nat → Prop} {C : List Addr} {n : Nat} {A B D W W' : World} {x : Nat}
theorem cell_same {c : Addr} (h : W'.heap[c.block]? = W.heap[c.block]?) : W'.cell? c = W.cell? c := by simp only [World.cell?, h]
theorem OnO.back (hC : ∀ c ∈ C, W'.heap[c.block]? = W.heap[c.block]?) (h : OnO S C W' x) : OnO S C W x := by
  rcases h with h | ⟨c, hc, v, h1, h2⟩
  · exact .inl h
  · exact .inr ⟨c, hc, v, by rw [← cell_same (hC c hc)]; exact h1, h2⟩
theorem OnO.grown (h : OnO S C W' x) (hC : ∀ c ∈ C, c.block < n) (hn : n ≤ W.heap.size) (g : W.grownBy W' none) : OnO S C W x := h.back fun c hc => g.block _ (Nat.lt_of_lt_of_le (hC c hc) hn) (by simp)
theorem PrO.grown (h : PrO S C W x) (hC : ∀ c ∈ C, c.block < n) (hn : n ≤ W.heap.size) (g : W.grownBy W' none) : PrO S C W' x := ⟨Nat.lt_of_lt_of_le h.1 g.size, fun ho => h.2 (ho.grown hC hn g)⟩
theorem PrO.step (h : PrO S C W x) (k : KO R S C W W') : PrO S C W' x := ⟨Nat.lt_of_lt_of_le h.1 k.size, fun ho => h.2 (k.own x ho h.1)⟩
theorem KO.at (k : KO R S C W W') (h : PrO S C W x) (hx : R x ∨ ∃ cs t, Blk W x cs t) : W'.heap[x]? = W.heap[x]? := by
  obtain ⟨o, ho⟩ : ∃ o, W.heap[x]? = some o := ⟨_, Array.getElem?_eq_getElem h.1⟩
  rw [ho]
  refine k.same x o ho (hx.imp id ?_) h.2
  rintro ⟨cs, t, hb⟩
  rw [show W.heap[x]? = some (.cells cs t (0, 0)) from hb] at ho
  cases ho; rfl
theorem KO.refl (R S : Nat → Prop) (C : List Addr) (W : World) : KO R S C W W := ⟨Nat.le_refl _, fun _ _ h _ _ => h, fun _ h _ => h⟩
theorem KO.trans (h : KO R S C A B) (k : KO R S C B D) : KO R S C A D :=
  ⟨Nat.le_trans h.size k.size, fun j o hj hr ho => k.same j o (h.same j o hj hr ho) hr (fun hb => ho (h.own j hb (Array.getElem?_eq_some_iff.1 hj).1)), fun j hj hl => h.own j (k.own j hj (Nat.lt_of_lt_of_le hl h.size)) hl⟩
theorem KO.put (hR : ∀ g, R g → g < n) (hC : ∀ c ∈ C, c.block < n) (W : World) (j : Nat) (o o' : Obj) (hj : n ≤ j) (hl : W.heap[j]? = some o) (ho : o.isCells = false) : KO R S C W (W.putObj j o') :=
  ⟨by simp, fun i x hi hr _ => (World.putObj_heap_other (fun e => by
    subst e
    rcases hr with hr | hr
    · have := hR i hr; omega
    · rw [hl] at hi; cases hi; rw [ho] at hr; cases hr)).trans hi, fun i hi _ => hi.back fun c hc => World.putObj_heap_other (fun e => by have := hC c hc; omega)⟩
theorem KO.grown (hC : ∀ c ∈ C, c.block < n) (hn : n ≤ W.heap.size) (g : W.grownBy W' none) : KO R S C W W' :=
  ⟨g.size, fun j o hj _ _ => (g.block j (Array.getElem?_eq_some_iff.1 hj).1 (by simp)).trans hj, fun j hj _ => hj.grown hC hn g⟩
/-- What writes only what may be written, and names no elder row that it did not name. -/
theorem KO.of {U : Nat → Prop} (k : Kp U W W') (hU : ∀ g, U g → OnO S C W g) (ho : ∀ j, OnO S C W' j → j < W.heap.size → OnO S C W j) : KO R S C W W' :=
  ⟨k.size, fun j o hj _ hn => (k.block j (Array.getElem?_eq_some_iff.1 hj).1 (fun hu => hn (hU j hu))).trans hj, ho⟩
end
/-- Between two rounds. -/
def KpO (R S : Nat → Prop) (C : List Addr) (n₀ : Nat) (ks : List St) (cv : Value) (J : List PkV → World → Prop) (k : Nat) (wr : World) : Prop :=
  KvAt R wr cv ks ∧ n₀ ≤ wr.heap.size ∧ (∀ g, R g → PrO S C wr g) ∧ (∀ g, cv.ownBlock = some g → PrO S C wr g) ∧ ∃ pre : List PkV, pre.map Prod.fst = ks.take k ∧ J pre wr

theorem kept1_inO (n : Nat) (hn : 1 ≤ n) (l Bn b n₀ : Nat) (R S : Nat → Prop) (C : List Addr) (hC : ∀ c ∈ C, c.block < n₀) (kv : Value) (ks : List St) (J Jx : List PkV → World → Prop)
    (hY : ∀ pre x W, J pre W → (pre ++ [x]).map Prod.fst <+: ks → YieldAt Fence.wide (n - 1) Try.prog l (encQ x) W fun e W' =>
      (e = .returned (.bool true) ∧ J (pre ++ [x]) W' ∧ KO R S C W W') ∨ (e = .returned (.bool false) ∧ Jx (pre ++ [x]) W'))
    (hJ : ∀ pre X X', J pre X → X.grownBy X' none → J pre X')
    (W : World) (hBn : W.cell? ⟨Bn, 0, none⟩ = some (.pointer (some ⟨b, 0, none⟩))) (hb6 : W.cell? ⟨b, 6, none⟩ = some kv) (hk : KvAt R W kv ks) (hn0 : n₀ ≤ W.heap.size) (hR0 : ∀ g, R g → PrO S C W g) (hO0 : ∀ g, OnO S C W g → g < W.heap.size) (hlen : ks.length ≤ 1000) (h0 : J [] W) :
    CallsIn Fence.wide n Try.prog 26 #[.func (.yield l) #[] #[], .pointer (some ⟨Bn, 0, none⟩)] W fun e W' => (∃ v, e = .returned v) ∧
      ((∃ ys : List PkV, ys.map Prod.fst = ks ∧ J ys W') ∨ (∃ pre : List PkV, pre.map Prod.fst <+: ks ∧ Jx pre W')) := by
  obtain ⟨N, hN⟩ : ∃ N, N = ks.length := ⟨_, rfl⟩
  have hcl := clone_sent R W kv ks hk (by omega)
  obtain ⟨ka, kn, kc, hkv⟩ : ∃ a n c, kv = .slice a n c := by
    rcases hk.sh with ⟨e, -⟩ | ⟨g, c, e, -⟩
    · exact ⟨_, _, _, e⟩
    · exact ⟨_, _, _, e⟩
  subst hkv
  have HN := hide (And.intro hN hlen)
  have HY := hide hY; have HJ := hide hJ; have H0 := hide h0; have HN0 := hide hn0; have HC := hide hC; have HR0 := hide hR0; have HO0 := hide hO0
  have lenI : ¬ (9223372036854775807 : Int) < (N : Int) := by omega
  clear hY hJ h0 hN hlen hk hn0 hC hR0 hO0
  refine callsIn_of_wp Try.func26 rfl trivial ?_ rfl
  simp only [Try.ntmps26, List.size_toArray, List.length_cons, List.length_nil, Nat.reduceAdd, Nat.reduceSub, Array.replicate_succ, Array.replicate_zero, List.push_toArray, List.append_toArray, List.nil_append, List.cons_append]
  gi_wp2_with fail
  refine ⟨trivial, (callsIn_wide.2 hcl).mono ?_⟩
  rintro e Y ⟨v', rfl, hkY, hfr, gY⟩
  obtain ⟨ca, cc, hcv⟩ : ∃ a c, v' = .slice a N c := by
    rcases hkY.sh with ⟨e, e2⟩ | ⟨g, c, e, -⟩
    · exact ⟨none, 0, by rw [e, (unhide HN).1, e2]; rfl⟩
    · exact ⟨_, c, by rw [e, (unhide HN).1]⟩
  subst hcv
  have I0 : Hid (KpO R S C n₀ ks (.slice ca N cc) J 0 Y) := ⟨hkY, Nat.le_trans (unhide HN0) gY.size, fun g hg => (unhide HR0 g hg).grown (unhide HC) (unhide HN0) gY, fun g e => ⟨hkY.lt g e, fun ho => by
    have h1 := unhide HO0 g (ho.grown (unhide HC) (unhide HN0) gY)
    have h2 := hfr g e
    omega⟩, [], rfl, unhide HJ _ _ _ (unhide H0) gY⟩
  clear hcl hkY hfr gY hBn hb6 H0 HR0 HO0
  gi_wp2_with fail
  gi_loopw [11] (fun iv wr => ∃ k : Nat, k ≤ N ∧ iv = .int .i64 k ∧ Hid (KpO R S C n₀ ks (.slice ca N cc) J k wr)) (fun iv _ => N - (intOf iv).toNat)
  case atStart => exact ⟨0, Nat.zero_le _, rfl, I0⟩
  case round =>
    clear I0
    obtain ⟨k, hk, rfl, H⟩ := hrel
    by_cases hlt : k < N
    · have hkI : (k : Int) < (N : Int) := by omega
      have hk0 : (0 : Int) ≤ (k : Int) := by omega
      obtain ⟨kvw, hnw, hRw, hVw, pre, hpre, hj⟩ := unhide H
      obtain ⟨s, hs⟩ : ∃ s, ks[k]? = some s := ⟨_, List.getElem?_eq_getElem (by rw [← (unhide HN).1]; exact hlt)⟩
      obtain ⟨g, hca⟩ : ∃ g, ca = some ⟨g, 0, none⟩ := by
        rcases kvw.sh with ⟨_, e2⟩ | ⟨g, c', e1, -⟩
        · rw [e2] at hs; simp at hs
        · injection e1 with e1; exact ⟨g, e1⟩
      subst hca
      have kvw2 := kvw
      rw [(unhide HN).1] at kvw2
      obtain ⟨fv, hfv, hc⟩ := kvw2.get hs
      have y0 : wr.cell? ⟨g, k * 8, none⟩ = some (.int .i64 s.nu) := hc 0 _ rfl
      have y1 : wr.cell? ⟨g, k * 8 + 1, none⟩ = some (.int .i64 s.ti) := hc 1 _ rfl
      have y2 : wr.cell? ⟨g, k * 8 + 2, none⟩ = some (.int .i64 s.si) := hc 2 _ rfl
      have y3 : wr.cell? ⟨g, k * 8 + 3, none⟩ = some (.bool s.el) := hc 3 _ rfl
      have y4 : wr.cell? ⟨g, k * 8 + 4, none⟩ = some (.bool s.co) := hc 4 _ rfl
      have y5 : wr.cell? ⟨g, k * 8 + 5, none⟩ = some (.bool s.pr) := hc 5 _ rfl
      have y6 : wr.cell? ⟨g, k * 8 + 6, none⟩ = some (.int .i64 s.tl) := hc 6 _ rfl
      have y7 : wr.cell? ⟨g, k * 8 + 7, none⟩ = some fv := hc 7 _ rfl
      have HF := hide hfv
      obtain ⟨-, fa, fc, css, e9, -⟩ := hfv
      subst e9
      obtain ⟨Z, hZ⟩ : ∃ Z, Z = wr.alloc (.cells #[.int .i64 s.nu, .int .i64 s.ti, .int .i64 s.si, .bool s.el, .bool s.co, .bool s.pr, .int .i64 s.tl, .slice fa s.fs.length fc] 36) := ⟨_, rfl⟩
      have gZ : wr.grownBy Z none := by rw [hZ]; exact grown_alloc _ _
      have bZ : Blk Z wr.heap.size #[.int .i64 s.nu, .int .i64 s.ti, .int .i64 s.si, .bool s.el, .bool s.co, .bool s.pr, .int .i64 s.tl, .slice fa s.fs.length fc] 36 := by rw [hZ]; exact Blk.new wr _ _
      obtain ⟨zs, hzs⟩ : ∃ zs, zs = wr.heap.size := ⟨_, rfl⟩
      rw [← hzs] at bZ
      obtain ⟨z0, z1, z2, z3, z4, z5, z6, z7⟩ := cells8 bZ
      have hcp := copied_fv s fa fc Z ((unhide HF).grown gZ)
      simp only [St.cs] at hcp
      have hpl : pre.map Prod.fst ++ [s] <+: ks := by
        rw [hpre, ← take_at hs]
        exact List.take_prefix _ _
      have RV := hide (And.intro hRw hVw)
      have E := hide (And.intro kvw (And.intro hnw (And.intro hpre (And.intro hj (And.intro hs (And.intro gZ hpl))))))
      clear kvw kvw2 hnw hRw hVw hpre hj hs hc HF gZ bZ hpl H
      gi_upto_region 3 with fail
      rw [← hZ, ← hzs]
      replace hZ := hide hZ
      replace hzs := hide hzs
      clear y0 y1 y2 y3 y4 y5 y6 y7
      gi_wp2_with fail
      refine ⟨trivial, (callsIn_wide.2 hcp).mono ?_⟩
      rintro e W2 ⟨a2, c2, rfl, hf2, g2⟩
      obtain ⟨kvw, hnw, hpre, hj, hs, gZ, hpl⟩ := unhide E
      have gg := grown_trans gZ g2
      obtain ⟨fn, tmps, assign, body, hy, hRR⟩ := (unhide HY) pre (s, a2, c2) W2 (unhide HJ _ _ _ hj gg) (by rw [List.map_append]; exact hpl)
      have HRR := hide hRR
      have RV2 := hide (And.intro (fun g hg => ((unhide RV).1 g hg).grown (unhide HC) hnw gg) (fun g e => ((unhide RV).2 g e).grown (unhide HC) hnw gg))
      clear RV
      have E2 := hide (And.intro (kvw.grown gg) (And.intro (Nat.le_trans hnw gg.size) (And.intro hpre hs)))
      clear hRR kvw hnw hpre hj hs gZ hpl gg hcp hf2 g2 E z0 z1 z2 z3 z4 z5 z6 z7
      simp only [encQ, St.cs] at hy
      gi_wp2_with fail
      refine (unhide HRR).mono ?_
      rintro e W3 (⟨rfl, hJ3, hk3⟩ | ⟨rfl, hJx3⟩)
      · have HK := hide (And.intro hJ3 hk3)
        clear hJ3 hk3 hy HRR
        gi_wp2_with fail
        go_roundw
        case rel =>
          obtain ⟨hJ3, hk3⟩ := unhide HK
          obtain ⟨kw2, nw2, hpre, hs⟩ := unhide E2
          obtain ⟨rR, rV⟩ := unhide RV2
          refine ⟨k + 1, hlt, by go_num, ?_, Nat.le_trans nw2 hk3.size, fun g hg => (rR g hg).step hk3, fun g e => (rV g e).step hk3, pre ++ [(s, a2, c2)], ?_, hJ3⟩
          · refine kw2.kept (fun x hx => hk3.at (rR x hx) (.inl hx)) (fun x e => ?_)
            obtain ⟨cs, hb⟩ := kw2.ty x e
            exact hk3.at (rV x e) (.inr ⟨_, _, hb⟩)
          · rw [List.map_append, hpre, take_at hs]
            rfl
        case measure => simp [intOf]; omega
      · have HJ3 := hide hJx3
        clear hJx3 hy HRR
        gi_wp2_with fail
        refine bodyPost_ret (results_none rfl _ _ _) rfl ?_
        obtain ⟨kw2, nw2, hpre, hs⟩ := unhide E2
        refine ⟨⟨_, rfl⟩, .inr ⟨pre ++ [(s, a2, c2)], ?_, unhide HJ3⟩⟩
        rw [List.map_append, hpre]
        have e := take_at hs
        exact (show ks.take k ++ [s] <+: ks by rw [← e]; exact List.take_prefix _ _)
    · obtain rfl : k = N := by omega
      have hkI : ¬ (k : Int) < (k : Int) := by omega
      obtain ⟨-, -, -, -, pre, e2, e3⟩ := unhide H
      have Ex := hide (And.intro e2 e3)
      clear e2 e3 H
      gi_wp2_with fail
      go_end0
      obtain ⟨e2, e3⟩ := unhide Ex
      rw [List.take_of_length_le (by rw [(unhide HN).1]; exact Nat.le_refl _)] at e2
      exact ⟨⟨_, rfl⟩, .inl ⟨pre, e2, e3⟩⟩

theorem kept_seqO (Bn b : Nat) (R S : Nat → Prop) (C : List Addr) (kv : Value) (ks : List St) (w : World) (hBn : w.cell? ⟨Bn, 0, none⟩ = some (.pointer (some ⟨b, 0, none⟩))) (hb6 : w.cell? ⟨b, 6, none⟩ = some kv) (hk : KvAt R w kv ks) (hR : ∀ g, R g → PrO S C w g) (hC : ∀ c ∈ C, c.block < w.heap.size) (hO : ∀ g, OnO S C w g → g < w.heap.size) (hlen : ks.length ≤ 1000) :
    SeqO 26 #[.pointer (some ⟨Bn, 0, none⟩)] encQ (KO R S C) (keptS ks) (keptP ks) w := by
  intro l J Jx W bel hJ hJx hY h0
  have c1 : W.cell? ⟨Bn, 0, none⟩ = some (.pointer (some ⟨b, 0, none⟩)) := (bel.cell (p := ⟨Bn, 0, none⟩) (World.block_lt_of_cell? w _ hBn)).trans hBn
  have c2 : W.cell? ⟨b, 6, none⟩ = some kv := (bel.cell (p := ⟨b, 6, none⟩) (World.block_lt_of_cell? w _ hb6)).trans hb6
  have c3 : KvAt R W kv ks := hk.kept (fun g hg => bel.block g (hR g hg).1) (fun g hg => bel.block g (hk.lt g hg))
  have bk : ∀ g, OnO S C W g → OnO S C w g := fun g hg => hg.back fun c hc => bel.block _ (hC c hc)
  refine (callsIn_wide (n := 1)).1 ?_
  exact kept1_inO 1 (Nat.le_refl _) l Bn b w.heap.size R S C hC kv ks J Jx (fun pre x X hj hp => YieldAt.mono (hY 0 pre x X hj hp) (fun e X' h => by
      rcases h with ⟨e1, h2, h3, -⟩ | ⟨e1, h2, -⟩
      · exact .inl ⟨e1, h2, h3⟩
      · exact .inr ⟨e1, h2⟩)) (fun pre X X' h g => hJ pre X X' none h g (fun r e => by cases e)) W c1 c2 c3 bel.size (fun g hg => ⟨Nat.lt_of_lt_of_le (hR g hg).1 bel.size, fun ho => (hR g hg).2 (bk g ho)⟩) (fun g hg => Nat.lt_of_lt_of_le (hO g (bk g hg)) bel.size) hlen h0
end Go.Proofs.Ytnflbefbgcbdfaa

namespace Go.Proofs.Ytnflbefbgcbdfaa
open Go.RowKit Go.Shelf
set_option linter.unusedVariables false
set_option maxRecDepth 100000
set_option maxHeartbeats 1000000

theorem bx_gr {W W' : World} {b : Nat} {t : TypeId} {v : Value} (h : Boxed W b t v) (g : W.grownBy W' none) : Boxed W' b t v := (g.block b (Boxed.lt h) (by simp)).trans h
/-- A region that draws, reads and calls, where a panic may be heard of. -/
theorem region_held_here {n : Nat} {P : Program} {id : Nat} {Q : Exit → Act → World → Prop} {a : Act} {w : World} {ops : Array Oper} (S : World → Prop) (hm : P.follows .mixedOrders = true) (hS : S w.drew)
    (h : S w.drew → wpAnyH P .any ops (fun e a w => e = .normal ∧ Q .normal a w) S ops.size (Array.replicate ops.size false) a w.drew) : (Code.region id ops true).wpIn Fence.wide n P Q a w :=
  wpIn_mono (wpIn_wide.2 (wp_region_held_drew (S := S) hm hS h)) (fun e a w h => by obtain ⟨rfl, h⟩ := h; exact h)
theorem opIn_of_op {P : Program} {o : Oper} {a : Act} {w : World} {K : Act → World → Prop} {Q : Exit → Act → World → Prop} (n : Nat) (hd : noDefer o = true) (h : o.wp P a w K Q) : o.wpIn Fence.wide n P a w K Q := by
  refine ⟨fun _ _ => trivial, ?_⟩
  rw [Oper.semAt_plain Fence.wide _ _ (noDefer_ne hd)]
  unfold Oper.wp at h
  generalize (execOp a.eval o).run P w = r at h
  cases r with
  | ok x w' =>
    cases x with
    | value v => exact h
    | skip => exact h
    | defer d => exact h
    | enter f args => exact ⟨(fun h => by cases h), callsIn_wide.2 h⟩
    | row row args => exact ⟨(fun h => by cases h), fun c cs _ => let ⟨v, w', r, s⟩ := h c cs; ⟨v, w', r, stepsIn_wide.2 s⟩⟩
    | _ => exact h.elim
  | halt x w' =>
    cases x with
    | panic v => exact h
    | _ => exact h.elim

theorem anyIn_of_any {P : Program} {md : Region.Mode} {ops : Array Oper} {Q : Exit → Act → World → Prop} (n : Nat) (hnd : ∀ (i : Nat) o, ops[i]? = some o → noDefer o = true) (hlo : ¬ LetsOut Q) : ∀ (fuel : Nat) (listed : Array Bool) (a : Act) (w : World), wpAny P md ops Q fuel listed a w → wpAnyIn Fence.wide n P md ops Q fuel listed a w
  | 0, _, _, _, h => h
  | fuel + 1, listed, a, w, h => ⟨h.1, fun i hi => by
      have h2 := wpOp_mono (fun a' w' hh => anyIn_of_any n hnd hlo fuel _ a' w' hh) (h.2 i hi)
      unfold wpOp at h2
      unfold wpOpIn
      cases ho : ops[i]? with
      | none => rw [ho] at h2; exact h2
      | some o =>
        rw [ho] at h2
        simp only at h2 ⊢
        by_cases hw : Region.wanted o (yielded ops a.tmps) = true
        · rw [if_pos hw] at h2 ⊢
          exact opIn_of_op n (hnd i o ho) (h2.resolve_right (fun e => hlo e.2))
        · rw [if_neg hw] at h2 ⊢
          exact ⟨fun _ _ => trivial, h2⟩⟩

theorem region_held_round {n : Nat} {P : Program} {id l : Nat} {Q : Exit → Act → World → Prop} {a : Act} {w : World} {ls : List Oper} (S : World → Prop) (hm : P.follows .mixedOrders = true) (hnd : ls.all noDefer = true) (hlo : ¬ LetsOut Q) (hS : S w.drew)
    (h : S w.drew → wpAnyH P .any ls.toArray Q S ls.toArray.size (Array.replicate ls.toArray.size false) a w.drew) : (Code.region id ls.toArray true).wpIn (Fence.wide.inRound l) n P Q a w := by
  have nd : ∀ (i : Nat) o, ls.toArray[i]? = some o → noDefer o = true := fun i o ho => by
    have h2 : ls[i]? = some o := by simpa using ho
    exact List.all_eq_true.1 hnd o (List.mem_of_getElem? h2)
  exact wpIn_region_any hm (wpAnyIn_round l nd _ _ _ _ (anyIn_of_any n nd hlo _ _ _ _ (wpAny_of_held _ _ _ _ (h hS))))
/-- The same for a region that ends as it should. -/
theorem region_held_only {n : Nat} {P : Program} {id l : Nat} {Q : Exit → Act → World → Prop} {a : Act} {w : World} {ls : List Oper} (S : World → Prop) (hm : P.follows .mixedOrders = true) (hnd : ls.all noDefer = true) (hS : S w.drew)
    (h : S w.drew → wpAnyH P .any ls.toArray (fun e a w => e = .normal ∧ Q .normal a w) S ls.toArray.size (Array.replicate ls.toArray.size false) a w.drew) : (Code.region id ls.toArray true).wpIn (Fence.wide.inRound l) n P Q a w :=
  wpIn_mono (region_held_round S hm hnd (fun h => by obtain ⟨a, w, e, -⟩ := h; cases e) hS h) (fun e a w h => by obtain ⟨rfl, h⟩ := h; exact h)
/-- A block of cells. -/
def InC (W : World) (g : Nat) : Prop := ∃ o : Obj, W.heap[g]? = some o ∧ o.isCells = true
theorem InC.blk {W : World} {g : Nat} {cs : Array Value} {t : TypeId} (h : Blk W g cs t) : InC W g := ⟨_, h, rfl⟩
theorem InC.same {W W' : World} {g B : Nat} {row : Option Nat} (h : InC W g) (k : W.grownBy W' row) (hr : Rec B W row) : W'.heap[g]? = W.heap[g]? := by
  obtain ⟨o, h1, h2⟩ := h
  refine k.block g (Array.getElem?_eq_some_iff.1 h1).1 (fun e => ?_)
  obtain ⟨-, o', h3, h4⟩ := hr g e.symm
  rw [h1] at h3; cases h3; rw [h2] at h4; cases h4
theorem InC.kept {W W' : World} {g : Nat} (h : InC W g) (e : W'.heap[g]? = W.heap[g]?) : InC W' g := by
  obtain ⟨o, h1, h2⟩ := h
  exact ⟨o, e.trans h1, h2⟩
section
variable {R : Nat → Prop} {W W' : World} {sz : Nat} {v fv kv va : Value} {xs : List Value} {cs : List Value} {f : Fr} {fs : List Fr} {a : Option Addr} {ks : List St} {b q : Nat} {l : Lg}
theorem RdV.inC (h : RdV W a xs) (hx : xs ≠ []) : ∀ b off, a = some ⟨b, off, none⟩ → InC W b := fun b off e => by
  obtain ⟨b', off', e', hc⟩ := h.resolve_left hx
  rw [e] at e'
  cases e'
  cases xs with
  | nil => exact absurd rfl hx
  | cons x xs => exact cells_of_cell (hc 0 x rfl)
theorem Li.inC (h : Li R W sz v xs) : Li (fun b => R b ∧ InC W b) W sz v xs := by
  obtain ⟨a, n, c, h1, h2, h3, h4⟩ := h.ex
  exact ⟨a, n, c, h1, h2, h3, fun hx b off e => ⟨h4 hx b off e, h3.inC hx b off e⟩⟩
theorem FrAt.inC (h : FrAt R W cs f) : FrAt (fun b => R b ∧ InC W b) W cs f := by
  obtain ⟨h0, dv, rv, h1, h2, h3⟩ := h
  exact ⟨h0, dv, rv, h1, h2.inC, h3.inC⟩
theorem FvAt.inC (h : FvAt R W fv fs) : FvAt (fun b => R b ∧ InC W b) W fv fs := by
  obtain ⟨h0, a, c, css, h1, h3, h4, h5⟩ := h
  refine ⟨h0, a, c, css, h1, ⟨h3.len, fun i c f hc hf => (h3.at_ i c f hc hf).inC⟩, h4, fun hx b off e => ⟨h5 hx b off e, h4.inC (fun e2 => hx ?_) b off e⟩⟩
  have h6 := flat_len 17 css h3.l17
  rw [e2, h3.len] at h6
  simp at h6
  exact List.length_eq_zero_iff.1 (by omega)
theorem KvAt.inC (h : KvAt R W kv ks) : KvAt (fun b => R b ∧ InC W b) W kv ks := by
  obtain ⟨fvs, h1, h2, h3⟩ := h
  exact ⟨fvs, h1, h2, fun i s fv a b => (h3 i s fv a b).inC⟩
theorem LgAt.inC (h : LgAt R W b q kv va l) : LgAt (fun b => R b ∧ InC W b) W b q kv va l :=
  ⟨h.blk, h.set, h.row.inC, fun g hg => h.low g hg.1, fun e => h.nb e.1, fun e => h.nq e.1, fun g e hg => h.nk g e hg.1, fun g e hg => h.na g e hg.1⟩
end
section
variable {R : Nat → Prop} {W W' : World} {lw b q : Nat} {nv zv fv kv va : Value} {l : Lg} {T : List Tr}
theorem LW.inC (h : LW R W lw b q nv zv fv kv va l T) : LW (fun b => R b ∧ InC W b) W lw b q nv zv fv kv va l T := ⟨h.ld, h.n_, h.z_, h.f_, h.lg.inC, h.nz, fun g hg => h.ro g hg.1, h.ok⟩
theorem LW.kept (h : LW R W lw b q nv zv fv kv va l T) (hz : W.heap.size ≤ W'.heap.size) (hk : ∀ x, ownL lw b q nv zv fv kv va x ∨ R x → W'.heap[x]? = W.heap[x]?) : LW R W' lw b q nv zv fv kv va l T := by
  have o : ∀ x, ownL lw b q nv zv fv kv va x → W'.heap[x]? = W.heap[x]? := fun x hx => hk x (.inl hx)
  refine ⟨(o lw (.inl rfl)).trans h.ld, h.n_.kept fun g e => o g (.inr (.inr (.inr (.inl e)))), h.z_.kept fun g e => o g (.inr (.inr (.inr (.inr (.inl e))))), h.f_.kept fun g e => o g (.inr (.inr (.inr (.inr (.inr (.inl e)))))), ⟨(o b (.inr (.inl rfl))).trans h.lg.blk, ?_, ?_, fun g hg => Nat.lt_of_lt_of_le (h.lg.low g hg) hz, h.lg.nb, h.lg.nq, h.lg.nk, h.lg.na⟩, h.nz, h.ro, h.ok⟩
  · exact h.lg.set.kept (o q (.inr (.inr (.inl rfl)))) (fun g e => o g (.inr (.inr (.inr (.inr (.inr (.inr (.inr e))))))))
  · exact h.lg.row.kept (fun g hg => hk g (.inr hg)) (fun g e => o g (.inr (.inr (.inr (.inr (.inr (.inr (.inl e))))))))
/-- The blocks that are written are cells. -/
theorem LW.oc (h : LW R W lw b q nv zv fv kv va l T) : ∀ x, ownL lw b q nv zv fv kv va x → InC W x := by
  rintro x (rfl | rfl | rfl | e | e | e | e | e)
  · exact InC.blk h.ld
  · exact InC.blk h.lg.blk
  · exact InC.blk (show Blk W x _ 79 from h.lg.set.blk)
  · obtain ⟨cs, hc⟩ := h.n_.ty x e; exact InC.blk hc
  · obtain ⟨cs, hc⟩ := h.z_.ty x e; exact InC.blk hc
  · obtain ⟨cs, hc⟩ := h.f_.ty x e; exact InC.blk hc
  · obtain ⟨cs, hc⟩ := h.lg.row.ty x e; exact InC.blk hc
  · obtain ⟨cs, hc⟩ := row_ty h.lg.set.row x e; exact InC.blk hc
theorem LW.ol (h : LW R W lw b q nv zv fv kv va l T) (x : Nat) (hx : ownL lw b q nv zv fv kv va x) : x < W.heap.size := by
  obtain ⟨o, h1, -⟩ := h.oc x hx
  exact (Array.getElem?_eq_some_iff.1 h1).1
theorem LW.own {B : Nat} {row : Option Nat} (h : LW R W lw b q nv zv fv kv va l T) (hR : ∀ g, R g → InC W g) (g : W.grownBy W' row) (hr : Rec B W row) : LW R W' lw b q nv zv fv kv va l T :=
  h.kept g.size fun x hx => (hx.elim (h.oc x) (hR x)).same g hr
/-- A box of another kind is none of the blocks that are written. -/
theorem LW.nbox (h : LW R W lw b q nv zv fv kv va l T) {x : Nat} {t : TypeId} {v : Value} (hb : Boxed W x t v) (n1 : t ≠ 32) (n2 : t ≠ 63) (n3 : t ≠ 79) (n4 : t ≠ 2) (n5 : t ≠ 3) (n6 : t ≠ 36) (n7 : t ≠ 48) : ¬ ownL lw b q nv zv fv kv va x := by
  have hx : Blk W x #[v] t := hb
  rintro (e | e | e | e | e | e | e | e)
  · exact ty_ne hx h.ld n1 e
  · exact ty_ne hx h.lg.blk n2 e
  · exact ty_ne hx (show Blk W q _ 79 from h.lg.set.blk) n3 e
  · obtain ⟨cs, hc⟩ := h.n_.ty x e; exact ty_ne hx hc n4 rfl
  · obtain ⟨cs, hc⟩ := h.z_.ty x e; exact ty_ne hx hc n4 rfl
  · obtain ⟨cs, hc⟩ := h.f_.ty x e; exact ty_ne hx hc n5 rfl
  · obtain ⟨cs, hc⟩ := h.lg.row.ty x e; exact ty_ne hx hc n6 rfl
  · obtain ⟨cs, hc⟩ := row_ty h.lg.set.row x e; exact ty_ne hx hc n7 rfl
theorem DoP.box {D : Prop} {e : Ending} (h : LW R W lw b q nv zv fv kv va l T) (d : DoP D R W lw b q nv zv fv kv va l T e W') {x : Nat} {t : TypeId} {v : Value} (hb : Boxed W x t v) (n1 : t ≠ 32) (n2 : t ≠ 63) (n3 : t ≠ 79) (n4 : t ≠ 2) (n5 : t ≠ 3) (n6 : t ≠ 36) (n7 : t ≠ 48) : Boxed W' x t v := by
  obtain ⟨R', nv', zv', fv', kv', va', l', T', -, -, d2, -⟩ := d
  exact (d2.block x hb.lt (h.nbox hb n1 n2 n3 n4 n5 n6 n7)).trans hb
/-- None of the blocks that hold frames is written. -/
theorem LW.apart (h : LW R W lw b q nv zv fv kv va l T) : ∀ x, R x → ¬ ownL lw b q nv zv fv kv va x := by
  intro x hR ho
  obtain ⟨r1, r2, r3, r4⟩ := h.ro x hR
  rcases ho with e | e | e | e | e | e | e | e
  · exact r1 e
  · exact h.lg.nb (e ▸ hR)
  · exact h.lg.nq (e ▸ hR)
  · exact r2 e
  · exact r3 e
  · exact r4 e
  · exact h.lg.nk x e hR
  · exact h.lg.na x e hR
/-- What the rounds of the last range may write. -/
def s3 (lw b q ib : Nat) (x : Nat) : Prop := x = lw ∨ x = b ∨ x = q ∨ x = ib
def c3 (lw b q : Nat) : List Addr := [⟨lw, 1, none⟩, ⟨lw, 2, none⟩, ⟨lw, 3, none⟩, ⟨b, 6, none⟩, ⟨q, 1, none⟩]
theorem on3 (h : LW R W lw b q nv zv fv kv va l T) (ib x : Nat) : OnO (s3 lw b q ib) (c3 lw b q) W x ↔ (ownL lw b q nv zv fv kv va x ∨ x = ib) := by
  have d1 : W.cell? ⟨lw, 1, none⟩ = some nv := h.ld.cell 1 _ rfl
  have d2 : W.cell? ⟨lw, 2, none⟩ = some zv := h.ld.cell 2 _ rfl
  have d3 : W.cell? ⟨lw, 3, none⟩ = some fv := h.ld.cell 3 _ rfl
  have d4 : W.cell? ⟨b, 6, none⟩ = some kv := h.lg.blk.cell 6 _ rfl
  have d5 : W.cell? ⟨q, 1, none⟩ = some va := h.lg.set.c1
  constructor
  · rintro (h | ⟨c, hc, v, h1, h2⟩)
    · unfold s3 at h
      unfold ownL
      rcases h with e | e | e | e
      · exact .inl (.inl e)
      · exact .inl (.inr (.inl e))
      · exact .inl (.inr (.inr (.inl e)))
      · exact .inr e
    · left
      unfold ownL
      simp only [c3, List.mem_cons, List.not_mem_nil, or_false] at hc
      rcases hc with rfl | rfl | rfl | rfl | rfl
      · rw [d1] at h1; cases h1; exact .inr (.inr (.inr (.inl h2)))
      · rw [d2] at h1; cases h1; exact .inr (.inr (.inr (.inr (.inl h2))))
      · rw [d3] at h1; cases h1; exact .inr (.inr (.inr (.inr (.inr (.inl h2)))))
      · rw [d4] at h1; cases h1; exact .inr (.inr (.inr (.inr (.inr (.inr (.inl h2))))))
      · rw [d5] at h1; cases h1; exact .inr (.inr (.inr (.inr (.inr (.inr (.inr h2))))))
  · rintro ((e | e | e | e | e | e | e | e) | e)
    · exact .inl (.inl e)
    · exact .inl (.inr (.inl e))
    · exact .inl (.inr (.inr (.inl e)))
    · exact .inr ⟨_, by simp [c3], nv, d1, e⟩
    · exact .inr ⟨_, by simp [c3], zv, d2, e⟩
    · exact .inr ⟨_, by simp [c3], fv, d3, e⟩
    · exact .inr ⟨_, by simp [c3], kv, d4, e⟩
    · exact .inr ⟨_, by simp [c3], va, d5, e⟩
    · exact .inl (.inr (.inr (.inr e)))
end
abbrev LMK (w1 W : World) : Prop := Kp (fun x => w1.heap.size ≤ x) w1 W
/-- Between two rounds of the last range: O is what could be written as it began. -/
structure R3 (w1 wR : World) (O : Nat → Prop) (lw b q ib k0 j : Nat) (X : World) : Prop where
  ex : ∃ R nv zv fv kv va l T, LW R X lw b q nv zv fv kv va l T ∧ (∀ g, R g → InC X g ∧ g ≠ ib) ∧ T.length ≤ k0 ∧ l.ne ≤ (k0 : Int) ∧ (∀ x, ownL lw b q nv zv fv kv va x → O x ∨ wR.heap.size ≤ x)
  bx : Boxed X ib 3 (.int .i64 (j : Int))
  kp : ∀ x, x < wR.heap.size → ¬ O x → x ≠ ib → X.heap[x]? = wR.heap[x]?
  gr : Kp (fun x => w1.heap.size ≤ x) w1 X
  sz : wR.heap.size ≤ X.heap.size
section
variable {w1 wR X X' : World} {O : Nat → Prop} {lw b q ib k0 j : Nat}
theorem R3.own {B : Nat} {row : Option Nat} (h : R3 w1 wR O lw b q ib k0 j X) (g : X.grownBy X' row) (hr : Rec B X row) (hB : wR.heap.size ≤ B) (hz : w1.heap.size ≤ wR.heap.size) : R3 w1 wR O lw b q ib k0 j X' := by
  obtain ⟨R, nv, zv, fv, kv, va, l, T, e1, e2, e3, e4, e5⟩ := h.ex
  have nr : ∀ x, x < wR.heap.size → some x ≠ row := fun x hx e => by have := (hr x e.symm).1; omega
  refine ⟨⟨R, nv, zv, fv, kv, va, l, T, e1.own (fun g hg => (e2 g hg).1) g hr, fun x hx => ⟨(e2 x hx).1.kept ((e2 x hx).1.same g hr), (e2 x hx).2⟩, e3, e4, e5⟩, bxOwn h.bx g hr, fun x hx ho hi => (g.block x (Nat.lt_of_lt_of_le hx h.sz) (nr x hx)).trans (h.kp x hx ho hi), ?_, Nat.le_trans h.sz g.size⟩
  exact ⟨g.os.trans h.gr.os, g.tape.trans h.gr.tape, g.output.trans h.gr.output, Nat.le_trans h.gr.size g.size, fun x hx hn => (g.block x (Nat.lt_of_lt_of_le hx h.gr.size) (nr x (by omega))).trans (h.gr.block x hx hn)⟩
theorem R3.grown (h : R3 w1 wR O lw b q ib k0 j X) (g : X.grownBy X' none) (hz : w1.heap.size ≤ wR.heap.size) : R3 w1 wR O lw b q ib k0 j X' := h.own (B := wR.heap.size) g (fun r e => by cases e) (Nat.le_refl _) hz
/-- A step in a round: does. -/
theorem R3.does {R : Nat → Prop} {nv zv fv kv va : Value} {l : Lg} {T : List Tr} {D : Prop} {e : Ending} (h : R3 w1 wR O lw b q ib k0 j X) (hl : LW R X lw b q nv zv fv kv va l T) (hR : ∀ g, R g → g ≠ ib) (h3 : T.length ≤ k0) (h4 : l.ne ≤ (k0 : Int)) (h5 : ∀ x, ownL lw b q nv zv fv kv va x → O x ∨ wR.heap.size ≤ x)
    (hO : ∀ x, O x → w1.heap.size ≤ x ∧ x ≠ ib) (hi : ib < wR.heap.size) (hz : w1.heap.size ≤ wR.heap.size) (d : DoP D R X lw b q nv zv fv kv va l T e X') :
    e = .returned (.bool true) ∧ R3 w1 wR O lw b q ib (k0 + 1) j X' ∧ (∀ R0 : Nat → Prop, KO R0 (s3 lw b q ib) (c3 lw b q) X X') ∧ KeepsOthers X X' := by
  obtain ⟨R', nv', zv', fv', kv', va', l', T', rfl, d1, d2, d3, d4, d5, d6, d7, d8⟩ := d
  have sz := h.sz
  have on : ∀ x, ownL lw b q nv zv fv kv va x → x ≠ ib := fun x hx e => by
    rcases h5 x hx with q1 | q1
    · exact (hO x q1).2 e
    · omega
  have on' : ∀ x, ownL lw b q nv' zv' fv' kv' va' x → O x ∨ wR.heap.size ≤ x := fun x hx => by
    rcases d3 x hx with q1 | q1
    · exact h5 x q1
    · exact .inr (by omega)
  refine ⟨rfl, ⟨⟨_, nv', zv', fv', kv', va', l', T', d1.inC, fun g hg => ⟨hg.2, ?_⟩, by omega, by omega, on'⟩, ?_, ?_, ?_, Nat.le_trans sz d2.size⟩, fun R0 => ?_, ⟨d2.size, fun x o hx ho => ?_⟩⟩
  · rcases d4 g hg.1 with q1 | q1
    · exact hR g q1
    · have := h.bx.lt; intro e; omega
  · exact (d2.block ib h.bx.lt (fun hx => on ib hx rfl)).trans h.bx
  · intro x hx ho hi2
    refine (d2.block x (by omega) (fun hw => ?_)).trans (h.kp x hx ho hi2)
    rcases h5 x hw with q1 | q1
    · exact ho q1
    · omega
  · refine h.gr.trans (d2.mono fun x _ hx => ?_)
    rcases h5 x hx with q1 | q1
    · exact (hO x q1).1
    · omega
  · refine KO.of d2 (fun x hx => (on3 hl ib x).2 (.inl hx)) (fun x hx hlt => (on3 hl ib x).2 ?_)
    rcases (on3 d1 ib x).1 hx with q1 | q1
    · rcases d3 x q1 with q2 | q2
      · exact .inl q2
      · omega
    · exact .inr q1
  · refine (d2.block x (Array.getElem?_eq_some_iff.1 hx).1 (fun hw => ?_)).trans hx
    obtain ⟨o', h6, h7⟩ := hl.oc x hw
    rw [hx] at h6; cases h6; rw [ho] at h7; cases h7
/-- The count is written. -/
theorem R3.seti (h : R3 w1 wR O lw b q ib k0 j X) (j' : Nat) (hO : ∀ x, O x → w1.heap.size ≤ x ∧ x ≠ ib) (hi : ib < wR.heap.size) (hi1 : w1.heap.size ≤ ib) : R3 w1 wR O lw b q ib k0 j' (X.setCell ⟨ib, 0, none⟩ (.int .i64 (j' : Int))) ∧ (∀ R0 : Nat → Prop, KO R0 (s3 lw b q ib) (c3 lw b q) X (X.setCell ⟨ib, 0, none⟩ (.int .i64 (j' : Int)))) ∧ KeepsOthers X (X.setCell ⟨ib, 0, none⟩ (.int .i64 (j' : Int))) := by
  have k : Kp (fun g => g = ib) X (X.setCell ⟨ib, 0, none⟩ (.int .i64 (j' : Int))) := (Kp.refl _ X).set _ _ _ (fun _ => rfl)
  have hb := h.bx
  obtain ⟨R, nv, zv, fv, kv, va, l, T, e1, e2, e3, e4, e5⟩ := h.ex
  have on : ∀ x, ownL lw b q nv zv fv kv va x → x ≠ ib := fun x hx e => by
    rcases e5 x hx with q1 | q1
    · exact (hO x q1).2 e
    · omega
  have same : ∀ x, x < X.heap.size → x ≠ ib → (X.setCell ⟨ib, 0, none⟩ (.int .i64 (j' : Int))).heap[x]? = X.heap[x]? := fun x hx hn => k.block x hx hn
  have e1' : LW R (X.setCell ⟨ib, 0, none⟩ (.int .i64 (j' : Int))) lw b q nv zv fv kv va l T := e1.kept k.size fun x hx => by
    rcases hx with hx | hx
    · exact same x (e1.ol x hx) (on x hx)
    · exact same x (e1.lg.low x hx) (e2 x hx).2
  refine ⟨⟨⟨R, nv, zv, fv, kv, va, l, T, e1', fun g hg => ⟨(e2 g hg).1.kept (same g (e1.lg.low g hg) (e2 g hg).2), (e2 g hg).2⟩, e3, e4, e5⟩, Boxed.set _ hb, fun x hx ho hi2 => (same x (Nat.lt_of_lt_of_le hx h.sz) hi2).trans (h.kp x hx ho hi2), h.gr.trans (k.mono fun x _ e => by rw [e]; exact hi1), Nat.le_trans h.sz k.size⟩, fun R0 => ?_, ⟨k.size, fun x o hx ho => ?_⟩⟩
  · exact KO.of k (fun x e => (on3 e1 ib x).2 (.inr e)) (fun x hx _ => (on3 e1 ib x).2 ((on3 e1' ib x).1 hx))
  · refine (k.block x (Array.getElem?_eq_some_iff.1 hx).1 (fun e => ?_)).trans hx
    have hb2 : X.heap[ib]? = some (.cells #[.int .i64 (j : Int)] 3 (0, 0)) := hb
    rw [← e, hx] at hb2
    cases hb2; cases ho
theorem R3.weak {m : Nat} (h : R3 w1 wR O lw b q ib k0 j X) (hm : k0 ≤ m) : R3 w1 wR O lw b q ib m j X := by
  obtain ⟨R, nv, zv, fv, kv, va, l, T, e1, e2, e3, e4, e5⟩ := h.ex
  exact ⟨⟨R, nv, zv, fv, kv, va, l, T, e1, e2, by omega, by omega, e5⟩, h.bx, h.kp, h.gr, h.sz⟩
end
theorem wpListIn_append_run {F : Fence} {n : Nat} (w : World) {ops : Array Oper} {rest : List Oper} {o : Oper} {a : Act} {Q : Exit → Act → World → Prop} (hgd : o.guard = none) (d s : Operand) (t t' : TypeId)
    (ho : o.op = .call { callee := .builtin .append, args := #[d, s], argTypes := #[t, t'] }) (v u : Value) (hd : a.eval d = v) (hs : a.eval s = u) {v' : Value} {w' : World}
    (hr : (Builtin.append_ #[t, t'] o.type #[v, u]).run Try.prog w = .ok v' w') (h : wpListIn F n Try.prog ops Q rest (a.put o.dst v') w') : wpListIn F n Try.prog ops Q (o :: rest) a w :=
  wpListIn_plain hgd fun K hK => by
    unfold Oper.wpIn
    refine ⟨?_, ?_⟩
    · simp [Oper.about, ho, resolve, Target.leads, Sem.run_pure]
    · rw [Oper.semAt_plain F _ _ (by rw [ho]; intro c hc'; cases hc')]
      simp [execOp, ho, resolve, invoke, builtin, hd, hs, hr, Result.andThen]
      exact hK _ _ h
/-- Between two rounds of the first range: the numbers are collected in a box. -/
structure R1 (wB : World) (sb : Nat) (v : Value) (xs : List Int) (X : World) : Prop where
  bx : Boxed X sb 29 v
  ir : IR 2 X v xs
  lo : ∀ g, v.ownBlock = some g → wB.heap.size ≤ g
  gr : wB.grownBy X none
  sl : wB.heap.size ≤ sb
def s1 (sb : Nat) (x : Nat) : Prop := x = sb
def c1 (sb : Nat) : List Addr := [⟨sb, 0, none⟩]
theorem on1 {X : World} {sb : Nat} {v : Value} {t : TypeId} (h : Boxed X sb t v) (x : Nat) : OnO (s1 sb) (c1 sb) X x ↔ (x = sb ∨ v.ownBlock = some x) := by
  constructor
  · rintro (h | ⟨c, hc, u, h1, h2⟩)
    · exact .inl h
    · simp only [c1, List.mem_cons, List.not_mem_nil, or_false] at hc
      subst hc
      rw [h.cell] at h1; cases h1; exact .inr h2
  · rintro (e | e)
    · exact .inl e
    · exact .inr ⟨_, by simp [c1], v, h.cell, e⟩
section
variable {wB X X' : World} {sb : Nat} {v : Value} {xs : List Int}
theorem R1.own {B : Nat} {row : Option Nat} (h : R1 wB sb v xs X) (g : X.grownBy X' row) (hr : Rec B X row) (hB : wB.heap.size ≤ B) : R1 wB sb v xs X' :=
  ⟨bxOwn h.bx g hr, h.ir.kept fun x e => by obtain ⟨cs, hc⟩ := h.ir.ty x e; exact (InC.blk hc).same g hr, h.lo, grown_own h.gr g hr hB, h.sl⟩
theorem R1.grown (h : R1 wB sb v xs X) (g : X.grownBy X' none) : R1 wB sb v xs X' := h.own (B := wB.heap.size) g (fun r e => by cases e) (Nat.le_refl _)
theorem R1.ne (h : R1 wB sb v xs X) : ∀ x, v.ownBlock = some x → x ≠ sb := fun x e => by
  obtain ⟨cs, hc⟩ := h.ir.ty x e
  exact ty_ne hc (show Blk X sb #[v] 29 from h.bx) (by decide)
/-- A number more. -/
theorem R1.push (h : R1 wB sb v xs X) (n : Int) (hl : xs.length ≤ 100000000) :
    ∃ a' c' W', (Builtin.append_ #[29, 29] 29 #[v, .slice (some ⟨X.heap.size, 0, none⟩) 1 1]).run Try.prog (X.alloc (.cells #[.int .i64 n] 2)) = .ok (.slice a' (xs.length + 1) c') W' ∧ W'.cell? ⟨sb, 0, none⟩ = some v ∧ W'.frozen? ⟨sb, 0, none⟩ = false ∧ R1 wB sb (.slice a' (xs.length + 1) c') (xs ++ [n]) (W'.setCell ⟨sb, 0, none⟩ (.slice a' (xs.length + 1) c')) ∧
      (∀ R : Nat → Prop, KO R (s1 sb) (c1 sb) X (W'.setCell ⟨sb, 0, none⟩ (.slice a' (xs.length + 1) c'))) ∧ KeepsOthers X (W'.setCell ⟨sb, 0, none⟩ (.slice a' (xs.length + 1) c')) := by
  have gA := grown_alloc X (.cells #[.int .i64 n] 2)
  have hA := h.grown gA
  have zA : (X.alloc (.cells #[.int .i64 n] 2)).heap.size = X.heap.size + 1 := by simp
  obtain ⟨a', c', W', hr, hi, hg, hob⟩ := IR.app (sT := 29) Try.underlying29 Try.infoI64 hA.ir n X.heap.size (Blk.new X _ _) hl
  have n1 : ∀ x, x < X.heap.size → v.ownBlock ≠ some x → W'.heap[x]? = X.heap[x]? := fun x hx e => (hg.block x (by omega) (fun q => e q.symm)).trans (gA.block x hx (by simp))
  have nsb : v.ownBlock ≠ some sb := fun e => h.ne sb e rfl
  have b1 : Boxed W' sb 29 v := (n1 sb h.bx.lt nsb).trans h.bx
  have kp : Kp (fun g => g = sb ∨ v.ownBlock = some g) X W' := (Kp.grown gA _).trans ⟨hg.os, hg.tape, hg.output, hg.size, fun g hgl hn => hg.block g hgl (fun e => hn (.inr e.symm))⟩
  have kp2 : Kp (fun g => g = sb ∨ v.ownBlock = some g) X (W'.setCell ⟨sb, 0, none⟩ (.slice a' (xs.length + 1) c')) := kp.set _ _ _ (fun _ => .inl rfl)
  have k3 : Kp (fun g => g = sb) W' (W'.setCell ⟨sb, 0, none⟩ (.slice a' (xs.length + 1) c')) := (Kp.refl _ W').set _ _ _ (fun _ => rfl)
  have lo' : ∀ g, (Value.slice a' (xs.length + 1) c').ownBlock = some g → wB.heap.size ≤ g := fun g e => by
    rcases hob with q | q
    · exact h.lo g (by rw [← q]; exact e)
    · rw [q] at e; injection e with e; have := h.gr.size; omega
  have r2 : R1 wB sb (.slice a' (xs.length + 1) c') (xs ++ [n]) (W'.setCell ⟨sb, 0, none⟩ (.slice a' (xs.length + 1) c')) := by
    refine ⟨Boxed.set _ b1, hi.kept fun x e => k3.block x (hi.lt x e) (fun q => ?_), lo', kp2.gr (fun g e => ?_) h.gr, h.sl⟩
    · obtain ⟨cs, hc⟩ := hi.ty x e
      exact ty_ne hc (show Blk W' sb #[v] 29 from b1) (by decide) q
    · rcases e with e | e
      · rw [e]; exact h.sl
      · exact h.lo g e
  refine ⟨a', c', W', hr, b1.cell, b1.frozen, r2, fun R => ?_, ⟨kp2.size, fun x o hx ho => ?_⟩⟩
  · refine KO.of kp2 (fun x e => (on1 h.bx x).2 e) (fun x e hx => (on1 h.bx x).2 ?_)
    rcases (on1 r2.bx x).1 e with q | q
    · exact .inl q
    · rcases hob with q2 | q2
      · exact .inr (by rw [← q2]; exact q)
      · rw [q2] at q; injection q with q; omega
  · refine (kp2.block x (Array.getElem?_eq_some_iff.1 hx).1 (fun e => ?_)).trans hx
    rcases e with e | e
    · have hb2 : X.heap[sb]? = some (.cells #[v] 29 (0, 0)) := h.bx
      rw [← e, hx] at hb2; cases hb2; cases ho
    · obtain ⟨cs, hc⟩ := h.ir.ty x e
      rw [show X.heap[x]? = some (.cells cs 2 (0, 0)) from hc] at hx
      cases hx; cases ho
end
/-- A count in a box of its own; all that was there ahead of it is as it was. -/
structure R2 (X : World) (ib i : Nat) (Z : World) : Prop where
  gr : X.grownBy Z none
  bi : Boxed Z ib 3 (.int .i64 (i : Int))
  sl : X.heap.size ≤ ib
section
variable {X Z Z' : World} {ib i : Nat}
theorem R2.own {B : Nat} {row : Option Nat} (h : R2 X ib i Z) (g : Z.grownBy Z' row) (hr : Rec B Z row) (hB : X.heap.size ≤ B) : R2 X ib i Z' := ⟨grown_own h.gr g hr hB, bxOwn h.bi g hr, h.sl⟩
theorem R2.grown (h : R2 X ib i Z) (g : Z.grownBy Z' none) : R2 X ib i Z' := ⟨grown_trans h.gr g, bx_gr h.bi g, h.sl⟩
theorem R2.set (h : R2 X ib i Z) (j : Nat) : R2 X ib j (Z.setCell ⟨ib, 0, none⟩ (.int .i64 (j : Int))) ∧ Kp (fun g => g = ib) Z (Z.setCell ⟨ib, 0, none⟩ (.int .i64 (j : Int))) ∧ KeepsOthers Z (Z.setCell ⟨ib, 0, none⟩ (.int .i64 (j : Int))) := by
  have k : Kp (fun g => g = ib) Z (Z.setCell ⟨ib, 0, none⟩ (.int .i64 (j : Int))) := (Kp.refl _ Z).set _ _ _ (fun _ => rfl)
  have hb := h.bi
  refine ⟨⟨k.gr (fun g e => by rw [e]; exact h.sl) h.gr, Boxed.set _ hb, h.sl⟩, k, ⟨k.size, fun x o hx ho => ?_⟩⟩
  refine (k.block x (Array.getElem?_eq_some_iff.1 hx).1 (fun e => ?_)).trans hx
  have hb2 : Z.heap[ib]? = some (.cells #[.int .i64 (i : Int)] 3 (0, 0)) := hb
  rw [← e, hx] at hb2
  cases hb2; cases ho
end
/-- The end: the answer is laid, and the three marks are taken. -/
theorem ends3 {w0 Y : World} {rb D1 D2 D3 : Nat} (hb : Boxed Y rb 4 (.bool false)) (m1 : Y.heap[D1]? = some (Obj.deferred (some []))) (m2 : Y.heap[D2]? = some (Obj.deferred (some []))) (m3 : Y.heap[D3]? = some (Obj.deferred (some []))) (n1 : D1 < D2) (n2 : D2 < D3) (g : w0.grownBy Y none) (lo : w0.heap.size ≤ D1) (lr : w0.heap.size ≤ rb) :
    (Y.setCell ⟨rb, 0, none⟩ (.bool true)).heap[D3]? = some (Obj.deferred (some [])) ∧ ((Y.setCell ⟨rb, 0, none⟩ (.bool true)).putObj D3 (.deferred none)).heap[D2]? = some (Obj.deferred (some [])) ∧
    (((Y.setCell ⟨rb, 0, none⟩ (.bool true)).putObj D3 (.deferred none)).putObj D2 (.deferred none)).heap[D1]? = some (Obj.deferred (some [])) ∧
    ((((Y.setCell ⟨rb, 0, none⟩ (.bool true)).putObj D3 (.deferred none)).putObj D2 (.deferred none)).putObj D1 (.deferred none)).cell? ⟨rb, 0, none⟩ = some (.bool true) ∧
    w0.grownBy ((((Y.setCell ⟨rb, 0, none⟩ (.bool true)).putObj D3 (.deferred none)).putObj D2 (.deferred none)).putObj D1 (.deferred none)) none := by
  have k : Kp (fun g => g = rb) Y (Y.setCell ⟨rb, 0, none⟩ (.bool true)) := (Kp.refl _ Y).set _ _ _ (fun _ => rfl)
  have bx : Boxed (Y.setCell ⟨rb, 0, none⟩ (.bool true)) rb 4 (.bool true) := Boxed.set _ hb
  have nr : ∀ {D : Nat}, Y.heap[D]? = some (Obj.deferred (some [])) → D ≠ rb := fun {D} e e' => by
    have b : Y.heap[rb]? = some (.cells #[.bool false] 4 (0, 0)) := hb
    rw [← e', e] at b; cases b
  have r1 := nr m1
  have r2 := nr m2
  have r3 := nr m3
  have e1 := (k.block D1 (Array.getElem?_eq_some_iff.1 m1).1 r1).trans m1
  have e2 := (k.block D2 (Array.getElem?_eq_some_iff.1 m2).1 r2).trans m2
  have e3 := (k.block D3 (Array.getElem?_eq_some_iff.1 m3).1 r3).trans m3
  have gr := k.gr (w0 := w0) (fun g e => by rw [e]; exact lr) g
  generalize Y.setCell ⟨rb, 0, none⟩ (.bool true) = V at *
  have pg : ∀ (A : World) (D : Nat) (o : Obj), w0.heap.size ≤ D → w0.grownBy A none → w0.grownBy (A.putObj D o) none := fun A D o hD g => ⟨g.os, g.tape, g.output, by have := g.size; simpa using this, fun k hk _ => (World.putObj_heap_other (by omega)).trans (g.block k hk (by simp))⟩
  refine ⟨e3, (World.putObj_heap_other (by omega)).trans e2, (World.putObj_heap_other (by omega)).trans ((World.putObj_heap_other (by omega)).trans e1), ?_, pg _ _ _ lo (pg _ _ _ (by omega) (pg _ _ _ (by omega) gr))⟩
  have bb : Boxed (((V.putObj D3 (.deferred none)).putObj D2 (.deferred none)).putObj D1 (.deferred none)) rb 4 (.bool true) :=
    (World.putObj_heap_other (fun e => r1 e.symm)).trans ((World.putObj_heap_other (fun e => r2 e.symm)).trans ((World.putObj_heap_other (fun e => r3 e.symm)).trans bx))
  exact bb.cell
/-- A range, whatever way it is left. -/
theorem range_two {α : Type} {g : Operand} {ps : Array Tmp} {assign body : Code} {Q : Exit → Act → World → Prop} {a : Act} {w : World} (n id : Nat) {gf : Nat} {lb : Array Value} (hg : a.eval g = .func (.func gf) #[] lb) (eg : ∀ args w, (callFunc gf args).run Try.prog w = .ok (.enter gf args) w)
    {encs : α → Array Value} {Kx : World → World → Prop} {S Sp : List α → Prop} (hseq : SeqO gf lb encs Kx S Sp w)
    (hKt : ∀ {A B C : World}, Kx A B → Kx B C → Kx A C) (hKb : ∀ (W : World) (j : Nat) (o o' : Obj), w.heap.size ≤ j → W.heap[j]? = some o → o.isCells = false → Kx W (W.putObj j o')) (hps : ∀ x, (encs x).size = ps.size)
    (I : List α → World → Prop) (Ix : List α → World → Prop) (hI : OwnFrom w.heap.size I) (hIx : OwnFrom w.heap.size Ix) (h0 : I [] w) (Ax : α → Act → World → Prop) (hAx : ∀ x a', OwnFrom w.heap.size (fun (_ : Unit) W => Ax x a' W))
    (G : Nat → World → Prop) (hG1 : ∀ D xs W, S xs → I xs W → W.heap[D]? = some (.deferred (some [])) → G D W) (hG2 : ∀ D pre W, Sp pre → Ix pre W → W.heap[D]? = some (.deferred (some [])) → G D W) (hQ : ∀ a' W, Q .normal a' W → Q (.exit id) a' W)
    (hassign : ∀ (l m : Nat) (pre : List α) (x : α) (W : World) (K : Act → World → Prop), I pre W → (∀ a' W', KeepsFrom w.heap.size W W' → Kx W W' → I pre W' → Ax x a' W' → K a' W') →
      assign.wpIn (Fence.wide.inRound l) m Try.prog (Exit.then K (fun _ _ _ => False)) { tmps := (ps.zip (encs x)).foldl (fun t (p, v) => t.setIfInBounds p v) a.tmps, defers := [] } W)
    (hbody : ∀ (l m : Nat) (pre : List α) (x : α) (a' : Act) (W : World), w.heap.size ≤ l → (∃ r, W.heap[l]? = some (.loop r)) → I pre W → Ax x a' W → Sp (pre ++ [x]) → body.wpIn (Fence.wide.inRound l) m Try.prog (ownPostG w.heap.size Kx I (fun c xs W => c = .exit id ∧ Ix xs W) (pre ++ [x]) W) a' W)
    (hrest : ∀ (D : Nat) (W : World), w.heap.size ≤ D → G D W → Q .normal { a with defers := { target := .collected D, args := #[] } :: a.defers } W) :
    (Code.rangeFunc g ps assign body).wpIn Fence.wide n Try.prog Q a w := by
  refine range_own n hg eg hseq (fun h k => hKt h k) hKb hps I (fun c xs W => c = .exit id ∧ Ix xs W) hI (fun c pre X Y row h g hr => ⟨h.1, hIx pre X Y row h.2 g hr⟩) h0 Ax hAx hassign hbody ?_ ?_
  · intro D xs W hD hS hi hd
    exact hrest D W hD (hG1 D xs W hS hi hd)
  · rintro D c pre W hD hSp ⟨rfl, hi⟩ hd
    exact wpIn_exit (hQ _ _ (hrest D W hD (hG2 D pre W hSp hi hd)))
end Go.Proofs.Ytnflbefbgcbdfaa

namespace Go.Proofs.Ytnflbefbgcbdfaa
open Go.RowKit Go.Shelf
set_option linter.unusedVariables false
set_option linter.unusedSimpArgs false
set_option maxRecDepth 100000
set_option maxHeartbeats 4000000
attribute [local go_sem] Oper.semAt_some

theorem loops_walk (sa : Option Addr) (len cap : Nat) (ol : List OpL) (ma : Option Addr) (lenm capm : Nat) (om : List OpL) (lv : Int) (w : World) (h : IsOpL w sa len ol) (hl : len ≤ 1048576) (hm : IsOpL w ma lenm om) (hml : lenm ≤ 1048576) :
    Calls Try.prog 5 #[.slice sa len cap, .slice ma lenm capm, .int .i64 lv] w fun e w' => e = .returned (.bool true) ∧ w.grownBy w' none := by
  refine (callsIn_wide (n := 12)).1 ?_
  obtain ⟨w1, hw1⟩ : ∃ w1, w1 = ((w.alloc (.cells #[.slice ma lenm capm] 22)).alloc (.cells #[.int .i64 lv] 3)).alloc (.cells #[.bool false] 4) := ⟨_, rfl⟩
  have g01 : w.grownBy w1 none := by rw [hw1]; exact grown_trans (grown_trans (grown_alloc _ _) (grown_alloc _ _)) (grown_alloc _ _)
  have z1 : w1.heap.size = w.heap.size + 1 + 1 + 1 := by rw [hw1]; simp
  have bxs : Boxed w1 w.heap.size 22 (.slice ma lenm capm) ∧ Boxed w1 (w.heap.size + 1) 3 (.int .i64 lv) ∧ Boxed w1 (w.heap.size + 1 + 1) 4 (.bool false) := by
    rw [hw1]
    have e1 := heap_alloc_new (w.alloc (.cells #[.slice ma lenm capm] 22)) (.cells #[.int .i64 lv] 3)
    have e2 := heap_alloc_new ((w.alloc (.cells #[.slice ma lenm capm] 22)).alloc (.cells #[.int .i64 lv] 3)) (.cells #[.bool false] 4)
    simp only [World.size_alloc] at e1 e2
    exact ⟨((grown_trans (grown_alloc _ _) (grown_alloc _ _)).block _ (by simp) (by simp)).trans (heap_alloc_new w _), ((grown_alloc _ _).block _ (by simp) (by simp)).trans e1, e2⟩
  have sh := shown_any w1
  have HO := hide h
  have HL := hide (And.intro hl hml)
  have HM := hide hm
  have HB := hide (And.intro bxs (And.intro g01 z1))
  have lenI : ¬ (9223372036854775807 : Int) < (len : Int) := by omega
  clear h hl hm hml bxs g01 z1
  refine callsIn_of_wp_marks Try.func5 rfl trivial ?_ rfl
  simp only [Try.ntmps5, List.size_toArray, List.length_cons, List.length_nil, Nat.reduceAdd, Nat.reduceSub, Array.replicate_succ, Array.replicate_zero, List.push_toArray, List.append_toArray, List.nil_append, List.cons_append]
  gi_wp2_with fail
  rw [← hw1]
  replace hw1 := hide hw1
  refine ⟨trivial, ?_⟩
  refine (callsIn_wide.2 sh).mono ?_
  rintro e w2 ⟨rfl, g12⟩
  have nw := sh_new 0 w2 (by omega)
  have G12 := hide g12
  clear sh g12
  gi_wp2_with fail
  refine ⟨trivial, ?_⟩
  refine (callsIn_wide.2 nw).mono ?_
  rintro e w3 ⟨b, q, rfl, hs⟩
  have L0 := LM.start (grown_trans (unhide G12) hs.end) ⟨w2, unhide G12, hs⟩ (Int.le_refl 0)
  unfold ldc at L0
  obtain ⟨w4, hw4⟩ : ∃ w4, w4 = w3.alloc (.cells #[.pointer (some ⟨b, 0, none⟩), .slice none 0 0, .slice none 0 0, .slice none 0 0, .int .i64 0, .bool true] 32) := ⟨_, rfl⟩
  obtain ⟨w5, hw5⟩ : ∃ w5, w5 = w4.alloc (.cells #[.pointer (some ⟨w3.heap.size, 0, none⟩)] 28) := ⟨_, rfl⟩
  have g45 : w4.grownBy w5 none := by rw [hw5]; exact grown_alloc _ _
  have z4 : w4.heap.size = w3.heap.size + 1 := by rw [hw4]; simp
  have b5 : Boxed w5 (w3.heap.size + 1) 28 (.pointer (some ⟨w3.heap.size, 0, none⟩)) := by rw [hw5, ← z4]; exact heap_alloc_new w4 _
  rw [← hw4] at L0
  have I0 := hide (And.intro (L0.grown g45) b5)
  clear nw hs L0 g45 z4 b5
  gi_upto_region 6 with fail
  rw [← hw4, ← hw5]
  generalize w3.heap.size = lw at *
  replace hw4 := hide hw4
  replace hw5 := hide hw5
  gi_wp2_with fail
  refine wpIn_wide.2 ?_
  go_loopw [11] (fun iv wr => ∃ k : Nat, k ≤ len ∧ k ≤ 500 ∧ iv = .int .i64 k ∧ Hid (∃ R nv zv fv kv va l T, LM w1 0 R wr lw b q nv zv fv kv va l T k ∧ Boxed wr (lw + 1) 28 (.pointer (some ⟨lw, 0, none⟩)))) (fun iv _ => len - (intOf iv).toNat)
  case atStart => exact ⟨0, Nat.zero_le _, Nat.zero_le _, rfl, _, _, _, _, _, _, _, _, (unhide I0).1, (unhide I0).2⟩
  case round =>
    clear I0
    obtain ⟨k, hk, hk2, rfl, I⟩ := hrel
    by_cases hlt : k < len ∧ k < 500
    · have hkI : (k : Int) < (len : Int) := by omega
      have hk15 : (k : Int) < 500 := by omega
      have hk0 : (0 : Int) ≤ (k : Int) := by omega
      obtain ⟨R, nv, zv, fv, kv, va, l, T, lm, bx⟩ := unhide I
      obtain ⟨bo, off, rfl, hc⟩ := (unhide HO).cell.resolve_left (by omega)
      obtain ⟨xo, hx⟩ : ∃ xo, ol[k]? = some xo := ⟨_, List.getElem?_eq_getElem (by rw [(unhide HO).hlen]; exact hlt.1)⟩
      have ok := (unhide HO).ok xo (List.mem_of_getElem? hx)
      have kpO : ∀ W : World, LMK w1 W → ∀ j, j < w.heap.size → W.heap[j]? = w.heap[j]? := fun W hW j hj => by
        have := (unhide HB).2.1.size
        exact (hW.block j (by omega) (by omega)).trans ((unhide HB).2.1.block j hj (by simp))
      have cell : ∀ W : World, LMK w1 W → ∀ j v, xo.cs[j]? = some v → W.cell? ⟨bo, off + k * 13 + j, none⟩ = some v := fun W hW j v hj => by
        have := hc k xo hx j v hj
        rw [← this]
        exact World.cell?_of_block (kpO W hW bo (World.block_lt_of_cell? w _ this))
      have CELL : Hid (∀ W : World, LMK w1 W → W.cell? ⟨bo, off + k * 13, none⟩ = some (.int .i64 xo.kd) ∧ W.cell? ⟨bo, off + k * 13 + 1, none⟩ = some (.int .i64 xo.hh) ∧ W.cell? ⟨bo, off + k * 13 + 2, none⟩ = some (.int .i64 xo.s.nu) ∧ W.cell? ⟨bo, off + k * 13 + 3, none⟩ = some (.int .i64 xo.s.ti) ∧ W.cell? ⟨bo, off + k * 13 + 4, none⟩ = some (.int .i64 xo.s.si) ∧ W.cell? ⟨bo, off + k * 13 + 5, none⟩ = some (.bool xo.s.el) ∧ W.cell? ⟨bo, off + k * 13 + 6, none⟩ = some (.bool xo.s.co) ∧ W.cell? ⟨bo, off + k * 13 + 7, none⟩ = some (.bool xo.s.pr) ∧ W.cell? ⟨bo, off + k * 13 + 8, none⟩ = some (.int .i64 xo.s.tl) ∧ W.cell? ⟨bo, off + k * 13 + 9, none⟩ = some (.slice xo.fa xo.s.fs.length xo.fc) ∧ W.cell? ⟨bo, off + k * 13 + 10, none⟩ = some (.slice xo.ra xo.rs.length xo.rc) ∧ W.cell? ⟨bo, off + k * 13 + 11, none⟩ = some (.slice xo.ma xo.ms.length xo.mc) ∧ W.cell? ⟨bo, off + k * 13 + 12, none⟩ = some (.int .i64 xo.n)) := fun W hW => ⟨cell W hW 0 _ rfl, cell W hW 1 _ rfl, cell W hW 2 _ rfl, cell W hW 3 _ rfl, cell W hW 4 _ rfl, cell W hW 5 _ rfl, cell W hW 6 _ rfl, cell W hW 7 _ rfl, cell W hW 8 _ rfl, cell W hW 9 _ rfl, cell W hW 10 _ rfl, cell W hW 11 _ rfl, cell W hW 12 _ rfl⟩
      have tl := lm.tl
      have ne := lm.ne
      have dn : ∀ W, wr.grownBy W none → Calls Try.prog 8 #[.pointer (some ⟨lw, 0, none⟩), .agg (opc xo.kd xo.hh xo.s (.slice xo.fa xo.s.fs.length xo.fc) (.slice xo.ra xo.rs.length xo.rc) (.slice xo.ma xo.ms.length xo.mc) xo.n)] W fun e w' => DoP (xo.kd = 4) R W lw b q nv zv fv kv va l T e w' := fun W gW => by
        have lmW := lm.grown gW
        have kO := kpO W lmW.kp
        exact does_any W lmW.lw_ (by omega) (by omega) xo.kd xo.hh xo.s (fun j => j < w.heap.size) xo.fa xo.fc (ok.f_.kept kO) xo.rs xo.ra xo.rc (by have := ok.rl; omega) (rds_of (ok.r_.kept fun hx b off e => kO b (ok.r_.lt hx b off e))) xo.ms xo.ma xo.mc (by have := ok.ml; omega) (ok.m_.kept fun hx b off e => kO b (ok.m_.lt hx b off e)) xo.n
      unfold opc at dn
      have DN := hide dn
      have LMh := hide (And.intro lm bx)
      clear dn cell hc ok kpO hx tl ne lm bx I
      obtain ⟨xkd, xhh, ⟨snu, sti, ssi, sel, sco, spr, stl, sfs⟩, xfa, xfc, xrs, xra, xrc, xms, xma, xmc, xn⟩ := xo
      simp only at CELL DN
      generalize sfs.length = n1 at *
      generalize xrs.length = n2 at *
      generalize xms.length = n3 at *
      go_upto_region 9 with fail
      refine (wpIn_wide (n := 12)).1 ?_
      refine region_held_here (fun Z => Z.cell? ⟨lw + 1, 0, none⟩ = some (.pointer (some ⟨lw, 0, none⟩)) ∧ Z.cell? ⟨bo, off + k * 13, none⟩ = some (.int .i64 xkd) ∧ Z.cell? ⟨bo, off + k * 13 + 1, none⟩ = some (.int .i64 xhh) ∧ Z.cell? ⟨bo, off + k * 13 + 2, none⟩ = some (.int .i64 snu) ∧ Z.cell? ⟨bo, off + k * 13 + 3, none⟩ = some (.int .i64 sti) ∧ Z.cell? ⟨bo, off + k * 13 + 4, none⟩ = some (.int .i64 ssi) ∧ Z.cell? ⟨bo, off + k * 13 + 5, none⟩ = some (.bool sel) ∧ Z.cell? ⟨bo, off + k * 13 + 6, none⟩ = some (.bool sco) ∧ Z.cell? ⟨bo, off + k * 13 + 7, none⟩ = some (.bool spr) ∧ Z.cell? ⟨bo, off + k * 13 + 8, none⟩ = some (.int .i64 stl) ∧ Z.cell? ⟨bo, off + k * 13 + 9, none⟩ = some (.slice xfa n1 xfc) ∧ Z.cell? ⟨bo, off + k * 13 + 10, none⟩ = some (.slice xra n2 xrc) ∧ Z.cell? ⟨bo, off + k * 13 + 11, none⟩ = some (.slice xma n3 xmc) ∧ Z.cell? ⟨bo, off + k * 13 + 12, none⟩ = some (.int .i64 xn)) (by kernel_rfl) ⟨(bx_gr (unhide LMh).2 (drew_grown _)).cell, unhide CELL _ ((unhide LMh).1.grown (drew_grown _)).kp⟩ (fun hHeld => ?_)
      refine wpAnyH_take (i := 0) (v := ?_) rfl (by as_aux_lemma => kernel_rfl) (by as_aux_lemma => kernel_rfl) (by as_aux_lemma => kernel_rfl) (fun _ _ _ h => by cases h.1) (Or.inl ⟨by rfl, ?_⟩) (by assumption) ?_
      rotate_left
      · intro wH hSw
        try dsimp only at hSw
        obtain ⟨s0q, s1q, s2q, s3q, s4q, s5q, s6q, s7q, s8q, s9q, s10q, s11q, s12q, s13q⟩ := hSw
        go_simp
        try with_reducible rfl
      try simp only [Act.put, List.setIfInBounds_toArray, List.set_cons_zero, List.set_cons_succ]
      refine wpAnyH_take (i := 1) (v := ?_) rfl (by as_aux_lemma => kernel_rfl) (by as_aux_lemma => kernel_rfl) (by as_aux_lemma => kernel_rfl) (fun _ _ _ h => by cases h.1) (Or.inl ⟨by rfl, ?_⟩) (by assumption) ?_
      rotate_left
      · intro wH hSw
        try dsimp only at hSw
        obtain ⟨s0q, s1q, s2q, s3q, s4q, s5q, s6q, s7q, s8q, s9q, s10q, s11q, s12q, s13q⟩ := hSw
        go_simp
        try with_reducible rfl
      try simp only [Act.put, List.setIfInBounds_toArray, List.set_cons_zero, List.set_cons_succ]
      refine wpAnyH_take (i := 2) (v := ?_) rfl (by as_aux_lemma => kernel_rfl) (by as_aux_lemma => kernel_rfl) (by as_aux_lemma => kernel_rfl) (fun _ _ _ h => by cases h.1) (Or.inl ⟨by rfl, ?_⟩) (by assumption) ?_
      rotate_left
      · intro wH hSw
        try dsimp only at hSw
        obtain ⟨s0q, s1q, s2q, s3q, s4q, s5q, s6q, s7q, s8q, s9q, s10q, s11q, s12q, s13q⟩ := hSw
        go_simp
        try with_reducible rfl
      try simp only [Act.put, List.setIfInBounds_toArray, List.set_cons_zero, List.set_cons_succ]
      refine wpAnyH_take (i := 3) (v := ?_) rfl (by as_aux_lemma => kernel_rfl) (by as_aux_lemma => kernel_rfl) (by as_aux_lemma => kernel_rfl) (fun _ _ _ h => by cases h.1) (Or.inl ⟨by rfl, ?_⟩) (by assumption) ?_
      rotate_left
      · intro wH hSw
        try dsimp only at hSw
        obtain ⟨s0q, s1q, s2q, s3q, s4q, s5q, s6q, s7q, s8q, s9q, s10q, s11q, s12q, s13q⟩ := hSw
        go_simp
        try with_reducible rfl
      try simp only [Act.put, List.setIfInBounds_toArray, List.set_cons_zero, List.set_cons_succ]
      refine wpAnyH_take (i := 4) (v := ?_) rfl (by as_aux_lemma => kernel_rfl) (by as_aux_lemma => kernel_rfl) (by as_aux_lemma => kernel_rfl) (fun _ _ _ h => by cases h.1) (Or.inl ⟨by rfl, ?_⟩) (by assumption) ?_
      rotate_left
      · intro wH hSw
        try dsimp only at hSw
        obtain ⟨s0q, s1q, s2q, s3q, s4q, s5q, s6q, s7q, s8q, s9q, s10q, s11q, s12q, s13q⟩ := hSw
        go_simp
        try with_reducible rfl
      try simp only [Act.put, List.setIfInBounds_toArray, List.set_cons_zero, List.set_cons_succ]
      refine wpAnyH_ready (rs := [5]) (by as_aux_lemma => kernel_rfl) (by simp) ?_
      refine AllReadyH.cons rfl (fun KH hKH => ?_) AllReadyH.nil
      go_simp
      refine (unhide DN _ (drew_grown _)).mono ?_
      rintro e w9 hd
      have lm := ((unhide LMh).1.grown (drew_grown _))
      have bx9 := DoP.box lm.lw_ hd (bx_gr (unhide LMh).2 (drew_grown _)) (by decide) (by decide) (by decide) (by decide) (by decide) (by decide) (by decide)
      obtain ⟨rfl, R', nv', zv', fv', kv', va', l', T', lm', -, -⟩ := lm.step hd
      have E9 : Hid (∃ R nv zv fv kv va l T, LM w1 0 R w9 lw b q nv zv fv kv va l T (k + 1) ∧ Boxed w9 (lw + 1) 28 (.pointer (some ⟨lw, 0, none⟩))) := ⟨_, _, _, _, _, _, _, _, lm', bx9⟩
      refine hKH.out _ _ ⟨bx9.cell, unhide CELL _ lm'.kp⟩ (fun hHeld2 => ?_)
      clear hKH KH
      refine wpAnyH_done (by as_aux_lemma => kernel_rfl) ⟨rfl, ?_⟩ _
      clear hHeld hHeld2 hd lm lm' bx9 DN CELL LMh
      go_wp2_with fail
      exact ⟨⟨k + 1, by omega, by omega, by go_num, unhide E9⟩, by simp [intOf]; omega⟩
    · go_upto_region 7 with fail
      go_cut [46] from 39 to 54 (fun v wc => v = .bool false ∧ wc = wr)
      case first =>
        clear I
        rcases (by omega : ¬ k < len ∨ (k < len ∧ ¬ k < 500)) with ql | ql
        · have hkI : ¬ (k : Int) < (len : Int) := by omega
          go_wp2_with fail
          go_meet
          exact ⟨rfl, rfl⟩
        · have hkI : (k : Int) < (len : Int) := by omega
          have hk15 : ¬ (k : Int) < 500 := by omega
          go_wp2_with fail
          go_meet
          exact ⟨rfl, rfl⟩
      case rest =>
      obtain ⟨rfl, hwc⟩ := hcut
      obtain ⟨wz, hwz⟩ : ∃ wz, wz = wc := ⟨_, rfl⟩
      subst hwz
      obtain ⟨R, nv, zv, fv, kv, va, l, T, lm, bx⟩ := unhide I
      have C0 : Hid (LM w1 0 R wz lw b q nv zv fv kv va l T 500 ∧ Boxed wz (lw + 1) 28 (.pointer (some ⟨lw, 0, none⟩))) := by
        rw [hwc]
        exact ⟨⟨lm.lw_, lm.kp, lm.lo, by have := lm.tl; omega, by have := lm.ne; omega⟩, bx⟩
      clear hwc I lm bx
      obtain ⟨w7, hw7⟩ : ∃ w7, w7 = (wz.alloc (.cells #[.pointer (some ⟨b, 0, none⟩)] 24)).alloc (.cells #[.func (.func 26) #[] #[.pointer (some ⟨wz.heap.size, 0, none⟩)]] 54) := ⟨_, rfl⟩
      obtain ⟨w8, hw8⟩ : ∃ w8, w8 = w7.alloc (.cells #[.slice none 0 0] 29) := ⟨_, rfl⟩
      have gc7 : wz.grownBy w7 none := by rw [hw7]; exact grown_trans (grown_alloc _ _) (grown_alloc _ _)
      have g78 : w7.grownBy w8 none := by rw [hw8]; exact grown_alloc _ _
      have z7 : w7.heap.size = wz.heap.size + 1 + 1 := by rw [hw7]; simp
      have bP : Boxed w7 wz.heap.size 24 (.pointer (some ⟨b, 0, none⟩)) := by rw [hw7]; exact ((grown_alloc _ _).block _ (by simp) (by simp)).trans (heap_alloc_new wz _)
      have bA : Boxed w7 (wz.heap.size + 1) 54 (.func (.func 26) #[] #[.pointer (some ⟨wz.heap.size, 0, none⟩)]) := by
        have := heap_alloc_new (wz.alloc (.cells #[.pointer (some ⟨b, 0, none⟩)] 24)) (.cells #[.func (.func 26) #[] #[.pointer (some ⟨wz.heap.size, 0, none⟩)]] 54)
        rw [World.size_alloc] at this
        rw [hw7]; exact this
      have r1 : R1 w7 w7.heap.size (.slice none 0 0) [] w8 := ⟨by rw [hw8]; exact heap_alloc_new w7 _, IR.nil _ _, fun g e => (by cases e), g78, Nat.le_refl _⟩
      have kn := keptne wz.heap.size
      have HC := hide (And.intro gc7 (And.intro g78 (And.intro z7 (And.intro bP (And.intro bA r1)))))
      clear gc7 g78 z7 bP bA r1
      go_wp2_with fail
      gi_wp2_with fail
      refine ⟨trivial, (callsIn_wide.2 (kept_any b wz)).mono ?_⟩
      rintro e w6 ⟨rfl, hw6⟩
      subst hw6
      gi_upto_region 14 with fail
      rw [← hw7, ← hw8]
      obtain ⟨gc7, g78, z7, bP, bA, r1⟩ := unhide HC
      have c12 : w8.cell? ⟨wz.heap.size + 1, 0, none⟩ = some (.func (.func 26) #[] #[.pointer (some ⟨wz.heap.size, 0, none⟩)]) := (bx_gr bA g78).cell
      have CK := hide (And.intro gc7 (And.intro g78 (And.intro z7 (And.intro bP (And.intro bA r1)))))
      clear gc7 g78 z7 bP bA r1 HC kn
      replace hw7 := hide hw7
      replace hw8 := hide hw8
      gi_cut [59] from 21 (fun v59 wx => v59 = .func (.func 26) #[] #[.pointer (some ⟨wz.heap.size, 0, none⟩)] ∧ wx = w8)
      case first =>
        gi_wp2_with fail
        gi_meet
        exact ⟨rfl, rfl⟩
      case rest =>
      obtain ⟨rfl, hwx⟩ := hcut
      replace hwx := hwx.symm
      subst hwx
      obtain ⟨c0, hc0⟩ : ∃ c0, c0 = wz.heap.size := ⟨_, rfl⟩
      rw [← hc0] at c12 ⊢
      replace hc0 := hide hc0
      obtain ⟨lm, bx⟩ := unhide C0
      obtain ⟨gz7, g78, z7, bP, bA, r1⟩ := unhide CK
      have L7 := lm.lw_.grown gz7
      have kl := lm.lw_.ok.kl
      have eab : w7.heap.size = c0 + 1 + 1 := by rw [z7, unhide hc0]
      rw [eab] at r1
      rw [← unhide hc0] at bP bA
      have L8 := L7.grown g78
      have z78 : w8.heap.size = c0 + 1 + 1 + 1 := by rw [unhide hw8, World.size_alloc, eab]
      have hC1 : ∀ c ∈ c1 (c0 + 1 + 1), c.block < w8.heap.size := fun c hc => by
        simp only [c1, List.mem_cons, List.not_mem_nil, or_false] at hc
        subst hc
        show c0 + 1 + 1 < _
        omega
      have SEQ1 := kept_seqO c0 b R (s1 (c0 + 1 + 1)) (c1 (c0 + 1 + 1)) kv l.ks w8 (bx_gr bP g78).cell (L8.lg.blk.cell 6 _ rfl) L8.lg.row (fun g hg => ⟨L8.lg.low g hg, fun ho => by
        have := L7.lg.low g hg
        rcases (on1 r1.bx g).1 ho with e | e
        · omega
        · cases e⟩) hC1 (fun g ho => by
        rcases (on1 r1.bx g).1 ho with e | e
        · omega
        · cases e) (by omega)
      have LL := hide (And.intro L7 (And.intro (bx_gr bx gz7) (And.intro bP (And.intro bA (And.intro lm (And.intro gz7 g78))))))
      have HZ := hide (And.intro eab z78)
      have RL := hide L8.lg.low
      clear L7 L8 lm bx gz7 g78 z7 bP bA C0 CK c12 hw7 hw8
      gi_wp2_with fail
      refine range_own (n := 12) (gf := 26) (lb := #[.pointer (some ⟨c0, 0, none⟩)]) rfl (enters_of Try.func26 (by kernel_rfl) rfl)
        SEQ1 (fun h k => KO.trans h k) (fun X j o o' hj hl ho => KO.put (n := w8.heap.size) (unhide RL) hC1 X j o o' hj hl ho) (fun _ => rfl)
        (fun pre X => ∃ v, R1 w7 (c0 + 1 + 1) v (pre.map (fun x => x.1.nu)) X) (fun _ _ _ => False)
        (fun pre X Y row h g hr => by obtain ⟨v, h⟩ := h; exact ⟨v, h.own g hr (by omega)⟩)
        (fun _ _ _ _ _ h => h.elim) ⟨_, r1⟩
        (AxH (fun (x : PkV) Bx => { tmps := #[.slice sa len cap, .slice ma lenm capm, .int .i64 lv, undef, .pointer (some ⟨w.heap.size, 0, none⟩), .pointer (some ⟨w.heap.size + 1, 0, none⟩), .pointer (some ⟨w.heap.size + 1 + 1, 0, none⟩), .bool true, .pointer (some ⟨b, 0, none⟩), .int .i64 0, .pointer (some ⟨lw + 1, 0, none⟩), .int .i64 (k : Int), .pointer (some ⟨c0 + 1, 0, none⟩), .pointer (some ⟨c0 + 1 + 1, 0, none⟩), .pointer (some ⟨Bx, 0, none⟩), undef, undef, undef, undef, undef, undef, u21, u22, u23, u24, u25, u26, u27, u28, u29, u30, u31, u32, u33, u34, u35, u36, u37, u38, u39, u40, u41, u42, u43, u44, u45, u46, u47, u48, u49, u50, u51, u52, u53, u54, u55, u56, u57, u58, .func (.func 26) #[] #[.pointer (some ⟨c0, 0, none⟩)], .agg (x.1.cs (.slice x.2.1 x.1.fs.length x.2.2)), u61, u62, u63, u64, u65, u66, u67, u68, u69, u70, u71, u72, u73, u74, u75, u76, u77, u78, u79, u80, u81, u82, u83, u84, u85, u86, u87, u88, u89, u90, u91, u92, u93, u94, u95, u96, u97, u98, u99, u100, u101, u102, u103, u104, u105, u106, u107, u108, u109, u110, u111, u112, u113, u114, u115, u116, u117, u118, u119, u120, u121, u122, u123, u124, u125, u126, u127, u128, u129, u130, u131, u132, u133, u134, u135, u136, u137, u138, u139, u140, u141, u142], defers := [] }))
        (fun x a' => axH_own _ _ x a') ?assign1 ?body1 ?done1 ?stop1
      case assign1 =>
        as_aux_lemma =>
        rintro l' m pre ⟨⟨nu, ti, si, el, co, pr, tl, fs⟩, fa, fc⟩ X K3 ⟨v, h⟩ hK
        have gA := grown_alloc X (.cells (St.cs ⟨nu, ti, si, el, co, pr, tl, fs⟩ (.slice fa fs.length fc)) 36)
        have hK2 := hK _ _ ((KeepsOthers.alloc X (.cells (St.cs ⟨nu, ti, si, el, co, pr, tl, fs⟩ (.slice fa fs.length fc)) 36)).from _) (KO.grown (n := w8.heap.size) hC1 (by have := h.bx.lt; omega) gA) ⟨v, h.grown gA⟩ ⟨_, heap_alloc_new X _, rfl⟩
        unfold St.cs at hK2
        clear h SEQ1 r1
        simp only [encQ, St.cs]
        gi_wp2_with fail
        exact hK2
      case stop1 =>
        rintro D cd pre X hD hp hf
        exact hf.elim
      case body1 =>
        as_aux_lemma =>
        rintro l' m pre x a' X hl hr ⟨v, h⟩ ⟨Bx, hx, ha⟩ hsp
        dsimp only at ha
        subst ha
        clear SEQ1 r1
        have hxb : Blk X Bx (x.1.cs (.slice x.2.1 x.1.fs.length x.2.2)) 36 := hx
        have x0 : X.cell? ⟨Bx, 0, none⟩ = some (.int .i64 x.1.nu) := hxb.cell 0 _ rfl
        have hv := h.bx.cell
        have hpl := (List.getElem?_eq_some_iff.1 (at_pre hsp)).1
        obtain ⟨a1, c1', W', hr1, c5, f5, h', ko, ke⟩ := h.push x.1.nu (by rw [List.length_map]; omega)
        have HR := hide hr1
        have E : Hid (KeepsFrom w8.heap.size X (W'.setCell ⟨c0 + 1 + 1, 0, none⟩ (.slice a1 ((pre.map (fun x : PkV => x.1.nu)).length + 1) c1')) ∧ KO R (s1 (c0 + 1 + 1)) (c1 (c0 + 1 + 1)) X (W'.setCell ⟨c0 + 1 + 1, 0, none⟩ (.slice a1 ((pre.map (fun x : PkV => x.1.nu)).length + 1) c1')) ∧ ∃ v, R1 w7 (c0 + 1 + 1) v ((pre ++ [x]).map (fun x => x.1.nu)) (W'.setCell ⟨c0 + 1 + 1, 0, none⟩ (.slice a1 ((pre.map (fun x : PkV => x.1.nu)).length + 1) c1'))) := ⟨ke.from _, ko R, _, by rw [List.map_append]; exact h'⟩
        clear h h' ko ke hr1 hpl hx hsp hxb
        generalize (pre.map (fun x : PkV => x.1.nu)).length = M at *
        gi_wp2_with (gi_at_builtin; refine wpListIn_append_run _ rfl (Operand.tmp 61) (Operand.tmp 64) 29 29 rfl v (.slice (some ⟨X.heap.size, 0, none⟩) 1 1) rfl rfl (unhide HR) ?_)
        exact unhide E
      case done1 =>
      rintro D1 xs X hD1 hS ⟨v, h⟩ hmk1
      have hsz : xs.map (fun x : PkV => x.1.nu) = l.ks.map St.nu := by rw [← hS, List.map_map]; rfl
      rw [hsz] at h
      obtain ⟨wa, wcp, hv⟩ : ∃ a c, v = .slice a l.ks.length c := by
        rcases h.ir.sh with ⟨e1, e2⟩ | ⟨g, c, e1, -⟩
        · exact ⟨none, 0, by rw [e1, show l.ks.length = 0 by simpa using congrArg List.length e2]⟩
        · exact ⟨_, c, by rw [e1, List.length_map]⟩
      subst hv
      obtain ⟨N, hN⟩ : ∃ N, N = l.ks.length := ⟨_, rfl⟩
      rw [← hN] at h
      have hN256 : N ≤ 256 := by omega
      obtain ⟨w9, hw9⟩ : ∃ w9, w9 = X.alloc (.cells #[.int .i64 0] 3) := ⟨_, rfl⟩
      have g9 : X.grownBy w9 none := by rw [hw9]; exact grown_alloc _ _
      obtain ⟨ib, hib⟩ : ∃ ib, ib = X.heap.size := ⟨_, rfl⟩
      have z9 : w9.heap.size = ib + 1 := by rw [hw9, World.size_alloc, hib]
      have r2 : R2 X ib 0 w9 := ⟨g9, by rw [hw9, hib]; exact heap_alloc_new X _, by omega⟩
      obtain ⟨L7, bx, bP, bA, lm, gz7, g78⟩ := unhide LL
      have g7X := h.gr
      have LX := L7.grown g7X
      have bxX := bx_gr bx g7X
      have bPX := bx_gr bP g7X
      have bAX := bx_gr bA g7X
      have c12 : w9.cell? ⟨c0 + 1, 0, none⟩ = some (.func (.func 26) #[] #[.pointer (some ⟨c0, 0, none⟩)]) := (bx_gr bAX g9).cell
      have L9 := LX.grown g9
      have SEQ2 := kept_seq c0 b R kv l.ks w9 (bx_gr bPX g9).cell (L9.lg.blk.cell 6 _ rfl) L9.lg.row L9.lg.low (by omega)
      have RL9 := hide L9.lg.low
      have RLX := hide LX.lg.low
      have XX := hide (And.intro LX (And.intro bxX (And.intro bPX (And.intro bAX (And.intro h (And.intro lm (And.intro gz7 g7X)))))))
      have HNN := hide (And.intro hN hS)
      have HD1 := hide (And.intro hmk1 hD1)
      clear L7 bx bP bA lm gz7 g78 g7X LX bxX bPX bAX L9 SEQ1 r1 hsz hN hS hmk1 hD1 LL RL h
      gi_upto_region 18 with fail
      rw [← hw9, ← hib]
      have W9 := hide (And.intro hw9 hib)
      clear hw9 hib
      gi_cut [66] from 21 (fun v66 wx => v66 = .func (.func 26) #[] #[.pointer (some ⟨c0, 0, none⟩)] ∧ wx = w9)
      case first =>
        gi_wp2_with fail
        gi_meet
        exact ⟨rfl, rfl⟩
      case rest =>
      obtain ⟨rfl, hwx⟩ := hcut
      replace hwx := hwx.symm
      subst hwx
      clear c12
      obtain ⟨K7, hK7⟩ : ∃ K7, bits .and .i64 lv 7 = K7 := ⟨_, rfl⟩
      gi_wp2_with fail
      refine range_two (n := 12) (id := 4) (gf := 26) (lb := #[.pointer (some ⟨c0, 0, none⟩)]) rfl (enters_of Try.func26 (by kernel_rfl) rfl)
        SEQ2 (fun h k => KR.trans h k) (fun X j o o' hj hl ho => KR.put (unhide RL9) X j o o' hj hl ho) (fun _ => rfl)
        (fun pre Z => R2 X ib pre.length Z) (fun pre Z => ∃ i, R2 X ib i Z)
        (fun pre Z Z' row h g hr => h.own g hr (by have := r2.sl; omega))
        (fun pre Z Z' row h g hr => by obtain ⟨i, h⟩ := h; exact ⟨i, h.own g hr (by have := r2.sl; omega)⟩) r2
        (AxH (fun (x : PkV) Bx => { tmps := #[.slice sa len cap, .slice ma lenm capm, .int .i64 lv, undef, .pointer (some ⟨w.heap.size, 0, none⟩), .pointer (some ⟨w.heap.size + 1, 0, none⟩), .pointer (some ⟨w.heap.size + 1 + 1, 0, none⟩), .bool true, .pointer (some ⟨b, 0, none⟩), .int .i64 0, .pointer (some ⟨lw + 1, 0, none⟩), .int .i64 (k : Int), .pointer (some ⟨c0 + 1, 0, none⟩), .pointer (some ⟨c0 + 1 + 1, 0, none⟩), undef, .pointer (some ⟨ib, 0, none⟩), .pointer (some ⟨Bx, 0, none⟩), undef, undef, undef, undef, u21, u22, u23, u24, u25, u26, u27, u28, u29, u30, u31, u32, u33, u34, u35, u36, u37, u38, u39, u40, u41, u42, u43, u44, u45, u46, u47, u48, u49, u50, u51, u52, u53, u54, u55, u56, u57, u58, u59, u60, u61, u62, u63, u64, u65, .func (.func 26) #[] #[.pointer (some ⟨c0, 0, none⟩)], .agg (x.1.cs (.slice x.2.1 x.1.fs.length x.2.2)), u68, u69, u70, u71, u72, u73, u74, u75, u76, u77, u78, u79, u80, u81, u82, u83, u84, u85, u86, u87, u88, u89, u90, u91, u92, u93, u94, u95, u96, u97, u98, u99, u100, u101, u102, u103, u104, u105, u106, u107, u108, u109, u110, u111, u112, u113, u114, u115, u116, u117, u118, u119, u120, u121, u122, u123, u124, u125, u126, u127, u128, u129, u130, u131, u132, u133, u134, u135, u136, u137, u138, u139, u140, u141, u142], defers := [] }))
        (fun x a' => axH_own _ _ x a')
        (fun D W => (∃ i, R2 X ib i W) ∧ W.heap[D]? = some (.deferred (some [])))
        (fun D xs W hS h hd => ⟨⟨_, h⟩, hd⟩) (fun D pre W hp h hd => ⟨h, hd⟩) (fun a' W h => h) ?assign2 ?body2 ?rest2
      case assign2 =>
        as_aux_lemma =>
        rintro l' m pre ⟨⟨nu, ti, si, el, co, pr, tl, fs⟩, fa, fc⟩ Z K3 h hK
        have gA := grown_alloc Z (.cells (St.cs ⟨nu, ti, si, el, co, pr, tl, fs⟩ (.slice fa fs.length fc)) 36)
        have hK2 := hK _ _ ((KeepsOthers.alloc Z (.cells (St.cs ⟨nu, ti, si, el, co, pr, tl, fs⟩ (.slice fa fs.length fc)) 36)).from _) (KR.of (Kp.grown gA (fun _ => False)) (fun g e => e.elim) (fun g hg => by have := unhide RLX g hg; have := h.gr.size; omega)) (h.grown gA) ⟨_, heap_alloc_new Z _, rfl⟩
        unfold St.cs at hK2
        clear h SEQ2 r2
        simp only [encQ, St.cs]
        gi_wp2_with fail
        exact hK2
      case body2 =>
        rintro l2 m2 pre x a' Z hl2 ⟨rl2, hr2⟩ h ⟨Bx, hx, ha⟩ hsp
        dsimp only at ha
        subst ha
        clear SEQ2
        have hk := at_pre hsp
        obtain ⟨i, hi⟩ : ∃ i, i = pre.length := ⟨_, rfl⟩
        have hpl : (pre ++ [x]).length = i + 1 := by rw [List.length_append, hi]; rfl
        rw [← hi] at hk h
        have iN : i < N := by rw [(unhide HNN).1]; exact (List.getElem?_eq_some_iff.1 hk).1
        obtain ⟨LX, bxX, bPX, bAX, h1, lm, gz7, g7X⟩ := unhide XX
        have irZ := h1.ir.grown h.gr
        obtain ⟨gw, hgw⟩ : ∃ g, wa = some ⟨g, 0, none⟩ := by
          rcases irZ.sh with ⟨-, e⟩ | ⟨g, c, e, -⟩
          · have : l.ks = [] := List.map_eq_nil_iff.1 e
            rw [this] at hk; simp at hk
          · injection e with e; exact ⟨g, e⟩
        subst hgw
        have kI : ¬ (N : Int) ≤ (i : Int) := by omega
        have hxb : Blk Z Bx (x.1.cs (.slice x.2.1 x.1.fs.length x.2.2)) 36 := hx
        have x0 : Z.cell? ⟨Bx, 0, none⟩ = some (.int .i64 x.1.nu) := hxb.cell 0 _ rfl
        have cib := h.bi.cell
        have csb := (bx_gr h1.bx h.gr).cell
        have cw : Z.cell? ⟨gw, i, none⟩ = some (.int .i64 x.1.nu) := irZ.cell i _ (by rw [List.getElem?_map, hk]; rfl)
        have be : (x.1.nu != x.1.nu) = false := by simp
        have i0 : (0 : Int) ≤ (i : Int) := by omega
        have iI : (i : Int) < (N : Int) := by omega
        have lenN : ¬ (9223372036854775807 : Int) < (N : Int) := by omega
        have H := hide (And.intro h (And.intro hpl hr2))
        clear hk h hxb hx hsp hpl hi LX bxX bPX bAX h1 lm gz7 g7X irZ hr2
        gi_upto_region 20 with fail
        gi_cut [80] from 21 (fun v80 wx => v80 = .bool false ∧ ∃ nq, wx = Z.drewN nq)
        case first =>
          as_aux_lemma =>
          refine region_quiet_round (F := Fence.wide) rfl (by kernel_rfl) (by kernel_rfl) (by kernel_rfl) ?_
          repeat (gi_big_quiet_step (fail))
          refine wpQuietIn_nil ?_
          intro _ hw'
          obtain ⟨nq, hw''⟩ := hw'
          subst hw''
          gi_wp2_with fail
          gi_meet
          exact ⟨rfl, nq, rfl⟩
        case rest =>
        obtain ⟨rfl, nq, hwx⟩ := hcut
        obtain ⟨Zb, hZb⟩ : ∃ Zb, Zb = Z.drewN nq := ⟨_, rfl⟩
        rw [← hZb] at hwx
        replace hwx := hwx.symm
        subst hwx
        have gZb : Z.grownBy Zb none := by rw [hZb]; exact drN Z nq
        obtain ⟨Z1, hZ1⟩ : ∃ Z1, Z1 = Zb.alloc (.cells #[.int .i64 0] 3) := ⟨_, rfl⟩
        obtain ⟨kb, hkb⟩ : ∃ kb, kb = Zb.heap.size := ⟨_, rfl⟩
        have gb1 : Zb.grownBy Z1 none := by rw [hZ1]; exact grown_alloc _ _
        have z1s : Z1.heap.size = kb + 1 := by rw [hZ1, World.size_alloc, hkb]
        have rk : R2 Zb kb 0 Z1 := ⟨gb1, by rw [hZ1, hkb]; exact heap_alloc_new Zb _, by omega⟩
        have gZ1 := grown_trans gZb gb1
        obtain ⟨LX, bxX, bPX, bAX, h1, lm, gz7, g7X⟩ := unhide XX
        obtain ⟨hR2, hpl, hl2r⟩ := unhide H
        have gX1 := grown_trans hR2.gr gZ1
        have c12 : Z1.cell? ⟨c0 + 1, 0, none⟩ = some (.func (.func 26) #[] #[.pointer (some ⟨c0, 0, none⟩)]) := (bx_gr bAX gX1).cell
        have rec1 : Z1.heap[l2]? = some (.loop rl2) := (gZ1.block l2 (Array.getElem?_eq_some_iff.1 hl2r).1 (by simp)).trans hl2r
        have L1 := LX.grown gX1
        have SEQN := kept_seq c0 b R kv l.ks Z1 (bx_gr bPX gX1).cell (L1.lg.blk.cell 6 _ rfl) L1.lg.row L1.lg.low (by have := (unhide HNN).1; omega)
        have RL1 := hide L1.lg.low
        have HB1 := hide (And.intro gZb (And.intro gb1 (And.intro z1s (And.intro gX1 hkb))))
        clear LX bxX bPX bAX h1 lm gz7 g7X hR2 hpl hl2r L1 hZb gZb gb1 gZ1 gX1 x0 cib csb cw be
        gi_upto_region 22 with fail
        gi_cut [17] from 21 (fun v17 wx => v17 = .pointer (some ⟨kb, 0, none⟩) ∧ wx = Z1)
        case first =>
          gi_wp2_with fail
          gi_meet
          exact ⟨by rw [hkb], hZ1.symm⟩
        case rest =>
        obtain ⟨rfl, hwx⟩ := hcut
        replace hwx := hwx.symm
        subst hwx
        replace hZ1 := hide hZ1
        replace hkb := hide hkb
        rename_i K23 h23
        refine h23 _ _ ?_
        refine wpIn_seq_k (fun K24 h24 => ?_)
        gi_cut [] from 21 (fun wx => Hid (Zb.grownBy wx none))
        case first =>
          gi_wp2_with fail
          refine range_in (n := m2) (l₀ := l2) (r₀ := rl2) rec1 (gf := 26) (lb := #[.pointer (some ⟨c0, 0, none⟩)]) rfl (enters_of Try.func26 (by kernel_rfl) rfl)
            SEQN (fun h k => KR.trans h k) (fun X j o o' hj hl ho => KR.put (unhide RL1) X j o o' hj hl ho) (fun _ => rfl)
            (fun pre' Y => R2 Zb kb pre'.length Y) (fun cd pre' Y => cd = .exit 6 ∧ ∃ j, R2 Zb kb j Y)
            (fun pre' Y Y' row h g hr => h.own g hr (by have := rk.sl; omega))
            (fun cd pre' Y Y' row h g hr => by obtain ⟨e, j, h⟩ := h; exact ⟨e, j, h.own g hr (by have := rk.sl; omega)⟩) rk
            (AxH (fun (y : PkV) By => { tmps := #[.slice sa len cap, .slice ma lenm capm, .int .i64 lv, undef, .pointer (some ⟨w.heap.size, 0, none⟩), .pointer (some ⟨w.heap.size + 1, 0, none⟩), .pointer (some ⟨w.heap.size + 1 + 1, 0, none⟩), .bool true, .pointer (some ⟨b, 0, none⟩), .int .i64 0, .pointer (some ⟨lw + 1, 0, none⟩), .int .i64 (k : Int), .pointer (some ⟨c0 + 1, 0, none⟩), .pointer (some ⟨c0 + 1 + 1, 0, none⟩), undef, .pointer (some ⟨ib, 0, none⟩), .pointer (some ⟨Bx, 0, none⟩), .pointer (some ⟨kb, 0, none⟩), .pointer (some ⟨By, 0, none⟩), undef, undef, u21, u22, u23, u24, u25, u26, u27, u28, u29, u30, u31, u32, u33, u34, u35, u36, u37, u38, u39, u40, u41, u42, u43, u44, u45, u46, u47, u48, u49, u50, u51, u52, u53, u54, u55, u56, u57, u58, u59, u60, u61, u62, u63, u64, u65, u66, u67, u68, u69, u70, u71, u72, u73, u74, u75, u76, u77, u78, u79, u80, .func (.func 26) #[] #[.pointer (some ⟨c0, 0, none⟩)], .agg (y.1.cs (.slice y.2.1 y.1.fs.length y.2.2)), u83, u84, u85, u86, u87, u88, u89, u90, u91, u92, u93, u94, u95, u96, u97, u98, u99, u100, u101, u102, u103, u104, u105, u106, u107, u108, u109, u110, u111, u112, u113, u114, u115, u116, u117, u118, u119, u120, u121, u122, u123, u124, u125, u126, u127, u128, u129, u130, u131, u132, u133, u134, u135, u136, u137, u138, u139, u140, u141, u142], defers := [] }))
            (fun x a' => axH_own _ _ x a') ?assign3 ?body3 ?done3 ?stop3
          case assign3 =>
            as_aux_lemma =>
            rintro l' m pre' ⟨⟨nu, ti, si, el, co, pr, tl, fs⟩, fa, fc⟩ Y K3 h3 hK
            have gA := grown_alloc Y (.cells (St.cs ⟨nu, ti, si, el, co, pr, tl, fs⟩ (.slice fa fs.length fc)) 36)
            have hK2 := hK _ _ ((KeepsOthers.alloc Y (.cells (St.cs ⟨nu, ti, si, el, co, pr, tl, fs⟩ (.slice fa fs.length fc)) 36)).from _) (KR.of (Kp.grown gA (fun _ => False)) (fun g e => e.elim) (fun g hg => by
              have a1 := unhide RLX g hg
              have a2 := (unhide HB1).2.2.2.1.size
              have a3 := h3.bi.lt
              omega)) (h3.grown gA) ⟨_, heap_alloc_new Y _, rfl⟩
            unfold St.cs at hK2
            clear h3 SEQN rk
            simp only [encQ, St.cs]
            gi_wp2_with fail
            exact hK2
          case done3 =>
            rintro xs Y hS h3
            have F := hide h3.gr
            clear h3 SEQN
            gi_wp2_with fail
            gi_meet
            exact F
          case stop3 =>
            rintro cd pre' Y hp ⟨rfl, j, h3⟩
            have F := hide h3.gr
            clear h3 SEQN
            gi_wp2_with fail
            gi_meet
            exact F
          case body3 =>
            as_aux_lemma =>
            rintro l3 m3 pre' y a' Y hl3 hr3 h3 ⟨By, hy, ha⟩ hsp3
            dsimp only at ha
            subst ha
            clear SEQN
            have hk3 := at_pre hsp3
            obtain ⟨j, hj⟩ : ∃ j, j = pre'.length := ⟨_, rfl⟩
            have hpl3 : (pre' ++ [y]).length = j + 1 := by rw [List.length_append, hj]; rfl
            rw [← hj] at hk3 h3
            have jN : j < N := by rw [(unhide HNN).1]; exact (List.getElem?_eq_some_iff.1 hk3).1
            obtain ⟨LX, bxX, bPX, bAX, h1, lm, gz7, g7X⟩ := unhide XX
            obtain ⟨gZb, gb1, -, gX1, hkb'⟩ := unhide HB1
            have gXY := grown_trans (grown_trans (unhide H).1.gr gZb) h3.gr
            have hyb : Blk Y By (y.1.cs (.slice y.2.1 y.1.fs.length y.2.2)) 36 := hy
            have y0 : Y.cell? ⟨By, 0, none⟩ = some (.int .i64 y.1.nu) := hyb.cell 0 _ rfl
            have ckb := h3.bi.cell
            have fkb := h3.bi.frozen
            have csb := (bx_gr h1.bx gXY).cell
            have cw : Y.cell? ⟨gw, j, none⟩ = some (.int .i64 y.1.nu) := (h1.ir.grown gXY).cell j _ (by rw [List.getElem?_map, hk3]; rfl)
            have be : (y.1.nu != y.1.nu) = false := by simp
            have kJ : ¬ (N : Int) ≤ (j : Int) := by omega
            have j0 : (0 : Int) ≤ (j : Int) := by omega
            have jI : (j : Int) < (N : Int) := by omega
            have w27 : IntKind.i64.wrap ((j : Int) + 1) = (j : Int) + 1 := by rw [IntKind.wrap_i64]; omega
            have E : Hid (∀ nq, KeepsFrom Z1.heap.size Y ((Y.drewN nq).setCell ⟨kb, 0, none⟩ (.int .i64 ((j : Int) + 1))) ∧ KR R Z1.heap.size Y ((Y.drewN nq).setCell ⟨kb, 0, none⟩ (.int .i64 ((j : Int) + 1))) ∧ R2 Zb kb (pre' ++ [y]).length ((Y.drewN nq).setCell ⟨kb, 0, none⟩ (.int .i64 ((j : Int) + 1)))) := fun nq => by
              obtain ⟨s1, s2, s3⟩ := (h3.grown (drN Y nq)).set (j + 1)
              have s2' : Kp (fun g => g = kb) Y ((Y.drewN nq).setCell ⟨kb, 0, none⟩ (.int .i64 ((j + 1 : Nat) : Int))) := (Kp.grown (drN Y nq) _).trans s2
              have a1 : ∀ g, R g → g < Zb.heap.size := fun g hg => by
                have b1 := unhide RLX g hg
                have b2 := (grown_trans (unhide H).1.gr gZb).size
                omega
              refine ⟨⟨s2'.size, fun x o hx ho hc => (s3.same x o (show (Y.drewN nq).heap[x]? = some o from ho) hc)⟩, KR.of s2' (fun g e => ⟨by rw [e]; omega, fun hg => by have := a1 g hg; rw [e] at this; have := rk.sl; omega⟩) (fun g hg => by have := a1 g hg; have := h3.gr.size; omega), by rw [hpl3]; exact s1⟩
            clear hk3 h3 hyb hy hsp3 hpl3 hj LX bxX bPX bAX h1 lm gz7 g7X gZb gb1 gX1 hkb' gXY hr3
            replace z1s := hide z1s
            gi_upto_region 25 with fail
            gi_cut [95] from 21 (fun v95 wx => v95 = .bool false ∧ ∃ nq, wx = Y.drewN nq)
            case first =>
              as_aux_lemma =>
              refine region_quiet_round (F := Fence.wide) rfl (by kernel_rfl) (by kernel_rfl) (by kernel_rfl) ?_
              repeat (gi_big_quiet_step (fail))
              refine wpQuietIn_nil ?_
              intro _ hw'
              obtain ⟨nq, hw''⟩ := hw'
              subst hw''
              gi_wp2_with fail
              gi_meet
              exact ⟨rfl, nq, rfl⟩
            case rest =>
            obtain ⟨rfl, nq, hwx⟩ := hcut
            subst hwx
            have E2 := hide (unhide E nq)
            by_cases h5 : 5 < (j : Int) + 1
            · clear E
              gi_wp2_with fail
              obtain ⟨q1, q2, q3⟩ := unhide E2
              exact ⟨q1, rfl, _, q3⟩
            · clear E
              gi_wp2_with fail
              exact unhide E2
        case rest =>
        obtain ⟨LX, bxX, bPX, bAX, h1, lm, gz7, g7X⟩ := unhide XX
        obtain ⟨gZb, gb1, -, gX1, hkb'⟩ := unhide HB1
        obtain ⟨Zc, hZc⟩ : ∃ Zc, Zc = wc := ⟨_, rfl⟩
        subst hZc
        have gZc := grown_trans gZb (unhide hcut)
        have h4 := (unhide H).1.grown gZc
        have cib := h4.bi.cell
        have fib := h4.bi.frozen
        have cl : Zc.cell? ⟨w.heap.size + 1, 0, none⟩ = some (.int .i64 lv) := by
          have g1X : w1.heap.size ≤ w7.heap.size := Nat.le_trans lm.kp.size gz7.size
          have b1 := (unhide HB).1.2.1
          have z1 := (unhide HB).2.2
          have e1 : wz.heap[w.heap.size + 1]? = w1.heap[w.heap.size + 1]? := lm.kp.block _ b1.lt (by omega)
          have b2 : Boxed wz (w.heap.size + 1) 3 (.int .i64 lv) := e1.trans b1
          exact (bx_gr (bx_gr (bx_gr b2 gz7) g7X) h4.gr).cell
        have w30 : IntKind.i64.wrap ((i : Int) + 1) = (i : Int) + 1 := by rw [IntKind.wrap_i64]; omega
        have E : Hid ((KeepsFrom w9.heap.size Z Zc ∧ R2 X ib i Zc) ∧ KeepsFrom w9.heap.size Z (Zc.setCell ⟨ib, 0, none⟩ (.int .i64 ((i : Int) + 1))) ∧ KR R w9.heap.size Z (Zc.setCell ⟨ib, 0, none⟩ (.int .i64 ((i : Int) + 1))) ∧ R2 X ib (pre ++ [x]).length (Zc.setCell ⟨ib, 0, none⟩ (.int .i64 ((i : Int) + 1)))) := by
          obtain ⟨s1, s2, s3⟩ := h4.set (i + 1)
          have s2' : Kp (fun g => g = ib) Z (Zc.setCell ⟨ib, 0, none⟩ (.int .i64 ((i + 1 : Nat) : Int))) := (Kp.grown gZc _).trans s2
          have kz : ∀ x o, Z.heap[x]? = some o → Zc.heap[x]? = some o := fun x o hx => (gZc.block x (Array.getElem?_eq_some_iff.1 hx).1 (by simp)).trans hx
          refine ⟨⟨⟨gZc.size, fun x o _ hx _ => kz x o hx⟩, h4⟩, ⟨s2'.size, fun x o _ hx hc => s3.same x o (kz x o hx) hc⟩, KR.of s2' (fun g e => ⟨by rw [e, z9]; omega, fun hg => by have := unhide RLX g hg; have := r2.sl; omega⟩) (fun g hg => by have := unhide RLX g hg; have := (unhide H).1.gr.size; omega), by rw [(unhide H).2.1]; exact s1⟩
        clear LX bxX bPX bAX h1 lm gz7 g7X gZb gb1 gX1 hkb' gZc h4 hcut rk rec1 H SEQN
        replace z9 := hide z9
        by_cases hb : (i : Int) = K7
        · have be : ((i : Int) == K7) = true := by simpa using hb
          replace hb := hide hb
          gi_wp2_with fail
          obtain ⟨⟨q1, q2⟩, -⟩ := unhide E
          exact ⟨q1, rfl, i, q2⟩
        · have be : ((i : Int) == K7) = false := by simpa using hb
          replace hb := hide hb
          gi_wp2_with fail
          exact (unhide E).2
      case rest2 =>
      rintro D2 W hD2 ⟨⟨iv, h⟩, hmk2⟩
      obtain ⟨LX, bxX, bPX, bAX, h1, lm, gz7, g7X⟩ := unhide XX
      obtain ⟨hmk1, hD1⟩ := unhide HD1
      have L7 := lm.lw_.grown gz7
      have cib := h.bi.cell
      have fib := h.bi.frozen
      obtain ⟨s1, s2, s3'⟩ := h.set 0
      obtain ⟨wR, hwR⟩ : ∃ wR, wR = W.setCell ⟨ib, 0, none⟩ (.int .i64 0) := ⟨_, rfl⟩
      have r3 : R2 X ib 0 wR := by rw [hwR]; exact s1
      have mk1 : wR.heap[D1]? = some (.deferred (some [])) := (r3.gr.block D1 (Array.getElem?_eq_some_iff.1 hmk1).1 (by simp)).trans hmk1
      have mk2 : wR.heap[D2]? = some (.deferred (some [])) := by rw [hwR]; exact s3'.same D2 _ hmk2 rfl
      have LR := (LX.grown r3.gr).inC
      have sl := r3.sl
      have hOib : ∀ x, ownL lw b q nv zv fv kv va x → w1.heap.size ≤ x ∧ x ≠ ib := fun x hx => ⟨lm.lo x hx, by have := LX.ol x hx; omega⟩
      have hz17 : w1.heap.size ≤ w7.heap.size := Nat.le_trans lm.kp.size gz7.size
      have hz7X := g7X.size
      have hzXR := r3.gr.size
      have hib := r3.bi.lt
      have hRib : ∀ g, R g → g ≠ ib := fun g hg => by have := unhide RLX g hg; omega
      have I3 : R3 w1 wR (ownL lw b q nv zv fv kv va) lw b q ib (500 + 0) 0 wR :=
        ⟨⟨_, nv, zv, fv, kv, va, l, T, LR, fun g hg => ⟨hg.2, hRib g hg.1⟩, lm.tl, by have := lm.ne; omega, fun x hx => .inl hx⟩, r3.bi, fun x _ _ _ => rfl, lm.kp.trans (Kp.grown (grown_trans gz7 (grown_trans g7X r3.gr)) _), Nat.le_refl _⟩
      have hC3 : ∀ c ∈ c3 lw b q, c.block < wR.heap.size := fun c hc => by
        simp only [c3, List.mem_cons, List.not_mem_nil, or_false] at hc
        rcases hc with rfl | rfl | rfl | rfl | rfl
        · exact LR.ol lw (.inl rfl)
        · exact LR.ol lw (.inl rfl)
        · exact LR.ol lw (.inl rfl)
        · exact LR.ol b (.inr (.inl rfl))
        · exact LR.ol q (.inr (.inr (.inl rfl)))
      have SEQ3 := kept_seqO c0 b (fun g => R g ∧ InC wR g) (s3 lw b q ib) (c3 lw b q) kv l.ks wR (bx_gr bPX r3.gr).cell (LR.lg.blk.cell 6 _ rfl) LR.lg.row (fun g hg => ⟨LR.lg.low g hg, fun ho => by
        rcases (on3 LR ib g).1 ho with e | e
        · exact LR.apart g hg e
        · exact hRib g hg.1 e⟩) hC3 (fun g ho => by
        rcases (on3 LR ib g).1 ho with e | e
        · exact LR.ol g e
        · rw [e]; exact hib) (by have := (unhide HNN).1; omega)
      have RL3 := hide LR.lg.low
      have FACTS : Hid (∀ m j Y, R3 w1 wR (ownL lw b q nv zv fv kv va) lw b q ib m j Y → Y.cell? ⟨lw + 1, 0, none⟩ = some (.pointer (some ⟨lw, 0, none⟩)) ∧ Y.cell? ⟨w.heap.size, 0, none⟩ = some (.slice ma lenm capm) ∧ Boxed Y (c0 + 1 + 1) 29 (.slice wa N wcp) ∧ IR 2 Y (.slice wa N wcp) (l.ks.map St.nu) ∧ Y.heap[D1]? = some (.deferred (some [])) ∧ Y.heap[D2]? = some (.deferred (some [])) ∧ Boxed Y (w.heap.size + 1 + 1) 4 (.bool false)) := fun m j Y hY => by
        have kx : ∀ x, w7.heap.size ≤ x → x < X.heap.size → Y.heap[x]? = X.heap[x]? := fun x hx1 hx2 => (hY.kp x (by omega) (fun ho => by have := L7.ol x ho; omega) (by omega)).trans (r3.gr.block x hx2 (by simp))
        have nd : ∀ D : Nat, wR.heap[D]? = some (Obj.deferred (some [])) → Y.heap[D]? = some (Obj.deferred (some [])) := fun D hD => (hY.kp D (Array.getElem?_eq_some_iff.1 hD).1 (fun ho => by
          obtain ⟨o, e1, e2⟩ := LR.oc D ho
          rw [hD] at e1; cases e1; cases e2) (fun e => by
          have hb2 : wR.heap[ib]? = some (.cells #[.int .i64 ((0 : Nat) : Int)] 3 (0, 0)) := r3.bi
          rw [← e, hD] at hb2; cases hb2)).trans hD
        have eab := (unhide HZ).1
        have k1 : ∀ x, x < w1.heap.size → Y.heap[x]? = w1.heap[x]? := fun x hx => hY.gr.block x hx (by omega)
        have b1 := (unhide HB).1
        refine ⟨?_, ?_, ?_, ?_, nd D1 mk1, nd D2 mk2, (k1 _ b1.2.2.lt).trans b1.2.2⟩
        · have bxR := bx_gr bxX r3.gr
          have := (hY.kp (lw + 1) bxR.lt (LR.nbox bxR (by decide) (by decide) (by decide) (by decide) (by decide) (by decide) (by decide)) (by have := bxX.lt; omega)).trans bxR
          exact Boxed.cell this
        · exact Boxed.cell ((k1 _ b1.1.lt).trans b1.1)
        · exact (kx _ (by omega) h1.bx.lt).trans h1.bx
        · exact h1.ir.kept fun g e => kx g (h1.lo g e) (h1.ir.lt g e)
      have HW := hide (And.intro mk1 (And.intro mk2 (And.intro hD1 hD2)))
      have c12 : wR.cell? ⟨c0 + 1, 0, none⟩ = some (.func (.func 26) #[] #[.pointer (some ⟨c0, 0, none⟩)]) := (bx_gr bAX r3.gr).cell
      have hzz : w1.heap.size ≤ wR.heap.size := by omega
      have hw1ib : w1.heap.size ≤ ib := by omega
      clear LX bxX bPX bAX h1 lm gz7 g7X hmk1 hD1 s1 s2 s3' h hmk2 mk1 mk2 LR L7 hib hz17 hz7X hzXR hRib sl
      gi_upto_region 32 with fail
      rw [← hwR]
      replace hwR := hide hwR
      gi_cut [106] from 21 (fun v106 wx => v106 = .func (.func 26) #[] #[.pointer (some ⟨c0, 0, none⟩)] ∧ wx = wR)
      case first =>
        gi_wp2_with fail
        gi_meet
        exact ⟨rfl, rfl⟩
      case rest =>
      obtain ⟨rfl, hwx⟩ := hcut
      replace hwx := hwx.symm
      subst hwx
      clear c12 cib fib
      gi_wp2_with fail
      refine range_own (n := 12) (gf := 26) (lb := #[.pointer (some ⟨c0, 0, none⟩)]) rfl (enters_of Try.func26 (by kernel_rfl) rfl)
        SEQ3 (fun h k => KO.trans h k) (fun X j o o' hj hl ho => KO.put (n := wR.heap.size) (unhide RL3) hC3 X j o o' hj hl ho) (fun _ => rfl)
        (fun pre Y => R3 w1 wR (ownL lw b q nv zv fv kv va) lw b q ib (500 + pre.length) pre.length Y) (fun _ _ _ => False)
        (fun pre Y Y' row h g hr => h.own g hr (Nat.le_refl _) hzz)
        (fun _ _ _ _ _ h => h.elim) I3
        (AxH (fun (x : PkV) Bx => { tmps := #[.slice sa len cap, .slice ma lenm capm, .int .i64 lv, undef, .pointer (some ⟨w.heap.size, 0, none⟩), .pointer (some ⟨w.heap.size + 1, 0, none⟩), .pointer (some ⟨w.heap.size + 1 + 1, 0, none⟩), .bool true, .pointer (some ⟨b, 0, none⟩), .int .i64 0, .pointer (some ⟨lw + 1, 0, none⟩), .int .i64 (k : Int), .pointer (some ⟨c0 + 1, 0, none⟩), .pointer (some ⟨c0 + 1 + 1, 0, none⟩), undef, .pointer (some ⟨ib, 0, none⟩), undef, undef, undef, .pointer (some ⟨Bx, 0, none⟩), undef, u21, u22, u23, u24, u25, u26, u27, u28, u29, u30, u31, u32, u33, u34, u35, u36, u37, u38, u39, u40, u41, u42, u43, u44, u45, u46, u47, u48, u49, u50, u51, u52, u53, u54, u55, u56, u57, u58, u59, u60, u61, u62, u63, u64, u65, u66, u67, u68, u69, u70, u71, u72, u73, u74, u75, u76, u77, u78, u79, u80, u81, u82, u83, u84, u85, u86, u87, u88, u89, u90, u91, u92, u93, u94, u95, u96, u97, u98, u99, u100, u101, u102, u103, u104, u105, .func (.func 26) #[] #[.pointer (some ⟨c0, 0, none⟩)], .agg (x.1.cs (.slice x.2.1 x.1.fs.length x.2.2)), u108, u109, u110, u111, u112, u113, u114, u115, u116, u117, u118, u119, u120, u121, u122, u123, u124, u125, u126, u127, u128, u129, u130, u131, u132, u133, u134, u135, u136, u137, u138, u139, u140, u141, u142], defers := [] }))
        (fun x a' => axH_own _ _ x a') ?assign4 ?body4 ?done4 ?stop4
      case assign4 =>
        as_aux_lemma =>
        rintro l' m pre ⟨⟨nu, ti, si, el, co, pr, tl, fs⟩, fa, fc⟩ Y K3 h hK
        have gA := grown_alloc Y (.cells (St.cs ⟨nu, ti, si, el, co, pr, tl, fs⟩ (.slice fa fs.length fc)) 36)
        have hK2 := hK _ _ ((KeepsOthers.alloc Y (.cells (St.cs ⟨nu, ti, si, el, co, pr, tl, fs⟩ (.slice fa fs.length fc)) 36)).from _) (KO.grown (n := wR.heap.size) hC3 h.sz gA) (h.grown gA hzz) ⟨_, heap_alloc_new Y _, rfl⟩
        unfold St.cs at hK2
        clear h SEQ3 I3
        simp only [encQ, St.cs]
        gi_wp2_with fail
        exact hK2
      case stop4 =>
        rintro D cd pre X hD hp hf
        exact hf.elim
      case body4 =>
        rintro l4 m4 pre x a' Y hl4 hr4 h ⟨Bx, hx, ha⟩ hsp
        dsimp only at ha
        subst ha
        clear SEQ3 I3
        have hk := at_pre hsp
        obtain ⟨i, hi⟩ : ∃ i, i = pre.length := ⟨_, rfl⟩
        have hpl : (pre ++ [x]).length = i + 1 := by rw [List.length_append, hi]; rfl
        rw [← hi] at hk h
        have iN : i < N := by rw [(unhide HNN).1]; exact (List.getElem?_eq_some_iff.1 hk).1
        obtain ⟨-, -, bsb, irY, -, -, -⟩ := unhide FACTS _ _ _ h
        obtain ⟨gw, hgw⟩ : ∃ g, wa = some ⟨g, 0, none⟩ := by
          rcases irY.sh with ⟨-, e⟩ | ⟨g, c, e, -⟩
          · have : l.ks = [] := List.map_eq_nil_iff.1 e
            rw [this] at hk; simp at hk
          · injection e with e; exact ⟨g, e⟩
        subst hgw
        have kI : ¬ (N : Int) ≤ (i : Int) := by omega
        have hxb : Blk Y Bx (x.1.cs (.slice x.2.1 x.1.fs.length x.2.2)) 36 := hx
        have x0 : Y.cell? ⟨Bx, 0, none⟩ = some (.int .i64 x.1.nu) := hxb.cell 0 _ rfl
        have cib := h.bx.cell
        have csb := bsb.cell
        have cw : Y.cell? ⟨gw, i, none⟩ = some (.int .i64 x.1.nu) := irY.cell i _ (by rw [List.getElem?_map, hk]; rfl)
        have be : (x.1.nu != x.1.nu) = false := by simp
        have i0 : (0 : Int) ≤ (i : Int) := by omega
        have iI : (i : Int) < (N : Int) := by omega
        have lenN : ¬ (9223372036854775807 : Int) < (N : Int) := by omega
        have w40 : IntKind.i64.wrap ((i : Int) + 1) = (i : Int) + 1 := by rw [IntKind.wrap_i64]; omega
        have lenM : ¬ (9223372036854775807 : Int) < (lenm : Int) := by have := (unhide HL).2; omega
        have H := hide (And.intro h hpl)
        clear hk h hxb hx hsp hpl hi bsb irY hr4
        gi_upto_region 34 with fail
        gi_cut [120] from 21 (fun v120 wx => v120 = .bool false ∧ ∃ nq, wx = Y.drewN nq)
        case first =>
          as_aux_lemma =>
          refine region_quiet_round (F := Fence.wide) rfl (by kernel_rfl) (by kernel_rfl) (by kernel_rfl) ?_
          repeat (gi_big_quiet_step (fail))
          refine wpQuietIn_nil ?_
          intro _ hw'
          obtain ⟨nq, hw''⟩ := hw'
          subst hw''
          gi_wp2_with fail
          gi_meet
          exact ⟨rfl, nq, rfl⟩
        case rest =>
        obtain ⟨rfl, nq, hwx⟩ := hcut
        obtain ⟨Yb, hYb⟩ : ∃ Yb, Yb = Y.drewN nq := ⟨_, rfl⟩
        rw [← hYb] at hwx
        replace hwx := hwx.symm
        subst hwx
        have gYb : Y.grownBy Yb none := by rw [hYb]; exact drN Y nq
        have hb := (unhide H).1.grown gYb hzz
        obtain ⟨fpw, fmo, -, -, -, -, -⟩ := unhide FACTS _ _ _ hb
        have cib := hb.bx.cell
        have fib := hb.bx.frozen
        have FIN : Hid (∀ Z m, R3 w1 wR (ownL lw b q nv zv fv kv va) lw b q ib m i Z → m ≤ 500 + (i + 1) → KO (fun g => R g ∧ InC wR g) (s3 lw b q ib) (c3 lw b q) Yb Z → KeepsOthers Yb Z → KeepsFrom wR.heap.size Y (Z.setCell ⟨ib, 0, none⟩ (.int .i64 ((i : Int) + 1))) ∧ KO (fun g => R g ∧ InC wR g) (s3 lw b q ib) (c3 lw b q) Y (Z.setCell ⟨ib, 0, none⟩ (.int .i64 ((i : Int) + 1))) ∧ R3 w1 wR (ownL lw b q nv zv fv kv va) lw b q ib (500 + (pre ++ [x]).length) (pre ++ [x]).length (Z.setCell ⟨ib, 0, none⟩ (.int .i64 ((i : Int) + 1)))) := fun Z m hZ hm hko hke => by
          obtain ⟨s1, s2, s3'⟩ := hZ.seti (i + 1) hOib r3.bi.lt hw1ib
          refine ⟨⟨Nat.le_trans (Nat.le_trans gYb.size hke.size) s3'.size, fun y o _ hy hc => s3'.same y o (hke.same y o ((gYb.block y (Array.getElem?_eq_some_iff.1 hy).1 (by simp)).trans hy) hc) hc⟩, (KO.grown (n := wR.heap.size) hC3 (unhide H).1.sz gYb).trans (hko.trans (s2 _)), ?_⟩
          rw [(unhide H).2]
          exact s1.weak hm
        clear hYb x0 csb cw be
        by_cases hm : i < lenm
        · have hmI : (i : Int) < (lenm : Int) := by omega
          obtain ⟨bo, off, hma, hc⟩ := (unhide HM).cell.resolve_left (by omega)
          subst hma
          obtain ⟨xo, hxo⟩ : ∃ xo, om[i]? = some xo := ⟨_, List.getElem?_eq_getElem (by rw [(unhide HM).hlen]; exact hm)⟩
          have ok := (unhide HM).ok xo (List.mem_of_getElem? hxo)
          have kpO : ∀ W : World, LMK w1 W → ∀ j, j < w.heap.size → W.heap[j]? = w.heap[j]? := fun W hW j hj => by
            have := (unhide HB).2.1.size
            exact (hW.block j (by omega) (by omega)).trans ((unhide HB).2.1.block j hj (by simp))
          have cell : ∀ W : World, LMK w1 W → ∀ j v, xo.cs[j]? = some v → W.cell? ⟨bo, off + i * 13 + j, none⟩ = some v := fun W hW j v hj => by
            have := hc i xo hxo j v hj
            rw [← this]
            exact World.cell?_of_block (kpO W hW bo (World.block_lt_of_cell? w _ this))
          have CELL : Hid (∀ W : World, LMK w1 W → W.cell? ⟨bo, off + i * 13, none⟩ = some (.int .i64 xo.kd) ∧ W.cell? ⟨bo, off + i * 13 + 1, none⟩ = some (.int .i64 xo.hh) ∧ W.cell? ⟨bo, off + i * 13 + 2, none⟩ = some (.int .i64 xo.s.nu) ∧ W.cell? ⟨bo, off + i * 13 + 3, none⟩ = some (.int .i64 xo.s.ti) ∧ W.cell? ⟨bo, off + i * 13 + 4, none⟩ = some (.int .i64 xo.s.si) ∧ W.cell? ⟨bo, off + i * 13 + 5, none⟩ = some (.bool xo.s.el) ∧ W.cell? ⟨bo, off + i * 13 + 6, none⟩ = some (.bool xo.s.co) ∧ W.cell? ⟨bo, off + i * 13 + 7, none⟩ = some (.bool xo.s.pr) ∧ W.cell? ⟨bo, off + i * 13 + 8, none⟩ = some (.int .i64 xo.s.tl) ∧ W.cell? ⟨bo, off + i * 13 + 9, none⟩ = some (.slice xo.fa xo.s.fs.length xo.fc) ∧ W.cell? ⟨bo, off + i * 13 + 10, none⟩ = some (.slice xo.ra xo.rs.length xo.rc) ∧ W.cell? ⟨bo, off + i * 13 + 11, none⟩ = some (.slice xo.ma xo.ms.length xo.mc) ∧ W.cell? ⟨bo, off + i * 13 + 12, none⟩ = some (.int .i64 xo.n)) := fun W hW => ⟨cell W hW 0 _ rfl, cell W hW 1 _ rfl, cell W hW 2 _ rfl, cell W hW 3 _ rfl, cell W hW 4 _ rfl, cell W hW 5 _ rfl, cell W hW 6 _ rfl, cell W hW 7 _ rfl, cell W hW 8 _ rfl, cell W hW 9 _ rfl, cell W hW 10 _ rfl, cell W hW 11 _ rfl, cell W hW 12 _ rfl⟩
          obtain ⟨R', nv', zv', fv', kv', va', l', T', e1, e2, e3, e4, e5⟩ := hb.ex
          have dn : ∀ W, Yb.grownBy W none → Calls Try.prog 8 #[.pointer (some ⟨lw, 0, none⟩), .agg (opc xo.kd xo.hh xo.s (.slice xo.fa xo.s.fs.length xo.fc) (.slice xo.ra xo.rs.length xo.rc) (.slice xo.ma xo.ms.length xo.mc) xo.n)] W fun e w' => DoP (xo.kd = 4) R' W lw b q nv' zv' fv' kv' va' l' T' e w' := fun W gW => by
            have kO := kpO W (hb.grown gW hzz).gr
            exact does_any W (e1.grown gW) (by omega) (by omega) xo.kd xo.hh xo.s (fun j => j < w.heap.size) xo.fa xo.fc (ok.f_.kept kO) xo.rs xo.ra xo.rc (by have := ok.rl; omega) (rds_of (ok.r_.kept fun hx b off e => kO b (ok.r_.lt hx b off e))) xo.ms xo.ma xo.mc (by have := ok.ml; omega) (ok.m_.kept fun hx b off e => kO b (ok.m_.lt hx b off e)) xo.n
          unfold opc at dn
          have DN := hide dn
          have RR := hide (And.intro hb (And.intro e1 (And.intro e2 (And.intro e3 (And.intro e4 e5)))))
          clear dn cell hc ok kpO hxo e1 e2 e3 e4 e5 hb
          obtain ⟨xkd, xhh, ⟨snu, sti, ssi, sel, sco, spr, stl, sfs⟩, xfa, xfc, xrs, xra, xrc, xms, xma, xmc, xn⟩ := xo
          simp only at CELL DN
          generalize sfs.length = n1 at *
          generalize xrs.length = n2 at *
          generalize xms.length = n3 at *
          gi_upto_region 37 with fail
          refine region_held_only (fun Z => Z.cell? ⟨lw + 1, 0, none⟩ = some (.pointer (some ⟨lw, 0, none⟩)) ∧ Z.cell? ⟨w.heap.size, 0, none⟩ = some (.slice (some ⟨bo, off, none⟩) lenm capm) ∧ Z.cell? ⟨ib, 0, none⟩ = some (.int .i64 (i : Int)) ∧ Z.cell? ⟨bo, off + i * 13, none⟩ = some (.int .i64 xkd) ∧ Z.cell? ⟨bo, off + i * 13 + 1, none⟩ = some (.int .i64 xhh) ∧ Z.cell? ⟨bo, off + i * 13 + 2, none⟩ = some (.int .i64 snu) ∧ Z.cell? ⟨bo, off + i * 13 + 3, none⟩ = some (.int .i64 sti) ∧ Z.cell? ⟨bo, off + i * 13 + 4, none⟩ = some (.int .i64 ssi) ∧ Z.cell? ⟨bo, off + i * 13 + 5, none⟩ = some (.bool sel) ∧ Z.cell? ⟨bo, off + i * 13 + 6, none⟩ = some (.bool sco) ∧ Z.cell? ⟨bo, off + i * 13 + 7, none⟩ = some (.bool spr) ∧ Z.cell? ⟨bo, off + i * 13 + 8, none⟩ = some (.int .i64 stl) ∧ Z.cell? ⟨bo, off + i * 13 + 9, none⟩ = some (.slice xfa n1 xfc) ∧ Z.cell? ⟨bo, off + i * 13 + 10, none⟩ = some (.slice xra n2 xrc) ∧ Z.cell? ⟨bo, off + i * 13 + 11, none⟩ = some (.slice xma n3 xmc) ∧ Z.cell? ⟨bo, off + i * 13 + 12, none⟩ = some (.int .i64 xn)) (by as_aux_lemma => kernel_rfl) (by as_aux_lemma => kernel_rfl) ⟨fpw, fmo, cib, unhide CELL _ ((unhide RR).1.grown (drew_grown _) hzz).gr⟩ (fun hHeld => ?_)
          refine wpAnyH_take (i := 0) (v := ?_) rfl (by as_aux_lemma => kernel_rfl) (by as_aux_lemma => kernel_rfl) (by as_aux_lemma => kernel_rfl) (fun _ _ _ h => by cases h.1) (Or.inl ⟨by rfl, ?_⟩) (by assumption) ?_
          rotate_left
          · intro wH hSw
            try dsimp only at hSw
            obtain ⟨s0q, s1q, s2q, s3q, s4q, s5q, s6q, s7q, s8q, s9q, s10q, s11q, s12q, s13q, s14q, s15q⟩ := hSw
            go_simp
            try with_reducible rfl
          try simp only [Act.put, List.setIfInBounds_toArray, List.set_cons_zero, List.set_cons_succ]
          refine wpAnyH_take (i := 1) (v := ?_) rfl (by as_aux_lemma => kernel_rfl) (by as_aux_lemma => kernel_rfl) (by as_aux_lemma => kernel_rfl) (fun _ _ _ h => by cases h.1) (Or.inl ⟨by rfl, ?_⟩) (by assumption) ?_
          rotate_left
          · intro wH hSw
            try dsimp only at hSw
            obtain ⟨s0q, s1q, s2q, s3q, s4q, s5q, s6q, s7q, s8q, s9q, s10q, s11q, s12q, s13q, s14q, s15q⟩ := hSw
            go_simp
            try with_reducible rfl
          try simp only [Act.put, List.setIfInBounds_toArray, List.set_cons_zero, List.set_cons_succ]
          refine wpAnyH_take (i := 2) (v := ?_) rfl (by as_aux_lemma => kernel_rfl) (by as_aux_lemma => kernel_rfl) (by as_aux_lemma => kernel_rfl) (fun _ _ _ h => by cases h.1) (Or.inl ⟨by rfl, ?_⟩) (by assumption) ?_
          rotate_left
          · intro wH hSw
            try dsimp only at hSw
            obtain ⟨s0q, s1q, s2q, s3q, s4q, s5q, s6q, s7q, s8q, s9q, s10q, s11q, s12q, s13q, s14q, s15q⟩ := hSw
            go_simp
            try with_reducible rfl
          try simp only [Act.put, List.setIfInBounds_toArray, List.set_cons_zero, List.set_cons_succ]
          refine wpAnyH_take (i := 3) (v := ?_) rfl (by as_aux_lemma => kernel_rfl) (by as_aux_lemma => kernel_rfl) (by as_aux_lemma => kernel_rfl) (fun _ _ _ h => by cases h.1) (Or.inl ⟨by rfl, ?_⟩) (by assumption) ?_
          rotate_left
          · intro wH hSw
            try dsimp only at hSw
            obtain ⟨s0q, s1q, s2q, s3q, s4q, s5q, s6q, s7q, s8q, s9q, s10q, s11q, s12q, s13q, s14q, s15q⟩ := hSw
            go_simp
            try with_reducible rfl
          try simp only [Act.put, List.setIfInBounds_toArray, List.set_cons_zero, List.set_cons_succ]
          refine wpAnyH_take (i := 4) (v := ?_) rfl (by as_aux_lemma => kernel_rfl) (by as_aux_lemma => kernel_rfl) (by as_aux_lemma => kernel_rfl) (fun _ _ _ h => by cases h.1) (Or.inl ⟨by rfl, ?_⟩) (by assumption) ?_
          rotate_left
          · intro wH hSw
            try dsimp only at hSw
            obtain ⟨s0q, s1q, s2q, s3q, s4q, s5q, s6q, s7q, s8q, s9q, s10q, s11q, s12q, s13q, s14q, s15q⟩ := hSw
            go_simp
            try with_reducible rfl
          try simp only [Act.put, List.setIfInBounds_toArray, List.set_cons_zero, List.set_cons_succ]
          refine wpAnyH_ready (rs := [5]) (by as_aux_lemma => kernel_rfl) (by simp) ?_
          refine AllReadyH.cons rfl (fun KH hKH => ?_) AllReadyH.nil
          go_simp
          refine (unhide DN _ (drew_grown _)).mono ?_
          rintro e w9' hd
          obtain ⟨hb, e1, e2, e3, e4, e5⟩ := unhide RR
          obtain ⟨rfl, h9, ko, ke⟩ := (hb.grown (drew_grown _) hzz).does (e1.grown (drew_grown _)) (fun g hg => (e2 g hg).2) e3 e4 e5 hOib r3.bi.lt hzz hd
          obtain ⟨fpw9, fmo9, -, -, -, -, -⟩ := unhide FACTS _ _ _ h9
          have E9 := hide (unhide FIN w9' _ h9 (by omega) ((KO.grown (n := wR.heap.size) hC3 hb.sz (drew_grown _)).trans (ko _)) ⟨ke.size, fun y o hy hc => ke.same y o hy hc⟩)
          have cib9 := h9.bx.cell
          have fib9 := h9.bx.frozen
          refine hKH.out _ _ ⟨fpw9, fmo9, cib9, unhide CELL _ h9.gr⟩ (fun hHeld2 => ?_)
          clear hKH KH hHeld
          clear h9 ko ke hb e1 e2 e3 e4 e5 hd DN RR FIN CELL
          try simp only [Act.put, List.setIfInBounds_toArray, List.set_cons_zero, List.set_cons_succ]
          refine wpAnyH_take (i := 6) (v := ?_) rfl (by as_aux_lemma => kernel_rfl) (by as_aux_lemma => kernel_rfl) (by as_aux_lemma => kernel_rfl) (fun _ _ _ h => by cases h.1) (Or.inl ⟨by rfl, ?_⟩) (by assumption) ?_
          rotate_left
          · intro wH hSw
            try dsimp only at hSw
            obtain ⟨s0q, s1q, s2q, s3q, s4q, s5q, s6q, s7q, s8q, s9q, s10q, s11q, s12q, s13q, s14q, s15q⟩ := hSw
            go_simp
            try with_reducible rfl
          try simp only [Act.put, List.setIfInBounds_toArray, List.set_cons_zero, List.set_cons_succ]
          refine wpAnyH_done (by as_aux_lemma => kernel_rfl) ⟨rfl, ?_⟩ _
          clear hHeld2 cib fib fpw fmo
          gi_wp2_with fail
          exact unhide E9
        · have hmI : ¬ (i : Int) < (lenm : Int) := by omega
          have E9 := hide (unhide FIN Yb _ hb (by omega) (KO.refl _ _ _ _) (KeepsOthers.refl _))
          clear hb FIN
          gi_wp2_with fail
          exact unhide E9
      case done4 =>
        rintro D3 xs Y hD3 hS h hmk3
        have hlen : xs.length = N := by rw [(unhide HNN).1, ← hS, List.length_map]
        rw [hlen] at h
        obtain ⟨fpw, -, bsb, -, mk1, mk2, brs⟩ := unhide FACTS _ _ _ h
        obtain ⟨R', nv', zv', fv', kv', va', l', T', e1, e2, e3, e4, e5⟩ := h.ex
        have cib := h.bx.cell
        have csb := bsb.cell
        have ee : ((N : Int) == (N : Int)) = true := by simp
        have lenN : ¬ (9223372036854775807 : Int) < (N : Int) := by omega
        have hd := holds_any Y e1 (by omega)
        have d23 : D2 < D3 := by
          have := (Array.getElem?_eq_some_iff.1 (unhide HW).2.1).1
          omega
        have d12 : D1 < D2 := by
          have a1 := (Array.getElem?_eq_some_iff.1 (unhide HD1).1).1
          have a2 := (unhide HW).2.2.2
          have a3 := r2.sl
          omega
        have lo : w.heap.size ≤ D1 := by
          have a1 := (unhide HW).2.2.1
          have a2 := (unhide XX).2.2.2.2.2.1.kp.size
          have a3 := (unhide XX).2.2.2.2.2.2.1.size
          have a4 := (unhide HB).2.2
          have a5 := (unhide HZ)
          omega
        have gY : w.grownBy Y none := h.gr.gr (w0 := w) (fun g e => by have := (unhide HB).2.1.size; omega) (unhide HB).2.1
        have END : Hid (∀ Y2, Y.grownBy Y2 none → Y2.cell? ⟨w.heap.size + 1 + 1, 0, none⟩ = some (.bool false) ∧ Y2.frozen? ⟨w.heap.size + 1 + 1, 0, none⟩ = false ∧ ((Y2.setCell ⟨w.heap.size + 1 + 1, 0, none⟩ (.bool true)).heap[D3]? = some (Obj.deferred (some [])) ∧ ((Y2.setCell ⟨w.heap.size + 1 + 1, 0, none⟩ (.bool true)).putObj D3 (.deferred none)).heap[D2]? = some (Obj.deferred (some [])) ∧
    (((Y2.setCell ⟨w.heap.size + 1 + 1, 0, none⟩ (.bool true)).putObj D3 (.deferred none)).putObj D2 (.deferred none)).heap[D1]? = some (Obj.deferred (some [])) ∧
    ((((Y2.setCell ⟨w.heap.size + 1 + 1, 0, none⟩ (.bool true)).putObj D3 (.deferred none)).putObj D2 (.deferred none)).putObj D1 (.deferred none)).cell? ⟨w.heap.size + 1 + 1, 0, none⟩ = some (.bool true) ∧
    w.grownBy ((((Y2.setCell ⟨w.heap.size + 1 + 1, 0, none⟩ (.bool true)).putObj D3 (.deferred none)).putObj D2 (.deferred none)).putObj D1 (.deferred none)) none)) := fun Y2 g2 => by
          have kp : ∀ {D : Nat}, Y.heap[D]? = some (Obj.deferred (some [])) → Y2.heap[D]? = some (Obj.deferred (some [])) := fun e => (g2.block _ (Array.getElem?_eq_some_iff.1 e).1 (by simp)).trans e
          have bb := bx_gr brs g2
          exact ⟨bb.cell, bb.frozen, ends3 bb (kp mk1) (kp mk2) (kp hmk3) d12 d23 (grown_trans gY g2) lo (by omega)⟩
        clear SEQ3 I3 FACTS h bsb mk1 mk2 brs e1 e2 e3 e4 e5 hmk3 gY hS
        gi_wp2_with fail
        refine ⟨trivial, (callsIn_wide.2 hd).mono ?_⟩
        rintro e Y2 ⟨rfl, g2⟩
        obtain ⟨crb, frb, fin⟩ := unhide END Y2 g2
        have FIN := hide fin
        clear hd fin g2 END cib csb fpw
        gi_wp2_with fail
        obtain ⟨f1, f2, f3, f4, f5⟩ := unhide FIN
        refine ⟨by simp, .inl ⟨_, _, rfl, run_takeDeferred f1, ?_⟩⟩
        refine ⟨by simp, .inl ⟨_, _, rfl, run_takeDeferred f2, ?_⟩⟩
        refine ⟨by simp, .inl ⟨_, _, rfl, run_takeDeferred f3, ?_⟩⟩
        refine ⟨.bool true, ?_, rfl, f5⟩
        simp [results, Try.f5, go_sem, f4]
end Go.Proofs.Ytnflbefbgcbdfaa

namespace Go.Proofs.Ytnflbefbgcbdfaa
open Go.ChangeShapes Go.WideShapes Go.ChangeAt Go.RowKit
set_option linter.unusedVariables false
set_option maxRecDepth 100000

namespace ledgerLoopsFrame

theorem own : ownKnob Try.prog.godebug = none := by kernel_rfl
theorem laidOut : laidOutB Try.prog = true := by kernel_rfl

set_option maxRecDepth 100000 in
theorem lifted (os : Os) (started : os.Started) (H : Type) (enc : TypeId × Value → H) (F : Stop.Interp) :
    ReturnsInHanded {} Try.checked os 5 .any ((Rows.OpenSpec.upto Rows.ledgerLoopsSpec).pre6 enc Try.prog Try.f5 Rows.ledgerLoopsUptoRow.domain false) (((Rows.OpenSpec.upto Rows.ledgerLoopsSpec).at F).post enc Try.prog Try.f5 false true false false) := by
  refine returnsInHanded_of_cond_sized (C := Try.checked) (s := Rows.OpenSpec.upto Rows.ledgerLoopsSpec) (k := Rows.uptoSmall) rfl own started (by kernel_rfl) Try.func5
    (OpenSpec.witness (enc := enc) (C := Try.checked) (s := Rows.OpenSpec.upto Rows.ledgerLoopsSpec) (k := Rows.uptoSmall) rfl false ⟨#[], #[.slice none 0 0, .slice none 0 0, .int .i64 0], []⟩ 8 (by kernel_rfl) (by kernel_rfl) (by kernel_rfl)
      (x := ([.nil, .nil, .lit (.int .i64 0)], [], [])) (by kernel_rfl) rfl (by kernel_rfl)) ?_
  intro W base args ds gs before hval0 hW hcnd hk hsz0 _
  have hsz : (DataW.weightsEach Try.prog (Try.f5.params.toList ++ (Rows.OpenSpec.upto Rows.ledgerLoopsSpec).bare.plain.varTypes Try.prog) (ds ++ gs)).all (· ≤ reachBytes) = true := hsz0
  have hval : ∀ (j : Nat) t v, Try.f5.params[j]? = some t → args[j]? = some v → Value.okWide Try.prog W .any base t v := hval0
  have hW' := hW
  obtain ⟨p, q, hA0, hV, rfl, hfz, hnd⟩ := hW
  have hA : DataW.TrodAll enc Try.prog W 0 (fun _ => true) true Try.f5.params.toList args.toList ds p := hA0
  rw [Try.params5] at hA hval hsz
  obtain ⟨v0, vs0, d0, ds0, p0, q0, hargs, rfl, rfl, h0, r0⟩ := trodAll_cons hA
  obtain ⟨v1, vs1, d1, ds1, p1, q1, rfl, rfl, rfl, h1, r1⟩ := trodAll_cons r0
  obtain ⟨v2, vs2, d2, ds2, p2, q2, rfl, rfl, rfl, h2, r2⟩ := trodAll_cons r1
  obtain ⟨rfl, rfl, rfl⟩ := trodAll_nil r2
  obtain rfl : args = #[v0, v1, v2] := by cases args; simp_all
  obtain ⟨rfl, rfl⟩ := trodVars_none hV
  have k0 := h0
  have lt0 : ∀ x ∈ p0, x.block < W.heap.size := by obtain ⟨m, hm⟩ := k0; exact DataW.trod_lt m _ _ _ hm
  obtain ⟨a0, len0, cap0, rfl⟩ := okWide_slice Try.underlying22 (hval 0 22 v0 rfl rfl)
  obtain ⟨ol0, w0, b0, c0⟩ : ∃ ol, IsOpL W a0 len0 ol ∧ len0 ≤ 1048576 ∧ (len0 ≤ cap0 ∧ cap0 ≤ 9223372036854775807) := by
    obtain ⟨fuel, hf⟩ := h0
    exact opls_open (y := (d0, p0)) (by simpa [Value.cells] using hf) (bulk_mem hk (d := d0) (by simp))
  have k1 := h1
  have lt1 : ∀ x ∈ p1, x.block < W.heap.size := by obtain ⟨m, hm⟩ := k1; exact DataW.trod_lt m _ _ _ hm
  obtain ⟨a1, len1, cap1, rfl⟩ := okWide_slice Try.underlying22 (hval 1 22 v1 rfl rfl)
  obtain ⟨ol1, w1, b1, c1⟩ : ∃ ol, IsOpL W a1 len1 ol ∧ len1 ≤ 1048576 ∧ (len1 ≤ cap1 ∧ cap1 ≤ 9223372036854775807) := by
    obtain ⟨fuel, hf⟩ := h1
    exact opls_open (y := (d1, p1)) (by simpa [Value.cells] using hf) (bulk_mem hk (d := d1) (by simp))
  have k2 := h2
  have lt2 : ∀ x ∈ p2, x.block < W.heap.size := by obtain ⟨m, hm⟩ := k2; exact DataW.trod_lt m _ _ _ hm
  obtain ⟨a2, rfl, rfl, rfl, w2⟩ := open_int Try.underlying3 (hval 2 3 v2 rfl rfl) h2
  clear hA0 hval0
  refine (loops_walk a0 len0 cap0 ol0 a1 len1 cap1 ol1 a2 W w0 b0 w1 b1).mono fun e W' ⟨he, gr⟩ => ?_
  have bel : Below W.heap.size W W' := (Below.refl _ W).grown gr (Nat.le_refl _) (fun k hk => by cases hk)
  subst he
  exact ⟨_, rfl, _, _, _, [], _, [], hW', trodAll_mk1 (shut_bool Try.underlying4 _), (trodAll_cons_mk (Below.trod laidOut (by kernel_rfl) (of_decide_eq_true (by kernel_rfl)) k0 bel lt0) (trodAll_cons_mk (Below.trod laidOut (by kernel_rfl) (of_decide_eq_true (by kernel_rfl)) k1 bel lt1) (trodAll_cons_mk (shut_int Try.underlying3 w2) trodAll_mk0))), rfl, bel.frame _, fun h => by cases h⟩

theorem over : Rows.ledgerLoopsUptoRow.holds Try.pinned (Rows.OpenSpec.upto Rows.ledgerLoopsSpec) :=
  OpenClaim.holds_of_cond 5 Try.f5 rfl rfl rfl rfl rfl rfl rfl ⟨rfl, rfl, rfl, rfl, rfl⟩ rfl rfl rfl rfl rfl (by kernel_rfl) Try.func5 (by kernel_rfl)
    (of_decide_eq_true (by kernel_rfl)) (by unfold Func.isWrapper; first | (rw [if_pos (by decide +kernel)]; kernel_rfl) | (rw [if_neg (by decide +kernel)]; exact ⟨rfl, rfl⟩))
    (fun os started H enc _ F => lifted os started H enc F)
end ledgerLoopsFrame

/-- THE STATEMENT -/
theorem ledgerLoops_holds : Rows.LedgerLoopsUptoSaid := ledgerLoopsFrame.over
end Go.Proofs.Ytnflbefbgcbdfaa
