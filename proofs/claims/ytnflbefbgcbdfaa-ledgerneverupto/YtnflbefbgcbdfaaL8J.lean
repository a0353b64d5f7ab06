/- BK, L7C, L7E, L7F, L7G, PDNev, one text. -/
import Derived.Test.YtnflbefbgcbdfaaRows
import Derived.Test.YtnflbefbgcbdfaaL8E
import Derived.ProofKit
import Derived.OpenShut
import Derived.ShutString
import Derived.ChangeOld
import Derived.SizedLaws
import Derived.Deep.Slices
import Derived.Deep.RegionHeld3
import Derived.JoinedCond
import Derived.Deep.CondSized
namespace Go.Proofs.Ytnflbefbgcbdfaa
set_option maxRecDepth 100000

theorem bulk_pos {H : Type} (d : DataW H) : 0 < Rows.uptoBulk d := by
  cases d with
  | lit l => cases l <;> simp [Rows.uptoBulk]
  | _ => simp [Rows.uptoBulk]

theorem bulk_count {H : Type} : ∀ l : List (DataW H), l.length ≤ Rows.uptoBulkAll l
  | [] => Nat.zero_le _
  | d :: r => by
    have h1 := bulk_pos d
    have h2 := bulk_count r
    simp only [Rows.uptoBulkAll, List.length_cons]
    omega

theorem bulk_slice {H : Type} (e s : List (DataW H)) : e.length + s.length < Rows.uptoBulk (.slice e s) := by
  have h1 := bulk_count e
  have h2 := bulk_count s
  simp only [Rows.uptoBulk]
  omega

theorem bulk_among {H : Type} {d : DataW H} : ∀ {l : List (DataW H)}, d ∈ l → Rows.uptoBulk d ≤ Rows.uptoBulkAll l
  | x :: r, h => by
    simp only [Rows.uptoBulkAll]
    rcases List.mem_cons.1 h with e | e
    · subst e; omega
    · have := bulk_among e; omega

theorem bulk_mem {H : Type} {d : DataW H} {l : List (DataW H)} (hk : Rows.uptoSmall H l = true) (h : d ∈ l) : Rows.uptoBulk d ≤ 1048576 := by
  have h1 : Rows.uptoBulkAll l ≤ 1048576 := of_decide_eq_true hk
  have h2 := bulk_among h
  omega
end Go.Proofs.Ytnflbefbgcbdfaa

namespace Go.Proofs.Ytnflbefbgcbdfaa
open Go.ChangeShapes Go.WideShapes Go.ChangeAt Go.RowKit
set_option linter.unusedVariables false
set_option maxRecDepth 100000
set_option maxHeartbeats 1000000

theorem list_gen {α : Type} {P : Nat → α → Prop} : ∀ n : Nat, (∀ i, i < n → ∃ x, P i x) → ∃ l : List α, l.length = n ∧ ∀ i x, l[i]? = some x → P i x
  | 0, _ => ⟨[], rfl, fun i x h => by simp at h⟩
  | n + 1, h => by
    obtain ⟨l, hl, hP⟩ := list_gen n (fun i hi => h i (by omega))
    obtain ⟨x, hx⟩ := h n (by omega)
    refine ⟨l ++ [x], by simp [hl], fun i y hy => ?_⟩
    by_cases c : i < n
    · rw [List.getElem?_append_left (by omega)] at hy
      exact hP i y hy
    · have hi : i < (l ++ [x]).length := (List.getElem?_eq_some_iff.1 hy).1
      simp [hl] at hi
      obtain rfl : i = n := by omega
      rw [List.getElem?_append_right (by omega), hl] at hy
      simp at hy
      subst hy
      exact hx
theorem add_0 (ad : Addr) : ad.add 0 = ad := by simp [Addr.add]
theorem spot_none {w : World} {ad : Addr} {v : Value} (h : w.cell? ad = some v) : ad.spot = none := by
  unfold World.cell? at h
  split at h
  · split at h
    · cases h
    · rename_i hsp
      simpa using hsp
  · cases h

section
variable {H : Type} {enc : TypeId × Value → H} {w : World} {base : Nat} {spare : Nat → Bool} {held : Bool}

/-- A list that came in, whatever its elements are. -/
theorem row_open {t e : TypeId} {sz M : Nat} (ht : Try.prog.underlying t = some (.slice e)) (hc : Try.prog.cellsOf e = sz) (hsz : 0 < sz) {α : Type} (cl : α → List Value) (Ok : α → Prop)
    (hone : ∀ (n : Nat) (cs : List Value) (d : DataW H × List MemPlace), cs.length = sz → DataW.trod enc Try.prog w base spare held n e cs = some d → Rows.uptoBulk d.1 ≤ M → ∃ x, cl x = cs ∧ Ok x)
    {n : Nat} {v : Value} {y : DataW H × List MemPlace} (h : DataW.trod enc Try.prog w base spare held n t [v] = some y) (hM : Rows.uptoBulk y.1 ≤ M) :
    ∃ (a : Option Addr) (l c : Nat) (xs : List α), v = .slice a l c ∧ xs.length = l ∧ (l ≤ c ∧ c ≤ 9223372036854775807) ∧ RdV w a (xs.map cl).flatten ∧ (∀ x ∈ xs, Ok x ∧ (cl x).length = sz) ∧ l ≤ M := by
  rcases Go.Deep.open_slice ht h with ⟨hcs, _⟩ | ⟨ad, l, c, m, nn, D, Pl, hcs, _, hl, hm, hmm, hxe, hx⟩
  · simp at hcs
    subst hcs
    exact ⟨none, 0, 0, [], rfl, rfl, by omega, rdv_nil _ _, fun x hx => by (cases hx), Nat.zero_le _⟩
  · simp at hcs
    subst hcs
    have hlm : l ≤ m := by rw [hmm]; split <;> omega
    have hx1 : y.1 = .slice ((List.range l).map D) ((List.range (m - l)).map fun j => D (l + j)) := by rw [hxe]
    have hy : Rows.uptoBulkAll ((List.range l).map D) ≤ M := by
      rw [hx1] at hM
      simp only [Rows.uptoBulk] at hM
      omega
    have hlM : l ≤ M := by
      have := bulk_count ((List.range l).map D)
      simp only [List.length_map, List.length_range] at this
      omega
    have each : ∀ i, i < l → ∃ x : α, (Ok x ∧ (cl x).length = sz) ∧ ∀ j v, (cl x)[j]? = some v → w.cell? (ad.add (i * sz) |>.add j) = some v := fun i hi => by
      obtain ⟨cs', h1, h2⟩ := hx i (by omega)
      rw [hc] at h1
      obtain ⟨_, hlen, hcell⟩ := World.cells?_some h1
      obtain ⟨x, rfl, ok⟩ := hone nn _ _ hlen h2 (Nat.le_trans (bulk_among (List.mem_map.2 ⟨i, by simpa using hi, rfl⟩)) hy)
      exact ⟨x, ⟨ok, hlen⟩, fun j v hj => by rw [hcell j (by have := (List.getElem?_eq_some_iff.1 hj).1; rw [hlen] at this; exact this)]; exact hj⟩
    obtain ⟨xs, hxs, hP⟩ := list_gen l each
    refine ⟨_, l, c, xs, rfl, hxs, ⟨hl, by unfold maxLen at hm; omega⟩, ?_, fun x hx => ?_, hlM⟩
    · by_cases h0 : l = 0
      · have : xs = [] := List.length_eq_zero_iff.1 (by omega)
        subst this
        exact rdv_nil _ _
      · right
        obtain ⟨x, ⟨ok, hlx⟩, hcx⟩ := each 0 (by omega)
        have hs : ad.spot = none := by
          have := hcx 0 _ (List.getElem?_eq_getElem (by rw [hlx]; exact hsz))
          rw [Nat.zero_mul, add_0, add_0] at this
          exact spot_none this
        obtain ⟨bb, off, sp⟩ := ad
        simp only at hs
        subst hs
        refine ⟨bb, off, rfl, fun j v hj => ?_⟩
        have hall : ∀ c ∈ xs.map cl, c.length = sz := fun c hc => by
          obtain ⟨x, hx, rfl⟩ := List.mem_map.1 hc
          obtain ⟨i, hi⟩ := List.getElem?_of_mem hx
          exact (hP i x hi).1.2
        have ej : j = (j / sz) * sz + j % sz := by rw [Nat.mul_comm]; exact (Nat.div_add_mod j sz).symm
        rw [ej, flat_get sz _ _ _ hall (Nat.mod_lt _ hsz), List.getElem?_map] at hj
        cases hxj : xs[j / sz]? with
        | none => rw [hxj] at hj; simp at hj
        | some x =>
          rw [hxj] at hj
          have := (hP (j / sz) x hxj).2 (j % sz) v (by simpa using hj)
          simp only [Addr.add_lit] at this
          rw [ej, ← Nat.add_assoc]
          exact this
    · obtain ⟨i, hi⟩ := List.getElem?_of_mem hx
      exact (hP i x hi).1

theorem flat_one {α : Type} (f : α → Value) (xs : List α) : (xs.map (fun x => [f x])).flatten = xs.map f := by
  induction xs with
  | nil => rfl
  | cons x xs ih => simp only [List.map_cons, List.flatten_cons, ih]; rfl
theorem ints_open {n M : Nat} {v : Value} {y : DataW H × List MemPlace} (h : DataW.trod enc Try.prog w base spare held n 29 [v] = some y) (hM : Rows.uptoBulk y.1 ≤ M) :
    ∃ a l c, ∃ ms : List Int, v = .slice a l c ∧ ms.length = l ∧ (l ≤ c ∧ c ≤ 9223372036854775807) ∧ RdV w a (ints ms) ∧ l ≤ M := by
  have c1 : Try.prog.cellsOf 2 = 1 := by kernel_rfl
  obtain ⟨a, l, c, xs, e1, e2, e3, e4, -, e6⟩ := row_open Try.underlying29 c1 (by omega) (fun x : Int => [Value.int .i64 x]) (fun _ => True) (fun n cs d hcs h2 _ => by
    obtain ⟨z, e, -⟩ := DataW.trod_int Try.underlying2 h2
    exact ⟨z, e.symm, trivial⟩) h hM
  rw [flat_one] at e4
  exact ⟨a, l, c, xs, e1, e2, e3, e4, e6⟩
theorem bytes_open {n M : Nat} {v : Value} {y : DataW H × List MemPlace} (h : DataW.trod enc Try.prog w base spare held n 80 [v] = some y) (hM : Rows.uptoBulk y.1 ≤ M) :
    ∃ a l c, ∃ ms : List Int, v = .slice a l c ∧ ms.length = l ∧ RdV w a (ms.map (Value.int .u8)) ∧ l ≤ M := by
  have c1 : Try.prog.cellsOf 5 = 1 := by kernel_rfl
  obtain ⟨a, l, c, xs, e1, e2, e3, e4, -, e6⟩ := row_open Try.underlying80 c1 (by omega) (fun x : Int => [Value.int .u8 x]) (fun _ => True) (fun n cs d hcs h2 _ => by
    obtain ⟨z, e, -⟩ := DataW.trod_int Try.underlying5 h2
    exact ⟨z, e.symm, trivial⟩) h hM
  rw [flat_one] at e4
  exact ⟨a, l, c, xs, e1, e2, e4, e6⟩
abbrev spc (r : Sp) : List Value := [.int .i64 r.1, .int .i64 r.2]
theorem spans_open {n M : Nat} {v : Value} {y : DataW H × List MemPlace} (h : DataW.trod enc Try.prog w base spare held n 37 [v] = some y) (hM : Rows.uptoBulk y.1 ≤ M) :
    ∃ a l c, ∃ rs : List Sp, v = .slice a l c ∧ rs.length = l ∧ (l ≤ c ∧ c ≤ 9223372036854775807) ∧ RdV w a (rs.map spc).flatten ∧ l ≤ M := by
  have c1 : Try.prog.cellsOf 48 = 2 := by kernel_rfl
  have c2 : Try.prog.cellsOf 2 = 1 := by kernel_rfl
  obtain ⟨a, l, c, xs, e1, e2, e3, e4, -, e6⟩ := row_open Try.underlying37 c1 (by omega) spc (fun _ => True) (fun n cs d hcs h2 _ => by
    obtain ⟨xs, m, -, hxy, -, hxl, hf⟩ := DataW.trod_struct Try.underlying48 h2
    match xs, hxl, cs, hcs with
    | [y0, y1], _, [v0, v1], _ =>
      have f0 := hf 0 _ rfl
      have f1 := hf 1 _ rfl
      simp [c2] at f0 f1
      obtain ⟨z0, e0, -⟩ := DataW.trod_int Try.underlying2 f0
      obtain ⟨z1, e1, -⟩ := DataW.trod_int Try.underlying2 f1
      simp only [List.cons.injEq, and_true] at e0 e1
      subst e0 e1
      exact ⟨(z0, z1), rfl, trivial⟩) h hM
  exact ⟨a, l, c, xs, e1, e2, e3, e4, e6⟩
theorem rds_of {W : World} {a : Option Addr} {rs : List Sp} (h : RdV W a (rs.map spc).flatten) : RdS W a rs := by
  rcases h with h | ⟨b, off, e, hc⟩
  · left
    cases rs with
    | nil => rfl
    | cons r rs => simp at h
  · right
    have hl : ∀ c ∈ rs.map spc, c.length = 2 := fun c hc => by
      obtain ⟨r, -, rfl⟩ := List.mem_map.1 hc
      rfl
    refine ⟨b, off, e, fun i r hi => ⟨?_, ?_⟩⟩
    · have := hc (i * 2 + 0) (.int .i64 r.1) (by rw [flat_get 2 _ _ _ hl (by omega), List.getElem?_map, hi]; rfl)
      simpa using this
    · have := hc (i * 2 + 1) (.int .i64 r.2) (by rw [flat_get 2 _ _ _ hl (by omega), List.getElem?_map, hi]; rfl)
      rw [← Nat.add_assoc] at this
      exact this
theorem arr_open {n : Nat} {cs : List Value} {d : DataW H × List MemPlace} (h : DataW.trod enc Try.prog w base spare held n 81 cs = some d) (hl : cs.length = 3) : ∀ v ∈ cs, v.oneCell' = true := by
  have c2 : Try.prog.cellsOf 2 = 1 := by kernel_rfl
  match cs, hl with
  | [v0, v1, v2], _ =>
    obtain ⟨u0, u1, u2, n, -, g0, g1, g2⟩ := trod_array3 Try.underlying81 c2 h
    obtain ⟨b0, e0, -⟩ := DataW.trod_int Try.underlying2 g0
    obtain ⟨b1, e1, -⟩ := DataW.trod_int Try.underlying2 g1
    obtain ⟨b2, e2, -⟩ := DataW.trod_int Try.underlying2 g2
    simp only [List.cons.injEq, and_true] at e0 e1 e2
    subst e0 e1 e2
    intro v hv
    simp only [List.mem_cons, List.not_mem_nil, or_false] at hv
    rcases hv with rfl | rfl | rfl <;> rfl
theorem li_own {sz : Nat} {a : Option Addr} {n c : Nat} {xs : List Value} (hl : xs.length = n * sz) (h : RdV w a xs) : Li (fun b => b < w.heap.size) w sz (.slice a n c) xs := ⟨a, n, c, rfl, hl, h, fun hx b off e => h.lt hx b off e⟩

theorem frame_open {n M : Nat} {cs : List Value} {y : DataW H × List MemPlace} (hM8 : M ≤ 100000000) (hcs : cs.length = 17) (h2 : DataW.trod enc Try.prog w base spare held n 83 cs = some y) (hM : Rows.uptoBulk y.1 ≤ M) : ∃ f : Fr, FrAt (fun b => b < w.heap.size) w cs f := by
  have c3 : Try.prog.cellsOf 3 = 1 := by kernel_rfl
  have c2 : Try.prog.cellsOf 2 = 1 := by kernel_rfl
  have c4 : Try.prog.cellsOf 4 = 1 := by kernel_rfl
  have cB : Try.prog.cellsOf 80 = 1 := by kernel_rfl
  have cS : Try.prog.cellsOf 37 = 1 := by kernel_rfl
  have cA : Try.prog.cellsOf 81 = 3 := by kernel_rfl
  obtain ⟨xs, m, -, hx, -, hxl, hff⟩ := DataW.trod_struct Try.underlying83 h2
  match cs, hcs, xs, hxl with
  | [v0, v1, v2, v3, v4, v5, v6, v7, v8, v9, v10, v11, v12, v13, v14, v15, v16], _, [y0, y1, y2, y3, y4, y5, y6, y7, y8, y9, y10, y11, y12, y13, y14], _ =>
    have f0 := hff 0 _ rfl
    have f1 := hff 1 _ rfl
    have f2 := hff 2 _ rfl
    have f3 := hff 3 _ rfl
    have f4 := hff 4 _ rfl
    have f5 := hff 5 _ rfl
    have f6 := hff 6 _ rfl
    have f7 := hff 7 _ rfl
    have f8 := hff 8 _ rfl
    have f9 := hff 9 _ rfl
    have f10 := hff 10 _ rfl
    have f11 := hff 11 _ rfl
    have f12 := hff 12 _ rfl
    have f13 := hff 13 _ rfl
    have f14 := hff 14 _ rfl
    simp [c2, c3, c4, cB, cS, cA] at f0 f1 f2 f3 f4 f5 f6 f7 f8 f9 f10 f11 f12 f13 f14
    obtain ⟨a0, e0, -⟩ := DataW.trod_int Try.underlying3 f0
    obtain ⟨a1, e1, -⟩ := DataW.trod_int Try.underlying2 f1
    obtain ⟨a2, e2, -⟩ := DataW.trod_int Try.underlying2 f2
    obtain ⟨a4, e4, -⟩ := DataW.trod_int Try.underlying2 f4
    obtain ⟨a5, e5, -⟩ := DataW.trod_bool Try.underlying4 f5
    obtain ⟨a6, e6, -⟩ := DataW.trod_bool Try.underlying4 f6
    obtain ⟨a7, e7, -⟩ := DataW.trod_int Try.underlying2 f7
    obtain ⟨a8, e8, -⟩ := DataW.trod_bool Try.underlying4 f8
    obtain ⟨a9, e9, -⟩ := DataW.trod_int Try.underlying2 f9
    obtain ⟨a10, e10, -⟩ := DataW.trod_bool Try.underlying4 f10
    obtain ⟨a11, e11, -⟩ := DataW.trod_int Try.underlying2 f11
    obtain ⟨a13, e13, -⟩ := DataW.trod_bool Try.underlying4 f13
    have o14 := arr_open f14 rfl
    have hy : Rows.uptoBulk y.1 = Rows.uptoBulkAll [y0.1, y1.1, y2.1, y3.1, y4.1, y5.1, y6.1, y7.1, y8.1, y9.1, y10.1, y11.1, y12.1, y13.1, y14.1] + 1 := by
      rw [hx]
      show Rows.uptoBulk (.agg [y0.1, y1.1, y2.1, y3.1, y4.1, y5.1, y6.1, y7.1, y8.1, y9.1, y10.1, y11.1, y12.1, y13.1, y14.1]) = _
      rw [Rows.uptoBulk]
    have m3 : Rows.uptoBulk y3.1 ≤ M := by
      have := bulk_among (d := y3.1) (l := [y0.1, y1.1, y2.1, y3.1, y4.1, y5.1, y6.1, y7.1, y8.1, y9.1, y10.1, y11.1, y12.1, y13.1, y14.1]) (by simp)
      omega
    have m12 : Rows.uptoBulk y12.1 ≤ M := by
      have := bulk_among (d := y12.1) (l := [y0.1, y1.1, y2.1, y3.1, y4.1, y5.1, y6.1, y7.1, y8.1, y9.1, y10.1, y11.1, y12.1, y13.1, y14.1]) (by simp)
      omega
    obtain ⟨p3, l3, k3, z3, e3, r3, q3, t3⟩ := bytes_open f3 m3
    obtain ⟨p12, l12, k12, z12, e12, r12, -, q12, t12⟩ := spans_open f12 m12
    simp only [List.cons.injEq, and_true] at e0 e1 e2 e3 e4 e5 e6 e7 e8 e9 e10 e11 e12 e13
    subst e0 e1 e2 e3 e4 e5 e6 e7 e8 e9 e10 e11 e12 e13
    have l12' : (z12.map spc).flatten.length = l12 * 2 := by
      rw [flat_len 2 _ (fun c hc => by
        obtain ⟨r, -, rfl⟩ := List.mem_map.1 hc
        rfl), List.length_map, r12]
    refine ⟨⟨[.int .i64 a0, .int .i64 a1, .int .i64 a2], [.int .i64 a4, .bool a5, .bool a6, .int .i64 a7, .bool a8, .int .i64 a9, .bool a10, .int .i64 a11], [.bool a13, v14, v15, v16], z3.map (Value.int .u8), (z12.map spc).flatten⟩, ⟨rfl, rfl, rfl, ?_, by rw [List.length_map, r3]; omega, l12, l12', by omega⟩, _, _, rfl, li_own (by rw [List.length_map, r3, Nat.mul_one]) q3, li_own l12' q12⟩
    intro v hv
    simp only [List.mem_append] at hv
    rcases hv with (((hv | hv) | hv) | hv) | hv
    · simp only [List.mem_cons, List.not_mem_nil, or_false] at hv
      rcases hv with rfl | rfl | rfl <;> rfl
    · simp only [List.mem_cons, List.not_mem_nil, or_false] at hv
      rcases hv with rfl | rfl | rfl | rfl | rfl | rfl | rfl | rfl <;> rfl
    · rcases List.mem_cons.1 hv with rfl | hv
      · rfl
      · exact o14 v hv
    · obtain ⟨x, -, rfl⟩ := List.mem_map.1 hv
      rfl
    · obtain ⟨c, hc, hvc⟩ := List.mem_flatten.1 hv
      obtain ⟨r, -, rfl⟩ := List.mem_map.1 hc
      simp only [spc, List.mem_cons, List.not_mem_nil, or_false] at hvc
      rcases hvc with rfl | rfl <;> rfl

theorem frames_open {n M : Nat} {v : Value} {y : DataW H × List MemPlace} (hM8 : M ≤ 100000000) (h : DataW.trod enc Try.prog w base spare held n 34 [v] = some y) (hM : Rows.uptoBulk y.1 ≤ M) :
    ∃ (a : Option Addr) (c : Nat) (fs : List Fr), v = .slice a fs.length c ∧ FvAt (fun b => b < w.heap.size) w (.slice a fs.length c) fs := by
  have c17 : Try.prog.cellsOf 83 = 17 := by kernel_rfl
  obtain ⟨a, l, c, xs, e1, e2, e3, e4, e5, e6⟩ := row_open Try.underlying34 c17 (by omega) (Prod.fst : List Value × Fr → List Value) (fun x => FrAt (fun b => b < w.heap.size) w x.1 x.2) (fun n cs d hcs h2 hd => by
    obtain ⟨f, hf⟩ := frame_open hM8 hcs h2 hd
    exact ⟨(cs, f), rfl, hf⟩) h hM
  refine ⟨a, c, xs.map Prod.snd, by rw [List.length_map, e2]; exact e1, by rw [List.length_map]; omega, a, c, xs.map Prod.fst, rfl, ⟨by simp, fun i c f hc hf => ?_⟩, e4, fun hne b off e => ?_⟩
  · rw [List.getElem?_map] at hc hf
    cases hx : xs[i]? with
    | none => rw [hx] at hc; cases hc
    | some x =>
      rw [hx] at hc hf
      cases hc
      cases hf
      exact (e5 x (List.mem_of_getElem? hx)).1
  · refine e4.lt (fun e0 => ?_) b off e
    have hx : xs ≠ [] := fun e => hne (by rw [e]; rfl)
    obtain ⟨x, xs', rfl⟩ := List.exists_cons_of_ne_nil hx
    have h17 := (e5 x (by simp)).2
    rw [List.map_cons, List.flatten_cons] at e0
    have hz := congrArg List.length e0
    rw [List.length_append, h17] at hz
    simp only [List.length_nil] at hz
    omega

theorem sent_open {n M : Nat} {cs : List Value} {y : DataW H × List MemPlace} (hM8 : M ≤ 100000000) (hcs : cs.length = 8) (h2 : DataW.trod enc Try.prog w base spare held n 36 cs = some y) (hM : Rows.uptoBulk y.1 ≤ M) :
    ∃ (s : St) (fa : Option Addr) (fc : Nat), cs = (s.cs (.slice fa s.fs.length fc)).toList ∧ FvAt (fun b => b < w.heap.size) w (.slice fa s.fs.length fc) s.fs := by
  have c2 : Try.prog.cellsOf 2 = 1 := by kernel_rfl
  have c4 : Try.prog.cellsOf 4 = 1 := by kernel_rfl
  have cF : Try.prog.cellsOf 34 = 1 := by kernel_rfl
  obtain ⟨xs, m, -, hx, -, hxl, hff⟩ := DataW.trod_struct Try.underlying36 h2
  match cs, hcs, xs, hxl with
  | [v0, v1, v2, v3, v4, v5, v6, v7], _, [y0, y1, y2, y3, y4, y5, y6, y7], _ =>
    have f0 := hff 0 _ rfl
    have f1 := hff 1 _ rfl
    have f2 := hff 2 _ rfl
    have f3 := hff 3 _ rfl
    have f4 := hff 4 _ rfl
    have f5 := hff 5 _ rfl
    have f6 := hff 6 _ rfl
    have f7 := hff 7 _ rfl
    simp [c2, c4, cF] at f0 f1 f2 f3 f4 f5 f6 f7
    obtain ⟨a0, e0, -⟩ := DataW.trod_int Try.underlying2 f0
    obtain ⟨a1, e1, -⟩ := DataW.trod_int Try.underlying2 f1
    obtain ⟨a2, e2, -⟩ := DataW.trod_int Try.underlying2 f2
    obtain ⟨a3, e3, -⟩ := DataW.trod_bool Try.underlying4 f3
    obtain ⟨a4, e4, -⟩ := DataW.trod_bool Try.underlying4 f4
    obtain ⟨a5, e5, -⟩ := DataW.trod_bool Try.underlying4 f5
    obtain ⟨a6, e6, -⟩ := DataW.trod_int Try.underlying2 f6
    have hy : Rows.uptoBulk y.1 = Rows.uptoBulkAll [y0.1, y1.1, y2.1, y3.1, y4.1, y5.1, y6.1, y7.1] + 1 := by
      rw [hx]
      show Rows.uptoBulk (.agg [y0.1, y1.1, y2.1, y3.1, y4.1, y5.1, y6.1, y7.1]) = _
      rw [Rows.uptoBulk]
    have m7 : Rows.uptoBulk y7.1 ≤ M := by
      have := bulk_among (d := y7.1) (l := [y0.1, y1.1, y2.1, y3.1, y4.1, y5.1, y6.1, y7.1]) (by simp)
      omega
    obtain ⟨fa, fc, fs, e7, hv⟩ := frames_open hM8 f7 m7
    simp only [List.cons.injEq, and_true] at e0 e1 e2 e3 e4 e5 e6
    subst e0 e1 e2 e3 e4 e5 e6 e7
    exact ⟨⟨a0, a1, a2, a3, a4, a5, a6, fs⟩, fa, fc, rfl, hv⟩

/-- A step of a script. -/
structure OpL where
  kd : Int
  hh : Int
  s : St
  fa : Option Addr
  fc : Nat
  rs : List Sp
  ra : Option Addr
  rc : Nat
  ms : List Int
  ma : Option Addr
  mc : Nat
  n : Int
def OpL.cs (x : OpL) : Array Value := opc x.kd x.hh x.s (.slice x.fa x.s.fs.length x.fc) (.slice x.ra x.rs.length x.rc) (.slice x.ma x.ms.length x.mc) x.n
structure OpL.Ok (w : World) (x : OpL) : Prop where
  f_ : FvAt (fun b => b < w.heap.size) w (.slice x.fa x.s.fs.length x.fc) x.s.fs
  r_ : RdV w x.ra (x.rs.map spc).flatten
  rl : x.rs.length ≤ 1048576
  m_ : RdV w x.ma (ints x.ms)
  ml : x.ms.length ≤ 1048576
theorem opl_open {n : Nat} {cs : List Value} {y : DataW H × List MemPlace} (hcs : cs.length = 13) (h2 : DataW.trod enc Try.prog w base spare held n 39 cs = some y) (hM : Rows.uptoBulk y.1 ≤ 1048576) : ∃ x : OpL, x.cs.toList = cs ∧ x.Ok w := by
  have c3 : Try.prog.cellsOf 3 = 1 := by kernel_rfl
  have cS : Try.prog.cellsOf 36 = 8 := by kernel_rfl
  have cR : Try.prog.cellsOf 37 = 1 := by kernel_rfl
  have cI : Try.prog.cellsOf 29 = 1 := by kernel_rfl
  obtain ⟨xs, m, -, hx, -, hxl, hff⟩ := DataW.trod_struct Try.underlying39 h2
  match cs, hcs, xs, hxl with
  | [v0, v1, v2, v3, v4, v5, v6, v7, v8, v9, v10, v11, v12], _, [y0, y1, y2, y3, y4, y5], _ =>
    have f0 := hff 0 _ rfl
    have f1 := hff 1 _ rfl
    have f2 := hff 2 _ rfl
    have f3 := hff 3 _ rfl
    have f4 := hff 4 _ rfl
    have f5 := hff 5 _ rfl
    simp [c3, cS, cR, cI] at f0 f1 f2 f3 f4 f5
    obtain ⟨a0, e0, -⟩ := DataW.trod_int Try.underlying3 f0
    obtain ⟨a1, e1, -⟩ := DataW.trod_int Try.underlying3 f1
    obtain ⟨a5, e5, -⟩ := DataW.trod_int Try.underlying3 f5
    have hy : Rows.uptoBulk y.1 = Rows.uptoBulkAll [y0.1, y1.1, y2.1, y3.1, y4.1, y5.1] + 1 := by
      rw [hx]
      show Rows.uptoBulk (.agg [y0.1, y1.1, y2.1, y3.1, y4.1, y5.1]) = _
      rw [Rows.uptoBulk]
    have m2 : Rows.uptoBulk y2.1 ≤ 1048576 := by
      have := bulk_among (d := y2.1) (l := [y0.1, y1.1, y2.1, y3.1, y4.1, y5.1]) (by simp)
      omega
    have m3 : Rows.uptoBulk y3.1 ≤ 1048576 := by
      have := bulk_among (d := y3.1) (l := [y0.1, y1.1, y2.1, y3.1, y4.1, y5.1]) (by simp)
      omega
    have m4 : Rows.uptoBulk y4.1 ≤ 1048576 := by
      have := bulk_among (d := y4.1) (l := [y0.1, y1.1, y2.1, y3.1, y4.1, y5.1]) (by simp)
      omega
    obtain ⟨s, fa, fc, e2, hs⟩ := sent_open (by omega) rfl f2 m2
    obtain ⟨ra, rl, rc, rs, e3, r3, -, q3, t3⟩ := spans_open f3 m3
    obtain ⟨ma, ml, mc, ms, e4, r4, -, q4, t4⟩ := ints_open f4 m4
    simp only [St.cs, List.cons.injEq, and_true] at e0 e1 e2 e5
    obtain ⟨rfl, rfl, rfl, rfl, rfl, rfl, rfl, rfl⟩ := e2
    subst e0 e1 e5 e3 e4 r3 r4
    exact ⟨⟨a0, a1, s, fa, fc, rs, ra, rc, ms, ma, mc, a5⟩, rfl, ⟨hs, q3, t3, q4, t4⟩⟩

/-- A script that came in. -/
structure IsOpL (w : World) (a : Option Addr) (len : Nat) (ol : List OpL) : Prop where
  hlen : ol.length = len
  ok : ∀ x ∈ ol, x.Ok w
  cell : len = 0 ∨ ∃ b off, a = some ⟨b, off, none⟩ ∧ ∀ i x, ol[i]? = some x → ∀ j v, x.cs[j]? = some v → w.cell? ⟨b, off + i * 13 + j, none⟩ = some v
theorem opls_open {n : Nat} {a : Option Addr} {len cap : Nat} {y : DataW H × List MemPlace} (h : DataW.trod enc Try.prog w base spare held n 22 [.slice a len cap] = some y) (hM : Rows.uptoBulk y.1 ≤ 1048576) : ∃ ol, IsOpL w a len ol ∧ len ≤ 1048576 ∧ (len ≤ cap ∧ cap ≤ 9223372036854775807) := by
  have c13 : Try.prog.cellsOf 39 = 13 := by kernel_rfl
  obtain ⟨a', l', c', xs, e1, e2, e3, e4, e5, e6⟩ := row_open Try.underlying22 c13 (by omega) (fun x : OpL => x.cs.toList) (fun x => x.Ok w) (fun n cs d hcs h2 hd => opl_open hcs h2 hd) h hM
  cases e1
  refine ⟨xs, ⟨e2, fun x hx => (e5 x hx).1, ?_⟩, e6, e3⟩
  rcases e4 with e4 | ⟨b, off, e, hc⟩
  · left
    cases xs with
    | nil => simpa using e2.symm
    | cons x xs =>
      have hz := congrArg List.length e4
      rw [List.map_cons, List.flatten_cons, List.length_append] at hz
      have h13 : x.cs.toList.length = 13 := rfl
      rw [h13] at hz
      simp only [List.length_nil] at hz
      omega
  · right
    refine ⟨b, off, e, fun i x hi j v hj => ?_⟩
    have hj13 : j < 13 := by
      have := (Array.getElem?_eq_some_iff.1 hj).1
      simpa [OpL.cs, opc] using this
    have := hc (i * 13 + j) v (by
      rw [flat_get 13 _ _ _ (fun c hc => by
        obtain ⟨x, hx, rfl⟩ := List.mem_map.1 hc
        exact (e5 x hx).2) hj13, List.getElem?_map, hi]
      simpa using hj)
    rw [← Nat.add_assoc] at this
    exact this
end
end Go.Proofs.Ytnflbefbgcbdfaa

namespace Go.Proofs.Ytnflbefbgcbdfaa
open Go.RowKit
set_option linter.unusedVariables false
set_option linter.unusedSimpArgs false
set_option maxRecDepth 100000
set_option maxHeartbeats 4000000

theorem and_61 (n : Int) : bits .and .i64 n 2305843009213693951 = n % 2305843009213693952 := by
  have h1 : (BitVec.ofInt 64 2305843009213693951).toNat = 2 ^ 61 - 1 := by decide
  have key : (BitVec.ofInt 64 n &&& BitVec.ofInt 64 2305843009213693951).toNat = (n % ((2 ^ 64 : Nat) : Int)).toNat % 2 ^ 61 := by
    rw [BitVec.toNat_and, BitVec.toNat_ofInt, h1, Nat.and_two_pow_sub_one_eq_mod]
  show IntKind.i64.wrap ((BitVec.ofInt 64 n &&& BitVec.ofInt 64 2305843009213693951).toNat : Nat) = n % 2305843009213693952
  rw [key, IntKind.wrap_i64]
  omega
theorem LM.start {w w2 : World} {b q : Nat} {f : Int} (g1 : w.grownBy w2 none) (h : ∃ w1 : World, w.grownBy w1 none ∧ SH w1 w2 b q (.slice none 0 0) (.slice none 0 0) (Lg.fresh f) (fun _ => False)) (h0 : 0 ≤ f) :
    LM w f (fun _ => False) (w2.alloc (.cells (ldc b (.slice none 0 0) (.slice none 0 0) (.slice none 0 0) f true) 32)) w2.heap.size b q (.slice none 0 0) (.slice none 0 0) (.slice none 0 0) (.slice none 0 0) (.slice none 0 0) (Lg.fresh f) [] 0 := by
  obtain ⟨w1, g0, hs⟩ := h
  have gA := grown_alloc w2 (.cells (ldc b (.slice none 0 0) (.slice none 0 0) (.slice none 0 0) f true) 32)
  have z1 := g0.size
  have z2 := g1.size
  have lb := hs.lb
  have lq := hs.lq
  refine ⟨LW.new (hs.grown gA) h0 (Blk.new _ _ _), Kp.grown (grown_trans g1 gA) _, fun x hx => ?_, Nat.le_refl _, by show f ≤ _; omega⟩
  rcases hx with e | e | e | e | e | e | e | e
  · omega
  · omega
  · omega
  all_goals cases e

theorem once_walk (first : Int) (oa : Option Addr) (len cap : Nat) (ol : List OpL) (w : World) (h : IsOpL w oa len ol) (hl : len ≤ 1048576) :
    Calls Try.prog 3 #[.int .i64 first, .slice oa len cap] w fun e w' => e = .returned (.bool true) ∧ w.grownBy w' none := by
  obtain ⟨f, hf⟩ : ∃ f, f = first % 2305843009213693952 := ⟨_, rfl⟩
  have hand : bits .and .i64 first 2305843009213693951 = f := by rw [and_61, hf]
  have f0 : 0 ≤ f ∧ f ≤ 2305843009213693951 := by omega
  clear hf
  have lenI : ¬ (9223372036854775807 : Int) < (len : Int) := by omega
  have sh := shown_any w
  have HO := hide h
  have HL := hide hl
  clear h hl
  go_enter Try.func3, Try.ntmps3
  go_wp2_with fail
  refine sh.mono ?_
  rintro e w1 ⟨rfl, g1⟩
  have nw := sh_new f w1 (by omega)
  clear sh
  go_wp2_with fail
  refine nw.mono ?_
  rintro e w2 ⟨b, q, rfl, hs⟩
  have L0 := hide (LM.start (grown_trans g1 hs.end) ⟨w1, g1, hs⟩ f0.1)
  have HF := hide f0
  clear nw hs g1 f0
  unfold ldc at L0
  go_upto_region 6 with fail
  generalize w2.alloc _ = w3 at *
  generalize w2.heap.size = lw at *
  go_wp2_with fail
  go_loopw [9] (fun iv wr => ∃ k : Nat, k ≤ len ∧ k ≤ 1500 ∧ iv = .int .i64 k ∧ Hid (∃ R nv zv fv kv va l T, LM w f R wr lw b q nv zv fv kv va l T k)) (fun iv _ => len - (intOf iv).toNat)
  case atStart => exact ⟨0, Nat.zero_le _, Nat.zero_le _, rfl, _, _, _, _, _, _, _, _, unhide L0⟩
  case round =>
    clear L0
    obtain ⟨k, hk, hk2, rfl, I⟩ := hrel
    by_cases hlt : k < len
    · have hkI : (k : Int) < (len : Int) := by omega
      by_cases h15 : k < 1500
      · have hk15 : (k : Int) < 1500 := by omega
        have hk0 : (0 : Int) ≤ (k : Int) := by omega
        obtain ⟨R, nv, zv, fv, kv, va, l, T, lm⟩ := unhide I
        obtain ⟨bo, off, rfl, hc⟩ := (unhide HO).cell.resolve_left (by omega)
        obtain ⟨x, hx⟩ : ∃ x, ol[k]? = some x := ⟨_, List.getElem?_eq_getElem (by rw [(unhide HO).hlen]; exact hlt)⟩
        have ok := (unhide HO).ok x (List.mem_of_getElem? hx)
        have kpO : ∀ j, j < w.heap.size → wr.heap[j]? = w.heap[j]? := fun j hj => lm.kp.block j hj (by omega)
        have cell : ∀ j v, x.cs[j]? = some v → wr.cell? ⟨bo, off + k * 13 + j, none⟩ = some v := fun j v hj => by
          have := hc k x hx j v hj
          rw [← this]
          exact World.cell?_of_block (kpO bo (World.block_lt_of_cell? w _ this))
        have y0 : wr.cell? ⟨bo, off + k * 13, none⟩ = some (.int .i64 x.kd) := cell 0 _ rfl
        have y1 : wr.cell? ⟨bo, off + k * 13 + 1, none⟩ = some (.int .i64 x.hh) := cell 1 _ rfl
        have y2 : wr.cell? ⟨bo, off + k * 13 + 2, none⟩ = some (.int .i64 x.s.nu) := cell 2 _ rfl
        have y3 : wr.cell? ⟨bo, off + k * 13 + 3, none⟩ = some (.int .i64 x.s.ti) := cell 3 _ rfl
        have y4 : wr.cell? ⟨bo, off + k * 13 + 4, none⟩ = some (.int .i64 x.s.si) := cell 4 _ rfl
        have y5 : wr.cell? ⟨bo, off + k * 13 + 5, none⟩ = some (.bool x.s.el) := cell 5 _ rfl
        have y6 : wr.cell? ⟨bo, off + k * 13 + 6, none⟩ = some (.bool x.s.co) := cell 6 _ rfl
        have y7 : wr.cell? ⟨bo, off + k * 13 + 7, none⟩ = some (.bool x.s.pr) := cell 7 _ rfl
        have y8 : wr.cell? ⟨bo, off + k * 13 + 8, none⟩ = some (.int .i64 x.s.tl) := cell 8 _ rfl
        have y9 : wr.cell? ⟨bo, off + k * 13 + 9, none⟩ = some (.slice x.fa x.s.fs.length x.fc) := cell 9 _ rfl
        have y10 : wr.cell? ⟨bo, off + k * 13 + 10, none⟩ = some (.slice x.ra x.rs.length x.rc) := cell 10 _ rfl
        have y11 : wr.cell? ⟨bo, off + k * 13 + 11, none⟩ = some (.slice x.ma x.ms.length x.mc) := cell 11 _ rfl
        have y12 : wr.cell? ⟨bo, off + k * 13 + 12, none⟩ = some (.int .i64 x.n) := cell 12 _ rfl
        have tl := lm.tl
        have ne := lm.ne
        have hfI := unhide HF
        have dn := does_any wr lm.lw_ (by omega) (by omega) x.kd x.hh x.s (fun j => j < w.heap.size) x.fa x.fc (ok.f_.kept kpO) x.rs x.ra x.rc (by have := ok.rl; omega) (rds_of (ok.r_.kept fun hx b off e => kpO b (ok.r_.lt hx b off e))) x.ms x.ma x.mc (by have := ok.ml; omega) (ok.m_.kept fun hx b off e => kpO b (ok.m_.lt hx b off e)) x.n
        unfold opc at dn
        have LMh := hide lm
        clear cell hc ok kpO hx tl ne hfI lm
        obtain ⟨xkd, xhh, ⟨snu, sti, ssi, sel, sco, spr, stl, sfs⟩, xfa, xfc, xrs, xra, xrc, xms, xma, xmc, xn⟩ := x
        simp only at y0 y1 y2 y3 y4 y5 y6 y7 y8 y9 y10 y11 y12 dn
        generalize sfs.length = n1 at *
        generalize xrs.length = n2 at *
        generalize xms.length = n3 at *
        go_wp2_with fail
        refine dn.mono ?_
        rintro e w5 hd
        obtain ⟨rfl, R', nv', zv', fv', kv', va', l', T', lm', -, -⟩ := (unhide LMh).step hd
        have hd2 := holds_any w5 lm'.lw_ (by have := lm'.tl; omega)
        have LM2 := hide lm'
        clear dn hd lm' y0 y1 y2 y3 y4 y5 y6 y7 y8 y9 y10 y11 y12 LMh
        go_wp2_with fail
        refine hd2.mono ?_
        rintro e w6 ⟨rfl, g6⟩
        have LM3 := hide ((unhide LM2).grown g6)
        clear hd2 g6
        go_wp2_with fail
        exact ⟨⟨k + 1, by omega, by omega, by go_num, _, _, _, _, _, _, _, _, unhide LM3⟩, by simp [intOf]; omega⟩
      · have hk15 : ¬ (k : Int) < 1500 := by omega
        obtain ⟨R, nv, zv, fv, kv, va, l, T, lm⟩ := unhide I
        have F := hide lm.kp
        clear lm I
        go_wp2_with fail
        go_ret
        exact ⟨rfl, (unhide F).os, (unhide F).tape, (unhide F).output, (unhide F).size, fun x hx _ => (unhide F).block x hx (fun e => by omega)⟩
    · obtain rfl : k = len := by omega
      have hkI : ¬ (k : Int) < (k : Int) := by omega
      obtain ⟨R, nv, zv, fv, kv, va, l, T, lm⟩ := unhide I
      have F := hide lm.kp
      clear lm I
      go_wp2_with fail
      go_ret
      exact ⟨rfl, (unhide F).os, (unhide F).tape, (unhide F).output, (unhide F).size, fun x hx _ => (unhide F).block x hx (fun e => by omega)⟩
end Go.Proofs.Ytnflbefbgcbdfaa

namespace Go.Proofs.Ytnflbefbgcbdfaa
open Go.RowKit
set_option linter.unusedVariables false
set_option linter.unusedSimpArgs false
set_option maxRecDepth 100000
set_option maxHeartbeats 4000000

theorem ack_far {l : Lg} {L : List Sp} {lo hi : Int} (h : ∀ r ∈ L, r.1 ≤ r.2 ∧ 0 ≤ r.1) (h1 : lo ≤ hi) (h2 : 0 ≤ lo) (h3 : l.ne ≤ hi ∨ lo < l.fi) (ho : l.op = true) : l.mayAck (L ++ [(lo, hi)]) = 130 := by
  unfold Lg.mayAck
  rw [if_neg (by rw [ho]; decide)]
  induction L with
  | nil =>
    show (if hi < lo ∨ lo < 0 then (1 : Int) else if lo < l.fi ∨ l.ne ≤ hi then 130 else 0) = 130
    rw [if_neg (by omega), if_pos (by omega)]
  | cons r L ih =>
    show (if r.2 < r.1 ∨ r.1 < 0 then (1 : Int) else if r.1 < l.fi ∨ l.ne ≤ r.2 then 130 else ackF l (L ++ [(lo, hi)])) = 130
    have := h r (by simp)
    rw [if_neg (by omega)]
    split
    · rfl
    · exact ih (fun x hx => h x (by simp [hx]))

theorem LM.skip {w0 : World} {N0 : Int} {R : Nat → Prop} {w : World} {lw b q : Nat} {nv zv fv kv va : Value} {l : Lg} {T : List Tr} {k : Nat} (h : LM w0 N0 R w lw b q nv zv fv kv va l T k) : LM w0 N0 R w lw b q nv zv fv kv va l T (k + 1) :=
  ⟨h.lw_, h.kp, h.lo, by have := h.tl; omega, by have := h.ne; omega⟩

theorem never_walk (first : Int) (oa : Option Addr) (len cap : Nat) (ol : List OpL) (w : World) (h : IsOpL w oa len ol) (hl : len ≤ 1048576) (ra : Option Addr) (rc : Nat) (rs : List Sp) (far : Int) (hr : RdV w ra (rs.map spc).flatten) (hrl : rs.length ≤ 1048576) :
    Calls Try.prog 4 #[.int .i64 first, .slice oa len cap, .agg #[.slice ra rs.length rc, .int .i64 far]] w fun e w' => e = .returned (.bool true) ∧ w.grownBy w' none := by
  obtain ⟨f, hf⟩ : ∃ f, f = first % 2305843009213693952 := ⟨_, rfl⟩
  have hand : bits .and .i64 first 2305843009213693951 = f := by rw [and_61, hf]
  have f0 : 0 ≤ f ∧ f ≤ 2305843009213693951 := by omega
  obtain ⟨x, hx⟩ : ∃ x, x = far % 2305843009213693952 := ⟨_, rfl⟩
  have hand2 : bits .and .i64 far 2305843009213693951 = x := by rw [and_61, hx]
  have x0 : 0 ≤ x ∧ x ≤ 2305843009213693951 := by omega
  clear hf hx
  have lenI : ¬ (9223372036854775807 : Int) < (len : Int) := by omega
  obtain ⟨rn, hrn⟩ : ∃ rn, rn = rs.length := ⟨_, rfl⟩
  rw [← hrn]
  obtain ⟨wA, hwA⟩ : ∃ wA, wA = w.alloc (.cells #[.slice ra rn rc, .int .i64 far] 42) := ⟨_, rfl⟩
  have gA : w.grownBy wA none := by rw [hwA]; exact grown_alloc _ _
  have bA : Blk wA w.heap.size #[.slice ra rn rc, .int .i64 far] 42 := by rw [hwA]; exact Blk.new _ _ _
  have sh := shown_any wA
  have HO := hide h
  have HL := hide hl
  have HR := hide (And.intro hr (And.intro hrl hrn))
  clear h hl hr hrl hrn
  go_enter Try.func4, Try.ntmps4
  go_wp2_with fail
  rw [← hwA]
  refine sh.mono ?_
  rintro e w1 ⟨rfl, g1⟩
  have nw := sh_new f w1 (by omega)
  have b1 := bA.grown g1
  have y0 := b1.cell 0 (.slice ra rn rc) rfl
  have y1 := b1.cell 1 (.int .i64 far) rfl
  have GA := hide gA
  replace hwA := hide hwA
  clear sh b1 bA gA
  go_wp2_with fail
  refine nw.mono ?_
  rintro e w2 ⟨b, q, rfl, hs⟩
  have L0 := hide (LM.start (grown_trans g1 hs.end) ⟨w1, g1, hs⟩ f0.1)
  have HF := hide f0
  clear nw hs g1 f0 y0 y1
  unfold ldc at L0
  go_wp2_with fail
  generalize w2.alloc _ = w3 at *
  generalize w2.heap.size = lw at *
  go_loopw [14] (fun iv wr => ∃ k : Nat, k ≤ len ∧ k ≤ 500 ∧ iv = .int .i64 k ∧ Hid (∃ R nv zv fv kv va l T, LM wA f R wr lw b q nv zv fv kv va l T k ∧ l.op = true ∧ l.fi = f)) (fun iv _ => len - (intOf iv).toNat)
  case atStart => exact ⟨0, Nat.zero_le _, Nat.zero_le _, rfl, _, _, _, _, _, _, _, _, unhide L0, rfl, rfl⟩
  case round =>
    clear L0
    obtain ⟨k, hk, hk2, rfl, I⟩ := hrel
    by_cases hlt : k < len ∧ k < 500
    · have hkI : (k : Int) < (len : Int) := by omega
      have hk15 : (k : Int) < 500 := by omega
      have hk0 : (0 : Int) ≤ (k : Int) := by omega
      obtain ⟨R, nv, zv, fv, kv, va, l, T, lm, lop, lfi⟩ := unhide I
      obtain ⟨bo, off, rfl, hc⟩ := (unhide HO).cell.resolve_left (by omega)
      obtain ⟨xo, hx⟩ : ∃ xo, ol[k]? = some xo := ⟨_, List.getElem?_eq_getElem (by rw [(unhide HO).hlen]; exact hlt.1)⟩
      have ok := (unhide HO).ok xo (List.mem_of_getElem? hx)
      have kpO : ∀ j, j < w.heap.size → wr.heap[j]? = w.heap[j]? := fun j hj => by
        have := (unhide GA).size
        exact (lm.kp.block j (by omega) (by omega)).trans ((unhide GA).block j hj (by simp))
      have cell : ∀ j v, xo.cs[j]? = some v → wr.cell? ⟨bo, off + k * 13 + j, none⟩ = some v := fun j v hj => by
        have := hc k xo hx j v hj
        rw [← this]
        exact World.cell?_of_block (kpO bo (World.block_lt_of_cell? w _ this))
      have y0 : wr.cell? ⟨bo, off + k * 13, none⟩ = some (.int .i64 xo.kd) := cell 0 _ rfl
      have y1 : wr.cell? ⟨bo, off + k * 13 + 1, none⟩ = some (.int .i64 xo.hh) := cell 1 _ rfl
      have y2 : wr.cell? ⟨bo, off + k * 13 + 2, none⟩ = some (.int .i64 xo.s.nu) := cell 2 _ rfl
      have y3 : wr.cell? ⟨bo, off + k * 13 + 3, none⟩ = some (.int .i64 xo.s.ti) := cell 3 _ rfl
      have y4 : wr.cell? ⟨bo, off + k * 13 + 4, none⟩ = some (.int .i64 xo.s.si) := cell 4 _ rfl
      have y5 : wr.cell? ⟨bo, off + k * 13 + 5, none⟩ = some (.bool xo.s.el) := cell 5 _ rfl
      have y6 : wr.cell? ⟨bo, off + k * 13 + 6, none⟩ = some (.bool xo.s.co) := cell 6 _ rfl
      have y7 : wr.cell? ⟨bo, off + k * 13 + 7, none⟩ = some (.bool xo.s.pr) := cell 7 _ rfl
      have y8 : wr.cell? ⟨bo, off + k * 13 + 8, none⟩ = some (.int .i64 xo.s.tl) := cell 8 _ rfl
      have y9 : wr.cell? ⟨bo, off + k * 13 + 9, none⟩ = some (.slice xo.fa xo.s.fs.length xo.fc) := cell 9 _ rfl
      have y10 : wr.cell? ⟨bo, off + k * 13 + 10, none⟩ = some (.slice xo.ra xo.rs.length xo.rc) := cell 10 _ rfl
      have y11 : wr.cell? ⟨bo, off + k * 13 + 11, none⟩ = some (.slice xo.ma xo.ms.length xo.mc) := cell 11 _ rfl
      have y12 : wr.cell? ⟨bo, off + k * 13 + 12, none⟩ = some (.int .i64 xo.n) := cell 12 _ rfl
      have tl := lm.tl
      have ne := lm.ne
      have hfI := unhide HF
      have dn := does_any wr lm.lw_ (by omega) (by omega) xo.kd xo.hh xo.s (fun j => j < w.heap.size) xo.fa xo.fc (ok.f_.kept kpO) xo.rs xo.ra xo.rc (by have := ok.rl; omega) (rds_of (ok.r_.kept fun hx b off e => kpO b (ok.r_.lt hx b off e))) xo.ms xo.ma xo.mc (by have := ok.ml; omega) (ok.m_.kept fun hx b off e => kpO b (ok.m_.lt hx b off e)) xo.n
      unfold opc at dn
      have LMh := hide (And.intro lm (And.intro lop lfi))
      clear cell hc ok kpO hx tl ne hfI lm lop lfi
      obtain ⟨xkd, xhh, ⟨snu, sti, ssi, sel, sco, spr, stl, sfs⟩, xfa, xfc, xrs, xra, xrc, xms, xma, xmc, xn⟩ := xo
      simp only at y0 y1 y2 y3 y4 y5 y6 y7 y8 y9 y10 y11 y12 dn
      generalize sfs.length = n1 at *
      generalize xrs.length = n2 at *
      generalize xms.length = n3 at *
      by_cases k4 : xkd = 4
      · subst k4
        have LM2 := hide (And.intro (unhide LMh).1.skip (unhide LMh).2)
        clear dn LMh y1 y2 y3 y4 y5 y6 y7 y8 y9 y10 y11 y12
        go_wp2_with fail
        exact ⟨⟨k + 1, by omega, by omega, by go_num, _, _, _, _, _, _, _, _, unhide LM2⟩, by simp [intOf]; omega⟩
      · have bz : (xkd != 4) = true := by simpa using k4
        go_wp2_with fail
        refine dn.mono ?_
        rintro e w5 hd
        obtain ⟨rfl, R', nv', zv', fv', kv', va', l', T', lm', lf', lo'⟩ := (unhide LMh).1.step hd
        have LM2 := hide (And.intro lm' (And.intro ((lo'.resolve_right k4).trans (unhide LMh).2.1) (lf'.trans (unhide LMh).2.2)))
        clear dn hd lm' lf' lo' y0 y1 y2 y3 y4 y5 y6 y7 y8 y9 y10 y11 y12 LMh
        go_wp2_with fail
        exact ⟨⟨k + 1, by omega, by omega, by go_num, _, _, _, _, _, _, _, _, unhide LM2⟩, by simp [intOf]; omega⟩
    · obtain ⟨wq, hwq⟩ : ∃ wq, wq = wr := ⟨_, rfl⟩
      obtain ⟨R, nv, zv, fv, kv, va, l, T, lm, lop, lfi⟩ := unhide I
      rw [← hwq] at lm ⊢
      clear hwq
      have VW : Hid (∀ W, wq.grownBy W none → Calls Try.prog 10 #[.pointer (some ⟨b, 0, none⟩)] W fun e Y => e = .returned (.agg #[.bool true, .int .i64 l.ne, .int .i64 l.la, .int .i64 l.ls, .int .i64 (-1), .int .i64 (flt l.ks), .int .i64 (l.ks.length : Int), .int .i64 (wtg l.ks)]) ∧ W.grownBy Y none) := fun W g => by
        have hv := view_any b q kv l W (lm.grown g).lw_.lg.blk (lm.grown g).lw_.lg.row (by have := lm.lw_.ok.kl; omega) lm.lw_.ok.si (lm.grown g).lw_.lg.low
        unfold vw at hv
        rw [lop] at hv
        exact hv
      have LM0 := hide (And.intro lm (And.intro lop lfi))
      have hV := unhide VW wq (World.grownBy.refl _ none)
      generalize flt l.ks = F at *
      generalize wtg l.ks = V at *
      generalize (l.ks.length : Int) = M at *
      clear I lm lop lfi
      rcases (by omega : ¬ k < len ∨ (k < len ∧ ¬ k < 500)) with ql | ql
      · have hkI : ¬ (k : Int) < (len : Int) := by omega
        go_wp2_with fail
        refine hV.mono ?_
        rintro e W1 ⟨rfl, g1⟩
        obtain ⟨WB, hWB⟩ : ∃ WB, WB = W1.alloc (.cells #[.bool true, .int .i64 l.ne, .int .i64 l.la, .int .i64 l.ls, .int .i64 (-1), .int .i64 F, .int .i64 M, .int .i64 V] 44) := ⟨_, rfl⟩
        have g1B : W1.grownBy WB none := by rw [hWB]; exact grown_alloc _ _
        have bB : Blk WB W1.heap.size #[.bool true, .int .i64 l.ne, .int .i64 l.la, .int .i64 l.ls, .int .i64 (-1), .int .i64 F, .int .i64 M, .int .i64 V] 44 := by rw [hWB]; exact Blk.new _ _ _
        obtain ⟨bx, hbx⟩ : ∃ bx, bx = W1.heap.size := ⟨_, rfl⟩
        rw [← hbx] at bB
        have gB := grown_trans g1 g1B
        have BL : Calls Try.prog 11 #[.int .i64 l.ne, .slice ra rn rc] WB fun e Y => ∃ v, e = .returned v ∧ Row Y v (rs.map (belowF l.ne)) ∧ Fresh WB v ∧ WB.grownBy Y none := below_any l.ne ra rn rc rs WB (unhide HR).2.2 (by have := unhide HR; omega) (rds_of ((unhide HR).1.kept fun hx b off e => by
          have hj := (unhide HR).1.lt hx b off e
          have := (unhide GA).size
          have lm := (unhide LM0).1.grown gB
          exact (lm.kp.block b (by omega) (by omega)).trans ((unhide GA).block b hj (by simp))))
        have c4 : WB.cell? ⟨lw, 4, none⟩ = some (.int .i64 l.ne) := ((unhide LM0).1.grown gB).lw_.ld.cell 4 _ rfl
        have GB := hide (And.intro gB bB)
        clear hV g1 g1B gB bB
        go_upto_region 15 with fail
        rw [← hWB, ← hbx]
        replace hWB := hide hWB
        replace hbx := hide hbx
        go_wp2_with fail
        refine BL.mono ?_
        rintro e W2 ⟨v, rfl, hrow, hfr, g2⟩
        have c4 := cell_grown c4 g2
        have G2 := hide g2
        have HROW := hide (And.intro hrow hfr)
        obtain ⟨ia, ic, rfl, rd⟩ := rds_row hrow
        have e1 : (rs.map (belowF l.ne)).length = rn := by rw [List.length_map]; exact (unhide HR).2.2.symm
        rw [e1] at HROW ⊢
        obtain ⟨L, hL⟩ : ∃ L, L = rs.map (belowF l.ne) := ⟨_, rfl⟩
        rw [← hL] at HROW rd
        have RD := hide rd
        have LL : Hid (L.length = rn) := by show L.length = rn; rw [hL]; exact e1
        clear BL g2 hrow hfr rd e1 hL
        have DONE : Hid (∀ W, W2.grownBy W none → w.grownBy W none) := fun W g => by
          have lm := (unhide LM0).1.grown (grown_trans (grown_trans (unhide GB).1 (unhide G2)) g)
          exact grown_trans (unhide GA) ⟨lm.kp.os, lm.kp.tape, lm.kp.output, lm.kp.size, fun x hx _ => lm.kp.block x hx (fun e => by omega)⟩
        have rnI : ¬ (9223372036854775807 : Int) < (rn : Int) := by have := unhide HR; omega
        go_wp2_with fail
        go_loopw [17] (fun iv wr => ∃ j : Nat, j ≤ rn ∧ iv = .int .i64 j ∧ Hid (W2.grownBy wr none ∧ ∀ i r, i < j → L[i]? = some r → r.1 ≤ r.2 ∧ 0 ≤ r.1)) (fun iv _ => rn - (intOf iv).toNat)
        case atStart => exact ⟨0, Nat.zero_le _, rfl, World.grownBy.refl _ none, fun i r h => by omega⟩
        case round =>
          obtain ⟨j, hj, rfl, I2⟩ := hrel
          by_cases hjl : j < rn
          · have hjI : (j : Int) < (rn : Int) := by omega
            have hj0 : (0 : Int) ≤ (j : Int) := by omega
            obtain ⟨gj, okj⟩ := unhide I2
            obtain ⟨r, hr⟩ : ∃ r, L[j]? = some r := ⟨_, List.getElem?_eq_getElem (by rw [unhide LL]; exact hjl)⟩
            obtain ⟨ig, io, rfl, hc⟩ : ∃ g off, ia = some ⟨g, off, none⟩ ∧ ∀ (i : Nat) (r : Sp), L[i]? = some r → W2.cell? ⟨g, off + i * 2, none⟩ = some (.int .i64 r.1) ∧ W2.cell? ⟨g, off + i * 2 + 1, none⟩ = some (.int .i64 r.2) := by
              rcases unhide RD with e | h
              · rw [e] at hr; simp at hr
              · exact h
            obtain ⟨lo, hi⟩ := r
            obtain ⟨q0, q1⟩ := hc j _ hr
            replace q0 := cell_grown q0 gj
            replace q1 := cell_grown q1 gj
            simp only at q0 q1
            have GJ := hide gj
            have NX : Hid (¬ hi < lo → ¬ lo < 0 → ∀ i r, i < j + 1 → L[i]? = some r → r.1 ≤ r.2 ∧ 0 ≤ r.1) := fun h1 h2 i r hi2 hr2 => by
              by_cases c : i = j
              · subst c
                rw [hr] at hr2
                obtain rfl := Option.some.inj hr2
                exact ⟨by omega, by omega⟩
              · exact okj i r (by omega) hr2
            clear hc gj okj hr I2
            have GJ2 := hide (grown_drew' (unhide GJ))
            by_cases c1 : hi < lo
            · clear NX
              go_upto_region 19 with fail
              go_region
              all_goals go_wp2_with fail
              all_goals go_ret
              all_goals exact ⟨rfl, unhide DONE _ (unhide GJ2)⟩
            · by_cases c2 : lo < 0
              · clear NX
                go_upto_region 19 with fail
                go_region
                all_goals go_wp2_with fail
                all_goals go_ret
                all_goals exact ⟨rfl, unhide DONE _ (unhide GJ2)⟩
              · have NX2 := hide (unhide NX c1 c2)
                clear NX
                go_upto_region 19 with fail
                go_region
                all_goals go_wp2_with fail
                all_goals exact ⟨⟨j + 1, hjl, by go_num, unhide GJ2, unhide NX2⟩, by simp [intOf]; omega⟩
          · obtain rfl : j = rn := by omega
            have hjI : ¬ (j : Int) < (j : Int) := by omega
            obtain ⟨gj, okj⟩ := unhide I2
            have c4 := cell_grown c4 gj
            have OKL : Hid (∀ r ∈ L, r.1 ≤ r.2 ∧ 0 ≤ r.1) := fun r hr => by
              obtain ⟨i, hi⟩ := List.getElem?_of_mem hr
              exact okj i r (by rw [← unhide LL]; exact (List.getElem?_eq_some_iff.1 hi).1) hi
            have nb : 0 ≤ l.ne ∧ l.ne ≤ 2305843009213694451 := by
              have h1 := (unhide LM0).1.lw_.ok.ne
              have h2 := (unhide LM0).1.ne
              have h3 := unhide HF
              omega
            have wb : IntKind.i64.wrap (l.ne + x) = l.ne + x := by rw [IntKind.wrap_i64]; omega
            have GJ := hide gj
            clear I2 gj okj
            obtain ⟨x00, x01⟩ := x0
            have nlt : ¬ l.ne + x < l.ne := by omega
            have gj := unhide GJ
            have hrw : Row wr (.slice ia j ic) L := row_kept (unhide HROW).1 fun g e => gj.block g (row_lt (unhide HROW).1 g e) (by simp)
            have gA := grown_alloc wr (.cells #[.int .i64 (min (l.ne + x) l.ne), .int .i64 (l.ne + x)] 48)
            have bA : Blk (wr.alloc (.cells #[.int .i64 (min (l.ne + x) l.ne), .int .i64 (l.ne + x)] 48)) wr.heap.size #[.int .i64 (min (l.ne + x) l.ne), .int .i64 (l.ne + x)] 48 := Blk.new _ _ _
            have hrA : Row (wr.alloc (.cells #[.int .i64 (min (l.ne + x) l.ne), .int .i64 (l.ne + x)] 48)) (.slice ia j ic) L := row_kept hrw fun g e => gA.block g (row_lt hrw g e) (by simp)
            obtain ⟨v', W4, hap, hr', hmv, -⟩ := app2 _ _ _ [(min (l.ne + x) l.ne, l.ne + x)] 37 hrA ⟨wr.heap.size, 0, none⟩ 1 (fun j u hj => by
              rw [Addr.add_lit, Nat.zero_add]
              refine bA.cell j u ?_
              simpa [cl] using hj) (by simp) (by rw [unhide LL]; simp; have := unhide HR; omega)
            obtain ⟨gW, -⟩ := Moved.fresh (grown_trans (grown_trans (unhide G2) gj) gA) (unhide HROW).2 hmv
            obtain ⟨a4, k4, rfl, -⟩ := rds_row hr'
            have e4 : (L ++ [(min (l.ne + x) l.ne, l.ne + x)]).length = j + 1 := by rw [List.length_append, unhide LL]; rfl
            have MA : l.mayAck (L ++ [(min (l.ne + x) l.ne, l.ne + x)]) = 130 := ack_far (unhide OKL) (by omega) (by omega) (.inl (by omega)) (unhide LM0).2.1
            have AK := ack_bad b q kv va l R W4 _ _ ((unhide LM0).1.grown (grown_trans (unhide GB).1 gW)).lw_.lg hr' (by rw [e4]; have := unhide HR; omega) (by rw [MA]; decide)
            rw [MA, e4] at AK
            rw [e4] at hap
            have gx := grown_trans (unhide GB).1 gW
            have GX := hide gx
            have bx4 := (unhide GB).2.grown gW
            have HAP := hide hap
            have B4 := hide bx4
            clear gj hrw gA bA hrA hr' hmv gW e4 MA hap bx4 gx
            go_wp2_with (at_builtin; refine wpList_append_run _ rfl _ _ 37 37 rfl (.slice ia j ic) (.slice (some ⟨wr.heap.size, 0, none⟩) 1 1) rfl rfl (unhide HAP) ?_)
            refine AK.mono ?_
            rintro e W5 ⟨rfl, g5⟩
            have gx := grown_trans (unhide GX) g5
            have hV := unhide VW W5 gx
            have b5 := (unhide B4).grown g5
            have GX5 := hide gx
            have B5 := hide b5
            obtain ⟨z0, z1, z2, z3, z4, z5, z6, z7⟩ := cells8 b5
            clear AK HAP GX B4 g5 gx b5 c4 hV
            go_upto_region 25 with fail
            go_region_held3 (fun W => W.cell? ⟨bx, 0, none⟩ = some (.bool true) ∧ W.cell? ⟨bx, 1, none⟩ = some (.int .i64 l.ne) ∧ W.cell? ⟨bx, 2, none⟩ = some (.int .i64 l.la) ∧ W.cell? ⟨bx, 3, none⟩ = some (.int .i64 l.ls) ∧ W.cell? ⟨bx, 4, none⟩ = some (.int .i64 (-1)) ∧ W.cell? ⟨bx, 5, none⟩ = some (.int .i64 F) ∧ W.cell? ⟨bx, 6, none⟩ = some (.int .i64 M) ∧ W.cell? ⟨bx, 7, none⟩ = some (.int .i64 V)) (go_keep) (first | (go_at_call 10; refine (unhide VW _ (grown_trans (unhide GX5) (grown_drewN _ 1))).mono ?_; rintro e W6 ⟨rfl, g6⟩; obtain ⟨y0, y1, y2, y3, y4, y5, y6, y7⟩ := cells8 (((unhide B5).grown (grown_drewN _ 1)).grown g6)))
            have gx6 := grown_trans (grown_trans (unhide GX5) (grown_drewN _ 1)) g6
            have b6 := ((unhide B5).grown (grown_drewN _ 1)).grown g6
            have GX6 := hide gx6
            have B6 := hide b6
            have HD : Hid (∀ W, wq.grownBy W none → Calls Try.prog 9 #[.pointer (some ⟨lw, 0, none⟩)] W fun e w' => e = .returned (.bool true) ∧ W.grownBy w' none) := fun W g => holds_any W ((unhide LM0).1.grown g).lw_ (by have := (unhide LM0).1.tl; omega)
            have END : Hid (∀ W, wq.grownBy W none → w.grownBy W none) := fun W g => by
              have lm := (unhide LM0).1.grown g
              exact grown_trans (unhide GA) ⟨lm.kp.os, lm.kp.tape, lm.kp.output, lm.kp.size, fun x hx _ => lm.kp.block x hx (fun e => by omega)⟩
            clear gx6 b6 g6 y0 y1 y2 y3 y4 y5 y6 y7 z0 z1 z2 z3 z4 z5 z6 z7 GX5 B5
            by_cases fp : 0 < f
            · have f0 : ¬ f = 0 := by omega
              obtain ⟨mm, hmm⟩ : ∃ mm, mm = x.tmod f := ⟨_, rfl⟩
              have m0 : 0 ≤ mm := by rw [hmm]; exact Int.tmod_nonneg _ x00
              have m1 : mm < f := by rw [hmm]; exact Int.tmod_lt_of_pos _ fp
              have AK2 : Hid (∀ W, W6.grownBy W none → Calls Try.prog 12 #[.pointer (some ⟨b, 0, none⟩), .slice (some ⟨W.heap.size, 0, none⟩) 1 1] (W.alloc (.cells #[.int .i64 mm, .int .i64 mm] 48)) fun e w' => e = .returned (.tuple #[.slice none 0 0, .int .i64 130]) ∧ (W.alloc (.cells #[.int .i64 mm, .int .i64 mm] 48)).grownBy w' none) := fun W g => by
                have MA : l.mayAck [(mm, mm)] = 130 := ack_far (L := []) (by simp) (by omega) m0 (.inr (by have := (unhide LM0).2.2; omega)) (unhide LM0).2.1
                have := ack_bad b q kv va l R (W.alloc (.cells #[.int .i64 mm, .int .i64 mm] 48)) _ [(mm, mm)] ((unhide LM0).1.grown (grown_trans (grown_trans (unhide GX6) g) (grown_alloc _ _))).lw_.lg (row_one W mm mm) (by simp) (by rw [MA]; decide)
                rw [MA] at this
                exact this
              have HMM := hide (And.intro m0 m1)
              clear m0 m1
              obtain ⟨z0, -⟩ := cells8 (unhide B6)
              have z0A : ∀ v, (W6.alloc v).cell? ⟨bx, 0, none⟩ = some (.bool true) := fun v => cell_grown z0 (grown_alloc _ _)
              go_wp2_with fail
              go_region_held3 (fun W => W.cell? ⟨bx, 0, none⟩ = some (.bool true)) (go_keep) (first | (go_at_call 12; rw [← hmm]; refine (unhide AK2 _ (grown_drewN _ 1)).mono ?_; rintro e W7 ⟨rfl, g7⟩; obtain ⟨y0, -⟩ := cells8 ((((unhide B6).grown (grown_drewN _ 1)).grown (grown_alloc _ _)).grown g7)))
              have gx7 := grown_trans (grown_trans (grown_trans (unhide GX6) (grown_drewN _ 1)) (grown_alloc _ _)) g7
              have b7 := (((unhide B6).grown (grown_drewN _ 1)).grown (grown_alloc _ _)).grown g7
              have GX7 := hide gx7
              have B7 := hide b7
              clear z0 z0A y0
              obtain ⟨z0, z1, z2, z3, z4, z5, z6, z7⟩ := cells8 b7
              clear gx7 b7 g7 AK2 hmm GX6 B6
              go_wp2_with fail
              go_region_held3 (fun W => W.cell? ⟨bx, 0, none⟩ = some (.bool true) ∧ W.cell? ⟨bx, 1, none⟩ = some (.int .i64 l.ne) ∧ W.cell? ⟨bx, 2, none⟩ = some (.int .i64 l.la) ∧ W.cell? ⟨bx, 3, none⟩ = some (.int .i64 l.ls) ∧ W.cell? ⟨bx, 4, none⟩ = some (.int .i64 (-1)) ∧ W.cell? ⟨bx, 5, none⟩ = some (.int .i64 F) ∧ W.cell? ⟨bx, 6, none⟩ = some (.int .i64 M) ∧ W.cell? ⟨bx, 7, none⟩ = some (.int .i64 V)) (go_keep) (first | (go_at_call 10; refine (unhide VW _ (grown_trans (unhide GX7) (grown_drewN _ 1))).mono ?_; rintro e W8 ⟨rfl, g8⟩; obtain ⟨y0, y1, y2, y3, y4, y5, y6, y7⟩ := cells8 (((unhide B7).grown (grown_drewN _ 1)).grown g8)))
              have gx8 := grown_trans (grown_trans (unhide GX7) (grown_drewN _ 1)) g8
              have GX8 := hide gx8
              have hd := unhide HD W8 gx8
              clear gx8 g8 y0 y1 y2 y3 y4 y5 y6 y7 z0 z1 z2 z3 z4 z5 z6 z7 GX7 B7
              go_wp2_with fail
              refine hd.mono ?_
              rintro e W9 ⟨rfl, g9⟩
              clear hd
              go_wp2_with fail
              go_ret
              exact ⟨rfl, unhide END _ (grown_trans (unhide GX8) g9)⟩
            · have hd := unhide HD W6 (unhide GX6)
              go_wp2_with fail
              refine hd.mono ?_
              rintro e W7 ⟨rfl, g7⟩
              go_wp2_with fail
              go_ret
              exact ⟨rfl, unhide END _ (grown_trans (unhide GX6) g7)⟩
      · have hkI : (k : Int) < (len : Int) := by omega
        have hk15 : ¬ (k : Int) < 500 := by omega
        go_wp2_with fail
        refine hV.mono ?_
        rintro e W1 ⟨rfl, g1⟩
        obtain ⟨WB, hWB⟩ : ∃ WB, WB = W1.alloc (.cells #[.bool true, .int .i64 l.ne, .int .i64 l.la, .int .i64 l.ls, .int .i64 (-1), .int .i64 F, .int .i64 M, .int .i64 V] 44) := ⟨_, rfl⟩
        have g1B : W1.grownBy WB none := by rw [hWB]; exact grown_alloc _ _
        have bB : Blk WB W1.heap.size #[.bool true, .int .i64 l.ne, .int .i64 l.la, .int .i64 l.ls, .int .i64 (-1), .int .i64 F, .int .i64 M, .int .i64 V] 44 := by rw [hWB]; exact Blk.new _ _ _
        obtain ⟨bx, hbx⟩ : ∃ bx, bx = W1.heap.size := ⟨_, rfl⟩
        rw [← hbx] at bB
        have gB := grown_trans g1 g1B
        have BL : Calls Try.prog 11 #[.int .i64 l.ne, .slice ra rn rc] WB fun e Y => ∃ v, e = .returned v ∧ Row Y v (rs.map (belowF l.ne)) ∧ Fresh WB v ∧ WB.grownBy Y none := below_any l.ne ra rn rc rs WB (unhide HR).2.2 (by have := unhide HR; omega) (rds_of ((unhide HR).1.kept fun hx b off e => by
          have hj := (unhide HR).1.lt hx b off e
          have := (unhide GA).size
          have lm := (unhide LM0).1.grown gB
          exact (lm.kp.block b (by omega) (by omega)).trans ((unhide GA).block b hj (by simp))))
        have c4 : WB.cell? ⟨lw, 4, none⟩ = some (.int .i64 l.ne) := ((unhide LM0).1.grown gB).lw_.ld.cell 4 _ rfl
        have GB := hide (And.intro gB bB)
        clear hV g1 g1B gB bB
        go_upto_region 15 with fail
        rw [← hWB, ← hbx]
        replace hWB := hide hWB
        replace hbx := hide hbx
        go_wp2_with fail
        refine BL.mono ?_
        rintro e W2 ⟨v, rfl, hrow, hfr, g2⟩
        have c4 := cell_grown c4 g2
        have G2 := hide g2
        have HROW := hide (And.intro hrow hfr)
        obtain ⟨ia, ic, rfl, rd⟩ := rds_row hrow
        have e1 : (rs.map (belowF l.ne)).length = rn := by rw [List.length_map]; exact (unhide HR).2.2.symm
        rw [e1] at HROW ⊢
        obtain ⟨L, hL⟩ : ∃ L, L = rs.map (belowF l.ne) := ⟨_, rfl⟩
        rw [← hL] at HROW rd
        have RD := hide rd
        have LL : Hid (L.length = rn) := by show L.length = rn; rw [hL]; exact e1
        clear BL g2 hrow hfr rd e1 hL
        have DONE : Hid (∀ W, W2.grownBy W none → w.grownBy W none) := fun W g => by
          have lm := (unhide LM0).1.grown (grown_trans (grown_trans (unhide GB).1 (unhide G2)) g)
          exact grown_trans (unhide GA) ⟨lm.kp.os, lm.kp.tape, lm.kp.output, lm.kp.size, fun x hx _ => lm.kp.block x hx (fun e => by omega)⟩
        have rnI : ¬ (9223372036854775807 : Int) < (rn : Int) := by have := unhide HR; omega
        go_wp2_with fail
        go_loopw [17] (fun iv wr => ∃ j : Nat, j ≤ rn ∧ iv = .int .i64 j ∧ Hid (W2.grownBy wr none ∧ ∀ i r, i < j → L[i]? = some r → r.1 ≤ r.2 ∧ 0 ≤ r.1)) (fun iv _ => rn - (intOf iv).toNat)
        case atStart => exact ⟨0, Nat.zero_le _, rfl, World.grownBy.refl _ none, fun i r h => by omega⟩
        case round =>
          obtain ⟨j, hj, rfl, I2⟩ := hrel
          by_cases hjl : j < rn
          · have hjI : (j : Int) < (rn : Int) := by omega
            have hj0 : (0 : Int) ≤ (j : Int) := by omega
            obtain ⟨gj, okj⟩ := unhide I2
            obtain ⟨r, hr⟩ : ∃ r, L[j]? = some r := ⟨_, List.getElem?_eq_getElem (by rw [unhide LL]; exact hjl)⟩
            obtain ⟨ig, io, rfl, hc⟩ : ∃ g off, ia = some ⟨g, off, none⟩ ∧ ∀ (i : Nat) (r : Sp), L[i]? = some r → W2.cell? ⟨g, off + i * 2, none⟩ = some (.int .i64 r.1) ∧ W2.cell? ⟨g, off + i * 2 + 1, none⟩ = some (.int .i64 r.2) := by
              rcases unhide RD with e | h
              · rw [e] at hr; simp at hr
              · exact h
            obtain ⟨lo, hi⟩ := r
            obtain ⟨q0, q1⟩ := hc j _ hr
            replace q0 := cell_grown q0 gj
            replace q1 := cell_grown q1 gj
            simp only at q0 q1
            have GJ := hide gj
            have NX : Hid (¬ hi < lo → ¬ lo < 0 → ∀ i r, i < j + 1 → L[i]? = some r → r.1 ≤ r.2 ∧ 0 ≤ r.1) := fun h1 h2 i r hi2 hr2 => by
              by_cases c : i = j
              · subst c
                rw [hr] at hr2
                obtain rfl := Option.some.inj hr2
                exact ⟨by omega, by omega⟩
              · exact okj i r (by omega) hr2
            clear hc gj okj hr I2
            have GJ2 := hide (grown_drew' (unhide GJ))
            by_cases c1 : hi < lo
            · clear NX
              go_upto_region 19 with fail
              go_region
              all_goals go_wp2_with fail
              all_goals go_ret
              all_goals exact ⟨rfl, unhide DONE _ (unhide GJ2)⟩
            · by_cases c2 : lo < 0
              · clear NX
                go_upto_region 19 with fail
                go_region
                all_goals go_wp2_with fail
                all_goals go_ret
                all_goals exact ⟨rfl, unhide DONE _ (unhide GJ2)⟩
              · have NX2 := hide (unhide NX c1 c2)
                clear NX
                go_upto_region 19 with fail
                go_region
                all_goals go_wp2_with fail
                all_goals exact ⟨⟨j + 1, hjl, by go_num, unhide GJ2, unhide NX2⟩, by simp [intOf]; omega⟩
          · obtain rfl : j = rn := by omega
            have hjI : ¬ (j : Int) < (j : Int) := by omega
            obtain ⟨gj, okj⟩ := unhide I2
            have c4 := cell_grown c4 gj
            have OKL : Hid (∀ r ∈ L, r.1 ≤ r.2 ∧ 0 ≤ r.1) := fun r hr => by
              obtain ⟨i, hi⟩ := List.getElem?_of_mem hr
              exact okj i r (by rw [← unhide LL]; exact (List.getElem?_eq_some_iff.1 hi).1) hi
            have nb : 0 ≤ l.ne ∧ l.ne ≤ 2305843009213694451 := by
              have h1 := (unhide LM0).1.lw_.ok.ne
              have h2 := (unhide LM0).1.ne
              have h3 := unhide HF
              omega
            have wb : IntKind.i64.wrap (l.ne + x) = l.ne + x := by rw [IntKind.wrap_i64]; omega
            have GJ := hide gj
            clear I2 gj okj
            obtain ⟨x00, x01⟩ := x0
            have nlt : ¬ l.ne + x < l.ne := by omega
            have gj := unhide GJ
            have hrw : Row wr (.slice ia j ic) L := row_kept (unhide HROW).1 fun g e => gj.block g (row_lt (unhide HROW).1 g e) (by simp)
            have gA := grown_alloc wr (.cells #[.int .i64 (min (l.ne + x) l.ne), .int .i64 (l.ne + x)] 48)
            have bA : Blk (wr.alloc (.cells #[.int .i64 (min (l.ne + x) l.ne), .int .i64 (l.ne + x)] 48)) wr.heap.size #[.int .i64 (min (l.ne + x) l.ne), .int .i64 (l.ne + x)] 48 := Blk.new _ _ _
            have hrA : Row (wr.alloc (.cells #[.int .i64 (min (l.ne + x) l.ne), .int .i64 (l.ne + x)] 48)) (.slice ia j ic) L := row_kept hrw fun g e => gA.block g (row_lt hrw g e) (by simp)
            obtain ⟨v', W4, hap, hr', hmv, -⟩ := app2 _ _ _ [(min (l.ne + x) l.ne, l.ne + x)] 37 hrA ⟨wr.heap.size, 0, none⟩ 1 (fun j u hj => by
              rw [Addr.add_lit, Nat.zero_add]
              refine bA.cell j u ?_
              simpa [cl] using hj) (by simp) (by rw [unhide LL]; simp; have := unhide HR; omega)
            obtain ⟨gW, -⟩ := Moved.fresh (grown_trans (grown_trans (unhide G2) gj) gA) (unhide HROW).2 hmv
            obtain ⟨a4, k4, rfl, -⟩ := rds_row hr'
            have e4 : (L ++ [(min (l.ne + x) l.ne, l.ne + x)]).length = j + 1 := by rw [List.length_append, unhide LL]; rfl
            have MA : l.mayAck (L ++ [(min (l.ne + x) l.ne, l.ne + x)]) = 130 := ack_far (unhide OKL) (by omega) (by omega) (.inl (by omega)) (unhide LM0).2.1
            have AK := ack_bad b q kv va l R W4 _ _ ((unhide LM0).1.grown (grown_trans (unhide GB).1 gW)).lw_.lg hr' (by rw [e4]; have := unhide HR; omega) (by rw [MA]; decide)
            rw [MA, e4] at AK
            rw [e4] at hap
            have gx := grown_trans (unhide GB).1 gW
            have GX := hide gx
            have bx4 := (unhide GB).2.grown gW
            have HAP := hide hap
            have B4 := hide bx4
            clear gj hrw gA bA hrA hr' hmv gW e4 MA hap bx4 gx
            go_wp2_with (at_builtin; refine wpList_append_run _ rfl _ _ 37 37 rfl (.slice ia j ic) (.slice (some ⟨wr.heap.size, 0, none⟩) 1 1) rfl rfl (unhide HAP) ?_)
            refine AK.mono ?_
            rintro e W5 ⟨rfl, g5⟩
            have gx := grown_trans (unhide GX) g5
            have hV := unhide VW W5 gx
            have b5 := (unhide B4).grown g5
            have GX5 := hide gx
            have B5 := hide b5
            obtain ⟨z0, z1, z2, z3, z4, z5, z6, z7⟩ := cells8 b5
            clear AK HAP GX B4 g5 gx b5 c4 hV
            go_upto_region 25 with fail
            go_region_held3 (fun W => W.cell? ⟨bx, 0, none⟩ = some (.bool true) ∧ W.cell? ⟨bx, 1, none⟩ = some (.int .i64 l.ne) ∧ W.cell? ⟨bx, 2, none⟩ = some (.int .i64 l.la) ∧ W.cell? ⟨bx, 3, none⟩ = some (.int .i64 l.ls) ∧ W.cell? ⟨bx, 4, none⟩ = some (.int .i64 (-1)) ∧ W.cell? ⟨bx, 5, none⟩ = some (.int .i64 F) ∧ W.cell? ⟨bx, 6, none⟩ = some (.int .i64 M) ∧ W.cell? ⟨bx, 7, none⟩ = some (.int .i64 V)) (go_keep) (first | (go_at_call 10; refine (unhide VW _ (grown_trans (unhide GX5) (grown_drewN _ 1))).mono ?_; rintro e W6 ⟨rfl, g6⟩; obtain ⟨y0, y1, y2, y3, y4, y5, y6, y7⟩ := cells8 (((unhide B5).grown (grown_drewN _ 1)).grown g6)))
            have gx6 := grown_trans (grown_trans (unhide GX5) (grown_drewN _ 1)) g6
            have b6 := ((unhide B5).grown (grown_drewN _ 1)).grown g6
            have GX6 := hide gx6
            have B6 := hide b6
            have HD : Hid (∀ W, wq.grownBy W none → Calls Try.prog 9 #[.pointer (some ⟨lw, 0, none⟩)] W fun e w' => e = .returned (.bool true) ∧ W.grownBy w' none) := fun W g => holds_any W ((unhide LM0).1.grown g).lw_ (by have := (unhide LM0).1.tl; omega)
            have END : Hid (∀ W, wq.grownBy W none → w.grownBy W none) := fun W g => by
              have lm := (unhide LM0).1.grown g
              exact grown_trans (unhide GA) ⟨lm.kp.os, lm.kp.tape, lm.kp.output, lm.kp.size, fun x hx _ => lm.kp.block x hx (fun e => by omega)⟩
            clear gx6 b6 g6 y0 y1 y2 y3 y4 y5 y6 y7 z0 z1 z2 z3 z4 z5 z6 z7 GX5 B5
            by_cases fp : 0 < f
            · have f0 : ¬ f = 0 := by omega
              obtain ⟨mm, hmm⟩ : ∃ mm, mm = x.tmod f := ⟨_, rfl⟩
              have m0 : 0 ≤ mm := by rw [hmm]; exact Int.tmod_nonneg _ x00
              have m1 : mm < f := by rw [hmm]; exact Int.tmod_lt_of_pos _ fp
              have AK2 : Hid (∀ W, W6.grownBy W none → Calls Try.prog 12 #[.pointer (some ⟨b, 0, none⟩), .slice (some ⟨W.heap.size, 0, none⟩) 1 1] (W.alloc (.cells #[.int .i64 mm, .int .i64 mm] 48)) fun e w' => e = .returned (.tuple #[.slice none 0 0, .int .i64 130]) ∧ (W.alloc (.cells #[.int .i64 mm, .int .i64 mm] 48)).grownBy w' none) := fun W g => by
                have MA : l.mayAck [(mm, mm)] = 130 := ack_far (L := []) (by simp) (by omega) m0 (.inr (by have := (unhide LM0).2.2; omega)) (unhide LM0).2.1
                have := ack_bad b q kv va l R (W.alloc (.cells #[.int .i64 mm, .int .i64 mm] 48)) _ [(mm, mm)] ((unhide LM0).1.grown (grown_trans (grown_trans (unhide GX6) g) (grown_alloc _ _))).lw_.lg (row_one W mm mm) (by simp) (by rw [MA]; decide)
                rw [MA] at this
                exact this
              have HMM := hide (And.intro m0 m1)
              clear m0 m1
              obtain ⟨z0, -⟩ := cells8 (unhide B6)
              have z0A : ∀ v, (W6.alloc v).cell? ⟨bx, 0, none⟩ = some (.bool true) := fun v => cell_grown z0 (grown_alloc _ _)
              go_wp2_with fail
              go_region_held3 (fun W => W.cell? ⟨bx, 0, none⟩ = some (.bool true)) (go_keep) (first | (go_at_call 12; rw [← hmm]; refine (unhide AK2 _ (grown_drewN _ 1)).mono ?_; rintro e W7 ⟨rfl, g7⟩; obtain ⟨y0, -⟩ := cells8 ((((unhide B6).grown (grown_drewN _ 1)).grown (grown_alloc _ _)).grown g7)))
              have gx7 := grown_trans (grown_trans (grown_trans (unhide GX6) (grown_drewN _ 1)) (grown_alloc _ _)) g7
              have b7 := (((unhide B6).grown (grown_drewN _ 1)).grown (grown_alloc _ _)).grown g7
              have GX7 := hide gx7
              have B7 := hide b7
              clear z0 z0A y0
              obtain ⟨z0, z1, z2, z3, z4, z5, z6, z7⟩ := cells8 b7
              clear gx7 b7 g7 AK2 hmm GX6 B6
              go_wp2_with fail
              go_region_held3 (fun W => W.cell? ⟨bx, 0, none⟩ = some (.bool true) ∧ W.cell? ⟨bx, 1, none⟩ = some (.int .i64 l.ne) ∧ W.cell? ⟨bx, 2, none⟩ = some (.int .i64 l.la) ∧ W.cell? ⟨bx, 3, none⟩ = some (.int .i64 l.ls) ∧ W.cell? ⟨bx, 4, none⟩ = some (.int .i64 (-1)) ∧ W.cell? ⟨bx, 5, none⟩ = some (.int .i64 F) ∧ W.cell? ⟨bx, 6, none⟩ = some (.int .i64 M) ∧ W.cell? ⟨bx, 7, none⟩ = some (.int .i64 V)) (go_keep) (first | (go_at_call 10; refine (unhide VW _ (grown_trans (unhide GX7) (grown_drewN _ 1))).mono ?_; rintro e W8 ⟨rfl, g8⟩; obtain ⟨y0, y1, y2, y3, y4, y5, y6, y7⟩ := cells8 (((unhide B7).grown (grown_drewN _ 1)).grown g8)))
              have gx8 := grown_trans (grown_trans (unhide GX7) (grown_drewN _ 1)) g8
              have GX8 := hide gx8
              have hd := unhide HD W8 gx8
              clear gx8 g8 y0 y1 y2 y3 y4 y5 y6 y7 z0 z1 z2 z3 z4 z5 z6 z7 GX7 B7
              go_wp2_with fail
              refine hd.mono ?_
              rintro e W9 ⟨rfl, g9⟩
              clear hd
              go_wp2_with fail
              go_ret
              exact ⟨rfl, unhide END _ (grown_trans (unhide GX8) g9)⟩
            · have hd := unhide HD W6 (unhide GX6)
              go_wp2_with fail
              refine hd.mono ?_
              rintro e W7 ⟨rfl, g7⟩
              go_wp2_with fail
              go_ret
              exact ⟨rfl, unhide END _ (grown_trans (unhide GX6) g7)⟩
end Go.Proofs.Ytnflbefbgcbdfaa

namespace Go.Proofs.Ytnflbefbgcbdfaa
open Go.RowKit
set_option linter.unusedVariables false
set_option maxRecDepth 100000
section
variable {H : Type} {enc : TypeId × Value → H} {w : World} {base : Nat} {held : Bool}
theorem far_open {v : Value} {r : Reach} {b0 : Nat} (hv : Value.okWide Try.prog w r b0 42 v) {d : DataW H} {ps : List MemPlace} (hd : DataW.Trod enc Try.prog w base (fun _ => true) held 42 v d ps) (hM : Rows.uptoBulk d ≤ 1048576) :
    ∃ (a : Option Addr) (c : Nat) (rs : List Sp) (y : Int), v = .agg #[.slice a rs.length c, .int .i64 y] ∧ RdV w a (rs.map spc).flatten ∧ rs.length ≤ 1048576 := by
  have cP : Try.prog.cellsOf 42 = 2 := by kernel_rfl
  have cR : Try.prog.cellsOf 37 = 1 := by kernel_rfl
  have cI : Try.prog.cellsOf 2 = 1 := by kernel_rfl
  simp only [Value.okWide, Try.underlying42] at hv
  obtain ⟨cs, rfl, hs, -⟩ := hv
  rw [cP] at hs
  obtain ⟨fuel, hf⟩ := hd
  obtain ⟨cs⟩ := cs
  match cs, hs with
  | [v0, v1], _ =>
    have hf' : DataW.trod enc Try.prog w base (fun _ => true) held fuel 42 [v0, v1] = some (d, ps) := by simpa [Value.cells] using hf
    obtain ⟨xs, m, -, hx, -, hxl, hff⟩ := DataW.trod_struct Try.underlying42 hf'
    match xs, hxl with
    | [y0, y1], _ =>
      have f0 := hff 0 _ rfl
      have f1 := hff 1 _ rfl
      simp [cR, cI] at f0 f1
      obtain ⟨a1, e1, -⟩ := DataW.trod_int Try.underlying2 f1
      simp only [List.map_cons, List.map_nil, Prod.mk.injEq] at hx
      obtain ⟨rfl, -⟩ := hx
      have hy : Rows.uptoBulk (.agg [y0.1, y1.1]) = Rows.uptoBulkAll [y0.1, y1.1] + 1 := by rw [Rows.uptoBulk]
      have m0 : Rows.uptoBulk y0.1 ≤ 1048576 := by
        have := bulk_among (d := y0.1) (l := [y0.1, y1.1]) (by simp)
        omega
      obtain ⟨ra, rl, rc, rs, e0, r0, -, q0, t0⟩ := spans_open f0 m0
      simp only [List.cons.injEq, and_true] at e0 e1
      subst e0 e1 r0
      exact ⟨ra, rc, rs, a1, rfl, q0, t0⟩
end
end Go.Proofs.Ytnflbefbgcbdfaa

namespace Go.Proofs.Ytnflbefbgcbdfaa
open Go.ChangeShapes Go.WideShapes Go.ChangeAt Go.RowKit
set_option linter.unusedVariables false
set_option maxRecDepth 100000

namespace ledgerNeverFrame

theorem own : ownKnob Try.prog.godebug = none := by kernel_rfl
theorem laidOut : laidOutB Try.prog = true := by kernel_rfl

set_option maxRecDepth 100000 in
theorem lifted (os : Os) (started : os.Started) (H : Type) (enc : TypeId × Value → H) (F : Stop.Interp) :
    ReturnsInHanded {} Try.checked os 4 .any ((Rows.OpenSpec.upto Rows.ledgerNeverSpec).pre6 enc Try.prog Try.f4 Rows.ledgerNeverUptoRow.domain false) (((Rows.OpenSpec.upto Rows.ledgerNeverSpec).at F).post enc Try.prog Try.f4 false true false false) := by
  refine returnsInHanded_of_cond_sized (C := Try.checked) (s := Rows.OpenSpec.upto Rows.ledgerNeverSpec) (k := Rows.uptoSmall) rfl own started (by kernel_rfl) Try.func4
    (OpenSpec.witness (enc := enc) (C := Try.checked) (s := Rows.OpenSpec.upto Rows.ledgerNeverSpec) (k := Rows.uptoSmall) rfl false ⟨#[], #[.int .i64 0, .slice none 0 0, .agg #[.slice none 0 0, .int .i64 0]], []⟩ 8 (by kernel_rfl) (by kernel_rfl) (by kernel_rfl)
      (x := ([.lit (.int .i64 0), .nil, .agg [.nil, .lit (.int .i64 0)]], [], [])) (by kernel_rfl) rfl (by kernel_rfl)) ?_
  intro W base args ds gs before hval0 hW hcnd hk hsz0 _
  have hsz : (DataW.weightsEach Try.prog (Try.f4.params.toList ++ (Rows.OpenSpec.upto Rows.ledgerNeverSpec).bare.plain.varTypes Try.prog) (ds ++ gs)).all (· ≤ reachBytes) = true := hsz0
  have hval : ∀ (j : Nat) t v, Try.f4.params[j]? = some t → args[j]? = some v → Value.okWide Try.prog W .any base t v := hval0
  have hW' := hW
  obtain ⟨p, q, hA0, hV, rfl, hfz, hnd⟩ := hW
  have hA : DataW.TrodAll enc Try.prog W 0 (fun _ => true) true Try.f4.params.toList args.toList ds p := hA0
  rw [Try.params4] at hA hval hsz
  obtain ⟨v0, vs0, d0, ds0, p0, q0, hargs, rfl, rfl, h0, r0⟩ := trodAll_cons hA
  obtain ⟨v1, vs1, d1, ds1, p1, q1, rfl, rfl, rfl, h1, r1⟩ := trodAll_cons r0
  obtain ⟨v2, vs2, d2, ds2, p2, q2, rfl, rfl, rfl, h2, r2⟩ := trodAll_cons r1
  obtain ⟨rfl, rfl, rfl⟩ := trodAll_nil r2
  obtain rfl : args = #[v0, v1, v2] := by cases args; simp_all
  obtain ⟨rfl, rfl⟩ := trodVars_none hV
  have k0 := h0
  have lt0 : ∀ x ∈ p0, x.block < W.heap.size := by obtain ⟨m, hm⟩ := k0; exact DataW.trod_lt m _ _ _ hm
  obtain ⟨a0, rfl, rfl, rfl, w0⟩ := open_int Try.underlying2 (hval 0 2 v0 rfl rfl) h0
  have k1 := h1
  have lt1 : ∀ x ∈ p1, x.block < W.heap.size := by obtain ⟨m, hm⟩ := k1; exact DataW.trod_lt m _ _ _ hm
  obtain ⟨a1, len1, cap1, rfl⟩ := okWide_slice Try.underlying22 (hval 1 22 v1 rfl rfl)
  obtain ⟨ol1, w1, b1, c1⟩ : ∃ ol, IsOpL W a1 len1 ol ∧ len1 ≤ 1048576 ∧ (len1 ≤ cap1 ∧ cap1 ≤ 9223372036854775807) := by
    obtain ⟨fuel, hf⟩ := h1
    exact opls_open (y := (d1, p1)) (by simpa [Value.cells] using hf) (bulk_mem hk (d := d1) (by simp))
  have k2 := h2
  have lt2 : ∀ x ∈ p2, x.block < W.heap.size := by obtain ⟨m, hm⟩ := k2; exact DataW.trod_lt m _ _ _ hm
  obtain ⟨ra2, rc2, fr2, by2, rfl, fo2, fl2⟩ := far_open (hval 2 42 v2 rfl rfl) h2 (bulk_mem hk (d := d2) (by simp))
  clear hA0 hval0
  refine (never_walk a0 a1 len1 cap1 ol1 W w1 b1 ra2 rc2 fr2 by2 fo2 fl2).mono fun e W' ⟨he, gr⟩ => ?_
  have bel : Below W.heap.size W W' := (Below.refl _ W).grown gr (Nat.le_refl _) (fun k hk => by cases hk)
  subst he
  exact ⟨_, rfl, _, _, _, [], _, [], hW', trodAll_mk1 (shut_bool Try.underlying4 _), (trodAll_cons_mk (shut_int Try.underlying2 w0) (trodAll_cons_mk (Below.trod laidOut (by kernel_rfl) (of_decide_eq_true (by kernel_rfl)) k1 bel lt1) (trodAll_cons_mk (Below.trod laidOut (by kernel_rfl) (of_decide_eq_true (by kernel_rfl)) k2 bel lt2) trodAll_mk0))), rfl, bel.frame _, fun h => by cases h⟩

theorem over : Rows.ledgerNeverUptoRow.holds Try.pinned (Rows.OpenSpec.upto Rows.ledgerNeverSpec) :=
  OpenClaim.holds_of_cond 4 Try.f4 rfl rfl rfl rfl rfl rfl rfl ⟨rfl, rfl, rfl, rfl, rfl⟩ rfl rfl rfl rfl rfl (by kernel_rfl) Try.func4 (by kernel_rfl)
    (of_decide_eq_true (by kernel_rfl)) (by unfold Func.isWrapper; first | (rw [if_pos (by decide +kernel)]; kernel_rfl) | (rw [if_neg (by decide +kernel)]; exact ⟨rfl, rfl⟩))
    (fun os started H enc _ F => lifted os started H enc F)
end ledgerNeverFrame

/-- THE STATEMENT -/
theorem ledgerNever_holds : Rows.LedgerNeverUptoSaid := ledgerNeverFrame.over
end Go.Proofs.Ytnflbefbgcbdfaa
