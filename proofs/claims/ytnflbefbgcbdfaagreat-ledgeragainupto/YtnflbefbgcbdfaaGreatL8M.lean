/- BK, L0Q, L0R, one text. -/
import Derived.Test.YtnflbefbgcbdfaaGreatRows
import Derived.Test.YtnflbefbgcbdfaaGreatL8D
import Derived.Test.YtnflbefbgcbdfaaGreatL8K
import Derived.ProofKit
import Derived.OpenShut
import Derived.ShutString
import Derived.ChangeOld
import Derived.SizedLaws
import Derived.Deep.Slices
namespace Go.Proofs.YtnflbefbgcbdfaaGreat
set_option maxRecDepth 100000

theorem bulk_pos {H : Type} (d : DataW H) : 0 < Rows.uptoBulk d := by
  cases d with
  | lit l => cases l <;> simp [Rows.uptoBulk]
  | _ => simp [Rows.uptoBulk]

theorem bulk_count {H : Type} : ∀ l : List (DataW H), l.length ≤ Rows.uptoBulkAll l
  | [] => Nat.zero_le _
  | d :: r => by
    have h1 := bulk_pos d
    have h2 := bulk_count r
    simp only [Rows.uptoBulkAll, List.length_cons]
    omega

theorem bulk_slice {H : Type} (e s : List (DataW H)) : e.length + s.length < Rows.uptoBulk (.slice e s) := by
  have h1 := bulk_count e
  have h2 := bulk_count s
  simp only [Rows.uptoBulk]
  omega

theorem bulk_among {H : Type} {d : DataW H} : ∀ {l : List (DataW H)}, d ∈ l → Rows.uptoBulk d ≤ Rows.uptoBulkAll l
  | x :: r, h => by
    simp only [Rows.uptoBulkAll]
    rcases List.mem_cons.1 h with e | e
    · subst e; omega
    · have := bulk_among e; omega

theorem bulk_mem {H : Type} {d : DataW H} {l : List (DataW H)} (hk : Rows.uptoSmall H l = true) (h : d ∈ l) : Rows.uptoBulk d ≤ 1048576 := by
  have h1 : Rows.uptoBulkAll l ≤ 1048576 := of_decide_eq_true hk
  have h2 := bulk_among h
  omega
end Go.Proofs.YtnflbefbgcbdfaaGreat

namespace Go.Proofs.YtnflbefbgcbdfaaGreat
open Go.ChangeShapes Go.WideShapes Go.ChangeAt Go.RowKit
set_option linter.unusedVariables false
set_option linter.unusedSimpArgs false
set_option maxRecDepth 100000
set_option maxHeartbeats 1000000

theorem list_gen {α : Type} {P : Nat → α → Prop} : ∀ n : Nat, (∀ i, i < n → ∃ x, P i x) → ∃ l : List α, l.length = n ∧ ∀ i x, l[i]? = some x → P i x
  | 0, _ => ⟨[], rfl, fun i x h => by simp at h⟩
  | n + 1, h => by
    obtain ⟨l, hl, hP⟩ := list_gen n (fun i hi => h i (by omega))
    obtain ⟨x, hx⟩ := h n (by omega)
    refine ⟨l ++ [x], by simp [hl], fun i y hy => ?_⟩
    by_cases c : i < n
    · rw [List.getElem?_append_left (by omega)] at hy
      exact hP i y hy
    · have hi : i < (l ++ [x]).length := (List.getElem?_eq_some_iff.1 hy).1
      simp [hl] at hi
      obtain rfl : i = n := by omega
      rw [List.getElem?_append_right (by omega), hl] at hy
      simp at hy
      subst hy
      exact hx
theorem add_0 (ad : Addr) : ad.add 0 = ad := by simp [Addr.add]
theorem spot_none {w : World} {ad : Addr} {v : Value} (h : w.cell? ad = some v) : ad.spot = none := by
  unfold World.cell? at h
  split at h
  · split at h
    · cases h
    · rename_i hsp
      simpa using hsp
  · cases h

section
variable {H : Type} {enc : TypeId × Value → H} {w : World} {base : Nat} {spare : Nat → Bool} {held : Bool}

/-- A list that came in, whatever its elements are. -/
theorem row_open {t e : TypeId} {sz M : Nat} (ht : Tryz.prog.underlying t = some (.slice e)) (hc : Tryz.prog.cellsOf e = sz) (hsz : 0 < sz) {α : Type} (cl : α → List Value) (Ok : α → Prop)
    (hone : ∀ (n : Nat) (cs : List Value) (d : DataW H × List MemPlace), cs.length = sz → DataW.trod enc Tryz.prog w base spare held n e cs = some d → Rows.uptoBulk d.1 ≤ M → ∃ x, cl x = cs ∧ Ok x)
    {n : Nat} {v : Value} {y : DataW H × List MemPlace} (h : DataW.trod enc Tryz.prog w base spare held n t [v] = some y) (hM : Rows.uptoBulk y.1 ≤ M) :
    ∃ (a : Option Addr) (l c : Nat) (xs : List α), v = .slice a l c ∧ xs.length = l ∧ (l ≤ c ∧ c ≤ 9223372036854775807) ∧ RdV w a (xs.map cl).flatten ∧ (∀ x ∈ xs, Ok x ∧ (cl x).length = sz) ∧ l ≤ M := by
  rcases Go.Deep.open_slice ht h with ⟨hcs, _⟩ | ⟨ad, l, c, m, nn, D, Pl, hcs, _, hl, hm, hmm, hxe, hx⟩
  · simp at hcs
    subst hcs
    exact ⟨none, 0, 0, [], rfl, rfl, by omega, rdv_nil _ _, fun x hx => by (cases hx), Nat.zero_le _⟩
  · simp at hcs
    subst hcs
    have hlm : l ≤ m := by rw [hmm]; split <;> omega
    have hx1 : y.1 = .slice ((List.range l).map D) ((List.range (m - l)).map fun j => D (l + j)) := by rw [hxe]
    have hy : Rows.uptoBulkAll ((List.range l).map D) ≤ M := by
      rw [hx1] at hM
      simp only [Rows.uptoBulk] at hM
      omega
    have hlM : l ≤ M := by
      have := bulk_count ((List.range l).map D)
      simp only [List.length_map, List.length_range] at this
      omega
    have each : ∀ i, i < l → ∃ x : α, (Ok x ∧ (cl x).length = sz) ∧ ∀ j v, (cl x)[j]? = some v → w.cell? (ad.add (i * sz) |>.add j) = some v := fun i hi => by
      obtain ⟨cs', h1, h2⟩ := hx i (by omega)
      rw [hc] at h1
      obtain ⟨_, hlen, hcell⟩ := World.cells?_some h1
      obtain ⟨x, rfl, ok⟩ := hone nn _ _ hlen h2 (Nat.le_trans (bulk_among (List.mem_map.2 ⟨i, by simpa using hi, rfl⟩)) hy)
      exact ⟨x, ⟨ok, hlen⟩, fun j v hj => by rw [hcell j (by have := (List.getElem?_eq_some_iff.1 hj).1; rw [hlen] at this; exact this)]; exact hj⟩
    obtain ⟨xs, hxs, hP⟩ := list_gen l each
    refine ⟨_, l, c, xs, rfl, hxs, ⟨hl, by unfold maxLen at hm; omega⟩, ?_, fun x hx => ?_, hlM⟩
    · by_cases h0 : l = 0
      · have : xs = [] := List.length_eq_zero_iff.1 (by omega)
        subst this
        exact rdv_nil _ _
      · right
        obtain ⟨x, ⟨ok, hlx⟩, hcx⟩ := each 0 (by omega)
        have hs : ad.spot = none := by
          have := hcx 0 _ (List.getElem?_eq_getElem (by rw [hlx]; exact hsz))
          rw [Nat.zero_mul, add_0, add_0] at this
          exact spot_none this
        obtain ⟨bb, off, sp⟩ := ad
        simp only at hs
        subst hs
        refine ⟨bb, off, rfl, fun j v hj => ?_⟩
        have hall : ∀ c ∈ xs.map cl, c.length = sz := fun c hc => by
          obtain ⟨x, hx, rfl⟩ := List.mem_map.1 hc
          obtain ⟨i, hi⟩ := List.getElem?_of_mem hx
          exact (hP i x hi).1.2
        have ej : j = (j / sz) * sz + j % sz := by rw [Nat.mul_comm]; exact (Nat.div_add_mod j sz).symm
        rw [ej, flat_get sz _ _ _ hall (Nat.mod_lt _ hsz), List.getElem?_map] at hj
        cases hxj : xs[j / sz]? with
        | none => rw [hxj] at hj; simp at hj
        | some x =>
          rw [hxj] at hj
          have := (hP (j / sz) x hxj).2 (j % sz) v (by simpa using hj)
          simp only [Addr.add_lit] at this
          rw [ej, ← Nat.add_assoc]
          exact this
    · obtain ⟨i, hi⟩ := List.getElem?_of_mem hx
      exact (hP i x hi).1

theorem flat_one {α : Type} (f : α → Value) (xs : List α) : (xs.map (fun x => [f x])).flatten = xs.map f := by
  induction xs with
  | nil => rfl
  | cons x xs ih => simp only [List.map_cons, List.flatten_cons, ih]; rfl
theorem ints_open {n M : Nat} {v : Value} {y : DataW H × List MemPlace} (h : DataW.trod enc Tryz.prog w base spare held n 48 [v] = some y) (hM : Rows.uptoBulk y.1 ≤ M) :
    ∃ a l c, ∃ ms : List Int, v = .slice a l c ∧ ms.length = l ∧ (l ≤ c ∧ c ≤ 9223372036854775807) ∧ RdV w a (ints ms) ∧ l ≤ M := by
  have c1 : Tryz.prog.cellsOf 2 = 1 := by kernel_rfl
  obtain ⟨a, l, c, xs, e1, e2, e3, e4, -, e6⟩ := row_open Tryz.underlying48 c1 (by omega) (fun x : Int => [Value.int .i64 x]) (fun _ => True) (fun n cs d hcs h2 _ => by
    obtain ⟨z, e, -⟩ := DataW.trod_int Tryz.underlying2 h2
    exact ⟨z, e.symm, trivial⟩) h hM
  rw [flat_one] at e4
  exact ⟨a, l, c, xs, e1, e2, e3, e4, e6⟩
theorem bytes_open {n M : Nat} {v : Value} {y : DataW H × List MemPlace} (h : DataW.trod enc Tryz.prog w base spare held n 127 [v] = some y) (hM : Rows.uptoBulk y.1 ≤ M) :
    ∃ a l c, ∃ ms : List Int, v = .slice a l c ∧ ms.length = l ∧ RdV w a (ms.map (Value.int .u8)) ∧ l ≤ M := by
  have c1 : Tryz.prog.cellsOf 5 = 1 := by kernel_rfl
  obtain ⟨a, l, c, xs, e1, e2, e3, e4, -, e6⟩ := row_open Tryz.underlying127 c1 (by omega) (fun x : Int => [Value.int .u8 x]) (fun _ => True) (fun n cs d hcs h2 _ => by
    obtain ⟨z, e, -⟩ := DataW.trod_int Tryz.underlying5 h2
    exact ⟨z, e.symm, trivial⟩) h hM
  rw [flat_one] at e4
  exact ⟨a, l, c, xs, e1, e2, e4, e6⟩
abbrev spc (r : Sp) : List Value := [.int .i64 r.1, .int .i64 r.2]
theorem spans_open {n M : Nat} {v : Value} {y : DataW H × List MemPlace} (h : DataW.trod enc Tryz.prog w base spare held n 47 [v] = some y) (hM : Rows.uptoBulk y.1 ≤ M) :
    ∃ a l c, ∃ rs : List Sp, v = .slice a l c ∧ rs.length = l ∧ (l ≤ c ∧ c ≤ 9223372036854775807) ∧ RdV w a (rs.map spc).flatten ∧ l ≤ M := by
  have c1 : Tryz.prog.cellsOf 63 = 2 := by kernel_rfl
  have c2 : Tryz.prog.cellsOf 2 = 1 := by kernel_rfl
  obtain ⟨a, l, c, xs, e1, e2, e3, e4, -, e6⟩ := row_open Tryz.underlying47 c1 (by omega) spc (fun _ => True) (fun n cs d hcs h2 _ => by
    obtain ⟨xs, m, -, hxy, -, hxl, hf⟩ := DataW.trod_struct Tryz.underlying63 h2
    match xs, hxl, cs, hcs with
    | [y0, y1], _, [v0, v1], _ =>
      have f0 := hf 0 _ rfl
      have f1 := hf 1 _ rfl
      simp [c2] at f0 f1
      obtain ⟨z0, e0, -⟩ := DataW.trod_int Tryz.underlying2 f0
      obtain ⟨z1, e1, -⟩ := DataW.trod_int Tryz.underlying2 f1
      simp only [List.cons.injEq, and_true] at e0 e1
      subst e0 e1
      exact ⟨(z0, z1), rfl, trivial⟩) h hM
  exact ⟨a, l, c, xs, e1, e2, e3, e4, e6⟩
theorem rds_of {W : World} {a : Option Addr} {rs : List Sp} (h : RdV W a (rs.map spc).flatten) : RdS W a rs := by
  rcases h with h | ⟨b, off, e, hc⟩
  · left
    cases rs with
    | nil => rfl
    | cons r rs => simp at h
  · right
    have hl : ∀ c ∈ rs.map spc, c.length = 2 := fun c hc => by
      obtain ⟨r, -, rfl⟩ := List.mem_map.1 hc
      rfl
    refine ⟨b, off, e, fun i r hi => ⟨?_, ?_⟩⟩
    · have := hc (i * 2 + 0) (.int .i64 r.1) (by rw [flat_get 2 _ _ _ hl (by omega), List.getElem?_map, hi]; rfl)
      simpa using this
    · have := hc (i * 2 + 1) (.int .i64 r.2) (by rw [flat_get 2 _ _ _ hl (by omega), List.getElem?_map, hi]; rfl)
      rw [← Nat.add_assoc] at this
      exact this
theorem arr_open {n : Nat} {cs : List Value} {d : DataW H × List MemPlace} (h : DataW.trod enc Tryz.prog w base spare held n 128 cs = some d) (hl : cs.length = 3) : ∃ x y z : Int, cs = [.int .i64 x, .int .i64 y, .int .i64 z] := by
  have c2 : Tryz.prog.cellsOf 2 = 1 := by kernel_rfl
  match cs, hl with
  | [v0, v1, v2], _ =>
    obtain ⟨u0, u1, u2, n, -, g0, g1, g2⟩ := trod_array3 Tryz.underlying128 c2 h
    obtain ⟨b0, e0, -⟩ := DataW.trod_int Tryz.underlying2 g0
    obtain ⟨b1, e1, -⟩ := DataW.trod_int Tryz.underlying2 g1
    obtain ⟨b2, e2, -⟩ := DataW.trod_int Tryz.underlying2 g2
    simp only [List.cons.injEq, and_true] at e0 e1 e2
    subst e0 e1 e2
    exact ⟨_, _, _, rfl⟩
theorem li_own {sz : Nat} {a : Option Addr} {n c : Nat} {xs : List Value} (hl : xs.length = n * sz) (h : RdV w a xs) : Li (fun b => b < w.heap.size) w sz (.slice a n c) xs := ⟨a, n, c, rfl, hl, h, fun hx b off e => h.lt hx b off e⟩

theorem frame_open {n M : Nat} {cs : List Value} {y : DataW H × List MemPlace} (hM8 : M ≤ 100000000) (hcs : cs.length = 17) (h2 : DataW.trod enc Tryz.prog w base spare held n 130 cs = some y) (hM : Rows.uptoBulk y.1 ≤ M) : ∃ t : TF, t.rs.length ≤ M ∧ FrAt (fun b => b < w.heap.size) w cs t.fr := by
  have c3 : Tryz.prog.cellsOf 3 = 1 := by kernel_rfl
  have c2 : Tryz.prog.cellsOf 2 = 1 := by kernel_rfl
  have c4 : Tryz.prog.cellsOf 4 = 1 := by kernel_rfl
  have cB : Tryz.prog.cellsOf 127 = 1 := by kernel_rfl
  have cS : Tryz.prog.cellsOf 47 = 1 := by kernel_rfl
  have cA : Tryz.prog.cellsOf 128 = 3 := by kernel_rfl
  obtain ⟨xs, m, -, hx, -, hxl, hff⟩ := DataW.trod_struct Tryz.underlying130 h2
  match cs, hcs, xs, hxl with
  | [v0, v1, v2, v3, v4, v5, v6, v7, v8, v9, v10, v11, v12, v13, v14, v15, v16], _, [y0, y1, y2, y3, y4, y5, y6, y7, y8, y9, y10, y11, y12, y13, y14], _ =>
    have f0 := hff 0 _ rfl
    have f1 := hff 1 _ rfl
    have f2 := hff 2 _ rfl
    have f3 := hff 3 _ rfl
    have f4 := hff 4 _ rfl
    have f5 := hff 5 _ rfl
    have f6 := hff 6 _ rfl
    have f7 := hff 7 _ rfl
    have f8 := hff 8 _ rfl
    have f9 := hff 9 _ rfl
    have f10 := hff 10 _ rfl
    have f11 := hff 11 _ rfl
    have f12 := hff 12 _ rfl
    have f13 := hff 13 _ rfl
    have f14 := hff 14 _ rfl
    simp [c2, c3, c4, cB, cS, cA] at f0 f1 f2 f3 f4 f5 f6 f7 f8 f9 f10 f11 f12 f13 f14
    obtain ⟨a0, e0, -⟩ := DataW.trod_int Tryz.underlying3 f0
    obtain ⟨a1, e1, -⟩ := DataW.trod_int Tryz.underlying2 f1
    obtain ⟨a2, e2, -⟩ := DataW.trod_int Tryz.underlying2 f2
    obtain ⟨a4, e4, -⟩ := DataW.trod_int Tryz.underlying2 f4
    obtain ⟨a5, e5, -⟩ := DataW.trod_bool Tryz.underlying4 f5
    obtain ⟨a6, e6, -⟩ := DataW.trod_bool Tryz.underlying4 f6
    obtain ⟨a7, e7, -⟩ := DataW.trod_int Tryz.underlying2 f7
    obtain ⟨a8, e8, -⟩ := DataW.trod_bool Tryz.underlying4 f8
    obtain ⟨a9, e9, -⟩ := DataW.trod_int Tryz.underlying2 f9
    obtain ⟨a10, e10, -⟩ := DataW.trod_bool Tryz.underlying4 f10
    obtain ⟨a11, e11, -⟩ := DataW.trod_int Tryz.underlying2 f11
    obtain ⟨a13, e13, -⟩ := DataW.trod_bool Tryz.underlying4 f13
    obtain ⟨a14, a15, a16, e14⟩ := arr_open f14 rfl
    have hy : Rows.uptoBulk y.1 = Rows.uptoBulkAll [y0.1, y1.1, y2.1, y3.1, y4.1, y5.1, y6.1, y7.1, y8.1, y9.1, y10.1, y11.1, y12.1, y13.1, y14.1] + 1 := by
      rw [hx]
      show Rows.uptoBulk (.agg [y0.1, y1.1, y2.1, y3.1, y4.1, y5.1, y6.1, y7.1, y8.1, y9.1, y10.1, y11.1, y12.1, y13.1, y14.1]) = _
      rw [Rows.uptoBulk]
    have m3 : Rows.uptoBulk y3.1 ≤ M := by
      have := bulk_among (d := y3.1) (l := [y0.1, y1.1, y2.1, y3.1, y4.1, y5.1, y6.1, y7.1, y8.1, y9.1, y10.1, y11.1, y12.1, y13.1, y14.1]) (by simp)
      omega
    have m12 : Rows.uptoBulk y12.1 ≤ M := by
      have := bulk_among (d := y12.1) (l := [y0.1, y1.1, y2.1, y3.1, y4.1, y5.1, y6.1, y7.1, y8.1, y9.1, y10.1, y11.1, y12.1, y13.1, y14.1]) (by simp)
      omega
    obtain ⟨p3, l3, k3, z3, e3, r3, q3, t3⟩ := bytes_open f3 m3
    obtain ⟨p12, l12, k12, z12, e12, r12, -, q12, t12⟩ := spans_open f12 m12
    simp only [List.cons.injEq, and_true] at e0 e1 e2 e3 e4 e5 e6 e7 e8 e9 e10 e11 e12 e13 e14
    obtain ⟨e14, e15, e16⟩ := e14
    subst e0 e1 e2 e3 e4 e5 e6 e7 e8 e9 e10 e11 e12 e13 e14 e15 e16
    have l12' : (z12.map spc).flatten.length = l12 * 2 := by
      rw [flat_len 2 _ (fun c hc => by
        obtain ⟨r, -, rfl⟩ := List.mem_map.1 hc
        rfl), List.length_map, r12]
    refine ⟨⟨a0, a1, a2, a4, a5, a6, a7, a8, a9, a10, a11, a13, a14, a15, a16, z3, z12⟩, by show z12.length ≤ M; omega, ⟨rfl, rfl, rfl, ?_, by show (z3.map (Value.int .u8)).length ≤ _; rw [List.length_map, r3]; omega, l12, l12', by omega⟩, _, _, rfl, li_own (by show (z3.map (Value.int .u8)).length = _; rw [List.length_map, r3, Nat.mul_one]) q3, li_own l12' q12⟩
    intro v hv
    simp only [TF.fr, List.mem_append] at hv
    rcases hv with (((hv | hv) | hv) | hv) | hv
    · simp only [List.mem_cons, List.not_mem_nil, or_false] at hv
      rcases hv with rfl | rfl | rfl <;> rfl
    · simp only [List.mem_cons, List.not_mem_nil, or_false] at hv
      rcases hv with rfl | rfl | rfl | rfl | rfl | rfl | rfl | rfl <;> rfl
    · simp only [List.mem_cons, List.not_mem_nil, or_false] at hv
      rcases hv with rfl | rfl | rfl | rfl <;> rfl
    · obtain ⟨x, -, rfl⟩ := List.mem_map.1 hv
      rfl
    · obtain ⟨c, hc, hvc⟩ := List.mem_flatten.1 hv
      obtain ⟨r, -, rfl⟩ := List.mem_map.1 hc
      simp only [spc, List.mem_cons, List.not_mem_nil, or_false] at hvc
      rcases hvc with rfl | rfl <;> rfl

theorem frames_open {n M : Nat} {v : Value} {y : DataW H × List MemPlace} (hM8 : M ≤ 100000000) (h : DataW.trod enc Tryz.prog w base spare held n 44 [v] = some y) (hM : Rows.uptoBulk y.1 ≤ M) :
    ∃ (a : Option Addr) (c : Nat) (fs : List Fr), v = .slice a fs.length c ∧ (∃ ts : List TF, fs = ts.map TF.fr ∧ ∀ t ∈ ts, t.rs.length ≤ 9223372036854775807) ∧ FvAt (fun b => b < w.heap.size) w (.slice a fs.length c) fs := by
  have c17 : Tryz.prog.cellsOf 130 = 17 := by kernel_rfl
  obtain ⟨a, l, c, xs, e1, e2, e3, e4, e5, e6⟩ := row_open Tryz.underlying44 c17 (by omega) (Prod.fst : List Value × TF → List Value) (fun x => x.2.rs.length ≤ M ∧ FrAt (fun b => b < w.heap.size) w x.1 x.2.fr) (fun n cs d hcs h2 hd => by
    obtain ⟨f, hl, hf⟩ := frame_open hM8 hcs h2 hd
    exact ⟨(cs, f), rfl, hl, hf⟩) h hM
  refine ⟨a, c, xs.map (fun x => x.2.fr), by rw [List.length_map, e2]; exact e1, ⟨xs.map Prod.snd, by rw [List.map_map]; rfl, fun t ht => ?_⟩, by rw [List.length_map]; omega, a, c, xs.map Prod.fst, rfl, ⟨by simp, fun i c f hc hf => ?_⟩, e4, fun hne b off e => ?_⟩
  · obtain ⟨x, hx, rfl⟩ := List.mem_map.1 ht
    have := (e5 x hx).1.1
    omega
  · rw [List.getElem?_map] at hc hf
    cases hx : xs[i]? with
    | none => rw [hx] at hc; cases hc
    | some x =>
      rw [hx] at hc hf
      cases hc
      cases hf
      exact (e5 x (List.mem_of_getElem? hx)).1.2
  · refine e4.lt (fun e0 => ?_) b off e
    have hx : xs ≠ [] := fun e => hne (by rw [e]; rfl)
    obtain ⟨x, xs', rfl⟩ := List.exists_cons_of_ne_nil hx
    have h17 := (e5 x (by simp)).2
    rw [List.map_cons, List.flatten_cons] at e0
    have hz := congrArg List.length e0
    rw [List.length_append, h17] at hz
    simp only [List.length_nil] at hz
    omega

theorem sent_open {n M : Nat} {cs : List Value} {y : DataW H × List MemPlace} (hM8 : M ≤ 100000000) (hcs : cs.length = 8) (h2 : DataW.trod enc Tryz.prog w base spare held n 46 cs = some y) (hM : Rows.uptoBulk y.1 ≤ M) :
    ∃ (s : St) (fa : Option Addr) (fc : Nat), cs = (s.cs (.slice fa s.fs.length fc)).toList ∧ s.told ∧ FvAt (fun b => b < w.heap.size) w (.slice fa s.fs.length fc) s.fs := by
  have c2 : Tryz.prog.cellsOf 2 = 1 := by kernel_rfl
  have c4 : Tryz.prog.cellsOf 4 = 1 := by kernel_rfl
  have cF : Tryz.prog.cellsOf 44 = 1 := by kernel_rfl
  obtain ⟨xs, m, -, hx, -, hxl, hff⟩ := DataW.trod_struct Tryz.underlying46 h2
  match cs, hcs, xs, hxl with
  | [v0, v1, v2, v3, v4, v5, v6, v7], _, [y0, y1, y2, y3, y4, y5, y6, y7], _ =>
    have f0 := hff 0 _ rfl
    have f1 := hff 1 _ rfl
    have f2 := hff 2 _ rfl
    have f3 := hff 3 _ rfl
    have f4 := hff 4 _ rfl
    have f5 := hff 5 _ rfl
    have f6 := hff 6 _ rfl
    have f7 := hff 7 _ rfl
    simp [c2, c4, cF] at f0 f1 f2 f3 f4 f5 f6 f7
    obtain ⟨a0, e0, -⟩ := DataW.trod_int Tryz.underlying2 f0
    obtain ⟨a1, e1, -⟩ := DataW.trod_int Tryz.underlying2 f1
    obtain ⟨a2, e2, -⟩ := DataW.trod_int Tryz.underlying2 f2
    obtain ⟨a3, e3, -⟩ := DataW.trod_bool Tryz.underlying4 f3
    obtain ⟨a4, e4, -⟩ := DataW.trod_bool Tryz.underlying4 f4
    obtain ⟨a5, e5, -⟩ := DataW.trod_bool Tryz.underlying4 f5
    obtain ⟨a6, e6, -⟩ := DataW.trod_int Tryz.underlying2 f6
    have hy : Rows.uptoBulk y.1 = Rows.uptoBulkAll [y0.1, y1.1, y2.1, y3.1, y4.1, y5.1, y6.1, y7.1] + 1 := by
      rw [hx]
      show Rows.uptoBulk (.agg [y0.1, y1.1, y2.1, y3.1, y4.1, y5.1, y6.1, y7.1]) = _
      rw [Rows.uptoBulk]
    have m7 : Rows.uptoBulk y7.1 ≤ M := by
      have := bulk_among (d := y7.1) (l := [y0.1, y1.1, y2.1, y3.1, y4.1, y5.1, y6.1, y7.1]) (by simp)
      omega
    obtain ⟨fa, fc, fs, e7, td, hv⟩ := frames_open hM8 f7 m7
    simp only [List.cons.injEq, and_true] at e0 e1 e2 e3 e4 e5 e6
    subst e0 e1 e2 e3 e4 e5 e6 e7
    exact ⟨⟨a0, a1, a2, a3, a4, a5, a6, fs⟩, fa, fc, rfl, td, hv⟩

/-- A step of a script. -/
structure OpL where
  kd : Int
  hh : Int
  s : St
  fa : Option Addr
  fc : Nat
  rs : List Sp
  ra : Option Addr
  rc : Nat
  ms : List Int
  ma : Option Addr
  mc : Nat
  n : Int
def OpL.cs (x : OpL) : Array Value := opc x.kd x.hh x.s (.slice x.fa x.s.fs.length x.fc) (.slice x.ra x.rs.length x.rc) (.slice x.ma x.ms.length x.mc) x.n
structure OpL.Ok (w : World) (x : OpL) : Prop where
  f_ : FvAt (fun b => b < w.heap.size) w (.slice x.fa x.s.fs.length x.fc) x.s.fs
  r_ : RdV w x.ra (x.rs.map spc).flatten
  rl : x.rs.length ≤ 1048576
  m_ : RdV w x.ma (ints x.ms)
  ml : x.ms.length ≤ 1048576
  td : x.s.told
theorem opl_open {n : Nat} {cs : List Value} {y : DataW H × List MemPlace} (hcs : cs.length = 13) (h2 : DataW.trod enc Tryz.prog w base spare held n 50 cs = some y) (hM : Rows.uptoBulk y.1 ≤ 1048576) : ∃ x : OpL, x.cs.toList = cs ∧ x.Ok w := by
  have c3 : Tryz.prog.cellsOf 3 = 1 := by kernel_rfl
  have cS : Tryz.prog.cellsOf 46 = 8 := by kernel_rfl
  have cR : Tryz.prog.cellsOf 47 = 1 := by kernel_rfl
  have cI : Tryz.prog.cellsOf 48 = 1 := by kernel_rfl
  obtain ⟨xs, m, -, hx, -, hxl, hff⟩ := DataW.trod_struct Tryz.underlying50 h2
  match cs, hcs, xs, hxl with
  | [v0, v1, v2, v3, v4, v5, v6, v7, v8, v9, v10, v11, v12], _, [y0, y1, y2, y3, y4, y5], _ =>
    have f0 := hff 0 _ rfl
    have f1 := hff 1 _ rfl
    have f2 := hff 2 _ rfl
    have f3 := hff 3 _ rfl
    have f4 := hff 4 _ rfl
    have f5 := hff 5 _ rfl
    simp [c3, cS, cR, cI] at f0 f1 f2 f3 f4 f5
    obtain ⟨a0, e0, -⟩ := DataW.trod_int Tryz.underlying3 f0
    obtain ⟨a1, e1, -⟩ := DataW.trod_int Tryz.underlying3 f1
    obtain ⟨a5, e5, -⟩ := DataW.trod_int Tryz.underlying3 f5
    have hy : Rows.uptoBulk y.1 = Rows.uptoBulkAll [y0.1, y1.1, y2.1, y3.1, y4.1, y5.1] + 1 := by
      rw [hx]
      show Rows.uptoBulk (.agg [y0.1, y1.1, y2.1, y3.1, y4.1, y5.1]) = _
      rw [Rows.uptoBulk]
    have m2 : Rows.uptoBulk y2.1 ≤ 1048576 := by
      have := bulk_among (d := y2.1) (l := [y0.1, y1.1, y2.1, y3.1, y4.1, y5.1]) (by simp)
      omega
    have m3 : Rows.uptoBulk y3.1 ≤ 1048576 := by
      have := bulk_among (d := y3.1) (l := [y0.1, y1.1, y2.1, y3.1, y4.1, y5.1]) (by simp)
      omega
    have m4 : Rows.uptoBulk y4.1 ≤ 1048576 := by
      have := bulk_among (d := y4.1) (l := [y0.1, y1.1, y2.1, y3.1, y4.1, y5.1]) (by simp)
      omega
    obtain ⟨s, fa, fc, e2, td, hs⟩ := sent_open (by omega) rfl f2 m2
    obtain ⟨ra, rl, rc, rs, e3, r3, -, q3, t3⟩ := spans_open f3 m3
    obtain ⟨ma, ml, mc, ms, e4, r4, -, q4, t4⟩ := ints_open f4 m4
    simp only [St.cs, List.cons.injEq, and_true] at e0 e1 e2 e5
    obtain ⟨rfl, rfl, rfl, rfl, rfl, rfl, rfl, rfl⟩ := e2
    subst e0 e1 e5 e3 e4 r3 r4
    exact ⟨⟨a0, a1, s, fa, fc, rs, ra, rc, ms, ma, mc, a5⟩, rfl, ⟨hs, q3, t3, q4, t4, td⟩⟩

/-- A script that came in. -/
structure IsOpL (w : World) (a : Option Addr) (len : Nat) (ol : List OpL) : Prop where
  hlen : ol.length = len
  ok : ∀ x ∈ ol, x.Ok w
  cell : len = 0 ∨ ∃ b off, a = some ⟨b, off, none⟩ ∧ ∀ i x, ol[i]? = some x → ∀ j v, x.cs[j]? = some v → w.cell? ⟨b, off + i * 13 + j, none⟩ = some v
theorem opls_open {n : Nat} {a : Option Addr} {len cap : Nat} {y : DataW H × List MemPlace} (h : DataW.trod enc Tryz.prog w base spare held n 22 [.slice a len cap] = some y) (hM : Rows.uptoBulk y.1 ≤ 1048576) : ∃ ol, IsOpL w a len ol ∧ len ≤ 1048576 ∧ (len ≤ cap ∧ cap ≤ 9223372036854775807) := by
  have c13 : Tryz.prog.cellsOf 50 = 13 := by kernel_rfl
  obtain ⟨a', l', c', xs, e1, e2, e3, e4, e5, e6⟩ := row_open Tryz.underlying22 c13 (by omega) (fun x : OpL => x.cs.toList) (fun x => x.Ok w) (fun n cs d hcs h2 hd => opl_open hcs h2 hd) h hM
  cases e1
  refine ⟨xs, ⟨e2, fun x hx => (e5 x hx).1, ?_⟩, e6, e3⟩
  rcases e4 with e4 | ⟨b, off, e, hc⟩
  · left
    cases xs with
    | nil => simpa using e2.symm
    | cons x xs =>
      have hz := congrArg List.length e4
      rw [List.map_cons, List.flatten_cons, List.length_append] at hz
      have h13 : x.cs.toList.length = 13 := rfl
      rw [h13] at hz
      simp only [List.length_nil] at hz
      omega
  · right
    refine ⟨b, off, e, fun i x hi j v hj => ?_⟩
    have hj13 : j < 13 := by
      have := (Array.getElem?_eq_some_iff.1 hj).1
      simpa [OpL.cs, opc] using this
    have := hc (i * 13 + j) v (by
      rw [flat_get 13 _ _ _ (fun c hc => by
        obtain ⟨x, hx, rfl⟩ := List.mem_map.1 hc
        exact (e5 x hx).2) hj13, List.getElem?_map, hi]
      simpa using hj)
    rw [← Nat.add_assoc] at this
    exact this
end
end Go.Proofs.YtnflbefbgcbdfaaGreat

namespace Go.Proofs.YtnflbefbgcbdfaaGreat
open Go.ChangeShapes Go.WideShapes Go.ChangeAt Go.RowKit
set_option linter.unusedVariables false
set_option maxRecDepth 100000

theorem bulk_count3 {H : Type} : ∀ l : List (DataW H), (∀ d ∈ l, 3 ≤ Rows.uptoBulk d) → 3 * l.length ≤ Rows.uptoBulkAll l
  | [], _ => Nat.zero_le _
  | d :: r, h => by
    have h1 := h d (by simp)
    have h2 := bulk_count3 r (fun d hd => h d (by simp [hd]))
    simp only [Rows.uptoBulkAll, List.length_cons]
    omega
section
variable {H : Type} {enc : TypeId × Value → H} {w : World} {base : Nat} {spare : Nat → Bool} {held : Bool}
theorem runs_count {n M l c : Nat} {a : Option Addr} {y : DataW H × List MemPlace} (h : DataW.trod enc Tryz.prog w base spare held n 47 [.slice a l c] = some y) (hM : Rows.uptoBulk y.1 ≤ M) : 3 * l ≤ M := by
  have c2 : Tryz.prog.cellsOf 2 = 1 := by kernel_rfl
  have c1 : Tryz.prog.cellsOf 63 = 2 := by kernel_rfl
  rcases Go.Deep.open_slice Tryz.underlying47 h with ⟨hcs, _⟩ | ⟨ad, l', c', m, nn, D, Pl, hcs, _, hl, hm, hmm, hxe, hx⟩
  · simp at hcs
    omega
  · simp only [List.cons.injEq, Value.slice.injEq, and_true] at hcs
    obtain ⟨rfl, rfl, rfl⟩ := hcs
    have hlm : l ≤ m := by rw [hmm]; split <;> omega
    have hx1 : y.1 = .slice ((List.range l).map D) ((List.range (m - l)).map fun j => D (l + j)) := by rw [hxe]
    have hy : Rows.uptoBulkAll ((List.range l).map D) ≤ M := by
      rw [hx1] at hM
      simp only [Rows.uptoBulk] at hM
      omega
    have key := bulk_count3 ((List.range l).map D) (fun d hd => by
      obtain ⟨i, hi, rfl⟩ := List.mem_map.1 hd
      obtain ⟨cs', h1, h2⟩ := hx i (by have := List.mem_range.1 hi; omega)
      rw [c1] at h1
      obtain ⟨_, hlen, _⟩ := World.cells?_some h1
      obtain ⟨xs, m', -, hxy, -, hxl, hf⟩ := DataW.trod_struct Tryz.underlying63 h2
      match xs, hxl with
      | [y0, y1], _ =>
        have hxy := congrArg Prod.fst hxy
        simp only at hxy
        rw [hxy]
        show 3 ≤ Rows.uptoBulk (.agg [y0.1, y1.1])
        have := bulk_count [y0.1, y1.1]
        simp only [Rows.uptoBulk]
        simp only [List.length_cons, List.length_nil] at this
        omega)
    simp only [List.length_map, List.length_range] at key
    omega
theorem runs_open {sa : Option Addr} {sl sc : Nat} {d : DataW H} {ps : List MemPlace} (hd : DataW.Trod enc Tryz.prog w base spare held 47 (.slice sa sl sc) d ps) (hM : Rows.uptoBulk d ≤ 1048576) :
    ∃ (a : Option Addr) (c : Nat) (rs : List Sp), Value.slice sa sl sc = .slice a rs.length c ∧ RdV w a (rs.map spc).flatten ∧ rs.length ≤ 500000 := by
  obtain ⟨fuel, hf⟩ := hd
  have hf' : DataW.trod enc Tryz.prog w base spare held fuel 47 [.slice sa sl sc] = some (d, ps) := by simpa [Value.cells] using hf
  obtain ⟨a, l, c, rs, e, r, -, q, -⟩ := spans_open hf' hM
  have := runs_count hf' hM
  cases e
  subst r
  exact ⟨_, _, rs, rfl, q, by omega⟩
end
end Go.Proofs.YtnflbefbgcbdfaaGreat
