/- L0S, L0T, L0U, L0V, one text. -/
import Derived.Test.YtnflbefbgcbdfaaGreatL8P
import Derived.Laws.BytesArg
import Derived.Lib.SlBytesConst
import Derived.BigRegion
import Derived.DeepKeys
import Derived.Deep.RegionHeld3
import Derived.Test.YtnflbefbgcbdfaaGreatL8Q
namespace Go.Proofs.YtnflbefbgcbdfaaGreat
open Go.RowKit
set_option linter.unusedVariables false
set_option linter.unusedSimpArgs false
set_option maxRecDepth 100000
set_option maxHeartbeats 1000000

theorem conv_rdv (w : World) (a : Option Addr) (l : List Int) (cap : Nat) (hr : RdV w a (l.map (Value.int .u8))) :
    (convert 127 9 (.slice a l.length cap)).run Tryz.prog w = .ok (.string (strOfNums l)) w := by
  by_cases h : l = []
  · subst h
    rw [run_convert_bytes_string w 127 9 5 _ _ cap Tryz.underlying127 Tryz.underlying5 Tryz.underlying9]
    cases a <;> simp [Conv.bytesToString, loadCells]
    all_goals rfl
  · obtain ⟨b, off, rfl, hc⟩ := hr.resolve_left (by simpa using h)
    exact run_convert_bytes_arg w 127 5 Tryz.underlying127 Tryz.underlying5 b off _ cap l rfl (fun i hi => hc i _ (by simp [List.getD, hi])) 9 Tryz.underlying9
theorem sameBytes_eq (a b : Option Addr) (l : List Int) (c d : Nat) (w : World) (h1 : RdV w a (l.map (Value.int .u8))) (h2 : RdV w b (l.map (Value.int .u8))) :
    Calls Tryz.prog 93 #[.slice a l.length c, .slice b l.length d] w fun e w' => e = .returned (.bool true) ∧ w' = w := by
  have cv1 := conv_rdv w a l c h1
  have cv2 := conv_rdv w b l d h2
  obtain ⟨S, hS⟩ : ∃ S, S = strOfNums l := ⟨_, rfl⟩
  rw [← hS] at cv1 cv2
  obtain ⟨n, hn⟩ : ∃ n, n = l.length := ⟨_, rfl⟩
  rw [← hn] at cv1 cv2 ⊢
  clear h1 h2 hS hn
  go_enter Tryz.func93, Tryz.ntmps93
  go_wp2_with fail
  go_ret
  exact ⟨by simp, rfl⟩
/-- Runs that are read. -/
def RdR (W : World) (a : Option Addr) (rs : List (Int × Int)) : Prop := rs = [] ∨ ∃ g off, a = some ⟨g, off, none⟩ ∧ ∀ (i : Nat) r, rs[i]? = some r → W.cell? ⟨g, off + i * 2, none⟩ = some (.int .i64 r.1) ∧ W.cell? ⟨g, off + i * 2 + 1, none⟩ = some (.int .i64 r.2)
theorem sameRuns_eq (a b : Option Addr) (rs : List (Int × Int)) (n c d : Nat) (w : World) (hn : n = rs.length) (h63 : n ≤ 9223372036854775807) (h1 : RdR w a rs) (h2 : RdR w b rs) :
    Calls Tryz.prog 22 #[.slice a n c, .slice b n d] w fun e w' => e = .returned (.bool true) ∧ w.grownBy w' none := by
  have HN := hide (And.intro hn (And.intro h1 h2))
  clear hn h1 h2
  go_enter Tryz.func22, Tryz.ntmps22
  go_wp2_with fail
  go_loopw [5, 6] (fun ov iv wr => ov = .bool true ∧ ∃ k : Nat, k ≤ n ∧ iv = .int .i64 k ∧ Hid (w.grownBy wr none)) (fun _ iv _ => n - (intOf iv).toNat)
  case atStart => exact ⟨by simp, 0, Nat.zero_le _, rfl, World.grownBy.refl w none⟩
  case round =>
    obtain ⟨rfl, k, hk, rfl, G⟩ := hrel
    by_cases hlt : k < n
    · obtain ⟨hn, h1, h2⟩ := unhide HN
      obtain ⟨r, hr⟩ : ∃ r, rs[k]? = some r := ⟨_, List.getElem?_eq_getElem (by omega)⟩
      have hne : rs ≠ [] := fun e => by rw [e] at hr; simp at hr
      obtain ⟨g1, o1, rfl, c1⟩ := h1.resolve_left hne
      obtain ⟨g2, o2, rfl, c2⟩ := h2.resolve_left hne
      obtain ⟨x, y⟩ := r
      have x0 := cell_grown (c1 k _ hr).1 (unhide G)
      have x1 := cell_grown (c1 k _ hr).2 (unhide G)
      have y0 := cell_grown (c2 k _ hr).1 (unhide G)
      have y1 := cell_grown (c2 k _ hr).2 (unhide G)
      simp only at x0 x1 y0 y1
      have kI : (k : Int) < (n : Int) := by omega
      have k0 : (0 : Int) ≤ (k : Int) := by omega
      have GD := hide (grown_drew' (unhide G))
      clear h1 h2 hn hr hne c1 c2
      go_upto_region 5 with fail
      go_region
      all_goals go_wp2_with fail
      all_goals exact ⟨⟨by simp, k + 1, hlt, by go_num, by first | exact unhide G | exact unhide GD⟩, by simp [intOf]; omega⟩
    · obtain rfl : k = n := by omega
      have kI : ¬ (k : Int) < (k : Int) := by omega
      have GF := hide (unhide G)
      go_wp2_with fail
      all_goals go_ret
      all_goals exact ⟨rfl, unhide GF⟩
end Go.Proofs.YtnflbefbgcbdfaaGreat

namespace Go.Proofs.YtnflbefbgcbdfaaGreat
open Go.RowKit
set_option linter.unusedVariables false
set_option linter.unusedSimpArgs false
set_option maxRecDepth 100000
set_option maxHeartbeats 4000000

/-- What a frame says, with its kinds told. -/
structure TF where
  a0 : Int
  a1 : Int
  a2 : Int
  b0 : Int
  b1 : Bool
  b2 : Bool
  b3 : Int
  b4 : Bool
  b5 : Int
  b6 : Bool
  b7 : Int
  m : Bool
  n0 : Int
  n1 : Int
  n2 : Int
  l : List Int
  rs : List (Int × Int)
def TF.cs (t : TF) (dv rv : Value) : Array Value := #[.int .i64 t.a0, .int .i64 t.a1, .int .i64 t.a2, dv, .int .i64 t.b0, .bool t.b1, .bool t.b2, .int .i64 t.b3, .bool t.b4, .int .i64 t.b5, .bool t.b6, .int .i64 t.b7, rv, .bool t.m, .int .i64 t.n0, .int .i64 t.n1, .int .i64 t.n2]
def runsV (rs : List (Int × Int)) : List Value := rs.flatMap fun r => [.int .i64 r.1, .int .i64 r.2]
/-- The same, as the ledger's texts have it. -/
def TF.fr (t : TF) : Fr := ⟨[.int .i64 t.a0, .int .i64 t.a1, .int .i64 t.a2], [.int .i64 t.b0, .bool t.b1, .bool t.b2, .int .i64 t.b3, .bool t.b4, .int .i64 t.b5, .bool t.b6, .int .i64 t.b7], [.bool t.m, .int .i64 t.n0, .int .i64 t.n1, .int .i64 t.n2], t.l.map (Value.int .u8), runsV t.rs⟩
theorem TF.cs_fr (t : TF) (dv rv : Value) : (t.fr.cs dv rv).toArray = t.cs dv rv := rfl
theorem runsV_get : ∀ (rs : List (Int × Int)) (i : Nat) r, rs[i]? = some r → (runsV rs)[i * 2]? = some (.int .i64 r.1) ∧ (runsV rs)[i * 2 + 1]? = some (.int .i64 r.2)
  | [], i, r, h => by simp at h
  | s :: t, 0, r, h => by simp at h; subst h; exact ⟨rfl, rfl⟩
  | s :: t, i + 1, r, h => by
    have ih := runsV_get t i r (by simpa using h)
    have e : runsV (s :: t) = .int .i64 s.1 :: .int .i64 s.2 :: runsV t := by simp [runsV]
    rw [e, show (i + 1) * 2 = i * 2 + 2 by omega, show i * 2 + 2 + 1 = i * 2 + 1 + 2 by omega]
    simpa using ih
theorem runsV_len (rs : List (Int × Int)) : (runsV rs).length = rs.length * 2 := by
  induction rs with
  | nil => rfl
  | cons s t ih =>
    have e : runsV (s :: t) = .int .i64 s.1 :: .int .i64 s.2 :: runsV t := by simp [runsV]
    rw [e, List.length_cons, List.length_cons, ih, List.length_cons]
    omega
theorem rdv_runs {W : World} {a : Option Addr} {rs : List (Int × Int)} (h : RdV W a (runsV rs)) : RdR W a rs := by
  rcases h with h | ⟨g, off, e, hc⟩
  · left
    cases rs with
    | nil => rfl
    | cons s t => simp [runsV] at h
  · refine .inr ⟨g, off, e, fun i r hr => ?_⟩
    obtain ⟨c0, c1⟩ := runsV_get rs i r hr
    exact ⟨hc _ _ c0, hc _ _ c1⟩
theorem RdR.grown {W W' : World} {a : Option Addr} {rs : List (Int × Int)} (h : RdR W a rs) (g : W.grownBy W' none) : RdR W' a rs :=
  h.imp id fun ⟨b, off, e, hc⟩ => ⟨b, off, e, fun i r hr => ⟨cell_grown (hc i r hr).1 g, cell_grown (hc i r hr).2 g⟩⟩
/-- A frame whose kinds are told, in memory: its lists opened. -/
theorem TF.open_ {R : Nat → Prop} {W : World} {cs : List Value} {t : TF} (h : FrAt R W cs t.fr) : ∃ a c p q, cs.toArray = t.cs (.slice a t.l.length c) (.slice p t.rs.length q) ∧ RdV W a (t.l.map (Value.int .u8)) ∧ RdR W p t.rs := by
  obtain ⟨-, dv, rv, rfl, ⟨a, n, c, rfl, h1, h2, -⟩, ⟨p, m, q, rfl, k1, k2, -⟩⟩ := h
  have e1 : n = t.l.length := by
    have : (t.l.map (Value.int .u8)).length = n * 1 := h1
    simpa using this.symm
  have e2 : m = t.rs.length := by
    have : (runsV t.rs).length = m * 2 := k1
    rw [runsV_len] at this
    omega
  subst e1
  subst e2
  exact ⟨a, c, p, q, TF.cs_fr _ _ _, h2, rdv_runs k2⟩
theorem eq3 (x y z : Int) (W : World) : (Op.equalIn 10000 128 (.agg #[.int .i64 x, .int .i64 y, .int .i64 z]) (.agg #[.int .i64 x, .int .i64 y, .int .i64 z])).run Tryz.prog W = .ok true W := by
  obtain ⟨i, hi⟩ : ∃ i, Tryz.prog.info? 2 = some i := Option.isSome_iff_exists.1 (by kernel_rfl)
  have hc : Tryz.prog.cellsOf 2 = 1 := by kernel_rfl
  have hp : Tryz.prog.plainKey 2 = true := by kernel_rfl
  have q0 : ∀ (d : Nat) (v : Int), (Op.equalIn (d + 1) 2 (.int .i64 v) (.int .i64 v)).run Tryz.prog W = .ok true W := by
    intro d v
    simp [Op.equalIn, run_underlying Tryz.underlying2]
  have p0 : ∀ (k : Nat) (v : Value), (#[Value.int .i64 x, Value.int .i64 y, Value.int .i64 z])[k * 1]? = some v → (part 2 #[Value.int .i64 x, Value.int .i64 y, Value.int .i64 z] (k * 1)).run Tryz.prog W = .ok v W := fun k v hv => run_part_plain (P := Tryz.prog) (w := W) hp hv
  have key : ∀ d : Nat, (Op.equalIn (d + 1 + 1) 128 (.agg #[.int .i64 x, .int .i64 y, .int .i64 z]) (.agg #[.int .i64 x, .int .i64 y, .int .i64 z])).run Tryz.prog W = .ok true W := by
    intro d
    rw [run_equalIn_array (P := Tryz.prog) (w := W) (d + 1) _ _ Tryz.underlying128 hi, hc, show List.range 3 = [0, 1, 2] from rfl]
    simp only [Op.eqItems, Sem.run_bind, p0 0 (.int .i64 x) rfl, p0 1 (.int .i64 y) rfl, p0 2 (.int .i64 z) rfl, q0, Result.andThen_ok, Bool.not_true, Bool.false_eq_true, if_false]
    rfl
  exact key 9998
theorem sameFrame_eq (t : TF) (a p a' p' : Option Addr) (c q c' q' : Nat) (w : World) (hl : t.rs.length ≤ 9223372036854775807) (h1 : RdV w a (t.l.map (Value.int .u8))) (h2 : RdR w p t.rs) (k1 : RdV w a' (t.l.map (Value.int .u8))) (k2 : RdR w p' t.rs) :
    Calls Tryz.prog 63 #[.agg (t.cs (.slice a t.l.length c) (.slice p t.rs.length q)), .agg (t.cs (.slice a' t.l.length c') (.slice p' t.rs.length q'))] w fun e w' => e = .returned (.bool true) ∧ w.grownBy w' none := by
  have S1 := hide (fun W (g : w.grownBy W none) => sameBytes_eq a a' t.l c c' W (h1.grown g) (k1.grown g))
  have S2 := hide (fun W (g : w.grownBy W none) => sameRuns_eq p p' t.rs t.rs.length q q' W rfl hl (h2.grown g) (k2.grown g))
  obtain ⟨C1, hC1⟩ : ∃ C1, C1 = t.cs (.slice a t.l.length c) (.slice p t.rs.length q) := ⟨_, rfl⟩
  obtain ⟨C2, hC2⟩ : ∃ C2, C2 = t.cs (.slice a' t.l.length c') (.slice p' t.rs.length q') := ⟨_, rfl⟩
  rw [← hC1, ← hC2]
  obtain ⟨W0, hW0⟩ : ∃ W0, W0 = (w.alloc (.cells C1 130)).alloc (.cells C2 130) := ⟨_, rfl⟩
  have gA : w.grownBy W0 none := by rw [hW0]; exact (World.grownBy_alloc w _ none).trans (World.grownBy_alloc _ _ none)
  obtain ⟨z, hz⟩ : ∃ z, z = w.heap.size := ⟨_, rfl⟩
  have B1 : Blk W0 z C1 130 := by rw [hW0, hz]; exact (Blk.new w C1 _).grown (World.grownBy_alloc _ _ none)
  have B2 : Blk W0 (z + 1) C2 130 := by
    have := Blk.new (w.alloc (.cells C1 130)) C2 130
    rw [hW0, hz]
    simpa using this
  rw [hC1] at B1
  rw [hC2] at B2
  have T1 := unhide S1 W0 gA
  have x3 := B1.cell 3 (.slice a t.l.length c) rfl
  have y3 := B2.cell 3 (.slice a' t.l.length c') rfl
  have HB := hide (And.intro B1 (And.intro B2 gA))
  clear B1 B2 gA S1 hC1 hC2 h1 h2 k1 k2
  obtain ⟨n, hn⟩ : ∃ n, n = t.l.length := ⟨_, rfl⟩
  obtain ⟨m, hm⟩ : ∃ m, m = t.rs.length := ⟨_, rfl⟩
  unfold TF.cs at HB
  rw [← hn, ← hm] at HB
  rw [← hn] at T1 x3 y3
  rw [← hm] at S2
  clear hn hm hl
  go_enter Tryz.func63, Tryz.ntmps63
  go_upto_region 1 with fail
  have e1 : (w.alloc (.cells C1 130)).heap.size = w.heap.size + 1 := by simp
  first | rw [e1] | skip
  rw [← hW0, ← hz]
  replace hW0 := hide hW0
  replace hz := hide hz
  clear e1
  go_wp2_with fail
  refine T1.mono ?_
  rintro e W3 ⟨rfl, h3⟩
  obtain rfl := h3.symm
  obtain ⟨B1, B2, gA⟩ := unhide HB
  have T2 := unhide S2 W0 gA
  have x12 := B1.cell 12 (.slice p m q) rfl
  have y12 := B2.cell 12 (.slice p' m q') rfl
  clear B1 B2 gA S2 T1 x3 y3
  go_wp2_with fail
  refine T2.mono ?_
  rintro e W2 ⟨rfl, g2⟩
  obtain ⟨B1, B2, gA⟩ := unhide HB
  have b1 := B1.grown g2
  have b2 := B2.grown g2
  have x0 := b1.cell 0 (.int .i64 t.a0) rfl
  have y0 := b2.cell 0 (.int .i64 t.a0) rfl
  have x1 := b1.cell 1 (.int .i64 t.a1) rfl
  have y1 := b2.cell 1 (.int .i64 t.a1) rfl
  have x2 := b1.cell 2 (.int .i64 t.a2) rfl
  have y2 := b2.cell 2 (.int .i64 t.a2) rfl
  have x4 := b1.cell 4 (.int .i64 t.b0) rfl
  have y4 := b2.cell 4 (.int .i64 t.b0) rfl
  have x5 := b1.cell 5 (.bool t.b1) rfl
  have y5 := b2.cell 5 (.bool t.b1) rfl
  have x6 := b1.cell 6 (.bool t.b2) rfl
  have y6 := b2.cell 6 (.bool t.b2) rfl
  have x7 := b1.cell 7 (.int .i64 t.b3) rfl
  have y7 := b2.cell 7 (.int .i64 t.b3) rfl
  have x8 := b1.cell 8 (.bool t.b4) rfl
  have y8 := b2.cell 8 (.bool t.b4) rfl
  have x9 := b1.cell 9 (.int .i64 t.b5) rfl
  have y9 := b2.cell 9 (.int .i64 t.b5) rfl
  have x10 := b1.cell 10 (.bool t.b6) rfl
  have y10 := b2.cell 10 (.bool t.b6) rfl
  have x11 := b1.cell 11 (.int .i64 t.b7) rfl
  have y11 := b2.cell 11 (.int .i64 t.b7) rfl
  have x13 := b1.cell 13 (.bool t.m) rfl
  have y13 := b2.cell 13 (.bool t.m) rfl
  have x14 := b1.cell 14 (.int .i64 t.n0) rfl
  have y14 := b2.cell 14 (.int .i64 t.n0) rfl
  have x15 := b1.cell 15 (.int .i64 t.n1) rfl
  have y15 := b2.cell 15 (.int .i64 t.n1) rfl
  have x16 := b1.cell 16 (.int .i64 t.n2) rfl
  have y16 := b2.cell 16 (.int .i64 t.n2) rfl
  have G := hide (gA.trans g2)
  clear HB B1 B2 gA g2 b1 b2 T2 x12 y12
  go_wp2_with fail
  rw [eq3]
  go_simp
  go_wp2_with fail
  go_ret
  exact ⟨by simp, unhide G⟩
end Go.Proofs.YtnflbefbgcbdfaaGreat

namespace Go.Proofs.YtnflbefbgcbdfaaGreat
open Go.RowKit
set_option linter.unusedVariables false
set_option linter.unusedSimpArgs false
set_option maxRecDepth 100000
set_option maxHeartbeats 4000000

theorem fv_frame {R : Nat → Prop} {W : World} {a : Option Addr} {n c : Nat} {fs : List Fr} (h : FvAt R W (.slice a n c) fs) (i : Nat) (t : TF) (hi : fs[i]? = some t.fr) : ∃ b off a1 c1 p q, a = some ⟨b, off, none⟩ ∧ (∀ (j : Nat) v, j < 17 → (t.cs (.slice a1 t.l.length c1) (.slice p t.rs.length q))[j]? = some v → W.cell? ⟨b, off + i * 17 + j, none⟩ = some v) ∧ RdV W a1 (t.l.map (Value.int .u8)) ∧ RdR W p t.rs := by
  obtain ⟨-, a', c', css, e, hF, hr, -⟩ := h
  injection e with e1 e2 e3
  subst e1
  have hil := (List.getElem?_eq_some_iff.1 hi).1
  obtain ⟨cs, hc⟩ : ∃ cs, css[i]? = some cs := ⟨_, List.getElem?_eq_getElem (by rw [hF.len]; exact hil)⟩
  obtain ⟨a1, c1, p, q, e4, r1, r2⟩ := TF.open_ (hF.at_ i cs t.fr hc hi)
  have hne : css.flatten ≠ [] := fun e => by
    have h1 := flat_len 17 css hF.l17
    rw [e, hF.len] at h1
    simp at h1
    omega
  obtain ⟨b, off, e5, hcell⟩ := hr.resolve_left hne
  refine ⟨b, off, a1, c1, p, q, e5, fun j v hj hv => ?_, r1, r2⟩
  rw [← e4] at hv
  rw [Nat.add_assoc]
  refine hcell _ _ ?_
  rw [flat_get 17 css i j hF.l17 hj, hc]
  simpa using hv
theorem sameSent_eq (s : St) (ts : List TF) (hs : s.fs = ts.map TF.fr) (hl : ∀ t ∈ ts, t.rs.length ≤ 9223372036854775807) (R R' : Nat → Prop) (a a' : Option Addr) (c c' : Nat) (w : World) (h : FvAt R w (.slice a s.fs.length c) s.fs) (h' : FvAt R' w (.slice a' s.fs.length c') s.fs) :
    Calls Tryz.prog 33 #[.agg (s.cs (.slice a s.fs.length c)), .agg (s.cs (.slice a' s.fs.length c'))] w fun e w' => e = .returned (.bool true) ∧ w.grownBy w' none := by
  obtain ⟨C1, hC1⟩ : ∃ C1, C1 = s.cs (.slice a s.fs.length c) := ⟨_, rfl⟩
  obtain ⟨C2, hC2⟩ : ∃ C2, C2 = s.cs (.slice a' s.fs.length c') := ⟨_, rfl⟩
  rw [← hC1, ← hC2]
  obtain ⟨W0, hW0⟩ : ∃ W0, W0 = (w.alloc (.cells C1 46)).alloc (.cells C2 46) := ⟨_, rfl⟩
  have gA : w.grownBy W0 none := by rw [hW0]; exact (World.grownBy_alloc w _ none).trans (World.grownBy_alloc _ _ none)
  obtain ⟨z, hz⟩ : ∃ z, z = w.heap.size := ⟨_, rfl⟩
  have B1 : Blk W0 z C1 46 := by rw [hW0, hz]; exact (Blk.new w C1 _).grown (World.grownBy_alloc _ _ none)
  have B2 : Blk W0 (z + 1) C2 46 := by
    have := Blk.new (w.alloc (.cells C1 46)) C2 46
    rw [hW0, hz]
    simpa using this
  rw [hC1] at B1
  rw [hC2] at B2
  have HH := hide (And.intro h (And.intro h' (And.intro hs (And.intro hl gA))))
  have hfl := h.1
  obtain ⟨n, hn⟩ : ∃ n, n = s.fs.length := ⟨_, rfl⟩
  rw [← hn] at B1 B2 HH hfl
  have HN := hide hn
  have HB := hide (And.intro B1 B2)
  have p0 := B1.cell 0 (.int .i64 s.nu) rfl
  have p1 := B1.cell 1 (.int .i64 s.ti) rfl
  have p2 := B1.cell 2 (.int .i64 s.si) rfl
  have p3 := B1.cell 3 (.bool s.el) rfl
  have p4 := B1.cell 4 (.bool s.co) rfl
  have p5 := B1.cell 5 (.bool s.pr) rfl
  have p6 := B1.cell 6 (.int .i64 s.tl) rfl
  have p7 := B1.cell 7 (.slice a n c) rfl
  have q0 := B2.cell 0 (.int .i64 s.nu) rfl
  have q1 := B2.cell 1 (.int .i64 s.ti) rfl
  have q2 := B2.cell 2 (.int .i64 s.si) rfl
  have q3 := B2.cell 3 (.bool s.el) rfl
  have q4 := B2.cell 4 (.bool s.co) rfl
  have q5 := B2.cell 5 (.bool s.pr) rfl
  have q6 := B2.cell 6 (.int .i64 s.tl) rfl
  have q7 := B2.cell 7 (.slice a' n c') rfl
  clear B1 B2 gA hC1 hC2 h h' hs hl hn
  go_enter Tryz.func33, Tryz.ntmps33
  go_upto_region 1 with fail
  have e1 : (w.alloc (.cells C1 46)).heap.size = w.heap.size + 1 := by simp
  first | rw [e1] | skip
  rw [← hW0, ← hz]
  replace hW0 := hide hW0
  replace hz := hide hz
  clear e1
  go_wp2_with fail
  clear p0 p1 p2 p3 p4 p5 p6 p7 q0 q1 q2 q3 q4 q5 q6 q7
  go_loopw [5, 6] (fun ov iv wr => ov = .bool true ∧ ∃ k : Nat, k ≤ n ∧ iv = .int .i64 k ∧ Hid (W0.grownBy wr none)) (fun _ iv _ => n - (intOf iv).toNat)
  case atStart => exact ⟨by simp, 0, Nat.zero_le _, rfl, World.grownBy.refl W0 none⟩
  case round =>
    obtain ⟨rfl, k, hk, rfl, G⟩ := hrel
    obtain ⟨wo, hwo⟩ : ∃ wo, wo = wr := ⟨_, rfl⟩
    subst hwo
    obtain ⟨B1, B2⟩ := unhide HB
    have p7 := (B1.grown (unhide G)).cell 7 (.slice a n c) rfl
    have q7 := (B2.grown (unhide G)).cell 7 (.slice a' n c') rfl
    clear B1 B2
    by_cases hlt : k < n
    · obtain ⟨h, h', hs, hl, gA⟩ := unhide HH
      have hn := unhide HN
      have gw := gA.trans (unhide G)
      obtain ⟨t, ht⟩ : ∃ t, ts[k]? = some t := ⟨_, List.getElem?_eq_getElem (by rw [hs, List.length_map] at hn; omega)⟩
      have hf : s.fs[k]? = some t.fr := by rw [hs, List.getElem?_map, ht]; rfl
      have hlt2 := hl t (List.mem_of_getElem? ht)
      obtain ⟨b1, o1, u1, v1, m1, w1, rfl, c1, r1, s1⟩ := fv_frame (h.grown gw) k t hf
      obtain ⟨b2, o2, u2, v2, m2, w2, rfl, c2, r2, s2⟩ := fv_frame (h'.grown gw) k t hf
      have SM := hide (fun W (g : wo.grownBy W none) => sameFrame_eq t u1 m1 u2 m2 v1 w1 v2 w2 W hlt2 (r1.grown g) (s1.grown g) (r2.grown g) (s2.grown g))
      have cx : Hid (∀ (j : Nat) v, j < 17 → (t.cs (.slice u1 t.l.length v1) (.slice m1 t.rs.length w1))[j]? = some v → wo.cell? ⟨b1, o1 + k * 17 + j, none⟩ = some v) := c1
      have cy : Hid (∀ (j : Nat) v, j < 17 → (t.cs (.slice u2 t.l.length v2) (.slice m2 t.rs.length w2))[j]? = some v → wo.cell? ⟨b2, o2 + k * 17 + j, none⟩ = some v) := c2
      obtain ⟨n1, hn1⟩ : ∃ n1, n1 = t.l.length := ⟨_, rfl⟩
      obtain ⟨n2, hn2⟩ : ∃ n2, n2 = t.rs.length := ⟨_, rfl⟩
      rw [← hn1, ← hn2] at cx cy SM
      unfold TF.cs at SM
      have kI : (k : Int) < (n : Int) := by omega
      have k0 : (0 : Int) ≤ (k : Int) := by omega
      clear h h' hs hl gA hn gw ht hf hlt2 c1 c2 r1 r2 s1 s2 hn1 hn2
      have x0 : wo.cell? ⟨b1, o1 + k * 17, none⟩ = some (.int .i64 t.a0) := unhide cx 0 _ (by decide) rfl
      have x1 : wo.cell? ⟨b1, o1 + k * 17 + 1, none⟩ = some (.int .i64 t.a1) := unhide cx 1 _ (by decide) rfl
      have x2 : wo.cell? ⟨b1, o1 + k * 17 + 2, none⟩ = some (.int .i64 t.a2) := unhide cx 2 _ (by decide) rfl
      have x3 : wo.cell? ⟨b1, o1 + k * 17 + 3, none⟩ = some (.slice u1 n1 v1) := unhide cx 3 _ (by decide) rfl
      have x4 : wo.cell? ⟨b1, o1 + k * 17 + 4, none⟩ = some (.int .i64 t.b0) := unhide cx 4 _ (by decide) rfl
      have x5 : wo.cell? ⟨b1, o1 + k * 17 + 5, none⟩ = some (.bool t.b1) := unhide cx 5 _ (by decide) rfl
      have x6 : wo.cell? ⟨b1, o1 + k * 17 + 6, none⟩ = some (.bool t.b2) := unhide cx 6 _ (by decide) rfl
      have x7 : wo.cell? ⟨b1, o1 + k * 17 + 7, none⟩ = some (.int .i64 t.b3) := unhide cx 7 _ (by decide) rfl
      have x8 : wo.cell? ⟨b1, o1 + k * 17 + 8, none⟩ = some (.bool t.b4) := unhide cx 8 _ (by decide) rfl
      have x9 : wo.cell? ⟨b1, o1 + k * 17 + 9, none⟩ = some (.int .i64 t.b5) := unhide cx 9 _ (by decide) rfl
      have x10 : wo.cell? ⟨b1, o1 + k * 17 + 10, none⟩ = some (.bool t.b6) := unhide cx 10 _ (by decide) rfl
      have x11 : wo.cell? ⟨b1, o1 + k * 17 + 11, none⟩ = some (.int .i64 t.b7) := unhide cx 11 _ (by decide) rfl
      have x12 : wo.cell? ⟨b1, o1 + k * 17 + 12, none⟩ = some (.slice m1 n2 w1) := unhide cx 12 _ (by decide) rfl
      have x13 : wo.cell? ⟨b1, o1 + k * 17 + 13, none⟩ = some (.bool t.m) := unhide cx 13 _ (by decide) rfl
      have x14 : wo.cell? ⟨b1, o1 + k * 17 + 14, none⟩ = some (.int .i64 t.n0) := unhide cx 14 _ (by decide) rfl
      have x15 : wo.cell? ⟨b1, o1 + k * 17 + 15, none⟩ = some (.int .i64 t.n1) := unhide cx 15 _ (by decide) rfl
      have x16 : wo.cell? ⟨b1, o1 + k * 17 + 16, none⟩ = some (.int .i64 t.n2) := unhide cx 16 _ (by decide) rfl
      have y0 : wo.cell? ⟨b2, o2 + k * 17, none⟩ = some (.int .i64 t.a0) := unhide cy 0 _ (by decide) rfl
      have y1 : wo.cell? ⟨b2, o2 + k * 17 + 1, none⟩ = some (.int .i64 t.a1) := unhide cy 1 _ (by decide) rfl
      have y2 : wo.cell? ⟨b2, o2 + k * 17 + 2, none⟩ = some (.int .i64 t.a2) := unhide cy 2 _ (by decide) rfl
      have y3 : wo.cell? ⟨b2, o2 + k * 17 + 3, none⟩ = some (.slice u2 n1 v2) := unhide cy 3 _ (by decide) rfl
      have y4 : wo.cell? ⟨b2, o2 + k * 17 + 4, none⟩ = some (.int .i64 t.b0) := unhide cy 4 _ (by decide) rfl
      have y5 : wo.cell? ⟨b2, o2 + k * 17 + 5, none⟩ = some (.bool t.b1) := unhide cy 5 _ (by decide) rfl
      have y6 : wo.cell? ⟨b2, o2 + k * 17 + 6, none⟩ = some (.bool t.b2) := unhide cy 6 _ (by decide) rfl
      have y7 : wo.cell? ⟨b2, o2 + k * 17 + 7, none⟩ = some (.int .i64 t.b3) := unhide cy 7 _ (by decide) rfl
      have y8 : wo.cell? ⟨b2, o2 + k * 17 + 8, none⟩ = some (.bool t.b4) := unhide cy 8 _ (by decide) rfl
      have y9 : wo.cell? ⟨b2, o2 + k * 17 + 9, none⟩ = some (.int .i64 t.b5) := unhide cy 9 _ (by decide) rfl
      have y10 : wo.cell? ⟨b2, o2 + k * 17 + 10, none⟩ = some (.bool t.b6) := unhide cy 10 _ (by decide) rfl
      have y11 : wo.cell? ⟨b2, o2 + k * 17 + 11, none⟩ = some (.int .i64 t.b7) := unhide cy 11 _ (by decide) rfl
      have y12 : wo.cell? ⟨b2, o2 + k * 17 + 12, none⟩ = some (.slice m2 n2 w2) := unhide cy 12 _ (by decide) rfl
      have y13 : wo.cell? ⟨b2, o2 + k * 17 + 13, none⟩ = some (.bool t.m) := unhide cy 13 _ (by decide) rfl
      have y14 : wo.cell? ⟨b2, o2 + k * 17 + 14, none⟩ = some (.int .i64 t.n0) := unhide cy 14 _ (by decide) rfl
      have y15 : wo.cell? ⟨b2, o2 + k * 17 + 15, none⟩ = some (.int .i64 t.n1) := unhide cy 15 _ (by decide) rfl
      have y16 : wo.cell? ⟨b2, o2 + k * 17 + 16, none⟩ = some (.int .i64 t.n2) := unhide cy 16 _ (by decide) rfl
      have GO := hide (unhide G)
      go_upto_region 5 with fail
      go_region_held3 (fun W => W.cell? ⟨z, 7, none⟩ = some (.slice (some ⟨b1, o1, none⟩) n c) ∧ W.cell? ⟨z + 1, 7, none⟩ = some (.slice (some ⟨b2, o2, none⟩) n c') ∧ W.cell? ⟨b1, o1 + k * 17, none⟩ = some (.int .i64 t.a0) ∧ W.cell? ⟨b1, o1 + k * 17 + 1, none⟩ = some (.int .i64 t.a1) ∧ W.cell? ⟨b1, o1 + k * 17 + 2, none⟩ = some (.int .i64 t.a2) ∧ W.cell? ⟨b1, o1 + k * 17 + 3, none⟩ = some (.slice u1 n1 v1) ∧ W.cell? ⟨b1, o1 + k * 17 + 4, none⟩ = some (.int .i64 t.b0) ∧ W.cell? ⟨b1, o1 + k * 17 + 5, none⟩ = some (.bool t.b1) ∧ W.cell? ⟨b1, o1 + k * 17 + 6, none⟩ = some (.bool t.b2) ∧ W.cell? ⟨b1, o1 + k * 17 + 7, none⟩ = some (.int .i64 t.b3) ∧ W.cell? ⟨b1, o1 + k * 17 + 8, none⟩ = some (.bool t.b4) ∧ W.cell? ⟨b1, o1 + k * 17 + 9, none⟩ = some (.int .i64 t.b5) ∧ W.cell? ⟨b1, o1 + k * 17 + 10, none⟩ = some (.bool t.b6) ∧ W.cell? ⟨b1, o1 + k * 17 + 11, none⟩ = some (.int .i64 t.b7) ∧ W.cell? ⟨b1, o1 + k * 17 + 12, none⟩ = some (.slice m1 n2 w1) ∧ W.cell? ⟨b1, o1 + k * 17 + 13, none⟩ = some (.bool t.m) ∧ W.cell? ⟨b1, o1 + k * 17 + 14, none⟩ = some (.int .i64 t.n0) ∧ W.cell? ⟨b1, o1 + k * 17 + 15, none⟩ = some (.int .i64 t.n1) ∧ W.cell? ⟨b1, o1 + k * 17 + 16, none⟩ = some (.int .i64 t.n2) ∧ W.cell? ⟨b2, o2 + k * 17, none⟩ = some (.int .i64 t.a0) ∧ W.cell? ⟨b2, o2 + k * 17 + 1, none⟩ = some (.int .i64 t.a1) ∧ W.cell? ⟨b2, o2 + k * 17 + 2, none⟩ = some (.int .i64 t.a2) ∧ W.cell? ⟨b2, o2 + k * 17 + 3, none⟩ = some (.slice u2 n1 v2) ∧ W.cell? ⟨b2, o2 + k * 17 + 4, none⟩ = some (.int .i64 t.b0) ∧ W.cell? ⟨b2, o2 + k * 17 + 5, none⟩ = some (.bool t.b1) ∧ W.cell? ⟨b2, o2 + k * 17 + 6, none⟩ = some (.bool t.b2) ∧ W.cell? ⟨b2, o2 + k * 17 + 7, none⟩ = some (.int .i64 t.b3) ∧ W.cell? ⟨b2, o2 + k * 17 + 8, none⟩ = some (.bool t.b4) ∧ W.cell? ⟨b2, o2 + k * 17 + 9, none⟩ = some (.int .i64 t.b5) ∧ W.cell? ⟨b2, o2 + k * 17 + 10, none⟩ = some (.bool t.b6) ∧ W.cell? ⟨b2, o2 + k * 17 + 11, none⟩ = some (.int .i64 t.b7) ∧ W.cell? ⟨b2, o2 + k * 17 + 12, none⟩ = some (.slice m2 n2 w2) ∧ W.cell? ⟨b2, o2 + k * 17 + 13, none⟩ = some (.bool t.m) ∧ W.cell? ⟨b2, o2 + k * 17 + 14, none⟩ = some (.int .i64 t.n0) ∧ W.cell? ⟨b2, o2 + k * 17 + 15, none⟩ = some (.int .i64 t.n1) ∧ W.cell? ⟨b2, o2 + k * 17 + 16, none⟩ = some (.int .i64 t.n2)) (go_keep) (first | (go_at_call 63; refine (unhide SM _ (grown_drewN _ _)).mono ?_; rintro e W9 ⟨rfl, g8⟩; have g9 := (grown_drewN wo _).trans g8; have p7' := cell_grown p7 g9; have q7' := cell_grown q7 g9; have x0' := cell_grown x0 g9; have x1' := cell_grown x1 g9; have x2' := cell_grown x2 g9; have x3' := cell_grown x3 g9; have x4' := cell_grown x4 g9; have x5' := cell_grown x5 g9; have x6' := cell_grown x6 g9; have x7' := cell_grown x7 g9; have x8' := cell_grown x8 g9; have x9' := cell_grown x9 g9; have x10' := cell_grown x10 g9; have x11' := cell_grown x11 g9; have x12' := cell_grown x12 g9; have x13' := cell_grown x13 g9; have x14' := cell_grown x14 g9; have x15' := cell_grown x15 g9; have x16' := cell_grown x16 g9; have y0' := cell_grown y0 g9; have y1' := cell_grown y1 g9; have y2' := cell_grown y2 g9; have y3' := cell_grown y3 g9; have y4' := cell_grown y4 g9; have y5' := cell_grown y5 g9; have y6' := cell_grown y6 g9; have y7' := cell_grown y7 g9; have y8' := cell_grown y8 g9; have y9' := cell_grown y9 g9; have y10' := cell_grown y10 g9; have y11' := cell_grown y11 g9; have y12' := cell_grown y12 g9; have y13' := cell_grown y13 g9; have y14' := cell_grown y14 g9; have y15' := cell_grown y15 g9; have y16' := cell_grown y16 g9))
      have GN := hide ((unhide G).trans g9)
      clear x0 x0' x1 x1' x2 x2' x3 x3' x4 x4' x5 x5' x6 x6' x7 x7' x8 x8' x9 x9' x10 x10' x11 x11' x12 x12' x13 x13' x14 x14' x15 x15' x16 x16' y0 y0' y1 y1' y2 y2' y3 y3' y4 y4' y5 y5' y6 y6' y7 y7' y8 y8' y9 y9' y10 y10' y11 y11' y12 y12' y13 y13' y14 y14' y15 y15' y16 y16' p7 q7 p7' q7' g8 g9 cx cy SM
      go_wp2_with fail
      exact ⟨⟨by simp, k + 1, hlt, by go_num, unhide GN⟩, by simp [intOf]; omega⟩
    · obtain rfl : k = n := by omega
      have kI : ¬ (k : Int) < (k : Int) := by omega
      have GF := hide ((unhide HH).2.2.2.2.trans (unhide G))
      go_wp2_with fail
      all_goals go_ret
      all_goals exact ⟨rfl, unhide GF⟩
end Go.Proofs.YtnflbefbgcbdfaaGreat

namespace Go.Proofs.YtnflbefbgcbdfaaGreat
open Go.RowKit
set_option linter.unusedVariables false
set_option linter.unusedSimpArgs false
set_option maxRecDepth 100000
set_option maxHeartbeats 4000000

/-- The kinds of a packet's frames are told. -/
def St.told (s : St) : Prop := ∃ ts : List TF, s.fs = ts.map TF.fr ∧ ∀ t ∈ ts, t.rs.length ≤ 9223372036854775807
theorem kv_shape {R : Nat → Prop} {W : World} {v : Value} {ks : List St} (h : KvAt R W v ks) : ∃ a c, v = .slice a ks.length c := by
  rcases h.sh with ⟨e1, e2⟩ | ⟨g, c, e, -⟩
  · exact ⟨none, 0, by rw [e1, e2]; rfl⟩
  · exact ⟨_, c, e⟩
theorem sames_eq (ks : List St) (hT : ∀ s ∈ ks, s.told) (hl : ks.length ≤ 9223372036854775807) (R R' : Nat → Prop) (v v' : Value) (w : World) (h : KvAt R w v ks) (h' : KvAt R' w v' ks) :
    Calls Tryz.prog 16 #[v, v'] w fun e w' => e = .returned (.bool true) ∧ w.grownBy w' none := by
  obtain ⟨a, c, rfl⟩ := kv_shape h
  obtain ⟨a', c', rfl⟩ := kv_shape h'
  have HH := hide (And.intro h (And.intro h' hT))
  obtain ⟨n, hn⟩ : ∃ n, n = ks.length := ⟨_, rfl⟩
  rw [← hn] at hl ⊢
  have HN := hide hn
  clear h h' hT hn
  go_enter Tryz.func16, Tryz.ntmps16
  go_wp2_with fail
  go_loopw [5, 6] (fun ov iv wr => ov = .bool true ∧ ∃ k : Nat, k ≤ n ∧ iv = .int .i64 k ∧ Hid (w.grownBy wr none)) (fun _ iv _ => n - (intOf iv).toNat)
  case atStart => exact ⟨by simp, 0, Nat.zero_le _, rfl, World.grownBy.refl w none⟩
  case round =>
    obtain ⟨rfl, k, hk, rfl, G⟩ := hrel
    obtain ⟨wo, hwo⟩ : ∃ wo, wo = wr := ⟨_, rfl⟩
    subst hwo
    by_cases hlt : k < n
    · obtain ⟨h, h', hT⟩ := unhide HH
      have hn := unhide HN
      obtain ⟨s, hs⟩ : ∃ s, ks[k]? = some s := ⟨_, List.getElem?_eq_getElem (by omega)⟩
      obtain ⟨ts, hts, hl2⟩ := hT s (List.mem_of_getElem? hs)
      have ne : ks ≠ [] := fun e => by rw [e] at hs; simp at hs
      obtain ⟨g1, rfl⟩ : ∃ g1, a = some ⟨g1, 0, none⟩ := by
        rcases h.sh with ⟨-, e2⟩ | ⟨g, c, e, -⟩
        · exact absurd e2 ne
        · injection e with e; exact ⟨g, e⟩
      obtain ⟨g2, rfl⟩ : ∃ g2, a' = some ⟨g2, 0, none⟩ := by
        rcases h'.sh with ⟨-, e2⟩ | ⟨g, c, e, -⟩
        · exact absurd e2 ne
        · injection e with e; exact ⟨g, e⟩
      obtain ⟨fv1, hf1, c1⟩ := (h.grown (unhide G)).get hs
      obtain ⟨fv2, hf2, c2⟩ := (h'.grown (unhide G)).get hs
      obtain ⟨u1, v1, rfl⟩ : ∃ u1 v1, fv1 = .slice u1 s.fs.length v1 := by obtain ⟨-, a, c, css, e, -⟩ := hf1; exact ⟨a, c, e⟩
      obtain ⟨u2, v2, rfl⟩ : ∃ u2 v2, fv2 = .slice u2 s.fs.length v2 := by obtain ⟨-, a, c, css, e, -⟩ := hf2; exact ⟨a, c, e⟩
      have SM := hide (fun W (g : wo.grownBy W none) => sameSent_eq s ts hts hl2 R R' u1 u2 v1 v2 W (hf1.grown g) (hf2.grown g))
      have cx : Hid (∀ (j : Nat) v, (s.cs (.slice u1 s.fs.length v1))[j]? = some v → wo.cell? ⟨g1, k * 8 + j, none⟩ = some v) := c1
      have cy : Hid (∀ (j : Nat) v, (s.cs (.slice u2 s.fs.length v2))[j]? = some v → wo.cell? ⟨g2, k * 8 + j, none⟩ = some v) := c2
      obtain ⟨m, hm⟩ : ∃ m, m = s.fs.length := ⟨_, rfl⟩
      rw [← hm] at cx cy SM
      unfold St.cs at SM
      have kI : (k : Int) < (n : Int) := by omega
      have k0 : (0 : Int) ≤ (k : Int) := by omega
      clear h h' hT hn hs hts hl2 ne hf1 hf2 c1 c2 hm
      have x0 : wo.cell? ⟨g1, k * 8, none⟩ = some (.int .i64 s.nu) := unhide cx 0 _ rfl
      have x1 : wo.cell? ⟨g1, k * 8 + 1, none⟩ = some (.int .i64 s.ti) := unhide cx 1 _ rfl
      have x2 : wo.cell? ⟨g1, k * 8 + 2, none⟩ = some (.int .i64 s.si) := unhide cx 2 _ rfl
      have x3 : wo.cell? ⟨g1, k * 8 + 3, none⟩ = some (.bool s.el) := unhide cx 3 _ rfl
      have x4 : wo.cell? ⟨g1, k * 8 + 4, none⟩ = some (.bool s.co) := unhide cx 4 _ rfl
      have x5 : wo.cell? ⟨g1, k * 8 + 5, none⟩ = some (.bool s.pr) := unhide cx 5 _ rfl
      have x6 : wo.cell? ⟨g1, k * 8 + 6, none⟩ = some (.int .i64 s.tl) := unhide cx 6 _ rfl
      have x7 : wo.cell? ⟨g1, k * 8 + 7, none⟩ = some (.slice u1 m v1) := unhide cx 7 _ rfl
      have y0 : wo.cell? ⟨g2, k * 8, none⟩ = some (.int .i64 s.nu) := unhide cy 0 _ rfl
      have y1 : wo.cell? ⟨g2, k * 8 + 1, none⟩ = some (.int .i64 s.ti) := unhide cy 1 _ rfl
      have y2 : wo.cell? ⟨g2, k * 8 + 2, none⟩ = some (.int .i64 s.si) := unhide cy 2 _ rfl
      have y3 : wo.cell? ⟨g2, k * 8 + 3, none⟩ = some (.bool s.el) := unhide cy 3 _ rfl
      have y4 : wo.cell? ⟨g2, k * 8 + 4, none⟩ = some (.bool s.co) := unhide cy 4 _ rfl
      have y5 : wo.cell? ⟨g2, k * 8 + 5, none⟩ = some (.bool s.pr) := unhide cy 5 _ rfl
      have y6 : wo.cell? ⟨g2, k * 8 + 6, none⟩ = some (.int .i64 s.tl) := unhide cy 6 _ rfl
      have y7 : wo.cell? ⟨g2, k * 8 + 7, none⟩ = some (.slice u2 m v2) := unhide cy 7 _ rfl
      go_upto_region 5 with fail
      go_region_held3 (fun W => W.cell? ⟨g1, k * 8, none⟩ = some (.int .i64 s.nu) ∧ W.cell? ⟨g1, k * 8 + 1, none⟩ = some (.int .i64 s.ti) ∧ W.cell? ⟨g1, k * 8 + 2, none⟩ = some (.int .i64 s.si) ∧ W.cell? ⟨g1, k * 8 + 3, none⟩ = some (.bool s.el) ∧ W.cell? ⟨g1, k * 8 + 4, none⟩ = some (.bool s.co) ∧ W.cell? ⟨g1, k * 8 + 5, none⟩ = some (.bool s.pr) ∧ W.cell? ⟨g1, k * 8 + 6, none⟩ = some (.int .i64 s.tl) ∧ W.cell? ⟨g1, k * 8 + 7, none⟩ = some (.slice u1 m v1) ∧ W.cell? ⟨g2, k * 8, none⟩ = some (.int .i64 s.nu) ∧ W.cell? ⟨g2, k * 8 + 1, none⟩ = some (.int .i64 s.ti) ∧ W.cell? ⟨g2, k * 8 + 2, none⟩ = some (.int .i64 s.si) ∧ W.cell? ⟨g2, k * 8 + 3, none⟩ = some (.bool s.el) ∧ W.cell? ⟨g2, k * 8 + 4, none⟩ = some (.bool s.co) ∧ W.cell? ⟨g2, k * 8 + 5, none⟩ = some (.bool s.pr) ∧ W.cell? ⟨g2, k * 8 + 6, none⟩ = some (.int .i64 s.tl) ∧ W.cell? ⟨g2, k * 8 + 7, none⟩ = some (.slice u2 m v2)) (go_keep) (first | (go_at_call 33; refine (unhide SM _ (grown_drewN _ _)).mono ?_; rintro e W9 ⟨rfl, g8⟩; have g9 := (grown_drewN wo _).trans g8; have x0' := cell_grown x0 g9; have x1' := cell_grown x1 g9; have x2' := cell_grown x2 g9; have x3' := cell_grown x3 g9; have x4' := cell_grown x4 g9; have x5' := cell_grown x5 g9; have x6' := cell_grown x6 g9; have x7' := cell_grown x7 g9; have y0' := cell_grown y0 g9; have y1' := cell_grown y1 g9; have y2' := cell_grown y2 g9; have y3' := cell_grown y3 g9; have y4' := cell_grown y4 g9; have y5' := cell_grown y5 g9; have y6' := cell_grown y6 g9; have y7' := cell_grown y7 g9))
      have GN := hide ((unhide G).trans g9)
      clear x0 x0' x1 x1' x2 x2' x3 x3' x4 x4' x5 x5' x6 x6' x7 x7' y0 y0' y1 y1' y2 y2' y3 y3' y4 y4' y5 y5' y6 y6' y7 y7' g8 g9 cx cy SM
      go_wp2_with fail
      exact ⟨⟨by simp, k + 1, hlt, by go_num, unhide GN⟩, by simp [intOf]; omega⟩
    · obtain rfl : k = n := by omega
      have kI : ¬ (k : Int) < (k : Int) := by omega
      have GF := hide (unhide G)
      go_wp2_with fail
      all_goals go_ret
      all_goals exact ⟨rfl, unhide GF⟩
end Go.Proofs.YtnflbefbgcbdfaaGreat
