/- PacketRow: found at any packet, rows of packets whose lists came in, samePackets with such a row. -/
import Derived.Test.YtnglgedcpmbbjaaRS
import Derived.Test.YtnglgedcpmbbjaaRB
import Derived.Test.YtnglgedcpmbbjaaKRW
namespace Go.Proofs.Ytnglgedcpmbbjaa
open Go.RowKit
open Sp (sepV Sep3 sep_nil sep_nil_r)
set_option linter.unusedVariables false
set_option maxRecDepth 100000
set_option maxHeartbeats 1000000

theorem spl_eq (l : List Int) (n : Int) (G : Lg) : ∀ f k, splF l n G f k = Rw.splF l n G f k
  | 0, k => rfl
  | f + 1, k => by
    show (if _ then _ else _) = (if _ then _ else _)
    simp only [spl_eq l n G f]
def LaidF (G : Lg) (ps : List Pk) : Prop := ∀ p ∈ ps, Good p ∧ foundP p G = p ∧ p.space ≠ 2
theorem laid_of {n : Int} {G : Lg} : ∀ {ps : List Pk}, LaidF G ps → Rw.Laid n G false ps
  | [], _ => .nil
  | p :: ps, h => .cons false p ps (h p (by simp)).1 (h p (by simp)).2.1 (h p (by simp)).2.2 (laid_of fun q hq => h q (by simp [hq]))
theorem laid_last {G : Lg} {q : Pk} (g : Good q) (hf : foundP q G = q) (h2 : q.space = 2) : ∀ {ps : List Pk}, LaidF G ps → Rw.Laid (q.dst.length : Int) G true (ps ++ [q])
  | [], _ => .last q g hf h2 rfl
  | p :: ps, h => .cons true p (ps ++ [q]) (h p (by simp)).1 (h p (by simp)).2.1 (h p (by simp)).2.2 (laid_last g hf h2 fun q' hq => h q' (by simp [hq]))
theorem LaidF.snoc {G : Lg} {ps : List Pk} {q : Pk} (h : LaidF G ps) (g : Good q) (hf : foundP q G = q) (h2 : q.space ≠ 2) : LaidF G (ps ++ [q]) := fun p hp => by
  rcases List.mem_append.1 hp with hp | hp
  · exact h p hp
  · simp only [List.mem_singleton] at hp; subst hp; exact ⟨g, hf, h2⟩

/-- What the packets may take, laid one behind the other. -/
def tot : List PV → Nat
  | [] => 0
  | x :: r => x.p.payload.length + 60 + tot r

/-- Packets that came in. -/
structure IsPks (w : World) (a : Option Addr) (len cap : Nat) (xs : List PV) : Prop where
  hlen : xs.length = len
  hcap : len ≤ cap ∧ cap ≤ 9223372036854775807
  in_ : ∀ x ∈ xs, InB w x.d x.p.dst ∧ InB w x.s x.p.src ∧ InB w x.y x.p.payload
  ln : ∀ x ∈ xs, x.p.dst.length ≤ 140737488351232 ∧ x.p.src.length ≤ 140737488351232 ∧ x.p.payload.length ≤ 140737488351232
  cell : len = 0 ∨ ∃ b off, a = some ⟨b, off, none⟩ ∧ ∀ i x, xs[i]? = some x → ∀ j, j < 6 → w.cell? ⟨b, off + i * 6 + j, none⟩ = x.cl[j]?

/-- found, at any packet. -/
def foundB (p : Pk) (G : Lg) : Bool := decide (((0 ≤ p.number ∧ p.number ≤ MAXP) ∧ (1 ≤ p.width ∧ p.width ≤ 4) ∧ 0 ≤ p.space ∧ p.space ≤ 2) ∧ wholeV (G.at p.space) (p.number % st p.width) p.width = p.number)

theorem found_p {p : Pk} {G : Lg} (h : foundB p G = true) : foundP p G = p := by
  have := (of_decide_eq_true h).2
  unfold foundP
  rw [this]
theorem found_all (p : Pk) (G : Lg) (hG : okG G) (d s y : Value) (w : World) :
    Calls Try.prog 6 #[p.val d s y, G.v] w fun e w' => e = .returned (.bool (foundB p G)) ∧ w.grownBy w' none := by
  by_cases h1 : (0 ≤ p.number ∧ p.number ≤ MAXP) ∧ (1 ≤ p.width ∧ p.width ≤ 4)
  · by_cases h2 : 0 ≤ p.space ∧ p.space ≤ 2
    · have g : Good { p with dst := [], src := [], payload := [] } := ⟨by show p.space = 0 ∨ p.space = 1 ∨ p.space = 2; omega, by simp, by simp, fun _ => rfl, h1.2, h1.1, fun _ => by show p.width + _ ≤ _; simp; omega⟩
      refine (found_any _ g G hG d s y w).mono ?_
      rintro e w' ⟨rfl, gr⟩
      refine ⟨?_, gr⟩
      have : foundB p G = decide (wholeV (G.at p.space) (p.number % st p.width) p.width = p.number) := by
        unfold foundB
        by_cases c : wholeV (G.at p.space) (p.number % st p.width) p.width = p.number
        · rw [decide_eq_true ⟨⟨h1.1, h1.2, h2⟩, c⟩, decide_eq_true c]
        · rw [decide_eq_false (fun h => c h.2), decide_eq_false c]
      rw [this]
    · have F : foundB p G = false := decide_eq_false (fun h => h2 h.1.2.2)
      rw [F]
      obtain ⟨sp, dst, src, num, wd, pay⟩ := p
      simp only at h1 h2
      have hc := fun W => cut_good num wd W h1.1.1 h1.1.2 h1.2
      obtain ⟨bP, bG, gA⟩ := Blk.two w (pcs sp d s num wd y) #[.int .i64 G.1, .int .i64 G.2.1, .int .i64 G.2.2] 30 23
      have x0 := bP.cell 0 (.int .i64 sp) rfl
      have x3 := bP.cell 3 (.int .i64 num) rfl
      have x4 := bP.cell 4 (.int .i64 wd) rfl
      have hst := st_pos wd
      have q0 : 0 ≤ num % st wd ∧ num % st wd < st wd := ⟨Int.emod_nonneg _ (by omega), Int.emod_lt_of_pos _ hst.1⟩
      have E := hide gA
      clear F gA bP bG h1 hG
      generalize num % st wd = low at *
      by_cases hn : sp < 0
      · clear h2
        go_enter Try.func6, Try.ntmps6
        go_wp2_with fail
        refine (hc _).mono ?_
        rintro e W1 ⟨rfl, hw1⟩
        subst hw1
        go_wp2_with fail
        go_ret
        exact ⟨rfl, unhide E⟩
      · have hp : 2 < sp := by omega
        clear h2
        go_enter Try.func6, Try.ntmps6
        go_wp2_with fail
        refine (hc _).mono ?_
        rintro e W1 ⟨rfl, hw1⟩
        subst hw1
        go_wp2_with fail
        go_ret
        exact ⟨rfl, unhide E⟩
  · have F : foundB p G = false := decide_eq_false (fun h => h1 ⟨h.1.1, h.1.2.1⟩)
    rw [F]
    obtain ⟨sp, dst, src, num, wd, pay⟩ := p
    simp only at h1
    have hc := fun W => cut_bad num wd W (by have e : MAXP = 4611686018427387903 := rfl; omega)
    obtain ⟨bP, bG, gA⟩ := Blk.two w (pcs sp d s num wd y) #[.int .i64 G.1, .int .i64 G.2.1, .int .i64 G.2.2] 30 23
    have x0 := bP.cell 0 (.int .i64 sp) rfl
    have x3 := bP.cell 3 (.int .i64 num) rfl
    have x4 := bP.cell 4 (.int .i64 wd) rfl
    have E := hide gA
    clear F gA bP bG h1 hG
    go_enter Try.func6, Try.ntmps6
    go_wp2_with fail
    refine (hc _).mono ?_
    rintro e W1 ⟨rfl, hw1⟩
    subst hw1
    go_wp2_with fail
    go_ret
    exact ⟨rfl, unhide E⟩

/-- One packet more. -/
theorem row_push {B : Nat} {w : World} {lv : Value} {ps : List PV} (h : w.ownsRow B 30 6 lv ps.length (ps.flatMap PV.cl)) (x : PV) (one : ∀ u ∈ x.cl, u.oneCell' = true) (few : ps.length ≤ 1000000000) (hB : B ≤ w.heap.size) :
    ∃ g c w', (Builtin.append_ #[22, 22] 22 #[lv, .slice (some ⟨w.heap.size, 0, none⟩) 1 1]).run Try.prog (w.alloc (.cells (x.p.cs x.d x.s x.y) 30)) = .ok (.slice (some ⟨g, 0, none⟩) (ps.length + 1) c) w'
      ∧ w'.ownsRow B 30 6 (.slice (some ⟨g, 0, none⟩) (ps.length + 1) c) (ps ++ [x]).length ((ps ++ [x]).flatMap PV.cl) ∧ Below B w w' ∧ ∀ v n xs, w.ownsRow B 5 1 v n xs → w'.ownsRow B 5 1 v n xs := by
  obtain ⟨inf, hi0, hz0, hz1, hz2⟩ := info_parts Try.infoP
  have hsz := alloc_size w (.cells (x.p.cs x.d x.s x.y) 30)
  have gA := World.grownBy_alloc w (.cells (x.p.cs x.d x.s x.y) 30) none
  have h1 := row_kpt h (w' := w.alloc (.cells (x.p.cs x.d x.s x.y) 30)) (fun i _ hi _ => gA.block i hi (by simp))
  have hnews : ∀ (i : Nat) u, x.cl[i]? = some u → (w.alloc (.cells (x.p.cs x.d x.s x.y) 30)).cell? ((⟨w.heap.size, 0, none⟩ : Addr).add i) = some u := fun i u hu => by
    rw [show (⟨w.heap.size, 0, none⟩ : Addr).add i = ⟨w.heap.size, i, none⟩ by simp [Addr.add]; exact fun e => e.symm]
    simp only [World.cell?, heap_alloc_new]
    rw [← hu]
    simp [PV.cl]
  obtain ⟨v5, W5, hrun, o5, g5, -⟩ := run_append_own (P := Try.prog) (w.alloc (.cells (x.p.cs x.d x.s x.y) 30)) B 22 22 30 inf (.agg (pcs 0 nilV nilV 0 0 nilV)) 6 96 Try.underlying22 hi0 hz0 hz1 hz2 rfl (by decide) lv ps.length (ps.flatMap PV.cl) h1 ⟨w.heap.size, 0, none⟩ 1 1 x.cl rfl hnews one (by unfold maxLen; omega) (by omega) (by omega)
  obtain ⟨h5, c5, rfl⟩ : ∃ h5 c5, v5 = .slice (some ⟨h5, 0, none⟩) (ps.length + 1) c5 := by
    rcases o5.2 with ⟨-, e⟩ | ⟨g6, cap, cur, e, -⟩
    · omega
    · exact ⟨g6, cap, e⟩
  refine ⟨h5, c5, W5, hrun, ?_, ((Below.refl B w).alloc hB _).grown g5 (by omega) (fun k e => (h1.lt k e).1), fun v n xs ho => ?_⟩
  · have e1 : (ps ++ [x]).length = ps.length + 1 := by simp
    have e2 : (ps ++ [x]).flatMap PV.cl = ps.flatMap PV.cl ++ x.cl := by simp
    rw [e1, e2]; exact o5
  · have ho1 := row_kpt ho (w' := w.alloc (.cells (x.p.cs x.d x.s x.y) 30)) (fun i _ hi _ => gA.block i hi (by simp))
    exact row_kpt ho1 (fun g _ hl e => g5.block g hl (row_ne ho1 h1 (by decide) e))

theorem row_cell {B : Nat} {w : World} {gl n cl : Nat} {ps : List PV} (h : w.ownsRow B 30 6 (.slice (some ⟨gl, 0, none⟩) n cl) ps.length (ps.flatMap PV.cl)) (k : Nat) (x : PV) (hk : ps[k]? = some x) (j : Nat) (hj : j < 6) : w.cell? ⟨gl, k * 6 + j, none⟩ = x.cl[j]? := by
  rcases h.2 with ⟨e, -⟩ | ⟨g, cap, cur, e, q1, q2, q3, q4, q5, q6⟩
  · cases e
  · simp only [Value.slice.injEq, Option.some.injEq, Addr.mk.injEq, and_true] at e
    obtain ⟨rfl, rfl, rfl⟩ := e
    have hlt : k < ps.length := by
      by_cases c : k < ps.length
      · exact c
      · rw [List.getElem?_eq_none (by omega)] at hk; cases hk
    simp only [World.cell?, q2]
    have e : (cur.toList.take (ps.length * 6))[k * 6 + j]? = (ps.flatMap PV.cl)[k * 6 + j]? := by rw [q6]
    rw [List.getElem?_take, if_pos (by omega), Array.getElem?_toList] at e
    rw [e]
    exact flat_six PV.cl 6 (fun _ => rfl) ps k x hk j hj
theorem row_some {B : Nat} {w : World} {a : Option Addr} {n c : Nat} {ps : List PV} (h : w.ownsRow B 30 6 (.slice a n c) ps.length (ps.flatMap PV.cl)) (hn : ps.length = n) (h0 : 0 < n) : ∃ g, a = some ⟨g, 0, none⟩ ∧ n ≤ c ∧ c ≤ 9223372036854775807 := by
  rcases h.2 with ⟨e, e2⟩ | ⟨g, cap, cur, e, q1, q2, q3, q4, q5, q6⟩
  · omega
  · simp only [Value.slice.injEq] at e
    obtain ⟨rfl, e2, rfl⟩ := e
    unfold maxLen at q4
    exact ⟨g, rfl, by omega, by omega⟩

theorem shapeI {w : World} {v : Value} {l : List Int} (h : InB w v l) : ∃ u c, v = .slice u l.length c := by
  obtain ⟨a, c, e, -⟩ := h
  exact ⟨a, c, e⟩
theorem InB.one {w : World} {v : Value} {l : List Int} (h : InB w v l) : v.oneCell' = true := by
  obtain ⟨a, c, rfl, -⟩ := h
  rfl

theorem samePk_in (B1 B2 : Nat) (a1 a2 : Option Addr) (m c1 c2 : Nat) (ps qs : List PV) (w : World) (h1 : PRow0 B1 w (.slice a1 m c1) ps) (h2 : w.ownsRow B2 30 6 (.slice a2 m c2) qs.length (qs.flatMap PV.cl)) (i2 : ∀ y ∈ qs, InB w y.d y.p.dst ∧ InB w y.s y.p.src ∧ InB w y.y y.p.payload) (l1 : ps.length = m) (he : ps.map PV.p = qs.map PV.p) (hg : ∀ x ∈ ps, Good1 x.p) (few : m ≤ 100000000) :
    Calls Try.prog 8 #[.slice a1 m c1, .slice a2 m c2] w fun e w' => e = .returned (.bool true) ∧ w.grownBy w' none := by
  have l2 : qs.length = m := by rw [← l1, ← List.length_map (f := PV.p), ← he, List.length_map]
  have hml : ¬ (9223372036854775807 : Int) < (m : Int) := by omega
  by_cases h0 : m = 0
  · subst h0
    have E := hide (World.grownBy.refl w none)
    clear h1 h2 i2 he hg l1 l2
    go_enter Try.func8, Try.ntmps8
    go_wp2_with fail
    go_loopw [5] (fun i wr => i = .int .i64 0 ∧ wr = w) (fun i _ => 0)
    case atStart => exact ⟨rfl, rfl⟩
    case round =>
      obtain ⟨rfl, rfl⟩ := hrel
      go_wp2_with fail
      go_ret
      exact ⟨rfl, unhide E⟩
  obtain ⟨g1, rfl, k1, k2, -, -⟩ := h1.some_ l1 (by omega)
  obtain ⟨g2, rfl, k3, k4⟩ := row_some h2 l2 (by omega)
  have mm : ((m : Int) != (m : Int)) = false := by simp
  have P1 := hide h1; have P2 := hide h2; have I2 := hide i2; have HE := hide he; have HG := hide hg; have L1 := hide l1; have L2 := hide l2
  clear h1 h2 i2 he hg l1 l2
  go_enter Try.func8, Try.ntmps8
  go_wp2_with fail
  go_loopw [5] (fun i wr => ∃ k : Nat, k ≤ m ∧ i = .int .i64 k ∧ w.grownBy wr none) (fun i _ => m - (intOf i).toNat)
  case atStart => exact ⟨0, Nat.zero_le _, rfl, World.grownBy.refl w none⟩
  case round =>
    obtain ⟨k, hk, rfl, gr⟩ := hrel
    by_cases hlt : k < m
    · have kN : (k : Int) < (m : Int) := by omega
      have q1 := (unhide P1).grown gr
      have q2 := row_kpt (unhide P2) (w' := wr) (fun i _ hi _ => gr.block i hi (by simp))
      obtain ⟨x, hx⟩ : ∃ x, ps[k]? = some x := ⟨ps[k]'(by have := unhide L1; omega), by simp⟩
      obtain ⟨y, hy⟩ : ∃ y, qs[k]? = some y := ⟨qs[k]'(by have := unhide L2; omega), by simp⟩
      have hp : x.p = y.p := by
        have e : (ps.map PV.p)[k]? = (qs.map PV.p)[k]? := by rw [unhide HE]
        rw [List.getElem?_map, List.getElem?_map, hx, hy] at e
        simpa using e
      have xi := q1.own x (List.mem_of_getElem? hx)
      have yi := unhide I2 y (List.mem_of_getElem? hy)
      have gx := unhide HG x (List.mem_of_getElem? hx)
      have x0 : wr.cell? ⟨g1, k * 6, none⟩ = some (.int .i64 x.p.space) := q1.cell k x hx 0 (by omega)
      have x1 : wr.cell? ⟨g1, k * 6 + 1, none⟩ = some x.d := q1.cell k x hx 1 (by omega)
      have x2 : wr.cell? ⟨g1, k * 6 + 2, none⟩ = some x.s := q1.cell k x hx 2 (by omega)
      have x3 : wr.cell? ⟨g1, k * 6 + 3, none⟩ = some (.int .i64 x.p.number) := q1.cell k x hx 3 (by omega)
      have x4 : wr.cell? ⟨g1, k * 6 + 4, none⟩ = some (.int .i64 x.p.width) := q1.cell k x hx 4 (by omega)
      have x5 : wr.cell? ⟨g1, k * 6 + 5, none⟩ = some x.y := q1.cell k x hx 5 (by omega)
      have y0 : wr.cell? ⟨g2, k * 6, none⟩ = some (.int .i64 y.p.space) := row_cell q2 k y hy 0 (by omega)
      have y1 : wr.cell? ⟨g2, k * 6 + 1, none⟩ = some y.d := row_cell q2 k y hy 1 (by omega)
      have y2 : wr.cell? ⟨g2, k * 6 + 2, none⟩ = some y.s := row_cell q2 k y hy 2 (by omega)
      have y3 : wr.cell? ⟨g2, k * 6 + 3, none⟩ = some (.int .i64 y.p.number) := row_cell q2 k y hy 3 (by omega)
      have y4 : wr.cell? ⟨g2, k * 6 + 4, none⟩ = some (.int .i64 y.p.width) := row_cell q2 k y hy 4 (by omega)
      have y5 : wr.cell? ⟨g2, k * 6 + 5, none⟩ = some y.y := row_cell q2 k y hy 5 (by omega)
      obtain ⟨xp, xd, xs, xy⟩ := x
      obtain ⟨yp, yd, ys, yy⟩ := y
      obtain rfl : xp = yp := hp
      have sm := fun W (gW : wr.grownBy W none) => same05 xp xd xs xy yd ys yy W ((xi.d.inB gx.bd).grown gW) ((xi.s.inB gx.bs).grown gW) ((xi.y.inB gx.by_).grown gW) ((yi.1.grown gr).grown gW) ((yi.2.1.grown gr).grown gW) ((yi.2.2.grown gr).grown gW)
      obtain ⟨u1, v1, rfl⟩ : ∃ u v, xd = .slice u xp.dst.length v := xi.d.shape
      obtain ⟨u2, v2, rfl⟩ : ∃ u v, xs = .slice u xp.src.length v := xi.s.shape
      obtain ⟨u3, v3, rfl⟩ : ∃ u v, xy = .slice u xp.payload.length v := xi.y.shape
      obtain ⟨u4, v4, rfl⟩ : ∃ u v, yd = .slice u xp.dst.length v := shapeI yi.1
      obtain ⟨u5, v5, rfl⟩ : ∃ u v, ys = .slice u xp.src.length v := shapeI yi.2.1
      obtain ⟨u6, v6, rfl⟩ : ∃ u v, yy = .slice u xp.payload.length v := shapeI yi.2.2
      have SM := hide sm; have GR := hide gr
      clear sm gr xi yi gx hx hy q1 q2 HE HG P1 P2 I2
      dsimp only at x0 x1 x2 x3 x4 x5 y0 y1 y2 y3 y4 y5
      generalize xp.dst.length = n1 at *
      generalize xp.src.length = n2 at *
      generalize xp.payload.length = n3 at *
      go_upto_region 6 with fail
      go_region_held3 (fun W => W.cell? ⟨g1, k * 6, none⟩ = some (.int .i64 xp.space) ∧ W.cell? ⟨g1, k * 6 + 1, none⟩ = some (.slice u1 n1 v1) ∧ W.cell? ⟨g1, k * 6 + 2, none⟩ = some (.slice u2 n2 v2) ∧ W.cell? ⟨g1, k * 6 + 3, none⟩ = some (.int .i64 xp.number) ∧ W.cell? ⟨g1, k * 6 + 4, none⟩ = some (.int .i64 xp.width) ∧ W.cell? ⟨g1, k * 6 + 5, none⟩ = some (.slice u3 n3 v3) ∧ W.cell? ⟨g2, k * 6, none⟩ = some (.int .i64 xp.space) ∧ W.cell? ⟨g2, k * 6 + 1, none⟩ = some (.slice u4 n1 v4) ∧ W.cell? ⟨g2, k * 6 + 2, none⟩ = some (.slice u5 n2 v5) ∧ W.cell? ⟨g2, k * 6 + 3, none⟩ = some (.int .i64 xp.number) ∧ W.cell? ⟨g2, k * 6 + 4, none⟩ = some (.int .i64 xp.width) ∧ W.cell? ⟨g2, k * 6 + 5, none⟩ = some (.slice u6 n3 v6)) (go_keep) (first
        | (go_at_call 16; refine (unhide SM _ (by (first | with_reducible exact World.grownBy.refl _ none | with_reducible exact grown_drew' (World.grownBy.refl _ none) | with_reducible exact grown_drewN (World.grownBy.refl _ none) | with_reducible exact World.grownBy_alloc _ _ none | with_reducible exact grown_drew' (World.grownBy_alloc _ _ none) | with_reducible exact (grown_drew' (World.grownBy.refl _ none)).trans (World.grownBy_alloc _ _ none) | with_reducible exact (grown_drewN (World.grownBy.refl _ none)).trans (World.grownBy_alloc _ _ none)))).mono ?_; rintro e Ws ⟨rfl, gs⟩; have gs' : World.grownBy wr Ws none := World.grownBy.trans (by (first | with_reducible exact World.grownBy.refl _ none | with_reducible exact grown_drew' (World.grownBy.refl _ none) | with_reducible exact grown_drewN (World.grownBy.refl _ none) | with_reducible exact World.grownBy_alloc _ _ none | with_reducible exact grown_drew' (World.grownBy_alloc _ _ none) | with_reducible exact (grown_drew' (World.grownBy.refl _ none)).trans (World.grownBy_alloc _ _ none) | with_reducible exact (grown_drewN (World.grownBy.refl _ none)).trans (World.grownBy_alloc _ _ none))) gs; have z0 := cell_grown x0 gs'; have z1 := cell_grown x1 gs'; have z2 := cell_grown x2 gs'; have z3 := cell_grown x3 gs'; have z4 := cell_grown x4 gs'; have z5 := cell_grown x5 gs'; have s0 := cell_grown y0 gs'; have s1 := cell_grown y1 gs'; have s2 := cell_grown y2 gs'; have s3 := cell_grown y3 gs'; have s4 := cell_grown y4 gs'; have s5 := cell_grown y5 gs'))
      have E := hide ((unhide GR).trans gs')
      clear SM gs gs' z0 z1 z2 z3 z4 z5 s0 s1 s2 s3 s4 s5
      go_wp2_with fail
      exact ⟨⟨k + 1, hlt, by go_num, unhide E⟩, by simp [intOf]; omega⟩
    · obtain rfl : k = m := by omega
      have kN : ¬ (k : Int) < (k : Int) := by omega
      have E := hide gr
      clear gr P1 P2 I2 HE HG
      go_wp2_with fail
      go_ret
      exact ⟨rfl, unhide E⟩

end Go.Proofs.Ytnglgedcpmbbjaa
