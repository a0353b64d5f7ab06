/- mayBe. -/
import Derived.Test.YtggjeamondampaaFR
import Derived.Test.YtggjeamondampaaFJ
import Derived.Maps.Range
import Derived.Laws.StructEq
import Derived.ChangeKeysEq
import Derived.BigQuiet
namespace Go.Proofs.Ytggjeamondampaa
open Go.RowKit
set_option linter.unusedVariables false
set_option maxRecDepth 100000
set_option maxHeartbeats 40000000

abbrev Parts := Nat × Nat × Nat × Nat
def nth (p : Parts) (k : Nat) : Nat := if k = 0 then p.1 else if k = 1 then p.2.1 else if k = 2 then p.2.2.1 else p.2.2.2

/-- What is left of a frame, and its lists, behind so many parts. -/
def leftF (f : Fr) (p : Parts) : Nat → Fr
  | 0 => f
  | k + 1 => takeF (leftF f p k) (nth p k)
def leftD (d : Value) (p : Parts) : Nat → Value
  | 0 => d
  | k + 1 => takeD (nth p k) (leftD d p k)
def leftR (r : Value) (p : Parts) : Nat → Value
  | 0 => r
  | k + 1 => takeR (nth p k) (leftR r p k)
def fitsTo (f : Fr) (p : Parts) : Nat → Bool
  | 0 => true
  | k + 1 => fitsTo f p k && fitsW f (nth p k)

def mayW (f bare : Fr) (p : Parts) : Bool := fitsTo f p 4 && bareF (leftF f p 4) bare

theorem fitsTo_false {f : Fr} {p : Parts} {k : Nat} (h : fitsTo f p k = false) : ∀ n, k ≤ n → fitsTo f p n = false := by
  intro n hn
  induction n with
  | zero => obtain rfl : k = 0 := by omega
            exact h
  | succ n ih =>
    by_cases e : k = n + 1
    · rw [← e]; exact h
    · simp only [fitsTo]; rw [ih (by omega)]; rfl

theorem takeF_lists (f : Fr) (q : Nat) : ((takeF f q).data = [] ∧ (q = 11 ∨ q = 12 ∨ q = 13) ∨ (takeF f q).data = f.data ∧ ¬ (q = 11 ∨ q = 12 ∨ q = 13)) ∧ ((takeF f q).runs = [] ∧ q = 9 ∨ (takeF f q).runs = f.runs ∧ ¬ q = 9) := by
  by_cases h0 : q = 0 ∨ q = 8
  · have e : takeF f q = f := by unfold takeF; rw [if_pos h0]
    rw [e]; exact ⟨.inr ⟨rfl, by omega⟩, .inr ⟨rfl, by omega⟩⟩
  by_cases h1 : q = 9
  · have e : takeF f q = { f with runs := [] } := by unfold takeF; rw [if_neg h0, if_pos h1]
    rw [e]; exact ⟨.inr ⟨rfl, by omega⟩, .inl ⟨rfl, h1⟩⟩
  by_cases h2 : q = 10
  · have e : takeF f q = { f with c0 := 0, c1 := 0, c2 := 0 } := by unfold takeF; rw [if_neg h0, if_neg h1, if_pos h2]
    rw [e]; exact ⟨.inr ⟨rfl, by omega⟩, .inr ⟨rfl, h1⟩⟩
  by_cases h3 : q = 11 ∨ q = 12 ∨ q = 13
  · have e : takeF f q = { f with data := [] } := by unfold takeF; rw [if_neg h0, if_neg h1, if_neg h2, if_pos h3]
    rw [e]; exact ⟨.inl ⟨rfl, h3⟩, .inr ⟨rfl, h1⟩⟩
  · have e : takeF f q = setF f q 0 := by unfold takeF; rw [if_neg h0, if_neg h1, if_neg h2, if_neg h3]
    have e1 : (setF f q 0).data = f.data := by unfold setF; (repeat' split) <;> rfl
    have e2 : (setF f q 0).runs = f.runs := by unfold setF; (repeat' split) <;> rfl
    rw [e, e1, e2]; exact ⟨.inr ⟨rfl, h3⟩, .inr ⟨rfl, h1⟩⟩

theorem left_lists (f : Fr) (p : Parts) (a1 a2 : Option Addr) (c1 c2 : Nat) : ∀ k, (∃ a c, leftD (.slice a1 f.data.length c1) p k = .slice a (leftF f p k).data.length c) ∧ (∃ a c, leftR (.slice a2 f.runs.length c2) p k = .slice a (leftF f p k).runs.length c)
  | 0 => ⟨⟨_, _, rfl⟩, ⟨_, _, rfl⟩⟩
  | k + 1 => by
    obtain ⟨⟨a, c, e1⟩, ⟨b, d, e2⟩⟩ := left_lists f p a1 a2 c1 c2 k
    have h := takeF_lists (leftF f p k) (nth p k)
    refine ⟨?_, ?_⟩
    · show ∃ a c, takeD (nth p k) _ = .slice a (takeF (leftF f p k) (nth p k)).data.length c
      unfold takeD
      rcases h.1 with ⟨q1, q2⟩ | ⟨q1, q2⟩
      · rw [if_pos q2, q1]; exact ⟨_, _, rfl⟩
      · rw [if_neg q2, q1]; exact ⟨_, _, e1⟩
    · show ∃ a c, takeR (nth p k) _ = .slice a (takeF (leftF f p k) (nth p k)).runs.length c
      unfold takeR
      rcases h.2 with ⟨q1, q2⟩ | ⟨q1, q2⟩
      · rw [if_pos q2, q1]; exact ⟨_, _, rfl⟩
      · rw [if_neg q2, q1]; exact ⟨_, _, e2⟩

/-- What the loop holds: the frame, the bare one, what is left. -/
structure MB (w : World) (C Cb Cr : Array Value) (W : World) : Prop where
  b0 : Blk W w.heap.size C 26
  b1 : Blk W (w.heap.size + 1) Cb 26
  b3 : Blk W (w.heap.size + 1 + 1 + 1) Cr 26
  gr : w.grownBy W none
theorem MB.grown {w W W' : World} {C Cb Cr : Array Value} (h : MB w C Cb Cr W) (g : W.grownBy W' none) : MB w C Cb Cr W' := ⟨h.b0.grown g, h.b1.grown g, h.b3.grown g, h.gr.trans g⟩
theorem MB.take {w W W' : World} {C Cb Cr Cr' : Array Value} (h : MB w C Cb Cr W) (b : Blk W' (w.heap.size + 1 + 1 + 1) Cr' 26) (g : W.grownBy W' (some (w.heap.size + 1 + 1 + 1))) : MB w C Cb Cr' W' := by
  refine ⟨(g.block _ h.b0.lt (by simp; omega)).trans h.b0, (g.block _ h.b1.lt (by simp)).trans h.b1, b, ⟨g.os.trans h.gr.os, g.tape.trans h.gr.tape, g.output.trans h.gr.output, Nat.le_trans h.gr.size g.size, fun k hk _ => ?_⟩⟩
  exact (g.block k (Nat.lt_of_lt_of_le hk h.gr.size) (by simp; omega)).trans (h.gr.block k hk (by simp))

theorem ix4 (p : Parts) (k : Nat) (h : k < 4) (w : World) : (Instr.index 115 (p4 p) (.int .i64 (k : Int))).run Try.prog w = .ok (.int .i64 (nth p k : Nat)) w := by
  rcases (by omega : k = 0 ∨ k = 1 ∨ k = 2 ∨ k = 3) with rfl | rfl | rfl | rfl <;> kernel_rfl

theorem Try.infoI2 : (Try.prog.info? 2).map (fun i => (i.zero, i.size, i.bytes)) = some (some (.int .i64 0), 1, 8) := by kernel_rfl
theorem Try.undI2 : Try.prog.underlying 2 = some (.int .i64) := by kernel_rfl
theorem Try.undA3 : Try.prog.underlying 24 = some (.array 3 2) := by kernel_rfl
theorem Try.cellsI2 : Try.prog.cellsOf 2 = 1 := by kernel_rfl
/-- Three numbers against three. -/
theorem eq3g (a0 a1 a2 b0 b1 b2 : Int) (W : World) : (Op.equalIn 10000 24 (.agg #[.int .i64 a0, .int .i64 a1, .int .i64 a2]) (.agg #[.int .i64 b0, .int .i64 b1, .int .i64 b2])).run Try.prog W = .ok (decide (a0 = b0 ∧ a1 = b1 ∧ a2 = b2)) W := by
  obtain ⟨i, hi, -, hz, -⟩ := info_parts Try.infoI2
  rw [run_equalIn_array W 9999 _ _ Try.undA3 hi]
  have hp : ∀ (xs : Array Value) (j : Nat) (v : Value), xs[j]? = some v → (part 2 xs j).run Try.prog W = .ok v W := fun xs j v hv => by
    simp [part, sizeOf, typeInfo, hi, hz, hv]
  simp only [show List.range 3 = [0, 1, 2] from rfl, Op.eqItems, Sem.run_bind, Try.cellsI2, Nat.zero_mul, Nat.one_mul, Nat.reduceMul]
  have hq : ∀ a b : Int, (Op.equalIn 9999 2 (.int .i64 a) (.int .i64 b)).run Try.prog W = .ok (a == b) W := fun a b => run_equalIn_int W 9998 2 .i64 .i64 a b Try.undI2
  have f0 := hp #[.int .i64 a0, .int .i64 a1, .int .i64 a2] 0 (.int .i64 a0) rfl
  have f1 := hp #[.int .i64 a0, .int .i64 a1, .int .i64 a2] 1 (.int .i64 a1) rfl
  have f2 := hp #[.int .i64 a0, .int .i64 a1, .int .i64 a2] 2 (.int .i64 a2) rfl
  have g0 := hp #[.int .i64 b0, .int .i64 b1, .int .i64 b2] 0 (.int .i64 b0) rfl
  have g1 := hp #[.int .i64 b0, .int .i64 b1, .int .i64 b2] 1 (.int .i64 b1) rfl
  have g2 := hp #[.int .i64 b0, .int .i64 b1, .int .i64 b2] 2 (.int .i64 b2) rfl
  rw [f0]
  simp only [Result.andThen_ok]
  rw [g0]
  simp only [Result.andThen_ok, hq]
  by_cases h0 : a0 = b0
  · subst h0
    by_cases h1 : a1 = b1
    · subst h1
      by_cases h2 : a2 = b2
      · subst h2
        simp [f1, f2, hq]
      · simp [h2, f1, f2, g1, g2, hq]
    · simp [h1, f1, g1, hq]
  · simp [h0]

theorem bareF_chain (L bare : Fr) : bareF L bare = (((L.data.length : Int) == 0) && ((L.runs.length : Int) == 0) && decide (L.c0 = bare.c0 ∧ L.c1 = bare.c1 ∧ L.c2 = bare.c2) && (L.stream == 0) && (L.offset == 0) && (L.size == 0) && (L.limit == 0) && (L.code == 0) && (L.delay == 0) && (L.fin == bare.fin) && (L.tail == bare.tail) && (L.uni == bare.uni) && (L.own == bare.own) && (L.marks == bare.marks)) := by
  have e1 : L.data.isEmpty = ((L.data.length : Int) == 0) := by
    cases L.data with
    | nil => rfl
    | cons x l => simp; omega
  have e2 : L.runs.isEmpty = ((L.runs.length : Int) == 0) := by
    cases L.runs with
    | nil => rfl
    | cons x l => simp; omega
  unfold bareF
  rw [e1, e2]
  rfl

theorem mayBe_any (f bare : Fr) (d r : Value) (p : Parts) (w : World) (hF : FrIn w f d r) (hp : ∀ k, k < 4 → nth p k ≤ 14) :
    Calls Try.prog 68 #[f.val d r, bare.val nilS nilS, p4 p] w fun e w' => e = .returned (.bool (mayW f bare p)) ∧ w.grownBy w' none := by
  have hfit := hide (fun k (hk : k < 4) W (g : w.grownBy W none) => fits_any f d r (nth p k) W (hF.keep g) (hp k hk))
  have htak := hide (fun k (hk : k < 4) g W (h : Blk W g ((leftF f p k).cs (leftD d p k) (leftR r p k)) 26) => takeOut_any g (leftF f p k) (leftD d p k) (leftR r p k) (nth p k) W h (hp k hk))
  obtain ⟨a1, c1, rfl, l1, l2⟩ := hF.data
  obtain ⟨a2, c2, rfl, hr, l3, l4⟩ := hF.runs
  have LL := hide (left_lists f p a1 a2 c1 c2 4)
  obtain ⟨d, hd⟩ : ∃ d, d = Value.slice a1 f.data.length c1 := ⟨_, rfl⟩
  obtain ⟨r, hr'⟩ : ∃ r, r = Value.slice a2 f.runs.length c2 := ⟨_, rfl⟩
  have od : d.oneCell' = true := by rw [hd]; rfl
  have or : r.oneCell' = true := by rw [hr']; rfl
  rw [← hd, ← hr'] at hfit htak LL ⊢
  clear hr l1 l2 l3 l4 hF hp hd hr'
  obtain ⟨C, hC⟩ : ∃ C, C = f.cs d r := ⟨_, rfl⟩
  obtain ⟨Cb, hCb⟩ : ∃ Cb, Cb = bare.cs nilS nilS := ⟨_, rfl⟩
  have C17 : C.size = 17 := by rw [hC]; rfl
  have Cb17 : Cb.size = 17 := by rw [hCb]; rfl
  have C1 : C.all (·.oneCell') = true := by rw [hC]; exact one17 f d r od or
  have iC : (Try.prog.info? 26).map (·.size) = some C.size := by rw [C17]; exact Try.size26
  have e1 : f.val d r = .agg C := by rw [hC]
  have e2 : bare.val nilS nilS = .agg Cb := by rw [hCb]
  rw [e1, e2]
  rw [e1] at hfit
  clear e1 e2
  have C0 : (leftF f p 0).cs (leftD d p 0) (leftR r p 0) = C := by rw [hC]; rfl
  have HC := hide hCb
  have g3 : w.grownBy (((w.alloc (.cells C 26)).alloc (.cells Cb 26)).alloc (.cells (c4 p) 115)) none := ((World.grownBy_alloc w _ none).trans (World.grownBy_alloc _ _ none)).trans (World.grownBy_alloc _ _ none)
  have B0 : Blk (((w.alloc (.cells C 26)).alloc (.cells Cb 26)).alloc (.cells (c4 p) 115)) w.heap.size C 26 := ((Blk.new w C 26).alloc _).alloc _
  have B1 : Blk (((w.alloc (.cells C 26)).alloc (.cells Cb 26)).alloc (.cells (c4 p) 115)) (w.heap.size + 1) Cb 26 := by
    have := (Blk.new (w.alloc (.cells C 26)) Cb 26).alloc (.cells (c4 p) 115)
    rw [World.size_alloc] at this
    exact this
  have z3 : (((w.alloc (.cells C 26)).alloc (.cells Cb 26)).alloc (.cells (c4 p) 115)).heap.size = w.heap.size + 1 + 1 + 1 := by simp
  have BN : ∀ o : Array Value, Blk ((((w.alloc (.cells C 26)).alloc (.cells Cb 26)).alloc (.cells (c4 p) 115)).alloc (.cells o 26)) (w.heap.size + 1 + 1 + 1) o 26 := fun o => by
    have := Blk.new (((w.alloc (.cells C 26)).alloc (.cells Cb 26)).alloc (.cells (c4 p) 115)) o 26
    rw [z3] at this
    exact this
  have M0 : ∀ o : Array Value, MB w C Cb C (((((w.alloc (.cells C 26)).alloc (.cells Cb 26)).alloc (.cells (c4 p) 115)).alloc (.cells o 26)).setRow (w.heap.size + 1 + 1 + 1) C) := fun o =>
    ⟨(B0.alloc _).rowO _ _ (by omega), (B1.alloc _).rowO _ _ (by omega), (BN o).row C, grown_row (g3.trans (World.grownBy_alloc _ _ none)) _ _ (by omega)⟩
  have CP : ∀ o : Array Value, Blk (((((w.alloc (.cells C 26)).alloc (.cells Cb 26)).alloc (.cells (c4 p) 115)).alloc (.cells o 26)).setRow (w.heap.size + 1 + 1 + 1) C) (w.heap.size + 1 + 1) (c4 p) 115 := fun o => by
    have := (Blk.new ((w.alloc (.cells C 26)).alloc (.cells Cb 26)) (c4 p) 115).alloc (.cells o 26)
    rw [World.size_alloc, World.size_alloc] at this
    exact this.rowO _ _ (by omega)
  have cp0 := fun o => (CP o).cell 0 (.int .i64 (p.1 : Nat)) rfl
  have cp1 := fun o => (CP o).cell 1 (.int .i64 (p.2.1 : Nat)) rfl
  have cp2 := fun o => (CP o).cell 2 (.int .i64 (p.2.2.1 : Nat)) rfl
  have cp3 := fun o => (CP o).cell 3 (.int .i64 (p.2.2.2 : Nat)) rfl
  clear CP
  have HB0 := hide B0; have HBN := hide BN; have HM0 := hide M0; have HCz := hide C0; have H17 := hide C17
  clear B0 B1 z3 BN M0 g3 C0 hC hCb C17 Cb17
  go_enter Try.func68, Try.ntmps68
  go_wp2_with (first | (refine wpList_load_row rfl _ _ rfl w.heap.size rfl 26 C (0, 0) _ (unhide HB0) Try.underlying26 rfl iC ?_) | (refine wpList_store_row rfl _ _ _ rfl (w.heap.size + 1 + 1 + 1) C rfl rfl 26 _ (unhide HBN _) iC (by rw [unhide H17]; rfl) C1 ?_))
  go_loopw [12] (fun i wr => ∃ k : Nat, k ≤ 4 ∧ i = .int .i64 k ∧ fitsTo f p k = true ∧ Hid (MB w C Cb ((leftF f p k).cs (leftD d p k) (leftR r p k)) wr)) (fun i _ => 4 - (intOf i).toNat)
  case atStart => exact ⟨0, by omega, rfl, rfl, by rw [unhide HCz]; exact unhide HM0 _⟩
  case round =>
    obtain ⟨k, hk, rfl, hfk, HM⟩ := hrel
    clear HB0 HBN HM0 HCz cp0 cp1 cp2 cp3
    by_cases hlt : k < 4
    · have ik := fun W => ix4 p k hlt W
      have kI : (k : Int) < 4 := by omega
      have cfit := unhide hfit k hlt wr (unhide HM).gr
      have ctak := hide (fun W (h : Blk W (w.heap.size + 1 + 1 + 1) ((leftF f p k).cs (leftD d p k) (leftR r p k)) 26) => unhide htak k hlt (w.heap.size + 1 + 1 + 1) W h)
      have HB := hide (unhide HM).b0
      obtain ⟨bf, hbf⟩ : ∃ bf, bf = fitsW f (nth p k) := ⟨_, rfl⟩
      rw [← hbf] at cfit
      have HBF := hide hbf
      clear hbf
      obtain ⟨q, hq⟩ : ∃ q, q = nth p k := ⟨_, rfl⟩
      rw [← hq] at ik cfit ctak
      have HQ := hide hq
      clear hq hfit htak
      have HK := hide hfk
      clear hfk
      cases bf
      · go_wp2_with (first | (refine wpList_load_row rfl _ _ rfl w.heap.size rfl 26 C (0, 0) _ (unhide HB) Try.underlying26 rfl iC ?_) | (go_at_call 87; refine cfit.mono ?_; rintro e W1 ⟨rfl, g1⟩))
        go_ret
        refine ⟨?_, (unhide HM).gr.trans g1⟩
        have e4 : fitsTo f p 4 = false := fitsTo_false (k := k + 1) (by show (fitsTo f p k && fitsW f (nth p k)) = false; rw [← unhide HBF]; simp) 4 (by omega)
        unfold mayW
        rw [e4]; rfl
      · go_wp2_with (first | (refine wpList_load_row rfl _ _ rfl w.heap.size rfl 26 C (0, 0) _ (unhide HB) Try.underlying26 rfl iC ?_) | (go_at_call 87; refine cfit.mono ?_; rintro e W1 ⟨rfl, g1⟩) | (go_at_call 88; refine (unhide ctak W1 ((unhide HM).b3.grown g1)).mono ?_; rintro e W2 ⟨rfl, b2, g2⟩))
        rw [unhide HQ] at b2
        have M2 := hide (((unhide HM).grown g1).take b2 g2)
        clear b2 g2 g1 HM HB cfit ctak
        exact ⟨⟨k + 1, by omega, by go_num, by show (fitsTo f p k && fitsW f (nth p k)) = true; rw [← unhide HBF, unhide HK]; rfl, unhide M2⟩, by simp [intOf]; omega⟩
    · obtain rfl : k = 4 := by omega
      have hno : ¬ ((4 : Nat) : Int) < 4 := by omega
      have hfk' : fitsTo f p 4 = true := hfk
      have M := unhide HM
      obtain ⟨⟨ad, cd, ed⟩, ⟨ar, cr, er⟩⟩ := unhide LL
      rw [ed, er] at M
      have RES : mayW f bare p = bareF (leftF f p 4) bare := by unfold mayW; rw [hfk]; rfl
      rw [bareF_chain] at RES
      have bb := M.b1
      rw [unhide HC] at bb
      have b3 := M.b3
      have GR := hide M.gr
      have HR := hide RES
      clear RES M HM LL hfit htak HC ed er hfk hfk'
      obtain ⟨z0, z1, z2, z3, z4, z5, z6, z7, z8, z9, z10, z11, z12, z13, z14, z15, z16⟩ := b3.cells
      obtain ⟨v0, v1, v2, v3, v4, v5, v6, v7, v8, v9, v10, v11, v12, v13, v14, v15, v16⟩ := bb.cells
      clear b3 bb
      generalize leftF f p 4 = L at *
      generalize L.data.length = n1 at *
      generalize L.runs.length = n2 at *
      generalize L.stream = s1 at *
      generalize L.offset = s2 at *
      generalize L.size = s4 at *
      generalize L.fin = x5 at *
      generalize L.tail = x6 at *
      generalize L.limit = s7 at *
      generalize L.uni = x8 at *
      generalize L.code = s9 at *
      generalize L.own = x10 at *
      generalize L.delay = s11 at *
      generalize L.marks = x13 at *
      generalize L.c0 = q0 at *
      generalize L.c1 = q1 at *
      generalize L.c2 = q2 at *
      generalize bare.fin = y5 at *
      generalize bare.tail = y6 at *
      generalize bare.uni = y8 at *
      generalize bare.own = y10 at *
      generalize bare.marks = y13 at *
      generalize bare.c0 = r0 at *
      generalize bare.c1 = r1 at *
      generalize bare.c2 = r2 at *
      have e3 := fun W => eq3g q0 q1 q2 r0 r1 r2 W
      clear z0 v0 v1 v2 v3 v4 v7 v9 v11 v12
      obtain ⟨t1, h1⟩ : ∃ t, ((n1 : Int) == 0) = t := ⟨_, rfl⟩
      obtain ⟨t2, h2⟩ : ∃ t, ((n2 : Int) == 0) = t := ⟨_, rfl⟩
      obtain ⟨t3, h3⟩ : ∃ t, decide (q0 = r0 ∧ q1 = r1 ∧ q2 = r2) = t := ⟨_, rfl⟩
      obtain ⟨t4, h4⟩ : ∃ t, (s1 == 0) = t := ⟨_, rfl⟩
      obtain ⟨t5, h5⟩ : ∃ t, (s2 == 0) = t := ⟨_, rfl⟩
      obtain ⟨t6, h6⟩ : ∃ t, (s4 == 0) = t := ⟨_, rfl⟩
      obtain ⟨t7, h7⟩ : ∃ t, (s7 == 0) = t := ⟨_, rfl⟩
      obtain ⟨t8, h8⟩ : ∃ t, (s9 == 0) = t := ⟨_, rfl⟩
      obtain ⟨t9, h9⟩ : ∃ t, (s11 == 0) = t := ⟨_, rfl⟩
      obtain ⟨t10, h10⟩ : ∃ t, (x5 == y5) = t := ⟨_, rfl⟩
      obtain ⟨t11, h11⟩ : ∃ t, (x6 == y6) = t := ⟨_, rfl⟩
      obtain ⟨t12, h12⟩ : ∃ t, (x8 == y8) = t := ⟨_, rfl⟩
      obtain ⟨t13, h13⟩ : ∃ t, (x10 == y10) = t := ⟨_, rfl⟩
      obtain ⟨t14, h14⟩ : ∃ t, (x13 == y13) = t := ⟨_, rfl⟩
      rw [h1, h2, h3, h4, h5, h6, h7, h8, h9, h10, h11, h12, h13, h14] at HR
      simp only [h3] at e3
      cases t1
      · go_wp2_with fail
        go_ret
        exact ⟨by rw [unhide HR]; rfl, unhide GR⟩
      · cases t2
        · go_wp2_with fail
          go_ret
          exact ⟨by rw [unhide HR]; rfl, unhide GR⟩
        · cases t3
          · go_wp2_with fail
            go_ret
            exact ⟨by rw [unhide HR]; rfl, unhide GR⟩
          · cases t4
            · go_wp2_with fail
              go_ret
              exact ⟨by rw [unhide HR]; rfl, unhide GR⟩
            · cases t5
              · go_wp2_with fail
                go_ret
                exact ⟨by rw [unhide HR]; rfl, unhide GR⟩
              · cases t6
                · go_wp2_with fail
                  go_ret
                  exact ⟨by rw [unhide HR]; rfl, unhide GR⟩
                · cases t7
                  · go_wp2_with fail
                    go_ret
                    exact ⟨by rw [unhide HR]; rfl, unhide GR⟩
                  · cases t8
                    · go_wp2_with fail
                      go_ret
                      exact ⟨by rw [unhide HR]; rfl, unhide GR⟩
                    · cases t9
                      · go_wp2_with fail
                        go_ret
                        exact ⟨by rw [unhide HR]; rfl, unhide GR⟩
                      · cases t10
                        · go_wp2_with fail
                          go_ret
                          exact ⟨by rw [unhide HR]; rfl, unhide GR⟩
                        · cases t11
                          · go_wp2_with fail
                            go_ret
                            exact ⟨by rw [unhide HR]; rfl, unhide GR⟩
                          · cases t12
                            · go_wp2_with fail
                              go_ret
                              exact ⟨by rw [unhide HR]; rfl, unhide GR⟩
                            · cases t13
                              · go_wp2_with fail
                                go_ret
                                exact ⟨by rw [unhide HR]; rfl, unhide GR⟩
                              · cases t14
                                · go_wp2_with fail
                                  go_ret
                                  exact ⟨by rw [unhide HR]; rfl, unhide GR⟩
                                · go_wp2_with fail
                                  go_ret
                                  exact ⟨by rw [unhide HR]; rfl, unhide GR⟩

end Go.Proofs.Ytggjeamondampaa
