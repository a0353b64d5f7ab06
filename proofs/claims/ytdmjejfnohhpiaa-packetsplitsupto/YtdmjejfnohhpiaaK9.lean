/- PacketRead: the walk. -/
import Derived.Test.YtdmjejfnohhpiaaK8
namespace Go.Proofs.Ytdmjejfnohhpiaa
open Go.RowKit
set_option linter.unusedVariables false
set_option maxRecDepth 100000
set_option maxHeartbeats 1000000

theorem grown_below {w W : World} (h : w.grownBy W none) : Below w.heap.size w W := ⟨h.os, h.tape, h.output, h.size, fun i hi => h.block i hi (by simp)⟩

theorem read_walk (v : Value) (l : List Int) (i n : Int) (G : Lg) (w : World) (hv : InB w v l) (hb : l.length ≤ 140737488351232) :
    Calls Try.prog 7 #[v, .int .i64 i, .int .i64 n, G.v] w fun e w' => e = .returned (.bool true) ∧ w.grownBy w' none := by
  have hbs := hv.bytes
  have aw := fun W => awake_any W
  have bG := Blk.new w #[.int .i64 G.1, .int .i64 G.2.1, .int .i64 G.2.2] 46
  have g0 := World.grownBy_alloc w (.cells #[.int .i64 G.1, .int .i64 G.2.1, .int .i64 G.2.2] 46) none
  have hv' := hv
  obtain ⟨a, c, rfl, -⟩ := hv'
  have hml : ¬ (9223372036854775807 : Int) < (l.length : Int) := by omega
  go_enter Try.func7, Try.ntmps7
  go_wp2_with fail
  refine (aw _).mono ?_
  rintro e W1 ⟨rfl, g1⟩
  have gA := g0.trans g1
  have bG1 := bG.grown g1
  have y0 := bG1.cell 0 (.int .i64 G.1) rfl
  have y1 := bG1.cell 1 (.int .i64 G.2.1) rfl
  have y2 := bG1.cell 2 (.int .i64 G.2.2) rfl
  have de := decode_in _ l i n G W1 (hv.grown gA) (by omega)
  clear bG g0 g1 aw
  rcases dec_cases l i n G hbs with ⟨y, hy, e1⟩ | ⟨k, ee, p, rfl, hk, hG, hn, e1, got⟩
  · rw [e1] at de
    clear e1
    have hyb : (y != 0) = true := by simpa using hy
    go_wp2_with fail
    refine de.mono ?_
    intro e W2 hd
    obtain ⟨a1, n1, c1, a2, n2, c2, a3, n3, c3, rfl, o1, o2, o3, g2, q1, q2, q3⟩ := hd.parts
    have gN := World.grownBy_alloc W2 (.cells (noP.cs (.slice a1 n1 c1) (.slice a2 n2 c2) (.slice a3 n3 c3)) 24) none
    have nb : ∀ x ∈ ([] : List Int), IsB x := by simp
    have sm := same05 noP _ _ _ nilV nilV nilV _ ((o1.inB nb).grown gN) ((o2.inB nb).grown gN) ((o3.inB nb).grown gN) (InX.nil _ _) (InX.nil _ _) (InX.nil _ _)
    have gB := (gA.trans g2).trans gN
    clear hd de o1 o2 o3 gA g2 gN q1 q2 q3 hv bG1 y0 y1 y2
    go_wp2_with fail
    refine sm.mono ?_
    rintro e W3 ⟨rfl, g3⟩
    go_wp2_with fail
    go_ret
    exact ⟨rfl, gB.trans g3⟩
  · rw [e1] at de
    clear e1
    have HG := hide got
    have l1 := got.lt
    have l2 := got.le
    have lt1 : ¬ (k : Int) < 0 := by omega
    have lt2 : ¬ (ee : Int) ≤ (k : Int) := by omega
    have lt3 : ¬ (l.length : Int) < (ee : Int) := by omega
    have hw := got.w
    have hsp := got.sp
    have pl3 : p.payload.length ≤ l.length := got.yl
    go_wp2_with fail
    refine de.mono ?_
    intro e W2 hd
    obtain ⟨a1, n1, c1, a2, n2, c2, a3, n3, c3, rfl, o1, o2, o3, g2, q1, q2, q3⟩ := hd.parts
    have gN := World.grownBy_alloc W2 (.cells (p.cs (.slice a1 n1 c1) (.slice a2 n2 c2) (.slice a3 n3 c3)) 24) none
    have bP := Blk.new W2 (p.cs (.slice a1 n1 c1) (.slice a2 n2 c2) (.slice a3 n3 c3)) 24
    have i1 := (o1.inB got.bd).grown gN
    have i2 := (o2.inB got.bs).grown gN
    have i3 := (o3.inB got.by_).grown gN
    have en := encode_any p _ _ _ _ i1 i2 i3 (by have := got.d; omega) (by have := got.s; omega) (by omega)
    have bG2 := (bG1.grown g2).grown gN
    have gB := (gA.trans g2).trans gN
    have hs2 : p.space = 2 → (ee : Int) = (l.length : Int) ∧ (n1 : Int) = n := fun c => by
      obtain ⟨-, h1, h2⟩ := got.s2 c
      exact ⟨by omega, by rw [q1]; exact h1⟩
    have Q1 : Hid (n1 = p.dst.length) := q1
    have Q3 : Hid (n3 = p.payload.length) := q3
    have hn1 : ¬ (9223372036854775807 : Int) < (n1 : Int) := by have h1 : n1 = p.dst.length := q1; have := got.d; omega
    have hn3 : ¬ (9223372036854775807 : Int) < (n3 : Int) := by have h1 : n3 = p.payload.length := q3; omega
    have hww : IntKind.i64.wrap (p.width + (n3 : Int)) = p.width + (n3 : Int) := by have h1 : n3 = p.payload.length := q3; rw [IntKind.wrap_i64]; omega
    clear hd o1 o2 o3 g2 gN de bG1 gA hv y0 y1 y2 q1 q2 q3 got
    by_cases h2 : p.space = 2
    · have hsb : (p.space == 2) = true := by simpa using h2
      have hsn : (p.space != 2) = false := by simpa using h2
      obtain ⟨t1, t2⟩ := hs2 h2
      have t1b : ((ee : Int) != (l.length : Int)) = false := by rw [t1]; simp
      have t2b : ((n1 : Int) != n) = false := by rw [t2]; simp
      have T2 := hide t2
      have H2 := hide h2
      clear t1 t2 h2 hs2
      have hgd := unhide HG
      have good : Good p := hgd.good (fun c => absurd (unhide H2) c)
      have hbb := bytesP_byte good hgd.bd hgd.bs hgd.by_
      have hlt := bytesP_lt p good
      have fb := foundP_back hgd.back
      have dn := dec_enc [] [] p good G hG n hn (fun c => ⟨by rw [← unhide Q1]; exact unhide T2, rfl⟩)
      rw [fb] at dn
      simp only [List.nil_append, List.append_nil, List.length_nil, Nat.zero_add] at dn
      go_wp2_with fail
      refine en.mono ?_
      intro e W3 he
      obtain ⟨g, rfl, ib, g3⟩ := he.ok good hbb (by unfold maxLen; omega)
      have de2 := decode_in _ _ 0 n G W3 ib (by omega)
      have dn0 : decP (bytesP p) 0 n G = (p, ((bytesP p).length : Int), 0) := dn
      rw [dn0] at de2
      have bG3 := bG2.grown g3
      have bP3 := bP.grown g3
      have y0 := bG3.cell 0 (.int .i64 G.1) rfl
      have y1 := bG3.cell 1 (.int .i64 G.2.1) rfl
      have y2 := bG3.cell 2 (.int .i64 G.2.2) rfl
      have x0 := bP3.cell 0 (.int .i64 p.space) rfl
      have x1 := bP3.cell 1 (.slice a1 n1 c1) rfl
      have x2 := bP3.cell 2 (.slice a2 n2 c2) rfl
      have x3 := bP3.cell 3 (.int .i64 p.number) rfl
      have x4 := bP3.cell 4 (.int .i64 p.width) rfl
      have x5 := bP3.cell 5 (.slice a3 n3 c3) rfl
      have hml2 : ¬ (9223372036854775807 : Int) < ((bytesP p).length : Int) := by omega
      have i1' := i1.grown g3
      have i2' := i2.grown g3
      have i3' := i3.grown g3
      have gC := gB.trans g3
      clear en he bG2 bG3 i1 i2 i3 gB g3 dn dn0 ib bP
      generalize (bytesP p).length = nb at *
      go_wp2_with fail
      refine de2.mono ?_
      intro e W4 hd2
      obtain ⟨b1, m1, e1, b2, m2, e2, b3, m3, e3, rfl, o1, o2, o3, g4, r1, r2, r3⟩ := hd2.parts
      have gN := World.grownBy_alloc W4 (.cells (p.cs (.slice b1 m1 e1) (.slice b2 m2 e2) (.slice b3 m3 e3)) 24) none
      have sm := same05 p _ _ _ _ _ _ _ ((o1.inB hgd.bd).grown gN) ((o2.inB hgd.bs).grown gN) ((o3.inB hgd.by_).grown gN) ((i1'.grown g4).grown gN) ((i2'.grown g4).grown gN) ((i3'.grown g4).grown gN)
      have bP4 := (bP3.grown g4).alloc (.cells (p.cs (.slice b1 m1 e1) (.slice b2 m2 e2) (.slice b3 m3 e3)) 24)
      have z0 := bP4.cell 0 (.int .i64 p.space) rfl
      have z1 := bP4.cell 1 (.slice a1 n1 c1) rfl
      have z2 := bP4.cell 2 (.slice a2 n2 c2) rfl
      have z3 := bP4.cell 3 (.int .i64 p.number) rfl
      have z4 := bP4.cell 4 (.int .i64 p.width) rfl
      have z5 := bP4.cell 5 (.slice a3 n3 c3) rfl
      have gD := (gC.trans g4).trans gN
      have hlt4 : W2.heap.size < W4.heap.size := (bP3.grown g4).lt
      clear hd2 de2 o1 o2 o3 g4 gN gC i1' i2' i3' bP3 bP4 r1 r2 r3
      go_wp2_with fail
      refine sm.mono ?_
      rintro e W5 ⟨rfl, g5⟩
      go_wp2_with fail
      go_ret
      exact ⟨rfl, gD.trans g5⟩
    · have hsb : (p.space == 2) = false := by simpa using h2
      have hsn : (p.space != 2) = true := by simpa using h2
      by_cases h3 : 16383 < p.width + (n3 : Int)
      · have e54 := (unhide HG).long h2 (by rw [← unhide Q3]; exact h3)
        go_wp2_with fail
        refine en.mono ?_
        rintro e W3 ⟨⟨he, rfl⟩ | ⟨he, -⟩, g3⟩
        · have bP3 := bP.grown g3
          have x0 := bP3.cell 0 (.int .i64 p.space) rfl
          have x4 := bP3.cell 4 (.int .i64 p.width) rfl
          have x5 := bP3.cell 5 (.slice a3 n3 c3) rfl
          rw [e54]
          clear en he
          go_wp2_with fail
          go_ret
          exact ⟨rfl, gB.trans g3⟩
        · rw [e54] at he; cases he
      · have h3' : p.width + (n3 : Int) ≤ 16383 := by omega
        have hgd := unhide HG
        have good : Good p := hgd.good (fun _ => by rw [← unhide Q3]; exact h3')
        have hbb := bytesP_byte good hgd.bd hgd.bs hgd.by_
        have hlt := bytesP_lt p good
        have fb := foundP_back hgd.back
        have dn := dec_enc [] [] p good G hG n hn (fun c => absurd c h2)
        rw [fb] at dn
        simp only [List.nil_append, List.append_nil, List.length_nil, Nat.zero_add] at dn
        go_wp2_with fail
        refine en.mono ?_
        intro e W3 he
        obtain ⟨g, rfl, ib, g3⟩ := he.ok good hbb (by unfold maxLen; omega)
        have de2 := decode_in _ _ 0 n G W3 ib (by omega)
        have dn0 : decP (bytesP p) 0 n G = (p, ((bytesP p).length : Int), 0) := dn
        rw [dn0] at de2
        have bG3 := bG2.grown g3
        have bP3 := bP.grown g3
        have y0 := bG3.cell 0 (.int .i64 G.1) rfl
        have y1 := bG3.cell 1 (.int .i64 G.2.1) rfl
        have y2 := bG3.cell 2 (.int .i64 G.2.2) rfl
        have x0 := bP3.cell 0 (.int .i64 p.space) rfl
        have x1 := bP3.cell 1 (.slice a1 n1 c1) rfl
        have x2 := bP3.cell 2 (.slice a2 n2 c2) rfl
        have x3 := bP3.cell 3 (.int .i64 p.number) rfl
        have x4 := bP3.cell 4 (.int .i64 p.width) rfl
        have x5 := bP3.cell 5 (.slice a3 n3 c3) rfl
        have hml2 : ¬ (9223372036854775807 : Int) < ((bytesP p).length : Int) := by omega
        have i1' := i1.grown g3
        have i2' := i2.grown g3
        have i3' := i3.grown g3
        have gC := gB.trans g3
        clear en he bG2 bG3 i1 i2 i3 gB g3 dn dn0 ib bP
        generalize (bytesP p).length = nb at *
        go_wp2_with fail
        refine de2.mono ?_
        intro e W4 hd2
        obtain ⟨b1, m1, e1, b2, m2, e2, b3, m3, e3, rfl, o1, o2, o3, g4, r1, r2, r3⟩ := hd2.parts
        have gN := World.grownBy_alloc W4 (.cells (p.cs (.slice b1 m1 e1) (.slice b2 m2 e2) (.slice b3 m3 e3)) 24) none
        have sm := same05 p _ _ _ _ _ _ _ ((o1.inB hgd.bd).grown gN) ((o2.inB hgd.bs).grown gN) ((o3.inB hgd.by_).grown gN) ((i1'.grown g4).grown gN) ((i2'.grown g4).grown gN) ((i3'.grown g4).grown gN)
        have bP4 := (bP3.grown g4).alloc (.cells (p.cs (.slice b1 m1 e1) (.slice b2 m2 e2) (.slice b3 m3 e3)) 24)
        have z0 := bP4.cell 0 (.int .i64 p.space) rfl
        have z1 := bP4.cell 1 (.slice a1 n1 c1) rfl
        have z2 := bP4.cell 2 (.slice a2 n2 c2) rfl
        have z3 := bP4.cell 3 (.int .i64 p.number) rfl
        have z4 := bP4.cell 4 (.int .i64 p.width) rfl
        have z5 := bP4.cell 5 (.slice a3 n3 c3) rfl
        have gD := (gC.trans g4).trans gN
        have hlt4 : W2.heap.size < W4.heap.size := (bP3.grown g4).lt
        clear hd2 de2 o1 o2 o3 g4 gN gC i1' i2' i3' bP3 bP4 r1 r2 r3
        go_wp2_with fail
        refine sm.mono ?_
        rintro e W5 ⟨rfl, g5⟩
        go_wp2_with fail
        go_ret
        exact ⟨rfl, gD.trans g5⟩

end Go.Proofs.Ytdmjejfnohhpiaa
