/- The reader of packets: long, short. -/
import Derived.Test.YtpcnpdippnljpaaKU
namespace Go.Proofs.Ytpcnpdippnljpaa
open Go.RowKit
set_option linter.unusedVariables false
set_option maxRecDepth 100000
set_option maxHeartbeats 1000000

/-- A packet's cells, and its value: the three lists lie elsewhere. -/
abbrev pcs (sp : Int) (d s : Value) (n wd : Int) (y : Value) : Array Value := #[.int .i64 sp, d, s, .int .i64 n, .int .i64 wd, y]
abbrev Pk.cs (p : Pk) (d s y : Value) : Array Value := pcs p.space d s p.number p.width y
abbrev Pk.val (p : Pk) (d s y : Value) : Value := .agg (p.cs d s y)
abbrev nilV : Value := .slice none 0 0
theorem Try.sizeP : (Try.prog.info? 29).map (·.size) = some 6 := by kernel_rfl

theorem OwnB.far {base : Nat} {w W : World} {v : Value} {d : List Int} {r : Option Nat} (h : OwnB base w v d) (hg : w.grownBy W r) (hb : ∀ g, r = some g → g < base) : OwnB base W v d := by
  obtain ⟨h1, h2⟩ := h
  refine ⟨h1, ?_⟩
  rcases h2 with h2 | ⟨b, cap, cur, e1, e2, e3, e4⟩
  · exact .inl h2
  · refine .inr ⟨b, cap, cur, e1, e2, ?_, e4⟩
    have hlt : b < w.heap.size := by
      by_cases c : b < w.heap.size
      · exact c
      · have : w.heap[b]? = none := by simp; omega
        rw [this] at e3; simp at e3
    rw [hg.block b hlt (fun e => by have := hb b e.symm; omega)]
    exact e3
theorem OwnB.one {base : Nat} {w : World} {v : Value} {d : List Int} (h : OwnB base w v d) : v.oneCell' = true := by
  obtain ⟨a, c, rfl⟩ := h.shape; rfl
theorem OwnB.rd {base : Nat} {w : World} {a : Option Addr} {n c : Nat} {d : List Int} (h : OwnB base w (.slice a n c) d) (hb : ∀ x ∈ d, IsB x) : Rd w a d := by
  refine ⟨hb, fun hne => ?_⟩
  rcases h.2 with ⟨e1, e2⟩ | ⟨b, cap, cur, e1, e2, e3, e4, e5, e6, e7⟩
  · cases d with
    | nil => exact absurd rfl hne
    | cons => simp at e2
  · simp only [Value.slice.injEq] at e1
    refine ⟨b, 0, e1.1, fun i hi => ?_⟩
    have : cur[i]? = some (.int .u8 (d.getD i 0)) := by
      have e8 : (cur.toList.take (d.length * 1))[i]? = (d.map (Value.int .u8))[i]? := by rw [e7]
      rw [Nat.mul_one, List.getElem?_take, if_pos hi] at e8
      rw [← Array.getElem?_toList, e8]
      simp [List.getD, hi]
    simp only [World.cell?, e3, Nat.zero_add]
    exact this

/-- A packet that was read: its lists are its own. -/
def WentP (g : Nat) (a : Option Addr) (l : List Int) (c : Nat) (G : Lg) (w : World) (r : Pk × St) (e : Ending) (w' : World) : Prop :=
  ∃ d s y, e = .returned (r.1.val d s y) ∧ OwnB w.heap.size w' d r.1.dst ∧ OwnB w.heap.size w' s r.1.src ∧ OwnB w.heap.size w' y r.1.payload ∧ Rdk w' g a l c G r.2 ∧ w.grownBy w' (some g)

theorem Rdk.setO {w : World} {g : Nat} {a : Option Addr} {l : List Int} {c : Nat} {G : Lg} {s : St} (h : Rdk w g a l c G s) (gp j : Nat) (v : Value) (hn : gp ≠ g) (hx : ∀ x, a = some x → 0 < c → x.block ≠ gp) : Rdk (w.setCell ⟨gp, j, none⟩ v) g a l c G s := by
  refine ⟨h.blk.setO gp j v hn, h.rd.farC h.cap (grown_at (World.grownBy.refl w (some gp)) j v) (fun x e hc => ⟨hx x e hc, (h.ne x e hc).2⟩), h.cap, h.max, h.at_, fun x e hc => ⟨(h.ne x e hc).1, ?_⟩, h.pl⟩
  show x.block < (w.heap.modify gp _).size
  rw [Array.size_modify]; exact (h.ne x e hc).2

/-- While a packet is read: the reader, the answer's block, the packet's block. -/
structure LR (w0 W : World) (g : Nat) (a : Option Addr) (l : List Int) (c : Nat) (G : Lg) (s : St) (g4 gp : Nat) (cs : Array Value) : Prop where
  R : Rdk W g a l c G s
  gr : w0.grownBy W (some g)
  b4 : Blk W g4 (pcs 0 nilV nilV 0 0 nilV) 29
  bp : Blk W gp cs 29
  h0 : g < w0.heap.size
  h4 : w0.heap.size ≤ g4
  hp : g4 < gp
  hx : ∀ x, a = some x → 0 < c → x.block < w0.heap.size

theorem LR.step {w0 W W' : World} {g : Nat} {a : Option Addr} {l : List Int} {c : Nat} {G : Lg} {s s' : St} {g4 gp : Nat} {cs : Array Value} (L : LR w0 W g a l c G s g4 gp cs) (R : Rdk W' g a l c G s') (g1 : W.grownBy W' (some g)) : LR w0 W' g a l c G s' g4 gp cs :=
  ⟨R, L.gr.trans g1, L.b4.far g1 (by have := L.h0; have := L.h4; omega), L.bp.far g1 (by have := L.h0; have := L.h4; have := L.hp; omega), L.h0, L.h4, L.hp, L.hx⟩
theorem LR.set {w0 W : World} {g : Nat} {a : Option Addr} {l : List Int} {c : Nat} {G : Lg} {s : St} {g4 gp : Nat} {cs : Array Value} (L : LR w0 W g a l c G s g4 gp cs) (j : Nat) (v : Value) : LR w0 (W.setCell ⟨gp, j, none⟩ v) g a l c G s g4 gp (cs.setIfInBounds j v) :=
  ⟨L.R.setO gp j v (by have := L.h0; have := L.h4; have := L.hp; omega) (fun x e hc => by have := L.hx x e hc; have := L.h4; have := L.hp; omega), grown_setS L.gr gp j v (by have := L.h4; have := L.hp; omega), L.b4.setO gp j v (by have := L.hp; omega), L.bp.setC j v, L.h0, L.h4, L.hp, L.hx⟩


theorem Blk.set6 {w : World} {g : Nat} {u0 u1 u2 u3 u4 u5 v0 v1 v2 v3 v4 v5 : Value} {t : TypeId} (h : Blk w g #[u0, u1, u2, u3, u4, u5] t) : Blk ((((((w.setCell ⟨g, 0, none⟩ v0).setCell ⟨g, 1, none⟩ v1).setCell ⟨g, 2, none⟩ v2).setCell ⟨g, 3, none⟩ v3).setCell ⟨g, 4, none⟩ v4).setCell ⟨g, 5, none⟩ v5) g #[v0, v1, v2, v3, v4, v5] t := by
  have h1 : Blk (w.setCell ⟨g, 0, none⟩ v0) g #[v0, u1, u2, u3, u4, u5] t := h.setC 0 v0
  have h2 : Blk ((w.setCell ⟨g, 0, none⟩ v0).setCell ⟨g, 1, none⟩ v1) g #[v0, v1, u2, u3, u4, u5] t := h1.setC 1 v1
  have h3 : Blk (((w.setCell ⟨g, 0, none⟩ v0).setCell ⟨g, 1, none⟩ v1).setCell ⟨g, 2, none⟩ v2) g #[v0, v1, v2, u3, u4, u5] t := h2.setC 2 v2
  have h4 : Blk ((((w.setCell ⟨g, 0, none⟩ v0).setCell ⟨g, 1, none⟩ v1).setCell ⟨g, 2, none⟩ v2).setCell ⟨g, 3, none⟩ v3) g #[v0, v1, v2, v3, u4, u5] t := h3.setC 3 v3
  have h5 : Blk (((((w.setCell ⟨g, 0, none⟩ v0).setCell ⟨g, 1, none⟩ v1).setCell ⟨g, 2, none⟩ v2).setCell ⟨g, 3, none⟩ v3).setCell ⟨g, 4, none⟩ v4) g #[v0, v1, v2, v3, v4, u5] t := h4.setC 4 v4
  exact h5.setC 5 v5

theorem LR.fin {w0 W : World} {g : Nat} {a : Option Addr} {l : List Int} {c : Nat} {G : Lg} {s : St} {g4 gp B : Nat} {p : Pk} {d u y : Value} (L : LR w0 W g a l c G s g4 gp (p.cs d u y)) (hB : gp < B) (o1 : OwnB B W d p.dst) (o2 : OwnB B W u p.src) (o3 : OwnB B W y p.payload) :
    Blk ((((((W.setCell ⟨g4, 0, none⟩ (.int .i64 p.space)).setCell ⟨g4, 1, none⟩ d).setCell ⟨g4, 2, none⟩ u).setCell ⟨g4, 3, none⟩ (.int .i64 p.number)).setCell ⟨g4, 4, none⟩ (.int .i64 p.width)).setCell ⟨g4, 5, none⟩ y) g4 (p.cs d u y) 29 ∧
    WentP g a l c G w0 (p, s) (.returned (p.val d u y)) ((((((W.setCell ⟨g4, 0, none⟩ (.int .i64 p.space)).setCell ⟨g4, 1, none⟩ d).setCell ⟨g4, 2, none⟩ u).setCell ⟨g4, 3, none⟩ (.int .i64 p.number)).setCell ⟨g4, 4, none⟩ (.int .i64 p.width)).setCell ⟨g4, 5, none⟩ y) := by
  have h0 := L.h0; have h4 := L.h4; have hp := L.hp
  have hn : g4 ≠ g := by omega
  have hx : ∀ x, a = some x → 0 < c → x.block ≠ g4 := fun x e hc => by have := L.hx x e hc; omega
  have gg : W.grownBy ((((((W.setCell ⟨g4, 0, none⟩ (.int .i64 p.space)).setCell ⟨g4, 1, none⟩ d).setCell ⟨g4, 2, none⟩ u).setCell ⟨g4, 3, none⟩ (.int .i64 p.number)).setCell ⟨g4, 4, none⟩ (.int .i64 p.width)).setCell ⟨g4, 5, none⟩ y) (some g4) :=
    grown_at (grown_at (grown_at (grown_at (grown_at (grown_at (World.grownBy.refl W (some g4)) 0 _) 1 _) 2 _) 3 _) 4 _) 5 _
  have ho : ∀ q, some g4 = some q → q < B := fun q e => by cases e; omega
  refine ⟨L.b4.set6, d, u, y, rfl, (o1.far gg ho).mono (by omega), (o2.far gg ho).mono (by omega), (o3.far gg ho).mono (by omega), ?_, ?_⟩
  · exact (((((L.R.setO g4 0 _ hn hx).setO g4 1 _ hn hx).setO g4 2 _ hn hx).setO g4 3 _ hn hx).setO g4 4 _ hn hx).setO g4 5 _ hn hx
  · exact grown_setS (grown_setS (grown_setS (grown_setS (grown_setS (grown_setS L.gr g4 0 _ h4) g4 1 _ h4) g4 2 _ h4) g4 3 _ h4) g4 4 _ h4) g4 5 _ h4

theorem sized_lt (l : List Int) (s : St) (hl : ∀ x ∈ l, IsB x) : 0 ≤ (rSized l s).1 ∧ (rSized l s).1 < 18446744073709551616 := by
  have key : 0 ≤ (getF l s.1).1 ∧ (getF l s.1).1 < 18446744073709551616 := by
    rcases getF_cases l s.1 with ⟨c, -, e⟩ | h
    · rw [e]; simp
    · obtain ⟨k, -, hk, hs, e⟩ := h
      rw [e]
      have hx : IsB (l.getD k 0) := by
        have : l.getD k 0 = l[k] := by simp [List.getD, hk]
        rw [this]; exact hl _ (List.getElem_mem hk)
      have := joinF_lt ((l.drop (k + 1)).take (sz (l.getD k 0) - 1)) (fun x hx => hl x (List.mem_of_mem_drop (List.mem_of_mem_take hx))) (l.getD k 0 % 64) 64 (by omega) (by omega)
      refine ⟨this.1, Int.lt_of_lt_of_le this.2 ?_⟩
      have hle : ((l.drop (k + 1)).take (sz (l.getD k 0) - 1)).length ≤ 7 := by
        have := sz_size (l.getD k 0)
        rw [List.length_take]; omega
      generalize ((l.drop (k + 1)).take (sz (l.getD k 0) - 1)).length = m at hle
      have := pow256_le (m + 1) (by omega)
      rw [Int.pow_succ] at this
      have hp := pow_pos256 m
      omega
  unfold rSized rRead
  split
  · split
    · exact key
    · simp
  · simp
theorem spcF_sp (x : Int) : (spcF x).1 = 0 ∨ (spcF x).1 = 1 := by
  unfold spcF; split
  · exact .inl rfl
  · split
    · exact .inr rfl
    · exact .inl rfl
theorem widF_in (x : Int) : 1 ≤ widF x ∧ widF x ≤ 4 := by unfold widF; omega

theorem Rdk.long {w : World} {g : Nat} {a : Option Addr} {l : List Int} {c : Nat} {G : Lg} {s : St} (h : Rdk w g a l c G s) (hG : okG G) (hb : l.length ≤ 140737488355328) (x : Int) (hx : IsB x) :
    Calls Try.prog 55 #[.pointer (some ⟨g, 0, none⟩), .int .u8 x] w (WentP g a l c G w (longR l G s x)) := by
  have hbl := bitL_eq x hx
  have hwd := fun W => widthOf_any x hx W
  have hspc := fun W => spaceOf_any x hx W
  have hwi := widF_in x
  have hbs := h.rd.1
  have hwu : IntKind.u64.wrap (widF x) = widF x := by rw [IntKind.wrap_u64]; omega
  have R0 := fun o => h.grown (World.grownBy_alloc w o none)
  have m0 := fun o => (R0 o).must (bitL x) 51
  go_enter Try.func55, Try.ntmps55
  go_wp2_with fail
  refine (m0 _).mono ?_
  rintro e W1 ⟨rfl, R1, g1⟩
  have R1' : Rdk W1 g a l c G (sL1 s x) := R1
  have p1 : Calls _ _ _ _ (Went g a l c G W1 (sL2 l s x).2 (.int .u64 (sL2 l s x).1)) := R1'.plain 4
  go_wp2_with fail
  refine p1.mono ?_
  rintro e W2 ⟨rfl, R2, g2⟩
  have m2 : Calls _ _ _ _ (Went g a l c G W2 (sL3 l s x) (.tuple #[])) := R2.must (decide ((sL2 l s x).1 = 1)) 52
  go_wp2_with fail
  refine m2.mono ?_
  rintro e W3 ⟨rfl, R3, g3⟩
  go_wp2_with fail
  refine (hspc _).mono ?_
  rintro e W3' ⟨rfl, hw3⟩
  subst hw3
  have m3 : Calls _ _ _ _ (Went g a l c G W3' (sL4 l s x) (.tuple #[])) := R3.must (spcF x).2 53
  go_wp2_with fail
  refine m3.mono ?_
  rintro e W4 ⟨rfl, R4, g4⟩
  go_wp2_with fail
  refine (hwd _).mono ?_
  rintro e W4' ⟨rfl, hw4⟩
  subst hw4
  have gA := ((World.grownBy_alloc w (.cells (pcs 0 nilV nilV 0 0 nilV) 29) (some g)).trans g1).trans ((g2.trans g3).trans g4)
  have hlt : w.heap.size < W4'.heap.size := by
    have := (g1.trans ((g2.trans g3).trans g4)).size
    have e : (w.alloc (.cells (pcs 0 nilV nilV 0 0 nilV) 29)).heap.size = w.heap.size + 1 := by show (w.heap.push _).size = _; simp
    rw [e] at this; omega
  have hg0 : g < w.heap.size := h.blk.lt
  have L0 : LR w (W4'.alloc (.cells (pcs (spcF x).1 nilV nilV 0 (widF x) nilV) 29)) g a l c G (sL4 l s x) w.heap.size W4'.heap.size (pcs (spcF x).1 nilV nilV 0 (widF x) nilV) :=
    ⟨R4.grown (World.grownBy_alloc _ _ none), gA.trans (World.grownBy_alloc _ _ (some g)), ((Blk.new w _ _).far (g1.trans ((g2.trans g3).trans g4)) (by omega)).alloc _, Blk.new _ _ _, hg0, Nat.le_refl _, hlt, fun y e hc => (h.ne y e hc).2⟩
  have hsz : (W4'.alloc (.cells (pcs (spcF x).1 nilV nilV 0 (widF x) nilV) 29)).heap.size = W4'.heap.size + 1 := by show (W4'.heap.push _).size = _; simp
  clear m0 R0 R1 R1' p1 R2 m2 R3 m3 R4 g1 g2 g3 g4 gA h hwd hspc hbl
  have i5 : Calls _ _ _ _ (WentB g a l c G _ (sL5 l s x)) := L0.R.id hb
  go_wp2_with fail
  refine i5.mono ?_
  rintro e W5 ⟨v5, rfl, o5, R5, g5⟩
  have hB5 : W4'.heap.size + 1 ≤ W5.heap.size := by rw [← hsz]; exact g5.size
  rw [hsz] at o5
  have L5 := L0.step R5 g5
  clear i5 R5 g5 L0
  have c1 := L5.bp.cell 1 nilV rfl
  have th := L5.bp.thaws
  have L6 : LR w (W5.setCell ⟨W4'.heap.size, 1, none⟩ v5) g a l c G (sL5 l s x).2 w.heap.size W4'.heap.size (pcs (spcF x).1 v5 nilV 0 (widF x) nilV) := L5.set 1 v5
  have o6 := o5.far (grown_at (World.grownBy.refl W5 (some W4'.heap.size)) 1 v5) (fun q e => by cases e; omega)
  have hB6 : W4'.heap.size + 1 ≤ (W5.setCell ⟨W4'.heap.size, 1, none⟩ v5).heap.size := by show _ ≤ (W5.heap.modify _ _).size; rw [Array.size_modify]; exact hB5
  have i6 : Calls _ _ _ _ (WentB g a l c G _ (sL6 l s x)) := L6.R.id hb
  have HL := hide L6; have HO := hide o6
  obtain ⟨a5, c5, rfl⟩ := o5.shape
  clear L5 L6 o5 o6
  generalize (sL5 l s x).1.length = n5 at *
  go_wp2_with fail
  refine i6.mono ?_
  rintro e W6 ⟨v6, rfl, o6, R6, g6⟩
  have hB7 : W4'.heap.size + 1 ≤ W6.heap.size := Nat.le_trans hB6 g6.size
  have o6 := o6.mono hB6
  have L6 := (unhide HL).step R6 g6
  have o5 := (unhide HO).far g6 (fun q e => by cases e; omega)
  clear i6 R6 g6 HL HO c1 th
  have c2 := L6.bp.cell 2 nilV rfl
  have th := L6.bp.thaws
  have L7 : LR w (W6.setCell ⟨W4'.heap.size, 2, none⟩ v6) g a l c G (sL6 l s x).2 w.heap.size W4'.heap.size (pcs (spcF x).1 (.slice a5 n5 c5) v6 0 (widF x) nilV) := L6.set 2 v6
  have o6 := o6.far (grown_at (World.grownBy.refl W6 (some W4'.heap.size)) 2 v6) (fun q e => by cases e; omega)
  have o5 := o5.far (grown_at (World.grownBy.refl W6 (some W4'.heap.size)) 2 v6) (fun q e => by cases e; omega)
  have hB8 : W4'.heap.size + 1 ≤ (W6.setCell ⟨W4'.heap.size, 2, none⟩ v6).heap.size := by show _ ≤ (W6.heap.modify _ _).size; rw [Array.size_modify]; exact hB7
  obtain ⟨a6, c6, rfl⟩ := o6.shape
  have zl := sized_lt l (sL6 l s x).2 hbs
  have HL := hide L7; have HO5 := hide o5; have HO6 := hide o6
  clear L6 o5 o6 hB5 hB6 hB7
  have hB7 := hB8
  clear hB8
  have h3 : Hid ((spcF x).1 = 0 ∨ (spcF x).1 = 1 ∨ (spcF x).1 = 2) := by rcases spcF_sp x with hsp | hsp <;> simp [hsp, Hid]
  rcases spcF_sp x with hsp | hsp
  · have hspb : ((spcF x).1 == 0) = true := by rw [hsp]; rfl
    have e7 : rPass l (rSized l (sL6 l s x).2).2 (rSized l (sL6 l s x).2).1 = sL7 l s x := by unfold sL7 sT; rw [if_pos hsp]
    clear hsp
    have z7 := (unhide HL).R.sized
    clear L7
    generalize (sL6 l s x).1.length = n6 at *
    go_wp2_with fail
    refine z7.mono ?_
    rintro e W7 ⟨rfl, R7, g7⟩
    have L7 := (unhide HL).step R7 g7
    have o5 := (unhide HO5).far g7 (fun q e => by cases e; omega)
    have o6 := (unhide HO6).far g7 (fun q e => by cases e; omega)
    have hB8 := Nat.le_trans hB7 g7.size
    clear z7 R7 g7 HL HO5 HO6 c2 th hB7
    have p7 := L7.R.pass (rSized l (sL6 l s x).2).1 zl
    rw [e7] at p7
    go_wp2_with fail
    refine p7.mono ?_
    rintro e W8 ⟨rfl, R8, g8⟩
    have L8 := L7.step R8 g8
    have o5 := o5.far g8 (fun q e => by cases e; omega)
    have o6 := o6.far g8 (fun q e => by cases e; omega)
    have hB9 := Nat.le_trans hB8 g8.size
    clear p7 R8 g8 L7 hB8 e7
    have z8 : Calls _ _ _ _ (Went g a l c G _ (sL8 l s x).2 (.int .u64 (sL8 l s x).1)) := L8.R.sized
    have zl8 : 0 ≤ (sL8 l s x).1 ∧ (sL8 l s x).1 < 18446744073709551616 := sized_lt l (sL7 l s x) hbs
    go_wp2_with fail
    refine z8.mono ?_
    rintro e W9 ⟨rfl, R9, g9⟩
    have L9 := L8.step R9 g9
    have o5 := o5.far g9 (fun q e => by cases e; omega)
    have o6 := o6.far g9 (fun q e => by cases e; omega)
    have hBa := Nat.le_trans hB9 g9.size
    clear z8 R9 g9 L8 hB9
    have m9 : Calls _ _ _ _ (Went g a l c G W9 (sL9 l s x) (.tuple #[])) := L9.R.must (decide (widF x ≤ (sL8 l s x).1)) 54
    have c4 := L9.bp.cell 4 (.int .i64 (widF x)) rfl
    go_wp2_with fail
    refine m9.mono ?_
    rintro e Wa ⟨rfl, Ra, ga⟩
    have La := L9.step Ra ga
    have o5 := o5.far ga (fun q e => by cases e; omega)
    have o6 := o6.far ga (fun q e => by cases e; omega)
    have hBb := Nat.le_trans hBa ga.size
    clear m9 Ra ga L9 hBa c4
    have na : Calls _ _ _ _ (Went g a l c G Wa (sLa l G s x).2 (.int .i64 (sLa l G s x).1)) := La.R.number hG (spcF x).1 (widF x) (unhide h3) hwi
    have c4 := La.bp.cell 4 (.int .i64 (widF x)) rfl
    go_wp2_with fail
    refine na.mono ?_
    rintro e Wb ⟨rfl, Rb, gb⟩
    have Lb := La.step Rb gb
    have o5 := o5.far gb (fun q e => by cases e; omega)
    have o6 := o6.far gb (fun q e => by cases e; omega)
    have hBc := Nat.le_trans hBb gb.size
    clear na Rb gb La hBb c4
    have c3 := Lb.bp.cell 3 (.int .i64 0) rfl
    have c4 := Lb.bp.cell 4 (.int .i64 (widF x)) rfl
    have th := Lb.bp.thaws
    have Lc : LR w (Wb.setCell ⟨W4'.heap.size, 3, none⟩ (.int .i64 (sLa l G s x).1)) g a l c G (sLa l G s x).2 w.heap.size W4'.heap.size (pcs (spcF x).1 (.slice a5 n5 c5) (.slice a6 n6 c6) (sLa l G s x).1 (widF x) nilV) := Lb.set 3 _
    have c4' := Lc.bp.cell 4 (.int .i64 (widF x)) rfl
    have o5 := o5.far (grown_at (World.grownBy.refl Wb (some W4'.heap.size)) 3 (.int .i64 (sLa l G s x).1)) (fun q e => by cases e; omega)
    have o6 := o6.far (grown_at (World.grownBy.refl Wb (some W4'.heap.size)) 3 (.int .i64 (sLa l G s x).1)) (fun q e => by cases e; omega)
    have hBd : W4'.heap.size + 1 ≤ (Wb.setCell ⟨W4'.heap.size, 3, none⟩ (.int .i64 (sLa l G s x).1)).heap.size := by show _ ≤ (Wb.heap.modify _ _).size; rw [Array.size_modify]; exact hBc
    have bd : Calls _ _ _ _ (WentB g a l c G _ (sLb l G s x)) := Lc.R.bytes hb (IntKind.u64.wrap ((sL8 l s x).1 - widF x)) (by rw [IntKind.wrap_u64]; omega)
    have HL := hide Lc; have HO5 := hide o5; have HO6 := hide o6
    clear Lb Lc o5 o6 hBc
    go_wp2_with fail
    refine bd.mono ?_
    rintro e Wd ⟨vd, rfl, od, Rd_, gd⟩
    have Ld := (unhide HL).step Rd_ gd
    have o5 := (unhide HO5).far gd (fun q e => by cases e; omega)
    have o6 := (unhide HO6).far gd (fun q e => by cases e; omega)
    have od := od.mono hBd
    clear bd Rd_ gd HL HO5 HO6 c3 c4 c4' th
    have d5 := Ld.bp.cell 5 nilV rfl
    have thd := Ld.bp.thaws
    have Le : LR w (Wd.setCell ⟨W4'.heap.size, 5, none⟩ vd) g a l c G (sLb l G s x).2 w.heap.size W4'.heap.size (pcs (spcF x).1 (.slice a5 n5 c5) (.slice a6 n6 c6) (sLa l G s x).1 (widF x) vd) := Ld.set 5 _
    have o5 := o5.far (grown_at (World.grownBy.refl Wd (some W4'.heap.size)) 5 vd) (fun q e => by cases e; omega)
    have o6 := o6.far (grown_at (World.grownBy.refl Wd (some W4'.heap.size)) 5 vd) (fun q e => by cases e; omega)
    have od := od.far (grown_at (World.grownBy.refl Wd (some W4'.heap.size)) 5 vd) (fun q e => by cases e; omega)
    have FIN := LR.fin (p := (longR l G s x).1) Le (Nat.lt_succ_self _) o5 o6 od
    have HF := hide FIN
    have k0 := Le.bp.cell 0 _ rfl
    have k1 := Le.bp.cell 1 _ rfl
    have k2 := Le.bp.cell 2 _ rfl
    have k3 := Le.bp.cell 3 _ rfl
    have k4 := Le.bp.cell 4 _ rfl
    have k5 := Le.bp.cell 5 _ rfl
    have q0 := Le.b4.cell 0 _ rfl
    have q1 := Le.b4.cell 1 _ rfl
    have q2 := Le.b4.cell 2 _ rfl
    have q3 := Le.b4.cell 3 _ rfl
    have q4 := Le.b4.cell 4 _ rfl
    have q5 := Le.b4.cell 5 _ rfl
    have thp := Le.bp.thaws
    have th4 := Le.b4.thaws
    obtain ⟨ad, cd, rfl⟩ := od.shape
    clear FIN Le Ld o5 o6 od
    go_wp2_with fail
    refine bodyPost_ret (results_cell_row rfl _ _ w.heap.size 29 _ (0, 0) _ rfl (unhide HF).1 Try.underlying29 rfl Try.sizeP) rfl ?_
    exact (unhide HF).2
  · have hspb : ((spcF x).1 == 0) = false := by rw [hsp]; rfl
    have e7 : (sL6 l s x).2 = sL7 l s x := by unfold sL7 sT; rw [if_neg (by rw [hsp]; decide)]
    clear hsp
    have L8 := unhide HL
    rw [e7] at L8
    have o5 := unhide HO5
    have o6 := unhide HO6
    have hB9 := hB7
    clear L7 HL HO5 HO6 hB7 e7
    generalize (sL6 l s x).1.length = n6 at *
    have z8 : Calls _ _ _ _ (Went g a l c G _ (sL8 l s x).2 (.int .u64 (sL8 l s x).1)) := L8.R.sized
    have zl8 : 0 ≤ (sL8 l s x).1 ∧ (sL8 l s x).1 < 18446744073709551616 := sized_lt l (sL7 l s x) hbs
    go_wp2_with fail
    refine z8.mono ?_
    rintro e W9 ⟨rfl, R9, g9⟩
    have L9 := L8.step R9 g9
    have o5 := o5.far g9 (fun q e => by cases e; omega)
    have o6 := o6.far g9 (fun q e => by cases e; omega)
    have hBa := Nat.le_trans hB9 g9.size
    clear z8 R9 g9 L8 hB9
    have m9 : Calls _ _ _ _ (Went g a l c G W9 (sL9 l s x) (.tuple #[])) := L9.R.must (decide (widF x ≤ (sL8 l s x).1)) 54
    have c4 := L9.bp.cell 4 (.int .i64 (widF x)) rfl
    go_wp2_with fail
    refine m9.mono ?_
    rintro e Wa ⟨rfl, Ra, ga⟩
    have La := L9.step Ra ga
    have o5 := o5.far ga (fun q e => by cases e; omega)
    have o6 := o6.far ga (fun q e => by cases e; omega)
    have hBb := Nat.le_trans hBa ga.size
    clear m9 Ra ga L9 hBa c4
    have na : Calls _ _ _ _ (Went g a l c G Wa (sLa l G s x).2 (.int .i64 (sLa l G s x).1)) := La.R.number hG (spcF x).1 (widF x) (unhide h3) hwi
    have c4 := La.bp.cell 4 (.int .i64 (widF x)) rfl
    go_wp2_with fail
    refine na.mono ?_
    rintro e Wb ⟨rfl, Rb, gb⟩
    have Lb := La.step Rb gb
    have o5 := o5.far gb (fun q e => by cases e; omega)
    have o6 := o6.far gb (fun q e => by cases e; omega)
    have hBc := Nat.le_trans hBb gb.size
    clear na Rb gb La hBb c4
    have c3 := Lb.bp.cell 3 (.int .i64 0) rfl
    have c4 := Lb.bp.cell 4 (.int .i64 (widF x)) rfl
    have th := Lb.bp.thaws
    have Lc : LR w (Wb.setCell ⟨W4'.heap.size, 3, none⟩ (.int .i64 (sLa l G s x).1)) g a l c G (sLa l G s x).2 w.heap.size W4'.heap.size (pcs (spcF x).1 (.slice a5 n5 c5) (.slice a6 n6 c6) (sLa l G s x).1 (widF x) nilV) := Lb.set 3 _
    have c4' := Lc.bp.cell 4 (.int .i64 (widF x)) rfl
    have o5 := o5.far (grown_at (World.grownBy.refl Wb (some W4'.heap.size)) 3 (.int .i64 (sLa l G s x).1)) (fun q e => by cases e; omega)
    have o6 := o6.far (grown_at (World.grownBy.refl Wb (some W4'.heap.size)) 3 (.int .i64 (sLa l G s x).1)) (fun q e => by cases e; omega)
    have hBd : W4'.heap.size + 1 ≤ (Wb.setCell ⟨W4'.heap.size, 3, none⟩ (.int .i64 (sLa l G s x).1)).heap.size := by show _ ≤ (Wb.heap.modify _ _).size; rw [Array.size_modify]; exact hBc
    have bd : Calls _ _ _ _ (WentB g a l c G _ (sLb l G s x)) := Lc.R.bytes hb (IntKind.u64.wrap ((sL8 l s x).1 - widF x)) (by rw [IntKind.wrap_u64]; omega)
    have HL := hide Lc; have HO5 := hide o5; have HO6 := hide o6
    clear Lb Lc o5 o6 hBc
    go_wp2_with fail
    refine bd.mono ?_
    rintro e Wd ⟨vd, rfl, od, Rd_, gd⟩
    have Ld := (unhide HL).step Rd_ gd
    have o5 := (unhide HO5).far gd (fun q e => by cases e; omega)
    have o6 := (unhide HO6).far gd (fun q e => by cases e; omega)
    have od := od.mono hBd
    clear bd Rd_ gd HL HO5 HO6 c3 c4 c4' th
    have d5 := Ld.bp.cell 5 nilV rfl
    have thd := Ld.bp.thaws
    have Le : LR w (Wd.setCell ⟨W4'.heap.size, 5, none⟩ vd) g a l c G (sLb l G s x).2 w.heap.size W4'.heap.size (pcs (spcF x).1 (.slice a5 n5 c5) (.slice a6 n6 c6) (sLa l G s x).1 (widF x) vd) := Ld.set 5 _
    have o5 := o5.far (grown_at (World.grownBy.refl Wd (some W4'.heap.size)) 5 vd) (fun q e => by cases e; omega)
    have o6 := o6.far (grown_at (World.grownBy.refl Wd (some W4'.heap.size)) 5 vd) (fun q e => by cases e; omega)
    have od := od.far (grown_at (World.grownBy.refl Wd (some W4'.heap.size)) 5 vd) (fun q e => by cases e; omega)
    have FIN := LR.fin (p := (longR l G s x).1) Le (Nat.lt_succ_self _) o5 o6 od
    have HF := hide FIN
    have k0 := Le.bp.cell 0 _ rfl
    have k1 := Le.bp.cell 1 _ rfl
    have k2 := Le.bp.cell 2 _ rfl
    have k3 := Le.bp.cell 3 _ rfl
    have k4 := Le.bp.cell 4 _ rfl
    have k5 := Le.bp.cell 5 _ rfl
    have q0 := Le.b4.cell 0 _ rfl
    have q1 := Le.b4.cell 1 _ rfl
    have q2 := Le.b4.cell 2 _ rfl
    have q3 := Le.b4.cell 3 _ rfl
    have q4 := Le.b4.cell 4 _ rfl
    have q5 := Le.b4.cell 5 _ rfl
    have thp := Le.bp.thaws
    have th4 := Le.b4.thaws
    obtain ⟨ad, cd, rfl⟩ := od.shape
    clear FIN Le Ld o5 o6 od
    go_wp2_with fail
    refine bodyPost_ret (results_cell_row rfl _ _ w.heap.size 29 _ (0, 0) _ rfl (unhide HF).1 Try.underlying29 rfl Try.sizeP) rfl ?_
    exact (unhide HF).2
end Go.Proofs.Ytpcnpdippnljpaa
