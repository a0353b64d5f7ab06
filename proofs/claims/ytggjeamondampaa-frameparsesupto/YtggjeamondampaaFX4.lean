/- tell. -/
import Derived.Test.YtggjeamondampaaFX3
import Derived.Test.YtggjeamondampaaFM
namespace Go.Proofs.Ytggjeamondampaa
open Go.RowKit
set_option linter.unusedVariables false
set_option maxRecDepth 100000
set_option maxHeartbeats 40000000

theorem wpList_make_run {ops : Array Oper} {rest : List Oper} {o : Oper} {a : Act} {Q : Exit → Act → World → Prop} (w : World) (hg : o.guard = none) (t : TypeId) (l c : Operand) (hop : o.op = Op.makeSlice t l c) (lv cv : Value)
    (hl : a.eval l = lv) (hc : a.eval c = cv) {v' : Value} {w' : World} (hr : (Instr.makeSlice t lv cv).run Try.prog w = .ok v' w') (hK : wpList Try.prog ops Q rest (a.put o.dst v') w') : wpList Try.prog ops Q (o :: rest) a w := by
  refine wpList_plain hg fun K hK' => ?_
  unfold Oper.wp
  simp [execOp, hop, hl, hc, hr, Result.andThen]
  exact hK' _ _ hK

theorem mk_ints (cap : Nat) (h : cap * 8 ≤ 281474976710656) (W : World) : ∃ cur : Array Value, (Instr.makeSlice 87 (.int .i64 0) (.int .i64 (cap : Int))).run Try.prog W = .ok (.slice (some ⟨W.heap.size, 0, none⟩) 0 cap) (W.alloc (.cells cur 2)) ∧ cur.size = cap := by
  obtain ⟨i, hi, hz, hs, hb⟩ := info_parts Try.infoE2
  have := run_make (P := Try.prog) W 87 2 i (.int .i64 0) Try.underlying87 hi hz .i64 .i64 0 cap (by omega) (by omega) (by rw [hb]; omega) (by omega)
  refine ⟨_, this, ?_⟩
  simp [madeCells, hs]
theorem ownI_make (W : World) (cap : Nat) (cur : Array Value) (hc : cur.size = cap) (hm : cap ≤ 9223372036854775807) : OwnI W.heap.size (W.alloc (.cells cur 2)) (.slice (some ⟨W.heap.size, 0, none⟩) 0 cap) [] :=
  ⟨rfl, .inr ⟨W.heap.size, cap, cur, rfl, Nat.le_refl _, heap_alloc_new W _, Nat.zero_le _, by unfold maxLen; omega, by omega, by simp⟩⟩
theorem OwnI.mono {base base' : Nat} {w : World} {v : Value} {T : List Int} (h : OwnI base w v T) (hb : base' ≤ base) : OwnI base' w v T := by
  refine ⟨h.1, h.2.imp id ?_⟩
  rintro ⟨g, c, cur, e1, q1, q2⟩
  exact ⟨g, c, cur, e1, Nat.le_trans hb q1, q2⟩
theorem runsN_pos {L : List (Int × Int)} (h : areF L = true) : (runsN L).length = 2 * L.length ∧ 0 < L.length := by
  have hg : ∀ (l : List (Int × Int)) (lo : Int), (gapsF lo l).length = 2 * l.length := fun l => by
    induction l with
    | nil => intro lo; rfl
    | cons s l ih => intro lo; simp only [gapsF, List.length_cons, ih]; omega
  cases L with
  | nil => simp [areF] at h
  | cons r l => simp only [runsN, List.length_cons, hg]; omega
theorem numsP_len2 (f : Fr) (q : Nat) : (numsP f q).length ≤ (if q = 9 then 2 * f.runs.length else if q = 10 then 3 else 1) := by
  have := runsN_len f.runs
  unfold numsP
  (repeat' split) <;> simp <;> omega
theorem Try.infoB : (Try.prog.info? 5).map (fun i => (i.zero, i.size, i.bytes)) = some (some (.int .u8 0), 1, 1) := by kernel_rfl
theorem mk_zeros (n : Nat) (h : n ≤ 281474976710656) (W : World) : ∃ cur : Array Value, (Instr.makeSlice 22 (.int .i64 (n : Int)) (.int .i64 (n : Int))).run Try.prog W = .ok (.slice (some ⟨W.heap.size, 0, none⟩) n n) (W.alloc (.cells cur 5)) ∧ Rd (W.alloc (.cells cur 5)) (some ⟨W.heap.size, 0, none⟩) (List.replicate n 0) := by
  obtain ⟨i, hi, hz, hs, hb⟩ := info_parts Try.infoB
  have := run_make (P := Try.prog) W 22 5 i (.int .u8 0) Try.underlying22 hi hz .i64 .i64 n n (by omega) (by omega) (by rw [hb]; omega) (by omega)
  rw [hs] at this
  refine ⟨_, this, fun x hx => ?_, fun _ => ⟨W.heap.size, 0, rfl, fun j hj => ?_⟩⟩
  · obtain ⟨-, rfl⟩ := List.mem_replicate.1 hx
    unfold IsB; omega
  · rw [Nat.zero_add]
    unfold World.cell?
    rw [heap_alloc_new]
    simp at hj
    have e : (Value.int IntKind.u8 0).cells = #[Value.int .u8 0] := rfl
    rw [e]
    simp [madeCells, hj, Nat.mod_one]

/-- What a part's bytes are. -/
structure TS (w : World) (s : Value) (rs : List Int) : Prop where
  ex : ∃ a c, s = .slice a rs.length c ∧ Rd w a rs ∧ rs.length ≤ c ∧ c ≤ 9223372036854775807
theorem Rd.grow {w W : World} {a : Option Addr} {l : List Int} (h : Rd w a l) (g : w.grownBy W none) : Rd W a l := ⟨h.1, fun hne => by
  obtain ⟨b, off, e, hc⟩ := h.2 hne
  exact ⟨b, off, e, fun i hi => cell_grown (hc i hi) g⟩⟩
theorem TS.keep {w W : World} {s : Value} {rs : List Int} (h : TS w s rs) (g : w.grownBy W none) : TS W s rs := by
  obtain ⟨a, c, e, hr, h1, h2⟩ := h.ex
  exact ⟨a, c, e, hr.grow g, h1, h2⟩

/-- What tell answers. -/
def TellPost (f : Fr) (w : World) (e : Ending) (w' : World) : Prop :=
  match tellF f with
  | .inr x => e = .returned (.tuple #[nilS, nilS, .int .i64 x]) ∧ w.grownBy w' none
  | .inl (n, rs) => ∃ v s, e = .returned (.tuple #[v, s, .int .i64 0]) ∧ OwnI w.heap.size w' v n ∧ TS w' s rs ∧ w.grownBy w' none

/-- What the loop of tell holds. -/
structure TI (w : World) (C : Array Value) (T rs : List Int) (v s : Value) (W : World) : Prop where
  own : OwnI w.heap.size W v T
  rest : TS W s rs
  blk : Blk W w.heap.size C 26
  gr : w.grownBy W none
theorem TI.keep {w W W' : World} {C : Array Value} {T rs : List Int} {v s : Value} (h : TI w C T rs v s W) (g : W.grownBy W' none) : TI w C T rs v s W' := ⟨h.own.keep g, h.rest.keep g, h.blk.grown g, h.gr.trans g⟩

/-- The parts that a type may have. -/
theorem shape_parts {k0 : Int} {bare : Fr} {l : Parts} (hs : shapeF k0 = some (bare, l)) : l = (14, 0, 0, 0) ∨ l = (0, 0, 0, 0) ∨ l = (8, 7, 9, 0) ∨ l = (8, 7, 9, 10) ∨ l = (1, 5, 6, 0) ∨ l = (1, 5, 0, 0) ∨ l = (2, 11, 0, 0) ∨ l = (1, 0, 11, 0) ∨ l = (1, 0, 12, 0) ∨ l = (1, 2, 11, 0) ∨ l = (1, 2, 12, 0) ∨ l = (3, 0, 0, 0) ∨ l = (1, 3, 0, 0) ∨ l = (4, 0, 0, 0) ∨ l = (13, 0, 0, 0) ∨ l = (5, 6, 11, 0) ∨ l = (5, 11, 0, 0) := by
  have dom := shape_dom hs
  have h' : k0 = 0 ∨ k0 = 1 ∨ k0 = 30 ∨ k0 = 2 ∨ k0 = 3 ∨ k0 = 4 ∨ k0 = 5 ∨ k0 = 6 ∨ k0 = 8 ∨ k0 = 9 ∨ k0 = 10 ∨ k0 = 11 ∨ k0 = 12 ∨ k0 = 13 ∨ k0 = 14 ∨ k0 = 15 ∨ k0 = 16 ∨ k0 = 20 ∨ k0 = 17 ∨ k0 = 21 ∨ k0 = 19 ∨ k0 = 23 ∨ k0 = 18 ∨ k0 = 22 ∨ k0 = 26 ∨ k0 = 27 ∨ k0 = 28 ∨ k0 = 29 := by omega
  clear dom
  rcases h' with rfl | rfl | rfl | rfl | rfl | rfl | rfl | rfl | rfl | rfl | rfl | rfl | rfl | rfl | rfl | rfl | rfl | rfl | rfl | rfl | rfl | rfl | rfl | rfl | rfl | rfl | rfl | rfl
  all_goals
    have e := congrArg (fun x => x.map Prod.snd) hs
    have e2 : _ = l := Option.some.inj e
    subst e2
    repeat (first | exact Or.inl rfl | exact rfl | apply Or.inr)
theorem nth_le {k0 : Int} {bare : Fr} {l : Parts} (hs : shapeF k0 = some (bare, l)) : ∀ k, nth l k ≤ 14 := by
  have h : l.1 ≤ 14 ∧ l.2.1 ≤ 14 ∧ l.2.2.1 ≤ 14 ∧ l.2.2.2 ≤ 14 := by
    rcases shape_parts hs with rfl | rfl | rfl | rfl | rfl | rfl | rfl | rfl | rfl | rfl | rfl | rfl | rfl | rfl | rfl | rfl | rfl <;> decide
  intro k
  unfold nth
  (repeat' split) <;> omega

theorem tell_any (f : Fr) (d r : Value) (w : World) (hF : FrIn w f d r) (hD : TS w d f.data) (hk : -9223372036854775808 ≤ f.kind ∧ f.kind ≤ 9223372036854775807) (hrl : f.runs.length * 16 ≤ 140737488351232) :
    Calls Try.prog 50 #[f.val d r] w (TellPost f w) := by
  have hkd := hide (fun W => isKind_any f.kind W)
  have hty := hide (fun W => typeOf_any f d r W hk)
  obtain ⟨C, hC⟩ : ∃ C, C = f.cs d r := ⟨_, rfl⟩
  have od : d.oneCell' = true := by obtain ⟨a, c, rfl, -⟩ := hF.data; rfl
  have or : r.oneCell' = true := by obtain ⟨a, c, rfl, -⟩ := hF.runs; rfl
  have C17 : C.size = 17 := by rw [hC]; rfl
  have C1 : C.all (·.oneCell') = true := by rw [hC]; exact one17 f d r od or
  have iC : (Try.prog.info? 26).map (·.size) = some C.size := by rw [C17]; exact Try.size26
  have e1 : f.val d r = .agg C := by rw [hC]
  rw [e1] at hty ⊢
  have c0 : C[0]? = some (.int .i64 f.kind) := by rw [hC]; rfl
  have B0 := Blk.new w C 26
  have g0 := World.grownBy_alloc w (.cells C 26) none
  have k0 := B0.cell 0 _ c0
  have HB := hide B0
  by_cases hkind : isKindF f.kind = true
  · obtain ⟨bare, l, hs⟩ := type_some hkind
    have hsh := hide (fun W => shape_yes (typeF f) bare l hs W)
    have hmay := hide (fun W (g : w.grownBy W none) => mayBe_any f bare d r l W (hF.keep g) (by intro k hk; exact nth_le hs k))
    have et : tellF f = if mayF f bare l then .inl (typeF f :: (numsP f l.1 ++ numsP f l.2.1 ++ numsP f l.2.2.1 ++ numsP f l.2.2.2), restF f l.1 f.data) else .inr 42 := by unfold tellF; rw [if_pos hkind, hs]
    rw [hkind] at hkd
    obtain ⟨Cb, hCb⟩ : ∃ Cb, Cb = bare.cs nilS nilS := ⟨_, rfl⟩
    have Cb17 : Cb.size = 17 := by rw [hCb]; rfl
    have Cb1 : Cb.all (·.oneCell') = true := by rw [hCb]; exact one17 bare nilS nilS rfl rfl
    have iCb : (Try.prog.info? 26).map (·.size) = some Cb.size := by rw [Cb17]; exact Try.size26
    have e2 : bare.val nilS nilS = .agg Cb := by rw [hCb]
    rw [e2] at hsh
    rw [e1, e2] at hmay
    obtain ⟨Cp, hCp⟩ : ∃ Cp, Cp = c4 l := ⟨_, rfl⟩
    have Cp4 : Cp.size = 4 := by rw [hCp]; rfl
    have Cp1 : Cp.all (·.oneCell') = true := by rw [hCp]; simp [Value.oneCell']
    have iCp : (Try.prog.info? 115).map (·.size) = some Cp.size := by rw [Cp4]; exact Try.size73
    have e3 : p4 l = .agg Cp := by rw [hCp]
    have hix := hide (fun k (hk : k < 4) W => ix4 l k hk W)
    rw [e3] at hsh hmay hix
    have H4 := hide Cp4
    clear Cp4 e3 hCp
    have HC := hide (And.intro C17 (And.intro Cb17 hC))
    have HE := hide et
    have HS := hide hs
    have HF := hide hF
    have HD := hide hD
    have ZB : Hid (∀ (X : World) (o p4' : Array Value), Blk ((X.alloc (.cells o 26)).alloc (.cells p4' 115)) X.heap.size o 26 ∧ Blk (((X.alloc (.cells o 26)).alloc (.cells p4' 115)).setRow X.heap.size Cb) (X.heap.size + 1) p4' 115 ∧ Blk ((((X.alloc (.cells o 26)).alloc (.cells p4' 115)).setRow X.heap.size Cb).setRow (X.heap.size + 1) Cp) X.heap.size Cb 26 ∧ Blk ((((X.alloc (.cells o 26)).alloc (.cells p4' 115)).setRow X.heap.size Cb).setRow (X.heap.size + 1) Cp) (X.heap.size + 1) Cp 115 ∧ X.grownBy ((((X.alloc (.cells o 26)).alloc (.cells p4' 115)).setRow X.heap.size Cb).setRow (X.heap.size + 1) Cp) none) := fun X o p4' => by
      obtain ⟨q1, q2, q3⟩ := Blk.two X o p4' 26 115
      refine ⟨q1, q2.rowO _ _ (by omega), (q1.row Cb).rowO _ _ (by omega), (q2.rowO _ Cb (by omega)).row _, grown_row (grown_row q3 _ _ (by omega)) _ _ (by omega)⟩
    clear hF hD et hkind C17 C1 e1 e2 hC hCb B0 hs Cb17
    go_enter Try.func50, Try.ntmps50
    go_upto_region 4 with (first | (go_at_call 61; refine (unhide hkd _).mono ?_; rintro e W1 ⟨rfl, g1⟩; have HB1 := hide ((unhide HB).grown g1)) | (refine wpList_load_row rfl _ _ rfl w.heap.size rfl 26 C (0, 0) _ (unhide HB1) Try.underlying26 rfl iC ?_) | (go_at_call 66; refine (unhide hty _).mono ?_; rintro e W2 ⟨rfl, g2⟩))
    have HB2 := hide (And.intro ((unhide HB1).grown g2) ((g0.trans g1).trans g2))
    clear HB HB1 hkd hty g0 g1 g2 k0
    go_upto_region 5 with (first | (go_at_call 67; refine (unhide hsh _).mono ?_; rintro e W3 ⟨rfl, g3⟩) | (refine wpList_store_row rfl _ _ _ rfl W3.heap.size Cb rfl rfl 26 _ (unhide ZB W3 _ _).1 iCb (by rw [(unhide HC).2.1]; rfl) Cb1 ?_) | (refine wpList_store_row rfl _ _ _ rfl (W3.heap.size + 1) Cp rfl rfl 115 _ (unhide ZB W3 _ _).2.1 iCp (by rw [unhide H4]; rfl) Cp1 ?_))
    have z := unhide ZB W3 #[.int .i64 0, .int .i64 0, .int .i64 0, .slice none 0 0, .int .i64 0, .bool false, .bool false, .int .i64 0, .bool false, .int .i64 0, .bool false, .int .i64 0, .slice none 0 0, .bool false, .int .i64 0, .int .i64 0, .int .i64 0] #[.int .i64 0, .int .i64 0, .int .i64 0, .int .i64 0]
    replace z := z.2.2
    have hb4 : w.heap.size < W3.heap.size := Nat.lt_of_lt_of_le (unhide HB2).1.lt g3.size
    generalize (((W3.alloc (.cells #[.int .i64 0, .int .i64 0, .int .i64 0, .slice none 0 0, .int .i64 0, .bool false, .bool false, .int .i64 0, .bool false, .int .i64 0, .bool false, .int .i64 0, .slice none 0 0, .bool false, .int .i64 0, .int .i64 0, .int .i64 0] 26)).alloc (.cells #[.int .i64 0, .int .i64 0, .int .i64 0, .int .i64 0] 115)).setRow W3.heap.size Cb).setRow (W3.heap.size + 1) Cp = W4 at z ⊢
    have HB4 := hide (And.intro (((unhide HB2).1.grown g3).grown z.2.2) (And.intro z.1 (And.intro z.2.1 (((unhide HB2).2.trans g3).trans z.2.2))))
    clear z ZB hsh
    generalize W3.heap.size = b3 at *
    clear HB2 g3 W3
    rw [mayW_mayF] at hmay
    by_cases hm : mayF f bare l = true
    · rw [if_pos hm] at HE
      rw [hm] at hmay
      go_upto_region 7 with (first | (refine wpList_load_row rfl _ _ rfl w.heap.size rfl 26 C (0, 0) _ (unhide HB4).1 Try.underlying26 rfl iC ?_) | (refine wpList_load_row rfl _ _ rfl b3 rfl 26 Cb (0, 0) _ (unhide HB4).2.1 Try.underlying26 rfl iCb ?_) | (refine wpList_load_row rfl _ _ rfl (b3 + 1) rfl 115 Cp (0, 0) _ (unhide HB4).2.2.1 Try.underlying115 rfl iCp ?_) | (go_at_call 68; refine (unhide hmay W4 (unhide HB4).2.2.2).mono ?_; rintro e W5 ⟨rfl, g5⟩))
      have hC := (unhide HC).2.2
      obtain ⟨a2, c2, er, hrr, lr1, lr2⟩ := (unhide HF).runs
      obtain ⟨a1, c1, ed, hrd, ld1, ld2⟩ := (unhide HD).ex
      obtain ⟨nr, hnr⟩ : ∃ n, n = f.runs.length := ⟨_, rfl⟩
      obtain ⟨nd, hnd⟩ : ∃ n, n = f.data.length := ⟨_, rfl⟩
      have HCL : Hid (∀ W, Blk W w.heap.size C 26 → (W.cell? ⟨w.heap.size, 3, none⟩ = some (.slice a1 nd c1) ∧ W.cell? ⟨w.heap.size, 12, none⟩ = some (.slice a2 nr c2)) ∧ (W.cell? ⟨w.heap.size, 1, none⟩ = some (.int .i64 f.stream) ∧ W.cell? ⟨w.heap.size, 2, none⟩ = some (.int .i64 f.offset) ∧ W.cell? ⟨w.heap.size, 4, none⟩ = some (.int .i64 f.size) ∧ W.cell? ⟨w.heap.size, 7, none⟩ = some (.int .i64 f.limit) ∧ W.cell? ⟨w.heap.size, 9, none⟩ = some (.int .i64 f.code) ∧ W.cell? ⟨w.heap.size, 11, none⟩ = some (.int .i64 f.delay)) ∧ (W.cell? ⟨w.heap.size, 14, none⟩ = some (.int .i64 f.c0) ∧ W.cell? ⟨w.heap.size, 15, none⟩ = some (.int .i64 f.c1) ∧ W.cell? ⟨w.heap.size, 16, none⟩ = some (.int .i64 f.c2))) := fun W h => by
        rw [hC, ed, er, ← hnr, ← hnd] at h
        obtain ⟨e0, e1, e2, e3, e4, e5, e6, e7, e8, e9, e10, e11, e12, e13, e14, e15, e16⟩ := h.cells
        exact ⟨⟨e3, e12⟩, ⟨e1, e2, e4, e7, e9, e11⟩, e14, e15, e16⟩
      have HB5 := hide (And.intro ((unhide HB4).1.grown g5) (And.intro ((unhide HB4).2.2.1.grown g5) ((unhide HB4).2.2.2.trans g5)))
      have cr := ((unhide HCL) W5 (unhide HB5).1).1.2
      have cd := ((unhide HCL) W5 (unhide HB5).1).1.1
      rw [← hnr] at hrl lr1
      have k1 : IntKind.i64.wrap (2 * (nr : Int)) = 2 * (nr : Int) := by rw [IntKind.wrap_i64]; omega
      have k2 : IntKind.i64.wrap (8 + 2 * (nr : Int)) = 8 + 2 * (nr : Int) := by rw [IntKind.wrap_i64]; omega
      obtain ⟨cur, hmk, hcur⟩ := mk_ints (8 + 2 * nr) (by omega) W5
      rw [show ((8 + 2 * nr : Nat) : Int) = 8 + 2 * (nr : Int) by omega] at hmk
      have gM := World.grownBy_alloc W5 (.cells cur 2) none
      obtain ⟨a3, c3, W7, hap, o7, g7, gr7⟩ := app_int1 (T := []) (typeF f) ((ownI_make W5 _ cur hcur (by omega)).mono (unhide HB5).2.2.size) ((unhide HB5).2.2.trans gM) (by simp)
      rw [show (W5.alloc (.cells cur 2)).heap.size = W5.heap.size + 1 by simp] at hap
      have hap' : ∀ ty, (Builtin.append_ #[87, 87] ty #[.slice (some ⟨W5.heap.size, 0, none⟩) 0 (8 + 2 * nr), .slice (some ⟨W5.heap.size + 1, 0, none⟩) 1 1]).run Try.prog ((W5.alloc (.cells cur 2)).alloc (.cells #[.int .i64 (typeF f)] 2)) = .ok (.slice a3 1 c3) W7 := hap
      have own7 : ∀ (k : Nat) (cs : Array Value) (t : TypeId), W5.heap[k]? = some (Obj.cells cs t (0, 0)) → W7.heap[k]? = some (Obj.cells cs t (0, 0)) := fun k cs t hk => by
        have lt := (Array.getElem?_eq_some_iff.1 hk).1
        refine (gr7.block k (by simp; omega) (fun e => by simp [Value.ownBlock] at e; omega)).trans ?_
        exact ((gM.trans (World.grownBy_alloc _ _ none)).block k lt (by simp)).trans hk
      have HB7 := hide (And.intro (show Blk W7 w.heap.size C 26 from own7 _ _ _ (unhide HB5).1) (show Blk W7 (b3 + 1) Cp 115 from own7 _ _ _ (unhide HB5).2.1))
      have cd7 := ((unhide HCL) W7 (unhide HB7).1).1.1
      have T0 : Hid (TI w C (typeF f :: numsTo f l 0) (restTo f l 0) (.slice a3 1 c3) (.slice a1 nd c1) W7) := ⟨o7, by have := (unhide HD).keep g7; rw [ed, ← hnd] at this; exact this, (unhide HB7).1, g7⟩
      have HTOT : Hid ((numsTo f l 4).length ≤ 8 + 2 * nr) := by
        rw [hnr]
        show (((([] ++ numsP f l.1) ++ numsP f l.2.1) ++ numsP f l.2.2.1) ++ numsP f l.2.2.2).length ≤ _
        have q1 := numsP_len2 f l.1; have q2 := numsP_len2 f l.2.1; have q3 := numsP_len2 f l.2.2.1; have q4 := numsP_len2 f l.2.2.2
        simp only [List.length_append, List.length_nil]
        rcases shape_parts (unhide HS) with e | e | e | e | e | e | e | e | e | e | e | e | e | e | e | e | e <;> (rw [e] at q1 q2 q3 q4 ⊢; simp at q1 q2 q3 q4 ⊢; omega)
      have HRR := hide hrr
      have HNR := hide hnr
      have HND := hide hnd
      have HD0 : Hid (TS w (.slice a1 nd c1) f.data) := by have := unhide HD; rw [ed, ← hnd] at this; exact this
      have HM := hide hm
      clear hrr hrd hcur hap own7 gr7 o7 g7 hm gM HB4 hmay g5 HB5 hnr hnd ed er hC HF HD
      go_wp2_with (first | (refine wpList_make_run _ rfl 87 (Operand.const (.int .i64 0)) (Operand.tmp 34) rfl (.int .i64 0) (.int .i64 (8 + 2 * (nr : Int))) rfl rfl hmk ?_) | (at_builtin; refine wpList_append_run _ rfl (Operand.tmp 35) (Operand.tmp 37) 87 87 rfl (.slice (some ⟨W5.heap.size, 0, none⟩) 0 (8 + 2 * nr)) (.slice (some ⟨W5.heap.size + 1, 0, none⟩) 1 1) rfl rfl (hap' 87) ?_) | (refine wpList_load_row rfl _ _ rfl (b3 + 1) rfl 115 Cp (0, 0) _ (unhide HB7).2 Try.underlying115 rfl iCp ?_))
      have P14 : Hid (∀ k, k < 4 → nth l k = 14 → l.1 = 14) := fun k hk h => by
        rcases shape_parts (unhide HS) with e | e | e | e | e | e | e | e | e | e | e | e | e | e | e | e | e <;> (rw [e] at h ⊢ <;> (revert h; rcases (by omega : k = 0 ∨ k = 1 ∨ k = 2 ∨ k = 3) with rfl | rfl | rfl | rfl <;> decide))
      have N14 : Hid (l.1 = 14 → ∀ k, k < 4 → nth l k = 14 ∨ nth l k = 0) := fun h k hk => by
        rcases shape_parts (unhide HS) with e | e | e | e | e | e | e | e | e | e | e | e | e | e | e | e | e <;> (rw [e] at h ⊢ <;> (revert h; rcases (by omega : k = 0 ∨ k = 1 ∨ k = 2 ∨ k = 3) with rfl | rfl | rfl | rfl <;> decide))
      have R14 : Hid (l.1 ≠ 14 → ∀ k, k ≤ 4 → restTo f l k = f.data) := fun h k hk => by
        induction k with
        | zero => rfl
        | succ k ih =>
          show (if nth l k = 14 then _ else _) = _
          rw [if_neg (fun e => h (unhide P14 k (by omega) e))]
          exact ih (by omega)
      have FF : Hid (∀ k, k < 4 → fitsF f (nth l k) = true) := fun k hk => by
        have := unhide HM
        unfold mayF at this
        simp only [Bool.and_eq_true] at this
        obtain ⟨⟨⟨⟨q1, q2⟩, q3⟩, q4⟩, -⟩ := this
        rcases (by omega : k = 0 ∨ k = 1 ∨ k = 2 ∨ k = 3) with rfl | rfl | rfl | rfl
        · exact q1
        · exact q2
        · exact q3
        · exact q4
      have F14 : Hid (∀ k, k < 4 → nth l k = 14 → 1 ≤ f.size ∧ f.size ≤ 65535) := fun k hk h => by
        have := unhide FF k hk
        rw [h] at this
        have e : fitsF f 14 = numb (f.size - 1) 65534 := rfl
        rw [e] at this
        unfold numb at this
        simp only [Bool.and_eq_true, decide_eq_true_eq] at this
        omega
      have F9 : Hid (∀ k, k < 4 → nth l k = 9 → areF f.runs = true) := fun k hk h => by
        have := unhide FF k hk
        rw [h] at this
        exact this
      have F8 : Hid (∀ k, k < 4 → nth l k = 8 → f.runs ≠ []) := fun k hk h => by
        have h2 : nth l 2 = 9 := by
          rcases shape_parts (unhide HS) with e | e | e | e | e | e | e | e | e | e | e | e | e | e | e | e | e <;> (rw [e] at h ⊢ <;> (revert h; rcases (by omega : k = 0 ∨ k = 1 ∨ k = 2 ∨ k = 3) with rfl | rfl | rfl | rfl <;> decide))
        exact (are_mem (unhide F9 2 (by omega) h2)).1
      have lr1' : f.runs.length ≤ c2 := by rw [← unhide HNR]; exact lr1
      clear FF
      go_loopw [9, 10, 42] (fun v s i wr => ∃ k : Nat, k ≤ 4 ∧ i = .int .i64 k ∧ Hid (TI w C (typeF f :: numsTo f l k) (restTo f l k) v s wr ∧ (l.1 ≠ 14 → s = .slice a1 nd c1))) (fun _ _ i _ => 4 - (intOf i).toNat)
      case atStart => exact ⟨0, by omega, rfl, unhide T0, fun _ => rfl⟩
      case round =>
      obtain ⟨k, hk4, rfl, H⟩ := hrel
      clear T0 HB7 cd7 hap' hmk cr cd
      by_cases hlt : k < 4
      · have kI : (k : Int) < 4 := by omega
        have CL := unhide HCL wr (unhide H).1.blk
        obtain ⟨va, vc, rfl, -, -, -⟩ := (unhide H).1.own.at
        obtain ⟨m, hmm⟩ : ∃ m, m = (typeF f :: numsTo f l k).length := ⟨_, rfl⟩
        rw [← hmm] at H ⊢
        have hmm2 : m = (numsTo f l k).length + 1 := by rw [hmm]; rfl
        have hq14 := nth_le (unhide HS) k
        obtain ⟨q, hq⟩ : ∃ q, q = nth l k := ⟨_, rfl⟩
        rw [← hq] at hq14
        rcases (by omega : q = 0 ∨ q = 1 ∨ q = 2 ∨ q = 3 ∨ q = 4 ∨ q = 5 ∨ q = 6 ∨ q = 7 ∨ q = 8 ∨ q = 9 ∨ q = 10 ∨ q = 11 ∨ q = 12 ∨ q = 13 ∨ q = 14) with rfl | rfl | rfl | rfl | rfl | rfl | rfl | rfl | rfl | rfl | rfl | rfl | rfl | rfl | rfl
        · -- part 0
          have ik : ∀ W, (Instr.index 115 (.agg Cp) (.int .i64 (k : Int))).run Try.prog W = .ok (.int .i64 0) W := fun W => by have := unhide hix k hlt W; rw [← hq] at this; exact this
          have eN : numsTo f l (k + 1) = numsTo f l k ++ numsP f 0 := by show numsTo f l k ++ numsP f (nth l k) = _; rw [← hq]
          have eR : restTo f l (k + 1) = restTo f l k := by show (if nth l k = 14 then _ else _) = _; rw [← hq]; rfl
          have E : Hid (TI w C (typeF f :: numsTo f l (k + 1)) (restTo f l (k + 1)) (.slice va m vc) u10 wr ∧ (l.1 ≠ 14 → u10 = .slice a1 nd c1)) := by rw [eN, eR, show numsP f 0 = [] from rfl, List.append_nil]; exact unhide H
          clear H eN eR hix hq CL hmm hmm2
          go_wp2_with fail
          exact ⟨⟨k + 1, by omega, by go_num, unhide E⟩, by simp [intOf]; omega⟩
        · -- part 1
          have ik : ∀ W, (Instr.index 115 (.agg Cp) (.int .i64 (k : Int))).run Try.prog W = .ok (.int .i64 1) W := fun W => by have := unhide hix k hlt W; rw [← hq] at this; exact this
          have eN : numsTo f l (k + 1) = numsTo f l k ++ numsP f 1 := by show numsTo f l k ++ numsP f (nth l k) = _; rw [← hq]
          have eR : restTo f l (k + 1) = restTo f l k := by show (if nth l k = 14 then _ else _) = _; rw [← hq]; rfl
          have hn14 : l.1 ≠ 14 := fun e => by have := unhide N14 e k hlt; rw [← hq] at this; omega
          have hu := (unhide H).2 hn14
          have eD : restTo f l k = f.data := unhide R14 hn14 k (by omega)
          have hlen : m ≤ 9 + 2 * nr - (numsP f 1).length := by
            have h1 := numsTo_mono f l (k + 1) 4 (by omega)
            rw [eN, List.length_append] at h1
            have := unhide HTOT
            omega
          obtain ⟨a4, c4', W', hap, o', g', gr'⟩ := app_int1 (f.stream) (unhide H).1.own (unhide H).1.gr (by rw [← hmm]; have e9 : (numsP f 1).length = 1 := rfl; omega)
          rw [← hmm] at hap o'
          have ko' := (KO.grown (World.grownBy_alloc wr (.cells #[.int .i64 (f.stream)] 2) none)).trans (((unhide H).1.own.keep (World.grownBy_alloc wr _ none)).ko gr')
          have E : Hid (TI w C (typeF f :: numsTo f l (k + 1)) (restTo f l (k + 1)) (.slice a4 (m + 1) c4') u10 W' ∧ (l.1 ≠ 14 → u10 = .slice a1 nd c1)) := by
            have eX : numsP f 1 = [f.stream] := rfl
            rw [eN, eR, eD, hu, eX]
            exact ⟨⟨o', (unhide HD0).keep g', ko' _ _ _ (by decide) (unhide H).1.blk, g'⟩, fun _ => rfl⟩
          have cf := CL.2.1.1
          have hfi : ∀ W, Calls Try.prog 70 #[.pointer (some ⟨w.heap.size, 0, none⟩), .int .i64 1] W fun e w' => e = .returned (.pointer (some ⟨w.heap.size, 1, none⟩)) ∧ w' = W := fun W => field_any _ 1 W (by omega)
          clear H eN eR hix hq hu eD hlen CL o' g' gr' ko' hmm hmm2
          go_wp2_with (first | (go_at_call 70; refine (hfi _).mono ?_; rintro e W1 ⟨rfl, hw⟩; replace hw := hw.symm; subst hw) | (at_builtin; refine wpList_append_run _ rfl (Operand.tmp 46) (Operand.tmp 51) 87 87 rfl (.slice va m vc) (.slice (some ⟨wr.heap.size, 0, none⟩) 1 1) rfl rfl (hap 87) ?_))
          exact ⟨⟨k + 1, by omega, by go_num, unhide E⟩, by simp [intOf]; omega⟩
        · -- part 2
          have ik : ∀ W, (Instr.index 115 (.agg Cp) (.int .i64 (k : Int))).run Try.prog W = .ok (.int .i64 2) W := fun W => by have := unhide hix k hlt W; rw [← hq] at this; exact this
          have eN : numsTo f l (k + 1) = numsTo f l k ++ numsP f 2 := by show numsTo f l k ++ numsP f (nth l k) = _; rw [← hq]
          have eR : restTo f l (k + 1) = restTo f l k := by show (if nth l k = 14 then _ else _) = _; rw [← hq]; rfl
          have hn14 : l.1 ≠ 14 := fun e => by have := unhide N14 e k hlt; rw [← hq] at this; omega
          have hu := (unhide H).2 hn14
          have eD : restTo f l k = f.data := unhide R14 hn14 k (by omega)
          have hlen : m ≤ 9 + 2 * nr - (numsP f 2).length := by
            have h1 := numsTo_mono f l (k + 1) 4 (by omega)
            rw [eN, List.length_append] at h1
            have := unhide HTOT
            omega
          obtain ⟨a4, c4', W', hap, o', g', gr'⟩ := app_int1 (f.offset) (unhide H).1.own (unhide H).1.gr (by rw [← hmm]; have e9 : (numsP f 2).length = 1 := rfl; omega)
          rw [← hmm] at hap o'
          have ko' := (KO.grown (World.grownBy_alloc wr (.cells #[.int .i64 (f.offset)] 2) none)).trans (((unhide H).1.own.keep (World.grownBy_alloc wr _ none)).ko gr')
          have E : Hid (TI w C (typeF f :: numsTo f l (k + 1)) (restTo f l (k + 1)) (.slice a4 (m + 1) c4') u10 W' ∧ (l.1 ≠ 14 → u10 = .slice a1 nd c1)) := by
            have eX : numsP f 2 = [f.offset] := rfl
            rw [eN, eR, eD, hu, eX]
            exact ⟨⟨o', (unhide HD0).keep g', ko' _ _ _ (by decide) (unhide H).1.blk, g'⟩, fun _ => rfl⟩
          have cf := CL.2.1.2.1
          have hfi : ∀ W, Calls Try.prog 70 #[.pointer (some ⟨w.heap.size, 0, none⟩), .int .i64 2] W fun e w' => e = .returned (.pointer (some ⟨w.heap.size, 2, none⟩)) ∧ w' = W := fun W => field_any _ 2 W (by omega)
          clear H eN eR hix hq hu eD hlen CL o' g' gr' ko' hmm hmm2
          go_wp2_with (first | (go_at_call 70; refine (hfi _).mono ?_; rintro e W1 ⟨rfl, hw⟩; replace hw := hw.symm; subst hw) | (at_builtin; refine wpList_append_run _ rfl (Operand.tmp 46) (Operand.tmp 51) 87 87 rfl (.slice va m vc) (.slice (some ⟨wr.heap.size, 0, none⟩) 1 1) rfl rfl (hap 87) ?_))
          exact ⟨⟨k + 1, by omega, by go_num, unhide E⟩, by simp [intOf]; omega⟩
        · -- part 3
          have ik : ∀ W, (Instr.index 115 (.agg Cp) (.int .i64 (k : Int))).run Try.prog W = .ok (.int .i64 3) W := fun W => by have := unhide hix k hlt W; rw [← hq] at this; exact this
          have eN : numsTo f l (k + 1) = numsTo f l k ++ numsP f 3 := by show numsTo f l k ++ numsP f (nth l k) = _; rw [← hq]
          have eR : restTo f l (k + 1) = restTo f l k := by show (if nth l k = 14 then _ else _) = _; rw [← hq]; rfl
          have hn14 : l.1 ≠ 14 := fun e => by have := unhide N14 e k hlt; rw [← hq] at this; omega
          have hu := (unhide H).2 hn14
          have eD : restTo f l k = f.data := unhide R14 hn14 k (by omega)
          have hlen : m ≤ 9 + 2 * nr - (numsP f 3).length := by
            have h1 := numsTo_mono f l (k + 1) 4 (by omega)
            rw [eN, List.length_append] at h1
            have := unhide HTOT
            omega
          obtain ⟨a4, c4', W', hap, o', g', gr'⟩ := app_int1 (f.limit) (unhide H).1.own (unhide H).1.gr (by rw [← hmm]; have e9 : (numsP f 3).length = 1 := rfl; omega)
          rw [← hmm] at hap o'
          have ko' := (KO.grown (World.grownBy_alloc wr (.cells #[.int .i64 (f.limit)] 2) none)).trans (((unhide H).1.own.keep (World.grownBy_alloc wr _ none)).ko gr')
          have E : Hid (TI w C (typeF f :: numsTo f l (k + 1)) (restTo f l (k + 1)) (.slice a4 (m + 1) c4') u10 W' ∧ (l.1 ≠ 14 → u10 = .slice a1 nd c1)) := by
            have eX : numsP f 3 = [f.limit] := rfl
            rw [eN, eR, eD, hu, eX]
            exact ⟨⟨o', (unhide HD0).keep g', ko' _ _ _ (by decide) (unhide H).1.blk, g'⟩, fun _ => rfl⟩
          have cf := CL.2.1.2.2.2.1
          have hfi : ∀ W, Calls Try.prog 70 #[.pointer (some ⟨w.heap.size, 0, none⟩), .int .i64 3] W fun e w' => e = .returned (.pointer (some ⟨w.heap.size, 7, none⟩)) ∧ w' = W := fun W => field_any _ 3 W (by omega)
          clear H eN eR hix hq hu eD hlen CL o' g' gr' ko' hmm hmm2
          go_wp2_with (first | (go_at_call 70; refine (hfi _).mono ?_; rintro e W1 ⟨rfl, hw⟩; replace hw := hw.symm; subst hw) | (at_builtin; refine wpList_append_run _ rfl (Operand.tmp 46) (Operand.tmp 51) 87 87 rfl (.slice va m vc) (.slice (some ⟨wr.heap.size, 0, none⟩) 1 1) rfl rfl (hap 87) ?_))
          exact ⟨⟨k + 1, by omega, by go_num, unhide E⟩, by simp [intOf]; omega⟩
        · -- part 4
          have ik : ∀ W, (Instr.index 115 (.agg Cp) (.int .i64 (k : Int))).run Try.prog W = .ok (.int .i64 4) W := fun W => by have := unhide hix k hlt W; rw [← hq] at this; exact this
          have eN : numsTo f l (k + 1) = numsTo f l k ++ numsP f 4 := by show numsTo f l k ++ numsP f (nth l k) = _; rw [← hq]
          have eR : restTo f l (k + 1) = restTo f l k := by show (if nth l k = 14 then _ else _) = _; rw [← hq]; rfl
          have hn14 : l.1 ≠ 14 := fun e => by have := unhide N14 e k hlt; rw [← hq] at this; omega
          have hu := (unhide H).2 hn14
          have eD : restTo f l k = f.data := unhide R14 hn14 k (by omega)
          have hlen : m ≤ 9 + 2 * nr - (numsP f 4).length := by
            have h1 := numsTo_mono f l (k + 1) 4 (by omega)
            rw [eN, List.length_append] at h1
            have := unhide HTOT
            omega
          obtain ⟨a4, c4', W', hap, o', g', gr'⟩ := app_int1 (f.limit) (unhide H).1.own (unhide H).1.gr (by rw [← hmm]; have e9 : (numsP f 4).length = 1 := rfl; omega)
          rw [← hmm] at hap o'
          have ko' := (KO.grown (World.grownBy_alloc wr (.cells #[.int .i64 (f.limit)] 2) none)).trans (((unhide H).1.own.keep (World.grownBy_alloc wr _ none)).ko gr')
          have E : Hid (TI w C (typeF f :: numsTo f l (k + 1)) (restTo f l (k + 1)) (.slice a4 (m + 1) c4') u10 W' ∧ (l.1 ≠ 14 → u10 = .slice a1 nd c1)) := by
            have eX : numsP f 4 = [f.limit] := rfl
            rw [eN, eR, eD, hu, eX]
            exact ⟨⟨o', (unhide HD0).keep g', ko' _ _ _ (by decide) (unhide H).1.blk, g'⟩, fun _ => rfl⟩
          have cf := CL.2.1.2.2.2.1
          have hfi : ∀ W, Calls Try.prog 70 #[.pointer (some ⟨w.heap.size, 0, none⟩), .int .i64 4] W fun e w' => e = .returned (.pointer (some ⟨w.heap.size, 7, none⟩)) ∧ w' = W := fun W => field_any _ 4 W (by omega)
          clear H eN eR hix hq hu eD hlen CL o' g' gr' ko' hmm hmm2
          go_wp2_with (first | (go_at_call 70; refine (hfi _).mono ?_; rintro e W1 ⟨rfl, hw⟩; replace hw := hw.symm; subst hw) | (at_builtin; refine wpList_append_run _ rfl (Operand.tmp 46) (Operand.tmp 51) 87 87 rfl (.slice va m vc) (.slice (some ⟨wr.heap.size, 0, none⟩) 1 1) rfl rfl (hap 87) ?_))
          exact ⟨⟨k + 1, by omega, by go_num, unhide E⟩, by simp [intOf]; omega⟩
        · -- part 5
          have ik : ∀ W, (Instr.index 115 (.agg Cp) (.int .i64 (k : Int))).run Try.prog W = .ok (.int .i64 5) W := fun W => by have := unhide hix k hlt W; rw [← hq] at this; exact this
          have eN : numsTo f l (k + 1) = numsTo f l k ++ numsP f 5 := by show numsTo f l k ++ numsP f (nth l k) = _; rw [← hq]
          have eR : restTo f l (k + 1) = restTo f l k := by show (if nth l k = 14 then _ else _) = _; rw [← hq]; rfl
          have hn14 : l.1 ≠ 14 := fun e => by have := unhide N14 e k hlt; rw [← hq] at this; omega
          have hu := (unhide H).2 hn14
          have eD : restTo f l k = f.data := unhide R14 hn14 k (by omega)
          have hlen : m ≤ 9 + 2 * nr - (numsP f 5).length := by
            have h1 := numsTo_mono f l (k + 1) 4 (by omega)
            rw [eN, List.length_append] at h1
            have := unhide HTOT
            omega
          obtain ⟨a4, c4', W', hap, o', g', gr'⟩ := app_int1 (f.code) (unhide H).1.own (unhide H).1.gr (by rw [← hmm]; have e9 : (numsP f 5).length = 1 := rfl; omega)
          rw [← hmm] at hap o'
          have ko' := (KO.grown (World.grownBy_alloc wr (.cells #[.int .i64 (f.code)] 2) none)).trans (((unhide H).1.own.keep (World.grownBy_alloc wr _ none)).ko gr')
          have E : Hid (TI w C (typeF f :: numsTo f l (k + 1)) (restTo f l (k + 1)) (.slice a4 (m + 1) c4') u10 W' ∧ (l.1 ≠ 14 → u10 = .slice a1 nd c1)) := by
            have eX : numsP f 5 = [f.code] := rfl
            rw [eN, eR, eD, hu, eX]
            exact ⟨⟨o', (unhide HD0).keep g', ko' _ _ _ (by decide) (unhide H).1.blk, g'⟩, fun _ => rfl⟩
          have cf := CL.2.1.2.2.2.2.1
          have hfi : ∀ W, Calls Try.prog 70 #[.pointer (some ⟨w.heap.size, 0, none⟩), .int .i64 5] W fun e w' => e = .returned (.pointer (some ⟨w.heap.size, 9, none⟩)) ∧ w' = W := fun W => field_any _ 5 W (by omega)
          clear H eN eR hix hq hu eD hlen CL o' g' gr' ko' hmm hmm2
          go_wp2_with (first | (go_at_call 70; refine (hfi _).mono ?_; rintro e W1 ⟨rfl, hw⟩; replace hw := hw.symm; subst hw) | (at_builtin; refine wpList_append_run _ rfl (Operand.tmp 46) (Operand.tmp 51) 87 87 rfl (.slice va m vc) (.slice (some ⟨wr.heap.size, 0, none⟩) 1 1) rfl rfl (hap 87) ?_))
          exact ⟨⟨k + 1, by omega, by go_num, unhide E⟩, by simp [intOf]; omega⟩
        · -- part 6
          have ik : ∀ W, (Instr.index 115 (.agg Cp) (.int .i64 (k : Int))).run Try.prog W = .ok (.int .i64 6) W := fun W => by have := unhide hix k hlt W; rw [← hq] at this; exact this
          have eN : numsTo f l (k + 1) = numsTo f l k ++ numsP f 6 := by show numsTo f l k ++ numsP f (nth l k) = _; rw [← hq]
          have eR : restTo f l (k + 1) = restTo f l k := by show (if nth l k = 14 then _ else _) = _; rw [← hq]; rfl
          have hn14 : l.1 ≠ 14 := fun e => by have := unhide N14 e k hlt; rw [← hq] at this; omega
          have hu := (unhide H).2 hn14
          have eD : restTo f l k = f.data := unhide R14 hn14 k (by omega)
          have hlen : m ≤ 9 + 2 * nr - (numsP f 6).length := by
            have h1 := numsTo_mono f l (k + 1) 4 (by omega)
            rw [eN, List.length_append] at h1
            have := unhide HTOT
            omega
          obtain ⟨a4, c4', W', hap, o', g', gr'⟩ := app_int1 (f.size) (unhide H).1.own (unhide H).1.gr (by rw [← hmm]; have e9 : (numsP f 6).length = 1 := rfl; omega)
          rw [← hmm] at hap o'
          have ko' := (KO.grown (World.grownBy_alloc wr (.cells #[.int .i64 (f.size)] 2) none)).trans (((unhide H).1.own.keep (World.grownBy_alloc wr _ none)).ko gr')
          have E : Hid (TI w C (typeF f :: numsTo f l (k + 1)) (restTo f l (k + 1)) (.slice a4 (m + 1) c4') u10 W' ∧ (l.1 ≠ 14 → u10 = .slice a1 nd c1)) := by
            have eX : numsP f 6 = [f.size] := rfl
            rw [eN, eR, eD, hu, eX]
            exact ⟨⟨o', (unhide HD0).keep g', ko' _ _ _ (by decide) (unhide H).1.blk, g'⟩, fun _ => rfl⟩
          have cf := CL.2.1.2.2.1
          have hfi : ∀ W, Calls Try.prog 70 #[.pointer (some ⟨w.heap.size, 0, none⟩), .int .i64 6] W fun e w' => e = .returned (.pointer (some ⟨w.heap.size, 4, none⟩)) ∧ w' = W := fun W => field_any _ 6 W (by omega)
          clear H eN eR hix hq hu eD hlen CL o' g' gr' ko' hmm hmm2
          go_wp2_with (first | (go_at_call 70; refine (hfi _).mono ?_; rintro e W1 ⟨rfl, hw⟩; replace hw := hw.symm; subst hw) | (at_builtin; refine wpList_append_run _ rfl (Operand.tmp 46) (Operand.tmp 51) 87 87 rfl (.slice va m vc) (.slice (some ⟨wr.heap.size, 0, none⟩) 1 1) rfl rfl (hap 87) ?_))
          exact ⟨⟨k + 1, by omega, by go_num, unhide E⟩, by simp [intOf]; omega⟩
        · -- part 7
          have ik : ∀ W, (Instr.index 115 (.agg Cp) (.int .i64 (k : Int))).run Try.prog W = .ok (.int .i64 7) W := fun W => by have := unhide hix k hlt W; rw [← hq] at this; exact this
          have eN : numsTo f l (k + 1) = numsTo f l k ++ numsP f 7 := by show numsTo f l k ++ numsP f (nth l k) = _; rw [← hq]
          have eR : restTo f l (k + 1) = restTo f l k := by show (if nth l k = 14 then _ else _) = _; rw [← hq]; rfl
          have hn14 : l.1 ≠ 14 := fun e => by have := unhide N14 e k hlt; rw [← hq] at this; omega
          have hu := (unhide H).2 hn14
          have eD : restTo f l k = f.data := unhide R14 hn14 k (by omega)
          have hlen : m ≤ 9 + 2 * nr - (numsP f 7).length := by
            have h1 := numsTo_mono f l (k + 1) 4 (by omega)
            rw [eN, List.length_append] at h1
            have := unhide HTOT
            omega
          obtain ⟨a4, c4', W', hap, o', g', gr'⟩ := app_int1 (f.delay) (unhide H).1.own (unhide H).1.gr (by rw [← hmm]; have e9 : (numsP f 7).length = 1 := rfl; omega)
          rw [← hmm] at hap o'
          have ko' := (KO.grown (World.grownBy_alloc wr (.cells #[.int .i64 (f.delay)] 2) none)).trans (((unhide H).1.own.keep (World.grownBy_alloc wr _ none)).ko gr')
          have E : Hid (TI w C (typeF f :: numsTo f l (k + 1)) (restTo f l (k + 1)) (.slice a4 (m + 1) c4') u10 W' ∧ (l.1 ≠ 14 → u10 = .slice a1 nd c1)) := by
            have eX : numsP f 7 = [f.delay] := rfl
            rw [eN, eR, eD, hu, eX]
            exact ⟨⟨o', (unhide HD0).keep g', ko' _ _ _ (by decide) (unhide H).1.blk, g'⟩, fun _ => rfl⟩
          have cf := CL.2.1.2.2.2.2.2
          have hfi : ∀ W, Calls Try.prog 70 #[.pointer (some ⟨w.heap.size, 0, none⟩), .int .i64 7] W fun e w' => e = .returned (.pointer (some ⟨w.heap.size, 11, none⟩)) ∧ w' = W := fun W => field_any _ 7 W (by omega)
          clear H eN eR hix hq hu eD hlen CL o' g' gr' ko' hmm hmm2
          go_wp2_with (first | (go_at_call 70; refine (hfi _).mono ?_; rintro e W1 ⟨rfl, hw⟩; replace hw := hw.symm; subst hw) | (at_builtin; refine wpList_append_run _ rfl (Operand.tmp 46) (Operand.tmp 51) 87 87 rfl (.slice va m vc) (.slice (some ⟨wr.heap.size, 0, none⟩) 1 1) rfl rfl (hap 87) ?_))
          exact ⟨⟨k + 1, by omega, by go_num, unhide E⟩, by simp [intOf]; omega⟩
        · -- part 8
          have ik : ∀ W, (Instr.index 115 (.agg Cp) (.int .i64 (k : Int))).run Try.prog W = .ok (.int .i64 8) W := fun W => by have := unhide hix k hlt W; rw [← hq] at this; exact this
          have eN : numsTo f l (k + 1) = numsTo f l k ++ numsP f 8 := by show numsTo f l k ++ numsP f (nth l k) = _; rw [← hq]
          have eR : restTo f l (k + 1) = restTo f l k := by show (if nth l k = 14 then _ else _) = _; rw [← hq]; rfl
          have hn14 : l.1 ≠ 14 := fun e => by have := unhide N14 e k hlt; rw [← hq] at this; omega
          have hu := (unhide H).2 hn14
          have eD : restTo f l k = f.data := unhide R14 hn14 k (by omega)
          have hlen : m ≤ 9 + 2 * nr - (numsP f 8).length := by
            have h1 := numsTo_mono f l (k + 1) 4 (by omega)
            rw [eN, List.length_append] at h1
            have := unhide HTOT
            omega
          obtain ⟨a4, c4', W', hap, o', g', gr'⟩ := app_int1 ((f.runs.headD (0, 0)).2) (unhide H).1.own (unhide H).1.gr (by rw [← hmm]; have e9 : (numsP f 8).length = 1 := rfl; omega)
          rw [← hmm] at hap o'
          have ko' := (KO.grown (World.grownBy_alloc wr (.cells #[.int .i64 ((f.runs.headD (0, 0)).2)] 2) none)).trans (((unhide H).1.own.keep (World.grownBy_alloc wr _ none)).ko gr')
          have E : Hid (TI w C (typeF f :: numsTo f l (k + 1)) (restTo f l (k + 1)) (.slice a4 (m + 1) c4') u10 W' ∧ (l.1 ≠ 14 → u10 = .slice a1 nd c1)) := by
            have eX : numsP f 8 = [(f.runs.headD (0, 0)).2] := rfl
            rw [eN, eR, eD, hu, eX]
            exact ⟨⟨o', (unhide HD0).keep g', ko' _ _ _ (by decide) (unhide H).1.blk, g'⟩, fun _ => rfl⟩
          have hne := unhide F8 k hlt hq.symm
          obtain ⟨b, off, rfl, hcs⟩ := unhide HRR hne
          have c8 : wr.cell? ⟨b, off + 1, none⟩ = some (.int .i64 (f.runs.headD (0, 0)).2) := by
            have hp : 0 < f.runs.length := List.length_pos_iff.2 hne
            have := cell_grown (hcs 0 hp).2 (unhide H).1.gr
            simp only [Nat.zero_mul, Nat.add_zero] at this
            rw [this]
            cases hr0 : f.runs with
            | nil => exact absurd hr0 hne
            | cons s t => rfl
          have cr8 := CL.1.2
          have n8 : (0 : Int) < (nr : Int) := by have : 0 < f.runs.length := List.length_pos_iff.2 hne; have := unhide HNR; omega
          generalize (f.runs.headD (0, 0)).2 = x8 at *
          clear hcs hne
          clear H eN eR hix hq hu eD hlen CL o' g' gr' ko' hmm hmm2
          go_wp2_with (first | (at_builtin; refine wpList_append_run _ rfl (Operand.tmp 65) (Operand.tmp 71) 87 87 rfl (.slice va m vc) (.slice (some ⟨wr.heap.size, 0, none⟩) 1 1) rfl rfl (hap 87) ?_))
          exact ⟨⟨k + 1, by omega, by go_num, unhide E⟩, by simp [intOf]; omega⟩
        · -- part 9
          have ik : ∀ W, (Instr.index 115 (.agg Cp) (.int .i64 (k : Int))).run Try.prog W = .ok (.int .i64 9) W := fun W => by have := unhide hix k hlt W; rw [← hq] at this; exact this
          have eN : numsTo f l (k + 1) = numsTo f l k ++ numsP f 9 := by show numsTo f l k ++ numsP f (nth l k) = _; rw [← hq]
          have eR : restTo f l (k + 1) = restTo f l k := by show (if nth l k = 14 then _ else _) = _; rw [← hq]; rfl
          have hn14 : l.1 ≠ 14 := fun e => by have := unhide N14 e k hlt; rw [← hq] at this; omega
          have hu := (unhide H).2 hn14
          have eD : restTo f l k = f.data := unhide R14 hn14 k (by omega)
          have hlen : m ≤ 9 + 2 * nr - (numsP f 9).length := by
            have h1 := numsTo_mono f l (k + 1) 4 (by omega)
            rw [eN, List.length_append] at h1
            have := unhide HTOT
            omega
          have hru := unhide F9 k hlt hq.symm
          have hca := appendRuns_any (w0 := w) (w := wr) (unhide H).1.own (unhide H).1.gr (unhide HRR) hru ⟨lr1', lr2⟩ (by rw [← hmm]; have := (runsN_len f.runs); have e9 : (numsP f 9) = runsN f.runs := rfl; rw [e9] at hlen; have := runsN_pos hru; omega)
          rw [← unhide HNR] at hca
          have FIN : Hid (∀ v' W', OwnI w.heap.size W' v' ((typeF f :: numsTo f l k) ++ runsN f.runs) → w.grownBy W' none → KO wr W' → TI w C (typeF f :: numsTo f l (k + 1)) (restTo f l (k + 1)) v' u10 W' ∧ (l.1 ≠ 14 → u10 = .slice a1 nd c1)) := fun v' W' o' g' ko' => by
            rw [eN, eR, eD, hu]
            exact ⟨⟨o', (unhide HD0).keep g', ko' _ _ _ (by decide) (unhide H).1.blk, g'⟩, fun _ => rfl⟩
          have HU := hide hu
          have cr9 := CL.1.2
          clear H eN eR hix hq hu eD hlen hru CL hmm hmm2
          go_wp2_with (go_at_call 69; refine hca.mono ?_; rintro e W' ⟨v', rfl, o', g', ko'⟩; obtain ⟨vb, vn, vd, rfl⟩ : ∃ a n c, v' = .slice a n c := (by obtain ⟨q1, q2, q3, -⟩ := o'.at; exact ⟨q1, _, q2, q3⟩))
          have E := hide (unhide FIN _ _ o' g' ko')
          clear FIN
          exact ⟨⟨k + 1, by omega, by go_num, unhide E⟩, by simp [intOf]; omega⟩
        · -- part 10
          have ik : ∀ W, (Instr.index 115 (.agg Cp) (.int .i64 (k : Int))).run Try.prog W = .ok (.int .i64 10) W := fun W => by have := unhide hix k hlt W; rw [← hq] at this; exact this
          have eN : numsTo f l (k + 1) = numsTo f l k ++ numsP f 10 := by show numsTo f l k ++ numsP f (nth l k) = _; rw [← hq]
          have eR : restTo f l (k + 1) = restTo f l k := by show (if nth l k = 14 then _ else _) = _; rw [← hq]; rfl
          have hn14 : l.1 ≠ 14 := fun e => by have := unhide N14 e k hlt; rw [← hq] at this; omega
          have hu := (unhide H).2 hn14
          have eD : restTo f l k = f.data := unhide R14 hn14 k (by omega)
          have hlen : m ≤ 9 + 2 * nr - (numsP f 10).length := by
            have h1 := numsTo_mono f l (k + 1) 4 (by omega)
            rw [eN, List.length_append] at h1
            have := unhide HTOT
            omega
          obtain ⟨a4, c4', W', hap, o', g', gr'⟩ := app_ints (xs := [f.c0, f.c1, f.c2]) ⟨w.heap.size, 14, none⟩ 3 3 (unhide H).1.own (unhide H).1.gr rfl (by omega) (fun j x hj => by
            match j, hj with
            | 0, hj => cases hj; exact CL.2.2.1
            | 1, hj => cases hj; exact CL.2.2.2.1
            | 2, hj => cases hj; exact CL.2.2.2.2) (by rw [← hmm]; have e9 : (numsP f 10).length = 3 := rfl; omega)
          rw [← hmm] at hap o'
          have ko' := (unhide H).1.own.ko gr'
          have E : Hid (TI w C (typeF f :: numsTo f l (k + 1)) (restTo f l (k + 1)) (.slice a4 (m + 3) c4') u10 W' ∧ (l.1 ≠ 14 → u10 = .slice a1 nd c1)) := by
            rw [eN, eR, eD, hu]
            exact ⟨⟨o', (unhide HD0).keep g', ko' _ _ _ (by decide) (unhide H).1.blk, g'⟩, fun _ => rfl⟩
          clear H eN eR hix hq hu eD hlen CL o' g' gr' ko' hmm hmm2
          go_wp2_with (at_builtin; refine wpList_append_run _ rfl (Operand.tmp 81) (Operand.tmp 83) 87 87 rfl (.slice va m vc) (.slice (some ⟨w.heap.size, 14, none⟩) 3 3) rfl rfl (hap 87) ?_)
          exact ⟨⟨k + 1, by omega, by go_num, unhide E⟩, by simp [intOf]; omega⟩
        · -- part 11
          have ik : ∀ W, (Instr.index 115 (.agg Cp) (.int .i64 (k : Int))).run Try.prog W = .ok (.int .i64 11) W := fun W => by have := unhide hix k hlt W; rw [← hq] at this; exact this
          have eN : numsTo f l (k + 1) = numsTo f l k ++ numsP f 11 := by show numsTo f l k ++ numsP f (nth l k) = _; rw [← hq]
          have eR : restTo f l (k + 1) = restTo f l k := by show (if nth l k = 14 then _ else _) = _; rw [← hq]; rfl
          have hn14 : l.1 ≠ 14 := fun e => by have := unhide N14 e k hlt; rw [← hq] at this; omega
          have hu := (unhide H).2 hn14
          have eD : restTo f l k = f.data := unhide R14 hn14 k (by omega)
          have hlen : m ≤ 9 + 2 * nr - (numsP f 11).length := by
            have h1 := numsTo_mono f l (k + 1) 4 (by omega)
            rw [eN, List.length_append] at h1
            have := unhide HTOT
            omega
          obtain ⟨a4, c4', W', hap, o', g', gr'⟩ := app_int1 (((nd : Nat) : Int)) (unhide H).1.own (unhide H).1.gr (by rw [← hmm]; have e9 : (numsP f 11).length = 1 := rfl; omega)
          rw [← hmm] at hap o'
          have ko' := (KO.grown (World.grownBy_alloc wr (.cells #[.int .i64 (((nd : Nat) : Int))] 2) none)).trans (((unhide H).1.own.keep (World.grownBy_alloc wr _ none)).ko gr')
          have E : Hid (TI w C (typeF f :: numsTo f l (k + 1)) (restTo f l (k + 1)) (.slice a4 (m + 1) c4') u10 W' ∧ (l.1 ≠ 14 → u10 = .slice a1 nd c1)) := by
            have eX : numsP f 11 = [((nd : Nat) : Int)] := by rw [unhide HND]; rfl
            rw [eN, eR, eD, hu, eX]
            exact ⟨⟨o', (unhide HD0).keep g', ko' _ _ _ (by decide) (unhide H).1.blk, g'⟩, fun _ => rfl⟩
          have cd11 := CL.1.1
          clear H eN eR hix hq hu eD hlen CL o' g' gr' ko' hmm hmm2
          go_wp2_with (first | (at_builtin; refine wpList_append_run _ rfl (Operand.tmp 87) (Operand.tmp 91) 87 87 rfl (.slice va m vc) (.slice (some ⟨wr.heap.size, 0, none⟩) 1 1) rfl rfl (hap 87) ?_))
          exact ⟨⟨k + 1, by omega, by go_num, unhide E⟩, by simp [intOf]; omega⟩
        · -- part 12
          have ik : ∀ W, (Instr.index 115 (.agg Cp) (.int .i64 (k : Int))).run Try.prog W = .ok (.int .i64 12) W := fun W => by have := unhide hix k hlt W; rw [← hq] at this; exact this
          have eN : numsTo f l (k + 1) = numsTo f l k ++ numsP f 12 := by show numsTo f l k ++ numsP f (nth l k) = _; rw [← hq]
          have eR : restTo f l (k + 1) = restTo f l k := by show (if nth l k = 14 then _ else _) = _; rw [← hq]; rfl
          have E : Hid (TI w C (typeF f :: numsTo f l (k + 1)) (restTo f l (k + 1)) (.slice va m vc) u10 wr ∧ (l.1 ≠ 14 → u10 = .slice a1 nd c1)) := by rw [eN, eR, show numsP f 12 = [] from rfl, List.append_nil]; exact unhide H
          clear H eN eR hix hq CL hmm hmm2
          go_wp2_with fail
          exact ⟨⟨k + 1, by omega, by go_num, unhide E⟩, by simp [intOf]; omega⟩
        · -- part 13
          have ik : ∀ W, (Instr.index 115 (.agg Cp) (.int .i64 (k : Int))).run Try.prog W = .ok (.int .i64 13) W := fun W => by have := unhide hix k hlt W; rw [← hq] at this; exact this
          have eN : numsTo f l (k + 1) = numsTo f l k ++ numsP f 13 := by show numsTo f l k ++ numsP f (nth l k) = _; rw [← hq]
          have eR : restTo f l (k + 1) = restTo f l k := by show (if nth l k = 14 then _ else _) = _; rw [← hq]; rfl
          have E : Hid (TI w C (typeF f :: numsTo f l (k + 1)) (restTo f l (k + 1)) (.slice va m vc) u10 wr ∧ (l.1 ≠ 14 → u10 = .slice a1 nd c1)) := by rw [eN, eR, show numsP f 13 = [] from rfl, List.append_nil]; exact unhide H
          clear H eN eR hix hq CL hmm hmm2
          go_wp2_with fail
          exact ⟨⟨k + 1, by omega, by go_num, unhide E⟩, by simp [intOf]; omega⟩
        · -- part 14
          have ik : ∀ W, (Instr.index 115 (.agg Cp) (.int .i64 (k : Int))).run Try.prog W = .ok (.int .i64 14) W := fun W => by have := unhide hix k hlt W; rw [← hq] at this; exact this
          have eN : numsTo f l (k + 1) = numsTo f l k ++ numsP f 14 := by show numsTo f l k ++ numsP f (nth l k) = _; rw [← hq]
          have hz := unhide F14 k hlt hq.symm
          obtain ⟨n, hn⟩ : ∃ n : Nat, f.size - 1 = (n : Int) := ⟨(f.size - 1).toNat, by omega⟩
          have wz : IntKind.i64.wrap (f.size - 1) = (n : Int) := by rw [IntKind.wrap_i64]; omega
          have wz2 : ¬ (n : Int) < 0 := by omega
          obtain ⟨cur, hmk, hrd⟩ := mk_zeros n (by omega) wr
          have eR : restTo f l (k + 1) = List.replicate n 0 := by show (if nth l k = 14 then _ else _) = _; rw [← hq, if_pos rfl, hn]; simp
          have gA := World.grownBy_alloc wr (.cells cur 5) none
          have E : Hid (TI w C (typeF f :: numsTo f l (k + 1)) (restTo f l (k + 1)) (.slice va m vc) (.slice (some ⟨wr.heap.size, 0, none⟩) n n) (wr.alloc (.cells cur 5)) ∧ (l.1 ≠ 14 → Value.slice (some ⟨wr.heap.size, 0, none⟩) n n = .slice a1 nd c1)) := by
            rw [eN, eR, show numsP f 14 = [] from rfl, List.append_nil]
            have h := (unhide H).1.keep gA
            exact ⟨⟨h.own, ⟨_, _, by rw [List.length_replicate], hrd, by simp, by omega⟩, h.blk, h.gr⟩, fun h14 => absurd (unhide P14 k hlt hq.symm) h14⟩
          have cs := CL.2.1.2.2.1
          clear H eN eR hix hz hn hrd gA hq CL hmm hmm2
          go_wp2_with (refine wpList_make_run _ rfl 22 (Operand.tmp 61) (Operand.tmp 61) rfl (.int .i64 (n : Int)) (.int .i64 (n : Int)) rfl rfl hmk ?_)
          exact ⟨⟨k + 1, by omega, by go_num, unhide E⟩, by simp [intOf]; omega⟩
      · obtain rfl : k = 4 := by omega
        have kI : ¬ ((4 : Nat) : Int) < 4 := by omega
        obtain ⟨va, vc, rfl, -, -, -⟩ := (unhide H).1.own.at
        obtain ⟨sa, sc, hsv, -⟩ := (unhide H).1.rest.ex
        have E4 : Hid (OwnI w.heap.size wr (.slice va (typeF f :: numsTo f l 4).length vc) (typeF f :: (numsP f l.1 ++ numsP f l.2.1 ++ numsP f l.2.2.1 ++ numsP f l.2.2.2)) ∧ TS wr u10 (restF f l.1 f.data) ∧ w.grownBy wr none) := by
          have h := (unhide H).1
          have e1 : restF f l.1 f.data = restTo f l 4 := by
            by_cases h14 : l.1 = 14
            · unfold restF; rw [if_pos h14]
              rcases shape_parts (unhide HS) with e | e | e | e | e | e | e | e | e | e | e | e | e | e | e | e | e <;> (rw [e] at h14 ⊢; first | rfl | (exact absurd h14 (by decide)))
            · unfold restF; rw [if_neg h14]; exact (unhide R14 h14 4 (by omega)).symm
          rw [e1]
          exact ⟨h.own, h.rest, h.gr⟩
        rw [hsv] at E4
        generalize (typeF f :: numsTo f l 4).length = m at *
        generalize (restTo f l 4).length = m2 at *
        clear H P14 N14 R14 F14 F9 F8 HCL
        subst hsv
        go_wp2_with fail
        go_ret3
        unfold TellPost
        rw [unhide HE]
        exact ⟨_, _, rfl, (unhide E4).1, (unhide E4).2.1, (unhide E4).2.2⟩
    · have hm2 : mayF f bare l = false := by simpa using hm
      rw [if_neg hm] at HE
      rw [hm2] at hmay
      clear hm hm2
      go_wp2_with (first | (refine wpList_load_row rfl _ _ rfl w.heap.size rfl 26 C (0, 0) _ (unhide HB4).1 Try.underlying26 rfl iC ?_) | (refine wpList_load_row rfl _ _ rfl b3 rfl 26 Cb (0, 0) _ (unhide HB4).2.1 Try.underlying26 rfl iCb ?_) | (refine wpList_load_row rfl _ _ rfl (b3 + 1) rfl 115 Cp (0, 0) _ (unhide HB4).2.2.1 Try.underlying115 rfl iCp ?_) | (go_at_call 68; refine (unhide hmay W4 (unhide HB4).2.2.2).mono ?_; rintro e W5 ⟨rfl, g5⟩))
      go_ret3
      unfold TellPost
      rw [unhide HE]
      exact ⟨rfl, (unhide HB4).2.2.2.trans g5⟩
  · have hk2 : isKindF f.kind = false := by simpa using hkind
    rw [hk2] at hkd
    have et : tellF f = .inr 41 := by unfold tellF; rw [if_neg hkind]
    have HE := hide et
    clear hF hD hty et hkind hk2 C17 C1 iC e1 hC B0
    go_enter Try.func50, Try.ntmps50
    go_wp2_with (first | (go_at_call 61; refine (unhide hkd _).mono ?_; rintro e W1 ⟨rfl, g1⟩))
    go_ret3
    unfold TellPost
    rw [unhide HE]
    exact ⟨rfl, g0.trans g1⟩
end Go.Proofs.Ytggjeamondampaa
